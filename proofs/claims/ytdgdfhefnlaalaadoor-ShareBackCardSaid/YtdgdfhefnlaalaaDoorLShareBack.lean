/- gleanlaw10.ShareBack returns true for all numbers. -/
import Derived.Test.YtdgdfhefnlaalaaDoorJcb
namespace Go.Proofs.YtdgdfhefnlaalaaDoor
namespace shareBack
open Go.RowKit Go.Lib Pg Lim Sh
attribute [local go_sem] Oper.semAt_some
theorem w64 {x : Int} (h : 0 ≤ x ∧ x < 1000000000000000000) : 0 ≤ x ∧ x < 18446744073709551616 := by omega
theorem u64r {v : Int} (b : (Lit.int .u64 v).wf = true) : 0 ≤ v ∧ v < 18446744073709551616 := by
  have := bounds_u64 b
  omega
theorem cut_full (n : Int) : n * min 10000 10000 / 10000 = n := Int.mul_ediv_cancel n (by decide)
theorem cut_none (n : Int) : n * min 0 10000 / 10000 = 0 := by
  rw [show min (0 : Int) 10000 = 0 from rfl, Int.mul_zero]; rfl
theorem bsx41_1 {a : Act} {o : Oper} {k0 : Nat} {a0 : Option Addr} {n0 c0 : Nat} (ho : o.op = .buildSlice 41 1 #[(0, .tmp k0)]) (h0 : a.eval (.tmp k0) = .agg #[.slice a0 n0 c0]) (w : World) : (execOp a.eval o).run Tryd.prog w = .ok (.value (.slice (some ⟨w.heap.size, 0, none⟩) 1 1)) (w.alloc (.cells [.slice a0 n0 c0].toArray 26)) := by
  have h0' : a.tmps[k0]?.getD undef = .agg #[.slice a0 n0 c0] := by simpa [Act.eval] using h0
  simp only [execOp, ho]
  go_simp
set_option maxHeartbeats 16000000 in
set_option maxRecDepth 100000 in
theorem walk (y0 : Int) (a1 : Option Addr) (len1 cap1 : Nat) (z1 : List Int) (y2 : Int) (w : World) (wy0 : (Lit.int .u64 y0).wf = true) (w1 : IsRow w a1 len1 cap1 z1) (wy2 : (Lit.int .u64 y2).wf = true) :
    Calls Tryd.prog 4 #[.int .u64 y0, .agg #[.slice a1 len1 cap1], .int .u64 y2] w fun e w' => e = .returned (.bool true) ∧ Below w.heap.size w w' := by
  obtain ⟨g1, o1, l1, hl1, hc1, hm1, W1, h1⟩ := w1.open
  have N1 : NatA w a1 len1 cap1 (val l1) := ⟨g1, o1, l1, hl1, hc1, W1, h1, rfl⟩
  clear h1 w1 W1 hl1
  generalize val l1 = x1 at *
  have hx1 := N1.nonneg
  have by0 := u64r wy0
  clear wy0
  have by2 := u64r wy2
  clear wy2
  have BB := Below.refl w.heap.size w
  go_enter Tryd.func4, Tryd.ntmps4
  refine wp_seq ?_
  refine wl_start ?_
  have bs0 := BB.size
  refine wl_box 4 1 26 [.slice a1 len1 cap1] rfl rfl rfl (by kernel_rfl) boxx26 ?_
  intro v1w g1v X4 hg1v B
  replace N1 := N1.keep B
  replace BB := joinB BB B
  clear B
  refine wl_take (some 6) (.bool false) rfl rfl (by kernel_rfl) ?_
  refine wl_nil ?_
  refine wp_then ?_
  refine wp_seq ?_
  refine wp_seq ?_
  refine wl_start ?_
  refine wl_call (some 15) 8 #[] rfl rfl (by kernel_rfl) (knownS) ?_
  rintro e1 v2w ⟨rfl, B⟩
  refine ⟨_, rfl, ?_⟩
  replace N1 := N1.keep B
  replace X4 := X4.keep B
  replace BB := joinB BB B
  clear B
  refine wl_take (some 16) (.bool false) rfl rfl (by kernel_rfl) ?_
  refine wl_nil ?_
  refine wp_then ?_
  refine wp_cond_false (by kernel_rfl) ?_
  refine wp_skip_then ?_
  refine wp_seq ?_
  refine wl_start ?_
  refine wl_take (some 17) (.int .u64 y0) rfl rfl (by kernel_rfl) ?_
  obtain ⟨T1, eT1⟩ : ∃ T, y0 % 1000000000000000000 = T := ⟨_, rfl⟩
  have rt1 : 0 ≤ T1 ∧ T1 < 1000000000000000000 := by omega
  refine wl_take (some 18) (.int .u64 T1) rfl rfl (eT1 ▸ run_rem (x := 17) (p := y0) (by kernel_rfl) (by kernel_rfl) by0) ?_
  refine wl_take (some 19) (.int .u64 y2) rfl rfl (by kernel_rfl) ?_
  obtain ⟨T2, eT2⟩ : ∃ T, y2 % 1000000000000000000 = T := ⟨_, rfl⟩
  have rt2 : 0 ≤ T2 ∧ T2 < 1000000000000000000 := by omega
  refine wl_take (some 20) (.int .u64 T2) rfl rfl (eT2 ▸ run_rem (x := 19) (p := y2) (by kernel_rfl) (by kernel_rfl) by2) ?_
  refine wl_take (some 0) (.int .u64 T1) rfl rfl (by kernel_rfl) ?_
  refine wl_take (some 2) (.int .u64 T2) rfl rfl (by kernel_rfl) ?_
  refine wl_nil ?_
  refine wp_then ?_
  refine wp_seq ?_
  refine wp_seq ?_
  refine wl_start ?_
  refine wl_take (some 21) (.agg #[.slice a1 len1 cap1]) rfl rfl (run_lp 4 (by kernel_rfl) (by kernel_rfl) (ldx26 (X4.cell (i := 0) rfl))) ?_
  refine wl_list 22 [.slice a1 len1 cap1] 26 rfl rfl (bsx41_1 (k0 := 21) (a0 := a1) (n0 := len1) (c0 := cap1) (by kernel_rfl) (by kernel_rfl)) ?_
  intro v3w g3v L3 hg3v B
  replace N1 := N1.keep B
  replace X4 := X4.keep B
  replace BB := joinB BB B
  clear B
  by_cases c3 : len1 ≤ 12
  · skip
    refine wl_call (some 23) 9 #[.slice (some ⟨g3v, 0, none⟩) 1 1] rfl rfl (by kernel_rfl) (small1 L3 hm1 true (decide_eq_true c3)) ?_
    rintro e1 v4w ⟨rfl, B⟩
    refine ⟨_, rfl, ?_⟩
    replace N1 := N1.keep B
    replace X4 := X4.keep B
    replace L3 := L3.keep B
    replace BB := joinB BB B
    clear B
    refine wl_take (some 24) (.bool false) rfl rfl (by kernel_rfl) ?_
    refine wl_nil ?_
    refine wp_then ?_
    refine wp_frame (a' := ⟨#[(.int .u64 T1), (.agg #[.slice a1 len1 cap1]), (.int .u64 T2), ud, (.pointer (some ⟨g1v, 0, none⟩)), ud, (.bool false), ud, ud, ud, ud, ud, ud, ud, ud, (.bool true), (.bool false), (.int .u64 y0), (.int .u64 T1), (.int .u64 y2), (.int .u64 T2), (.agg #[.slice a1 len1 cap1]), (.slice (some ⟨g3v, 0, none⟩) 1 1), (.bool true), (.bool false), ud, ud, ud, ud, ud, ud, ud, ud, ud, ud, ud, ud, ud, ud, ud, ud, ud, ud, ud, ud, ud, ud, ud, ud, ud, ud, ud, ud, ud, ud, ud, ud, ud, ud, ud, ud, ud, ud, ud, ud, ud, ud, ud, ud, ud, ud, ud, ud, ud, ud, ud, ud, ud, ud, ud, ud, ud, ud, ud, ud, ud, ud, ud, ud], []⟩) (by kernel_rfl) ?_
    refine wp_cond_false (by kernel_rfl) ?_
    refine wp_skip_then ?_
    refine wp_seq ?_
    refine wl_start ?_
    refine wl_take (some 26) (.int .u64 T1) rfl rfl (by kernel_rfl) ?_
    refine wl_take (some 27) (.agg #[.slice a1 len1 cap1]) rfl rfl (run_lp 4 (by kernel_rfl) (by kernel_rfl) (ldx26 (X4.cell (i := 0) rfl))) ?_
    refine wl_take (some 28) (.int .u64 T2) rfl rfl (by kernel_rfl) ?_
    refine wl_call (some 29) 16 #[.int .u64 T1, .agg #[.slice a1 len1 cap1], .int .u64 T2] rfl rfl (by kernel_rfl) (sNeed (w64 rt1) N1 (by omega) (w64 rt2)) ?_
    rintro e1 v5w ⟨Az4, Nz4, Cz4, rfl, Oz4, Kz4, B⟩
    refine ⟨_, rfl, ?_⟩
    replace N1 := N1.keep B
    replace X4 := X4.keep B
    replace L3 := L3.keep B
    replace BB := joinB BB B
    clear B
    refine wl_take (some 25) (.tuple #[.agg #[.slice Az4 Nz4 Cz4], .int .i64 (neE T1 T2)]) rfl rfl (by kernel_rfl) ?_
    refine wl_take (some 30) (.agg #[.slice Az4 Nz4 Cz4]) rfl rfl (by kernel_rfl) ?_
    refine wl_take (some 31) (.int .i64 (neE T1 T2)) rfl rfl (by kernel_rfl) ?_
    have bs5 := BB.size
    refine wl_new 7 30 26 [.slice none 0 0] [.slice Az4 Nz4 Cz4] rfl rfl rfl rfl rfl rfl allocx26 (fun _ => by kernel_rfl) (fun _ => by kernel_rfl) (by kernel_rfl) rfl (by kernel_rfl) ?_
    intro v6w g6v X7 hg6v B
    replace N1 := N1.keep B
    replace X4 := X4.keep B
    replace L3 := L3.keep B
    replace Oz4 := Oz4.keep B
    replace BB := joinB BB B
    clear B
    refine wl_take (some 8) (.int .i64 (neE T1 T2)) rfl rfl (by kernel_rfl) ?_
    refine wl_nil ?_
    refine wp_then ?_
    refine wp_seq ?_
    refine wp_seq ?_
    refine wl_start ?_
    refine wl_take (some 32) (.int .i64 (neE T1 T2)) rfl rfl (by kernel_rfl) ?_
    by_cases c5 : neE T1 T2 = 0
    · skip
      refine wl_eq (some 33) (.bool ((neE T1 T2 : Int) == 0)) (.bool true) (congrArg Value.bool (beq_iff_eq.2 c5)) rfl rfl (by kernel_rfl) ?_
      refine wl_take (some 34) (.bool true) rfl rfl (by kernel_rfl) ?_
      refine wg_take (some 35) (.agg #[.slice Az4 Nz4 Cz4]) (by kernel_rfl) rfl (run_lp 7 (by kernel_rfl) (by kernel_rfl) (ldx26 (X7.cell (i := 0) rfl))) ?_
      refine wg_take (some 36) (.agg #[.slice a1 len1 cap1]) (by kernel_rfl) rfl (run_lp 4 (by kernel_rfl) (by kernel_rfl) (ldx26 (X4.cell (i := 0) rfl))) ?_
      by_cases c6 : (neV T1 x1 T2) < x1
      · skip
        refine wg_call (some 37) 17 #[.agg #[.slice Az4 Nz4 Cz4], .agg #[.slice a1 len1 cap1]] (by kernel_rfl) rfl (by kernel_rfl) (cmpD Oz4.a N1 (by omega) (by omega) (-1) (sgn_lt c6)) ?_
        rintro e1 v7w ⟨rfl, B⟩
        refine ⟨_, rfl, ?_⟩
        replace N1 := N1.keep B
        replace X4 := X4.keep B
        replace L3 := L3.keep B
        replace Oz4 := Oz4.keep B
        replace X7 := X7.keep B
        replace BB := joinB BB B
        clear B
        refine wg_take (some 38) (.bool true) (by kernel_rfl) rfl (by kernel_rfl) ?_
        refine wl_take (some 39) (.bool true) rfl rfl (by kernel_rfl) ?_
        refine wl_nil ?_
        refine wp_then ?_
        refine wp_frame (a' := ⟨#[(.int .u64 T1), (.agg #[.slice a1 len1 cap1]), (.int .u64 T2), ud, (.pointer (some ⟨g1v, 0, none⟩)), ud, (.bool false), (.pointer (some ⟨g6v, 0, none⟩)), (.int .i64 (neE T1 T2)), ud, ud, ud, ud, ud, ud, (.bool true), (.bool false), (.int .u64 y0), (.int .u64 T1), (.int .u64 y2), (.int .u64 T2), (.agg #[.slice a1 len1 cap1]), (.slice (some ⟨g3v, 0, none⟩) 1 1), (.bool true), (.bool false), (.tuple #[.agg #[.slice Az4 Nz4 Cz4], .int .i64 (neE T1 T2)]), (.int .u64 T1), (.agg #[.slice a1 len1 cap1]), (.int .u64 T2), (.tuple #[.agg #[.slice Az4 Nz4 Cz4], .int .i64 (neE T1 T2)]), (.agg #[.slice Az4 Nz4 Cz4]), (.int .i64 (neE T1 T2)), (.int .i64 (neE T1 T2)), (.bool true), (.bool true), (.agg #[.slice Az4 Nz4 Cz4]), (.agg #[.slice a1 len1 cap1]), (.int .i64 (-1)), (.bool true), (.bool true), ud, ud, ud, ud, ud, ud, ud, ud, ud, ud, ud, ud, ud, ud, ud, ud, ud, ud, ud, ud, ud, ud, ud, ud, ud, ud, ud, ud, ud, ud, ud, ud, ud, ud, ud, ud, ud, ud, ud, ud, ud, ud, ud, ud, ud, ud, ud, ud, ud], []⟩) (by kernel_rfl) ?_
        refine wp_cond_true (by kernel_rfl) ?_
        refine wp_seq ?_
        refine wl_start ?_
        refine wl_take (some 41) (.int .u64 T1) rfl rfl (by kernel_rfl) ?_
        refine wl_take (some 42) (.agg #[.slice a1 len1 cap1]) rfl rfl (run_lp 4 (by kernel_rfl) (by kernel_rfl) (ldx26 (X4.cell (i := 0) rfl))) ?_
        refine wl_take (some 43) (.agg #[.slice Az4 Nz4 Cz4]) rfl rfl (run_lp 7 (by kernel_rfl) (by kernel_rfl) (ldx26 (X7.cell (i := 0) rfl))) ?_
        refine wl_call (some 44) 14 #[.int .u64 T1, .agg #[.slice a1 len1 cap1], .agg #[.slice Az4 Nz4 Cz4]] rfl rfl (by kernel_rfl) (sRedeem (w64 rt1) N1 (by omega) Oz4.a (by omega)) ?_
        rintro e1 v8w ⟨rfl, B⟩
        refine ⟨_, rfl, ?_⟩
        replace N1 := N1.keep B
        replace X4 := X4.keep B
        replace L3 := L3.keep B
        replace Oz4 := Oz4.keep B
        replace X7 := X7.keep B
        replace BB := joinB BB B
        clear B
        have rg7 := re_rng (S := x1) (w64 rt1) Oz4.a.nonneg
        have kf8 := re_facts (T := T1) (S := x1) (x := (neV T1 x1 T2)) (w64 rt1).1 Oz4.a.nonneg
        refine wl_take (some 40) (.tuple #[.int .u64 (reV T1 x1 (neV T1 x1 T2)), .int .i64 (reE x1 (neV T1 x1 T2))]) rfl rfl (by kernel_rfl) ?_
        refine wl_take (some 45) (.int .u64 (reV T1 x1 (neV T1 x1 T2))) rfl rfl (by kernel_rfl) ?_
        refine wl_take (some 46) (.int .i64 (reE x1 (neV T1 x1 T2))) rfl rfl (by kernel_rfl) ?_
        refine wl_take (some 9) (.int .u64 (reV T1 x1 (neV T1 x1 T2))) rfl rfl (by kernel_rfl) ?_
        refine wl_take (some 10) (.int .i64 (reE x1 (neV T1 x1 T2))) rfl rfl (by kernel_rfl) ?_
        refine wl_nil ?_
        refine wp_then ?_
        refine wp_seq ?_
        refine wl_start ?_
        refine wl_take (some 47) (.int .i64 (reE x1 (neV T1 x1 T2))) rfl rfl (by kernel_rfl) ?_
        by_cases c9 : reE x1 (neV T1 x1 T2) = 0
        · skip
          refine wl_eq (some 48) (.bool ((reE x1 (neV T1 x1 T2) : Int) != 0)) (.bool false) (congrArg Value.bool (bne_eq_false_iff_eq.2 c9)) rfl rfl (by kernel_rfl) ?_
          refine wl_take (some 49) (.bool false) rfl rfl (by kernel_rfl) ?_
          refine wg_take (some 50) (.int .u64 (reV T1 x1 (neV T1 x1 T2))) (by kernel_rfl) rfl (by kernel_rfl) ?_
          refine wg_take (some 51) (.int .u64 T2) (by kernel_rfl) rfl (by kernel_rfl) ?_
          by_cases c10 : reV T1 x1 (neV T1 x1 T2) < T2
          · skip
            refine wg_eq (some 52) (.bool (decide ((reV T1 x1 (neV T1 x1 T2) : Int) < T2))) (.bool true) (congrArg Value.bool (decide_eq_true c10)) (by kernel_rfl) rfl (by kernel_rfl) ?_
            refine wl_take (some 53) (.bool true) rfl rfl (by kernel_rfl) ?_
            refine wl_nil ?_
            refine wp_then ?_
            refine wp_frame (a' := ⟨#[(.int .u64 T1), (.agg #[.slice a1 len1 cap1]), (.int .u64 T2), ud, (.pointer (some ⟨g1v, 0, none⟩)), ud, (.bool false), (.pointer (some ⟨g6v, 0, none⟩)), (.int .i64 (neE T1 T2)), (.int .u64 (reV T1 x1 (neV T1 x1 T2))), (.int .i64 (reE x1 (neV T1 x1 T2))), ud, ud, ud, ud, (.bool true), (.bool false), (.int .u64 y0), (.int .u64 T1), (.int .u64 y2), (.int .u64 T2), (.agg #[.slice a1 len1 cap1]), (.slice (some ⟨g3v, 0, none⟩) 1 1), (.bool true), (.bool false), (.tuple #[.agg #[.slice Az4 Nz4 Cz4], .int .i64 (neE T1 T2)]), (.int .u64 T1), (.agg #[.slice a1 len1 cap1]), (.int .u64 T2), (.tuple #[.agg #[.slice Az4 Nz4 Cz4], .int .i64 (neE T1 T2)]), (.agg #[.slice Az4 Nz4 Cz4]), (.int .i64 (neE T1 T2)), (.int .i64 (neE T1 T2)), (.bool true), (.bool true), (.agg #[.slice Az4 Nz4 Cz4]), (.agg #[.slice a1 len1 cap1]), (.int .i64 (-1)), (.bool true), (.bool true), (.tuple #[.int .u64 (reV T1 x1 (neV T1 x1 T2)), .int .i64 (reE x1 (neV T1 x1 T2))]), (.int .u64 T1), (.agg #[.slice a1 len1 cap1]), (.agg #[.slice Az4 Nz4 Cz4]), (.tuple #[.int .u64 (reV T1 x1 (neV T1 x1 T2)), .int .i64 (reE x1 (neV T1 x1 T2))]), (.int .u64 (reV T1 x1 (neV T1 x1 T2))), (.int .i64 (reE x1 (neV T1 x1 T2))), (.int .i64 (reE x1 (neV T1 x1 T2))), (.bool false), (.bool false), (.int .u64 (reV T1 x1 (neV T1 x1 T2))), (.int .u64 T2), (.bool true), (.bool true), ud, ud, ud, ud, ud, ud, ud, ud, ud, ud, ud, ud, ud, ud, ud, ud, ud, ud, ud, ud, ud, ud, ud, ud, ud, ud, ud, ud, ud, ud, ud, ud, ud, ud, ud], []⟩) (by kernel_rfl) ?_
            refine wp_cond_true (by kernel_rfl) ?_
            refine wp_seq ?_
            refine wl_start ?_
            refine wl_take (some 6) (.bool false) rfl rfl (by kernel_rfl) ?_
            refine wl_nil ?_
            refine wp_then ?_
            exfalso
            have kn := back_need (t := T2) (w64 rt1).1 hx1
            clear BB
            omega
          · skip
            refine wg_eq (some 52) (.bool (decide ((reV T1 x1 (neV T1 x1 T2) : Int) < T2))) (.bool false) (congrArg Value.bool (decide_eq_false c10)) (by kernel_rfl) rfl (by kernel_rfl) ?_
            refine wl_take (some 53) (.bool false) rfl rfl (by kernel_rfl) ?_
            refine wl_nil ?_
            refine wp_then ?_
            refine wp_frame (a' := ⟨#[(.int .u64 T1), (.agg #[.slice a1 len1 cap1]), (.int .u64 T2), ud, (.pointer (some ⟨g1v, 0, none⟩)), ud, (.bool false), (.pointer (some ⟨g6v, 0, none⟩)), (.int .i64 (neE T1 T2)), (.int .u64 (reV T1 x1 (neV T1 x1 T2))), (.int .i64 (reE x1 (neV T1 x1 T2))), ud, ud, ud, ud, (.bool true), (.bool false), (.int .u64 y0), (.int .u64 T1), (.int .u64 y2), (.int .u64 T2), (.agg #[.slice a1 len1 cap1]), (.slice (some ⟨g3v, 0, none⟩) 1 1), (.bool true), (.bool false), (.tuple #[.agg #[.slice Az4 Nz4 Cz4], .int .i64 (neE T1 T2)]), (.int .u64 T1), (.agg #[.slice a1 len1 cap1]), (.int .u64 T2), (.tuple #[.agg #[.slice Az4 Nz4 Cz4], .int .i64 (neE T1 T2)]), (.agg #[.slice Az4 Nz4 Cz4]), (.int .i64 (neE T1 T2)), (.int .i64 (neE T1 T2)), (.bool true), (.bool true), (.agg #[.slice Az4 Nz4 Cz4]), (.agg #[.slice a1 len1 cap1]), (.int .i64 (-1)), (.bool true), (.bool true), (.tuple #[.int .u64 (reV T1 x1 (neV T1 x1 T2)), .int .i64 (reE x1 (neV T1 x1 T2))]), (.int .u64 T1), (.agg #[.slice a1 len1 cap1]), (.agg #[.slice Az4 Nz4 Cz4]), (.tuple #[.int .u64 (reV T1 x1 (neV T1 x1 T2)), .int .i64 (reE x1 (neV T1 x1 T2))]), (.int .u64 (reV T1 x1 (neV T1 x1 T2))), (.int .i64 (reE x1 (neV T1 x1 T2))), (.int .i64 (reE x1 (neV T1 x1 T2))), (.bool false), (.bool false), (.int .u64 (reV T1 x1 (neV T1 x1 T2))), (.int .u64 T2), (.bool false), (.bool false), ud, ud, ud, ud, ud, ud, ud, ud, ud, ud, ud, ud, ud, ud, ud, ud, ud, ud, ud, ud, ud, ud, ud, ud, ud, ud, ud, ud, ud, ud, ud, ud, ud, ud, ud], []⟩) (by kernel_rfl) ?_
            refine wp_cond_false (by kernel_rfl) ?_
            refine wp_skip_then ?_
            refine wp_seq ?_
            refine wl_start ?_
            refine wl_take (some 55) (.int .u64 T1) rfl rfl (by kernel_rfl) ?_
            refine wl_take (some 56) (.agg #[.slice a1 len1 cap1]) rfl rfl (run_lp 4 (by kernel_rfl) (by kernel_rfl) (ldx26 (X4.cell (i := 0) rfl))) ?_
            refine wl_take (some 57) (.int .u64 T2) rfl rfl (by kernel_rfl) ?_
            refine wl_call (some 58) 11 #[.int .u64 T1, .agg #[.slice a1 len1 cap1], .int .u64 T2] rfl rfl (by kernel_rfl) (sIssue (w64 rt1) N1 (by omega) (w64 rt2)) ?_
            rintro e1 v9w ⟨Az11, Nz11, Cz11, rfl, Oz11, Kz11, B⟩
            refine ⟨_, rfl, ?_⟩
            replace N1 := N1.keep B
            replace X4 := X4.keep B
            replace L3 := L3.keep B
            replace Oz4 := Oz4.keep B
            replace X7 := X7.keep B
            replace BB := joinB BB B
            clear B
            refine wl_take (some 54) (.tuple #[.agg #[.slice Az11 Nz11 Cz11], .int .i64 (isE T1 x1 T2)]) rfl rfl (by kernel_rfl) ?_
            refine wl_take (some 59) (.agg #[.slice Az11 Nz11 Cz11]) rfl rfl (by kernel_rfl) ?_
            refine wl_take (some 60) (.int .i64 (isE T1 x1 T2)) rfl rfl (by kernel_rfl) ?_
            have bs9 := BB.size
            refine wl_new 11 59 26 [.slice none 0 0] [.slice Az11 Nz11 Cz11] rfl rfl rfl rfl rfl rfl allocx26 (fun _ => by kernel_rfl) (fun _ => by kernel_rfl) (by kernel_rfl) rfl (by kernel_rfl) ?_
            intro v10w g10v X11 hg10v B
            replace N1 := N1.keep B
            replace X4 := X4.keep B
            replace L3 := L3.keep B
            replace Oz4 := Oz4.keep B
            replace X7 := X7.keep B
            replace Oz11 := Oz11.keep B
            replace BB := joinB BB B
            clear B
            refine wl_take (some 12) (.int .i64 (isE T1 x1 T2)) rfl rfl (by kernel_rfl) ?_
            refine wl_nil ?_
            refine wp_then ?_
            refine wp_seq ?_
            refine wp_seq ?_
            refine wl_start ?_
            refine wl_take (some 61) (.int .i64 (isE T1 x1 T2)) rfl rfl (by kernel_rfl) ?_
            by_cases c12 : isE T1 x1 T2 = 0
            · skip
              refine wl_eq (some 62) (.bool ((isE T1 x1 T2 : Int) != 0)) (.bool false) (congrArg Value.bool (bne_eq_false_iff_eq.2 c12)) rfl rfl (by kernel_rfl) ?_
              refine wl_take (some 63) (.bool false) rfl rfl (by kernel_rfl) ?_
              refine wg_take (some 64) (.agg #[.slice a1 len1 cap1]) (by kernel_rfl) rfl (run_lp 4 (by kernel_rfl) (by kernel_rfl) (ldx26 (X4.cell (i := 0) rfl))) ?_
              by_cases c13 : x1 = 0
              · skip
                refine wg_call (some 65) 10 #[.agg #[.slice a1 len1 cap1]] (by kernel_rfl) rfl (by kernel_rfl) (zeroD N1 (by omega) true (decide_eq_true c13)) ?_
                rintro e1 v11w ⟨rfl, B⟩
                refine ⟨_, rfl, ?_⟩
                replace N1 := N1.keep B
                replace X4 := X4.keep B
                replace L3 := L3.keep B
                replace Oz4 := Oz4.keep B
                replace X7 := X7.keep B
                replace Oz11 := Oz11.keep B
                replace X11 := X11.keep B
                replace BB := joinB BB B
                clear B
                refine wg_take (some 66) (.bool true) (by kernel_rfl) rfl (by kernel_rfl) ?_
                refine wg_take (some 67) (.int .u64 T1) (by kernel_rfl) rfl (by kernel_rfl) ?_
                by_cases c14 : 0 < T1
                · skip
                  refine wg_eq (some 68) (.bool (decide ((0 : Int) < T1))) (.bool true) (congrArg Value.bool (decide_eq_true c14)) (by kernel_rfl) rfl (by kernel_rfl) ?_
                  refine wg_take (some 69) (.bool true) (by kernel_rfl) rfl (by kernel_rfl) ?_
                  refine wl_take (some 70) (.bool true) rfl rfl (by kernel_rfl) ?_
                  refine wl_nil ?_
                  refine wp_then ?_
                  refine wp_frame (a' := ⟨#[(.int .u64 T1), (.agg #[.slice a1 len1 cap1]), (.int .u64 T2), ud, (.pointer (some ⟨g1v, 0, none⟩)), ud, (.bool false), (.pointer (some ⟨g6v, 0, none⟩)), (.int .i64 (neE T1 T2)), (.int .u64 (reV T1 x1 (neV T1 x1 T2))), (.int .i64 (reE x1 (neV T1 x1 T2))), (.pointer (some ⟨g10v, 0, none⟩)), (.int .i64 (isE T1 x1 T2)), ud, ud, (.bool true), (.bool false), (.int .u64 y0), (.int .u64 T1), (.int .u64 y2), (.int .u64 T2), (.agg #[.slice a1 len1 cap1]), (.slice (some ⟨g3v, 0, none⟩) 1 1), (.bool true), (.bool false), (.tuple #[.agg #[.slice Az4 Nz4 Cz4], .int .i64 (neE T1 T2)]), (.int .u64 T1), (.agg #[.slice a1 len1 cap1]), (.int .u64 T2), (.tuple #[.agg #[.slice Az4 Nz4 Cz4], .int .i64 (neE T1 T2)]), (.agg #[.slice Az4 Nz4 Cz4]), (.int .i64 (neE T1 T2)), (.int .i64 (neE T1 T2)), (.bool true), (.bool true), (.agg #[.slice Az4 Nz4 Cz4]), (.agg #[.slice a1 len1 cap1]), (.int .i64 (-1)), (.bool true), (.bool true), (.tuple #[.int .u64 (reV T1 x1 (neV T1 x1 T2)), .int .i64 (reE x1 (neV T1 x1 T2))]), (.int .u64 T1), (.agg #[.slice a1 len1 cap1]), (.agg #[.slice Az4 Nz4 Cz4]), (.tuple #[.int .u64 (reV T1 x1 (neV T1 x1 T2)), .int .i64 (reE x1 (neV T1 x1 T2))]), (.int .u64 (reV T1 x1 (neV T1 x1 T2))), (.int .i64 (reE x1 (neV T1 x1 T2))), (.int .i64 (reE x1 (neV T1 x1 T2))), (.bool false), (.bool false), (.int .u64 (reV T1 x1 (neV T1 x1 T2))), (.int .u64 T2), (.bool false), (.bool false), (.tuple #[.agg #[.slice Az11 Nz11 Cz11], .int .i64 (isE T1 x1 T2)]), (.int .u64 T1), (.agg #[.slice a1 len1 cap1]), (.int .u64 T2), (.tuple #[.agg #[.slice Az11 Nz11 Cz11], .int .i64 (isE T1 x1 T2)]), (.agg #[.slice Az11 Nz11 Cz11]), (.int .i64 (isE T1 x1 T2)), (.int .i64 (isE T1 x1 T2)), (.bool false), (.bool false), (.agg #[.slice a1 len1 cap1]), (.bool true), (.bool true), (.int .u64 T1), (.bool true), (.bool true), (.bool true), ud, ud, ud, ud, ud, ud, ud, ud, ud, ud, ud, ud, ud, ud, ud, ud, ud, ud], []⟩) (by kernel_rfl) ?_
                  refine wp_cond_true (by kernel_rfl) ?_
                  refine wp_seq ?_
                  refine wl_start ?_
                  refine wl_take (some 6) (.bool true) rfl rfl (by kernel_rfl) ?_
                  refine wl_nil ?_
                  refine wp_then ?_
                  refine wp_ret ?_
                  repeat (first | refine ret_then ?_ | refine ret_block ?_)
                  refine bodyPost_ret (results_tmp rfl _ _ _) rfl ?_
                  exact ⟨by kernel_rfl, BB⟩
                · skip
                  refine wg_eq (some 68) (.bool (decide ((0 : Int) < T1))) (.bool false) (congrArg Value.bool (decide_eq_false c14)) (by kernel_rfl) rfl (by kernel_rfl) ?_
                  refine wg_take (some 69) (.bool false) (by kernel_rfl) rfl (by kernel_rfl) ?_
                  refine wl_take (some 70) (.bool false) rfl rfl (by kernel_rfl) ?_
                  refine wl_nil ?_
                  refine wp_then ?_
                  refine wp_frame (a' := ⟨#[(.int .u64 T1), (.agg #[.slice a1 len1 cap1]), (.int .u64 T2), ud, (.pointer (some ⟨g1v, 0, none⟩)), ud, (.bool false), (.pointer (some ⟨g6v, 0, none⟩)), (.int .i64 (neE T1 T2)), (.int .u64 (reV T1 x1 (neV T1 x1 T2))), (.int .i64 (reE x1 (neV T1 x1 T2))), (.pointer (some ⟨g10v, 0, none⟩)), (.int .i64 (isE T1 x1 T2)), ud, ud, (.bool true), (.bool false), (.int .u64 y0), (.int .u64 T1), (.int .u64 y2), (.int .u64 T2), (.agg #[.slice a1 len1 cap1]), (.slice (some ⟨g3v, 0, none⟩) 1 1), (.bool true), (.bool false), (.tuple #[.agg #[.slice Az4 Nz4 Cz4], .int .i64 (neE T1 T2)]), (.int .u64 T1), (.agg #[.slice a1 len1 cap1]), (.int .u64 T2), (.tuple #[.agg #[.slice Az4 Nz4 Cz4], .int .i64 (neE T1 T2)]), (.agg #[.slice Az4 Nz4 Cz4]), (.int .i64 (neE T1 T2)), (.int .i64 (neE T1 T2)), (.bool true), (.bool true), (.agg #[.slice Az4 Nz4 Cz4]), (.agg #[.slice a1 len1 cap1]), (.int .i64 (-1)), (.bool true), (.bool true), (.tuple #[.int .u64 (reV T1 x1 (neV T1 x1 T2)), .int .i64 (reE x1 (neV T1 x1 T2))]), (.int .u64 T1), (.agg #[.slice a1 len1 cap1]), (.agg #[.slice Az4 Nz4 Cz4]), (.tuple #[.int .u64 (reV T1 x1 (neV T1 x1 T2)), .int .i64 (reE x1 (neV T1 x1 T2))]), (.int .u64 (reV T1 x1 (neV T1 x1 T2))), (.int .i64 (reE x1 (neV T1 x1 T2))), (.int .i64 (reE x1 (neV T1 x1 T2))), (.bool false), (.bool false), (.int .u64 (reV T1 x1 (neV T1 x1 T2))), (.int .u64 T2), (.bool false), (.bool false), (.tuple #[.agg #[.slice Az11 Nz11 Cz11], .int .i64 (isE T1 x1 T2)]), (.int .u64 T1), (.agg #[.slice a1 len1 cap1]), (.int .u64 T2), (.tuple #[.agg #[.slice Az11 Nz11 Cz11], .int .i64 (isE T1 x1 T2)]), (.agg #[.slice Az11 Nz11 Cz11]), (.int .i64 (isE T1 x1 T2)), (.int .i64 (isE T1 x1 T2)), (.bool false), (.bool false), (.agg #[.slice a1 len1 cap1]), (.bool true), (.bool true), (.int .u64 T1), (.bool false), (.bool false), (.bool false), ud, ud, ud, ud, ud, ud, ud, ud, ud, ud, ud, ud, ud, ud, ud, ud, ud, ud], []⟩) (by kernel_rfl) ?_
                  refine wp_cond_false (by kernel_rfl) ?_
                  refine wp_skip_then ?_
                  refine wp_seq ?_
                  refine rg_start (S := fun w' => Below v11w.drew.heap.size v11w.drew w') (by kernel_rfl) (Below.refl _ _) ?_
                  replace N1 := N1.drew
                  replace X4 := X4.drew
                  replace L3 := L3.drew
                  replace Oz4 := Oz4.drew
                  replace X7 := X7.drew
                  replace Oz11 := Oz11.drew
                  replace X11 := X11.drew
                  replace BB := BB.drew
                  have hS := Below.refl v11w.drew.heap.size v11w.drew
                  have UX4 := X4
                  have UL3 := L3
                  have UX7 := X7
                  have UX11 := X11
                  refine rg_take 0 (some 72) (.int .u64 T1) (by kernel_rfl) (fun _ _ => by kernel_rfl) (fun _ _ _ h => h) hS ?_
                  refine rg_take 1 (some 73) (.int .u64 T2) (by kernel_rfl) (fun _ _ => by kernel_rfl) (fun _ _ _ h => h) hS ?_
                  have rg15 : 0 ≤ T1 + T2 ∧ T1 + T2 < 18446744073709551616 := by omega
                  refine rg_take 2 (some 74) (.int .u64 (T1 + T2)) (by kernel_rfl) (fun _ _ => run_addu (x := 72) (y := 73) (p := T1) (q := T2) (by kernel_rfl) (by kernel_rfl) (by kernel_rfl) rg15) (fun _ _ _ h => h) hS ?_
                  refine rg_load 3 (some 75) (.agg #[.slice a1 len1 cap1]) 26 4 (g1v) 0 (by kernel_rfl) (by kernel_rfl) (by kernel_rfl) (fun _ hb => ldx26 ((UX4.keep hb).cell (i := 0) rfl)) (fun _ _ _ h => h) hS ?_
                  refine rg_load 4 (some 76) (.agg #[.slice Az11 Nz11 Cz11]) 26 11 (g10v) 0 (by kernel_rfl) (by kernel_rfl) (by kernel_rfl) (fun _ hb => ldx26 ((UX11.keep hb).cell (i := 0) rfl)) (fun _ _ _ h => h) hS ?_
                  refine rg_load 6 (some 78) (.agg #[.slice Az11 Nz11 Cz11]) 26 11 (g10v) 0 (by kernel_rfl) (by kernel_rfl) (by kernel_rfl) (fun _ hb => ldx26 ((UX11.keep hb).cell (i := 0) rfl)) (fun _ _ _ h => h) hS ?_
                  refine rg_call 5 (some 77) 13 #[.agg #[.slice a1 len1 cap1], .agg #[.slice Az11 Nz11 Cz11]] (by kernel_rfl) (by kernel_rfl) (dAdd N1 Oz11.a (by omega) (by omega)) ?_
                  rintro e1 v12w ⟨Az16, Nz16, Cz16, rfl, Oz16, Kz16, B⟩
                  refine ⟨_, rfl, joinB hS B, ?_⟩
                  replace hS := joinB hS B
                  replace N1 := N1.keep B
                  replace X4 := X4.keep B
                  replace L3 := L3.keep B
                  replace Oz4 := Oz4.keep B
                  replace X7 := X7.keep B
                  replace Oz11 := Oz11.keep B
                  replace X11 := X11.keep B
                  replace BB := joinB BB B
                  clear B
                  refine rg_call 7 (some 79) 14 #[.int .u64 (T1 + T2), .agg #[.slice Az16 Nz16 Cz16], .agg #[.slice Az11 Nz11 Cz11]] (by kernel_rfl) (by kernel_rfl) (sRedeem rg15 Oz16.a (by omega) Oz11.a (by omega)) ?_
                  rintro e1 v13w ⟨rfl, B⟩
                  refine ⟨_, rfl, joinB hS B, ?_⟩
                  replace hS := joinB hS B
                  replace N1 := N1.keep B
                  replace X4 := X4.keep B
                  replace L3 := L3.keep B
                  replace Oz4 := Oz4.keep B
                  replace X7 := X7.keep B
                  replace Oz11 := Oz11.keep B
                  replace X11 := X11.keep B
                  replace Oz16 := Oz16.keep B
                  replace BB := joinB BB B
                  clear B
                  have rg17 := re_rng (S := (x1 + (isV T1 x1 T2))) rg15 Oz11.a.nonneg
                  have kf18 := re_facts (T := T1 + T2) (S := (x1 + (isV T1 x1 T2))) (x := (isV T1 x1 T2)) rg15.1 Oz11.a.nonneg
                  refine rg_take 8 (some 71) (.tuple #[.int .u64 (reV (T1 + T2) (x1 + (isV T1 x1 T2)) (isV T1 x1 T2)), .int .i64 (reE (x1 + (isV T1 x1 T2)) (isV T1 x1 T2))]) (by kernel_rfl) (fun _ _ => by kernel_rfl) (fun _ _ _ h => h) hS ?_
                  refine rg_take 9 (some 80) (.int .u64 (reV (T1 + T2) (x1 + (isV T1 x1 T2)) (isV T1 x1 T2))) (by kernel_rfl) (fun _ _ => by kernel_rfl) (fun _ _ _ h => h) hS ?_
                  refine rg_take 10 (some 81) (.int .i64 (reE (x1 + (isV T1 x1 T2)) (isV T1 x1 T2))) (by kernel_rfl) (fun _ _ => by kernel_rfl) (fun _ _ _ h => h) hS ?_
                  refine rg_take 11 (some 13) (.int .u64 (reV (T1 + T2) (x1 + (isV T1 x1 T2)) (isV T1 x1 T2))) (by kernel_rfl) (fun _ _ => by kernel_rfl) (fun _ _ _ h => h) hS ?_
                  refine rg_take 12 (some 14) (.int .i64 (reE (x1 + (isV T1 x1 T2)) (isV T1 x1 T2))) (by kernel_rfl) (fun _ _ => by kernel_rfl) (fun _ _ _ h => h) hS ?_
                  refine rg_done (by kernel_rfl) ?_
                  clear hS UX4 UL3 UX7 UX11
                  refine wp_then ?_
                  refine wp_seq ?_
                  refine wl_start ?_
                  refine wl_take (some 82) (.int .i64 (reE (x1 + (isV T1 x1 T2)) (isV T1 x1 T2))) rfl rfl (by kernel_rfl) ?_
                  by_cases c19 : reE (x1 + (isV T1 x1 T2)) (isV T1 x1 T2) = 0
                  · skip
                    refine wl_eq (some 83) (.bool ((reE (x1 + (isV T1 x1 T2)) (isV T1 x1 T2) : Int) == 0)) (.bool true) (congrArg Value.bool (beq_iff_eq.2 c19)) rfl rfl (by kernel_rfl) ?_
                    refine wl_take (some 84) (.bool true) rfl rfl (by kernel_rfl) ?_
                    refine wg_take (some 85) (.int .u64 (reV (T1 + T2) (x1 + (isV T1 x1 T2)) (isV T1 x1 T2))) (by kernel_rfl) rfl (by kernel_rfl) ?_
                    refine wg_take (some 86) (.int .u64 T2) (by kernel_rfl) rfl (by kernel_rfl) ?_
                    by_cases c20 : reV (T1 + T2) (x1 + (isV T1 x1 T2)) (isV T1 x1 T2) ≤ T2
                    · skip
                      refine wg_eq (some 87) (.bool (decide ((reV (T1 + T2) (x1 + (isV T1 x1 T2)) (isV T1 x1 T2) : Int) ≤ T2))) (.bool true) (congrArg Value.bool (decide_eq_true c20)) (by kernel_rfl) rfl (by kernel_rfl) ?_
                      refine wl_take (some 88) (.bool true) rfl rfl (by kernel_rfl) ?_
                      refine wl_take (some 6) (.bool true) rfl rfl (by kernel_rfl) ?_
                      refine wl_nil ?_
                      refine wp_then ?_
                      refine wp_frame (a' := ⟨#[(.int .u64 T1), (.agg #[.slice a1 len1 cap1]), (.int .u64 T2), ud, (.pointer (some ⟨g1v, 0, none⟩)), ud, (.bool true), (.pointer (some ⟨g6v, 0, none⟩)), (.int .i64 (neE T1 T2)), (.int .u64 (reV T1 x1 (neV T1 x1 T2))), (.int .i64 (reE x1 (neV T1 x1 T2))), (.pointer (some ⟨g10v, 0, none⟩)), (.int .i64 (isE T1 x1 T2)), (.int .u64 (reV (T1 + T2) (x1 + (isV T1 x1 T2)) (isV T1 x1 T2))), (.int .i64 (reE (x1 + (isV T1 x1 T2)) (isV T1 x1 T2))), (.bool true), (.bool false), (.int .u64 y0), (.int .u64 T1), (.int .u64 y2), (.int .u64 T2), (.agg #[.slice a1 len1 cap1]), (.slice (some ⟨g3v, 0, none⟩) 1 1), (.bool true), (.bool false), (.tuple #[.agg #[.slice Az4 Nz4 Cz4], .int .i64 (neE T1 T2)]), (.int .u64 T1), (.agg #[.slice a1 len1 cap1]), (.int .u64 T2), (.tuple #[.agg #[.slice Az4 Nz4 Cz4], .int .i64 (neE T1 T2)]), (.agg #[.slice Az4 Nz4 Cz4]), (.int .i64 (neE T1 T2)), (.int .i64 (neE T1 T2)), (.bool true), (.bool true), (.agg #[.slice Az4 Nz4 Cz4]), (.agg #[.slice a1 len1 cap1]), (.int .i64 (-1)), (.bool true), (.bool true), (.tuple #[.int .u64 (reV T1 x1 (neV T1 x1 T2)), .int .i64 (reE x1 (neV T1 x1 T2))]), (.int .u64 T1), (.agg #[.slice a1 len1 cap1]), (.agg #[.slice Az4 Nz4 Cz4]), (.tuple #[.int .u64 (reV T1 x1 (neV T1 x1 T2)), .int .i64 (reE x1 (neV T1 x1 T2))]), (.int .u64 (reV T1 x1 (neV T1 x1 T2))), (.int .i64 (reE x1 (neV T1 x1 T2))), (.int .i64 (reE x1 (neV T1 x1 T2))), (.bool false), (.bool false), (.int .u64 (reV T1 x1 (neV T1 x1 T2))), (.int .u64 T2), (.bool false), (.bool false), (.tuple #[.agg #[.slice Az11 Nz11 Cz11], .int .i64 (isE T1 x1 T2)]), (.int .u64 T1), (.agg #[.slice a1 len1 cap1]), (.int .u64 T2), (.tuple #[.agg #[.slice Az11 Nz11 Cz11], .int .i64 (isE T1 x1 T2)]), (.agg #[.slice Az11 Nz11 Cz11]), (.int .i64 (isE T1 x1 T2)), (.int .i64 (isE T1 x1 T2)), (.bool false), (.bool false), (.agg #[.slice a1 len1 cap1]), (.bool true), (.bool true), (.int .u64 T1), (.bool false), (.bool false), (.bool false), (.tuple #[.int .u64 (reV (T1 + T2) (x1 + (isV T1 x1 T2)) (isV T1 x1 T2)), .int .i64 (reE (x1 + (isV T1 x1 T2)) (isV T1 x1 T2))]), (.int .u64 T1), (.int .u64 T2), (.int .u64 (T1 + T2)), (.agg #[.slice a1 len1 cap1]), (.agg #[.slice Az11 Nz11 Cz11]), (.agg #[.slice Az16 Nz16 Cz16]), (.agg #[.slice Az11 Nz11 Cz11]), (.tuple #[.int .u64 (reV (T1 + T2) (x1 + (isV T1 x1 T2)) (isV T1 x1 T2)), .int .i64 (reE (x1 + (isV T1 x1 T2)) (isV T1 x1 T2))]), (.int .u64 (reV (T1 + T2) (x1 + (isV T1 x1 T2)) (isV T1 x1 T2))), (.int .i64 (reE (x1 + (isV T1 x1 T2)) (isV T1 x1 T2))), (.int .i64 (reE (x1 + (isV T1 x1 T2)) (isV T1 x1 T2))), (.bool true), (.bool true), (.int .u64 (reV (T1 + T2) (x1 + (isV T1 x1 T2)) (isV T1 x1 T2))), (.int .u64 T2), (.bool true), (.bool true)], []⟩) (by kernel_rfl) ?_
                      refine wp_ret ?_
                      repeat (first | refine ret_then ?_ | refine ret_block ?_)
                      refine bodyPost_ret (results_tmp rfl _ _ _) rfl ?_
                      exact ⟨by kernel_rfl, BB⟩
                    · skip
                      refine wg_eq (some 87) (.bool (decide ((reV (T1 + T2) (x1 + (isV T1 x1 T2)) (isV T1 x1 T2) : Int) ≤ T2))) (.bool false) (congrArg Value.bool (decide_eq_false c20)) (by kernel_rfl) rfl (by kernel_rfl) ?_
                      refine wl_take (some 88) (.bool false) rfl rfl (by kernel_rfl) ?_
                      refine wl_take (some 6) (.bool false) rfl rfl (by kernel_rfl) ?_
                      refine wl_nil ?_
                      refine wp_then ?_
                      refine wp_frame (a' := ⟨#[(.int .u64 T1), (.agg #[.slice a1 len1 cap1]), (.int .u64 T2), ud, (.pointer (some ⟨g1v, 0, none⟩)), ud, (.bool false), (.pointer (some ⟨g6v, 0, none⟩)), (.int .i64 (neE T1 T2)), (.int .u64 (reV T1 x1 (neV T1 x1 T2))), (.int .i64 (reE x1 (neV T1 x1 T2))), (.pointer (some ⟨g10v, 0, none⟩)), (.int .i64 (isE T1 x1 T2)), (.int .u64 (reV (T1 + T2) (x1 + (isV T1 x1 T2)) (isV T1 x1 T2))), (.int .i64 (reE (x1 + (isV T1 x1 T2)) (isV T1 x1 T2))), (.bool true), (.bool false), (.int .u64 y0), (.int .u64 T1), (.int .u64 y2), (.int .u64 T2), (.agg #[.slice a1 len1 cap1]), (.slice (some ⟨g3v, 0, none⟩) 1 1), (.bool true), (.bool false), (.tuple #[.agg #[.slice Az4 Nz4 Cz4], .int .i64 (neE T1 T2)]), (.int .u64 T1), (.agg #[.slice a1 len1 cap1]), (.int .u64 T2), (.tuple #[.agg #[.slice Az4 Nz4 Cz4], .int .i64 (neE T1 T2)]), (.agg #[.slice Az4 Nz4 Cz4]), (.int .i64 (neE T1 T2)), (.int .i64 (neE T1 T2)), (.bool true), (.bool true), (.agg #[.slice Az4 Nz4 Cz4]), (.agg #[.slice a1 len1 cap1]), (.int .i64 (-1)), (.bool true), (.bool true), (.tuple #[.int .u64 (reV T1 x1 (neV T1 x1 T2)), .int .i64 (reE x1 (neV T1 x1 T2))]), (.int .u64 T1), (.agg #[.slice a1 len1 cap1]), (.agg #[.slice Az4 Nz4 Cz4]), (.tuple #[.int .u64 (reV T1 x1 (neV T1 x1 T2)), .int .i64 (reE x1 (neV T1 x1 T2))]), (.int .u64 (reV T1 x1 (neV T1 x1 T2))), (.int .i64 (reE x1 (neV T1 x1 T2))), (.int .i64 (reE x1 (neV T1 x1 T2))), (.bool false), (.bool false), (.int .u64 (reV T1 x1 (neV T1 x1 T2))), (.int .u64 T2), (.bool false), (.bool false), (.tuple #[.agg #[.slice Az11 Nz11 Cz11], .int .i64 (isE T1 x1 T2)]), (.int .u64 T1), (.agg #[.slice a1 len1 cap1]), (.int .u64 T2), (.tuple #[.agg #[.slice Az11 Nz11 Cz11], .int .i64 (isE T1 x1 T2)]), (.agg #[.slice Az11 Nz11 Cz11]), (.int .i64 (isE T1 x1 T2)), (.int .i64 (isE T1 x1 T2)), (.bool false), (.bool false), (.agg #[.slice a1 len1 cap1]), (.bool true), (.bool true), (.int .u64 T1), (.bool false), (.bool false), (.bool false), (.tuple #[.int .u64 (reV (T1 + T2) (x1 + (isV T1 x1 T2)) (isV T1 x1 T2)), .int .i64 (reE (x1 + (isV T1 x1 T2)) (isV T1 x1 T2))]), (.int .u64 T1), (.int .u64 T2), (.int .u64 (T1 + T2)), (.agg #[.slice a1 len1 cap1]), (.agg #[.slice Az11 Nz11 Cz11]), (.agg #[.slice Az16 Nz16 Cz16]), (.agg #[.slice Az11 Nz11 Cz11]), (.tuple #[.int .u64 (reV (T1 + T2) (x1 + (isV T1 x1 T2)) (isV T1 x1 T2)), .int .i64 (reE (x1 + (isV T1 x1 T2)) (isV T1 x1 T2))]), (.int .u64 (reV (T1 + T2) (x1 + (isV T1 x1 T2)) (isV T1 x1 T2))), (.int .i64 (reE (x1 + (isV T1 x1 T2)) (isV T1 x1 T2))), (.int .i64 (reE (x1 + (isV T1 x1 T2)) (isV T1 x1 T2))), (.bool true), (.bool true), (.int .u64 (reV (T1 + T2) (x1 + (isV T1 x1 T2)) (isV T1 x1 T2))), (.int .u64 T2), (.bool false), (.bool false)], []⟩) (by kernel_rfl) ?_
                      exfalso
                      have kn := back_need (t := T2) (w64 rt1).1 hx1
                      have ki := back_issue (w64 rt1).1 hx1 (w64 rt2).1
                      clear BB
                      omega
                  · skip
                    refine wl_eq (some 83) (.bool ((reE (x1 + (isV T1 x1 T2)) (isV T1 x1 T2) : Int) == 0)) (.bool false) (congrArg Value.bool (beq_eq_false_iff_ne.2 c19)) rfl rfl (by kernel_rfl) ?_
                    refine wl_take (some 84) (.bool false) rfl rfl (by kernel_rfl) ?_
                    refine wg_not (some 85) (by kernel_rfl) rfl ?_
                    refine wg_not (some 86) (by kernel_rfl) rfl ?_
                    refine wg_not (some 87) (by kernel_rfl) rfl ?_
                    refine wl_take (some 88) (.bool false) rfl rfl (by kernel_rfl) ?_
                    refine wl_take (some 6) (.bool false) rfl rfl (by kernel_rfl) ?_
                    refine wl_nil ?_
                    refine wp_then ?_
                    refine wp_frame (a' := ⟨#[(.int .u64 T1), (.agg #[.slice a1 len1 cap1]), (.int .u64 T2), ud, (.pointer (some ⟨g1v, 0, none⟩)), ud, (.bool false), (.pointer (some ⟨g6v, 0, none⟩)), (.int .i64 (neE T1 T2)), (.int .u64 (reV T1 x1 (neV T1 x1 T2))), (.int .i64 (reE x1 (neV T1 x1 T2))), (.pointer (some ⟨g10v, 0, none⟩)), (.int .i64 (isE T1 x1 T2)), (.int .u64 (reV (T1 + T2) (x1 + (isV T1 x1 T2)) (isV T1 x1 T2))), (.int .i64 (reE (x1 + (isV T1 x1 T2)) (isV T1 x1 T2))), (.bool true), (.bool false), (.int .u64 y0), (.int .u64 T1), (.int .u64 y2), (.int .u64 T2), (.agg #[.slice a1 len1 cap1]), (.slice (some ⟨g3v, 0, none⟩) 1 1), (.bool true), (.bool false), (.tuple #[.agg #[.slice Az4 Nz4 Cz4], .int .i64 (neE T1 T2)]), (.int .u64 T1), (.agg #[.slice a1 len1 cap1]), (.int .u64 T2), (.tuple #[.agg #[.slice Az4 Nz4 Cz4], .int .i64 (neE T1 T2)]), (.agg #[.slice Az4 Nz4 Cz4]), (.int .i64 (neE T1 T2)), (.int .i64 (neE T1 T2)), (.bool true), (.bool true), (.agg #[.slice Az4 Nz4 Cz4]), (.agg #[.slice a1 len1 cap1]), (.int .i64 (-1)), (.bool true), (.bool true), (.tuple #[.int .u64 (reV T1 x1 (neV T1 x1 T2)), .int .i64 (reE x1 (neV T1 x1 T2))]), (.int .u64 T1), (.agg #[.slice a1 len1 cap1]), (.agg #[.slice Az4 Nz4 Cz4]), (.tuple #[.int .u64 (reV T1 x1 (neV T1 x1 T2)), .int .i64 (reE x1 (neV T1 x1 T2))]), (.int .u64 (reV T1 x1 (neV T1 x1 T2))), (.int .i64 (reE x1 (neV T1 x1 T2))), (.int .i64 (reE x1 (neV T1 x1 T2))), (.bool false), (.bool false), (.int .u64 (reV T1 x1 (neV T1 x1 T2))), (.int .u64 T2), (.bool false), (.bool false), (.tuple #[.agg #[.slice Az11 Nz11 Cz11], .int .i64 (isE T1 x1 T2)]), (.int .u64 T1), (.agg #[.slice a1 len1 cap1]), (.int .u64 T2), (.tuple #[.agg #[.slice Az11 Nz11 Cz11], .int .i64 (isE T1 x1 T2)]), (.agg #[.slice Az11 Nz11 Cz11]), (.int .i64 (isE T1 x1 T2)), (.int .i64 (isE T1 x1 T2)), (.bool false), (.bool false), (.agg #[.slice a1 len1 cap1]), (.bool true), (.bool true), (.int .u64 T1), (.bool false), (.bool false), (.bool false), (.tuple #[.int .u64 (reV (T1 + T2) (x1 + (isV T1 x1 T2)) (isV T1 x1 T2)), .int .i64 (reE (x1 + (isV T1 x1 T2)) (isV T1 x1 T2))]), (.int .u64 T1), (.int .u64 T2), (.int .u64 (T1 + T2)), (.agg #[.slice a1 len1 cap1]), (.agg #[.slice Az11 Nz11 Cz11]), (.agg #[.slice Az16 Nz16 Cz16]), (.agg #[.slice Az11 Nz11 Cz11]), (.tuple #[.int .u64 (reV (T1 + T2) (x1 + (isV T1 x1 T2)) (isV T1 x1 T2)), .int .i64 (reE (x1 + (isV T1 x1 T2)) (isV T1 x1 T2))]), (.int .u64 (reV (T1 + T2) (x1 + (isV T1 x1 T2)) (isV T1 x1 T2))), (.int .i64 (reE (x1 + (isV T1 x1 T2)) (isV T1 x1 T2))), (.int .i64 (reE (x1 + (isV T1 x1 T2)) (isV T1 x1 T2))), (.bool false), (.bool false), ud, ud, ud, (.bool false)], []⟩) (by kernel_rfl) ?_
                    exfalso
                    have kn := back_need (t := T2) (w64 rt1).1 hx1
                    have ki := back_issue (w64 rt1).1 hx1 (w64 rt2).1
                    clear BB
                    omega
              · skip
                refine wg_call (some 65) 10 #[.agg #[.slice a1 len1 cap1]] (by kernel_rfl) rfl (by kernel_rfl) (zeroD N1 (by omega) false (decide_eq_false c13)) ?_
                rintro e1 v14w ⟨rfl, B⟩
                refine ⟨_, rfl, ?_⟩
                replace N1 := N1.keep B
                replace X4 := X4.keep B
                replace L3 := L3.keep B
                replace Oz4 := Oz4.keep B
                replace X7 := X7.keep B
                replace Oz11 := Oz11.keep B
                replace X11 := X11.keep B
                replace BB := joinB BB B
                clear B
                refine wg_take (some 66) (.bool false) (by kernel_rfl) rfl (by kernel_rfl) ?_
                refine wg_not (some 67) (by kernel_rfl) rfl ?_
                refine wg_not (some 68) (by kernel_rfl) rfl ?_
                refine wg_take (some 69) (.bool false) (by kernel_rfl) rfl (by kernel_rfl) ?_
                refine wl_take (some 70) (.bool false) rfl rfl (by kernel_rfl) ?_
                refine wl_nil ?_
                refine wp_then ?_
                refine wp_frame (a' := ⟨#[(.int .u64 T1), (.agg #[.slice a1 len1 cap1]), (.int .u64 T2), ud, (.pointer (some ⟨g1v, 0, none⟩)), ud, (.bool false), (.pointer (some ⟨g6v, 0, none⟩)), (.int .i64 (neE T1 T2)), (.int .u64 (reV T1 x1 (neV T1 x1 T2))), (.int .i64 (reE x1 (neV T1 x1 T2))), (.pointer (some ⟨g10v, 0, none⟩)), (.int .i64 (isE T1 x1 T2)), ud, ud, (.bool true), (.bool false), (.int .u64 y0), (.int .u64 T1), (.int .u64 y2), (.int .u64 T2), (.agg #[.slice a1 len1 cap1]), (.slice (some ⟨g3v, 0, none⟩) 1 1), (.bool true), (.bool false), (.tuple #[.agg #[.slice Az4 Nz4 Cz4], .int .i64 (neE T1 T2)]), (.int .u64 T1), (.agg #[.slice a1 len1 cap1]), (.int .u64 T2), (.tuple #[.agg #[.slice Az4 Nz4 Cz4], .int .i64 (neE T1 T2)]), (.agg #[.slice Az4 Nz4 Cz4]), (.int .i64 (neE T1 T2)), (.int .i64 (neE T1 T2)), (.bool true), (.bool true), (.agg #[.slice Az4 Nz4 Cz4]), (.agg #[.slice a1 len1 cap1]), (.int .i64 (-1)), (.bool true), (.bool true), (.tuple #[.int .u64 (reV T1 x1 (neV T1 x1 T2)), .int .i64 (reE x1 (neV T1 x1 T2))]), (.int .u64 T1), (.agg #[.slice a1 len1 cap1]), (.agg #[.slice Az4 Nz4 Cz4]), (.tuple #[.int .u64 (reV T1 x1 (neV T1 x1 T2)), .int .i64 (reE x1 (neV T1 x1 T2))]), (.int .u64 (reV T1 x1 (neV T1 x1 T2))), (.int .i64 (reE x1 (neV T1 x1 T2))), (.int .i64 (reE x1 (neV T1 x1 T2))), (.bool false), (.bool false), (.int .u64 (reV T1 x1 (neV T1 x1 T2))), (.int .u64 T2), (.bool false), (.bool false), (.tuple #[.agg #[.slice Az11 Nz11 Cz11], .int .i64 (isE T1 x1 T2)]), (.int .u64 T1), (.agg #[.slice a1 len1 cap1]), (.int .u64 T2), (.tuple #[.agg #[.slice Az11 Nz11 Cz11], .int .i64 (isE T1 x1 T2)]), (.agg #[.slice Az11 Nz11 Cz11]), (.int .i64 (isE T1 x1 T2)), (.int .i64 (isE T1 x1 T2)), (.bool false), (.bool false), (.agg #[.slice a1 len1 cap1]), (.bool false), (.bool false), ud, ud, (.bool false), (.bool false), ud, ud, ud, ud, ud, ud, ud, ud, ud, ud, ud, ud, ud, ud, ud, ud, ud, ud], []⟩) (by kernel_rfl) ?_
                refine wp_cond_false (by kernel_rfl) ?_
                refine wp_skip_then ?_
                refine wp_seq ?_
                refine rg_start (S := fun w' => Below v14w.drew.heap.size v14w.drew w') (by kernel_rfl) (Below.refl _ _) ?_
                replace N1 := N1.drew
                replace X4 := X4.drew
                replace L3 := L3.drew
                replace Oz4 := Oz4.drew
                replace X7 := X7.drew
                replace Oz11 := Oz11.drew
                replace X11 := X11.drew
                replace BB := BB.drew
                have hS := Below.refl v14w.drew.heap.size v14w.drew
                have UX4 := X4
                have UL3 := L3
                have UX7 := X7
                have UX11 := X11
                refine rg_take 0 (some 72) (.int .u64 T1) (by kernel_rfl) (fun _ _ => by kernel_rfl) (fun _ _ _ h => h) hS ?_
                refine rg_take 1 (some 73) (.int .u64 T2) (by kernel_rfl) (fun _ _ => by kernel_rfl) (fun _ _ _ h => h) hS ?_
                have rg21 : 0 ≤ T1 + T2 ∧ T1 + T2 < 18446744073709551616 := by omega
                refine rg_take 2 (some 74) (.int .u64 (T1 + T2)) (by kernel_rfl) (fun _ _ => run_addu (x := 72) (y := 73) (p := T1) (q := T2) (by kernel_rfl) (by kernel_rfl) (by kernel_rfl) rg21) (fun _ _ _ h => h) hS ?_
                refine rg_load 3 (some 75) (.agg #[.slice a1 len1 cap1]) 26 4 (g1v) 0 (by kernel_rfl) (by kernel_rfl) (by kernel_rfl) (fun _ hb => ldx26 ((UX4.keep hb).cell (i := 0) rfl)) (fun _ _ _ h => h) hS ?_
                refine rg_load 4 (some 76) (.agg #[.slice Az11 Nz11 Cz11]) 26 11 (g10v) 0 (by kernel_rfl) (by kernel_rfl) (by kernel_rfl) (fun _ hb => ldx26 ((UX11.keep hb).cell (i := 0) rfl)) (fun _ _ _ h => h) hS ?_
                refine rg_load 6 (some 78) (.agg #[.slice Az11 Nz11 Cz11]) 26 11 (g10v) 0 (by kernel_rfl) (by kernel_rfl) (by kernel_rfl) (fun _ hb => ldx26 ((UX11.keep hb).cell (i := 0) rfl)) (fun _ _ _ h => h) hS ?_
                refine rg_call 5 (some 77) 13 #[.agg #[.slice a1 len1 cap1], .agg #[.slice Az11 Nz11 Cz11]] (by kernel_rfl) (by kernel_rfl) (dAdd N1 Oz11.a (by omega) (by omega)) ?_
                rintro e1 v15w ⟨Az22, Nz22, Cz22, rfl, Oz22, Kz22, B⟩
                refine ⟨_, rfl, joinB hS B, ?_⟩
                replace hS := joinB hS B
                replace N1 := N1.keep B
                replace X4 := X4.keep B
                replace L3 := L3.keep B
                replace Oz4 := Oz4.keep B
                replace X7 := X7.keep B
                replace Oz11 := Oz11.keep B
                replace X11 := X11.keep B
                replace BB := joinB BB B
                clear B
                refine rg_call 7 (some 79) 14 #[.int .u64 (T1 + T2), .agg #[.slice Az22 Nz22 Cz22], .agg #[.slice Az11 Nz11 Cz11]] (by kernel_rfl) (by kernel_rfl) (sRedeem rg21 Oz22.a (by omega) Oz11.a (by omega)) ?_
                rintro e1 v16w ⟨rfl, B⟩
                refine ⟨_, rfl, joinB hS B, ?_⟩
                replace hS := joinB hS B
                replace N1 := N1.keep B
                replace X4 := X4.keep B
                replace L3 := L3.keep B
                replace Oz4 := Oz4.keep B
                replace X7 := X7.keep B
                replace Oz11 := Oz11.keep B
                replace X11 := X11.keep B
                replace Oz22 := Oz22.keep B
                replace BB := joinB BB B
                clear B
                have rg23 := re_rng (S := (x1 + (isV T1 x1 T2))) rg21 Oz11.a.nonneg
                have kf24 := re_facts (T := T1 + T2) (S := (x1 + (isV T1 x1 T2))) (x := (isV T1 x1 T2)) rg21.1 Oz11.a.nonneg
                refine rg_take 8 (some 71) (.tuple #[.int .u64 (reV (T1 + T2) (x1 + (isV T1 x1 T2)) (isV T1 x1 T2)), .int .i64 (reE (x1 + (isV T1 x1 T2)) (isV T1 x1 T2))]) (by kernel_rfl) (fun _ _ => by kernel_rfl) (fun _ _ _ h => h) hS ?_
                refine rg_take 9 (some 80) (.int .u64 (reV (T1 + T2) (x1 + (isV T1 x1 T2)) (isV T1 x1 T2))) (by kernel_rfl) (fun _ _ => by kernel_rfl) (fun _ _ _ h => h) hS ?_
                refine rg_take 10 (some 81) (.int .i64 (reE (x1 + (isV T1 x1 T2)) (isV T1 x1 T2))) (by kernel_rfl) (fun _ _ => by kernel_rfl) (fun _ _ _ h => h) hS ?_
                refine rg_take 11 (some 13) (.int .u64 (reV (T1 + T2) (x1 + (isV T1 x1 T2)) (isV T1 x1 T2))) (by kernel_rfl) (fun _ _ => by kernel_rfl) (fun _ _ _ h => h) hS ?_
                refine rg_take 12 (some 14) (.int .i64 (reE (x1 + (isV T1 x1 T2)) (isV T1 x1 T2))) (by kernel_rfl) (fun _ _ => by kernel_rfl) (fun _ _ _ h => h) hS ?_
                refine rg_done (by kernel_rfl) ?_
                clear hS UX4 UL3 UX7 UX11
                refine wp_then ?_
                refine wp_seq ?_
                refine wl_start ?_
                refine wl_take (some 82) (.int .i64 (reE (x1 + (isV T1 x1 T2)) (isV T1 x1 T2))) rfl rfl (by kernel_rfl) ?_
                by_cases c25 : reE (x1 + (isV T1 x1 T2)) (isV T1 x1 T2) = 0
                · skip
                  refine wl_eq (some 83) (.bool ((reE (x1 + (isV T1 x1 T2)) (isV T1 x1 T2) : Int) == 0)) (.bool true) (congrArg Value.bool (beq_iff_eq.2 c25)) rfl rfl (by kernel_rfl) ?_
                  refine wl_take (some 84) (.bool true) rfl rfl (by kernel_rfl) ?_
                  refine wg_take (some 85) (.int .u64 (reV (T1 + T2) (x1 + (isV T1 x1 T2)) (isV T1 x1 T2))) (by kernel_rfl) rfl (by kernel_rfl) ?_
                  refine wg_take (some 86) (.int .u64 T2) (by kernel_rfl) rfl (by kernel_rfl) ?_
                  by_cases c26 : reV (T1 + T2) (x1 + (isV T1 x1 T2)) (isV T1 x1 T2) ≤ T2
                  · skip
                    refine wg_eq (some 87) (.bool (decide ((reV (T1 + T2) (x1 + (isV T1 x1 T2)) (isV T1 x1 T2) : Int) ≤ T2))) (.bool true) (congrArg Value.bool (decide_eq_true c26)) (by kernel_rfl) rfl (by kernel_rfl) ?_
                    refine wl_take (some 88) (.bool true) rfl rfl (by kernel_rfl) ?_
                    refine wl_take (some 6) (.bool true) rfl rfl (by kernel_rfl) ?_
                    refine wl_nil ?_
                    refine wp_then ?_
                    refine wp_frame (a' := ⟨#[(.int .u64 T1), (.agg #[.slice a1 len1 cap1]), (.int .u64 T2), ud, (.pointer (some ⟨g1v, 0, none⟩)), ud, (.bool true), (.pointer (some ⟨g6v, 0, none⟩)), (.int .i64 (neE T1 T2)), (.int .u64 (reV T1 x1 (neV T1 x1 T2))), (.int .i64 (reE x1 (neV T1 x1 T2))), (.pointer (some ⟨g10v, 0, none⟩)), (.int .i64 (isE T1 x1 T2)), (.int .u64 (reV (T1 + T2) (x1 + (isV T1 x1 T2)) (isV T1 x1 T2))), (.int .i64 (reE (x1 + (isV T1 x1 T2)) (isV T1 x1 T2))), (.bool true), (.bool false), (.int .u64 y0), (.int .u64 T1), (.int .u64 y2), (.int .u64 T2), (.agg #[.slice a1 len1 cap1]), (.slice (some ⟨g3v, 0, none⟩) 1 1), (.bool true), (.bool false), (.tuple #[.agg #[.slice Az4 Nz4 Cz4], .int .i64 (neE T1 T2)]), (.int .u64 T1), (.agg #[.slice a1 len1 cap1]), (.int .u64 T2), (.tuple #[.agg #[.slice Az4 Nz4 Cz4], .int .i64 (neE T1 T2)]), (.agg #[.slice Az4 Nz4 Cz4]), (.int .i64 (neE T1 T2)), (.int .i64 (neE T1 T2)), (.bool true), (.bool true), (.agg #[.slice Az4 Nz4 Cz4]), (.agg #[.slice a1 len1 cap1]), (.int .i64 (-1)), (.bool true), (.bool true), (.tuple #[.int .u64 (reV T1 x1 (neV T1 x1 T2)), .int .i64 (reE x1 (neV T1 x1 T2))]), (.int .u64 T1), (.agg #[.slice a1 len1 cap1]), (.agg #[.slice Az4 Nz4 Cz4]), (.tuple #[.int .u64 (reV T1 x1 (neV T1 x1 T2)), .int .i64 (reE x1 (neV T1 x1 T2))]), (.int .u64 (reV T1 x1 (neV T1 x1 T2))), (.int .i64 (reE x1 (neV T1 x1 T2))), (.int .i64 (reE x1 (neV T1 x1 T2))), (.bool false), (.bool false), (.int .u64 (reV T1 x1 (neV T1 x1 T2))), (.int .u64 T2), (.bool false), (.bool false), (.tuple #[.agg #[.slice Az11 Nz11 Cz11], .int .i64 (isE T1 x1 T2)]), (.int .u64 T1), (.agg #[.slice a1 len1 cap1]), (.int .u64 T2), (.tuple #[.agg #[.slice Az11 Nz11 Cz11], .int .i64 (isE T1 x1 T2)]), (.agg #[.slice Az11 Nz11 Cz11]), (.int .i64 (isE T1 x1 T2)), (.int .i64 (isE T1 x1 T2)), (.bool false), (.bool false), (.agg #[.slice a1 len1 cap1]), (.bool false), (.bool false), ud, ud, (.bool false), (.bool false), (.tuple #[.int .u64 (reV (T1 + T2) (x1 + (isV T1 x1 T2)) (isV T1 x1 T2)), .int .i64 (reE (x1 + (isV T1 x1 T2)) (isV T1 x1 T2))]), (.int .u64 T1), (.int .u64 T2), (.int .u64 (T1 + T2)), (.agg #[.slice a1 len1 cap1]), (.agg #[.slice Az11 Nz11 Cz11]), (.agg #[.slice Az22 Nz22 Cz22]), (.agg #[.slice Az11 Nz11 Cz11]), (.tuple #[.int .u64 (reV (T1 + T2) (x1 + (isV T1 x1 T2)) (isV T1 x1 T2)), .int .i64 (reE (x1 + (isV T1 x1 T2)) (isV T1 x1 T2))]), (.int .u64 (reV (T1 + T2) (x1 + (isV T1 x1 T2)) (isV T1 x1 T2))), (.int .i64 (reE (x1 + (isV T1 x1 T2)) (isV T1 x1 T2))), (.int .i64 (reE (x1 + (isV T1 x1 T2)) (isV T1 x1 T2))), (.bool true), (.bool true), (.int .u64 (reV (T1 + T2) (x1 + (isV T1 x1 T2)) (isV T1 x1 T2))), (.int .u64 T2), (.bool true), (.bool true)], []⟩) (by kernel_rfl) ?_
                    refine wp_ret ?_
                    repeat (first | refine ret_then ?_ | refine ret_block ?_)
                    refine bodyPost_ret (results_tmp rfl _ _ _) rfl ?_
                    exact ⟨by kernel_rfl, BB⟩
                  · skip
                    refine wg_eq (some 87) (.bool (decide ((reV (T1 + T2) (x1 + (isV T1 x1 T2)) (isV T1 x1 T2) : Int) ≤ T2))) (.bool false) (congrArg Value.bool (decide_eq_false c26)) (by kernel_rfl) rfl (by kernel_rfl) ?_
                    refine wl_take (some 88) (.bool false) rfl rfl (by kernel_rfl) ?_
                    refine wl_take (some 6) (.bool false) rfl rfl (by kernel_rfl) ?_
                    refine wl_nil ?_
                    refine wp_then ?_
                    refine wp_frame (a' := ⟨#[(.int .u64 T1), (.agg #[.slice a1 len1 cap1]), (.int .u64 T2), ud, (.pointer (some ⟨g1v, 0, none⟩)), ud, (.bool false), (.pointer (some ⟨g6v, 0, none⟩)), (.int .i64 (neE T1 T2)), (.int .u64 (reV T1 x1 (neV T1 x1 T2))), (.int .i64 (reE x1 (neV T1 x1 T2))), (.pointer (some ⟨g10v, 0, none⟩)), (.int .i64 (isE T1 x1 T2)), (.int .u64 (reV (T1 + T2) (x1 + (isV T1 x1 T2)) (isV T1 x1 T2))), (.int .i64 (reE (x1 + (isV T1 x1 T2)) (isV T1 x1 T2))), (.bool true), (.bool false), (.int .u64 y0), (.int .u64 T1), (.int .u64 y2), (.int .u64 T2), (.agg #[.slice a1 len1 cap1]), (.slice (some ⟨g3v, 0, none⟩) 1 1), (.bool true), (.bool false), (.tuple #[.agg #[.slice Az4 Nz4 Cz4], .int .i64 (neE T1 T2)]), (.int .u64 T1), (.agg #[.slice a1 len1 cap1]), (.int .u64 T2), (.tuple #[.agg #[.slice Az4 Nz4 Cz4], .int .i64 (neE T1 T2)]), (.agg #[.slice Az4 Nz4 Cz4]), (.int .i64 (neE T1 T2)), (.int .i64 (neE T1 T2)), (.bool true), (.bool true), (.agg #[.slice Az4 Nz4 Cz4]), (.agg #[.slice a1 len1 cap1]), (.int .i64 (-1)), (.bool true), (.bool true), (.tuple #[.int .u64 (reV T1 x1 (neV T1 x1 T2)), .int .i64 (reE x1 (neV T1 x1 T2))]), (.int .u64 T1), (.agg #[.slice a1 len1 cap1]), (.agg #[.slice Az4 Nz4 Cz4]), (.tuple #[.int .u64 (reV T1 x1 (neV T1 x1 T2)), .int .i64 (reE x1 (neV T1 x1 T2))]), (.int .u64 (reV T1 x1 (neV T1 x1 T2))), (.int .i64 (reE x1 (neV T1 x1 T2))), (.int .i64 (reE x1 (neV T1 x1 T2))), (.bool false), (.bool false), (.int .u64 (reV T1 x1 (neV T1 x1 T2))), (.int .u64 T2), (.bool false), (.bool false), (.tuple #[.agg #[.slice Az11 Nz11 Cz11], .int .i64 (isE T1 x1 T2)]), (.int .u64 T1), (.agg #[.slice a1 len1 cap1]), (.int .u64 T2), (.tuple #[.agg #[.slice Az11 Nz11 Cz11], .int .i64 (isE T1 x1 T2)]), (.agg #[.slice Az11 Nz11 Cz11]), (.int .i64 (isE T1 x1 T2)), (.int .i64 (isE T1 x1 T2)), (.bool false), (.bool false), (.agg #[.slice a1 len1 cap1]), (.bool false), (.bool false), ud, ud, (.bool false), (.bool false), (.tuple #[.int .u64 (reV (T1 + T2) (x1 + (isV T1 x1 T2)) (isV T1 x1 T2)), .int .i64 (reE (x1 + (isV T1 x1 T2)) (isV T1 x1 T2))]), (.int .u64 T1), (.int .u64 T2), (.int .u64 (T1 + T2)), (.agg #[.slice a1 len1 cap1]), (.agg #[.slice Az11 Nz11 Cz11]), (.agg #[.slice Az22 Nz22 Cz22]), (.agg #[.slice Az11 Nz11 Cz11]), (.tuple #[.int .u64 (reV (T1 + T2) (x1 + (isV T1 x1 T2)) (isV T1 x1 T2)), .int .i64 (reE (x1 + (isV T1 x1 T2)) (isV T1 x1 T2))]), (.int .u64 (reV (T1 + T2) (x1 + (isV T1 x1 T2)) (isV T1 x1 T2))), (.int .i64 (reE (x1 + (isV T1 x1 T2)) (isV T1 x1 T2))), (.int .i64 (reE (x1 + (isV T1 x1 T2)) (isV T1 x1 T2))), (.bool true), (.bool true), (.int .u64 (reV (T1 + T2) (x1 + (isV T1 x1 T2)) (isV T1 x1 T2))), (.int .u64 T2), (.bool false), (.bool false)], []⟩) (by kernel_rfl) ?_
                    exfalso
                    have kn := back_need (t := T2) (w64 rt1).1 hx1
                    have ki := back_issue (w64 rt1).1 hx1 (w64 rt2).1
                    clear BB
                    omega
                · skip
                  refine wl_eq (some 83) (.bool ((reE (x1 + (isV T1 x1 T2)) (isV T1 x1 T2) : Int) == 0)) (.bool false) (congrArg Value.bool (beq_eq_false_iff_ne.2 c25)) rfl rfl (by kernel_rfl) ?_
                  refine wl_take (some 84) (.bool false) rfl rfl (by kernel_rfl) ?_
                  refine wg_not (some 85) (by kernel_rfl) rfl ?_
                  refine wg_not (some 86) (by kernel_rfl) rfl ?_
                  refine wg_not (some 87) (by kernel_rfl) rfl ?_
                  refine wl_take (some 88) (.bool false) rfl rfl (by kernel_rfl) ?_
                  refine wl_take (some 6) (.bool false) rfl rfl (by kernel_rfl) ?_
                  refine wl_nil ?_
                  refine wp_then ?_
                  refine wp_frame (a' := ⟨#[(.int .u64 T1), (.agg #[.slice a1 len1 cap1]), (.int .u64 T2), ud, (.pointer (some ⟨g1v, 0, none⟩)), ud, (.bool false), (.pointer (some ⟨g6v, 0, none⟩)), (.int .i64 (neE T1 T2)), (.int .u64 (reV T1 x1 (neV T1 x1 T2))), (.int .i64 (reE x1 (neV T1 x1 T2))), (.pointer (some ⟨g10v, 0, none⟩)), (.int .i64 (isE T1 x1 T2)), (.int .u64 (reV (T1 + T2) (x1 + (isV T1 x1 T2)) (isV T1 x1 T2))), (.int .i64 (reE (x1 + (isV T1 x1 T2)) (isV T1 x1 T2))), (.bool true), (.bool false), (.int .u64 y0), (.int .u64 T1), (.int .u64 y2), (.int .u64 T2), (.agg #[.slice a1 len1 cap1]), (.slice (some ⟨g3v, 0, none⟩) 1 1), (.bool true), (.bool false), (.tuple #[.agg #[.slice Az4 Nz4 Cz4], .int .i64 (neE T1 T2)]), (.int .u64 T1), (.agg #[.slice a1 len1 cap1]), (.int .u64 T2), (.tuple #[.agg #[.slice Az4 Nz4 Cz4], .int .i64 (neE T1 T2)]), (.agg #[.slice Az4 Nz4 Cz4]), (.int .i64 (neE T1 T2)), (.int .i64 (neE T1 T2)), (.bool true), (.bool true), (.agg #[.slice Az4 Nz4 Cz4]), (.agg #[.slice a1 len1 cap1]), (.int .i64 (-1)), (.bool true), (.bool true), (.tuple #[.int .u64 (reV T1 x1 (neV T1 x1 T2)), .int .i64 (reE x1 (neV T1 x1 T2))]), (.int .u64 T1), (.agg #[.slice a1 len1 cap1]), (.agg #[.slice Az4 Nz4 Cz4]), (.tuple #[.int .u64 (reV T1 x1 (neV T1 x1 T2)), .int .i64 (reE x1 (neV T1 x1 T2))]), (.int .u64 (reV T1 x1 (neV T1 x1 T2))), (.int .i64 (reE x1 (neV T1 x1 T2))), (.int .i64 (reE x1 (neV T1 x1 T2))), (.bool false), (.bool false), (.int .u64 (reV T1 x1 (neV T1 x1 T2))), (.int .u64 T2), (.bool false), (.bool false), (.tuple #[.agg #[.slice Az11 Nz11 Cz11], .int .i64 (isE T1 x1 T2)]), (.int .u64 T1), (.agg #[.slice a1 len1 cap1]), (.int .u64 T2), (.tuple #[.agg #[.slice Az11 Nz11 Cz11], .int .i64 (isE T1 x1 T2)]), (.agg #[.slice Az11 Nz11 Cz11]), (.int .i64 (isE T1 x1 T2)), (.int .i64 (isE T1 x1 T2)), (.bool false), (.bool false), (.agg #[.slice a1 len1 cap1]), (.bool false), (.bool false), ud, ud, (.bool false), (.bool false), (.tuple #[.int .u64 (reV (T1 + T2) (x1 + (isV T1 x1 T2)) (isV T1 x1 T2)), .int .i64 (reE (x1 + (isV T1 x1 T2)) (isV T1 x1 T2))]), (.int .u64 T1), (.int .u64 T2), (.int .u64 (T1 + T2)), (.agg #[.slice a1 len1 cap1]), (.agg #[.slice Az11 Nz11 Cz11]), (.agg #[.slice Az22 Nz22 Cz22]), (.agg #[.slice Az11 Nz11 Cz11]), (.tuple #[.int .u64 (reV (T1 + T2) (x1 + (isV T1 x1 T2)) (isV T1 x1 T2)), .int .i64 (reE (x1 + (isV T1 x1 T2)) (isV T1 x1 T2))]), (.int .u64 (reV (T1 + T2) (x1 + (isV T1 x1 T2)) (isV T1 x1 T2))), (.int .i64 (reE (x1 + (isV T1 x1 T2)) (isV T1 x1 T2))), (.int .i64 (reE (x1 + (isV T1 x1 T2)) (isV T1 x1 T2))), (.bool false), (.bool false), ud, ud, ud, (.bool false)], []⟩) (by kernel_rfl) ?_
                  exfalso
                  have kn := back_need (t := T2) (w64 rt1).1 hx1
                  have ki := back_issue (w64 rt1).1 hx1 (w64 rt2).1
                  clear BB
                  omega
            · skip
              refine wl_eq (some 62) (.bool ((isE T1 x1 T2 : Int) != 0)) (.bool true) (congrArg Value.bool (bne_iff_ne.2 c12)) rfl rfl (by kernel_rfl) ?_
              refine wl_take (some 63) (.bool true) rfl rfl (by kernel_rfl) ?_
              refine wg_not (some 64) (by kernel_rfl) rfl ?_
              refine wg_not (some 65) (by kernel_rfl) rfl ?_
              refine wg_not (some 66) (by kernel_rfl) rfl ?_
              refine wg_not (some 67) (by kernel_rfl) rfl ?_
              refine wg_not (some 68) (by kernel_rfl) rfl ?_
              refine wg_not (some 69) (by kernel_rfl) rfl ?_
              refine wl_take (some 70) (.bool true) rfl rfl (by kernel_rfl) ?_
              refine wl_nil ?_
              refine wp_then ?_
              refine wp_frame (a' := ⟨#[(.int .u64 T1), (.agg #[.slice a1 len1 cap1]), (.int .u64 T2), ud, (.pointer (some ⟨g1v, 0, none⟩)), ud, (.bool false), (.pointer (some ⟨g6v, 0, none⟩)), (.int .i64 (neE T1 T2)), (.int .u64 (reV T1 x1 (neV T1 x1 T2))), (.int .i64 (reE x1 (neV T1 x1 T2))), (.pointer (some ⟨g10v, 0, none⟩)), (.int .i64 (isE T1 x1 T2)), ud, ud, (.bool true), (.bool false), (.int .u64 y0), (.int .u64 T1), (.int .u64 y2), (.int .u64 T2), (.agg #[.slice a1 len1 cap1]), (.slice (some ⟨g3v, 0, none⟩) 1 1), (.bool true), (.bool false), (.tuple #[.agg #[.slice Az4 Nz4 Cz4], .int .i64 (neE T1 T2)]), (.int .u64 T1), (.agg #[.slice a1 len1 cap1]), (.int .u64 T2), (.tuple #[.agg #[.slice Az4 Nz4 Cz4], .int .i64 (neE T1 T2)]), (.agg #[.slice Az4 Nz4 Cz4]), (.int .i64 (neE T1 T2)), (.int .i64 (neE T1 T2)), (.bool true), (.bool true), (.agg #[.slice Az4 Nz4 Cz4]), (.agg #[.slice a1 len1 cap1]), (.int .i64 (-1)), (.bool true), (.bool true), (.tuple #[.int .u64 (reV T1 x1 (neV T1 x1 T2)), .int .i64 (reE x1 (neV T1 x1 T2))]), (.int .u64 T1), (.agg #[.slice a1 len1 cap1]), (.agg #[.slice Az4 Nz4 Cz4]), (.tuple #[.int .u64 (reV T1 x1 (neV T1 x1 T2)), .int .i64 (reE x1 (neV T1 x1 T2))]), (.int .u64 (reV T1 x1 (neV T1 x1 T2))), (.int .i64 (reE x1 (neV T1 x1 T2))), (.int .i64 (reE x1 (neV T1 x1 T2))), (.bool false), (.bool false), (.int .u64 (reV T1 x1 (neV T1 x1 T2))), (.int .u64 T2), (.bool false), (.bool false), (.tuple #[.agg #[.slice Az11 Nz11 Cz11], .int .i64 (isE T1 x1 T2)]), (.int .u64 T1), (.agg #[.slice a1 len1 cap1]), (.int .u64 T2), (.tuple #[.agg #[.slice Az11 Nz11 Cz11], .int .i64 (isE T1 x1 T2)]), (.agg #[.slice Az11 Nz11 Cz11]), (.int .i64 (isE T1 x1 T2)), (.int .i64 (isE T1 x1 T2)), (.bool true), (.bool true), ud, ud, ud, ud, ud, ud, (.bool true), ud, ud, ud, ud, ud, ud, ud, ud, ud, ud, ud, ud, ud, ud, ud, ud, ud, ud], []⟩) (by kernel_rfl) ?_
              refine wp_cond_true (by kernel_rfl) ?_
              refine wp_seq ?_
              refine wl_start ?_
              refine wl_take (some 6) (.bool true) rfl rfl (by kernel_rfl) ?_
              refine wl_nil ?_
              refine wp_then ?_
              refine wp_ret ?_
              repeat (first | refine ret_then ?_ | refine ret_block ?_)
              refine bodyPost_ret (results_tmp rfl _ _ _) rfl ?_
              exact ⟨by kernel_rfl, BB⟩
        · skip
          refine wl_eq (some 48) (.bool ((reE x1 (neV T1 x1 T2) : Int) != 0)) (.bool true) (congrArg Value.bool (bne_iff_ne.2 c9)) rfl rfl (by kernel_rfl) ?_
          refine wl_take (some 49) (.bool true) rfl rfl (by kernel_rfl) ?_
          refine wg_not (some 50) (by kernel_rfl) rfl ?_
          refine wg_not (some 51) (by kernel_rfl) rfl ?_
          refine wg_not (some 52) (by kernel_rfl) rfl ?_
          refine wl_take (some 53) (.bool true) rfl rfl (by kernel_rfl) ?_
          refine wl_nil ?_
          refine wp_then ?_
          refine wp_frame (a' := ⟨#[(.int .u64 T1), (.agg #[.slice a1 len1 cap1]), (.int .u64 T2), ud, (.pointer (some ⟨g1v, 0, none⟩)), ud, (.bool false), (.pointer (some ⟨g6v, 0, none⟩)), (.int .i64 (neE T1 T2)), (.int .u64 (reV T1 x1 (neV T1 x1 T2))), (.int .i64 (reE x1 (neV T1 x1 T2))), ud, ud, ud, ud, (.bool true), (.bool false), (.int .u64 y0), (.int .u64 T1), (.int .u64 y2), (.int .u64 T2), (.agg #[.slice a1 len1 cap1]), (.slice (some ⟨g3v, 0, none⟩) 1 1), (.bool true), (.bool false), (.tuple #[.agg #[.slice Az4 Nz4 Cz4], .int .i64 (neE T1 T2)]), (.int .u64 T1), (.agg #[.slice a1 len1 cap1]), (.int .u64 T2), (.tuple #[.agg #[.slice Az4 Nz4 Cz4], .int .i64 (neE T1 T2)]), (.agg #[.slice Az4 Nz4 Cz4]), (.int .i64 (neE T1 T2)), (.int .i64 (neE T1 T2)), (.bool true), (.bool true), (.agg #[.slice Az4 Nz4 Cz4]), (.agg #[.slice a1 len1 cap1]), (.int .i64 (-1)), (.bool true), (.bool true), (.tuple #[.int .u64 (reV T1 x1 (neV T1 x1 T2)), .int .i64 (reE x1 (neV T1 x1 T2))]), (.int .u64 T1), (.agg #[.slice a1 len1 cap1]), (.agg #[.slice Az4 Nz4 Cz4]), (.tuple #[.int .u64 (reV T1 x1 (neV T1 x1 T2)), .int .i64 (reE x1 (neV T1 x1 T2))]), (.int .u64 (reV T1 x1 (neV T1 x1 T2))), (.int .i64 (reE x1 (neV T1 x1 T2))), (.int .i64 (reE x1 (neV T1 x1 T2))), (.bool true), (.bool true), ud, ud, ud, (.bool true), ud, ud, ud, ud, ud, ud, ud, ud, ud, ud, ud, ud, ud, ud, ud, ud, ud, ud, ud, ud, ud, ud, ud, ud, ud, ud, ud, ud, ud, ud, ud, ud, ud, ud, ud], []⟩) (by kernel_rfl) ?_
          refine wp_cond_true (by kernel_rfl) ?_
          refine wp_seq ?_
          refine wl_start ?_
          refine wl_take (some 6) (.bool false) rfl rfl (by kernel_rfl) ?_
          refine wl_nil ?_
          refine wp_then ?_
          exfalso
          have kn := back_need (t := T2) (w64 rt1).1 hx1
          clear BB
          omega
      · skip
        by_cases c27 : (neV T1 x1 T2) = x1
        · skip
          refine wg_call (some 37) 17 #[.agg #[.slice Az4 Nz4 Cz4], .agg #[.slice a1 len1 cap1]] (by kernel_rfl) rfl (by kernel_rfl) (cmpD Oz4.a N1 (by omega) (by omega) 0 (sgn_eq c27)) ?_
          rintro e1 v17w ⟨rfl, B⟩
          refine ⟨_, rfl, ?_⟩
          replace N1 := N1.keep B
          replace X4 := X4.keep B
          replace L3 := L3.keep B
          replace Oz4 := Oz4.keep B
          replace X7 := X7.keep B
          replace BB := joinB BB B
          clear B
          refine wg_take (some 38) (.bool true) (by kernel_rfl) rfl (by kernel_rfl) ?_
          refine wl_take (some 39) (.bool true) rfl rfl (by kernel_rfl) ?_
          refine wl_nil ?_
          refine wp_then ?_
          refine wp_frame (a' := ⟨#[(.int .u64 T1), (.agg #[.slice a1 len1 cap1]), (.int .u64 T2), ud, (.pointer (some ⟨g1v, 0, none⟩)), ud, (.bool false), (.pointer (some ⟨g6v, 0, none⟩)), (.int .i64 (neE T1 T2)), ud, ud, ud, ud, ud, ud, (.bool true), (.bool false), (.int .u64 y0), (.int .u64 T1), (.int .u64 y2), (.int .u64 T2), (.agg #[.slice a1 len1 cap1]), (.slice (some ⟨g3v, 0, none⟩) 1 1), (.bool true), (.bool false), (.tuple #[.agg #[.slice Az4 Nz4 Cz4], .int .i64 (neE T1 T2)]), (.int .u64 T1), (.agg #[.slice a1 len1 cap1]), (.int .u64 T2), (.tuple #[.agg #[.slice Az4 Nz4 Cz4], .int .i64 (neE T1 T2)]), (.agg #[.slice Az4 Nz4 Cz4]), (.int .i64 (neE T1 T2)), (.int .i64 (neE T1 T2)), (.bool true), (.bool true), (.agg #[.slice Az4 Nz4 Cz4]), (.agg #[.slice a1 len1 cap1]), (.int .i64 0), (.bool true), (.bool true), ud, ud, ud, ud, ud, ud, ud, ud, ud, ud, ud, ud, ud, ud, ud, ud, ud, ud, ud, ud, ud, ud, ud, ud, ud, ud, ud, ud, ud, ud, ud, ud, ud, ud, ud, ud, ud, ud, ud, ud, ud, ud, ud, ud, ud, ud, ud, ud, ud], []⟩) (by kernel_rfl) ?_
          refine wp_cond_true (by kernel_rfl) ?_
          refine wp_seq ?_
          refine wl_start ?_
          refine wl_take (some 41) (.int .u64 T1) rfl rfl (by kernel_rfl) ?_
          refine wl_take (some 42) (.agg #[.slice a1 len1 cap1]) rfl rfl (run_lp 4 (by kernel_rfl) (by kernel_rfl) (ldx26 (X4.cell (i := 0) rfl))) ?_
          refine wl_take (some 43) (.agg #[.slice Az4 Nz4 Cz4]) rfl rfl (run_lp 7 (by kernel_rfl) (by kernel_rfl) (ldx26 (X7.cell (i := 0) rfl))) ?_
          refine wl_call (some 44) 14 #[.int .u64 T1, .agg #[.slice a1 len1 cap1], .agg #[.slice Az4 Nz4 Cz4]] rfl rfl (by kernel_rfl) (sRedeem (w64 rt1) N1 (by omega) Oz4.a (by omega)) ?_
          rintro e1 v18w ⟨rfl, B⟩
          refine ⟨_, rfl, ?_⟩
          replace N1 := N1.keep B
          replace X4 := X4.keep B
          replace L3 := L3.keep B
          replace Oz4 := Oz4.keep B
          replace X7 := X7.keep B
          replace BB := joinB BB B
          clear B
          have rg28 := re_rng (S := x1) (w64 rt1) Oz4.a.nonneg
          have kf29 := re_facts (T := T1) (S := x1) (x := (neV T1 x1 T2)) (w64 rt1).1 Oz4.a.nonneg
          refine wl_take (some 40) (.tuple #[.int .u64 (reV T1 x1 (neV T1 x1 T2)), .int .i64 (reE x1 (neV T1 x1 T2))]) rfl rfl (by kernel_rfl) ?_
          refine wl_take (some 45) (.int .u64 (reV T1 x1 (neV T1 x1 T2))) rfl rfl (by kernel_rfl) ?_
          refine wl_take (some 46) (.int .i64 (reE x1 (neV T1 x1 T2))) rfl rfl (by kernel_rfl) ?_
          refine wl_take (some 9) (.int .u64 (reV T1 x1 (neV T1 x1 T2))) rfl rfl (by kernel_rfl) ?_
          refine wl_take (some 10) (.int .i64 (reE x1 (neV T1 x1 T2))) rfl rfl (by kernel_rfl) ?_
          refine wl_nil ?_
          refine wp_then ?_
          refine wp_seq ?_
          refine wl_start ?_
          refine wl_take (some 47) (.int .i64 (reE x1 (neV T1 x1 T2))) rfl rfl (by kernel_rfl) ?_
          by_cases c30 : reE x1 (neV T1 x1 T2) = 0
          · skip
            refine wl_eq (some 48) (.bool ((reE x1 (neV T1 x1 T2) : Int) != 0)) (.bool false) (congrArg Value.bool (bne_eq_false_iff_eq.2 c30)) rfl rfl (by kernel_rfl) ?_
            refine wl_take (some 49) (.bool false) rfl rfl (by kernel_rfl) ?_
            refine wg_take (some 50) (.int .u64 (reV T1 x1 (neV T1 x1 T2))) (by kernel_rfl) rfl (by kernel_rfl) ?_
            refine wg_take (some 51) (.int .u64 T2) (by kernel_rfl) rfl (by kernel_rfl) ?_
            by_cases c31 : reV T1 x1 (neV T1 x1 T2) < T2
            · skip
              refine wg_eq (some 52) (.bool (decide ((reV T1 x1 (neV T1 x1 T2) : Int) < T2))) (.bool true) (congrArg Value.bool (decide_eq_true c31)) (by kernel_rfl) rfl (by kernel_rfl) ?_
              refine wl_take (some 53) (.bool true) rfl rfl (by kernel_rfl) ?_
              refine wl_nil ?_
              refine wp_then ?_
              refine wp_frame (a' := ⟨#[(.int .u64 T1), (.agg #[.slice a1 len1 cap1]), (.int .u64 T2), ud, (.pointer (some ⟨g1v, 0, none⟩)), ud, (.bool false), (.pointer (some ⟨g6v, 0, none⟩)), (.int .i64 (neE T1 T2)), (.int .u64 (reV T1 x1 (neV T1 x1 T2))), (.int .i64 (reE x1 (neV T1 x1 T2))), ud, ud, ud, ud, (.bool true), (.bool false), (.int .u64 y0), (.int .u64 T1), (.int .u64 y2), (.int .u64 T2), (.agg #[.slice a1 len1 cap1]), (.slice (some ⟨g3v, 0, none⟩) 1 1), (.bool true), (.bool false), (.tuple #[.agg #[.slice Az4 Nz4 Cz4], .int .i64 (neE T1 T2)]), (.int .u64 T1), (.agg #[.slice a1 len1 cap1]), (.int .u64 T2), (.tuple #[.agg #[.slice Az4 Nz4 Cz4], .int .i64 (neE T1 T2)]), (.agg #[.slice Az4 Nz4 Cz4]), (.int .i64 (neE T1 T2)), (.int .i64 (neE T1 T2)), (.bool true), (.bool true), (.agg #[.slice Az4 Nz4 Cz4]), (.agg #[.slice a1 len1 cap1]), (.int .i64 0), (.bool true), (.bool true), (.tuple #[.int .u64 (reV T1 x1 (neV T1 x1 T2)), .int .i64 (reE x1 (neV T1 x1 T2))]), (.int .u64 T1), (.agg #[.slice a1 len1 cap1]), (.agg #[.slice Az4 Nz4 Cz4]), (.tuple #[.int .u64 (reV T1 x1 (neV T1 x1 T2)), .int .i64 (reE x1 (neV T1 x1 T2))]), (.int .u64 (reV T1 x1 (neV T1 x1 T2))), (.int .i64 (reE x1 (neV T1 x1 T2))), (.int .i64 (reE x1 (neV T1 x1 T2))), (.bool false), (.bool false), (.int .u64 (reV T1 x1 (neV T1 x1 T2))), (.int .u64 T2), (.bool true), (.bool true), ud, ud, ud, ud, ud, ud, ud, ud, ud, ud, ud, ud, ud, ud, ud, ud, ud, ud, ud, ud, ud, ud, ud, ud, ud, ud, ud, ud, ud, ud, ud, ud, ud, ud, ud], []⟩) (by kernel_rfl) ?_
              refine wp_cond_true (by kernel_rfl) ?_
              refine wp_seq ?_
              refine wl_start ?_
              refine wl_take (some 6) (.bool false) rfl rfl (by kernel_rfl) ?_
              refine wl_nil ?_
              refine wp_then ?_
              exfalso
              have kn := back_need (t := T2) (w64 rt1).1 hx1
              clear BB
              omega
            · skip
              refine wg_eq (some 52) (.bool (decide ((reV T1 x1 (neV T1 x1 T2) : Int) < T2))) (.bool false) (congrArg Value.bool (decide_eq_false c31)) (by kernel_rfl) rfl (by kernel_rfl) ?_
              refine wl_take (some 53) (.bool false) rfl rfl (by kernel_rfl) ?_
              refine wl_nil ?_
              refine wp_then ?_
              refine wp_frame (a' := ⟨#[(.int .u64 T1), (.agg #[.slice a1 len1 cap1]), (.int .u64 T2), ud, (.pointer (some ⟨g1v, 0, none⟩)), ud, (.bool false), (.pointer (some ⟨g6v, 0, none⟩)), (.int .i64 (neE T1 T2)), (.int .u64 (reV T1 x1 (neV T1 x1 T2))), (.int .i64 (reE x1 (neV T1 x1 T2))), ud, ud, ud, ud, (.bool true), (.bool false), (.int .u64 y0), (.int .u64 T1), (.int .u64 y2), (.int .u64 T2), (.agg #[.slice a1 len1 cap1]), (.slice (some ⟨g3v, 0, none⟩) 1 1), (.bool true), (.bool false), (.tuple #[.agg #[.slice Az4 Nz4 Cz4], .int .i64 (neE T1 T2)]), (.int .u64 T1), (.agg #[.slice a1 len1 cap1]), (.int .u64 T2), (.tuple #[.agg #[.slice Az4 Nz4 Cz4], .int .i64 (neE T1 T2)]), (.agg #[.slice Az4 Nz4 Cz4]), (.int .i64 (neE T1 T2)), (.int .i64 (neE T1 T2)), (.bool true), (.bool true), (.agg #[.slice Az4 Nz4 Cz4]), (.agg #[.slice a1 len1 cap1]), (.int .i64 0), (.bool true), (.bool true), (.tuple #[.int .u64 (reV T1 x1 (neV T1 x1 T2)), .int .i64 (reE x1 (neV T1 x1 T2))]), (.int .u64 T1), (.agg #[.slice a1 len1 cap1]), (.agg #[.slice Az4 Nz4 Cz4]), (.tuple #[.int .u64 (reV T1 x1 (neV T1 x1 T2)), .int .i64 (reE x1 (neV T1 x1 T2))]), (.int .u64 (reV T1 x1 (neV T1 x1 T2))), (.int .i64 (reE x1 (neV T1 x1 T2))), (.int .i64 (reE x1 (neV T1 x1 T2))), (.bool false), (.bool false), (.int .u64 (reV T1 x1 (neV T1 x1 T2))), (.int .u64 T2), (.bool false), (.bool false), ud, ud, ud, ud, ud, ud, ud, ud, ud, ud, ud, ud, ud, ud, ud, ud, ud, ud, ud, ud, ud, ud, ud, ud, ud, ud, ud, ud, ud, ud, ud, ud, ud, ud, ud], []⟩) (by kernel_rfl) ?_
              refine wp_cond_false (by kernel_rfl) ?_
              refine wp_skip_then ?_
              refine wp_seq ?_
              refine wl_start ?_
              refine wl_take (some 55) (.int .u64 T1) rfl rfl (by kernel_rfl) ?_
              refine wl_take (some 56) (.agg #[.slice a1 len1 cap1]) rfl rfl (run_lp 4 (by kernel_rfl) (by kernel_rfl) (ldx26 (X4.cell (i := 0) rfl))) ?_
              refine wl_take (some 57) (.int .u64 T2) rfl rfl (by kernel_rfl) ?_
              refine wl_call (some 58) 11 #[.int .u64 T1, .agg #[.slice a1 len1 cap1], .int .u64 T2] rfl rfl (by kernel_rfl) (sIssue (w64 rt1) N1 (by omega) (w64 rt2)) ?_
              rintro e1 v19w ⟨Az32, Nz32, Cz32, rfl, Oz32, Kz32, B⟩
              refine ⟨_, rfl, ?_⟩
              replace N1 := N1.keep B
              replace X4 := X4.keep B
              replace L3 := L3.keep B
              replace Oz4 := Oz4.keep B
              replace X7 := X7.keep B
              replace BB := joinB BB B
              clear B
              refine wl_take (some 54) (.tuple #[.agg #[.slice Az32 Nz32 Cz32], .int .i64 (isE T1 x1 T2)]) rfl rfl (by kernel_rfl) ?_
              refine wl_take (some 59) (.agg #[.slice Az32 Nz32 Cz32]) rfl rfl (by kernel_rfl) ?_
              refine wl_take (some 60) (.int .i64 (isE T1 x1 T2)) rfl rfl (by kernel_rfl) ?_
              have bs19 := BB.size
              refine wl_new 11 59 26 [.slice none 0 0] [.slice Az32 Nz32 Cz32] rfl rfl rfl rfl rfl rfl allocx26 (fun _ => by kernel_rfl) (fun _ => by kernel_rfl) (by kernel_rfl) rfl (by kernel_rfl) ?_
              intro v20w g20v X11 hg20v B
              replace N1 := N1.keep B
              replace X4 := X4.keep B
              replace L3 := L3.keep B
              replace Oz4 := Oz4.keep B
              replace X7 := X7.keep B
              replace Oz32 := Oz32.keep B
              replace BB := joinB BB B
              clear B
              refine wl_take (some 12) (.int .i64 (isE T1 x1 T2)) rfl rfl (by kernel_rfl) ?_
              refine wl_nil ?_
              refine wp_then ?_
              refine wp_seq ?_
              refine wp_seq ?_
              refine wl_start ?_
              refine wl_take (some 61) (.int .i64 (isE T1 x1 T2)) rfl rfl (by kernel_rfl) ?_
              by_cases c33 : isE T1 x1 T2 = 0
              · skip
                refine wl_eq (some 62) (.bool ((isE T1 x1 T2 : Int) != 0)) (.bool false) (congrArg Value.bool (bne_eq_false_iff_eq.2 c33)) rfl rfl (by kernel_rfl) ?_
                refine wl_take (some 63) (.bool false) rfl rfl (by kernel_rfl) ?_
                refine wg_take (some 64) (.agg #[.slice a1 len1 cap1]) (by kernel_rfl) rfl (run_lp 4 (by kernel_rfl) (by kernel_rfl) (ldx26 (X4.cell (i := 0) rfl))) ?_
                by_cases c34 : x1 = 0
                · skip
                  refine wg_call (some 65) 10 #[.agg #[.slice a1 len1 cap1]] (by kernel_rfl) rfl (by kernel_rfl) (zeroD N1 (by omega) true (decide_eq_true c34)) ?_
                  rintro e1 v21w ⟨rfl, B⟩
                  refine ⟨_, rfl, ?_⟩
                  replace N1 := N1.keep B
                  replace X4 := X4.keep B
                  replace L3 := L3.keep B
                  replace Oz4 := Oz4.keep B
                  replace X7 := X7.keep B
                  replace Oz32 := Oz32.keep B
                  replace X11 := X11.keep B
                  replace BB := joinB BB B
                  clear B
                  refine wg_take (some 66) (.bool true) (by kernel_rfl) rfl (by kernel_rfl) ?_
                  refine wg_take (some 67) (.int .u64 T1) (by kernel_rfl) rfl (by kernel_rfl) ?_
                  by_cases c35 : 0 < T1
                  · skip
                    refine wg_eq (some 68) (.bool (decide ((0 : Int) < T1))) (.bool true) (congrArg Value.bool (decide_eq_true c35)) (by kernel_rfl) rfl (by kernel_rfl) ?_
                    refine wg_take (some 69) (.bool true) (by kernel_rfl) rfl (by kernel_rfl) ?_
                    refine wl_take (some 70) (.bool true) rfl rfl (by kernel_rfl) ?_
                    refine wl_nil ?_
                    refine wp_then ?_
                    refine wp_frame (a' := ⟨#[(.int .u64 T1), (.agg #[.slice a1 len1 cap1]), (.int .u64 T2), ud, (.pointer (some ⟨g1v, 0, none⟩)), ud, (.bool false), (.pointer (some ⟨g6v, 0, none⟩)), (.int .i64 (neE T1 T2)), (.int .u64 (reV T1 x1 (neV T1 x1 T2))), (.int .i64 (reE x1 (neV T1 x1 T2))), (.pointer (some ⟨g20v, 0, none⟩)), (.int .i64 (isE T1 x1 T2)), ud, ud, (.bool true), (.bool false), (.int .u64 y0), (.int .u64 T1), (.int .u64 y2), (.int .u64 T2), (.agg #[.slice a1 len1 cap1]), (.slice (some ⟨g3v, 0, none⟩) 1 1), (.bool true), (.bool false), (.tuple #[.agg #[.slice Az4 Nz4 Cz4], .int .i64 (neE T1 T2)]), (.int .u64 T1), (.agg #[.slice a1 len1 cap1]), (.int .u64 T2), (.tuple #[.agg #[.slice Az4 Nz4 Cz4], .int .i64 (neE T1 T2)]), (.agg #[.slice Az4 Nz4 Cz4]), (.int .i64 (neE T1 T2)), (.int .i64 (neE T1 T2)), (.bool true), (.bool true), (.agg #[.slice Az4 Nz4 Cz4]), (.agg #[.slice a1 len1 cap1]), (.int .i64 0), (.bool true), (.bool true), (.tuple #[.int .u64 (reV T1 x1 (neV T1 x1 T2)), .int .i64 (reE x1 (neV T1 x1 T2))]), (.int .u64 T1), (.agg #[.slice a1 len1 cap1]), (.agg #[.slice Az4 Nz4 Cz4]), (.tuple #[.int .u64 (reV T1 x1 (neV T1 x1 T2)), .int .i64 (reE x1 (neV T1 x1 T2))]), (.int .u64 (reV T1 x1 (neV T1 x1 T2))), (.int .i64 (reE x1 (neV T1 x1 T2))), (.int .i64 (reE x1 (neV T1 x1 T2))), (.bool false), (.bool false), (.int .u64 (reV T1 x1 (neV T1 x1 T2))), (.int .u64 T2), (.bool false), (.bool false), (.tuple #[.agg #[.slice Az32 Nz32 Cz32], .int .i64 (isE T1 x1 T2)]), (.int .u64 T1), (.agg #[.slice a1 len1 cap1]), (.int .u64 T2), (.tuple #[.agg #[.slice Az32 Nz32 Cz32], .int .i64 (isE T1 x1 T2)]), (.agg #[.slice Az32 Nz32 Cz32]), (.int .i64 (isE T1 x1 T2)), (.int .i64 (isE T1 x1 T2)), (.bool false), (.bool false), (.agg #[.slice a1 len1 cap1]), (.bool true), (.bool true), (.int .u64 T1), (.bool true), (.bool true), (.bool true), ud, ud, ud, ud, ud, ud, ud, ud, ud, ud, ud, ud, ud, ud, ud, ud, ud, ud], []⟩) (by kernel_rfl) ?_
                    refine wp_cond_true (by kernel_rfl) ?_
                    refine wp_seq ?_
                    refine wl_start ?_
                    refine wl_take (some 6) (.bool true) rfl rfl (by kernel_rfl) ?_
                    refine wl_nil ?_
                    refine wp_then ?_
                    refine wp_ret ?_
                    repeat (first | refine ret_then ?_ | refine ret_block ?_)
                    refine bodyPost_ret (results_tmp rfl _ _ _) rfl ?_
                    exact ⟨by kernel_rfl, BB⟩
                  · skip
                    refine wg_eq (some 68) (.bool (decide ((0 : Int) < T1))) (.bool false) (congrArg Value.bool (decide_eq_false c35)) (by kernel_rfl) rfl (by kernel_rfl) ?_
                    refine wg_take (some 69) (.bool false) (by kernel_rfl) rfl (by kernel_rfl) ?_
                    refine wl_take (some 70) (.bool false) rfl rfl (by kernel_rfl) ?_
                    refine wl_nil ?_
                    refine wp_then ?_
                    refine wp_frame (a' := ⟨#[(.int .u64 T1), (.agg #[.slice a1 len1 cap1]), (.int .u64 T2), ud, (.pointer (some ⟨g1v, 0, none⟩)), ud, (.bool false), (.pointer (some ⟨g6v, 0, none⟩)), (.int .i64 (neE T1 T2)), (.int .u64 (reV T1 x1 (neV T1 x1 T2))), (.int .i64 (reE x1 (neV T1 x1 T2))), (.pointer (some ⟨g20v, 0, none⟩)), (.int .i64 (isE T1 x1 T2)), ud, ud, (.bool true), (.bool false), (.int .u64 y0), (.int .u64 T1), (.int .u64 y2), (.int .u64 T2), (.agg #[.slice a1 len1 cap1]), (.slice (some ⟨g3v, 0, none⟩) 1 1), (.bool true), (.bool false), (.tuple #[.agg #[.slice Az4 Nz4 Cz4], .int .i64 (neE T1 T2)]), (.int .u64 T1), (.agg #[.slice a1 len1 cap1]), (.int .u64 T2), (.tuple #[.agg #[.slice Az4 Nz4 Cz4], .int .i64 (neE T1 T2)]), (.agg #[.slice Az4 Nz4 Cz4]), (.int .i64 (neE T1 T2)), (.int .i64 (neE T1 T2)), (.bool true), (.bool true), (.agg #[.slice Az4 Nz4 Cz4]), (.agg #[.slice a1 len1 cap1]), (.int .i64 0), (.bool true), (.bool true), (.tuple #[.int .u64 (reV T1 x1 (neV T1 x1 T2)), .int .i64 (reE x1 (neV T1 x1 T2))]), (.int .u64 T1), (.agg #[.slice a1 len1 cap1]), (.agg #[.slice Az4 Nz4 Cz4]), (.tuple #[.int .u64 (reV T1 x1 (neV T1 x1 T2)), .int .i64 (reE x1 (neV T1 x1 T2))]), (.int .u64 (reV T1 x1 (neV T1 x1 T2))), (.int .i64 (reE x1 (neV T1 x1 T2))), (.int .i64 (reE x1 (neV T1 x1 T2))), (.bool false), (.bool false), (.int .u64 (reV T1 x1 (neV T1 x1 T2))), (.int .u64 T2), (.bool false), (.bool false), (.tuple #[.agg #[.slice Az32 Nz32 Cz32], .int .i64 (isE T1 x1 T2)]), (.int .u64 T1), (.agg #[.slice a1 len1 cap1]), (.int .u64 T2), (.tuple #[.agg #[.slice Az32 Nz32 Cz32], .int .i64 (isE T1 x1 T2)]), (.agg #[.slice Az32 Nz32 Cz32]), (.int .i64 (isE T1 x1 T2)), (.int .i64 (isE T1 x1 T2)), (.bool false), (.bool false), (.agg #[.slice a1 len1 cap1]), (.bool true), (.bool true), (.int .u64 T1), (.bool false), (.bool false), (.bool false), ud, ud, ud, ud, ud, ud, ud, ud, ud, ud, ud, ud, ud, ud, ud, ud, ud, ud], []⟩) (by kernel_rfl) ?_
                    refine wp_cond_false (by kernel_rfl) ?_
                    refine wp_skip_then ?_
                    refine wp_seq ?_
                    refine rg_start (S := fun w' => Below v21w.drew.heap.size v21w.drew w') (by kernel_rfl) (Below.refl _ _) ?_
                    replace N1 := N1.drew
                    replace X4 := X4.drew
                    replace L3 := L3.drew
                    replace Oz4 := Oz4.drew
                    replace X7 := X7.drew
                    replace Oz32 := Oz32.drew
                    replace X11 := X11.drew
                    replace BB := BB.drew
                    have hS := Below.refl v21w.drew.heap.size v21w.drew
                    have UX4 := X4
                    have UL3 := L3
                    have UX7 := X7
                    have UX11 := X11
                    refine rg_take 0 (some 72) (.int .u64 T1) (by kernel_rfl) (fun _ _ => by kernel_rfl) (fun _ _ _ h => h) hS ?_
                    refine rg_take 1 (some 73) (.int .u64 T2) (by kernel_rfl) (fun _ _ => by kernel_rfl) (fun _ _ _ h => h) hS ?_
                    have rg36 : 0 ≤ T1 + T2 ∧ T1 + T2 < 18446744073709551616 := by omega
                    refine rg_take 2 (some 74) (.int .u64 (T1 + T2)) (by kernel_rfl) (fun _ _ => run_addu (x := 72) (y := 73) (p := T1) (q := T2) (by kernel_rfl) (by kernel_rfl) (by kernel_rfl) rg36) (fun _ _ _ h => h) hS ?_
                    refine rg_load 3 (some 75) (.agg #[.slice a1 len1 cap1]) 26 4 (g1v) 0 (by kernel_rfl) (by kernel_rfl) (by kernel_rfl) (fun _ hb => ldx26 ((UX4.keep hb).cell (i := 0) rfl)) (fun _ _ _ h => h) hS ?_
                    refine rg_load 4 (some 76) (.agg #[.slice Az32 Nz32 Cz32]) 26 11 (g20v) 0 (by kernel_rfl) (by kernel_rfl) (by kernel_rfl) (fun _ hb => ldx26 ((UX11.keep hb).cell (i := 0) rfl)) (fun _ _ _ h => h) hS ?_
                    refine rg_load 6 (some 78) (.agg #[.slice Az32 Nz32 Cz32]) 26 11 (g20v) 0 (by kernel_rfl) (by kernel_rfl) (by kernel_rfl) (fun _ hb => ldx26 ((UX11.keep hb).cell (i := 0) rfl)) (fun _ _ _ h => h) hS ?_
                    refine rg_call 5 (some 77) 13 #[.agg #[.slice a1 len1 cap1], .agg #[.slice Az32 Nz32 Cz32]] (by kernel_rfl) (by kernel_rfl) (dAdd N1 Oz32.a (by omega) (by omega)) ?_
                    rintro e1 v22w ⟨Az37, Nz37, Cz37, rfl, Oz37, Kz37, B⟩
                    refine ⟨_, rfl, joinB hS B, ?_⟩
                    replace hS := joinB hS B
                    replace N1 := N1.keep B
                    replace X4 := X4.keep B
                    replace L3 := L3.keep B
                    replace Oz4 := Oz4.keep B
                    replace X7 := X7.keep B
                    replace Oz32 := Oz32.keep B
                    replace X11 := X11.keep B
                    replace BB := joinB BB B
                    clear B
                    refine rg_call 7 (some 79) 14 #[.int .u64 (T1 + T2), .agg #[.slice Az37 Nz37 Cz37], .agg #[.slice Az32 Nz32 Cz32]] (by kernel_rfl) (by kernel_rfl) (sRedeem rg36 Oz37.a (by omega) Oz32.a (by omega)) ?_
                    rintro e1 v23w ⟨rfl, B⟩
                    refine ⟨_, rfl, joinB hS B, ?_⟩
                    replace hS := joinB hS B
                    replace N1 := N1.keep B
                    replace X4 := X4.keep B
                    replace L3 := L3.keep B
                    replace Oz4 := Oz4.keep B
                    replace X7 := X7.keep B
                    replace Oz32 := Oz32.keep B
                    replace X11 := X11.keep B
                    replace Oz37 := Oz37.keep B
                    replace BB := joinB BB B
                    clear B
                    have rg38 := re_rng (S := (x1 + (isV T1 x1 T2))) rg36 Oz32.a.nonneg
                    have kf39 := re_facts (T := T1 + T2) (S := (x1 + (isV T1 x1 T2))) (x := (isV T1 x1 T2)) rg36.1 Oz32.a.nonneg
                    refine rg_take 8 (some 71) (.tuple #[.int .u64 (reV (T1 + T2) (x1 + (isV T1 x1 T2)) (isV T1 x1 T2)), .int .i64 (reE (x1 + (isV T1 x1 T2)) (isV T1 x1 T2))]) (by kernel_rfl) (fun _ _ => by kernel_rfl) (fun _ _ _ h => h) hS ?_
                    refine rg_take 9 (some 80) (.int .u64 (reV (T1 + T2) (x1 + (isV T1 x1 T2)) (isV T1 x1 T2))) (by kernel_rfl) (fun _ _ => by kernel_rfl) (fun _ _ _ h => h) hS ?_
                    refine rg_take 10 (some 81) (.int .i64 (reE (x1 + (isV T1 x1 T2)) (isV T1 x1 T2))) (by kernel_rfl) (fun _ _ => by kernel_rfl) (fun _ _ _ h => h) hS ?_
                    refine rg_take 11 (some 13) (.int .u64 (reV (T1 + T2) (x1 + (isV T1 x1 T2)) (isV T1 x1 T2))) (by kernel_rfl) (fun _ _ => by kernel_rfl) (fun _ _ _ h => h) hS ?_
                    refine rg_take 12 (some 14) (.int .i64 (reE (x1 + (isV T1 x1 T2)) (isV T1 x1 T2))) (by kernel_rfl) (fun _ _ => by kernel_rfl) (fun _ _ _ h => h) hS ?_
                    refine rg_done (by kernel_rfl) ?_
                    clear hS UX4 UL3 UX7 UX11
                    refine wp_then ?_
                    refine wp_seq ?_
                    refine wl_start ?_
                    refine wl_take (some 82) (.int .i64 (reE (x1 + (isV T1 x1 T2)) (isV T1 x1 T2))) rfl rfl (by kernel_rfl) ?_
                    by_cases c40 : reE (x1 + (isV T1 x1 T2)) (isV T1 x1 T2) = 0
                    · skip
                      refine wl_eq (some 83) (.bool ((reE (x1 + (isV T1 x1 T2)) (isV T1 x1 T2) : Int) == 0)) (.bool true) (congrArg Value.bool (beq_iff_eq.2 c40)) rfl rfl (by kernel_rfl) ?_
                      refine wl_take (some 84) (.bool true) rfl rfl (by kernel_rfl) ?_
                      refine wg_take (some 85) (.int .u64 (reV (T1 + T2) (x1 + (isV T1 x1 T2)) (isV T1 x1 T2))) (by kernel_rfl) rfl (by kernel_rfl) ?_
                      refine wg_take (some 86) (.int .u64 T2) (by kernel_rfl) rfl (by kernel_rfl) ?_
                      by_cases c41 : reV (T1 + T2) (x1 + (isV T1 x1 T2)) (isV T1 x1 T2) ≤ T2
                      · skip
                        refine wg_eq (some 87) (.bool (decide ((reV (T1 + T2) (x1 + (isV T1 x1 T2)) (isV T1 x1 T2) : Int) ≤ T2))) (.bool true) (congrArg Value.bool (decide_eq_true c41)) (by kernel_rfl) rfl (by kernel_rfl) ?_
                        refine wl_take (some 88) (.bool true) rfl rfl (by kernel_rfl) ?_
                        refine wl_take (some 6) (.bool true) rfl rfl (by kernel_rfl) ?_
                        refine wl_nil ?_
                        refine wp_then ?_
                        refine wp_frame (a' := ⟨#[(.int .u64 T1), (.agg #[.slice a1 len1 cap1]), (.int .u64 T2), ud, (.pointer (some ⟨g1v, 0, none⟩)), ud, (.bool true), (.pointer (some ⟨g6v, 0, none⟩)), (.int .i64 (neE T1 T2)), (.int .u64 (reV T1 x1 (neV T1 x1 T2))), (.int .i64 (reE x1 (neV T1 x1 T2))), (.pointer (some ⟨g20v, 0, none⟩)), (.int .i64 (isE T1 x1 T2)), (.int .u64 (reV (T1 + T2) (x1 + (isV T1 x1 T2)) (isV T1 x1 T2))), (.int .i64 (reE (x1 + (isV T1 x1 T2)) (isV T1 x1 T2))), (.bool true), (.bool false), (.int .u64 y0), (.int .u64 T1), (.int .u64 y2), (.int .u64 T2), (.agg #[.slice a1 len1 cap1]), (.slice (some ⟨g3v, 0, none⟩) 1 1), (.bool true), (.bool false), (.tuple #[.agg #[.slice Az4 Nz4 Cz4], .int .i64 (neE T1 T2)]), (.int .u64 T1), (.agg #[.slice a1 len1 cap1]), (.int .u64 T2), (.tuple #[.agg #[.slice Az4 Nz4 Cz4], .int .i64 (neE T1 T2)]), (.agg #[.slice Az4 Nz4 Cz4]), (.int .i64 (neE T1 T2)), (.int .i64 (neE T1 T2)), (.bool true), (.bool true), (.agg #[.slice Az4 Nz4 Cz4]), (.agg #[.slice a1 len1 cap1]), (.int .i64 0), (.bool true), (.bool true), (.tuple #[.int .u64 (reV T1 x1 (neV T1 x1 T2)), .int .i64 (reE x1 (neV T1 x1 T2))]), (.int .u64 T1), (.agg #[.slice a1 len1 cap1]), (.agg #[.slice Az4 Nz4 Cz4]), (.tuple #[.int .u64 (reV T1 x1 (neV T1 x1 T2)), .int .i64 (reE x1 (neV T1 x1 T2))]), (.int .u64 (reV T1 x1 (neV T1 x1 T2))), (.int .i64 (reE x1 (neV T1 x1 T2))), (.int .i64 (reE x1 (neV T1 x1 T2))), (.bool false), (.bool false), (.int .u64 (reV T1 x1 (neV T1 x1 T2))), (.int .u64 T2), (.bool false), (.bool false), (.tuple #[.agg #[.slice Az32 Nz32 Cz32], .int .i64 (isE T1 x1 T2)]), (.int .u64 T1), (.agg #[.slice a1 len1 cap1]), (.int .u64 T2), (.tuple #[.agg #[.slice Az32 Nz32 Cz32], .int .i64 (isE T1 x1 T2)]), (.agg #[.slice Az32 Nz32 Cz32]), (.int .i64 (isE T1 x1 T2)), (.int .i64 (isE T1 x1 T2)), (.bool false), (.bool false), (.agg #[.slice a1 len1 cap1]), (.bool true), (.bool true), (.int .u64 T1), (.bool false), (.bool false), (.bool false), (.tuple #[.int .u64 (reV (T1 + T2) (x1 + (isV T1 x1 T2)) (isV T1 x1 T2)), .int .i64 (reE (x1 + (isV T1 x1 T2)) (isV T1 x1 T2))]), (.int .u64 T1), (.int .u64 T2), (.int .u64 (T1 + T2)), (.agg #[.slice a1 len1 cap1]), (.agg #[.slice Az32 Nz32 Cz32]), (.agg #[.slice Az37 Nz37 Cz37]), (.agg #[.slice Az32 Nz32 Cz32]), (.tuple #[.int .u64 (reV (T1 + T2) (x1 + (isV T1 x1 T2)) (isV T1 x1 T2)), .int .i64 (reE (x1 + (isV T1 x1 T2)) (isV T1 x1 T2))]), (.int .u64 (reV (T1 + T2) (x1 + (isV T1 x1 T2)) (isV T1 x1 T2))), (.int .i64 (reE (x1 + (isV T1 x1 T2)) (isV T1 x1 T2))), (.int .i64 (reE (x1 + (isV T1 x1 T2)) (isV T1 x1 T2))), (.bool true), (.bool true), (.int .u64 (reV (T1 + T2) (x1 + (isV T1 x1 T2)) (isV T1 x1 T2))), (.int .u64 T2), (.bool true), (.bool true)], []⟩) (by kernel_rfl) ?_
                        refine wp_ret ?_
                        repeat (first | refine ret_then ?_ | refine ret_block ?_)
                        refine bodyPost_ret (results_tmp rfl _ _ _) rfl ?_
                        exact ⟨by kernel_rfl, BB⟩
                      · skip
                        refine wg_eq (some 87) (.bool (decide ((reV (T1 + T2) (x1 + (isV T1 x1 T2)) (isV T1 x1 T2) : Int) ≤ T2))) (.bool false) (congrArg Value.bool (decide_eq_false c41)) (by kernel_rfl) rfl (by kernel_rfl) ?_
                        refine wl_take (some 88) (.bool false) rfl rfl (by kernel_rfl) ?_
                        refine wl_take (some 6) (.bool false) rfl rfl (by kernel_rfl) ?_
                        refine wl_nil ?_
                        refine wp_then ?_
                        refine wp_frame (a' := ⟨#[(.int .u64 T1), (.agg #[.slice a1 len1 cap1]), (.int .u64 T2), ud, (.pointer (some ⟨g1v, 0, none⟩)), ud, (.bool false), (.pointer (some ⟨g6v, 0, none⟩)), (.int .i64 (neE T1 T2)), (.int .u64 (reV T1 x1 (neV T1 x1 T2))), (.int .i64 (reE x1 (neV T1 x1 T2))), (.pointer (some ⟨g20v, 0, none⟩)), (.int .i64 (isE T1 x1 T2)), (.int .u64 (reV (T1 + T2) (x1 + (isV T1 x1 T2)) (isV T1 x1 T2))), (.int .i64 (reE (x1 + (isV T1 x1 T2)) (isV T1 x1 T2))), (.bool true), (.bool false), (.int .u64 y0), (.int .u64 T1), (.int .u64 y2), (.int .u64 T2), (.agg #[.slice a1 len1 cap1]), (.slice (some ⟨g3v, 0, none⟩) 1 1), (.bool true), (.bool false), (.tuple #[.agg #[.slice Az4 Nz4 Cz4], .int .i64 (neE T1 T2)]), (.int .u64 T1), (.agg #[.slice a1 len1 cap1]), (.int .u64 T2), (.tuple #[.agg #[.slice Az4 Nz4 Cz4], .int .i64 (neE T1 T2)]), (.agg #[.slice Az4 Nz4 Cz4]), (.int .i64 (neE T1 T2)), (.int .i64 (neE T1 T2)), (.bool true), (.bool true), (.agg #[.slice Az4 Nz4 Cz4]), (.agg #[.slice a1 len1 cap1]), (.int .i64 0), (.bool true), (.bool true), (.tuple #[.int .u64 (reV T1 x1 (neV T1 x1 T2)), .int .i64 (reE x1 (neV T1 x1 T2))]), (.int .u64 T1), (.agg #[.slice a1 len1 cap1]), (.agg #[.slice Az4 Nz4 Cz4]), (.tuple #[.int .u64 (reV T1 x1 (neV T1 x1 T2)), .int .i64 (reE x1 (neV T1 x1 T2))]), (.int .u64 (reV T1 x1 (neV T1 x1 T2))), (.int .i64 (reE x1 (neV T1 x1 T2))), (.int .i64 (reE x1 (neV T1 x1 T2))), (.bool false), (.bool false), (.int .u64 (reV T1 x1 (neV T1 x1 T2))), (.int .u64 T2), (.bool false), (.bool false), (.tuple #[.agg #[.slice Az32 Nz32 Cz32], .int .i64 (isE T1 x1 T2)]), (.int .u64 T1), (.agg #[.slice a1 len1 cap1]), (.int .u64 T2), (.tuple #[.agg #[.slice Az32 Nz32 Cz32], .int .i64 (isE T1 x1 T2)]), (.agg #[.slice Az32 Nz32 Cz32]), (.int .i64 (isE T1 x1 T2)), (.int .i64 (isE T1 x1 T2)), (.bool false), (.bool false), (.agg #[.slice a1 len1 cap1]), (.bool true), (.bool true), (.int .u64 T1), (.bool false), (.bool false), (.bool false), (.tuple #[.int .u64 (reV (T1 + T2) (x1 + (isV T1 x1 T2)) (isV T1 x1 T2)), .int .i64 (reE (x1 + (isV T1 x1 T2)) (isV T1 x1 T2))]), (.int .u64 T1), (.int .u64 T2), (.int .u64 (T1 + T2)), (.agg #[.slice a1 len1 cap1]), (.agg #[.slice Az32 Nz32 Cz32]), (.agg #[.slice Az37 Nz37 Cz37]), (.agg #[.slice Az32 Nz32 Cz32]), (.tuple #[.int .u64 (reV (T1 + T2) (x1 + (isV T1 x1 T2)) (isV T1 x1 T2)), .int .i64 (reE (x1 + (isV T1 x1 T2)) (isV T1 x1 T2))]), (.int .u64 (reV (T1 + T2) (x1 + (isV T1 x1 T2)) (isV T1 x1 T2))), (.int .i64 (reE (x1 + (isV T1 x1 T2)) (isV T1 x1 T2))), (.int .i64 (reE (x1 + (isV T1 x1 T2)) (isV T1 x1 T2))), (.bool true), (.bool true), (.int .u64 (reV (T1 + T2) (x1 + (isV T1 x1 T2)) (isV T1 x1 T2))), (.int .u64 T2), (.bool false), (.bool false)], []⟩) (by kernel_rfl) ?_
                        exfalso
                        have kn := back_need (t := T2) (w64 rt1).1 hx1
                        have ki := back_issue (w64 rt1).1 hx1 (w64 rt2).1
                        clear BB
                        omega
                    · skip
                      refine wl_eq (some 83) (.bool ((reE (x1 + (isV T1 x1 T2)) (isV T1 x1 T2) : Int) == 0)) (.bool false) (congrArg Value.bool (beq_eq_false_iff_ne.2 c40)) rfl rfl (by kernel_rfl) ?_
                      refine wl_take (some 84) (.bool false) rfl rfl (by kernel_rfl) ?_
                      refine wg_not (some 85) (by kernel_rfl) rfl ?_
                      refine wg_not (some 86) (by kernel_rfl) rfl ?_
                      refine wg_not (some 87) (by kernel_rfl) rfl ?_
                      refine wl_take (some 88) (.bool false) rfl rfl (by kernel_rfl) ?_
                      refine wl_take (some 6) (.bool false) rfl rfl (by kernel_rfl) ?_
                      refine wl_nil ?_
                      refine wp_then ?_
                      refine wp_frame (a' := ⟨#[(.int .u64 T1), (.agg #[.slice a1 len1 cap1]), (.int .u64 T2), ud, (.pointer (some ⟨g1v, 0, none⟩)), ud, (.bool false), (.pointer (some ⟨g6v, 0, none⟩)), (.int .i64 (neE T1 T2)), (.int .u64 (reV T1 x1 (neV T1 x1 T2))), (.int .i64 (reE x1 (neV T1 x1 T2))), (.pointer (some ⟨g20v, 0, none⟩)), (.int .i64 (isE T1 x1 T2)), (.int .u64 (reV (T1 + T2) (x1 + (isV T1 x1 T2)) (isV T1 x1 T2))), (.int .i64 (reE (x1 + (isV T1 x1 T2)) (isV T1 x1 T2))), (.bool true), (.bool false), (.int .u64 y0), (.int .u64 T1), (.int .u64 y2), (.int .u64 T2), (.agg #[.slice a1 len1 cap1]), (.slice (some ⟨g3v, 0, none⟩) 1 1), (.bool true), (.bool false), (.tuple #[.agg #[.slice Az4 Nz4 Cz4], .int .i64 (neE T1 T2)]), (.int .u64 T1), (.agg #[.slice a1 len1 cap1]), (.int .u64 T2), (.tuple #[.agg #[.slice Az4 Nz4 Cz4], .int .i64 (neE T1 T2)]), (.agg #[.slice Az4 Nz4 Cz4]), (.int .i64 (neE T1 T2)), (.int .i64 (neE T1 T2)), (.bool true), (.bool true), (.agg #[.slice Az4 Nz4 Cz4]), (.agg #[.slice a1 len1 cap1]), (.int .i64 0), (.bool true), (.bool true), (.tuple #[.int .u64 (reV T1 x1 (neV T1 x1 T2)), .int .i64 (reE x1 (neV T1 x1 T2))]), (.int .u64 T1), (.agg #[.slice a1 len1 cap1]), (.agg #[.slice Az4 Nz4 Cz4]), (.tuple #[.int .u64 (reV T1 x1 (neV T1 x1 T2)), .int .i64 (reE x1 (neV T1 x1 T2))]), (.int .u64 (reV T1 x1 (neV T1 x1 T2))), (.int .i64 (reE x1 (neV T1 x1 T2))), (.int .i64 (reE x1 (neV T1 x1 T2))), (.bool false), (.bool false), (.int .u64 (reV T1 x1 (neV T1 x1 T2))), (.int .u64 T2), (.bool false), (.bool false), (.tuple #[.agg #[.slice Az32 Nz32 Cz32], .int .i64 (isE T1 x1 T2)]), (.int .u64 T1), (.agg #[.slice a1 len1 cap1]), (.int .u64 T2), (.tuple #[.agg #[.slice Az32 Nz32 Cz32], .int .i64 (isE T1 x1 T2)]), (.agg #[.slice Az32 Nz32 Cz32]), (.int .i64 (isE T1 x1 T2)), (.int .i64 (isE T1 x1 T2)), (.bool false), (.bool false), (.agg #[.slice a1 len1 cap1]), (.bool true), (.bool true), (.int .u64 T1), (.bool false), (.bool false), (.bool false), (.tuple #[.int .u64 (reV (T1 + T2) (x1 + (isV T1 x1 T2)) (isV T1 x1 T2)), .int .i64 (reE (x1 + (isV T1 x1 T2)) (isV T1 x1 T2))]), (.int .u64 T1), (.int .u64 T2), (.int .u64 (T1 + T2)), (.agg #[.slice a1 len1 cap1]), (.agg #[.slice Az32 Nz32 Cz32]), (.agg #[.slice Az37 Nz37 Cz37]), (.agg #[.slice Az32 Nz32 Cz32]), (.tuple #[.int .u64 (reV (T1 + T2) (x1 + (isV T1 x1 T2)) (isV T1 x1 T2)), .int .i64 (reE (x1 + (isV T1 x1 T2)) (isV T1 x1 T2))]), (.int .u64 (reV (T1 + T2) (x1 + (isV T1 x1 T2)) (isV T1 x1 T2))), (.int .i64 (reE (x1 + (isV T1 x1 T2)) (isV T1 x1 T2))), (.int .i64 (reE (x1 + (isV T1 x1 T2)) (isV T1 x1 T2))), (.bool false), (.bool false), ud, ud, ud, (.bool false)], []⟩) (by kernel_rfl) ?_
                      exfalso
                      have kn := back_need (t := T2) (w64 rt1).1 hx1
                      have ki := back_issue (w64 rt1).1 hx1 (w64 rt2).1
                      clear BB
                      omega
                · skip
                  refine wg_call (some 65) 10 #[.agg #[.slice a1 len1 cap1]] (by kernel_rfl) rfl (by kernel_rfl) (zeroD N1 (by omega) false (decide_eq_false c34)) ?_
                  rintro e1 v24w ⟨rfl, B⟩
                  refine ⟨_, rfl, ?_⟩
                  replace N1 := N1.keep B
                  replace X4 := X4.keep B
                  replace L3 := L3.keep B
                  replace Oz4 := Oz4.keep B
                  replace X7 := X7.keep B
                  replace Oz32 := Oz32.keep B
                  replace X11 := X11.keep B
                  replace BB := joinB BB B
                  clear B
                  refine wg_take (some 66) (.bool false) (by kernel_rfl) rfl (by kernel_rfl) ?_
                  refine wg_not (some 67) (by kernel_rfl) rfl ?_
                  refine wg_not (some 68) (by kernel_rfl) rfl ?_
                  refine wg_take (some 69) (.bool false) (by kernel_rfl) rfl (by kernel_rfl) ?_
                  refine wl_take (some 70) (.bool false) rfl rfl (by kernel_rfl) ?_
                  refine wl_nil ?_
                  refine wp_then ?_
                  refine wp_frame (a' := ⟨#[(.int .u64 T1), (.agg #[.slice a1 len1 cap1]), (.int .u64 T2), ud, (.pointer (some ⟨g1v, 0, none⟩)), ud, (.bool false), (.pointer (some ⟨g6v, 0, none⟩)), (.int .i64 (neE T1 T2)), (.int .u64 (reV T1 x1 (neV T1 x1 T2))), (.int .i64 (reE x1 (neV T1 x1 T2))), (.pointer (some ⟨g20v, 0, none⟩)), (.int .i64 (isE T1 x1 T2)), ud, ud, (.bool true), (.bool false), (.int .u64 y0), (.int .u64 T1), (.int .u64 y2), (.int .u64 T2), (.agg #[.slice a1 len1 cap1]), (.slice (some ⟨g3v, 0, none⟩) 1 1), (.bool true), (.bool false), (.tuple #[.agg #[.slice Az4 Nz4 Cz4], .int .i64 (neE T1 T2)]), (.int .u64 T1), (.agg #[.slice a1 len1 cap1]), (.int .u64 T2), (.tuple #[.agg #[.slice Az4 Nz4 Cz4], .int .i64 (neE T1 T2)]), (.agg #[.slice Az4 Nz4 Cz4]), (.int .i64 (neE T1 T2)), (.int .i64 (neE T1 T2)), (.bool true), (.bool true), (.agg #[.slice Az4 Nz4 Cz4]), (.agg #[.slice a1 len1 cap1]), (.int .i64 0), (.bool true), (.bool true), (.tuple #[.int .u64 (reV T1 x1 (neV T1 x1 T2)), .int .i64 (reE x1 (neV T1 x1 T2))]), (.int .u64 T1), (.agg #[.slice a1 len1 cap1]), (.agg #[.slice Az4 Nz4 Cz4]), (.tuple #[.int .u64 (reV T1 x1 (neV T1 x1 T2)), .int .i64 (reE x1 (neV T1 x1 T2))]), (.int .u64 (reV T1 x1 (neV T1 x1 T2))), (.int .i64 (reE x1 (neV T1 x1 T2))), (.int .i64 (reE x1 (neV T1 x1 T2))), (.bool false), (.bool false), (.int .u64 (reV T1 x1 (neV T1 x1 T2))), (.int .u64 T2), (.bool false), (.bool false), (.tuple #[.agg #[.slice Az32 Nz32 Cz32], .int .i64 (isE T1 x1 T2)]), (.int .u64 T1), (.agg #[.slice a1 len1 cap1]), (.int .u64 T2), (.tuple #[.agg #[.slice Az32 Nz32 Cz32], .int .i64 (isE T1 x1 T2)]), (.agg #[.slice Az32 Nz32 Cz32]), (.int .i64 (isE T1 x1 T2)), (.int .i64 (isE T1 x1 T2)), (.bool false), (.bool false), (.agg #[.slice a1 len1 cap1]), (.bool false), (.bool false), ud, ud, (.bool false), (.bool false), ud, ud, ud, ud, ud, ud, ud, ud, ud, ud, ud, ud, ud, ud, ud, ud, ud, ud], []⟩) (by kernel_rfl) ?_
                  refine wp_cond_false (by kernel_rfl) ?_
                  refine wp_skip_then ?_
                  refine wp_seq ?_
                  refine rg_start (S := fun w' => Below v24w.drew.heap.size v24w.drew w') (by kernel_rfl) (Below.refl _ _) ?_
                  replace N1 := N1.drew
                  replace X4 := X4.drew
                  replace L3 := L3.drew
                  replace Oz4 := Oz4.drew
                  replace X7 := X7.drew
                  replace Oz32 := Oz32.drew
                  replace X11 := X11.drew
                  replace BB := BB.drew
                  have hS := Below.refl v24w.drew.heap.size v24w.drew
                  have UX4 := X4
                  have UL3 := L3
                  have UX7 := X7
                  have UX11 := X11
                  refine rg_take 0 (some 72) (.int .u64 T1) (by kernel_rfl) (fun _ _ => by kernel_rfl) (fun _ _ _ h => h) hS ?_
                  refine rg_take 1 (some 73) (.int .u64 T2) (by kernel_rfl) (fun _ _ => by kernel_rfl) (fun _ _ _ h => h) hS ?_
                  have rg42 : 0 ≤ T1 + T2 ∧ T1 + T2 < 18446744073709551616 := by omega
                  refine rg_take 2 (some 74) (.int .u64 (T1 + T2)) (by kernel_rfl) (fun _ _ => run_addu (x := 72) (y := 73) (p := T1) (q := T2) (by kernel_rfl) (by kernel_rfl) (by kernel_rfl) rg42) (fun _ _ _ h => h) hS ?_
                  refine rg_load 3 (some 75) (.agg #[.slice a1 len1 cap1]) 26 4 (g1v) 0 (by kernel_rfl) (by kernel_rfl) (by kernel_rfl) (fun _ hb => ldx26 ((UX4.keep hb).cell (i := 0) rfl)) (fun _ _ _ h => h) hS ?_
                  refine rg_load 4 (some 76) (.agg #[.slice Az32 Nz32 Cz32]) 26 11 (g20v) 0 (by kernel_rfl) (by kernel_rfl) (by kernel_rfl) (fun _ hb => ldx26 ((UX11.keep hb).cell (i := 0) rfl)) (fun _ _ _ h => h) hS ?_
                  refine rg_load 6 (some 78) (.agg #[.slice Az32 Nz32 Cz32]) 26 11 (g20v) 0 (by kernel_rfl) (by kernel_rfl) (by kernel_rfl) (fun _ hb => ldx26 ((UX11.keep hb).cell (i := 0) rfl)) (fun _ _ _ h => h) hS ?_
                  refine rg_call 5 (some 77) 13 #[.agg #[.slice a1 len1 cap1], .agg #[.slice Az32 Nz32 Cz32]] (by kernel_rfl) (by kernel_rfl) (dAdd N1 Oz32.a (by omega) (by omega)) ?_
                  rintro e1 v25w ⟨Az43, Nz43, Cz43, rfl, Oz43, Kz43, B⟩
                  refine ⟨_, rfl, joinB hS B, ?_⟩
                  replace hS := joinB hS B
                  replace N1 := N1.keep B
                  replace X4 := X4.keep B
                  replace L3 := L3.keep B
                  replace Oz4 := Oz4.keep B
                  replace X7 := X7.keep B
                  replace Oz32 := Oz32.keep B
                  replace X11 := X11.keep B
                  replace BB := joinB BB B
                  clear B
                  refine rg_call 7 (some 79) 14 #[.int .u64 (T1 + T2), .agg #[.slice Az43 Nz43 Cz43], .agg #[.slice Az32 Nz32 Cz32]] (by kernel_rfl) (by kernel_rfl) (sRedeem rg42 Oz43.a (by omega) Oz32.a (by omega)) ?_
                  rintro e1 v26w ⟨rfl, B⟩
                  refine ⟨_, rfl, joinB hS B, ?_⟩
                  replace hS := joinB hS B
                  replace N1 := N1.keep B
                  replace X4 := X4.keep B
                  replace L3 := L3.keep B
                  replace Oz4 := Oz4.keep B
                  replace X7 := X7.keep B
                  replace Oz32 := Oz32.keep B
                  replace X11 := X11.keep B
                  replace Oz43 := Oz43.keep B
                  replace BB := joinB BB B
                  clear B
                  have rg44 := re_rng (S := (x1 + (isV T1 x1 T2))) rg42 Oz32.a.nonneg
                  have kf45 := re_facts (T := T1 + T2) (S := (x1 + (isV T1 x1 T2))) (x := (isV T1 x1 T2)) rg42.1 Oz32.a.nonneg
                  refine rg_take 8 (some 71) (.tuple #[.int .u64 (reV (T1 + T2) (x1 + (isV T1 x1 T2)) (isV T1 x1 T2)), .int .i64 (reE (x1 + (isV T1 x1 T2)) (isV T1 x1 T2))]) (by kernel_rfl) (fun _ _ => by kernel_rfl) (fun _ _ _ h => h) hS ?_
                  refine rg_take 9 (some 80) (.int .u64 (reV (T1 + T2) (x1 + (isV T1 x1 T2)) (isV T1 x1 T2))) (by kernel_rfl) (fun _ _ => by kernel_rfl) (fun _ _ _ h => h) hS ?_
                  refine rg_take 10 (some 81) (.int .i64 (reE (x1 + (isV T1 x1 T2)) (isV T1 x1 T2))) (by kernel_rfl) (fun _ _ => by kernel_rfl) (fun _ _ _ h => h) hS ?_
                  refine rg_take 11 (some 13) (.int .u64 (reV (T1 + T2) (x1 + (isV T1 x1 T2)) (isV T1 x1 T2))) (by kernel_rfl) (fun _ _ => by kernel_rfl) (fun _ _ _ h => h) hS ?_
                  refine rg_take 12 (some 14) (.int .i64 (reE (x1 + (isV T1 x1 T2)) (isV T1 x1 T2))) (by kernel_rfl) (fun _ _ => by kernel_rfl) (fun _ _ _ h => h) hS ?_
                  refine rg_done (by kernel_rfl) ?_
                  clear hS UX4 UL3 UX7 UX11
                  refine wp_then ?_
                  refine wp_seq ?_
                  refine wl_start ?_
                  refine wl_take (some 82) (.int .i64 (reE (x1 + (isV T1 x1 T2)) (isV T1 x1 T2))) rfl rfl (by kernel_rfl) ?_
                  by_cases c46 : reE (x1 + (isV T1 x1 T2)) (isV T1 x1 T2) = 0
                  · skip
                    refine wl_eq (some 83) (.bool ((reE (x1 + (isV T1 x1 T2)) (isV T1 x1 T2) : Int) == 0)) (.bool true) (congrArg Value.bool (beq_iff_eq.2 c46)) rfl rfl (by kernel_rfl) ?_
                    refine wl_take (some 84) (.bool true) rfl rfl (by kernel_rfl) ?_
                    refine wg_take (some 85) (.int .u64 (reV (T1 + T2) (x1 + (isV T1 x1 T2)) (isV T1 x1 T2))) (by kernel_rfl) rfl (by kernel_rfl) ?_
                    refine wg_take (some 86) (.int .u64 T2) (by kernel_rfl) rfl (by kernel_rfl) ?_
                    by_cases c47 : reV (T1 + T2) (x1 + (isV T1 x1 T2)) (isV T1 x1 T2) ≤ T2
                    · skip
                      refine wg_eq (some 87) (.bool (decide ((reV (T1 + T2) (x1 + (isV T1 x1 T2)) (isV T1 x1 T2) : Int) ≤ T2))) (.bool true) (congrArg Value.bool (decide_eq_true c47)) (by kernel_rfl) rfl (by kernel_rfl) ?_
                      refine wl_take (some 88) (.bool true) rfl rfl (by kernel_rfl) ?_
                      refine wl_take (some 6) (.bool true) rfl rfl (by kernel_rfl) ?_
                      refine wl_nil ?_
                      refine wp_then ?_
                      refine wp_frame (a' := ⟨#[(.int .u64 T1), (.agg #[.slice a1 len1 cap1]), (.int .u64 T2), ud, (.pointer (some ⟨g1v, 0, none⟩)), ud, (.bool true), (.pointer (some ⟨g6v, 0, none⟩)), (.int .i64 (neE T1 T2)), (.int .u64 (reV T1 x1 (neV T1 x1 T2))), (.int .i64 (reE x1 (neV T1 x1 T2))), (.pointer (some ⟨g20v, 0, none⟩)), (.int .i64 (isE T1 x1 T2)), (.int .u64 (reV (T1 + T2) (x1 + (isV T1 x1 T2)) (isV T1 x1 T2))), (.int .i64 (reE (x1 + (isV T1 x1 T2)) (isV T1 x1 T2))), (.bool true), (.bool false), (.int .u64 y0), (.int .u64 T1), (.int .u64 y2), (.int .u64 T2), (.agg #[.slice a1 len1 cap1]), (.slice (some ⟨g3v, 0, none⟩) 1 1), (.bool true), (.bool false), (.tuple #[.agg #[.slice Az4 Nz4 Cz4], .int .i64 (neE T1 T2)]), (.int .u64 T1), (.agg #[.slice a1 len1 cap1]), (.int .u64 T2), (.tuple #[.agg #[.slice Az4 Nz4 Cz4], .int .i64 (neE T1 T2)]), (.agg #[.slice Az4 Nz4 Cz4]), (.int .i64 (neE T1 T2)), (.int .i64 (neE T1 T2)), (.bool true), (.bool true), (.agg #[.slice Az4 Nz4 Cz4]), (.agg #[.slice a1 len1 cap1]), (.int .i64 0), (.bool true), (.bool true), (.tuple #[.int .u64 (reV T1 x1 (neV T1 x1 T2)), .int .i64 (reE x1 (neV T1 x1 T2))]), (.int .u64 T1), (.agg #[.slice a1 len1 cap1]), (.agg #[.slice Az4 Nz4 Cz4]), (.tuple #[.int .u64 (reV T1 x1 (neV T1 x1 T2)), .int .i64 (reE x1 (neV T1 x1 T2))]), (.int .u64 (reV T1 x1 (neV T1 x1 T2))), (.int .i64 (reE x1 (neV T1 x1 T2))), (.int .i64 (reE x1 (neV T1 x1 T2))), (.bool false), (.bool false), (.int .u64 (reV T1 x1 (neV T1 x1 T2))), (.int .u64 T2), (.bool false), (.bool false), (.tuple #[.agg #[.slice Az32 Nz32 Cz32], .int .i64 (isE T1 x1 T2)]), (.int .u64 T1), (.agg #[.slice a1 len1 cap1]), (.int .u64 T2), (.tuple #[.agg #[.slice Az32 Nz32 Cz32], .int .i64 (isE T1 x1 T2)]), (.agg #[.slice Az32 Nz32 Cz32]), (.int .i64 (isE T1 x1 T2)), (.int .i64 (isE T1 x1 T2)), (.bool false), (.bool false), (.agg #[.slice a1 len1 cap1]), (.bool false), (.bool false), ud, ud, (.bool false), (.bool false), (.tuple #[.int .u64 (reV (T1 + T2) (x1 + (isV T1 x1 T2)) (isV T1 x1 T2)), .int .i64 (reE (x1 + (isV T1 x1 T2)) (isV T1 x1 T2))]), (.int .u64 T1), (.int .u64 T2), (.int .u64 (T1 + T2)), (.agg #[.slice a1 len1 cap1]), (.agg #[.slice Az32 Nz32 Cz32]), (.agg #[.slice Az43 Nz43 Cz43]), (.agg #[.slice Az32 Nz32 Cz32]), (.tuple #[.int .u64 (reV (T1 + T2) (x1 + (isV T1 x1 T2)) (isV T1 x1 T2)), .int .i64 (reE (x1 + (isV T1 x1 T2)) (isV T1 x1 T2))]), (.int .u64 (reV (T1 + T2) (x1 + (isV T1 x1 T2)) (isV T1 x1 T2))), (.int .i64 (reE (x1 + (isV T1 x1 T2)) (isV T1 x1 T2))), (.int .i64 (reE (x1 + (isV T1 x1 T2)) (isV T1 x1 T2))), (.bool true), (.bool true), (.int .u64 (reV (T1 + T2) (x1 + (isV T1 x1 T2)) (isV T1 x1 T2))), (.int .u64 T2), (.bool true), (.bool true)], []⟩) (by kernel_rfl) ?_
                      refine wp_ret ?_
                      repeat (first | refine ret_then ?_ | refine ret_block ?_)
                      refine bodyPost_ret (results_tmp rfl _ _ _) rfl ?_
                      exact ⟨by kernel_rfl, BB⟩
                    · skip
                      refine wg_eq (some 87) (.bool (decide ((reV (T1 + T2) (x1 + (isV T1 x1 T2)) (isV T1 x1 T2) : Int) ≤ T2))) (.bool false) (congrArg Value.bool (decide_eq_false c47)) (by kernel_rfl) rfl (by kernel_rfl) ?_
                      refine wl_take (some 88) (.bool false) rfl rfl (by kernel_rfl) ?_
                      refine wl_take (some 6) (.bool false) rfl rfl (by kernel_rfl) ?_
                      refine wl_nil ?_
                      refine wp_then ?_
                      refine wp_frame (a' := ⟨#[(.int .u64 T1), (.agg #[.slice a1 len1 cap1]), (.int .u64 T2), ud, (.pointer (some ⟨g1v, 0, none⟩)), ud, (.bool false), (.pointer (some ⟨g6v, 0, none⟩)), (.int .i64 (neE T1 T2)), (.int .u64 (reV T1 x1 (neV T1 x1 T2))), (.int .i64 (reE x1 (neV T1 x1 T2))), (.pointer (some ⟨g20v, 0, none⟩)), (.int .i64 (isE T1 x1 T2)), (.int .u64 (reV (T1 + T2) (x1 + (isV T1 x1 T2)) (isV T1 x1 T2))), (.int .i64 (reE (x1 + (isV T1 x1 T2)) (isV T1 x1 T2))), (.bool true), (.bool false), (.int .u64 y0), (.int .u64 T1), (.int .u64 y2), (.int .u64 T2), (.agg #[.slice a1 len1 cap1]), (.slice (some ⟨g3v, 0, none⟩) 1 1), (.bool true), (.bool false), (.tuple #[.agg #[.slice Az4 Nz4 Cz4], .int .i64 (neE T1 T2)]), (.int .u64 T1), (.agg #[.slice a1 len1 cap1]), (.int .u64 T2), (.tuple #[.agg #[.slice Az4 Nz4 Cz4], .int .i64 (neE T1 T2)]), (.agg #[.slice Az4 Nz4 Cz4]), (.int .i64 (neE T1 T2)), (.int .i64 (neE T1 T2)), (.bool true), (.bool true), (.agg #[.slice Az4 Nz4 Cz4]), (.agg #[.slice a1 len1 cap1]), (.int .i64 0), (.bool true), (.bool true), (.tuple #[.int .u64 (reV T1 x1 (neV T1 x1 T2)), .int .i64 (reE x1 (neV T1 x1 T2))]), (.int .u64 T1), (.agg #[.slice a1 len1 cap1]), (.agg #[.slice Az4 Nz4 Cz4]), (.tuple #[.int .u64 (reV T1 x1 (neV T1 x1 T2)), .int .i64 (reE x1 (neV T1 x1 T2))]), (.int .u64 (reV T1 x1 (neV T1 x1 T2))), (.int .i64 (reE x1 (neV T1 x1 T2))), (.int .i64 (reE x1 (neV T1 x1 T2))), (.bool false), (.bool false), (.int .u64 (reV T1 x1 (neV T1 x1 T2))), (.int .u64 T2), (.bool false), (.bool false), (.tuple #[.agg #[.slice Az32 Nz32 Cz32], .int .i64 (isE T1 x1 T2)]), (.int .u64 T1), (.agg #[.slice a1 len1 cap1]), (.int .u64 T2), (.tuple #[.agg #[.slice Az32 Nz32 Cz32], .int .i64 (isE T1 x1 T2)]), (.agg #[.slice Az32 Nz32 Cz32]), (.int .i64 (isE T1 x1 T2)), (.int .i64 (isE T1 x1 T2)), (.bool false), (.bool false), (.agg #[.slice a1 len1 cap1]), (.bool false), (.bool false), ud, ud, (.bool false), (.bool false), (.tuple #[.int .u64 (reV (T1 + T2) (x1 + (isV T1 x1 T2)) (isV T1 x1 T2)), .int .i64 (reE (x1 + (isV T1 x1 T2)) (isV T1 x1 T2))]), (.int .u64 T1), (.int .u64 T2), (.int .u64 (T1 + T2)), (.agg #[.slice a1 len1 cap1]), (.agg #[.slice Az32 Nz32 Cz32]), (.agg #[.slice Az43 Nz43 Cz43]), (.agg #[.slice Az32 Nz32 Cz32]), (.tuple #[.int .u64 (reV (T1 + T2) (x1 + (isV T1 x1 T2)) (isV T1 x1 T2)), .int .i64 (reE (x1 + (isV T1 x1 T2)) (isV T1 x1 T2))]), (.int .u64 (reV (T1 + T2) (x1 + (isV T1 x1 T2)) (isV T1 x1 T2))), (.int .i64 (reE (x1 + (isV T1 x1 T2)) (isV T1 x1 T2))), (.int .i64 (reE (x1 + (isV T1 x1 T2)) (isV T1 x1 T2))), (.bool true), (.bool true), (.int .u64 (reV (T1 + T2) (x1 + (isV T1 x1 T2)) (isV T1 x1 T2))), (.int .u64 T2), (.bool false), (.bool false)], []⟩) (by kernel_rfl) ?_
                      exfalso
                      have kn := back_need (t := T2) (w64 rt1).1 hx1
                      have ki := back_issue (w64 rt1).1 hx1 (w64 rt2).1
                      clear BB
                      omega
                  · skip
                    refine wl_eq (some 83) (.bool ((reE (x1 + (isV T1 x1 T2)) (isV T1 x1 T2) : Int) == 0)) (.bool false) (congrArg Value.bool (beq_eq_false_iff_ne.2 c46)) rfl rfl (by kernel_rfl) ?_
                    refine wl_take (some 84) (.bool false) rfl rfl (by kernel_rfl) ?_
                    refine wg_not (some 85) (by kernel_rfl) rfl ?_
                    refine wg_not (some 86) (by kernel_rfl) rfl ?_
                    refine wg_not (some 87) (by kernel_rfl) rfl ?_
                    refine wl_take (some 88) (.bool false) rfl rfl (by kernel_rfl) ?_
                    refine wl_take (some 6) (.bool false) rfl rfl (by kernel_rfl) ?_
                    refine wl_nil ?_
                    refine wp_then ?_
                    refine wp_frame (a' := ⟨#[(.int .u64 T1), (.agg #[.slice a1 len1 cap1]), (.int .u64 T2), ud, (.pointer (some ⟨g1v, 0, none⟩)), ud, (.bool false), (.pointer (some ⟨g6v, 0, none⟩)), (.int .i64 (neE T1 T2)), (.int .u64 (reV T1 x1 (neV T1 x1 T2))), (.int .i64 (reE x1 (neV T1 x1 T2))), (.pointer (some ⟨g20v, 0, none⟩)), (.int .i64 (isE T1 x1 T2)), (.int .u64 (reV (T1 + T2) (x1 + (isV T1 x1 T2)) (isV T1 x1 T2))), (.int .i64 (reE (x1 + (isV T1 x1 T2)) (isV T1 x1 T2))), (.bool true), (.bool false), (.int .u64 y0), (.int .u64 T1), (.int .u64 y2), (.int .u64 T2), (.agg #[.slice a1 len1 cap1]), (.slice (some ⟨g3v, 0, none⟩) 1 1), (.bool true), (.bool false), (.tuple #[.agg #[.slice Az4 Nz4 Cz4], .int .i64 (neE T1 T2)]), (.int .u64 T1), (.agg #[.slice a1 len1 cap1]), (.int .u64 T2), (.tuple #[.agg #[.slice Az4 Nz4 Cz4], .int .i64 (neE T1 T2)]), (.agg #[.slice Az4 Nz4 Cz4]), (.int .i64 (neE T1 T2)), (.int .i64 (neE T1 T2)), (.bool true), (.bool true), (.agg #[.slice Az4 Nz4 Cz4]), (.agg #[.slice a1 len1 cap1]), (.int .i64 0), (.bool true), (.bool true), (.tuple #[.int .u64 (reV T1 x1 (neV T1 x1 T2)), .int .i64 (reE x1 (neV T1 x1 T2))]), (.int .u64 T1), (.agg #[.slice a1 len1 cap1]), (.agg #[.slice Az4 Nz4 Cz4]), (.tuple #[.int .u64 (reV T1 x1 (neV T1 x1 T2)), .int .i64 (reE x1 (neV T1 x1 T2))]), (.int .u64 (reV T1 x1 (neV T1 x1 T2))), (.int .i64 (reE x1 (neV T1 x1 T2))), (.int .i64 (reE x1 (neV T1 x1 T2))), (.bool false), (.bool false), (.int .u64 (reV T1 x1 (neV T1 x1 T2))), (.int .u64 T2), (.bool false), (.bool false), (.tuple #[.agg #[.slice Az32 Nz32 Cz32], .int .i64 (isE T1 x1 T2)]), (.int .u64 T1), (.agg #[.slice a1 len1 cap1]), (.int .u64 T2), (.tuple #[.agg #[.slice Az32 Nz32 Cz32], .int .i64 (isE T1 x1 T2)]), (.agg #[.slice Az32 Nz32 Cz32]), (.int .i64 (isE T1 x1 T2)), (.int .i64 (isE T1 x1 T2)), (.bool false), (.bool false), (.agg #[.slice a1 len1 cap1]), (.bool false), (.bool false), ud, ud, (.bool false), (.bool false), (.tuple #[.int .u64 (reV (T1 + T2) (x1 + (isV T1 x1 T2)) (isV T1 x1 T2)), .int .i64 (reE (x1 + (isV T1 x1 T2)) (isV T1 x1 T2))]), (.int .u64 T1), (.int .u64 T2), (.int .u64 (T1 + T2)), (.agg #[.slice a1 len1 cap1]), (.agg #[.slice Az32 Nz32 Cz32]), (.agg #[.slice Az43 Nz43 Cz43]), (.agg #[.slice Az32 Nz32 Cz32]), (.tuple #[.int .u64 (reV (T1 + T2) (x1 + (isV T1 x1 T2)) (isV T1 x1 T2)), .int .i64 (reE (x1 + (isV T1 x1 T2)) (isV T1 x1 T2))]), (.int .u64 (reV (T1 + T2) (x1 + (isV T1 x1 T2)) (isV T1 x1 T2))), (.int .i64 (reE (x1 + (isV T1 x1 T2)) (isV T1 x1 T2))), (.int .i64 (reE (x1 + (isV T1 x1 T2)) (isV T1 x1 T2))), (.bool false), (.bool false), ud, ud, ud, (.bool false)], []⟩) (by kernel_rfl) ?_
                    exfalso
                    have kn := back_need (t := T2) (w64 rt1).1 hx1
                    have ki := back_issue (w64 rt1).1 hx1 (w64 rt2).1
                    clear BB
                    omega
              · skip
                refine wl_eq (some 62) (.bool ((isE T1 x1 T2 : Int) != 0)) (.bool true) (congrArg Value.bool (bne_iff_ne.2 c33)) rfl rfl (by kernel_rfl) ?_
                refine wl_take (some 63) (.bool true) rfl rfl (by kernel_rfl) ?_
                refine wg_not (some 64) (by kernel_rfl) rfl ?_
                refine wg_not (some 65) (by kernel_rfl) rfl ?_
                refine wg_not (some 66) (by kernel_rfl) rfl ?_
                refine wg_not (some 67) (by kernel_rfl) rfl ?_
                refine wg_not (some 68) (by kernel_rfl) rfl ?_
                refine wg_not (some 69) (by kernel_rfl) rfl ?_
                refine wl_take (some 70) (.bool true) rfl rfl (by kernel_rfl) ?_
                refine wl_nil ?_
                refine wp_then ?_
                refine wp_frame (a' := ⟨#[(.int .u64 T1), (.agg #[.slice a1 len1 cap1]), (.int .u64 T2), ud, (.pointer (some ⟨g1v, 0, none⟩)), ud, (.bool false), (.pointer (some ⟨g6v, 0, none⟩)), (.int .i64 (neE T1 T2)), (.int .u64 (reV T1 x1 (neV T1 x1 T2))), (.int .i64 (reE x1 (neV T1 x1 T2))), (.pointer (some ⟨g20v, 0, none⟩)), (.int .i64 (isE T1 x1 T2)), ud, ud, (.bool true), (.bool false), (.int .u64 y0), (.int .u64 T1), (.int .u64 y2), (.int .u64 T2), (.agg #[.slice a1 len1 cap1]), (.slice (some ⟨g3v, 0, none⟩) 1 1), (.bool true), (.bool false), (.tuple #[.agg #[.slice Az4 Nz4 Cz4], .int .i64 (neE T1 T2)]), (.int .u64 T1), (.agg #[.slice a1 len1 cap1]), (.int .u64 T2), (.tuple #[.agg #[.slice Az4 Nz4 Cz4], .int .i64 (neE T1 T2)]), (.agg #[.slice Az4 Nz4 Cz4]), (.int .i64 (neE T1 T2)), (.int .i64 (neE T1 T2)), (.bool true), (.bool true), (.agg #[.slice Az4 Nz4 Cz4]), (.agg #[.slice a1 len1 cap1]), (.int .i64 0), (.bool true), (.bool true), (.tuple #[.int .u64 (reV T1 x1 (neV T1 x1 T2)), .int .i64 (reE x1 (neV T1 x1 T2))]), (.int .u64 T1), (.agg #[.slice a1 len1 cap1]), (.agg #[.slice Az4 Nz4 Cz4]), (.tuple #[.int .u64 (reV T1 x1 (neV T1 x1 T2)), .int .i64 (reE x1 (neV T1 x1 T2))]), (.int .u64 (reV T1 x1 (neV T1 x1 T2))), (.int .i64 (reE x1 (neV T1 x1 T2))), (.int .i64 (reE x1 (neV T1 x1 T2))), (.bool false), (.bool false), (.int .u64 (reV T1 x1 (neV T1 x1 T2))), (.int .u64 T2), (.bool false), (.bool false), (.tuple #[.agg #[.slice Az32 Nz32 Cz32], .int .i64 (isE T1 x1 T2)]), (.int .u64 T1), (.agg #[.slice a1 len1 cap1]), (.int .u64 T2), (.tuple #[.agg #[.slice Az32 Nz32 Cz32], .int .i64 (isE T1 x1 T2)]), (.agg #[.slice Az32 Nz32 Cz32]), (.int .i64 (isE T1 x1 T2)), (.int .i64 (isE T1 x1 T2)), (.bool true), (.bool true), ud, ud, ud, ud, ud, ud, (.bool true), ud, ud, ud, ud, ud, ud, ud, ud, ud, ud, ud, ud, ud, ud, ud, ud, ud, ud], []⟩) (by kernel_rfl) ?_
                refine wp_cond_true (by kernel_rfl) ?_
                refine wp_seq ?_
                refine wl_start ?_
                refine wl_take (some 6) (.bool true) rfl rfl (by kernel_rfl) ?_
                refine wl_nil ?_
                refine wp_then ?_
                refine wp_ret ?_
                repeat (first | refine ret_then ?_ | refine ret_block ?_)
                refine bodyPost_ret (results_tmp rfl _ _ _) rfl ?_
                exact ⟨by kernel_rfl, BB⟩
          · skip
            refine wl_eq (some 48) (.bool ((reE x1 (neV T1 x1 T2) : Int) != 0)) (.bool true) (congrArg Value.bool (bne_iff_ne.2 c30)) rfl rfl (by kernel_rfl) ?_
            refine wl_take (some 49) (.bool true) rfl rfl (by kernel_rfl) ?_
            refine wg_not (some 50) (by kernel_rfl) rfl ?_
            refine wg_not (some 51) (by kernel_rfl) rfl ?_
            refine wg_not (some 52) (by kernel_rfl) rfl ?_
            refine wl_take (some 53) (.bool true) rfl rfl (by kernel_rfl) ?_
            refine wl_nil ?_
            refine wp_then ?_
            refine wp_frame (a' := ⟨#[(.int .u64 T1), (.agg #[.slice a1 len1 cap1]), (.int .u64 T2), ud, (.pointer (some ⟨g1v, 0, none⟩)), ud, (.bool false), (.pointer (some ⟨g6v, 0, none⟩)), (.int .i64 (neE T1 T2)), (.int .u64 (reV T1 x1 (neV T1 x1 T2))), (.int .i64 (reE x1 (neV T1 x1 T2))), ud, ud, ud, ud, (.bool true), (.bool false), (.int .u64 y0), (.int .u64 T1), (.int .u64 y2), (.int .u64 T2), (.agg #[.slice a1 len1 cap1]), (.slice (some ⟨g3v, 0, none⟩) 1 1), (.bool true), (.bool false), (.tuple #[.agg #[.slice Az4 Nz4 Cz4], .int .i64 (neE T1 T2)]), (.int .u64 T1), (.agg #[.slice a1 len1 cap1]), (.int .u64 T2), (.tuple #[.agg #[.slice Az4 Nz4 Cz4], .int .i64 (neE T1 T2)]), (.agg #[.slice Az4 Nz4 Cz4]), (.int .i64 (neE T1 T2)), (.int .i64 (neE T1 T2)), (.bool true), (.bool true), (.agg #[.slice Az4 Nz4 Cz4]), (.agg #[.slice a1 len1 cap1]), (.int .i64 0), (.bool true), (.bool true), (.tuple #[.int .u64 (reV T1 x1 (neV T1 x1 T2)), .int .i64 (reE x1 (neV T1 x1 T2))]), (.int .u64 T1), (.agg #[.slice a1 len1 cap1]), (.agg #[.slice Az4 Nz4 Cz4]), (.tuple #[.int .u64 (reV T1 x1 (neV T1 x1 T2)), .int .i64 (reE x1 (neV T1 x1 T2))]), (.int .u64 (reV T1 x1 (neV T1 x1 T2))), (.int .i64 (reE x1 (neV T1 x1 T2))), (.int .i64 (reE x1 (neV T1 x1 T2))), (.bool true), (.bool true), ud, ud, ud, (.bool true), ud, ud, ud, ud, ud, ud, ud, ud, ud, ud, ud, ud, ud, ud, ud, ud, ud, ud, ud, ud, ud, ud, ud, ud, ud, ud, ud, ud, ud, ud, ud, ud, ud, ud, ud], []⟩) (by kernel_rfl) ?_
            refine wp_cond_true (by kernel_rfl) ?_
            refine wp_seq ?_
            refine wl_start ?_
            refine wl_take (some 6) (.bool false) rfl rfl (by kernel_rfl) ?_
            refine wl_nil ?_
            refine wp_then ?_
            exfalso
            have kn := back_need (t := T2) (w64 rt1).1 hx1
            clear BB
            omega
        · skip
          refine wg_call (some 37) 17 #[.agg #[.slice Az4 Nz4 Cz4], .agg #[.slice a1 len1 cap1]] (by kernel_rfl) rfl (by kernel_rfl) (cmpD Oz4.a N1 (by omega) (by omega) 1 (sgn_gt (lt_of c6 (fun e => c27 e.symm)))) ?_
          rintro e1 v27w ⟨rfl, B⟩
          refine ⟨_, rfl, ?_⟩
          replace N1 := N1.keep B
          replace X4 := X4.keep B
          replace L3 := L3.keep B
          replace Oz4 := Oz4.keep B
          replace X7 := X7.keep B
          replace BB := joinB BB B
          clear B
          refine wg_take (some 38) (.bool false) (by kernel_rfl) rfl (by kernel_rfl) ?_
          refine wl_take (some 39) (.bool false) rfl rfl (by kernel_rfl) ?_
          refine wl_nil ?_
          refine wp_then ?_
          refine wp_frame (a' := ⟨#[(.int .u64 T1), (.agg #[.slice a1 len1 cap1]), (.int .u64 T2), ud, (.pointer (some ⟨g1v, 0, none⟩)), ud, (.bool false), (.pointer (some ⟨g6v, 0, none⟩)), (.int .i64 (neE T1 T2)), ud, ud, ud, ud, ud, ud, (.bool true), (.bool false), (.int .u64 y0), (.int .u64 T1), (.int .u64 y2), (.int .u64 T2), (.agg #[.slice a1 len1 cap1]), (.slice (some ⟨g3v, 0, none⟩) 1 1), (.bool true), (.bool false), (.tuple #[.agg #[.slice Az4 Nz4 Cz4], .int .i64 (neE T1 T2)]), (.int .u64 T1), (.agg #[.slice a1 len1 cap1]), (.int .u64 T2), (.tuple #[.agg #[.slice Az4 Nz4 Cz4], .int .i64 (neE T1 T2)]), (.agg #[.slice Az4 Nz4 Cz4]), (.int .i64 (neE T1 T2)), (.int .i64 (neE T1 T2)), (.bool true), (.bool true), (.agg #[.slice Az4 Nz4 Cz4]), (.agg #[.slice a1 len1 cap1]), (.int .i64 1), (.bool false), (.bool false), ud, ud, ud, ud, ud, ud, ud, ud, ud, ud, ud, ud, ud, ud, ud, ud, ud, ud, ud, ud, ud, ud, ud, ud, ud, ud, ud, ud, ud, ud, ud, ud, ud, ud, ud, ud, ud, ud, ud, ud, ud, ud, ud, ud, ud, ud, ud, ud, ud], []⟩) (by kernel_rfl) ?_
          refine wp_cond_false (by kernel_rfl) ?_
          refine wp_skip_then ?_
          refine wp_seq ?_
          refine wl_start ?_
          refine wl_take (some 55) (.int .u64 T1) rfl rfl (by kernel_rfl) ?_
          refine wl_take (some 56) (.agg #[.slice a1 len1 cap1]) rfl rfl (run_lp 4 (by kernel_rfl) (by kernel_rfl) (ldx26 (X4.cell (i := 0) rfl))) ?_
          refine wl_take (some 57) (.int .u64 T2) rfl rfl (by kernel_rfl) ?_
          refine wl_call (some 58) 11 #[.int .u64 T1, .agg #[.slice a1 len1 cap1], .int .u64 T2] rfl rfl (by kernel_rfl) (sIssue (w64 rt1) N1 (by omega) (w64 rt2)) ?_
          rintro e1 v28w ⟨Az48, Nz48, Cz48, rfl, Oz48, Kz48, B⟩
          refine ⟨_, rfl, ?_⟩
          replace N1 := N1.keep B
          replace X4 := X4.keep B
          replace L3 := L3.keep B
          replace Oz4 := Oz4.keep B
          replace X7 := X7.keep B
          replace BB := joinB BB B
          clear B
          refine wl_take (some 54) (.tuple #[.agg #[.slice Az48 Nz48 Cz48], .int .i64 (isE T1 x1 T2)]) rfl rfl (by kernel_rfl) ?_
          refine wl_take (some 59) (.agg #[.slice Az48 Nz48 Cz48]) rfl rfl (by kernel_rfl) ?_
          refine wl_take (some 60) (.int .i64 (isE T1 x1 T2)) rfl rfl (by kernel_rfl) ?_
          have bs28 := BB.size
          refine wl_new 11 59 26 [.slice none 0 0] [.slice Az48 Nz48 Cz48] rfl rfl rfl rfl rfl rfl allocx26 (fun _ => by kernel_rfl) (fun _ => by kernel_rfl) (by kernel_rfl) rfl (by kernel_rfl) ?_
          intro v29w g29v X11 hg29v B
          replace N1 := N1.keep B
          replace X4 := X4.keep B
          replace L3 := L3.keep B
          replace Oz4 := Oz4.keep B
          replace X7 := X7.keep B
          replace Oz48 := Oz48.keep B
          replace BB := joinB BB B
          clear B
          refine wl_take (some 12) (.int .i64 (isE T1 x1 T2)) rfl rfl (by kernel_rfl) ?_
          refine wl_nil ?_
          refine wp_then ?_
          refine wp_seq ?_
          refine wp_seq ?_
          refine wl_start ?_
          refine wl_take (some 61) (.int .i64 (isE T1 x1 T2)) rfl rfl (by kernel_rfl) ?_
          by_cases c49 : isE T1 x1 T2 = 0
          · skip
            refine wl_eq (some 62) (.bool ((isE T1 x1 T2 : Int) != 0)) (.bool false) (congrArg Value.bool (bne_eq_false_iff_eq.2 c49)) rfl rfl (by kernel_rfl) ?_
            refine wl_take (some 63) (.bool false) rfl rfl (by kernel_rfl) ?_
            refine wg_take (some 64) (.agg #[.slice a1 len1 cap1]) (by kernel_rfl) rfl (run_lp 4 (by kernel_rfl) (by kernel_rfl) (ldx26 (X4.cell (i := 0) rfl))) ?_
            by_cases c50 : x1 = 0
            · skip
              refine wg_call (some 65) 10 #[.agg #[.slice a1 len1 cap1]] (by kernel_rfl) rfl (by kernel_rfl) (zeroD N1 (by omega) true (decide_eq_true c50)) ?_
              rintro e1 v30w ⟨rfl, B⟩
              refine ⟨_, rfl, ?_⟩
              replace N1 := N1.keep B
              replace X4 := X4.keep B
              replace L3 := L3.keep B
              replace Oz4 := Oz4.keep B
              replace X7 := X7.keep B
              replace Oz48 := Oz48.keep B
              replace X11 := X11.keep B
              replace BB := joinB BB B
              clear B
              refine wg_take (some 66) (.bool true) (by kernel_rfl) rfl (by kernel_rfl) ?_
              refine wg_take (some 67) (.int .u64 T1) (by kernel_rfl) rfl (by kernel_rfl) ?_
              by_cases c51 : 0 < T1
              · skip
                refine wg_eq (some 68) (.bool (decide ((0 : Int) < T1))) (.bool true) (congrArg Value.bool (decide_eq_true c51)) (by kernel_rfl) rfl (by kernel_rfl) ?_
                refine wg_take (some 69) (.bool true) (by kernel_rfl) rfl (by kernel_rfl) ?_
                refine wl_take (some 70) (.bool true) rfl rfl (by kernel_rfl) ?_
                refine wl_nil ?_
                refine wp_then ?_
                refine wp_frame (a' := ⟨#[(.int .u64 T1), (.agg #[.slice a1 len1 cap1]), (.int .u64 T2), ud, (.pointer (some ⟨g1v, 0, none⟩)), ud, (.bool false), (.pointer (some ⟨g6v, 0, none⟩)), (.int .i64 (neE T1 T2)), ud, ud, (.pointer (some ⟨g29v, 0, none⟩)), (.int .i64 (isE T1 x1 T2)), ud, ud, (.bool true), (.bool false), (.int .u64 y0), (.int .u64 T1), (.int .u64 y2), (.int .u64 T2), (.agg #[.slice a1 len1 cap1]), (.slice (some ⟨g3v, 0, none⟩) 1 1), (.bool true), (.bool false), (.tuple #[.agg #[.slice Az4 Nz4 Cz4], .int .i64 (neE T1 T2)]), (.int .u64 T1), (.agg #[.slice a1 len1 cap1]), (.int .u64 T2), (.tuple #[.agg #[.slice Az4 Nz4 Cz4], .int .i64 (neE T1 T2)]), (.agg #[.slice Az4 Nz4 Cz4]), (.int .i64 (neE T1 T2)), (.int .i64 (neE T1 T2)), (.bool true), (.bool true), (.agg #[.slice Az4 Nz4 Cz4]), (.agg #[.slice a1 len1 cap1]), (.int .i64 1), (.bool false), (.bool false), ud, ud, ud, ud, ud, ud, ud, ud, ud, ud, ud, ud, ud, ud, (.tuple #[.agg #[.slice Az48 Nz48 Cz48], .int .i64 (isE T1 x1 T2)]), (.int .u64 T1), (.agg #[.slice a1 len1 cap1]), (.int .u64 T2), (.tuple #[.agg #[.slice Az48 Nz48 Cz48], .int .i64 (isE T1 x1 T2)]), (.agg #[.slice Az48 Nz48 Cz48]), (.int .i64 (isE T1 x1 T2)), (.int .i64 (isE T1 x1 T2)), (.bool false), (.bool false), (.agg #[.slice a1 len1 cap1]), (.bool true), (.bool true), (.int .u64 T1), (.bool true), (.bool true), (.bool true), ud, ud, ud, ud, ud, ud, ud, ud, ud, ud, ud, ud, ud, ud, ud, ud, ud, ud], []⟩) (by kernel_rfl) ?_
                refine wp_cond_true (by kernel_rfl) ?_
                refine wp_seq ?_
                refine wl_start ?_
                refine wl_take (some 6) (.bool true) rfl rfl (by kernel_rfl) ?_
                refine wl_nil ?_
                refine wp_then ?_
                refine wp_ret ?_
                repeat (first | refine ret_then ?_ | refine ret_block ?_)
                refine bodyPost_ret (results_tmp rfl _ _ _) rfl ?_
                exact ⟨by kernel_rfl, BB⟩
              · skip
                refine wg_eq (some 68) (.bool (decide ((0 : Int) < T1))) (.bool false) (congrArg Value.bool (decide_eq_false c51)) (by kernel_rfl) rfl (by kernel_rfl) ?_
                refine wg_take (some 69) (.bool false) (by kernel_rfl) rfl (by kernel_rfl) ?_
                refine wl_take (some 70) (.bool false) rfl rfl (by kernel_rfl) ?_
                refine wl_nil ?_
                refine wp_then ?_
                refine wp_frame (a' := ⟨#[(.int .u64 T1), (.agg #[.slice a1 len1 cap1]), (.int .u64 T2), ud, (.pointer (some ⟨g1v, 0, none⟩)), ud, (.bool false), (.pointer (some ⟨g6v, 0, none⟩)), (.int .i64 (neE T1 T2)), ud, ud, (.pointer (some ⟨g29v, 0, none⟩)), (.int .i64 (isE T1 x1 T2)), ud, ud, (.bool true), (.bool false), (.int .u64 y0), (.int .u64 T1), (.int .u64 y2), (.int .u64 T2), (.agg #[.slice a1 len1 cap1]), (.slice (some ⟨g3v, 0, none⟩) 1 1), (.bool true), (.bool false), (.tuple #[.agg #[.slice Az4 Nz4 Cz4], .int .i64 (neE T1 T2)]), (.int .u64 T1), (.agg #[.slice a1 len1 cap1]), (.int .u64 T2), (.tuple #[.agg #[.slice Az4 Nz4 Cz4], .int .i64 (neE T1 T2)]), (.agg #[.slice Az4 Nz4 Cz4]), (.int .i64 (neE T1 T2)), (.int .i64 (neE T1 T2)), (.bool true), (.bool true), (.agg #[.slice Az4 Nz4 Cz4]), (.agg #[.slice a1 len1 cap1]), (.int .i64 1), (.bool false), (.bool false), ud, ud, ud, ud, ud, ud, ud, ud, ud, ud, ud, ud, ud, ud, (.tuple #[.agg #[.slice Az48 Nz48 Cz48], .int .i64 (isE T1 x1 T2)]), (.int .u64 T1), (.agg #[.slice a1 len1 cap1]), (.int .u64 T2), (.tuple #[.agg #[.slice Az48 Nz48 Cz48], .int .i64 (isE T1 x1 T2)]), (.agg #[.slice Az48 Nz48 Cz48]), (.int .i64 (isE T1 x1 T2)), (.int .i64 (isE T1 x1 T2)), (.bool false), (.bool false), (.agg #[.slice a1 len1 cap1]), (.bool true), (.bool true), (.int .u64 T1), (.bool false), (.bool false), (.bool false), ud, ud, ud, ud, ud, ud, ud, ud, ud, ud, ud, ud, ud, ud, ud, ud, ud, ud], []⟩) (by kernel_rfl) ?_
                refine wp_cond_false (by kernel_rfl) ?_
                refine wp_skip_then ?_
                refine wp_seq ?_
                refine rg_start (S := fun w' => Below v30w.drew.heap.size v30w.drew w') (by kernel_rfl) (Below.refl _ _) ?_
                replace N1 := N1.drew
                replace X4 := X4.drew
                replace L3 := L3.drew
                replace Oz4 := Oz4.drew
                replace X7 := X7.drew
                replace Oz48 := Oz48.drew
                replace X11 := X11.drew
                replace BB := BB.drew
                have hS := Below.refl v30w.drew.heap.size v30w.drew
                have UX4 := X4
                have UL3 := L3
                have UX7 := X7
                have UX11 := X11
                refine rg_take 0 (some 72) (.int .u64 T1) (by kernel_rfl) (fun _ _ => by kernel_rfl) (fun _ _ _ h => h) hS ?_
                refine rg_take 1 (some 73) (.int .u64 T2) (by kernel_rfl) (fun _ _ => by kernel_rfl) (fun _ _ _ h => h) hS ?_
                have rg52 : 0 ≤ T1 + T2 ∧ T1 + T2 < 18446744073709551616 := by omega
                refine rg_take 2 (some 74) (.int .u64 (T1 + T2)) (by kernel_rfl) (fun _ _ => run_addu (x := 72) (y := 73) (p := T1) (q := T2) (by kernel_rfl) (by kernel_rfl) (by kernel_rfl) rg52) (fun _ _ _ h => h) hS ?_
                refine rg_load 3 (some 75) (.agg #[.slice a1 len1 cap1]) 26 4 (g1v) 0 (by kernel_rfl) (by kernel_rfl) (by kernel_rfl) (fun _ hb => ldx26 ((UX4.keep hb).cell (i := 0) rfl)) (fun _ _ _ h => h) hS ?_
                refine rg_load 4 (some 76) (.agg #[.slice Az48 Nz48 Cz48]) 26 11 (g29v) 0 (by kernel_rfl) (by kernel_rfl) (by kernel_rfl) (fun _ hb => ldx26 ((UX11.keep hb).cell (i := 0) rfl)) (fun _ _ _ h => h) hS ?_
                refine rg_load 6 (some 78) (.agg #[.slice Az48 Nz48 Cz48]) 26 11 (g29v) 0 (by kernel_rfl) (by kernel_rfl) (by kernel_rfl) (fun _ hb => ldx26 ((UX11.keep hb).cell (i := 0) rfl)) (fun _ _ _ h => h) hS ?_
                refine rg_call 5 (some 77) 13 #[.agg #[.slice a1 len1 cap1], .agg #[.slice Az48 Nz48 Cz48]] (by kernel_rfl) (by kernel_rfl) (dAdd N1 Oz48.a (by omega) (by omega)) ?_
                rintro e1 v31w ⟨Az53, Nz53, Cz53, rfl, Oz53, Kz53, B⟩
                refine ⟨_, rfl, joinB hS B, ?_⟩
                replace hS := joinB hS B
                replace N1 := N1.keep B
                replace X4 := X4.keep B
                replace L3 := L3.keep B
                replace Oz4 := Oz4.keep B
                replace X7 := X7.keep B
                replace Oz48 := Oz48.keep B
                replace X11 := X11.keep B
                replace BB := joinB BB B
                clear B
                refine rg_call 7 (some 79) 14 #[.int .u64 (T1 + T2), .agg #[.slice Az53 Nz53 Cz53], .agg #[.slice Az48 Nz48 Cz48]] (by kernel_rfl) (by kernel_rfl) (sRedeem rg52 Oz53.a (by omega) Oz48.a (by omega)) ?_
                rintro e1 v32w ⟨rfl, B⟩
                refine ⟨_, rfl, joinB hS B, ?_⟩
                replace hS := joinB hS B
                replace N1 := N1.keep B
                replace X4 := X4.keep B
                replace L3 := L3.keep B
                replace Oz4 := Oz4.keep B
                replace X7 := X7.keep B
                replace Oz48 := Oz48.keep B
                replace X11 := X11.keep B
                replace Oz53 := Oz53.keep B
                replace BB := joinB BB B
                clear B
                have rg54 := re_rng (S := (x1 + (isV T1 x1 T2))) rg52 Oz48.a.nonneg
                have kf55 := re_facts (T := T1 + T2) (S := (x1 + (isV T1 x1 T2))) (x := (isV T1 x1 T2)) rg52.1 Oz48.a.nonneg
                refine rg_take 8 (some 71) (.tuple #[.int .u64 (reV (T1 + T2) (x1 + (isV T1 x1 T2)) (isV T1 x1 T2)), .int .i64 (reE (x1 + (isV T1 x1 T2)) (isV T1 x1 T2))]) (by kernel_rfl) (fun _ _ => by kernel_rfl) (fun _ _ _ h => h) hS ?_
                refine rg_take 9 (some 80) (.int .u64 (reV (T1 + T2) (x1 + (isV T1 x1 T2)) (isV T1 x1 T2))) (by kernel_rfl) (fun _ _ => by kernel_rfl) (fun _ _ _ h => h) hS ?_
                refine rg_take 10 (some 81) (.int .i64 (reE (x1 + (isV T1 x1 T2)) (isV T1 x1 T2))) (by kernel_rfl) (fun _ _ => by kernel_rfl) (fun _ _ _ h => h) hS ?_
                refine rg_take 11 (some 13) (.int .u64 (reV (T1 + T2) (x1 + (isV T1 x1 T2)) (isV T1 x1 T2))) (by kernel_rfl) (fun _ _ => by kernel_rfl) (fun _ _ _ h => h) hS ?_
                refine rg_take 12 (some 14) (.int .i64 (reE (x1 + (isV T1 x1 T2)) (isV T1 x1 T2))) (by kernel_rfl) (fun _ _ => by kernel_rfl) (fun _ _ _ h => h) hS ?_
                refine rg_done (by kernel_rfl) ?_
                clear hS UX4 UL3 UX7 UX11
                refine wp_then ?_
                refine wp_seq ?_
                refine wl_start ?_
                refine wl_take (some 82) (.int .i64 (reE (x1 + (isV T1 x1 T2)) (isV T1 x1 T2))) rfl rfl (by kernel_rfl) ?_
                by_cases c56 : reE (x1 + (isV T1 x1 T2)) (isV T1 x1 T2) = 0
                · skip
                  refine wl_eq (some 83) (.bool ((reE (x1 + (isV T1 x1 T2)) (isV T1 x1 T2) : Int) == 0)) (.bool true) (congrArg Value.bool (beq_iff_eq.2 c56)) rfl rfl (by kernel_rfl) ?_
                  refine wl_take (some 84) (.bool true) rfl rfl (by kernel_rfl) ?_
                  refine wg_take (some 85) (.int .u64 (reV (T1 + T2) (x1 + (isV T1 x1 T2)) (isV T1 x1 T2))) (by kernel_rfl) rfl (by kernel_rfl) ?_
                  refine wg_take (some 86) (.int .u64 T2) (by kernel_rfl) rfl (by kernel_rfl) ?_
                  by_cases c57 : reV (T1 + T2) (x1 + (isV T1 x1 T2)) (isV T1 x1 T2) ≤ T2
                  · skip
                    refine wg_eq (some 87) (.bool (decide ((reV (T1 + T2) (x1 + (isV T1 x1 T2)) (isV T1 x1 T2) : Int) ≤ T2))) (.bool true) (congrArg Value.bool (decide_eq_true c57)) (by kernel_rfl) rfl (by kernel_rfl) ?_
                    refine wl_take (some 88) (.bool true) rfl rfl (by kernel_rfl) ?_
                    refine wl_take (some 6) (.bool true) rfl rfl (by kernel_rfl) ?_
                    refine wl_nil ?_
                    refine wp_then ?_
                    refine wp_frame (a' := ⟨#[(.int .u64 T1), (.agg #[.slice a1 len1 cap1]), (.int .u64 T2), ud, (.pointer (some ⟨g1v, 0, none⟩)), ud, (.bool true), (.pointer (some ⟨g6v, 0, none⟩)), (.int .i64 (neE T1 T2)), ud, ud, (.pointer (some ⟨g29v, 0, none⟩)), (.int .i64 (isE T1 x1 T2)), (.int .u64 (reV (T1 + T2) (x1 + (isV T1 x1 T2)) (isV T1 x1 T2))), (.int .i64 (reE (x1 + (isV T1 x1 T2)) (isV T1 x1 T2))), (.bool true), (.bool false), (.int .u64 y0), (.int .u64 T1), (.int .u64 y2), (.int .u64 T2), (.agg #[.slice a1 len1 cap1]), (.slice (some ⟨g3v, 0, none⟩) 1 1), (.bool true), (.bool false), (.tuple #[.agg #[.slice Az4 Nz4 Cz4], .int .i64 (neE T1 T2)]), (.int .u64 T1), (.agg #[.slice a1 len1 cap1]), (.int .u64 T2), (.tuple #[.agg #[.slice Az4 Nz4 Cz4], .int .i64 (neE T1 T2)]), (.agg #[.slice Az4 Nz4 Cz4]), (.int .i64 (neE T1 T2)), (.int .i64 (neE T1 T2)), (.bool true), (.bool true), (.agg #[.slice Az4 Nz4 Cz4]), (.agg #[.slice a1 len1 cap1]), (.int .i64 1), (.bool false), (.bool false), ud, ud, ud, ud, ud, ud, ud, ud, ud, ud, ud, ud, ud, ud, (.tuple #[.agg #[.slice Az48 Nz48 Cz48], .int .i64 (isE T1 x1 T2)]), (.int .u64 T1), (.agg #[.slice a1 len1 cap1]), (.int .u64 T2), (.tuple #[.agg #[.slice Az48 Nz48 Cz48], .int .i64 (isE T1 x1 T2)]), (.agg #[.slice Az48 Nz48 Cz48]), (.int .i64 (isE T1 x1 T2)), (.int .i64 (isE T1 x1 T2)), (.bool false), (.bool false), (.agg #[.slice a1 len1 cap1]), (.bool true), (.bool true), (.int .u64 T1), (.bool false), (.bool false), (.bool false), (.tuple #[.int .u64 (reV (T1 + T2) (x1 + (isV T1 x1 T2)) (isV T1 x1 T2)), .int .i64 (reE (x1 + (isV T1 x1 T2)) (isV T1 x1 T2))]), (.int .u64 T1), (.int .u64 T2), (.int .u64 (T1 + T2)), (.agg #[.slice a1 len1 cap1]), (.agg #[.slice Az48 Nz48 Cz48]), (.agg #[.slice Az53 Nz53 Cz53]), (.agg #[.slice Az48 Nz48 Cz48]), (.tuple #[.int .u64 (reV (T1 + T2) (x1 + (isV T1 x1 T2)) (isV T1 x1 T2)), .int .i64 (reE (x1 + (isV T1 x1 T2)) (isV T1 x1 T2))]), (.int .u64 (reV (T1 + T2) (x1 + (isV T1 x1 T2)) (isV T1 x1 T2))), (.int .i64 (reE (x1 + (isV T1 x1 T2)) (isV T1 x1 T2))), (.int .i64 (reE (x1 + (isV T1 x1 T2)) (isV T1 x1 T2))), (.bool true), (.bool true), (.int .u64 (reV (T1 + T2) (x1 + (isV T1 x1 T2)) (isV T1 x1 T2))), (.int .u64 T2), (.bool true), (.bool true)], []⟩) (by kernel_rfl) ?_
                    refine wp_ret ?_
                    repeat (first | refine ret_then ?_ | refine ret_block ?_)
                    refine bodyPost_ret (results_tmp rfl _ _ _) rfl ?_
                    exact ⟨by kernel_rfl, BB⟩
                  · skip
                    refine wg_eq (some 87) (.bool (decide ((reV (T1 + T2) (x1 + (isV T1 x1 T2)) (isV T1 x1 T2) : Int) ≤ T2))) (.bool false) (congrArg Value.bool (decide_eq_false c57)) (by kernel_rfl) rfl (by kernel_rfl) ?_
                    refine wl_take (some 88) (.bool false) rfl rfl (by kernel_rfl) ?_
                    refine wl_take (some 6) (.bool false) rfl rfl (by kernel_rfl) ?_
                    refine wl_nil ?_
                    refine wp_then ?_
                    refine wp_frame (a' := ⟨#[(.int .u64 T1), (.agg #[.slice a1 len1 cap1]), (.int .u64 T2), ud, (.pointer (some ⟨g1v, 0, none⟩)), ud, (.bool false), (.pointer (some ⟨g6v, 0, none⟩)), (.int .i64 (neE T1 T2)), ud, ud, (.pointer (some ⟨g29v, 0, none⟩)), (.int .i64 (isE T1 x1 T2)), (.int .u64 (reV (T1 + T2) (x1 + (isV T1 x1 T2)) (isV T1 x1 T2))), (.int .i64 (reE (x1 + (isV T1 x1 T2)) (isV T1 x1 T2))), (.bool true), (.bool false), (.int .u64 y0), (.int .u64 T1), (.int .u64 y2), (.int .u64 T2), (.agg #[.slice a1 len1 cap1]), (.slice (some ⟨g3v, 0, none⟩) 1 1), (.bool true), (.bool false), (.tuple #[.agg #[.slice Az4 Nz4 Cz4], .int .i64 (neE T1 T2)]), (.int .u64 T1), (.agg #[.slice a1 len1 cap1]), (.int .u64 T2), (.tuple #[.agg #[.slice Az4 Nz4 Cz4], .int .i64 (neE T1 T2)]), (.agg #[.slice Az4 Nz4 Cz4]), (.int .i64 (neE T1 T2)), (.int .i64 (neE T1 T2)), (.bool true), (.bool true), (.agg #[.slice Az4 Nz4 Cz4]), (.agg #[.slice a1 len1 cap1]), (.int .i64 1), (.bool false), (.bool false), ud, ud, ud, ud, ud, ud, ud, ud, ud, ud, ud, ud, ud, ud, (.tuple #[.agg #[.slice Az48 Nz48 Cz48], .int .i64 (isE T1 x1 T2)]), (.int .u64 T1), (.agg #[.slice a1 len1 cap1]), (.int .u64 T2), (.tuple #[.agg #[.slice Az48 Nz48 Cz48], .int .i64 (isE T1 x1 T2)]), (.agg #[.slice Az48 Nz48 Cz48]), (.int .i64 (isE T1 x1 T2)), (.int .i64 (isE T1 x1 T2)), (.bool false), (.bool false), (.agg #[.slice a1 len1 cap1]), (.bool true), (.bool true), (.int .u64 T1), (.bool false), (.bool false), (.bool false), (.tuple #[.int .u64 (reV (T1 + T2) (x1 + (isV T1 x1 T2)) (isV T1 x1 T2)), .int .i64 (reE (x1 + (isV T1 x1 T2)) (isV T1 x1 T2))]), (.int .u64 T1), (.int .u64 T2), (.int .u64 (T1 + T2)), (.agg #[.slice a1 len1 cap1]), (.agg #[.slice Az48 Nz48 Cz48]), (.agg #[.slice Az53 Nz53 Cz53]), (.agg #[.slice Az48 Nz48 Cz48]), (.tuple #[.int .u64 (reV (T1 + T2) (x1 + (isV T1 x1 T2)) (isV T1 x1 T2)), .int .i64 (reE (x1 + (isV T1 x1 T2)) (isV T1 x1 T2))]), (.int .u64 (reV (T1 + T2) (x1 + (isV T1 x1 T2)) (isV T1 x1 T2))), (.int .i64 (reE (x1 + (isV T1 x1 T2)) (isV T1 x1 T2))), (.int .i64 (reE (x1 + (isV T1 x1 T2)) (isV T1 x1 T2))), (.bool true), (.bool true), (.int .u64 (reV (T1 + T2) (x1 + (isV T1 x1 T2)) (isV T1 x1 T2))), (.int .u64 T2), (.bool false), (.bool false)], []⟩) (by kernel_rfl) ?_
                    exfalso
                    have kn := back_need (t := T2) (w64 rt1).1 hx1
                    have ki := back_issue (w64 rt1).1 hx1 (w64 rt2).1
                    clear BB
                    omega
                · skip
                  refine wl_eq (some 83) (.bool ((reE (x1 + (isV T1 x1 T2)) (isV T1 x1 T2) : Int) == 0)) (.bool false) (congrArg Value.bool (beq_eq_false_iff_ne.2 c56)) rfl rfl (by kernel_rfl) ?_
                  refine wl_take (some 84) (.bool false) rfl rfl (by kernel_rfl) ?_
                  refine wg_not (some 85) (by kernel_rfl) rfl ?_
                  refine wg_not (some 86) (by kernel_rfl) rfl ?_
                  refine wg_not (some 87) (by kernel_rfl) rfl ?_
                  refine wl_take (some 88) (.bool false) rfl rfl (by kernel_rfl) ?_
                  refine wl_take (some 6) (.bool false) rfl rfl (by kernel_rfl) ?_
                  refine wl_nil ?_
                  refine wp_then ?_
                  refine wp_frame (a' := ⟨#[(.int .u64 T1), (.agg #[.slice a1 len1 cap1]), (.int .u64 T2), ud, (.pointer (some ⟨g1v, 0, none⟩)), ud, (.bool false), (.pointer (some ⟨g6v, 0, none⟩)), (.int .i64 (neE T1 T2)), ud, ud, (.pointer (some ⟨g29v, 0, none⟩)), (.int .i64 (isE T1 x1 T2)), (.int .u64 (reV (T1 + T2) (x1 + (isV T1 x1 T2)) (isV T1 x1 T2))), (.int .i64 (reE (x1 + (isV T1 x1 T2)) (isV T1 x1 T2))), (.bool true), (.bool false), (.int .u64 y0), (.int .u64 T1), (.int .u64 y2), (.int .u64 T2), (.agg #[.slice a1 len1 cap1]), (.slice (some ⟨g3v, 0, none⟩) 1 1), (.bool true), (.bool false), (.tuple #[.agg #[.slice Az4 Nz4 Cz4], .int .i64 (neE T1 T2)]), (.int .u64 T1), (.agg #[.slice a1 len1 cap1]), (.int .u64 T2), (.tuple #[.agg #[.slice Az4 Nz4 Cz4], .int .i64 (neE T1 T2)]), (.agg #[.slice Az4 Nz4 Cz4]), (.int .i64 (neE T1 T2)), (.int .i64 (neE T1 T2)), (.bool true), (.bool true), (.agg #[.slice Az4 Nz4 Cz4]), (.agg #[.slice a1 len1 cap1]), (.int .i64 1), (.bool false), (.bool false), ud, ud, ud, ud, ud, ud, ud, ud, ud, ud, ud, ud, ud, ud, (.tuple #[.agg #[.slice Az48 Nz48 Cz48], .int .i64 (isE T1 x1 T2)]), (.int .u64 T1), (.agg #[.slice a1 len1 cap1]), (.int .u64 T2), (.tuple #[.agg #[.slice Az48 Nz48 Cz48], .int .i64 (isE T1 x1 T2)]), (.agg #[.slice Az48 Nz48 Cz48]), (.int .i64 (isE T1 x1 T2)), (.int .i64 (isE T1 x1 T2)), (.bool false), (.bool false), (.agg #[.slice a1 len1 cap1]), (.bool true), (.bool true), (.int .u64 T1), (.bool false), (.bool false), (.bool false), (.tuple #[.int .u64 (reV (T1 + T2) (x1 + (isV T1 x1 T2)) (isV T1 x1 T2)), .int .i64 (reE (x1 + (isV T1 x1 T2)) (isV T1 x1 T2))]), (.int .u64 T1), (.int .u64 T2), (.int .u64 (T1 + T2)), (.agg #[.slice a1 len1 cap1]), (.agg #[.slice Az48 Nz48 Cz48]), (.agg #[.slice Az53 Nz53 Cz53]), (.agg #[.slice Az48 Nz48 Cz48]), (.tuple #[.int .u64 (reV (T1 + T2) (x1 + (isV T1 x1 T2)) (isV T1 x1 T2)), .int .i64 (reE (x1 + (isV T1 x1 T2)) (isV T1 x1 T2))]), (.int .u64 (reV (T1 + T2) (x1 + (isV T1 x1 T2)) (isV T1 x1 T2))), (.int .i64 (reE (x1 + (isV T1 x1 T2)) (isV T1 x1 T2))), (.int .i64 (reE (x1 + (isV T1 x1 T2)) (isV T1 x1 T2))), (.bool false), (.bool false), ud, ud, ud, (.bool false)], []⟩) (by kernel_rfl) ?_
                  exfalso
                  have kn := back_need (t := T2) (w64 rt1).1 hx1
                  have ki := back_issue (w64 rt1).1 hx1 (w64 rt2).1
                  clear BB
                  omega
            · skip
              refine wg_call (some 65) 10 #[.agg #[.slice a1 len1 cap1]] (by kernel_rfl) rfl (by kernel_rfl) (zeroD N1 (by omega) false (decide_eq_false c50)) ?_
              rintro e1 v33w ⟨rfl, B⟩
              refine ⟨_, rfl, ?_⟩
              replace N1 := N1.keep B
              replace X4 := X4.keep B
              replace L3 := L3.keep B
              replace Oz4 := Oz4.keep B
              replace X7 := X7.keep B
              replace Oz48 := Oz48.keep B
              replace X11 := X11.keep B
              replace BB := joinB BB B
              clear B
              refine wg_take (some 66) (.bool false) (by kernel_rfl) rfl (by kernel_rfl) ?_
              refine wg_not (some 67) (by kernel_rfl) rfl ?_
              refine wg_not (some 68) (by kernel_rfl) rfl ?_
              refine wg_take (some 69) (.bool false) (by kernel_rfl) rfl (by kernel_rfl) ?_
              refine wl_take (some 70) (.bool false) rfl rfl (by kernel_rfl) ?_
              refine wl_nil ?_
              refine wp_then ?_
              refine wp_frame (a' := ⟨#[(.int .u64 T1), (.agg #[.slice a1 len1 cap1]), (.int .u64 T2), ud, (.pointer (some ⟨g1v, 0, none⟩)), ud, (.bool false), (.pointer (some ⟨g6v, 0, none⟩)), (.int .i64 (neE T1 T2)), ud, ud, (.pointer (some ⟨g29v, 0, none⟩)), (.int .i64 (isE T1 x1 T2)), ud, ud, (.bool true), (.bool false), (.int .u64 y0), (.int .u64 T1), (.int .u64 y2), (.int .u64 T2), (.agg #[.slice a1 len1 cap1]), (.slice (some ⟨g3v, 0, none⟩) 1 1), (.bool true), (.bool false), (.tuple #[.agg #[.slice Az4 Nz4 Cz4], .int .i64 (neE T1 T2)]), (.int .u64 T1), (.agg #[.slice a1 len1 cap1]), (.int .u64 T2), (.tuple #[.agg #[.slice Az4 Nz4 Cz4], .int .i64 (neE T1 T2)]), (.agg #[.slice Az4 Nz4 Cz4]), (.int .i64 (neE T1 T2)), (.int .i64 (neE T1 T2)), (.bool true), (.bool true), (.agg #[.slice Az4 Nz4 Cz4]), (.agg #[.slice a1 len1 cap1]), (.int .i64 1), (.bool false), (.bool false), ud, ud, ud, ud, ud, ud, ud, ud, ud, ud, ud, ud, ud, ud, (.tuple #[.agg #[.slice Az48 Nz48 Cz48], .int .i64 (isE T1 x1 T2)]), (.int .u64 T1), (.agg #[.slice a1 len1 cap1]), (.int .u64 T2), (.tuple #[.agg #[.slice Az48 Nz48 Cz48], .int .i64 (isE T1 x1 T2)]), (.agg #[.slice Az48 Nz48 Cz48]), (.int .i64 (isE T1 x1 T2)), (.int .i64 (isE T1 x1 T2)), (.bool false), (.bool false), (.agg #[.slice a1 len1 cap1]), (.bool false), (.bool false), ud, ud, (.bool false), (.bool false), ud, ud, ud, ud, ud, ud, ud, ud, ud, ud, ud, ud, ud, ud, ud, ud, ud, ud], []⟩) (by kernel_rfl) ?_
              refine wp_cond_false (by kernel_rfl) ?_
              refine wp_skip_then ?_
              refine wp_seq ?_
              refine rg_start (S := fun w' => Below v33w.drew.heap.size v33w.drew w') (by kernel_rfl) (Below.refl _ _) ?_
              replace N1 := N1.drew
              replace X4 := X4.drew
              replace L3 := L3.drew
              replace Oz4 := Oz4.drew
              replace X7 := X7.drew
              replace Oz48 := Oz48.drew
              replace X11 := X11.drew
              replace BB := BB.drew
              have hS := Below.refl v33w.drew.heap.size v33w.drew
              have UX4 := X4
              have UL3 := L3
              have UX7 := X7
              have UX11 := X11
              refine rg_take 0 (some 72) (.int .u64 T1) (by kernel_rfl) (fun _ _ => by kernel_rfl) (fun _ _ _ h => h) hS ?_
              refine rg_take 1 (some 73) (.int .u64 T2) (by kernel_rfl) (fun _ _ => by kernel_rfl) (fun _ _ _ h => h) hS ?_
              have rg58 : 0 ≤ T1 + T2 ∧ T1 + T2 < 18446744073709551616 := by omega
              refine rg_take 2 (some 74) (.int .u64 (T1 + T2)) (by kernel_rfl) (fun _ _ => run_addu (x := 72) (y := 73) (p := T1) (q := T2) (by kernel_rfl) (by kernel_rfl) (by kernel_rfl) rg58) (fun _ _ _ h => h) hS ?_
              refine rg_load 3 (some 75) (.agg #[.slice a1 len1 cap1]) 26 4 (g1v) 0 (by kernel_rfl) (by kernel_rfl) (by kernel_rfl) (fun _ hb => ldx26 ((UX4.keep hb).cell (i := 0) rfl)) (fun _ _ _ h => h) hS ?_
              refine rg_load 4 (some 76) (.agg #[.slice Az48 Nz48 Cz48]) 26 11 (g29v) 0 (by kernel_rfl) (by kernel_rfl) (by kernel_rfl) (fun _ hb => ldx26 ((UX11.keep hb).cell (i := 0) rfl)) (fun _ _ _ h => h) hS ?_
              refine rg_load 6 (some 78) (.agg #[.slice Az48 Nz48 Cz48]) 26 11 (g29v) 0 (by kernel_rfl) (by kernel_rfl) (by kernel_rfl) (fun _ hb => ldx26 ((UX11.keep hb).cell (i := 0) rfl)) (fun _ _ _ h => h) hS ?_
              refine rg_call 5 (some 77) 13 #[.agg #[.slice a1 len1 cap1], .agg #[.slice Az48 Nz48 Cz48]] (by kernel_rfl) (by kernel_rfl) (dAdd N1 Oz48.a (by omega) (by omega)) ?_
              rintro e1 v34w ⟨Az59, Nz59, Cz59, rfl, Oz59, Kz59, B⟩
              refine ⟨_, rfl, joinB hS B, ?_⟩
              replace hS := joinB hS B
              replace N1 := N1.keep B
              replace X4 := X4.keep B
              replace L3 := L3.keep B
              replace Oz4 := Oz4.keep B
              replace X7 := X7.keep B
              replace Oz48 := Oz48.keep B
              replace X11 := X11.keep B
              replace BB := joinB BB B
              clear B
              refine rg_call 7 (some 79) 14 #[.int .u64 (T1 + T2), .agg #[.slice Az59 Nz59 Cz59], .agg #[.slice Az48 Nz48 Cz48]] (by kernel_rfl) (by kernel_rfl) (sRedeem rg58 Oz59.a (by omega) Oz48.a (by omega)) ?_
              rintro e1 v35w ⟨rfl, B⟩
              refine ⟨_, rfl, joinB hS B, ?_⟩
              replace hS := joinB hS B
              replace N1 := N1.keep B
              replace X4 := X4.keep B
              replace L3 := L3.keep B
              replace Oz4 := Oz4.keep B
              replace X7 := X7.keep B
              replace Oz48 := Oz48.keep B
              replace X11 := X11.keep B
              replace Oz59 := Oz59.keep B
              replace BB := joinB BB B
              clear B
              have rg60 := re_rng (S := (x1 + (isV T1 x1 T2))) rg58 Oz48.a.nonneg
              have kf61 := re_facts (T := T1 + T2) (S := (x1 + (isV T1 x1 T2))) (x := (isV T1 x1 T2)) rg58.1 Oz48.a.nonneg
              refine rg_take 8 (some 71) (.tuple #[.int .u64 (reV (T1 + T2) (x1 + (isV T1 x1 T2)) (isV T1 x1 T2)), .int .i64 (reE (x1 + (isV T1 x1 T2)) (isV T1 x1 T2))]) (by kernel_rfl) (fun _ _ => by kernel_rfl) (fun _ _ _ h => h) hS ?_
              refine rg_take 9 (some 80) (.int .u64 (reV (T1 + T2) (x1 + (isV T1 x1 T2)) (isV T1 x1 T2))) (by kernel_rfl) (fun _ _ => by kernel_rfl) (fun _ _ _ h => h) hS ?_
              refine rg_take 10 (some 81) (.int .i64 (reE (x1 + (isV T1 x1 T2)) (isV T1 x1 T2))) (by kernel_rfl) (fun _ _ => by kernel_rfl) (fun _ _ _ h => h) hS ?_
              refine rg_take 11 (some 13) (.int .u64 (reV (T1 + T2) (x1 + (isV T1 x1 T2)) (isV T1 x1 T2))) (by kernel_rfl) (fun _ _ => by kernel_rfl) (fun _ _ _ h => h) hS ?_
              refine rg_take 12 (some 14) (.int .i64 (reE (x1 + (isV T1 x1 T2)) (isV T1 x1 T2))) (by kernel_rfl) (fun _ _ => by kernel_rfl) (fun _ _ _ h => h) hS ?_
              refine rg_done (by kernel_rfl) ?_
              clear hS UX4 UL3 UX7 UX11
              refine wp_then ?_
              refine wp_seq ?_
              refine wl_start ?_
              refine wl_take (some 82) (.int .i64 (reE (x1 + (isV T1 x1 T2)) (isV T1 x1 T2))) rfl rfl (by kernel_rfl) ?_
              by_cases c62 : reE (x1 + (isV T1 x1 T2)) (isV T1 x1 T2) = 0
              · skip
                refine wl_eq (some 83) (.bool ((reE (x1 + (isV T1 x1 T2)) (isV T1 x1 T2) : Int) == 0)) (.bool true) (congrArg Value.bool (beq_iff_eq.2 c62)) rfl rfl (by kernel_rfl) ?_
                refine wl_take (some 84) (.bool true) rfl rfl (by kernel_rfl) ?_
                refine wg_take (some 85) (.int .u64 (reV (T1 + T2) (x1 + (isV T1 x1 T2)) (isV T1 x1 T2))) (by kernel_rfl) rfl (by kernel_rfl) ?_
                refine wg_take (some 86) (.int .u64 T2) (by kernel_rfl) rfl (by kernel_rfl) ?_
                by_cases c63 : reV (T1 + T2) (x1 + (isV T1 x1 T2)) (isV T1 x1 T2) ≤ T2
                · skip
                  refine wg_eq (some 87) (.bool (decide ((reV (T1 + T2) (x1 + (isV T1 x1 T2)) (isV T1 x1 T2) : Int) ≤ T2))) (.bool true) (congrArg Value.bool (decide_eq_true c63)) (by kernel_rfl) rfl (by kernel_rfl) ?_
                  refine wl_take (some 88) (.bool true) rfl rfl (by kernel_rfl) ?_
                  refine wl_take (some 6) (.bool true) rfl rfl (by kernel_rfl) ?_
                  refine wl_nil ?_
                  refine wp_then ?_
                  refine wp_frame (a' := ⟨#[(.int .u64 T1), (.agg #[.slice a1 len1 cap1]), (.int .u64 T2), ud, (.pointer (some ⟨g1v, 0, none⟩)), ud, (.bool true), (.pointer (some ⟨g6v, 0, none⟩)), (.int .i64 (neE T1 T2)), ud, ud, (.pointer (some ⟨g29v, 0, none⟩)), (.int .i64 (isE T1 x1 T2)), (.int .u64 (reV (T1 + T2) (x1 + (isV T1 x1 T2)) (isV T1 x1 T2))), (.int .i64 (reE (x1 + (isV T1 x1 T2)) (isV T1 x1 T2))), (.bool true), (.bool false), (.int .u64 y0), (.int .u64 T1), (.int .u64 y2), (.int .u64 T2), (.agg #[.slice a1 len1 cap1]), (.slice (some ⟨g3v, 0, none⟩) 1 1), (.bool true), (.bool false), (.tuple #[.agg #[.slice Az4 Nz4 Cz4], .int .i64 (neE T1 T2)]), (.int .u64 T1), (.agg #[.slice a1 len1 cap1]), (.int .u64 T2), (.tuple #[.agg #[.slice Az4 Nz4 Cz4], .int .i64 (neE T1 T2)]), (.agg #[.slice Az4 Nz4 Cz4]), (.int .i64 (neE T1 T2)), (.int .i64 (neE T1 T2)), (.bool true), (.bool true), (.agg #[.slice Az4 Nz4 Cz4]), (.agg #[.slice a1 len1 cap1]), (.int .i64 1), (.bool false), (.bool false), ud, ud, ud, ud, ud, ud, ud, ud, ud, ud, ud, ud, ud, ud, (.tuple #[.agg #[.slice Az48 Nz48 Cz48], .int .i64 (isE T1 x1 T2)]), (.int .u64 T1), (.agg #[.slice a1 len1 cap1]), (.int .u64 T2), (.tuple #[.agg #[.slice Az48 Nz48 Cz48], .int .i64 (isE T1 x1 T2)]), (.agg #[.slice Az48 Nz48 Cz48]), (.int .i64 (isE T1 x1 T2)), (.int .i64 (isE T1 x1 T2)), (.bool false), (.bool false), (.agg #[.slice a1 len1 cap1]), (.bool false), (.bool false), ud, ud, (.bool false), (.bool false), (.tuple #[.int .u64 (reV (T1 + T2) (x1 + (isV T1 x1 T2)) (isV T1 x1 T2)), .int .i64 (reE (x1 + (isV T1 x1 T2)) (isV T1 x1 T2))]), (.int .u64 T1), (.int .u64 T2), (.int .u64 (T1 + T2)), (.agg #[.slice a1 len1 cap1]), (.agg #[.slice Az48 Nz48 Cz48]), (.agg #[.slice Az59 Nz59 Cz59]), (.agg #[.slice Az48 Nz48 Cz48]), (.tuple #[.int .u64 (reV (T1 + T2) (x1 + (isV T1 x1 T2)) (isV T1 x1 T2)), .int .i64 (reE (x1 + (isV T1 x1 T2)) (isV T1 x1 T2))]), (.int .u64 (reV (T1 + T2) (x1 + (isV T1 x1 T2)) (isV T1 x1 T2))), (.int .i64 (reE (x1 + (isV T1 x1 T2)) (isV T1 x1 T2))), (.int .i64 (reE (x1 + (isV T1 x1 T2)) (isV T1 x1 T2))), (.bool true), (.bool true), (.int .u64 (reV (T1 + T2) (x1 + (isV T1 x1 T2)) (isV T1 x1 T2))), (.int .u64 T2), (.bool true), (.bool true)], []⟩) (by kernel_rfl) ?_
                  refine wp_ret ?_
                  repeat (first | refine ret_then ?_ | refine ret_block ?_)
                  refine bodyPost_ret (results_tmp rfl _ _ _) rfl ?_
                  exact ⟨by kernel_rfl, BB⟩
                · skip
                  refine wg_eq (some 87) (.bool (decide ((reV (T1 + T2) (x1 + (isV T1 x1 T2)) (isV T1 x1 T2) : Int) ≤ T2))) (.bool false) (congrArg Value.bool (decide_eq_false c63)) (by kernel_rfl) rfl (by kernel_rfl) ?_
                  refine wl_take (some 88) (.bool false) rfl rfl (by kernel_rfl) ?_
                  refine wl_take (some 6) (.bool false) rfl rfl (by kernel_rfl) ?_
                  refine wl_nil ?_
                  refine wp_then ?_
                  refine wp_frame (a' := ⟨#[(.int .u64 T1), (.agg #[.slice a1 len1 cap1]), (.int .u64 T2), ud, (.pointer (some ⟨g1v, 0, none⟩)), ud, (.bool false), (.pointer (some ⟨g6v, 0, none⟩)), (.int .i64 (neE T1 T2)), ud, ud, (.pointer (some ⟨g29v, 0, none⟩)), (.int .i64 (isE T1 x1 T2)), (.int .u64 (reV (T1 + T2) (x1 + (isV T1 x1 T2)) (isV T1 x1 T2))), (.int .i64 (reE (x1 + (isV T1 x1 T2)) (isV T1 x1 T2))), (.bool true), (.bool false), (.int .u64 y0), (.int .u64 T1), (.int .u64 y2), (.int .u64 T2), (.agg #[.slice a1 len1 cap1]), (.slice (some ⟨g3v, 0, none⟩) 1 1), (.bool true), (.bool false), (.tuple #[.agg #[.slice Az4 Nz4 Cz4], .int .i64 (neE T1 T2)]), (.int .u64 T1), (.agg #[.slice a1 len1 cap1]), (.int .u64 T2), (.tuple #[.agg #[.slice Az4 Nz4 Cz4], .int .i64 (neE T1 T2)]), (.agg #[.slice Az4 Nz4 Cz4]), (.int .i64 (neE T1 T2)), (.int .i64 (neE T1 T2)), (.bool true), (.bool true), (.agg #[.slice Az4 Nz4 Cz4]), (.agg #[.slice a1 len1 cap1]), (.int .i64 1), (.bool false), (.bool false), ud, ud, ud, ud, ud, ud, ud, ud, ud, ud, ud, ud, ud, ud, (.tuple #[.agg #[.slice Az48 Nz48 Cz48], .int .i64 (isE T1 x1 T2)]), (.int .u64 T1), (.agg #[.slice a1 len1 cap1]), (.int .u64 T2), (.tuple #[.agg #[.slice Az48 Nz48 Cz48], .int .i64 (isE T1 x1 T2)]), (.agg #[.slice Az48 Nz48 Cz48]), (.int .i64 (isE T1 x1 T2)), (.int .i64 (isE T1 x1 T2)), (.bool false), (.bool false), (.agg #[.slice a1 len1 cap1]), (.bool false), (.bool false), ud, ud, (.bool false), (.bool false), (.tuple #[.int .u64 (reV (T1 + T2) (x1 + (isV T1 x1 T2)) (isV T1 x1 T2)), .int .i64 (reE (x1 + (isV T1 x1 T2)) (isV T1 x1 T2))]), (.int .u64 T1), (.int .u64 T2), (.int .u64 (T1 + T2)), (.agg #[.slice a1 len1 cap1]), (.agg #[.slice Az48 Nz48 Cz48]), (.agg #[.slice Az59 Nz59 Cz59]), (.agg #[.slice Az48 Nz48 Cz48]), (.tuple #[.int .u64 (reV (T1 + T2) (x1 + (isV T1 x1 T2)) (isV T1 x1 T2)), .int .i64 (reE (x1 + (isV T1 x1 T2)) (isV T1 x1 T2))]), (.int .u64 (reV (T1 + T2) (x1 + (isV T1 x1 T2)) (isV T1 x1 T2))), (.int .i64 (reE (x1 + (isV T1 x1 T2)) (isV T1 x1 T2))), (.int .i64 (reE (x1 + (isV T1 x1 T2)) (isV T1 x1 T2))), (.bool true), (.bool true), (.int .u64 (reV (T1 + T2) (x1 + (isV T1 x1 T2)) (isV T1 x1 T2))), (.int .u64 T2), (.bool false), (.bool false)], []⟩) (by kernel_rfl) ?_
                  exfalso
                  have kn := back_need (t := T2) (w64 rt1).1 hx1
                  have ki := back_issue (w64 rt1).1 hx1 (w64 rt2).1
                  clear BB
                  omega
              · skip
                refine wl_eq (some 83) (.bool ((reE (x1 + (isV T1 x1 T2)) (isV T1 x1 T2) : Int) == 0)) (.bool false) (congrArg Value.bool (beq_eq_false_iff_ne.2 c62)) rfl rfl (by kernel_rfl) ?_
                refine wl_take (some 84) (.bool false) rfl rfl (by kernel_rfl) ?_
                refine wg_not (some 85) (by kernel_rfl) rfl ?_
                refine wg_not (some 86) (by kernel_rfl) rfl ?_
                refine wg_not (some 87) (by kernel_rfl) rfl ?_
                refine wl_take (some 88) (.bool false) rfl rfl (by kernel_rfl) ?_
                refine wl_take (some 6) (.bool false) rfl rfl (by kernel_rfl) ?_
                refine wl_nil ?_
                refine wp_then ?_
                refine wp_frame (a' := ⟨#[(.int .u64 T1), (.agg #[.slice a1 len1 cap1]), (.int .u64 T2), ud, (.pointer (some ⟨g1v, 0, none⟩)), ud, (.bool false), (.pointer (some ⟨g6v, 0, none⟩)), (.int .i64 (neE T1 T2)), ud, ud, (.pointer (some ⟨g29v, 0, none⟩)), (.int .i64 (isE T1 x1 T2)), (.int .u64 (reV (T1 + T2) (x1 + (isV T1 x1 T2)) (isV T1 x1 T2))), (.int .i64 (reE (x1 + (isV T1 x1 T2)) (isV T1 x1 T2))), (.bool true), (.bool false), (.int .u64 y0), (.int .u64 T1), (.int .u64 y2), (.int .u64 T2), (.agg #[.slice a1 len1 cap1]), (.slice (some ⟨g3v, 0, none⟩) 1 1), (.bool true), (.bool false), (.tuple #[.agg #[.slice Az4 Nz4 Cz4], .int .i64 (neE T1 T2)]), (.int .u64 T1), (.agg #[.slice a1 len1 cap1]), (.int .u64 T2), (.tuple #[.agg #[.slice Az4 Nz4 Cz4], .int .i64 (neE T1 T2)]), (.agg #[.slice Az4 Nz4 Cz4]), (.int .i64 (neE T1 T2)), (.int .i64 (neE T1 T2)), (.bool true), (.bool true), (.agg #[.slice Az4 Nz4 Cz4]), (.agg #[.slice a1 len1 cap1]), (.int .i64 1), (.bool false), (.bool false), ud, ud, ud, ud, ud, ud, ud, ud, ud, ud, ud, ud, ud, ud, (.tuple #[.agg #[.slice Az48 Nz48 Cz48], .int .i64 (isE T1 x1 T2)]), (.int .u64 T1), (.agg #[.slice a1 len1 cap1]), (.int .u64 T2), (.tuple #[.agg #[.slice Az48 Nz48 Cz48], .int .i64 (isE T1 x1 T2)]), (.agg #[.slice Az48 Nz48 Cz48]), (.int .i64 (isE T1 x1 T2)), (.int .i64 (isE T1 x1 T2)), (.bool false), (.bool false), (.agg #[.slice a1 len1 cap1]), (.bool false), (.bool false), ud, ud, (.bool false), (.bool false), (.tuple #[.int .u64 (reV (T1 + T2) (x1 + (isV T1 x1 T2)) (isV T1 x1 T2)), .int .i64 (reE (x1 + (isV T1 x1 T2)) (isV T1 x1 T2))]), (.int .u64 T1), (.int .u64 T2), (.int .u64 (T1 + T2)), (.agg #[.slice a1 len1 cap1]), (.agg #[.slice Az48 Nz48 Cz48]), (.agg #[.slice Az59 Nz59 Cz59]), (.agg #[.slice Az48 Nz48 Cz48]), (.tuple #[.int .u64 (reV (T1 + T2) (x1 + (isV T1 x1 T2)) (isV T1 x1 T2)), .int .i64 (reE (x1 + (isV T1 x1 T2)) (isV T1 x1 T2))]), (.int .u64 (reV (T1 + T2) (x1 + (isV T1 x1 T2)) (isV T1 x1 T2))), (.int .i64 (reE (x1 + (isV T1 x1 T2)) (isV T1 x1 T2))), (.int .i64 (reE (x1 + (isV T1 x1 T2)) (isV T1 x1 T2))), (.bool false), (.bool false), ud, ud, ud, (.bool false)], []⟩) (by kernel_rfl) ?_
                exfalso
                have kn := back_need (t := T2) (w64 rt1).1 hx1
                have ki := back_issue (w64 rt1).1 hx1 (w64 rt2).1
                clear BB
                omega
          · skip
            refine wl_eq (some 62) (.bool ((isE T1 x1 T2 : Int) != 0)) (.bool true) (congrArg Value.bool (bne_iff_ne.2 c49)) rfl rfl (by kernel_rfl) ?_
            refine wl_take (some 63) (.bool true) rfl rfl (by kernel_rfl) ?_
            refine wg_not (some 64) (by kernel_rfl) rfl ?_
            refine wg_not (some 65) (by kernel_rfl) rfl ?_
            refine wg_not (some 66) (by kernel_rfl) rfl ?_
            refine wg_not (some 67) (by kernel_rfl) rfl ?_
            refine wg_not (some 68) (by kernel_rfl) rfl ?_
            refine wg_not (some 69) (by kernel_rfl) rfl ?_
            refine wl_take (some 70) (.bool true) rfl rfl (by kernel_rfl) ?_
            refine wl_nil ?_
            refine wp_then ?_
            refine wp_frame (a' := ⟨#[(.int .u64 T1), (.agg #[.slice a1 len1 cap1]), (.int .u64 T2), ud, (.pointer (some ⟨g1v, 0, none⟩)), ud, (.bool false), (.pointer (some ⟨g6v, 0, none⟩)), (.int .i64 (neE T1 T2)), ud, ud, (.pointer (some ⟨g29v, 0, none⟩)), (.int .i64 (isE T1 x1 T2)), ud, ud, (.bool true), (.bool false), (.int .u64 y0), (.int .u64 T1), (.int .u64 y2), (.int .u64 T2), (.agg #[.slice a1 len1 cap1]), (.slice (some ⟨g3v, 0, none⟩) 1 1), (.bool true), (.bool false), (.tuple #[.agg #[.slice Az4 Nz4 Cz4], .int .i64 (neE T1 T2)]), (.int .u64 T1), (.agg #[.slice a1 len1 cap1]), (.int .u64 T2), (.tuple #[.agg #[.slice Az4 Nz4 Cz4], .int .i64 (neE T1 T2)]), (.agg #[.slice Az4 Nz4 Cz4]), (.int .i64 (neE T1 T2)), (.int .i64 (neE T1 T2)), (.bool true), (.bool true), (.agg #[.slice Az4 Nz4 Cz4]), (.agg #[.slice a1 len1 cap1]), (.int .i64 1), (.bool false), (.bool false), ud, ud, ud, ud, ud, ud, ud, ud, ud, ud, ud, ud, ud, ud, (.tuple #[.agg #[.slice Az48 Nz48 Cz48], .int .i64 (isE T1 x1 T2)]), (.int .u64 T1), (.agg #[.slice a1 len1 cap1]), (.int .u64 T2), (.tuple #[.agg #[.slice Az48 Nz48 Cz48], .int .i64 (isE T1 x1 T2)]), (.agg #[.slice Az48 Nz48 Cz48]), (.int .i64 (isE T1 x1 T2)), (.int .i64 (isE T1 x1 T2)), (.bool true), (.bool true), ud, ud, ud, ud, ud, ud, (.bool true), ud, ud, ud, ud, ud, ud, ud, ud, ud, ud, ud, ud, ud, ud, ud, ud, ud, ud], []⟩) (by kernel_rfl) ?_
            refine wp_cond_true (by kernel_rfl) ?_
            refine wp_seq ?_
            refine wl_start ?_
            refine wl_take (some 6) (.bool true) rfl rfl (by kernel_rfl) ?_
            refine wl_nil ?_
            refine wp_then ?_
            refine wp_ret ?_
            repeat (first | refine ret_then ?_ | refine ret_block ?_)
            refine bodyPost_ret (results_tmp rfl _ _ _) rfl ?_
            exact ⟨by kernel_rfl, BB⟩
    · skip
      refine wl_eq (some 33) (.bool ((neE T1 T2 : Int) == 0)) (.bool false) (congrArg Value.bool (beq_eq_false_iff_ne.2 c5)) rfl rfl (by kernel_rfl) ?_
      refine wl_take (some 34) (.bool false) rfl rfl (by kernel_rfl) ?_
      refine wg_not (some 35) (by kernel_rfl) rfl ?_
      refine wg_not (some 36) (by kernel_rfl) rfl ?_
      refine wg_not (some 37) (by kernel_rfl) rfl ?_
      refine wg_not (some 38) (by kernel_rfl) rfl ?_
      refine wl_take (some 39) (.bool false) rfl rfl (by kernel_rfl) ?_
      refine wl_nil ?_
      refine wp_then ?_
      refine wp_frame (a' := ⟨#[(.int .u64 T1), (.agg #[.slice a1 len1 cap1]), (.int .u64 T2), ud, (.pointer (some ⟨g1v, 0, none⟩)), ud, (.bool false), (.pointer (some ⟨g6v, 0, none⟩)), (.int .i64 (neE T1 T2)), ud, ud, ud, ud, ud, ud, (.bool true), (.bool false), (.int .u64 y0), (.int .u64 T1), (.int .u64 y2), (.int .u64 T2), (.agg #[.slice a1 len1 cap1]), (.slice (some ⟨g3v, 0, none⟩) 1 1), (.bool true), (.bool false), (.tuple #[.agg #[.slice Az4 Nz4 Cz4], .int .i64 (neE T1 T2)]), (.int .u64 T1), (.agg #[.slice a1 len1 cap1]), (.int .u64 T2), (.tuple #[.agg #[.slice Az4 Nz4 Cz4], .int .i64 (neE T1 T2)]), (.agg #[.slice Az4 Nz4 Cz4]), (.int .i64 (neE T1 T2)), (.int .i64 (neE T1 T2)), (.bool false), (.bool false), ud, ud, ud, ud, (.bool false), ud, ud, ud, ud, ud, ud, ud, ud, ud, ud, ud, ud, ud, ud, ud, ud, ud, ud, ud, ud, ud, ud, ud, ud, ud, ud, ud, ud, ud, ud, ud, ud, ud, ud, ud, ud, ud, ud, ud, ud, ud, ud, ud, ud, ud, ud, ud, ud, ud], []⟩) (by kernel_rfl) ?_
      refine wp_cond_false (by kernel_rfl) ?_
      refine wp_skip_then ?_
      refine wp_seq ?_
      refine wl_start ?_
      refine wl_take (some 55) (.int .u64 T1) rfl rfl (by kernel_rfl) ?_
      refine wl_take (some 56) (.agg #[.slice a1 len1 cap1]) rfl rfl (run_lp 4 (by kernel_rfl) (by kernel_rfl) (ldx26 (X4.cell (i := 0) rfl))) ?_
      refine wl_take (some 57) (.int .u64 T2) rfl rfl (by kernel_rfl) ?_
      refine wl_call (some 58) 11 #[.int .u64 T1, .agg #[.slice a1 len1 cap1], .int .u64 T2] rfl rfl (by kernel_rfl) (sIssue (w64 rt1) N1 (by omega) (w64 rt2)) ?_
      rintro e1 v36w ⟨Az64, Nz64, Cz64, rfl, Oz64, Kz64, B⟩
      refine ⟨_, rfl, ?_⟩
      replace N1 := N1.keep B
      replace X4 := X4.keep B
      replace L3 := L3.keep B
      replace Oz4 := Oz4.keep B
      replace X7 := X7.keep B
      replace BB := joinB BB B
      clear B
      refine wl_take (some 54) (.tuple #[.agg #[.slice Az64 Nz64 Cz64], .int .i64 (isE T1 x1 T2)]) rfl rfl (by kernel_rfl) ?_
      refine wl_take (some 59) (.agg #[.slice Az64 Nz64 Cz64]) rfl rfl (by kernel_rfl) ?_
      refine wl_take (some 60) (.int .i64 (isE T1 x1 T2)) rfl rfl (by kernel_rfl) ?_
      have bs36 := BB.size
      refine wl_new 11 59 26 [.slice none 0 0] [.slice Az64 Nz64 Cz64] rfl rfl rfl rfl rfl rfl allocx26 (fun _ => by kernel_rfl) (fun _ => by kernel_rfl) (by kernel_rfl) rfl (by kernel_rfl) ?_
      intro v37w g37v X11 hg37v B
      replace N1 := N1.keep B
      replace X4 := X4.keep B
      replace L3 := L3.keep B
      replace Oz4 := Oz4.keep B
      replace X7 := X7.keep B
      replace Oz64 := Oz64.keep B
      replace BB := joinB BB B
      clear B
      refine wl_take (some 12) (.int .i64 (isE T1 x1 T2)) rfl rfl (by kernel_rfl) ?_
      refine wl_nil ?_
      refine wp_then ?_
      refine wp_seq ?_
      refine wp_seq ?_
      refine wl_start ?_
      refine wl_take (some 61) (.int .i64 (isE T1 x1 T2)) rfl rfl (by kernel_rfl) ?_
      by_cases c65 : isE T1 x1 T2 = 0
      · skip
        refine wl_eq (some 62) (.bool ((isE T1 x1 T2 : Int) != 0)) (.bool false) (congrArg Value.bool (bne_eq_false_iff_eq.2 c65)) rfl rfl (by kernel_rfl) ?_
        refine wl_take (some 63) (.bool false) rfl rfl (by kernel_rfl) ?_
        refine wg_take (some 64) (.agg #[.slice a1 len1 cap1]) (by kernel_rfl) rfl (run_lp 4 (by kernel_rfl) (by kernel_rfl) (ldx26 (X4.cell (i := 0) rfl))) ?_
        by_cases c66 : x1 = 0
        · skip
          refine wg_call (some 65) 10 #[.agg #[.slice a1 len1 cap1]] (by kernel_rfl) rfl (by kernel_rfl) (zeroD N1 (by omega) true (decide_eq_true c66)) ?_
          rintro e1 v38w ⟨rfl, B⟩
          refine ⟨_, rfl, ?_⟩
          replace N1 := N1.keep B
          replace X4 := X4.keep B
          replace L3 := L3.keep B
          replace Oz4 := Oz4.keep B
          replace X7 := X7.keep B
          replace Oz64 := Oz64.keep B
          replace X11 := X11.keep B
          replace BB := joinB BB B
          clear B
          refine wg_take (some 66) (.bool true) (by kernel_rfl) rfl (by kernel_rfl) ?_
          refine wg_take (some 67) (.int .u64 T1) (by kernel_rfl) rfl (by kernel_rfl) ?_
          by_cases c67 : 0 < T1
          · skip
            refine wg_eq (some 68) (.bool (decide ((0 : Int) < T1))) (.bool true) (congrArg Value.bool (decide_eq_true c67)) (by kernel_rfl) rfl (by kernel_rfl) ?_
            refine wg_take (some 69) (.bool true) (by kernel_rfl) rfl (by kernel_rfl) ?_
            refine wl_take (some 70) (.bool true) rfl rfl (by kernel_rfl) ?_
            refine wl_nil ?_
            refine wp_then ?_
            refine wp_frame (a' := ⟨#[(.int .u64 T1), (.agg #[.slice a1 len1 cap1]), (.int .u64 T2), ud, (.pointer (some ⟨g1v, 0, none⟩)), ud, (.bool false), (.pointer (some ⟨g6v, 0, none⟩)), (.int .i64 (neE T1 T2)), ud, ud, (.pointer (some ⟨g37v, 0, none⟩)), (.int .i64 (isE T1 x1 T2)), ud, ud, (.bool true), (.bool false), (.int .u64 y0), (.int .u64 T1), (.int .u64 y2), (.int .u64 T2), (.agg #[.slice a1 len1 cap1]), (.slice (some ⟨g3v, 0, none⟩) 1 1), (.bool true), (.bool false), (.tuple #[.agg #[.slice Az4 Nz4 Cz4], .int .i64 (neE T1 T2)]), (.int .u64 T1), (.agg #[.slice a1 len1 cap1]), (.int .u64 T2), (.tuple #[.agg #[.slice Az4 Nz4 Cz4], .int .i64 (neE T1 T2)]), (.agg #[.slice Az4 Nz4 Cz4]), (.int .i64 (neE T1 T2)), (.int .i64 (neE T1 T2)), (.bool false), (.bool false), ud, ud, ud, ud, (.bool false), ud, ud, ud, ud, ud, ud, ud, ud, ud, ud, ud, ud, ud, ud, (.tuple #[.agg #[.slice Az64 Nz64 Cz64], .int .i64 (isE T1 x1 T2)]), (.int .u64 T1), (.agg #[.slice a1 len1 cap1]), (.int .u64 T2), (.tuple #[.agg #[.slice Az64 Nz64 Cz64], .int .i64 (isE T1 x1 T2)]), (.agg #[.slice Az64 Nz64 Cz64]), (.int .i64 (isE T1 x1 T2)), (.int .i64 (isE T1 x1 T2)), (.bool false), (.bool false), (.agg #[.slice a1 len1 cap1]), (.bool true), (.bool true), (.int .u64 T1), (.bool true), (.bool true), (.bool true), ud, ud, ud, ud, ud, ud, ud, ud, ud, ud, ud, ud, ud, ud, ud, ud, ud, ud], []⟩) (by kernel_rfl) ?_
            refine wp_cond_true (by kernel_rfl) ?_
            refine wp_seq ?_
            refine wl_start ?_
            refine wl_take (some 6) (.bool true) rfl rfl (by kernel_rfl) ?_
            refine wl_nil ?_
            refine wp_then ?_
            refine wp_ret ?_
            repeat (first | refine ret_then ?_ | refine ret_block ?_)
            refine bodyPost_ret (results_tmp rfl _ _ _) rfl ?_
            exact ⟨by kernel_rfl, BB⟩
          · skip
            refine wg_eq (some 68) (.bool (decide ((0 : Int) < T1))) (.bool false) (congrArg Value.bool (decide_eq_false c67)) (by kernel_rfl) rfl (by kernel_rfl) ?_
            refine wg_take (some 69) (.bool false) (by kernel_rfl) rfl (by kernel_rfl) ?_
            refine wl_take (some 70) (.bool false) rfl rfl (by kernel_rfl) ?_
            refine wl_nil ?_
            refine wp_then ?_
            refine wp_frame (a' := ⟨#[(.int .u64 T1), (.agg #[.slice a1 len1 cap1]), (.int .u64 T2), ud, (.pointer (some ⟨g1v, 0, none⟩)), ud, (.bool false), (.pointer (some ⟨g6v, 0, none⟩)), (.int .i64 (neE T1 T2)), ud, ud, (.pointer (some ⟨g37v, 0, none⟩)), (.int .i64 (isE T1 x1 T2)), ud, ud, (.bool true), (.bool false), (.int .u64 y0), (.int .u64 T1), (.int .u64 y2), (.int .u64 T2), (.agg #[.slice a1 len1 cap1]), (.slice (some ⟨g3v, 0, none⟩) 1 1), (.bool true), (.bool false), (.tuple #[.agg #[.slice Az4 Nz4 Cz4], .int .i64 (neE T1 T2)]), (.int .u64 T1), (.agg #[.slice a1 len1 cap1]), (.int .u64 T2), (.tuple #[.agg #[.slice Az4 Nz4 Cz4], .int .i64 (neE T1 T2)]), (.agg #[.slice Az4 Nz4 Cz4]), (.int .i64 (neE T1 T2)), (.int .i64 (neE T1 T2)), (.bool false), (.bool false), ud, ud, ud, ud, (.bool false), ud, ud, ud, ud, ud, ud, ud, ud, ud, ud, ud, ud, ud, ud, (.tuple #[.agg #[.slice Az64 Nz64 Cz64], .int .i64 (isE T1 x1 T2)]), (.int .u64 T1), (.agg #[.slice a1 len1 cap1]), (.int .u64 T2), (.tuple #[.agg #[.slice Az64 Nz64 Cz64], .int .i64 (isE T1 x1 T2)]), (.agg #[.slice Az64 Nz64 Cz64]), (.int .i64 (isE T1 x1 T2)), (.int .i64 (isE T1 x1 T2)), (.bool false), (.bool false), (.agg #[.slice a1 len1 cap1]), (.bool true), (.bool true), (.int .u64 T1), (.bool false), (.bool false), (.bool false), ud, ud, ud, ud, ud, ud, ud, ud, ud, ud, ud, ud, ud, ud, ud, ud, ud, ud], []⟩) (by kernel_rfl) ?_
            refine wp_cond_false (by kernel_rfl) ?_
            refine wp_skip_then ?_
            refine wp_seq ?_
            refine rg_start (S := fun w' => Below v38w.drew.heap.size v38w.drew w') (by kernel_rfl) (Below.refl _ _) ?_
            replace N1 := N1.drew
            replace X4 := X4.drew
            replace L3 := L3.drew
            replace Oz4 := Oz4.drew
            replace X7 := X7.drew
            replace Oz64 := Oz64.drew
            replace X11 := X11.drew
            replace BB := BB.drew
            have hS := Below.refl v38w.drew.heap.size v38w.drew
            have UX4 := X4
            have UL3 := L3
            have UX7 := X7
            have UX11 := X11
            refine rg_take 0 (some 72) (.int .u64 T1) (by kernel_rfl) (fun _ _ => by kernel_rfl) (fun _ _ _ h => h) hS ?_
            refine rg_take 1 (some 73) (.int .u64 T2) (by kernel_rfl) (fun _ _ => by kernel_rfl) (fun _ _ _ h => h) hS ?_
            have rg68 : 0 ≤ T1 + T2 ∧ T1 + T2 < 18446744073709551616 := by omega
            refine rg_take 2 (some 74) (.int .u64 (T1 + T2)) (by kernel_rfl) (fun _ _ => run_addu (x := 72) (y := 73) (p := T1) (q := T2) (by kernel_rfl) (by kernel_rfl) (by kernel_rfl) rg68) (fun _ _ _ h => h) hS ?_
            refine rg_load 3 (some 75) (.agg #[.slice a1 len1 cap1]) 26 4 (g1v) 0 (by kernel_rfl) (by kernel_rfl) (by kernel_rfl) (fun _ hb => ldx26 ((UX4.keep hb).cell (i := 0) rfl)) (fun _ _ _ h => h) hS ?_
            refine rg_load 4 (some 76) (.agg #[.slice Az64 Nz64 Cz64]) 26 11 (g37v) 0 (by kernel_rfl) (by kernel_rfl) (by kernel_rfl) (fun _ hb => ldx26 ((UX11.keep hb).cell (i := 0) rfl)) (fun _ _ _ h => h) hS ?_
            refine rg_load 6 (some 78) (.agg #[.slice Az64 Nz64 Cz64]) 26 11 (g37v) 0 (by kernel_rfl) (by kernel_rfl) (by kernel_rfl) (fun _ hb => ldx26 ((UX11.keep hb).cell (i := 0) rfl)) (fun _ _ _ h => h) hS ?_
            refine rg_call 5 (some 77) 13 #[.agg #[.slice a1 len1 cap1], .agg #[.slice Az64 Nz64 Cz64]] (by kernel_rfl) (by kernel_rfl) (dAdd N1 Oz64.a (by omega) (by omega)) ?_
            rintro e1 v39w ⟨Az69, Nz69, Cz69, rfl, Oz69, Kz69, B⟩
            refine ⟨_, rfl, joinB hS B, ?_⟩
            replace hS := joinB hS B
            replace N1 := N1.keep B
            replace X4 := X4.keep B
            replace L3 := L3.keep B
            replace Oz4 := Oz4.keep B
            replace X7 := X7.keep B
            replace Oz64 := Oz64.keep B
            replace X11 := X11.keep B
            replace BB := joinB BB B
            clear B
            refine rg_call 7 (some 79) 14 #[.int .u64 (T1 + T2), .agg #[.slice Az69 Nz69 Cz69], .agg #[.slice Az64 Nz64 Cz64]] (by kernel_rfl) (by kernel_rfl) (sRedeem rg68 Oz69.a (by omega) Oz64.a (by omega)) ?_
            rintro e1 v40w ⟨rfl, B⟩
            refine ⟨_, rfl, joinB hS B, ?_⟩
            replace hS := joinB hS B
            replace N1 := N1.keep B
            replace X4 := X4.keep B
            replace L3 := L3.keep B
            replace Oz4 := Oz4.keep B
            replace X7 := X7.keep B
            replace Oz64 := Oz64.keep B
            replace X11 := X11.keep B
            replace Oz69 := Oz69.keep B
            replace BB := joinB BB B
            clear B
            have rg70 := re_rng (S := (x1 + (isV T1 x1 T2))) rg68 Oz64.a.nonneg
            have kf71 := re_facts (T := T1 + T2) (S := (x1 + (isV T1 x1 T2))) (x := (isV T1 x1 T2)) rg68.1 Oz64.a.nonneg
            refine rg_take 8 (some 71) (.tuple #[.int .u64 (reV (T1 + T2) (x1 + (isV T1 x1 T2)) (isV T1 x1 T2)), .int .i64 (reE (x1 + (isV T1 x1 T2)) (isV T1 x1 T2))]) (by kernel_rfl) (fun _ _ => by kernel_rfl) (fun _ _ _ h => h) hS ?_
            refine rg_take 9 (some 80) (.int .u64 (reV (T1 + T2) (x1 + (isV T1 x1 T2)) (isV T1 x1 T2))) (by kernel_rfl) (fun _ _ => by kernel_rfl) (fun _ _ _ h => h) hS ?_
            refine rg_take 10 (some 81) (.int .i64 (reE (x1 + (isV T1 x1 T2)) (isV T1 x1 T2))) (by kernel_rfl) (fun _ _ => by kernel_rfl) (fun _ _ _ h => h) hS ?_
            refine rg_take 11 (some 13) (.int .u64 (reV (T1 + T2) (x1 + (isV T1 x1 T2)) (isV T1 x1 T2))) (by kernel_rfl) (fun _ _ => by kernel_rfl) (fun _ _ _ h => h) hS ?_
            refine rg_take 12 (some 14) (.int .i64 (reE (x1 + (isV T1 x1 T2)) (isV T1 x1 T2))) (by kernel_rfl) (fun _ _ => by kernel_rfl) (fun _ _ _ h => h) hS ?_
            refine rg_done (by kernel_rfl) ?_
            clear hS UX4 UL3 UX7 UX11
            refine wp_then ?_
            refine wp_seq ?_
            refine wl_start ?_
            refine wl_take (some 82) (.int .i64 (reE (x1 + (isV T1 x1 T2)) (isV T1 x1 T2))) rfl rfl (by kernel_rfl) ?_
            by_cases c72 : reE (x1 + (isV T1 x1 T2)) (isV T1 x1 T2) = 0
            · skip
              refine wl_eq (some 83) (.bool ((reE (x1 + (isV T1 x1 T2)) (isV T1 x1 T2) : Int) == 0)) (.bool true) (congrArg Value.bool (beq_iff_eq.2 c72)) rfl rfl (by kernel_rfl) ?_
              refine wl_take (some 84) (.bool true) rfl rfl (by kernel_rfl) ?_
              refine wg_take (some 85) (.int .u64 (reV (T1 + T2) (x1 + (isV T1 x1 T2)) (isV T1 x1 T2))) (by kernel_rfl) rfl (by kernel_rfl) ?_
              refine wg_take (some 86) (.int .u64 T2) (by kernel_rfl) rfl (by kernel_rfl) ?_
              by_cases c73 : reV (T1 + T2) (x1 + (isV T1 x1 T2)) (isV T1 x1 T2) ≤ T2
              · skip
                refine wg_eq (some 87) (.bool (decide ((reV (T1 + T2) (x1 + (isV T1 x1 T2)) (isV T1 x1 T2) : Int) ≤ T2))) (.bool true) (congrArg Value.bool (decide_eq_true c73)) (by kernel_rfl) rfl (by kernel_rfl) ?_
                refine wl_take (some 88) (.bool true) rfl rfl (by kernel_rfl) ?_
                refine wl_take (some 6) (.bool true) rfl rfl (by kernel_rfl) ?_
                refine wl_nil ?_
                refine wp_then ?_
                refine wp_frame (a' := ⟨#[(.int .u64 T1), (.agg #[.slice a1 len1 cap1]), (.int .u64 T2), ud, (.pointer (some ⟨g1v, 0, none⟩)), ud, (.bool true), (.pointer (some ⟨g6v, 0, none⟩)), (.int .i64 (neE T1 T2)), ud, ud, (.pointer (some ⟨g37v, 0, none⟩)), (.int .i64 (isE T1 x1 T2)), (.int .u64 (reV (T1 + T2) (x1 + (isV T1 x1 T2)) (isV T1 x1 T2))), (.int .i64 (reE (x1 + (isV T1 x1 T2)) (isV T1 x1 T2))), (.bool true), (.bool false), (.int .u64 y0), (.int .u64 T1), (.int .u64 y2), (.int .u64 T2), (.agg #[.slice a1 len1 cap1]), (.slice (some ⟨g3v, 0, none⟩) 1 1), (.bool true), (.bool false), (.tuple #[.agg #[.slice Az4 Nz4 Cz4], .int .i64 (neE T1 T2)]), (.int .u64 T1), (.agg #[.slice a1 len1 cap1]), (.int .u64 T2), (.tuple #[.agg #[.slice Az4 Nz4 Cz4], .int .i64 (neE T1 T2)]), (.agg #[.slice Az4 Nz4 Cz4]), (.int .i64 (neE T1 T2)), (.int .i64 (neE T1 T2)), (.bool false), (.bool false), ud, ud, ud, ud, (.bool false), ud, ud, ud, ud, ud, ud, ud, ud, ud, ud, ud, ud, ud, ud, (.tuple #[.agg #[.slice Az64 Nz64 Cz64], .int .i64 (isE T1 x1 T2)]), (.int .u64 T1), (.agg #[.slice a1 len1 cap1]), (.int .u64 T2), (.tuple #[.agg #[.slice Az64 Nz64 Cz64], .int .i64 (isE T1 x1 T2)]), (.agg #[.slice Az64 Nz64 Cz64]), (.int .i64 (isE T1 x1 T2)), (.int .i64 (isE T1 x1 T2)), (.bool false), (.bool false), (.agg #[.slice a1 len1 cap1]), (.bool true), (.bool true), (.int .u64 T1), (.bool false), (.bool false), (.bool false), (.tuple #[.int .u64 (reV (T1 + T2) (x1 + (isV T1 x1 T2)) (isV T1 x1 T2)), .int .i64 (reE (x1 + (isV T1 x1 T2)) (isV T1 x1 T2))]), (.int .u64 T1), (.int .u64 T2), (.int .u64 (T1 + T2)), (.agg #[.slice a1 len1 cap1]), (.agg #[.slice Az64 Nz64 Cz64]), (.agg #[.slice Az69 Nz69 Cz69]), (.agg #[.slice Az64 Nz64 Cz64]), (.tuple #[.int .u64 (reV (T1 + T2) (x1 + (isV T1 x1 T2)) (isV T1 x1 T2)), .int .i64 (reE (x1 + (isV T1 x1 T2)) (isV T1 x1 T2))]), (.int .u64 (reV (T1 + T2) (x1 + (isV T1 x1 T2)) (isV T1 x1 T2))), (.int .i64 (reE (x1 + (isV T1 x1 T2)) (isV T1 x1 T2))), (.int .i64 (reE (x1 + (isV T1 x1 T2)) (isV T1 x1 T2))), (.bool true), (.bool true), (.int .u64 (reV (T1 + T2) (x1 + (isV T1 x1 T2)) (isV T1 x1 T2))), (.int .u64 T2), (.bool true), (.bool true)], []⟩) (by kernel_rfl) ?_
                refine wp_ret ?_
                repeat (first | refine ret_then ?_ | refine ret_block ?_)
                refine bodyPost_ret (results_tmp rfl _ _ _) rfl ?_
                exact ⟨by kernel_rfl, BB⟩
              · skip
                refine wg_eq (some 87) (.bool (decide ((reV (T1 + T2) (x1 + (isV T1 x1 T2)) (isV T1 x1 T2) : Int) ≤ T2))) (.bool false) (congrArg Value.bool (decide_eq_false c73)) (by kernel_rfl) rfl (by kernel_rfl) ?_
                refine wl_take (some 88) (.bool false) rfl rfl (by kernel_rfl) ?_
                refine wl_take (some 6) (.bool false) rfl rfl (by kernel_rfl) ?_
                refine wl_nil ?_
                refine wp_then ?_
                refine wp_frame (a' := ⟨#[(.int .u64 T1), (.agg #[.slice a1 len1 cap1]), (.int .u64 T2), ud, (.pointer (some ⟨g1v, 0, none⟩)), ud, (.bool false), (.pointer (some ⟨g6v, 0, none⟩)), (.int .i64 (neE T1 T2)), ud, ud, (.pointer (some ⟨g37v, 0, none⟩)), (.int .i64 (isE T1 x1 T2)), (.int .u64 (reV (T1 + T2) (x1 + (isV T1 x1 T2)) (isV T1 x1 T2))), (.int .i64 (reE (x1 + (isV T1 x1 T2)) (isV T1 x1 T2))), (.bool true), (.bool false), (.int .u64 y0), (.int .u64 T1), (.int .u64 y2), (.int .u64 T2), (.agg #[.slice a1 len1 cap1]), (.slice (some ⟨g3v, 0, none⟩) 1 1), (.bool true), (.bool false), (.tuple #[.agg #[.slice Az4 Nz4 Cz4], .int .i64 (neE T1 T2)]), (.int .u64 T1), (.agg #[.slice a1 len1 cap1]), (.int .u64 T2), (.tuple #[.agg #[.slice Az4 Nz4 Cz4], .int .i64 (neE T1 T2)]), (.agg #[.slice Az4 Nz4 Cz4]), (.int .i64 (neE T1 T2)), (.int .i64 (neE T1 T2)), (.bool false), (.bool false), ud, ud, ud, ud, (.bool false), ud, ud, ud, ud, ud, ud, ud, ud, ud, ud, ud, ud, ud, ud, (.tuple #[.agg #[.slice Az64 Nz64 Cz64], .int .i64 (isE T1 x1 T2)]), (.int .u64 T1), (.agg #[.slice a1 len1 cap1]), (.int .u64 T2), (.tuple #[.agg #[.slice Az64 Nz64 Cz64], .int .i64 (isE T1 x1 T2)]), (.agg #[.slice Az64 Nz64 Cz64]), (.int .i64 (isE T1 x1 T2)), (.int .i64 (isE T1 x1 T2)), (.bool false), (.bool false), (.agg #[.slice a1 len1 cap1]), (.bool true), (.bool true), (.int .u64 T1), (.bool false), (.bool false), (.bool false), (.tuple #[.int .u64 (reV (T1 + T2) (x1 + (isV T1 x1 T2)) (isV T1 x1 T2)), .int .i64 (reE (x1 + (isV T1 x1 T2)) (isV T1 x1 T2))]), (.int .u64 T1), (.int .u64 T2), (.int .u64 (T1 + T2)), (.agg #[.slice a1 len1 cap1]), (.agg #[.slice Az64 Nz64 Cz64]), (.agg #[.slice Az69 Nz69 Cz69]), (.agg #[.slice Az64 Nz64 Cz64]), (.tuple #[.int .u64 (reV (T1 + T2) (x1 + (isV T1 x1 T2)) (isV T1 x1 T2)), .int .i64 (reE (x1 + (isV T1 x1 T2)) (isV T1 x1 T2))]), (.int .u64 (reV (T1 + T2) (x1 + (isV T1 x1 T2)) (isV T1 x1 T2))), (.int .i64 (reE (x1 + (isV T1 x1 T2)) (isV T1 x1 T2))), (.int .i64 (reE (x1 + (isV T1 x1 T2)) (isV T1 x1 T2))), (.bool true), (.bool true), (.int .u64 (reV (T1 + T2) (x1 + (isV T1 x1 T2)) (isV T1 x1 T2))), (.int .u64 T2), (.bool false), (.bool false)], []⟩) (by kernel_rfl) ?_
                exfalso
                have kn := back_need (t := T2) (w64 rt1).1 hx1
                have ki := back_issue (w64 rt1).1 hx1 (w64 rt2).1
                clear BB
                omega
            · skip
              refine wl_eq (some 83) (.bool ((reE (x1 + (isV T1 x1 T2)) (isV T1 x1 T2) : Int) == 0)) (.bool false) (congrArg Value.bool (beq_eq_false_iff_ne.2 c72)) rfl rfl (by kernel_rfl) ?_
              refine wl_take (some 84) (.bool false) rfl rfl (by kernel_rfl) ?_
              refine wg_not (some 85) (by kernel_rfl) rfl ?_
              refine wg_not (some 86) (by kernel_rfl) rfl ?_
              refine wg_not (some 87) (by kernel_rfl) rfl ?_
              refine wl_take (some 88) (.bool false) rfl rfl (by kernel_rfl) ?_
              refine wl_take (some 6) (.bool false) rfl rfl (by kernel_rfl) ?_
              refine wl_nil ?_
              refine wp_then ?_
              refine wp_frame (a' := ⟨#[(.int .u64 T1), (.agg #[.slice a1 len1 cap1]), (.int .u64 T2), ud, (.pointer (some ⟨g1v, 0, none⟩)), ud, (.bool false), (.pointer (some ⟨g6v, 0, none⟩)), (.int .i64 (neE T1 T2)), ud, ud, (.pointer (some ⟨g37v, 0, none⟩)), (.int .i64 (isE T1 x1 T2)), (.int .u64 (reV (T1 + T2) (x1 + (isV T1 x1 T2)) (isV T1 x1 T2))), (.int .i64 (reE (x1 + (isV T1 x1 T2)) (isV T1 x1 T2))), (.bool true), (.bool false), (.int .u64 y0), (.int .u64 T1), (.int .u64 y2), (.int .u64 T2), (.agg #[.slice a1 len1 cap1]), (.slice (some ⟨g3v, 0, none⟩) 1 1), (.bool true), (.bool false), (.tuple #[.agg #[.slice Az4 Nz4 Cz4], .int .i64 (neE T1 T2)]), (.int .u64 T1), (.agg #[.slice a1 len1 cap1]), (.int .u64 T2), (.tuple #[.agg #[.slice Az4 Nz4 Cz4], .int .i64 (neE T1 T2)]), (.agg #[.slice Az4 Nz4 Cz4]), (.int .i64 (neE T1 T2)), (.int .i64 (neE T1 T2)), (.bool false), (.bool false), ud, ud, ud, ud, (.bool false), ud, ud, ud, ud, ud, ud, ud, ud, ud, ud, ud, ud, ud, ud, (.tuple #[.agg #[.slice Az64 Nz64 Cz64], .int .i64 (isE T1 x1 T2)]), (.int .u64 T1), (.agg #[.slice a1 len1 cap1]), (.int .u64 T2), (.tuple #[.agg #[.slice Az64 Nz64 Cz64], .int .i64 (isE T1 x1 T2)]), (.agg #[.slice Az64 Nz64 Cz64]), (.int .i64 (isE T1 x1 T2)), (.int .i64 (isE T1 x1 T2)), (.bool false), (.bool false), (.agg #[.slice a1 len1 cap1]), (.bool true), (.bool true), (.int .u64 T1), (.bool false), (.bool false), (.bool false), (.tuple #[.int .u64 (reV (T1 + T2) (x1 + (isV T1 x1 T2)) (isV T1 x1 T2)), .int .i64 (reE (x1 + (isV T1 x1 T2)) (isV T1 x1 T2))]), (.int .u64 T1), (.int .u64 T2), (.int .u64 (T1 + T2)), (.agg #[.slice a1 len1 cap1]), (.agg #[.slice Az64 Nz64 Cz64]), (.agg #[.slice Az69 Nz69 Cz69]), (.agg #[.slice Az64 Nz64 Cz64]), (.tuple #[.int .u64 (reV (T1 + T2) (x1 + (isV T1 x1 T2)) (isV T1 x1 T2)), .int .i64 (reE (x1 + (isV T1 x1 T2)) (isV T1 x1 T2))]), (.int .u64 (reV (T1 + T2) (x1 + (isV T1 x1 T2)) (isV T1 x1 T2))), (.int .i64 (reE (x1 + (isV T1 x1 T2)) (isV T1 x1 T2))), (.int .i64 (reE (x1 + (isV T1 x1 T2)) (isV T1 x1 T2))), (.bool false), (.bool false), ud, ud, ud, (.bool false)], []⟩) (by kernel_rfl) ?_
              exfalso
              have kn := back_need (t := T2) (w64 rt1).1 hx1
              have ki := back_issue (w64 rt1).1 hx1 (w64 rt2).1
              clear BB
              omega
        · skip
          refine wg_call (some 65) 10 #[.agg #[.slice a1 len1 cap1]] (by kernel_rfl) rfl (by kernel_rfl) (zeroD N1 (by omega) false (decide_eq_false c66)) ?_
          rintro e1 v41w ⟨rfl, B⟩
          refine ⟨_, rfl, ?_⟩
          replace N1 := N1.keep B
          replace X4 := X4.keep B
          replace L3 := L3.keep B
          replace Oz4 := Oz4.keep B
          replace X7 := X7.keep B
          replace Oz64 := Oz64.keep B
          replace X11 := X11.keep B
          replace BB := joinB BB B
          clear B
          refine wg_take (some 66) (.bool false) (by kernel_rfl) rfl (by kernel_rfl) ?_
          refine wg_not (some 67) (by kernel_rfl) rfl ?_
          refine wg_not (some 68) (by kernel_rfl) rfl ?_
          refine wg_take (some 69) (.bool false) (by kernel_rfl) rfl (by kernel_rfl) ?_
          refine wl_take (some 70) (.bool false) rfl rfl (by kernel_rfl) ?_
          refine wl_nil ?_
          refine wp_then ?_
          refine wp_frame (a' := ⟨#[(.int .u64 T1), (.agg #[.slice a1 len1 cap1]), (.int .u64 T2), ud, (.pointer (some ⟨g1v, 0, none⟩)), ud, (.bool false), (.pointer (some ⟨g6v, 0, none⟩)), (.int .i64 (neE T1 T2)), ud, ud, (.pointer (some ⟨g37v, 0, none⟩)), (.int .i64 (isE T1 x1 T2)), ud, ud, (.bool true), (.bool false), (.int .u64 y0), (.int .u64 T1), (.int .u64 y2), (.int .u64 T2), (.agg #[.slice a1 len1 cap1]), (.slice (some ⟨g3v, 0, none⟩) 1 1), (.bool true), (.bool false), (.tuple #[.agg #[.slice Az4 Nz4 Cz4], .int .i64 (neE T1 T2)]), (.int .u64 T1), (.agg #[.slice a1 len1 cap1]), (.int .u64 T2), (.tuple #[.agg #[.slice Az4 Nz4 Cz4], .int .i64 (neE T1 T2)]), (.agg #[.slice Az4 Nz4 Cz4]), (.int .i64 (neE T1 T2)), (.int .i64 (neE T1 T2)), (.bool false), (.bool false), ud, ud, ud, ud, (.bool false), ud, ud, ud, ud, ud, ud, ud, ud, ud, ud, ud, ud, ud, ud, (.tuple #[.agg #[.slice Az64 Nz64 Cz64], .int .i64 (isE T1 x1 T2)]), (.int .u64 T1), (.agg #[.slice a1 len1 cap1]), (.int .u64 T2), (.tuple #[.agg #[.slice Az64 Nz64 Cz64], .int .i64 (isE T1 x1 T2)]), (.agg #[.slice Az64 Nz64 Cz64]), (.int .i64 (isE T1 x1 T2)), (.int .i64 (isE T1 x1 T2)), (.bool false), (.bool false), (.agg #[.slice a1 len1 cap1]), (.bool false), (.bool false), ud, ud, (.bool false), (.bool false), ud, ud, ud, ud, ud, ud, ud, ud, ud, ud, ud, ud, ud, ud, ud, ud, ud, ud], []⟩) (by kernel_rfl) ?_
          refine wp_cond_false (by kernel_rfl) ?_
          refine wp_skip_then ?_
          refine wp_seq ?_
          refine rg_start (S := fun w' => Below v41w.drew.heap.size v41w.drew w') (by kernel_rfl) (Below.refl _ _) ?_
          replace N1 := N1.drew
          replace X4 := X4.drew
          replace L3 := L3.drew
          replace Oz4 := Oz4.drew
          replace X7 := X7.drew
          replace Oz64 := Oz64.drew
          replace X11 := X11.drew
          replace BB := BB.drew
          have hS := Below.refl v41w.drew.heap.size v41w.drew
          have UX4 := X4
          have UL3 := L3
          have UX7 := X7
          have UX11 := X11
          refine rg_take 0 (some 72) (.int .u64 T1) (by kernel_rfl) (fun _ _ => by kernel_rfl) (fun _ _ _ h => h) hS ?_
          refine rg_take 1 (some 73) (.int .u64 T2) (by kernel_rfl) (fun _ _ => by kernel_rfl) (fun _ _ _ h => h) hS ?_
          have rg74 : 0 ≤ T1 + T2 ∧ T1 + T2 < 18446744073709551616 := by omega
          refine rg_take 2 (some 74) (.int .u64 (T1 + T2)) (by kernel_rfl) (fun _ _ => run_addu (x := 72) (y := 73) (p := T1) (q := T2) (by kernel_rfl) (by kernel_rfl) (by kernel_rfl) rg74) (fun _ _ _ h => h) hS ?_
          refine rg_load 3 (some 75) (.agg #[.slice a1 len1 cap1]) 26 4 (g1v) 0 (by kernel_rfl) (by kernel_rfl) (by kernel_rfl) (fun _ hb => ldx26 ((UX4.keep hb).cell (i := 0) rfl)) (fun _ _ _ h => h) hS ?_
          refine rg_load 4 (some 76) (.agg #[.slice Az64 Nz64 Cz64]) 26 11 (g37v) 0 (by kernel_rfl) (by kernel_rfl) (by kernel_rfl) (fun _ hb => ldx26 ((UX11.keep hb).cell (i := 0) rfl)) (fun _ _ _ h => h) hS ?_
          refine rg_load 6 (some 78) (.agg #[.slice Az64 Nz64 Cz64]) 26 11 (g37v) 0 (by kernel_rfl) (by kernel_rfl) (by kernel_rfl) (fun _ hb => ldx26 ((UX11.keep hb).cell (i := 0) rfl)) (fun _ _ _ h => h) hS ?_
          refine rg_call 5 (some 77) 13 #[.agg #[.slice a1 len1 cap1], .agg #[.slice Az64 Nz64 Cz64]] (by kernel_rfl) (by kernel_rfl) (dAdd N1 Oz64.a (by omega) (by omega)) ?_
          rintro e1 v42w ⟨Az75, Nz75, Cz75, rfl, Oz75, Kz75, B⟩
          refine ⟨_, rfl, joinB hS B, ?_⟩
          replace hS := joinB hS B
          replace N1 := N1.keep B
          replace X4 := X4.keep B
          replace L3 := L3.keep B
          replace Oz4 := Oz4.keep B
          replace X7 := X7.keep B
          replace Oz64 := Oz64.keep B
          replace X11 := X11.keep B
          replace BB := joinB BB B
          clear B
          refine rg_call 7 (some 79) 14 #[.int .u64 (T1 + T2), .agg #[.slice Az75 Nz75 Cz75], .agg #[.slice Az64 Nz64 Cz64]] (by kernel_rfl) (by kernel_rfl) (sRedeem rg74 Oz75.a (by omega) Oz64.a (by omega)) ?_
          rintro e1 v43w ⟨rfl, B⟩
          refine ⟨_, rfl, joinB hS B, ?_⟩
          replace hS := joinB hS B
          replace N1 := N1.keep B
          replace X4 := X4.keep B
          replace L3 := L3.keep B
          replace Oz4 := Oz4.keep B
          replace X7 := X7.keep B
          replace Oz64 := Oz64.keep B
          replace X11 := X11.keep B
          replace Oz75 := Oz75.keep B
          replace BB := joinB BB B
          clear B
          have rg76 := re_rng (S := (x1 + (isV T1 x1 T2))) rg74 Oz64.a.nonneg
          have kf77 := re_facts (T := T1 + T2) (S := (x1 + (isV T1 x1 T2))) (x := (isV T1 x1 T2)) rg74.1 Oz64.a.nonneg
          refine rg_take 8 (some 71) (.tuple #[.int .u64 (reV (T1 + T2) (x1 + (isV T1 x1 T2)) (isV T1 x1 T2)), .int .i64 (reE (x1 + (isV T1 x1 T2)) (isV T1 x1 T2))]) (by kernel_rfl) (fun _ _ => by kernel_rfl) (fun _ _ _ h => h) hS ?_
          refine rg_take 9 (some 80) (.int .u64 (reV (T1 + T2) (x1 + (isV T1 x1 T2)) (isV T1 x1 T2))) (by kernel_rfl) (fun _ _ => by kernel_rfl) (fun _ _ _ h => h) hS ?_
          refine rg_take 10 (some 81) (.int .i64 (reE (x1 + (isV T1 x1 T2)) (isV T1 x1 T2))) (by kernel_rfl) (fun _ _ => by kernel_rfl) (fun _ _ _ h => h) hS ?_
          refine rg_take 11 (some 13) (.int .u64 (reV (T1 + T2) (x1 + (isV T1 x1 T2)) (isV T1 x1 T2))) (by kernel_rfl) (fun _ _ => by kernel_rfl) (fun _ _ _ h => h) hS ?_
          refine rg_take 12 (some 14) (.int .i64 (reE (x1 + (isV T1 x1 T2)) (isV T1 x1 T2))) (by kernel_rfl) (fun _ _ => by kernel_rfl) (fun _ _ _ h => h) hS ?_
          refine rg_done (by kernel_rfl) ?_
          clear hS UX4 UL3 UX7 UX11
          refine wp_then ?_
          refine wp_seq ?_
          refine wl_start ?_
          refine wl_take (some 82) (.int .i64 (reE (x1 + (isV T1 x1 T2)) (isV T1 x1 T2))) rfl rfl (by kernel_rfl) ?_
          by_cases c78 : reE (x1 + (isV T1 x1 T2)) (isV T1 x1 T2) = 0
          · skip
            refine wl_eq (some 83) (.bool ((reE (x1 + (isV T1 x1 T2)) (isV T1 x1 T2) : Int) == 0)) (.bool true) (congrArg Value.bool (beq_iff_eq.2 c78)) rfl rfl (by kernel_rfl) ?_
            refine wl_take (some 84) (.bool true) rfl rfl (by kernel_rfl) ?_
            refine wg_take (some 85) (.int .u64 (reV (T1 + T2) (x1 + (isV T1 x1 T2)) (isV T1 x1 T2))) (by kernel_rfl) rfl (by kernel_rfl) ?_
            refine wg_take (some 86) (.int .u64 T2) (by kernel_rfl) rfl (by kernel_rfl) ?_
            by_cases c79 : reV (T1 + T2) (x1 + (isV T1 x1 T2)) (isV T1 x1 T2) ≤ T2
            · skip
              refine wg_eq (some 87) (.bool (decide ((reV (T1 + T2) (x1 + (isV T1 x1 T2)) (isV T1 x1 T2) : Int) ≤ T2))) (.bool true) (congrArg Value.bool (decide_eq_true c79)) (by kernel_rfl) rfl (by kernel_rfl) ?_
              refine wl_take (some 88) (.bool true) rfl rfl (by kernel_rfl) ?_
              refine wl_take (some 6) (.bool true) rfl rfl (by kernel_rfl) ?_
              refine wl_nil ?_
              refine wp_then ?_
              refine wp_frame (a' := ⟨#[(.int .u64 T1), (.agg #[.slice a1 len1 cap1]), (.int .u64 T2), ud, (.pointer (some ⟨g1v, 0, none⟩)), ud, (.bool true), (.pointer (some ⟨g6v, 0, none⟩)), (.int .i64 (neE T1 T2)), ud, ud, (.pointer (some ⟨g37v, 0, none⟩)), (.int .i64 (isE T1 x1 T2)), (.int .u64 (reV (T1 + T2) (x1 + (isV T1 x1 T2)) (isV T1 x1 T2))), (.int .i64 (reE (x1 + (isV T1 x1 T2)) (isV T1 x1 T2))), (.bool true), (.bool false), (.int .u64 y0), (.int .u64 T1), (.int .u64 y2), (.int .u64 T2), (.agg #[.slice a1 len1 cap1]), (.slice (some ⟨g3v, 0, none⟩) 1 1), (.bool true), (.bool false), (.tuple #[.agg #[.slice Az4 Nz4 Cz4], .int .i64 (neE T1 T2)]), (.int .u64 T1), (.agg #[.slice a1 len1 cap1]), (.int .u64 T2), (.tuple #[.agg #[.slice Az4 Nz4 Cz4], .int .i64 (neE T1 T2)]), (.agg #[.slice Az4 Nz4 Cz4]), (.int .i64 (neE T1 T2)), (.int .i64 (neE T1 T2)), (.bool false), (.bool false), ud, ud, ud, ud, (.bool false), ud, ud, ud, ud, ud, ud, ud, ud, ud, ud, ud, ud, ud, ud, (.tuple #[.agg #[.slice Az64 Nz64 Cz64], .int .i64 (isE T1 x1 T2)]), (.int .u64 T1), (.agg #[.slice a1 len1 cap1]), (.int .u64 T2), (.tuple #[.agg #[.slice Az64 Nz64 Cz64], .int .i64 (isE T1 x1 T2)]), (.agg #[.slice Az64 Nz64 Cz64]), (.int .i64 (isE T1 x1 T2)), (.int .i64 (isE T1 x1 T2)), (.bool false), (.bool false), (.agg #[.slice a1 len1 cap1]), (.bool false), (.bool false), ud, ud, (.bool false), (.bool false), (.tuple #[.int .u64 (reV (T1 + T2) (x1 + (isV T1 x1 T2)) (isV T1 x1 T2)), .int .i64 (reE (x1 + (isV T1 x1 T2)) (isV T1 x1 T2))]), (.int .u64 T1), (.int .u64 T2), (.int .u64 (T1 + T2)), (.agg #[.slice a1 len1 cap1]), (.agg #[.slice Az64 Nz64 Cz64]), (.agg #[.slice Az75 Nz75 Cz75]), (.agg #[.slice Az64 Nz64 Cz64]), (.tuple #[.int .u64 (reV (T1 + T2) (x1 + (isV T1 x1 T2)) (isV T1 x1 T2)), .int .i64 (reE (x1 + (isV T1 x1 T2)) (isV T1 x1 T2))]), (.int .u64 (reV (T1 + T2) (x1 + (isV T1 x1 T2)) (isV T1 x1 T2))), (.int .i64 (reE (x1 + (isV T1 x1 T2)) (isV T1 x1 T2))), (.int .i64 (reE (x1 + (isV T1 x1 T2)) (isV T1 x1 T2))), (.bool true), (.bool true), (.int .u64 (reV (T1 + T2) (x1 + (isV T1 x1 T2)) (isV T1 x1 T2))), (.int .u64 T2), (.bool true), (.bool true)], []⟩) (by kernel_rfl) ?_
              refine wp_ret ?_
              repeat (first | refine ret_then ?_ | refine ret_block ?_)
              refine bodyPost_ret (results_tmp rfl _ _ _) rfl ?_
              exact ⟨by kernel_rfl, BB⟩
            · skip
              refine wg_eq (some 87) (.bool (decide ((reV (T1 + T2) (x1 + (isV T1 x1 T2)) (isV T1 x1 T2) : Int) ≤ T2))) (.bool false) (congrArg Value.bool (decide_eq_false c79)) (by kernel_rfl) rfl (by kernel_rfl) ?_
              refine wl_take (some 88) (.bool false) rfl rfl (by kernel_rfl) ?_
              refine wl_take (some 6) (.bool false) rfl rfl (by kernel_rfl) ?_
              refine wl_nil ?_
              refine wp_then ?_
              refine wp_frame (a' := ⟨#[(.int .u64 T1), (.agg #[.slice a1 len1 cap1]), (.int .u64 T2), ud, (.pointer (some ⟨g1v, 0, none⟩)), ud, (.bool false), (.pointer (some ⟨g6v, 0, none⟩)), (.int .i64 (neE T1 T2)), ud, ud, (.pointer (some ⟨g37v, 0, none⟩)), (.int .i64 (isE T1 x1 T2)), (.int .u64 (reV (T1 + T2) (x1 + (isV T1 x1 T2)) (isV T1 x1 T2))), (.int .i64 (reE (x1 + (isV T1 x1 T2)) (isV T1 x1 T2))), (.bool true), (.bool false), (.int .u64 y0), (.int .u64 T1), (.int .u64 y2), (.int .u64 T2), (.agg #[.slice a1 len1 cap1]), (.slice (some ⟨g3v, 0, none⟩) 1 1), (.bool true), (.bool false), (.tuple #[.agg #[.slice Az4 Nz4 Cz4], .int .i64 (neE T1 T2)]), (.int .u64 T1), (.agg #[.slice a1 len1 cap1]), (.int .u64 T2), (.tuple #[.agg #[.slice Az4 Nz4 Cz4], .int .i64 (neE T1 T2)]), (.agg #[.slice Az4 Nz4 Cz4]), (.int .i64 (neE T1 T2)), (.int .i64 (neE T1 T2)), (.bool false), (.bool false), ud, ud, ud, ud, (.bool false), ud, ud, ud, ud, ud, ud, ud, ud, ud, ud, ud, ud, ud, ud, (.tuple #[.agg #[.slice Az64 Nz64 Cz64], .int .i64 (isE T1 x1 T2)]), (.int .u64 T1), (.agg #[.slice a1 len1 cap1]), (.int .u64 T2), (.tuple #[.agg #[.slice Az64 Nz64 Cz64], .int .i64 (isE T1 x1 T2)]), (.agg #[.slice Az64 Nz64 Cz64]), (.int .i64 (isE T1 x1 T2)), (.int .i64 (isE T1 x1 T2)), (.bool false), (.bool false), (.agg #[.slice a1 len1 cap1]), (.bool false), (.bool false), ud, ud, (.bool false), (.bool false), (.tuple #[.int .u64 (reV (T1 + T2) (x1 + (isV T1 x1 T2)) (isV T1 x1 T2)), .int .i64 (reE (x1 + (isV T1 x1 T2)) (isV T1 x1 T2))]), (.int .u64 T1), (.int .u64 T2), (.int .u64 (T1 + T2)), (.agg #[.slice a1 len1 cap1]), (.agg #[.slice Az64 Nz64 Cz64]), (.agg #[.slice Az75 Nz75 Cz75]), (.agg #[.slice Az64 Nz64 Cz64]), (.tuple #[.int .u64 (reV (T1 + T2) (x1 + (isV T1 x1 T2)) (isV T1 x1 T2)), .int .i64 (reE (x1 + (isV T1 x1 T2)) (isV T1 x1 T2))]), (.int .u64 (reV (T1 + T2) (x1 + (isV T1 x1 T2)) (isV T1 x1 T2))), (.int .i64 (reE (x1 + (isV T1 x1 T2)) (isV T1 x1 T2))), (.int .i64 (reE (x1 + (isV T1 x1 T2)) (isV T1 x1 T2))), (.bool true), (.bool true), (.int .u64 (reV (T1 + T2) (x1 + (isV T1 x1 T2)) (isV T1 x1 T2))), (.int .u64 T2), (.bool false), (.bool false)], []⟩) (by kernel_rfl) ?_
              exfalso
              have kn := back_need (t := T2) (w64 rt1).1 hx1
              have ki := back_issue (w64 rt1).1 hx1 (w64 rt2).1
              clear BB
              omega
          · skip
            refine wl_eq (some 83) (.bool ((reE (x1 + (isV T1 x1 T2)) (isV T1 x1 T2) : Int) == 0)) (.bool false) (congrArg Value.bool (beq_eq_false_iff_ne.2 c78)) rfl rfl (by kernel_rfl) ?_
            refine wl_take (some 84) (.bool false) rfl rfl (by kernel_rfl) ?_
            refine wg_not (some 85) (by kernel_rfl) rfl ?_
            refine wg_not (some 86) (by kernel_rfl) rfl ?_
            refine wg_not (some 87) (by kernel_rfl) rfl ?_
            refine wl_take (some 88) (.bool false) rfl rfl (by kernel_rfl) ?_
            refine wl_take (some 6) (.bool false) rfl rfl (by kernel_rfl) ?_
            refine wl_nil ?_
            refine wp_then ?_
            refine wp_frame (a' := ⟨#[(.int .u64 T1), (.agg #[.slice a1 len1 cap1]), (.int .u64 T2), ud, (.pointer (some ⟨g1v, 0, none⟩)), ud, (.bool false), (.pointer (some ⟨g6v, 0, none⟩)), (.int .i64 (neE T1 T2)), ud, ud, (.pointer (some ⟨g37v, 0, none⟩)), (.int .i64 (isE T1 x1 T2)), (.int .u64 (reV (T1 + T2) (x1 + (isV T1 x1 T2)) (isV T1 x1 T2))), (.int .i64 (reE (x1 + (isV T1 x1 T2)) (isV T1 x1 T2))), (.bool true), (.bool false), (.int .u64 y0), (.int .u64 T1), (.int .u64 y2), (.int .u64 T2), (.agg #[.slice a1 len1 cap1]), (.slice (some ⟨g3v, 0, none⟩) 1 1), (.bool true), (.bool false), (.tuple #[.agg #[.slice Az4 Nz4 Cz4], .int .i64 (neE T1 T2)]), (.int .u64 T1), (.agg #[.slice a1 len1 cap1]), (.int .u64 T2), (.tuple #[.agg #[.slice Az4 Nz4 Cz4], .int .i64 (neE T1 T2)]), (.agg #[.slice Az4 Nz4 Cz4]), (.int .i64 (neE T1 T2)), (.int .i64 (neE T1 T2)), (.bool false), (.bool false), ud, ud, ud, ud, (.bool false), ud, ud, ud, ud, ud, ud, ud, ud, ud, ud, ud, ud, ud, ud, (.tuple #[.agg #[.slice Az64 Nz64 Cz64], .int .i64 (isE T1 x1 T2)]), (.int .u64 T1), (.agg #[.slice a1 len1 cap1]), (.int .u64 T2), (.tuple #[.agg #[.slice Az64 Nz64 Cz64], .int .i64 (isE T1 x1 T2)]), (.agg #[.slice Az64 Nz64 Cz64]), (.int .i64 (isE T1 x1 T2)), (.int .i64 (isE T1 x1 T2)), (.bool false), (.bool false), (.agg #[.slice a1 len1 cap1]), (.bool false), (.bool false), ud, ud, (.bool false), (.bool false), (.tuple #[.int .u64 (reV (T1 + T2) (x1 + (isV T1 x1 T2)) (isV T1 x1 T2)), .int .i64 (reE (x1 + (isV T1 x1 T2)) (isV T1 x1 T2))]), (.int .u64 T1), (.int .u64 T2), (.int .u64 (T1 + T2)), (.agg #[.slice a1 len1 cap1]), (.agg #[.slice Az64 Nz64 Cz64]), (.agg #[.slice Az75 Nz75 Cz75]), (.agg #[.slice Az64 Nz64 Cz64]), (.tuple #[.int .u64 (reV (T1 + T2) (x1 + (isV T1 x1 T2)) (isV T1 x1 T2)), .int .i64 (reE (x1 + (isV T1 x1 T2)) (isV T1 x1 T2))]), (.int .u64 (reV (T1 + T2) (x1 + (isV T1 x1 T2)) (isV T1 x1 T2))), (.int .i64 (reE (x1 + (isV T1 x1 T2)) (isV T1 x1 T2))), (.int .i64 (reE (x1 + (isV T1 x1 T2)) (isV T1 x1 T2))), (.bool false), (.bool false), ud, ud, ud, (.bool false)], []⟩) (by kernel_rfl) ?_
            exfalso
            have kn := back_need (t := T2) (w64 rt1).1 hx1
            have ki := back_issue (w64 rt1).1 hx1 (w64 rt2).1
            clear BB
            omega
      · skip
        refine wl_eq (some 62) (.bool ((isE T1 x1 T2 : Int) != 0)) (.bool true) (congrArg Value.bool (bne_iff_ne.2 c65)) rfl rfl (by kernel_rfl) ?_
        refine wl_take (some 63) (.bool true) rfl rfl (by kernel_rfl) ?_
        refine wg_not (some 64) (by kernel_rfl) rfl ?_
        refine wg_not (some 65) (by kernel_rfl) rfl ?_
        refine wg_not (some 66) (by kernel_rfl) rfl ?_
        refine wg_not (some 67) (by kernel_rfl) rfl ?_
        refine wg_not (some 68) (by kernel_rfl) rfl ?_
        refine wg_not (some 69) (by kernel_rfl) rfl ?_
        refine wl_take (some 70) (.bool true) rfl rfl (by kernel_rfl) ?_
        refine wl_nil ?_
        refine wp_then ?_
        refine wp_frame (a' := ⟨#[(.int .u64 T1), (.agg #[.slice a1 len1 cap1]), (.int .u64 T2), ud, (.pointer (some ⟨g1v, 0, none⟩)), ud, (.bool false), (.pointer (some ⟨g6v, 0, none⟩)), (.int .i64 (neE T1 T2)), ud, ud, (.pointer (some ⟨g37v, 0, none⟩)), (.int .i64 (isE T1 x1 T2)), ud, ud, (.bool true), (.bool false), (.int .u64 y0), (.int .u64 T1), (.int .u64 y2), (.int .u64 T2), (.agg #[.slice a1 len1 cap1]), (.slice (some ⟨g3v, 0, none⟩) 1 1), (.bool true), (.bool false), (.tuple #[.agg #[.slice Az4 Nz4 Cz4], .int .i64 (neE T1 T2)]), (.int .u64 T1), (.agg #[.slice a1 len1 cap1]), (.int .u64 T2), (.tuple #[.agg #[.slice Az4 Nz4 Cz4], .int .i64 (neE T1 T2)]), (.agg #[.slice Az4 Nz4 Cz4]), (.int .i64 (neE T1 T2)), (.int .i64 (neE T1 T2)), (.bool false), (.bool false), ud, ud, ud, ud, (.bool false), ud, ud, ud, ud, ud, ud, ud, ud, ud, ud, ud, ud, ud, ud, (.tuple #[.agg #[.slice Az64 Nz64 Cz64], .int .i64 (isE T1 x1 T2)]), (.int .u64 T1), (.agg #[.slice a1 len1 cap1]), (.int .u64 T2), (.tuple #[.agg #[.slice Az64 Nz64 Cz64], .int .i64 (isE T1 x1 T2)]), (.agg #[.slice Az64 Nz64 Cz64]), (.int .i64 (isE T1 x1 T2)), (.int .i64 (isE T1 x1 T2)), (.bool true), (.bool true), ud, ud, ud, ud, ud, ud, (.bool true), ud, ud, ud, ud, ud, ud, ud, ud, ud, ud, ud, ud, ud, ud, ud, ud, ud, ud], []⟩) (by kernel_rfl) ?_
        refine wp_cond_true (by kernel_rfl) ?_
        refine wp_seq ?_
        refine wl_start ?_
        refine wl_take (some 6) (.bool true) rfl rfl (by kernel_rfl) ?_
        refine wl_nil ?_
        refine wp_then ?_
        refine wp_ret ?_
        repeat (first | refine ret_then ?_ | refine ret_block ?_)
        refine bodyPost_ret (results_tmp rfl _ _ _) rfl ?_
        exact ⟨by kernel_rfl, BB⟩
  · skip
    refine wl_call (some 23) 9 #[.slice (some ⟨g3v, 0, none⟩) 1 1] rfl rfl (by kernel_rfl) (small1 L3 hm1 false (decide_eq_false c3)) ?_
    rintro e1 v44w ⟨rfl, B⟩
    refine ⟨_, rfl, ?_⟩
    replace N1 := N1.keep B
    replace X4 := X4.keep B
    replace L3 := L3.keep B
    replace BB := joinB BB B
    clear B
    refine wl_take (some 24) (.bool true) rfl rfl (by kernel_rfl) ?_
    refine wl_nil ?_
    refine wp_then ?_
    refine wp_frame (a' := ⟨#[(.int .u64 T1), (.agg #[.slice a1 len1 cap1]), (.int .u64 T2), ud, (.pointer (some ⟨g1v, 0, none⟩)), ud, (.bool false), ud, ud, ud, ud, ud, ud, ud, ud, (.bool true), (.bool false), (.int .u64 y0), (.int .u64 T1), (.int .u64 y2), (.int .u64 T2), (.agg #[.slice a1 len1 cap1]), (.slice (some ⟨g3v, 0, none⟩) 1 1), (.bool false), (.bool true), ud, ud, ud, ud, ud, ud, ud, ud, ud, ud, ud, ud, ud, ud, ud, ud, ud, ud, ud, ud, ud, ud, ud, ud, ud, ud, ud, ud, ud, ud, ud, ud, ud, ud, ud, ud, ud, ud, ud, ud, ud, ud, ud, ud, ud, ud, ud, ud, ud, ud, ud, ud, ud, ud, ud, ud, ud, ud, ud, ud, ud, ud, ud, ud], []⟩) (by kernel_rfl) ?_
    refine wp_cond_true (by kernel_rfl) ?_
    refine wp_seq ?_
    refine wl_start ?_
    refine wl_take (some 6) (.bool true) rfl rfl (by kernel_rfl) ?_
    refine wl_nil ?_
    refine wp_then ?_
    refine wp_ret ?_
    repeat (first | refine ret_then ?_ | refine ret_block ?_)
    refine bodyPost_ret (results_tmp rfl _ _ _) rfl ?_
    exact ⟨by kernel_rfl, BB⟩
end shareBack
end Go.Proofs.YtdgdfhefnlaalaaDoor
