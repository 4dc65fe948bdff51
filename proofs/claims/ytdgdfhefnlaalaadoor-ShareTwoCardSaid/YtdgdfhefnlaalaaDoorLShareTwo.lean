/- gleanlaw10.ShareTwo returns true for all numbers. -/
import Derived.Test.YtdgdfhefnlaalaaDoorJcb
namespace Go.Proofs.YtdgdfhefnlaalaaDoor
namespace shareTwo
open Go.RowKit Go.Lib Pg Lim Sh
attribute [local go_sem] Oper.semAt_some
theorem w64 {x : Int} (h : 0 ≤ x ∧ x < 1000000000000000000) : 0 ≤ x ∧ x < 18446744073709551616 := by omega
theorem u64r {v : Int} (b : (Lit.int .u64 v).wf = true) : 0 ≤ v ∧ v < 18446744073709551616 := by
  have := bounds_u64 b
  omega
theorem cut_full (n : Int) : n * min 10000 10000 / 10000 = n := Int.mul_ediv_cancel n (by decide)
theorem cut_none (n : Int) : n * min 0 10000 / 10000 = 0 := by
  rw [show min (0 : Int) 10000 = 0 from rfl, Int.mul_zero]; rfl
theorem bsx41_1 {a : Act} {o : Oper} {k0 : Nat} {a0 : Option Addr} {n0 c0 : Nat} (ho : o.op = .buildSlice 41 1 #[(0, .tmp k0)]) (h0 : a.eval (.tmp k0) = .agg #[.slice a0 n0 c0]) (w : World) : (execOp a.eval o).run Tryd.prog w = .ok (.value (.slice (some ⟨w.heap.size, 0, none⟩) 1 1)) (w.alloc (.cells [.slice a0 n0 c0].toArray 26)) := by
  have h0' : a.tmps[k0]?.getD undef = .agg #[.slice a0 n0 c0] := by simpa [Act.eval] using h0
  simp only [execOp, ho]
  go_simp
set_option maxHeartbeats 16000000 in
set_option maxRecDepth 100000 in
theorem walk (y0 : Int) (a1 : Option Addr) (len1 cap1 : Nat) (z1 : List Int) (y2 : Int) (y3 : Int) (w : World) (wy0 : (Lit.int .u64 y0).wf = true) (w1 : IsRow w a1 len1 cap1 z1) (wy2 : (Lit.int .u64 y2).wf = true) (wy3 : (Lit.int .u64 y3).wf = true) :
    Calls Tryd.prog 6 #[.int .u64 y0, .agg #[.slice a1 len1 cap1], .int .u64 y2, .int .u64 y3] w fun e w' => e = .returned (.bool true) ∧ Below w.heap.size w w' := by
  obtain ⟨g1, o1, l1, hl1, hc1, hm1, W1, h1⟩ := w1.open
  have N1 : NatA w a1 len1 cap1 (val l1) := ⟨g1, o1, l1, hl1, hc1, W1, h1, rfl⟩
  clear h1 w1 W1 hl1
  generalize val l1 = x1 at *
  have hx1 := N1.nonneg
  have by0 := u64r wy0
  clear wy0
  have by2 := u64r wy2
  clear wy2
  have by3 := u64r wy3
  clear wy3
  have BB := Below.refl w.heap.size w
  go_enter Tryd.func6, Tryd.ntmps6
  refine wp_seq ?_
  refine wl_start ?_
  have bs0 := BB.size
  refine wl_box 5 1 26 [.slice a1 len1 cap1] rfl rfl rfl (by kernel_rfl) boxx26 ?_
  intro v1w g1v X5 hg1v B
  replace N1 := N1.keep B
  replace BB := joinB BB B
  clear B
  refine wl_take (some 8) (.bool false) rfl rfl (by kernel_rfl) ?_
  refine wl_nil ?_
  refine wp_then ?_
  refine wp_seq ?_
  refine wp_seq ?_
  refine wl_start ?_
  refine wl_call (some 16) 8 #[] rfl rfl (by kernel_rfl) (knownS) ?_
  rintro e1 v2w ⟨rfl, B⟩
  refine ⟨_, rfl, ?_⟩
  replace N1 := N1.keep B
  replace X5 := X5.keep B
  replace BB := joinB BB B
  clear B
  refine wl_take (some 17) (.bool false) rfl rfl (by kernel_rfl) ?_
  refine wl_nil ?_
  refine wp_then ?_
  refine wp_cond_false (by kernel_rfl) ?_
  refine wp_skip_then ?_
  refine wp_seq ?_
  refine wl_start ?_
  refine wl_take (some 18) (.int .u64 y0) rfl rfl (by kernel_rfl) ?_
  obtain ⟨T1, eT1⟩ : ∃ T, y0 % 1000000000000000000 = T := ⟨_, rfl⟩
  have rt1 : 0 ≤ T1 ∧ T1 < 1000000000000000000 := by omega
  refine wl_take (some 19) (.int .u64 T1) rfl rfl (eT1 ▸ run_rem (x := 18) (p := y0) (by kernel_rfl) (by kernel_rfl) by0) ?_
  refine wl_take (some 20) (.int .u64 y2) rfl rfl (by kernel_rfl) ?_
  obtain ⟨T2, eT2⟩ : ∃ T, y2 % 1000000000000000000 = T := ⟨_, rfl⟩
  have rt2 : 0 ≤ T2 ∧ T2 < 1000000000000000000 := by omega
  refine wl_take (some 21) (.int .u64 T2) rfl rfl (eT2 ▸ run_rem (x := 20) (p := y2) (by kernel_rfl) (by kernel_rfl) by2) ?_
  refine wl_take (some 22) (.int .u64 y3) rfl rfl (by kernel_rfl) ?_
  obtain ⟨T3, eT3⟩ : ∃ T, y3 % 1000000000000000000 = T := ⟨_, rfl⟩
  have rt3 : 0 ≤ T3 ∧ T3 < 1000000000000000000 := by omega
  refine wl_take (some 23) (.int .u64 T3) rfl rfl (eT3 ▸ run_rem (x := 22) (p := y3) (by kernel_rfl) (by kernel_rfl) by3) ?_
  refine wl_take (some 0) (.int .u64 T1) rfl rfl (by kernel_rfl) ?_
  refine wl_take (some 2) (.int .u64 T2) rfl rfl (by kernel_rfl) ?_
  refine wl_take (some 3) (.int .u64 T3) rfl rfl (by kernel_rfl) ?_
  refine wl_nil ?_
  refine wp_then ?_
  refine wp_seq ?_
  refine wp_seq ?_
  refine wl_start ?_
  refine wl_take (some 24) (.agg #[.slice a1 len1 cap1]) rfl rfl (run_lp 5 (by kernel_rfl) (by kernel_rfl) (ldx26 (X5.cell (i := 0) rfl))) ?_
  refine wl_list 25 [.slice a1 len1 cap1] 26 rfl rfl (bsx41_1 (k0 := 24) (a0 := a1) (n0 := len1) (c0 := cap1) (by kernel_rfl) (by kernel_rfl)) ?_
  intro v3w g3v L3 hg3v B
  replace N1 := N1.keep B
  replace X5 := X5.keep B
  replace BB := joinB BB B
  clear B
  by_cases c4 : len1 ≤ 12
  · skip
    refine wl_call (some 26) 9 #[.slice (some ⟨g3v, 0, none⟩) 1 1] rfl rfl (by kernel_rfl) (small1 L3 hm1 true (decide_eq_true c4)) ?_
    rintro e1 v4w ⟨rfl, B⟩
    refine ⟨_, rfl, ?_⟩
    replace N1 := N1.keep B
    replace X5 := X5.keep B
    replace L3 := L3.keep B
    replace BB := joinB BB B
    clear B
    refine wl_take (some 27) (.bool false) rfl rfl (by kernel_rfl) ?_
    refine wl_take (some 28) (.bool false) rfl rfl (by kernel_rfl) ?_
    refine wg_take (some 29) (.agg #[.slice a1 len1 cap1]) (by kernel_rfl) rfl (run_lp 5 (by kernel_rfl) (by kernel_rfl) (ldx26 (X5.cell (i := 0) rfl))) ?_
    by_cases c5 : x1 = 0
    · skip
      refine wg_call (some 30) 10 #[.agg #[.slice a1 len1 cap1]] (by kernel_rfl) rfl (by kernel_rfl) (zeroD N1 (by omega) true (decide_eq_true c5)) ?_
      rintro e1 v5w ⟨rfl, B⟩
      refine ⟨_, rfl, ?_⟩
      replace N1 := N1.keep B
      replace X5 := X5.keep B
      replace L3 := L3.keep B
      replace BB := joinB BB B
      clear B
      refine wl_take (some 31) (.bool true) rfl rfl (by kernel_rfl) ?_
      refine wl_take (some 32) (.bool true) rfl rfl (by kernel_rfl) ?_
      refine wg_not (some 33) (by kernel_rfl) rfl ?_
      refine wg_not (some 34) (by kernel_rfl) rfl ?_
      refine wl_take (some 35) (.bool true) rfl rfl (by kernel_rfl) ?_
      refine wl_nil ?_
      refine wp_then ?_
      refine wp_frame (a' := ⟨#[(.int .u64 T1), (.agg #[.slice a1 len1 cap1]), (.int .u64 T2), (.int .u64 T3), ud, (.pointer (some ⟨g1v, 0, none⟩)), ud, ud, (.bool false), ud, ud, ud, ud, ud, ud, ud, (.bool true), (.bool false), (.int .u64 y0), (.int .u64 T1), (.int .u64 y2), (.int .u64 T2), (.int .u64 y3), (.int .u64 T3), (.agg #[.slice a1 len1 cap1]), (.slice (some ⟨g3v, 0, none⟩) 1 1), (.bool true), (.bool false), (.bool false), (.agg #[.slice a1 len1 cap1]), (.bool true), (.bool true), (.bool true), ud, ud, (.bool true), ud, ud, ud, ud, ud, ud, ud, ud, ud, ud, ud, ud, ud, ud, ud, ud, ud, ud, ud, ud, ud, ud, ud, ud, ud, ud, ud, ud, ud, ud, ud, ud, ud, ud, ud, ud, ud, ud, ud, ud, ud, ud, ud, ud, ud, ud, ud, ud, ud, ud, ud, ud, ud, ud, ud, ud, ud, ud, ud, ud, ud, ud, ud], []⟩) (by kernel_rfl) ?_
      refine wp_cond_true (by kernel_rfl) ?_
      refine wp_seq ?_
      refine wl_start ?_
      refine wl_take (some 8) (.bool true) rfl rfl (by kernel_rfl) ?_
      refine wl_nil ?_
      refine wp_then ?_
      refine wp_ret ?_
      repeat (first | refine ret_then ?_ | refine ret_block ?_)
      refine bodyPost_ret (results_tmp rfl _ _ _) rfl ?_
      exact ⟨by kernel_rfl, BB⟩
    · skip
      refine wg_call (some 30) 10 #[.agg #[.slice a1 len1 cap1]] (by kernel_rfl) rfl (by kernel_rfl) (zeroD N1 (by omega) false (decide_eq_false c5)) ?_
      rintro e1 v6w ⟨rfl, B⟩
      refine ⟨_, rfl, ?_⟩
      replace N1 := N1.keep B
      replace X5 := X5.keep B
      replace L3 := L3.keep B
      replace BB := joinB BB B
      clear B
      refine wl_take (some 31) (.bool false) rfl rfl (by kernel_rfl) ?_
      refine wl_take (some 32) (.bool false) rfl rfl (by kernel_rfl) ?_
      refine wg_take (some 33) (.int .u64 T1) (by kernel_rfl) rfl (by kernel_rfl) ?_
      by_cases c6 : T1 = 0
      · skip
        refine wg_eq (some 34) (.bool ((T1 : Int) == 0)) (.bool true) (congrArg Value.bool (beq_iff_eq.2 c6)) (by kernel_rfl) rfl (by kernel_rfl) ?_
        refine wl_take (some 35) (.bool true) rfl rfl (by kernel_rfl) ?_
        refine wl_nil ?_
        refine wp_then ?_
        refine wp_frame (a' := ⟨#[(.int .u64 T1), (.agg #[.slice a1 len1 cap1]), (.int .u64 T2), (.int .u64 T3), ud, (.pointer (some ⟨g1v, 0, none⟩)), ud, ud, (.bool false), ud, ud, ud, ud, ud, ud, ud, (.bool true), (.bool false), (.int .u64 y0), (.int .u64 T1), (.int .u64 y2), (.int .u64 T2), (.int .u64 y3), (.int .u64 T3), (.agg #[.slice a1 len1 cap1]), (.slice (some ⟨g3v, 0, none⟩) 1 1), (.bool true), (.bool false), (.bool false), (.agg #[.slice a1 len1 cap1]), (.bool false), (.bool false), (.bool false), (.int .u64 T1), (.bool true), (.bool true), ud, ud, ud, ud, ud, ud, ud, ud, ud, ud, ud, ud, ud, ud, ud, ud, ud, ud, ud, ud, ud, ud, ud, ud, ud, ud, ud, ud, ud, ud, ud, ud, ud, ud, ud, ud, ud, ud, ud, ud, ud, ud, ud, ud, ud, ud, ud, ud, ud, ud, ud, ud, ud, ud, ud, ud, ud, ud, ud, ud, ud, ud, ud], []⟩) (by kernel_rfl) ?_
        refine wp_cond_true (by kernel_rfl) ?_
        refine wp_seq ?_
        refine wl_start ?_
        refine wl_take (some 8) (.bool true) rfl rfl (by kernel_rfl) ?_
        refine wl_nil ?_
        refine wp_then ?_
        refine wp_ret ?_
        repeat (first | refine ret_then ?_ | refine ret_block ?_)
        refine bodyPost_ret (results_tmp rfl _ _ _) rfl ?_
        exact ⟨by kernel_rfl, BB⟩
      · skip
        refine wg_eq (some 34) (.bool ((T1 : Int) == 0)) (.bool false) (congrArg Value.bool (beq_eq_false_iff_ne.2 c6)) (by kernel_rfl) rfl (by kernel_rfl) ?_
        refine wl_take (some 35) (.bool false) rfl rfl (by kernel_rfl) ?_
        refine wl_nil ?_
        refine wp_then ?_
        refine wp_frame (a' := ⟨#[(.int .u64 T1), (.agg #[.slice a1 len1 cap1]), (.int .u64 T2), (.int .u64 T3), ud, (.pointer (some ⟨g1v, 0, none⟩)), ud, ud, (.bool false), ud, ud, ud, ud, ud, ud, ud, (.bool true), (.bool false), (.int .u64 y0), (.int .u64 T1), (.int .u64 y2), (.int .u64 T2), (.int .u64 y3), (.int .u64 T3), (.agg #[.slice a1 len1 cap1]), (.slice (some ⟨g3v, 0, none⟩) 1 1), (.bool true), (.bool false), (.bool false), (.agg #[.slice a1 len1 cap1]), (.bool false), (.bool false), (.bool false), (.int .u64 T1), (.bool false), (.bool false), ud, ud, ud, ud, ud, ud, ud, ud, ud, ud, ud, ud, ud, ud, ud, ud, ud, ud, ud, ud, ud, ud, ud, ud, ud, ud, ud, ud, ud, ud, ud, ud, ud, ud, ud, ud, ud, ud, ud, ud, ud, ud, ud, ud, ud, ud, ud, ud, ud, ud, ud, ud, ud, ud, ud, ud, ud, ud, ud, ud, ud, ud, ud], []⟩) (by kernel_rfl) ?_
        refine wp_cond_false (by kernel_rfl) ?_
        refine wp_skip_then ?_
        refine wp_seq ?_
        refine wl_start ?_
        refine wl_take (some 37) (.int .u64 T1) rfl rfl (by kernel_rfl) ?_
        refine wl_take (some 38) (.agg #[.slice a1 len1 cap1]) rfl rfl (run_lp 5 (by kernel_rfl) (by kernel_rfl) (ldx26 (X5.cell (i := 0) rfl))) ?_
        refine wl_take (some 39) (.int .u64 T2) rfl rfl (by kernel_rfl) ?_
        refine wl_call (some 40) 11 #[.int .u64 T1, .agg #[.slice a1 len1 cap1], .int .u64 T2] rfl rfl (by kernel_rfl) (sIssue (w64 rt1) N1 (by omega) (w64 rt2)) ?_
        rintro e1 v7w ⟨Az7, Nz7, Cz7, rfl, Oz7, Kz7, B⟩
        refine ⟨_, rfl, ?_⟩
        replace N1 := N1.keep B
        replace X5 := X5.keep B
        replace L3 := L3.keep B
        replace BB := joinB BB B
        clear B
        refine wl_take (some 36) (.tuple #[.agg #[.slice Az7 Nz7 Cz7], .int .i64 (isE T1 x1 T2)]) rfl rfl (by kernel_rfl) ?_
        refine wl_take (some 41) (.agg #[.slice Az7 Nz7 Cz7]) rfl rfl (by kernel_rfl) ?_
        refine wl_take (some 42) (.int .i64 (isE T1 x1 T2)) rfl rfl (by kernel_rfl) ?_
        have bs7 := BB.size
        refine wl_new 9 41 26 [.slice none 0 0] [.slice Az7 Nz7 Cz7] rfl rfl rfl rfl rfl rfl allocx26 (fun _ => by kernel_rfl) (fun _ => by kernel_rfl) (by kernel_rfl) rfl (by kernel_rfl) ?_
        intro v8w g8v X9 hg8v B
        replace N1 := N1.keep B
        replace X5 := X5.keep B
        replace L3 := L3.keep B
        replace Oz7 := Oz7.keep B
        replace BB := joinB BB B
        clear B
        refine wl_take (some 10) (.int .i64 (isE T1 x1 T2)) rfl rfl (by kernel_rfl) ?_
        refine wl_nil ?_
        refine wp_then ?_
        refine wp_seq ?_
        refine wl_start ?_
        refine wl_take (some 44) (.int .u64 T1) rfl rfl (by kernel_rfl) ?_
        refine wl_take (some 45) (.int .u64 T2) rfl rfl (by kernel_rfl) ?_
        have rg8 : 0 ≤ T1 + T2 ∧ T1 + T2 < 18446744073709551616 := by omega
        refine wl_take (some 46) (.int .u64 (T1 + T2)) rfl rfl (run_addu (x := 44) (y := 45) (p := T1) (q := T2) (by kernel_rfl) (by kernel_rfl) (by kernel_rfl) rg8) ?_
        refine wl_take (some 47) (.agg #[.slice a1 len1 cap1]) rfl rfl (run_lp 5 (by kernel_rfl) (by kernel_rfl) (ldx26 (X5.cell (i := 0) rfl))) ?_
        refine wl_take (some 48) (.agg #[.slice Az7 Nz7 Cz7]) rfl rfl (run_lp 9 (by kernel_rfl) (by kernel_rfl) (ldx26 (X9.cell (i := 0) rfl))) ?_
        refine wl_call (some 49) 13 #[.agg #[.slice a1 len1 cap1], .agg #[.slice Az7 Nz7 Cz7]] rfl rfl (by kernel_rfl) (dAdd N1 Oz7.a (by omega) (by omega)) ?_
        rintro e1 v9w ⟨Az9, Nz9, Cz9, rfl, Oz9, Kz9, B⟩
        refine ⟨_, rfl, ?_⟩
        replace N1 := N1.keep B
        replace X5 := X5.keep B
        replace L3 := L3.keep B
        replace Oz7 := Oz7.keep B
        replace X9 := X9.keep B
        replace BB := joinB BB B
        clear B
        refine wl_take (some 50) (.int .u64 T3) rfl rfl (by kernel_rfl) ?_
        refine wl_call (some 51) 11 #[.int .u64 (T1 + T2), .agg #[.slice Az9 Nz9 Cz9], .int .u64 T3] rfl rfl (by kernel_rfl) (sIssue rg8 Oz9.a (by omega) (w64 rt3)) ?_
        rintro e1 v10w ⟨Az10, Nz10, Cz10, rfl, Oz10, Kz10, B⟩
        refine ⟨_, rfl, ?_⟩
        replace N1 := N1.keep B
        replace X5 := X5.keep B
        replace L3 := L3.keep B
        replace Oz7 := Oz7.keep B
        replace X9 := X9.keep B
        replace Oz9 := Oz9.keep B
        replace BB := joinB BB B
        clear B
        refine wl_take (some 43) (.tuple #[.agg #[.slice Az10 Nz10 Cz10], .int .i64 (isE (T1 + T2) (x1 + (isV T1 x1 T2)) T3)]) rfl rfl (by kernel_rfl) ?_
        refine wl_take (some 52) (.agg #[.slice Az10 Nz10 Cz10]) rfl rfl (by kernel_rfl) ?_
        refine wl_take (some 53) (.int .i64 (isE (T1 + T2) (x1 + (isV T1 x1 T2)) T3)) rfl rfl (by kernel_rfl) ?_
        have bs10 := BB.size
        refine wl_new 11 52 26 [.slice none 0 0] [.slice Az10 Nz10 Cz10] rfl rfl rfl rfl rfl rfl allocx26 (fun _ => by kernel_rfl) (fun _ => by kernel_rfl) (by kernel_rfl) rfl (by kernel_rfl) ?_
        intro v11w g11v X11 hg11v B
        replace N1 := N1.keep B
        replace X5 := X5.keep B
        replace L3 := L3.keep B
        replace Oz7 := Oz7.keep B
        replace X9 := X9.keep B
        replace Oz9 := Oz9.keep B
        replace Oz10 := Oz10.keep B
        replace BB := joinB BB B
        clear B
        refine wl_take (some 12) (.int .i64 (isE (T1 + T2) (x1 + (isV T1 x1 T2)) T3)) rfl rfl (by kernel_rfl) ?_
        refine wl_nil ?_
        refine wp_then ?_
        refine wp_frame (a' := ⟨#[(.int .u64 T1), (.agg #[.slice a1 len1 cap1]), (.int .u64 T2), (.int .u64 T3), ud, (.pointer (some ⟨g1v, 0, none⟩)), ud, ud, (.bool false), (.pointer (some ⟨g8v, 0, none⟩)), (.int .i64 (isE T1 x1 T2)), (.pointer (some ⟨g11v, 0, none⟩)), (.int .i64 (isE (T1 + T2) (x1 + (isV T1 x1 T2)) T3)), ud, ud, ud, (.bool true), (.bool false), (.int .u64 y0), (.int .u64 T1), (.int .u64 y2), (.int .u64 T2), (.int .u64 y3), (.int .u64 T3), (.agg #[.slice a1 len1 cap1]), (.slice (some ⟨g3v, 0, none⟩) 1 1), (.bool true), (.bool false), (.bool false), (.agg #[.slice a1 len1 cap1]), (.bool false), (.bool false), (.bool false), (.int .u64 T1), (.bool false), (.bool false), (.tuple #[.agg #[.slice Az7 Nz7 Cz7], .int .i64 (isE T1 x1 T2)]), (.int .u64 T1), (.agg #[.slice a1 len1 cap1]), (.int .u64 T2), (.tuple #[.agg #[.slice Az7 Nz7 Cz7], .int .i64 (isE T1 x1 T2)]), (.agg #[.slice Az7 Nz7 Cz7]), (.int .i64 (isE T1 x1 T2)), (.tuple #[.agg #[.slice Az10 Nz10 Cz10], .int .i64 (isE (T1 + T2) (x1 + (isV T1 x1 T2)) T3)]), (.int .u64 T1), (.int .u64 T2), (.int .u64 (T1 + T2)), (.agg #[.slice a1 len1 cap1]), (.agg #[.slice Az7 Nz7 Cz7]), (.agg #[.slice Az9 Nz9 Cz9]), (.int .u64 T3), (.tuple #[.agg #[.slice Az10 Nz10 Cz10], .int .i64 (isE (T1 + T2) (x1 + (isV T1 x1 T2)) T3)]), (.agg #[.slice Az10 Nz10 Cz10]), (.int .i64 (isE (T1 + T2) (x1 + (isV T1 x1 T2)) T3)), ud, ud, ud, ud, ud, ud, ud, ud, ud, ud, ud, ud, ud, ud, ud, ud, ud, ud, ud, ud, ud, ud, ud, ud, ud, ud, ud, ud, ud, ud, ud, ud, ud, ud, ud, ud, ud, ud, ud, ud, ud, ud, ud, ud, ud], []⟩) (by kernel_rfl) ?_
        refine wp_seq ?_
        refine wl_start ?_
        refine wl_take (some 55) (.int .u64 T1) rfl rfl (by kernel_rfl) ?_
        refine wl_take (some 56) (.agg #[.slice a1 len1 cap1]) rfl rfl (run_lp 5 (by kernel_rfl) (by kernel_rfl) (ldx26 (X5.cell (i := 0) rfl))) ?_
        refine wl_take (some 57) (.int .u64 T2) rfl rfl (by kernel_rfl) ?_
        refine wl_take (some 58) (.int .u64 T3) rfl rfl (by kernel_rfl) ?_
        have rg11 : 0 ≤ T2 + T3 ∧ T2 + T3 < 18446744073709551616 := by omega
        refine wl_take (some 59) (.int .u64 (T2 + T3)) rfl rfl (run_addu (x := 57) (y := 58) (p := T2) (q := T3) (by kernel_rfl) (by kernel_rfl) (by kernel_rfl) rg11) ?_
        refine wl_call (some 60) 11 #[.int .u64 T1, .agg #[.slice a1 len1 cap1], .int .u64 (T2 + T3)] rfl rfl (by kernel_rfl) (sIssue (w64 rt1) N1 (by omega) rg11) ?_
        rintro e1 v12w ⟨Az12, Nz12, Cz12, rfl, Oz12, Kz12, B⟩
        refine ⟨_, rfl, ?_⟩
        replace N1 := N1.keep B
        replace X5 := X5.keep B
        replace L3 := L3.keep B
        replace Oz7 := Oz7.keep B
        replace X9 := X9.keep B
        replace Oz9 := Oz9.keep B
        replace Oz10 := Oz10.keep B
        replace X11 := X11.keep B
        replace BB := joinB BB B
        clear B
        refine wl_take (some 54) (.tuple #[.agg #[.slice Az12 Nz12 Cz12], .int .i64 (isE T1 x1 (T2 + T3))]) rfl rfl (by kernel_rfl) ?_
        refine wl_take (some 61) (.agg #[.slice Az12 Nz12 Cz12]) rfl rfl (by kernel_rfl) ?_
        refine wl_take (some 62) (.int .i64 (isE T1 x1 (T2 + T3))) rfl rfl (by kernel_rfl) ?_
        have bs12 := BB.size
        refine wl_new 13 61 26 [.slice none 0 0] [.slice Az12 Nz12 Cz12] rfl rfl rfl rfl rfl rfl allocx26 (fun _ => by kernel_rfl) (fun _ => by kernel_rfl) (by kernel_rfl) rfl (by kernel_rfl) ?_
        intro v13w g13v X13 hg13v B
        replace N1 := N1.keep B
        replace X5 := X5.keep B
        replace L3 := L3.keep B
        replace Oz7 := Oz7.keep B
        replace X9 := X9.keep B
        replace Oz9 := Oz9.keep B
        replace Oz10 := Oz10.keep B
        replace X11 := X11.keep B
        replace Oz12 := Oz12.keep B
        replace BB := joinB BB B
        clear B
        refine wl_take (some 14) (.int .i64 (isE T1 x1 (T2 + T3))) rfl rfl (by kernel_rfl) ?_
        refine wl_nil ?_
        refine wp_then ?_
        refine wp_seq ?_
        refine wp_seq ?_
        refine wl_start ?_
        refine wl_take (some 63) (.int .i64 (isE T1 x1 T2)) rfl rfl (by kernel_rfl) ?_
        by_cases c13 : isE T1 x1 T2 = 0
        · skip
          refine wl_eq (some 64) (.bool ((isE T1 x1 T2 : Int) != 0)) (.bool false) (congrArg Value.bool (bne_eq_false_iff_eq.2 c13)) rfl rfl (by kernel_rfl) ?_
          refine wl_take (some 65) (.bool false) rfl rfl (by kernel_rfl) ?_
          refine wg_take (some 66) (.int .i64 (isE (T1 + T2) (x1 + (isV T1 x1 T2)) T3)) (by kernel_rfl) rfl (by kernel_rfl) ?_
          by_cases c14 : isE (T1 + T2) (x1 + (isV T1 x1 T2)) T3 = 0
          · skip
            refine wg_eq (some 67) (.bool ((isE (T1 + T2) (x1 + (isV T1 x1 T2)) T3 : Int) != 0)) (.bool false) (congrArg Value.bool (bne_eq_false_iff_eq.2 c14)) (by kernel_rfl) rfl (by kernel_rfl) ?_
            refine wl_take (some 68) (.bool false) rfl rfl (by kernel_rfl) ?_
            refine wl_take (some 69) (.bool false) rfl rfl (by kernel_rfl) ?_
            refine wg_take (some 70) (.int .i64 (isE T1 x1 (T2 + T3))) (by kernel_rfl) rfl (by kernel_rfl) ?_
            by_cases c15 : isE T1 x1 (T2 + T3) = 0
            · skip
              refine wg_eq (some 71) (.bool ((isE T1 x1 (T2 + T3) : Int) != 0)) (.bool false) (congrArg Value.bool (bne_eq_false_iff_eq.2 c15)) (by kernel_rfl) rfl (by kernel_rfl) ?_
              refine wl_take (some 72) (.bool false) rfl rfl (by kernel_rfl) ?_
              refine wl_nil ?_
              refine wp_then ?_
              refine wp_frame (a' := ⟨#[(.int .u64 T1), (.agg #[.slice a1 len1 cap1]), (.int .u64 T2), (.int .u64 T3), ud, (.pointer (some ⟨g1v, 0, none⟩)), ud, ud, (.bool false), (.pointer (some ⟨g8v, 0, none⟩)), (.int .i64 (isE T1 x1 T2)), (.pointer (some ⟨g11v, 0, none⟩)), (.int .i64 (isE (T1 + T2) (x1 + (isV T1 x1 T2)) T3)), (.pointer (some ⟨g13v, 0, none⟩)), (.int .i64 (isE T1 x1 (T2 + T3))), ud, (.bool true), (.bool false), (.int .u64 y0), (.int .u64 T1), (.int .u64 y2), (.int .u64 T2), (.int .u64 y3), (.int .u64 T3), (.agg #[.slice a1 len1 cap1]), (.slice (some ⟨g3v, 0, none⟩) 1 1), (.bool true), (.bool false), (.bool false), (.agg #[.slice a1 len1 cap1]), (.bool false), (.bool false), (.bool false), (.int .u64 T1), (.bool false), (.bool false), (.tuple #[.agg #[.slice Az7 Nz7 Cz7], .int .i64 (isE T1 x1 T2)]), (.int .u64 T1), (.agg #[.slice a1 len1 cap1]), (.int .u64 T2), (.tuple #[.agg #[.slice Az7 Nz7 Cz7], .int .i64 (isE T1 x1 T2)]), (.agg #[.slice Az7 Nz7 Cz7]), (.int .i64 (isE T1 x1 T2)), (.tuple #[.agg #[.slice Az10 Nz10 Cz10], .int .i64 (isE (T1 + T2) (x1 + (isV T1 x1 T2)) T3)]), (.int .u64 T1), (.int .u64 T2), (.int .u64 (T1 + T2)), (.agg #[.slice a1 len1 cap1]), (.agg #[.slice Az7 Nz7 Cz7]), (.agg #[.slice Az9 Nz9 Cz9]), (.int .u64 T3), (.tuple #[.agg #[.slice Az10 Nz10 Cz10], .int .i64 (isE (T1 + T2) (x1 + (isV T1 x1 T2)) T3)]), (.agg #[.slice Az10 Nz10 Cz10]), (.int .i64 (isE (T1 + T2) (x1 + (isV T1 x1 T2)) T3)), (.tuple #[.agg #[.slice Az12 Nz12 Cz12], .int .i64 (isE T1 x1 (T2 + T3))]), (.int .u64 T1), (.agg #[.slice a1 len1 cap1]), (.int .u64 T2), (.int .u64 T3), (.int .u64 (T2 + T3)), (.tuple #[.agg #[.slice Az12 Nz12 Cz12], .int .i64 (isE T1 x1 (T2 + T3))]), (.agg #[.slice Az12 Nz12 Cz12]), (.int .i64 (isE T1 x1 (T2 + T3))), (.int .i64 (isE T1 x1 T2)), (.bool false), (.bool false), (.int .i64 (isE (T1 + T2) (x1 + (isV T1 x1 T2)) T3)), (.bool false), (.bool false), (.bool false), (.int .i64 (isE T1 x1 (T2 + T3))), (.bool false), (.bool false), ud, ud, ud, ud, ud, ud, ud, ud, ud, ud, ud, ud, ud, ud, ud, ud, ud, ud, ud, ud, ud, ud, ud, ud, ud, ud], []⟩) (by kernel_rfl) ?_
              refine wp_cond_false (by kernel_rfl) ?_
              refine wp_skip_then ?_
              refine wp_seq ?_
              refine wl_start ?_
              refine wl_take (some 73) (.agg #[.slice Az7 Nz7 Cz7]) rfl rfl (run_lp 9 (by kernel_rfl) (by kernel_rfl) (ldx26 (X9.cell (i := 0) rfl))) ?_
              refine wl_take (some 74) (.agg #[.slice Az10 Nz10 Cz10]) rfl rfl (run_lp 11 (by kernel_rfl) (by kernel_rfl) (ldx26 (X11.cell (i := 0) rfl))) ?_
              refine wl_call (some 75) 13 #[.agg #[.slice Az7 Nz7 Cz7], .agg #[.slice Az10 Nz10 Cz10]] rfl rfl (by kernel_rfl) (dAdd Oz7.a Oz10.a (by omega) (by omega)) ?_
              rintro e1 v14w ⟨Az16, Nz16, Cz16, rfl, Oz16, Kz16, B⟩
              refine ⟨_, rfl, ?_⟩
              replace N1 := N1.keep B
              replace X5 := X5.keep B
              replace L3 := L3.keep B
              replace Oz7 := Oz7.keep B
              replace X9 := X9.keep B
              replace Oz9 := Oz9.keep B
              replace Oz10 := Oz10.keep B
              replace X11 := X11.keep B
              replace Oz12 := Oz12.keep B
              replace X13 := X13.keep B
              replace BB := joinB BB B
              clear B
              have bs14 := BB.size
              refine wl_new 15 75 26 [.slice none 0 0] [.slice Az16 Nz16 Cz16] rfl rfl rfl rfl rfl rfl allocx26 (fun _ => by kernel_rfl) (fun _ => by kernel_rfl) (by kernel_rfl) rfl (by kernel_rfl) ?_
              intro v15w g15v X15 hg15v B
              replace N1 := N1.keep B
              replace X5 := X5.keep B
              replace L3 := L3.keep B
              replace Oz7 := Oz7.keep B
              replace X9 := X9.keep B
              replace Oz9 := Oz9.keep B
              replace Oz10 := Oz10.keep B
              replace X11 := X11.keep B
              replace Oz12 := Oz12.keep B
              replace X13 := X13.keep B
              replace Oz16 := Oz16.keep B
              replace BB := joinB BB B
              clear B
              refine wl_nil ?_
              refine wp_then ?_
              refine wp_seq ?_
              refine rg_start (S := fun w' => Below v15w.drew.heap.size v15w.drew w') (by kernel_rfl) (Below.refl _ _) ?_
              replace N1 := N1.drew
              replace X5 := X5.drew
              replace L3 := L3.drew
              replace Oz7 := Oz7.drew
              replace X9 := X9.drew
              replace Oz9 := Oz9.drew
              replace Oz10 := Oz10.drew
              replace X11 := X11.drew
              replace Oz12 := Oz12.drew
              replace X13 := X13.drew
              replace Oz16 := Oz16.drew
              replace X15 := X15.drew
              replace BB := BB.drew
              have hS := Below.refl v15w.drew.heap.size v15w.drew
              have UX5 := X5
              have UL3 := L3
              have UX9 := X9
              have UX11 := X11
              have UX13 := X13
              have UX15 := X15
              refine rg_load 0 (some 76) (.agg #[.slice Az16 Nz16 Cz16]) 26 15 (g15v) 0 (by kernel_rfl) (by kernel_rfl) (by kernel_rfl) (fun _ hb => ldx26 ((UX15.keep hb).cell (i := 0) rfl)) (fun _ _ _ h => h) hS ?_
              refine rg_load 1 (some 77) (.agg #[.slice Az12 Nz12 Cz12]) 26 13 (g13v) 0 (by kernel_rfl) (by kernel_rfl) (by kernel_rfl) (fun _ hb => ldx26 ((UX13.keep hb).cell (i := 0) rfl)) (fun _ _ _ h => h) hS ?_
              by_cases c17 : ((isV T1 x1 T2) + (isV (T1 + T2) (x1 + (isV T1 x1 T2)) T3)) < (isV T1 x1 (T2 + T3))
              · skip
                refine rg_call 2 (some 78) 17 #[.agg #[.slice Az16 Nz16 Cz16], .agg #[.slice Az12 Nz12 Cz12]] (by kernel_rfl) (by kernel_rfl) (cmpD Oz16.a Oz12.a (by omega) (by omega) (-1) (sgn_lt c17)) ?_
                rintro e1 v16w ⟨rfl, B⟩
                refine ⟨_, rfl, joinB hS B, ?_⟩
                replace hS := joinB hS B
                replace N1 := N1.keep B
                replace X5 := X5.keep B
                replace L3 := L3.keep B
                replace Oz7 := Oz7.keep B
                replace X9 := X9.keep B
                replace Oz9 := Oz9.keep B
                replace Oz10 := Oz10.keep B
                replace X11 := X11.keep B
                replace Oz12 := Oz12.keep B
                replace X13 := X13.keep B
                replace Oz16 := Oz16.keep B
                replace X15 := X15.keep B
                replace BB := joinB BB B
                clear B
                refine rg_take 3 (some 79) (.bool true) (by kernel_rfl) (fun _ _ => by kernel_rfl) (fun _ _ _ h => h) hS ?_
                refine rg_take 4 (some 80) (.bool true) (by kernel_rfl) (fun _ _ => by kernel_rfl) (fun _ _ _ h => h) hS ?_
                refine rg_take 5 (some 81) (.int .u64 T1) (by kernel_rfl) (fun _ _ => by kernel_rfl) (fun _ _ _ h => h) hS ?_
                refine rg_take 6 (some 82) (.int .u64 T2) (by kernel_rfl) (fun _ _ => by kernel_rfl) (fun _ _ _ h => h) hS ?_
                have rg18 : 0 ≤ T1 + T2 ∧ T1 + T2 < 18446744073709551616 := by omega
                refine rg_take 7 (some 83) (.int .u64 (T1 + T2)) (by kernel_rfl) (fun _ _ => run_addu (x := 81) (y := 82) (p := T1) (q := T2) (by kernel_rfl) (by kernel_rfl) (by kernel_rfl) rg18) (fun _ _ _ h => h) hS ?_
                refine rg_take 8 (some 84) (.int .u64 T3) (by kernel_rfl) (fun _ _ => by kernel_rfl) (fun _ _ _ h => h) hS ?_
                have rg19 : 0 ≤ T1 + T2 + T3 ∧ T1 + T2 + T3 < 18446744073709551616 := by omega
                refine rg_take 9 (some 85) (.int .u64 (T1 + T2 + T3)) (by kernel_rfl) (fun _ _ => run_addu (x := 83) (y := 84) (p := T1 + T2) (q := T3) (by kernel_rfl) (by kernel_rfl) (by kernel_rfl) rg19) (fun _ _ _ h => h) hS ?_
                refine rg_load 10 (some 86) (.agg #[.slice a1 len1 cap1]) 26 5 (g1v) 0 (by kernel_rfl) (by kernel_rfl) (by kernel_rfl) (fun _ hb => ldx26 ((UX5.keep hb).cell (i := 0) rfl)) (fun _ _ _ h => h) hS ?_
                refine rg_load 11 (some 87) (.agg #[.slice Az12 Nz12 Cz12]) 26 13 (g13v) 0 (by kernel_rfl) (by kernel_rfl) (by kernel_rfl) (fun _ hb => ldx26 ((UX13.keep hb).cell (i := 0) rfl)) (fun _ _ _ h => h) hS ?_
                refine rg_take 13 (some 89) (.int .u64 T1) (by kernel_rfl) (fun _ _ => by kernel_rfl) (fun _ _ _ h => h) hS ?_
                refine rg_take 14 (some 90) (.int .u64 T2) (by kernel_rfl) (fun _ _ => by kernel_rfl) (fun _ _ _ h => h) hS ?_
                have rg20 : 0 ≤ T1 + T2 ∧ T1 + T2 < 18446744073709551616 := by omega
                refine rg_take 15 (some 91) (.int .u64 (T1 + T2)) (by kernel_rfl) (fun _ _ => run_addu (x := 89) (y := 90) (p := T1) (q := T2) (by kernel_rfl) (by kernel_rfl) (by kernel_rfl) rg20) (fun _ _ _ h => h) hS ?_
                refine rg_take 16 (some 92) (.int .u64 T3) (by kernel_rfl) (fun _ _ => by kernel_rfl) (fun _ _ _ h => h) hS ?_
                have rg21 : 0 ≤ T1 + T2 + T3 ∧ T1 + T2 + T3 < 18446744073709551616 := by omega
                refine rg_take 17 (some 93) (.int .u64 (T1 + T2 + T3)) (by kernel_rfl) (fun _ _ => run_addu (x := 91) (y := 92) (p := T1 + T2) (q := T3) (by kernel_rfl) (by kernel_rfl) (by kernel_rfl) rg21) (fun _ _ _ h => h) hS ?_
                refine rg_load 18 (some 94) (.agg #[.slice a1 len1 cap1]) 26 5 (g1v) 0 (by kernel_rfl) (by kernel_rfl) (by kernel_rfl) (fun _ hb => ldx26 ((UX5.keep hb).cell (i := 0) rfl)) (fun _ _ _ h => h) hS ?_
                refine rg_load 19 (some 95) (.agg #[.slice Az16 Nz16 Cz16]) 26 15 (g15v) 0 (by kernel_rfl) (by kernel_rfl) (by kernel_rfl) (fun _ hb => ldx26 ((UX15.keep hb).cell (i := 0) rfl)) (fun _ _ _ h => h) hS ?_
                refine rg_call 12 (some 88) 13 #[.agg #[.slice a1 len1 cap1], .agg #[.slice Az12 Nz12 Cz12]] (by kernel_rfl) (by kernel_rfl) (dAdd N1 Oz12.a (by omega) (by omega)) ?_
                rintro e1 v17w ⟨Az22, Nz22, Cz22, rfl, Oz22, Kz22, B⟩
                refine ⟨_, rfl, joinB hS B, ?_⟩
                replace hS := joinB hS B
                replace N1 := N1.keep B
                replace X5 := X5.keep B
                replace L3 := L3.keep B
                replace Oz7 := Oz7.keep B
                replace X9 := X9.keep B
                replace Oz9 := Oz9.keep B
                replace Oz10 := Oz10.keep B
                replace X11 := X11.keep B
                replace Oz12 := Oz12.keep B
                replace X13 := X13.keep B
                replace Oz16 := Oz16.keep B
                replace X15 := X15.keep B
                replace BB := joinB BB B
                clear B
                refine rg_call 20 (some 96) 13 #[.agg #[.slice a1 len1 cap1], .agg #[.slice Az16 Nz16 Cz16]] (by kernel_rfl) (by kernel_rfl) (dAdd N1 Oz16.a (by omega) (by omega)) ?_
                rintro e1 v18w ⟨Az23, Nz23, Cz23, rfl, Oz23, Kz23, B⟩
                refine ⟨_, rfl, joinB hS B, ?_⟩
                replace hS := joinB hS B
                replace N1 := N1.keep B
                replace X5 := X5.keep B
                replace L3 := L3.keep B
                replace Oz7 := Oz7.keep B
                replace X9 := X9.keep B
                replace Oz9 := Oz9.keep B
                replace Oz10 := Oz10.keep B
                replace X11 := X11.keep B
                replace Oz12 := Oz12.keep B
                replace X13 := X13.keep B
                replace Oz16 := Oz16.keep B
                replace X15 := X15.keep B
                replace Oz22 := Oz22.keep B
                replace BB := joinB BB B
                clear B
                by_cases c24 : (T1 + T2 + T3) * (x1 + ((isV T1 x1 T2) + (isV (T1 + T2) (x1 + (isV T1 x1 T2)) T3))) ≤ (T1 + T2 + T3) * (x1 + (isV T1 x1 (T2 + T3)))
                · skip
                  refine rg_call 21 (some 97) 12 #[.int .u64 (T1 + T2 + T3), .agg #[.slice Az22 Nz22 Cz22], .int .u64 (T1 + T2 + T3), .agg #[.slice Az23 Nz23 Cz23]] (by kernel_rfl) (by kernel_rfl) (rate_any rg21 Oz22.a (by omega) rg21 Oz23.a (by omega) true (decide_eq_true c24)) ?_
                  rintro e1 v19w ⟨rfl, B⟩
                  refine ⟨_, rfl, joinB hS B, ?_⟩
                  replace hS := joinB hS B
                  replace N1 := N1.keep B
                  replace X5 := X5.keep B
                  replace L3 := L3.keep B
                  replace Oz7 := Oz7.keep B
                  replace X9 := X9.keep B
                  replace Oz9 := Oz9.keep B
                  replace Oz10 := Oz10.keep B
                  replace X11 := X11.keep B
                  replace Oz12 := Oz12.keep B
                  replace X13 := X13.keep B
                  replace Oz16 := Oz16.keep B
                  replace X15 := X15.keep B
                  replace Oz22 := Oz22.keep B
                  replace Oz23 := Oz23.keep B
                  replace BB := joinB BB B
                  clear B
                  refine rg_take 22 (some 98) (.bool true) (by kernel_rfl) (fun _ _ => by kernel_rfl) (fun _ _ _ h => h) hS ?_
                  refine rg_take 23 (some 8) (.bool true) (by kernel_rfl) (fun _ _ => by kernel_rfl) (fun _ _ _ h => h) hS ?_
                  refine rg_done (by kernel_rfl) ?_
                  clear hS UX5 UL3 UX9 UX11 UX13 UX15
                  refine wp_then ?_
                  refine wp_frame (a' := ⟨#[(.int .u64 T1), (.agg #[.slice a1 len1 cap1]), (.int .u64 T2), (.int .u64 T3), ud, (.pointer (some ⟨g1v, 0, none⟩)), ud, ud, (.bool true), (.pointer (some ⟨g8v, 0, none⟩)), (.int .i64 (isE T1 x1 T2)), (.pointer (some ⟨g11v, 0, none⟩)), (.int .i64 (isE (T1 + T2) (x1 + (isV T1 x1 T2)) T3)), (.pointer (some ⟨g13v, 0, none⟩)), (.int .i64 (isE T1 x1 (T2 + T3))), (.pointer (some ⟨g15v, 0, none⟩)), (.bool true), (.bool false), (.int .u64 y0), (.int .u64 T1), (.int .u64 y2), (.int .u64 T2), (.int .u64 y3), (.int .u64 T3), (.agg #[.slice a1 len1 cap1]), (.slice (some ⟨g3v, 0, none⟩) 1 1), (.bool true), (.bool false), (.bool false), (.agg #[.slice a1 len1 cap1]), (.bool false), (.bool false), (.bool false), (.int .u64 T1), (.bool false), (.bool false), (.tuple #[.agg #[.slice Az7 Nz7 Cz7], .int .i64 (isE T1 x1 T2)]), (.int .u64 T1), (.agg #[.slice a1 len1 cap1]), (.int .u64 T2), (.tuple #[.agg #[.slice Az7 Nz7 Cz7], .int .i64 (isE T1 x1 T2)]), (.agg #[.slice Az7 Nz7 Cz7]), (.int .i64 (isE T1 x1 T2)), (.tuple #[.agg #[.slice Az10 Nz10 Cz10], .int .i64 (isE (T1 + T2) (x1 + (isV T1 x1 T2)) T3)]), (.int .u64 T1), (.int .u64 T2), (.int .u64 (T1 + T2)), (.agg #[.slice a1 len1 cap1]), (.agg #[.slice Az7 Nz7 Cz7]), (.agg #[.slice Az9 Nz9 Cz9]), (.int .u64 T3), (.tuple #[.agg #[.slice Az10 Nz10 Cz10], .int .i64 (isE (T1 + T2) (x1 + (isV T1 x1 T2)) T3)]), (.agg #[.slice Az10 Nz10 Cz10]), (.int .i64 (isE (T1 + T2) (x1 + (isV T1 x1 T2)) T3)), (.tuple #[.agg #[.slice Az12 Nz12 Cz12], .int .i64 (isE T1 x1 (T2 + T3))]), (.int .u64 T1), (.agg #[.slice a1 len1 cap1]), (.int .u64 T2), (.int .u64 T3), (.int .u64 (T2 + T3)), (.tuple #[.agg #[.slice Az12 Nz12 Cz12], .int .i64 (isE T1 x1 (T2 + T3))]), (.agg #[.slice Az12 Nz12 Cz12]), (.int .i64 (isE T1 x1 (T2 + T3))), (.int .i64 (isE T1 x1 T2)), (.bool false), (.bool false), (.int .i64 (isE (T1 + T2) (x1 + (isV T1 x1 T2)) T3)), (.bool false), (.bool false), (.bool false), (.int .i64 (isE T1 x1 (T2 + T3))), (.bool false), (.bool false), (.agg #[.slice Az7 Nz7 Cz7]), (.agg #[.slice Az10 Nz10 Cz10]), (.agg #[.slice Az16 Nz16 Cz16]), (.agg #[.slice Az16 Nz16 Cz16]), (.agg #[.slice Az12 Nz12 Cz12]), (.int .i64 (-1)), (.bool true), (.bool true), (.int .u64 T1), (.int .u64 T2), (.int .u64 (T1 + T2)), (.int .u64 T3), (.int .u64 (T1 + T2 + T3)), (.agg #[.slice a1 len1 cap1]), (.agg #[.slice Az12 Nz12 Cz12]), (.agg #[.slice Az22 Nz22 Cz22]), (.int .u64 T1), (.int .u64 T2), (.int .u64 (T1 + T2)), (.int .u64 T3), (.int .u64 (T1 + T2 + T3)), (.agg #[.slice a1 len1 cap1]), (.agg #[.slice Az16 Nz16 Cz16]), (.agg #[.slice Az23 Nz23 Cz23]), (.bool true), (.bool true)], []⟩) (by kernel_rfl) ?_
                  refine wp_ret ?_
                  repeat (first | refine ret_then ?_ | refine ret_block ?_)
                  refine bodyPost_ret (results_tmp rfl _ _ _) rfl ?_
                  exact ⟨by kernel_rfl, BB⟩
                · skip
                  refine rg_call 21 (some 97) 12 #[.int .u64 (T1 + T2 + T3), .agg #[.slice Az22 Nz22 Cz22], .int .u64 (T1 + T2 + T3), .agg #[.slice Az23 Nz23 Cz23]] (by kernel_rfl) (by kernel_rfl) (rate_any rg21 Oz22.a (by omega) rg21 Oz23.a (by omega) false (decide_eq_false c24)) ?_
                  rintro e1 v20w ⟨rfl, B⟩
                  refine ⟨_, rfl, joinB hS B, ?_⟩
                  replace hS := joinB hS B
                  replace N1 := N1.keep B
                  replace X5 := X5.keep B
                  replace L3 := L3.keep B
                  replace Oz7 := Oz7.keep B
                  replace X9 := X9.keep B
                  replace Oz9 := Oz9.keep B
                  replace Oz10 := Oz10.keep B
                  replace X11 := X11.keep B
                  replace Oz12 := Oz12.keep B
                  replace X13 := X13.keep B
                  replace Oz16 := Oz16.keep B
                  replace X15 := X15.keep B
                  replace Oz22 := Oz22.keep B
                  replace Oz23 := Oz23.keep B
                  replace BB := joinB BB B
                  clear B
                  refine rg_take 22 (some 98) (.bool false) (by kernel_rfl) (fun _ _ => by kernel_rfl) (fun _ _ _ h => h) hS ?_
                  refine rg_take 23 (some 8) (.bool false) (by kernel_rfl) (fun _ _ => by kernel_rfl) (fun _ _ _ h => h) hS ?_
                  refine rg_done (by kernel_rfl) ?_
                  clear hS UX5 UL3 UX9 UX11 UX13 UX15
                  refine wp_then ?_
                  refine wp_frame (a' := ⟨#[(.int .u64 T1), (.agg #[.slice a1 len1 cap1]), (.int .u64 T2), (.int .u64 T3), ud, (.pointer (some ⟨g1v, 0, none⟩)), ud, ud, (.bool false), (.pointer (some ⟨g8v, 0, none⟩)), (.int .i64 (isE T1 x1 T2)), (.pointer (some ⟨g11v, 0, none⟩)), (.int .i64 (isE (T1 + T2) (x1 + (isV T1 x1 T2)) T3)), (.pointer (some ⟨g13v, 0, none⟩)), (.int .i64 (isE T1 x1 (T2 + T3))), (.pointer (some ⟨g15v, 0, none⟩)), (.bool true), (.bool false), (.int .u64 y0), (.int .u64 T1), (.int .u64 y2), (.int .u64 T2), (.int .u64 y3), (.int .u64 T3), (.agg #[.slice a1 len1 cap1]), (.slice (some ⟨g3v, 0, none⟩) 1 1), (.bool true), (.bool false), (.bool false), (.agg #[.slice a1 len1 cap1]), (.bool false), (.bool false), (.bool false), (.int .u64 T1), (.bool false), (.bool false), (.tuple #[.agg #[.slice Az7 Nz7 Cz7], .int .i64 (isE T1 x1 T2)]), (.int .u64 T1), (.agg #[.slice a1 len1 cap1]), (.int .u64 T2), (.tuple #[.agg #[.slice Az7 Nz7 Cz7], .int .i64 (isE T1 x1 T2)]), (.agg #[.slice Az7 Nz7 Cz7]), (.int .i64 (isE T1 x1 T2)), (.tuple #[.agg #[.slice Az10 Nz10 Cz10], .int .i64 (isE (T1 + T2) (x1 + (isV T1 x1 T2)) T3)]), (.int .u64 T1), (.int .u64 T2), (.int .u64 (T1 + T2)), (.agg #[.slice a1 len1 cap1]), (.agg #[.slice Az7 Nz7 Cz7]), (.agg #[.slice Az9 Nz9 Cz9]), (.int .u64 T3), (.tuple #[.agg #[.slice Az10 Nz10 Cz10], .int .i64 (isE (T1 + T2) (x1 + (isV T1 x1 T2)) T3)]), (.agg #[.slice Az10 Nz10 Cz10]), (.int .i64 (isE (T1 + T2) (x1 + (isV T1 x1 T2)) T3)), (.tuple #[.agg #[.slice Az12 Nz12 Cz12], .int .i64 (isE T1 x1 (T2 + T3))]), (.int .u64 T1), (.agg #[.slice a1 len1 cap1]), (.int .u64 T2), (.int .u64 T3), (.int .u64 (T2 + T3)), (.tuple #[.agg #[.slice Az12 Nz12 Cz12], .int .i64 (isE T1 x1 (T2 + T3))]), (.agg #[.slice Az12 Nz12 Cz12]), (.int .i64 (isE T1 x1 (T2 + T3))), (.int .i64 (isE T1 x1 T2)), (.bool false), (.bool false), (.int .i64 (isE (T1 + T2) (x1 + (isV T1 x1 T2)) T3)), (.bool false), (.bool false), (.bool false), (.int .i64 (isE T1 x1 (T2 + T3))), (.bool false), (.bool false), (.agg #[.slice Az7 Nz7 Cz7]), (.agg #[.slice Az10 Nz10 Cz10]), (.agg #[.slice Az16 Nz16 Cz16]), (.agg #[.slice Az16 Nz16 Cz16]), (.agg #[.slice Az12 Nz12 Cz12]), (.int .i64 (-1)), (.bool true), (.bool true), (.int .u64 T1), (.int .u64 T2), (.int .u64 (T1 + T2)), (.int .u64 T3), (.int .u64 (T1 + T2 + T3)), (.agg #[.slice a1 len1 cap1]), (.agg #[.slice Az12 Nz12 Cz12]), (.agg #[.slice Az22 Nz22 Cz22]), (.int .u64 T1), (.int .u64 T2), (.int .u64 (T1 + T2)), (.int .u64 T3), (.int .u64 (T1 + T2 + T3)), (.agg #[.slice a1 len1 cap1]), (.agg #[.slice Az16 Nz16 Cz16]), (.agg #[.slice Az23 Nz23 Cz23]), (.bool false), (.bool false)], []⟩) (by kernel_rfl) ?_
                  exfalso
                  have kk := two_steps (T := T1) (S := x1) (t := T2) (u := T3) (by omega) hx1 c5 (w64 rt2).1 (w64 rt3).1
                  have k2 := rate_two (V := T1 + T2 + T3) (S := x1) (a := isV T1 x1 T2 + isV (T1 + T2) (x1 + isV T1 x1 T2) T3) (c := isV T1 x1 (T2 + T3)) (by omega)
                  clear BB
                  omega
              · skip
                by_cases c25 : ((isV T1 x1 T2) + (isV (T1 + T2) (x1 + (isV T1 x1 T2)) T3)) = (isV T1 x1 (T2 + T3))
                · skip
                  refine rg_call 2 (some 78) 17 #[.agg #[.slice Az16 Nz16 Cz16], .agg #[.slice Az12 Nz12 Cz12]] (by kernel_rfl) (by kernel_rfl) (cmpD Oz16.a Oz12.a (by omega) (by omega) 0 (sgn_eq c25)) ?_
                  rintro e1 v21w ⟨rfl, B⟩
                  refine ⟨_, rfl, joinB hS B, ?_⟩
                  replace hS := joinB hS B
                  replace N1 := N1.keep B
                  replace X5 := X5.keep B
                  replace L3 := L3.keep B
                  replace Oz7 := Oz7.keep B
                  replace X9 := X9.keep B
                  replace Oz9 := Oz9.keep B
                  replace Oz10 := Oz10.keep B
                  replace X11 := X11.keep B
                  replace Oz12 := Oz12.keep B
                  replace X13 := X13.keep B
                  replace Oz16 := Oz16.keep B
                  replace X15 := X15.keep B
                  replace BB := joinB BB B
                  clear B
                  refine rg_take 3 (some 79) (.bool true) (by kernel_rfl) (fun _ _ => by kernel_rfl) (fun _ _ _ h => h) hS ?_
                  refine rg_take 4 (some 80) (.bool true) (by kernel_rfl) (fun _ _ => by kernel_rfl) (fun _ _ _ h => h) hS ?_
                  refine rg_take 5 (some 81) (.int .u64 T1) (by kernel_rfl) (fun _ _ => by kernel_rfl) (fun _ _ _ h => h) hS ?_
                  refine rg_take 6 (some 82) (.int .u64 T2) (by kernel_rfl) (fun _ _ => by kernel_rfl) (fun _ _ _ h => h) hS ?_
                  have rg26 : 0 ≤ T1 + T2 ∧ T1 + T2 < 18446744073709551616 := by omega
                  refine rg_take 7 (some 83) (.int .u64 (T1 + T2)) (by kernel_rfl) (fun _ _ => run_addu (x := 81) (y := 82) (p := T1) (q := T2) (by kernel_rfl) (by kernel_rfl) (by kernel_rfl) rg26) (fun _ _ _ h => h) hS ?_
                  refine rg_take 8 (some 84) (.int .u64 T3) (by kernel_rfl) (fun _ _ => by kernel_rfl) (fun _ _ _ h => h) hS ?_
                  have rg27 : 0 ≤ T1 + T2 + T3 ∧ T1 + T2 + T3 < 18446744073709551616 := by omega
                  refine rg_take 9 (some 85) (.int .u64 (T1 + T2 + T3)) (by kernel_rfl) (fun _ _ => run_addu (x := 83) (y := 84) (p := T1 + T2) (q := T3) (by kernel_rfl) (by kernel_rfl) (by kernel_rfl) rg27) (fun _ _ _ h => h) hS ?_
                  refine rg_load 10 (some 86) (.agg #[.slice a1 len1 cap1]) 26 5 (g1v) 0 (by kernel_rfl) (by kernel_rfl) (by kernel_rfl) (fun _ hb => ldx26 ((UX5.keep hb).cell (i := 0) rfl)) (fun _ _ _ h => h) hS ?_
                  refine rg_load 11 (some 87) (.agg #[.slice Az12 Nz12 Cz12]) 26 13 (g13v) 0 (by kernel_rfl) (by kernel_rfl) (by kernel_rfl) (fun _ hb => ldx26 ((UX13.keep hb).cell (i := 0) rfl)) (fun _ _ _ h => h) hS ?_
                  refine rg_take 13 (some 89) (.int .u64 T1) (by kernel_rfl) (fun _ _ => by kernel_rfl) (fun _ _ _ h => h) hS ?_
                  refine rg_take 14 (some 90) (.int .u64 T2) (by kernel_rfl) (fun _ _ => by kernel_rfl) (fun _ _ _ h => h) hS ?_
                  have rg28 : 0 ≤ T1 + T2 ∧ T1 + T2 < 18446744073709551616 := by omega
                  refine rg_take 15 (some 91) (.int .u64 (T1 + T2)) (by kernel_rfl) (fun _ _ => run_addu (x := 89) (y := 90) (p := T1) (q := T2) (by kernel_rfl) (by kernel_rfl) (by kernel_rfl) rg28) (fun _ _ _ h => h) hS ?_
                  refine rg_take 16 (some 92) (.int .u64 T3) (by kernel_rfl) (fun _ _ => by kernel_rfl) (fun _ _ _ h => h) hS ?_
                  have rg29 : 0 ≤ T1 + T2 + T3 ∧ T1 + T2 + T3 < 18446744073709551616 := by omega
                  refine rg_take 17 (some 93) (.int .u64 (T1 + T2 + T3)) (by kernel_rfl) (fun _ _ => run_addu (x := 91) (y := 92) (p := T1 + T2) (q := T3) (by kernel_rfl) (by kernel_rfl) (by kernel_rfl) rg29) (fun _ _ _ h => h) hS ?_
                  refine rg_load 18 (some 94) (.agg #[.slice a1 len1 cap1]) 26 5 (g1v) 0 (by kernel_rfl) (by kernel_rfl) (by kernel_rfl) (fun _ hb => ldx26 ((UX5.keep hb).cell (i := 0) rfl)) (fun _ _ _ h => h) hS ?_
                  refine rg_load 19 (some 95) (.agg #[.slice Az16 Nz16 Cz16]) 26 15 (g15v) 0 (by kernel_rfl) (by kernel_rfl) (by kernel_rfl) (fun _ hb => ldx26 ((UX15.keep hb).cell (i := 0) rfl)) (fun _ _ _ h => h) hS ?_
                  refine rg_call 12 (some 88) 13 #[.agg #[.slice a1 len1 cap1], .agg #[.slice Az12 Nz12 Cz12]] (by kernel_rfl) (by kernel_rfl) (dAdd N1 Oz12.a (by omega) (by omega)) ?_
                  rintro e1 v22w ⟨Az30, Nz30, Cz30, rfl, Oz30, Kz30, B⟩
                  refine ⟨_, rfl, joinB hS B, ?_⟩
                  replace hS := joinB hS B
                  replace N1 := N1.keep B
                  replace X5 := X5.keep B
                  replace L3 := L3.keep B
                  replace Oz7 := Oz7.keep B
                  replace X9 := X9.keep B
                  replace Oz9 := Oz9.keep B
                  replace Oz10 := Oz10.keep B
                  replace X11 := X11.keep B
                  replace Oz12 := Oz12.keep B
                  replace X13 := X13.keep B
                  replace Oz16 := Oz16.keep B
                  replace X15 := X15.keep B
                  replace BB := joinB BB B
                  clear B
                  refine rg_call 20 (some 96) 13 #[.agg #[.slice a1 len1 cap1], .agg #[.slice Az16 Nz16 Cz16]] (by kernel_rfl) (by kernel_rfl) (dAdd N1 Oz16.a (by omega) (by omega)) ?_
                  rintro e1 v23w ⟨Az31, Nz31, Cz31, rfl, Oz31, Kz31, B⟩
                  refine ⟨_, rfl, joinB hS B, ?_⟩
                  replace hS := joinB hS B
                  replace N1 := N1.keep B
                  replace X5 := X5.keep B
                  replace L3 := L3.keep B
                  replace Oz7 := Oz7.keep B
                  replace X9 := X9.keep B
                  replace Oz9 := Oz9.keep B
                  replace Oz10 := Oz10.keep B
                  replace X11 := X11.keep B
                  replace Oz12 := Oz12.keep B
                  replace X13 := X13.keep B
                  replace Oz16 := Oz16.keep B
                  replace X15 := X15.keep B
                  replace Oz30 := Oz30.keep B
                  replace BB := joinB BB B
                  clear B
                  by_cases c32 : (T1 + T2 + T3) * (x1 + ((isV T1 x1 T2) + (isV (T1 + T2) (x1 + (isV T1 x1 T2)) T3))) ≤ (T1 + T2 + T3) * (x1 + (isV T1 x1 (T2 + T3)))
                  · skip
                    refine rg_call 21 (some 97) 12 #[.int .u64 (T1 + T2 + T3), .agg #[.slice Az30 Nz30 Cz30], .int .u64 (T1 + T2 + T3), .agg #[.slice Az31 Nz31 Cz31]] (by kernel_rfl) (by kernel_rfl) (rate_any rg29 Oz30.a (by omega) rg29 Oz31.a (by omega) true (decide_eq_true c32)) ?_
                    rintro e1 v24w ⟨rfl, B⟩
                    refine ⟨_, rfl, joinB hS B, ?_⟩
                    replace hS := joinB hS B
                    replace N1 := N1.keep B
                    replace X5 := X5.keep B
                    replace L3 := L3.keep B
                    replace Oz7 := Oz7.keep B
                    replace X9 := X9.keep B
                    replace Oz9 := Oz9.keep B
                    replace Oz10 := Oz10.keep B
                    replace X11 := X11.keep B
                    replace Oz12 := Oz12.keep B
                    replace X13 := X13.keep B
                    replace Oz16 := Oz16.keep B
                    replace X15 := X15.keep B
                    replace Oz30 := Oz30.keep B
                    replace Oz31 := Oz31.keep B
                    replace BB := joinB BB B
                    clear B
                    refine rg_take 22 (some 98) (.bool true) (by kernel_rfl) (fun _ _ => by kernel_rfl) (fun _ _ _ h => h) hS ?_
                    refine rg_take 23 (some 8) (.bool true) (by kernel_rfl) (fun _ _ => by kernel_rfl) (fun _ _ _ h => h) hS ?_
                    refine rg_done (by kernel_rfl) ?_
                    clear hS UX5 UL3 UX9 UX11 UX13 UX15
                    refine wp_then ?_
                    refine wp_frame (a' := ⟨#[(.int .u64 T1), (.agg #[.slice a1 len1 cap1]), (.int .u64 T2), (.int .u64 T3), ud, (.pointer (some ⟨g1v, 0, none⟩)), ud, ud, (.bool true), (.pointer (some ⟨g8v, 0, none⟩)), (.int .i64 (isE T1 x1 T2)), (.pointer (some ⟨g11v, 0, none⟩)), (.int .i64 (isE (T1 + T2) (x1 + (isV T1 x1 T2)) T3)), (.pointer (some ⟨g13v, 0, none⟩)), (.int .i64 (isE T1 x1 (T2 + T3))), (.pointer (some ⟨g15v, 0, none⟩)), (.bool true), (.bool false), (.int .u64 y0), (.int .u64 T1), (.int .u64 y2), (.int .u64 T2), (.int .u64 y3), (.int .u64 T3), (.agg #[.slice a1 len1 cap1]), (.slice (some ⟨g3v, 0, none⟩) 1 1), (.bool true), (.bool false), (.bool false), (.agg #[.slice a1 len1 cap1]), (.bool false), (.bool false), (.bool false), (.int .u64 T1), (.bool false), (.bool false), (.tuple #[.agg #[.slice Az7 Nz7 Cz7], .int .i64 (isE T1 x1 T2)]), (.int .u64 T1), (.agg #[.slice a1 len1 cap1]), (.int .u64 T2), (.tuple #[.agg #[.slice Az7 Nz7 Cz7], .int .i64 (isE T1 x1 T2)]), (.agg #[.slice Az7 Nz7 Cz7]), (.int .i64 (isE T1 x1 T2)), (.tuple #[.agg #[.slice Az10 Nz10 Cz10], .int .i64 (isE (T1 + T2) (x1 + (isV T1 x1 T2)) T3)]), (.int .u64 T1), (.int .u64 T2), (.int .u64 (T1 + T2)), (.agg #[.slice a1 len1 cap1]), (.agg #[.slice Az7 Nz7 Cz7]), (.agg #[.slice Az9 Nz9 Cz9]), (.int .u64 T3), (.tuple #[.agg #[.slice Az10 Nz10 Cz10], .int .i64 (isE (T1 + T2) (x1 + (isV T1 x1 T2)) T3)]), (.agg #[.slice Az10 Nz10 Cz10]), (.int .i64 (isE (T1 + T2) (x1 + (isV T1 x1 T2)) T3)), (.tuple #[.agg #[.slice Az12 Nz12 Cz12], .int .i64 (isE T1 x1 (T2 + T3))]), (.int .u64 T1), (.agg #[.slice a1 len1 cap1]), (.int .u64 T2), (.int .u64 T3), (.int .u64 (T2 + T3)), (.tuple #[.agg #[.slice Az12 Nz12 Cz12], .int .i64 (isE T1 x1 (T2 + T3))]), (.agg #[.slice Az12 Nz12 Cz12]), (.int .i64 (isE T1 x1 (T2 + T3))), (.int .i64 (isE T1 x1 T2)), (.bool false), (.bool false), (.int .i64 (isE (T1 + T2) (x1 + (isV T1 x1 T2)) T3)), (.bool false), (.bool false), (.bool false), (.int .i64 (isE T1 x1 (T2 + T3))), (.bool false), (.bool false), (.agg #[.slice Az7 Nz7 Cz7]), (.agg #[.slice Az10 Nz10 Cz10]), (.agg #[.slice Az16 Nz16 Cz16]), (.agg #[.slice Az16 Nz16 Cz16]), (.agg #[.slice Az12 Nz12 Cz12]), (.int .i64 0), (.bool true), (.bool true), (.int .u64 T1), (.int .u64 T2), (.int .u64 (T1 + T2)), (.int .u64 T3), (.int .u64 (T1 + T2 + T3)), (.agg #[.slice a1 len1 cap1]), (.agg #[.slice Az12 Nz12 Cz12]), (.agg #[.slice Az30 Nz30 Cz30]), (.int .u64 T1), (.int .u64 T2), (.int .u64 (T1 + T2)), (.int .u64 T3), (.int .u64 (T1 + T2 + T3)), (.agg #[.slice a1 len1 cap1]), (.agg #[.slice Az16 Nz16 Cz16]), (.agg #[.slice Az31 Nz31 Cz31]), (.bool true), (.bool true)], []⟩) (by kernel_rfl) ?_
                    refine wp_ret ?_
                    repeat (first | refine ret_then ?_ | refine ret_block ?_)
                    refine bodyPost_ret (results_tmp rfl _ _ _) rfl ?_
                    exact ⟨by kernel_rfl, BB⟩
                  · skip
                    refine rg_call 21 (some 97) 12 #[.int .u64 (T1 + T2 + T3), .agg #[.slice Az30 Nz30 Cz30], .int .u64 (T1 + T2 + T3), .agg #[.slice Az31 Nz31 Cz31]] (by kernel_rfl) (by kernel_rfl) (rate_any rg29 Oz30.a (by omega) rg29 Oz31.a (by omega) false (decide_eq_false c32)) ?_
                    rintro e1 v25w ⟨rfl, B⟩
                    refine ⟨_, rfl, joinB hS B, ?_⟩
                    replace hS := joinB hS B
                    replace N1 := N1.keep B
                    replace X5 := X5.keep B
                    replace L3 := L3.keep B
                    replace Oz7 := Oz7.keep B
                    replace X9 := X9.keep B
                    replace Oz9 := Oz9.keep B
                    replace Oz10 := Oz10.keep B
                    replace X11 := X11.keep B
                    replace Oz12 := Oz12.keep B
                    replace X13 := X13.keep B
                    replace Oz16 := Oz16.keep B
                    replace X15 := X15.keep B
                    replace Oz30 := Oz30.keep B
                    replace Oz31 := Oz31.keep B
                    replace BB := joinB BB B
                    clear B
                    refine rg_take 22 (some 98) (.bool false) (by kernel_rfl) (fun _ _ => by kernel_rfl) (fun _ _ _ h => h) hS ?_
                    refine rg_take 23 (some 8) (.bool false) (by kernel_rfl) (fun _ _ => by kernel_rfl) (fun _ _ _ h => h) hS ?_
                    refine rg_done (by kernel_rfl) ?_
                    clear hS UX5 UL3 UX9 UX11 UX13 UX15
                    refine wp_then ?_
                    refine wp_frame (a' := ⟨#[(.int .u64 T1), (.agg #[.slice a1 len1 cap1]), (.int .u64 T2), (.int .u64 T3), ud, (.pointer (some ⟨g1v, 0, none⟩)), ud, ud, (.bool false), (.pointer (some ⟨g8v, 0, none⟩)), (.int .i64 (isE T1 x1 T2)), (.pointer (some ⟨g11v, 0, none⟩)), (.int .i64 (isE (T1 + T2) (x1 + (isV T1 x1 T2)) T3)), (.pointer (some ⟨g13v, 0, none⟩)), (.int .i64 (isE T1 x1 (T2 + T3))), (.pointer (some ⟨g15v, 0, none⟩)), (.bool true), (.bool false), (.int .u64 y0), (.int .u64 T1), (.int .u64 y2), (.int .u64 T2), (.int .u64 y3), (.int .u64 T3), (.agg #[.slice a1 len1 cap1]), (.slice (some ⟨g3v, 0, none⟩) 1 1), (.bool true), (.bool false), (.bool false), (.agg #[.slice a1 len1 cap1]), (.bool false), (.bool false), (.bool false), (.int .u64 T1), (.bool false), (.bool false), (.tuple #[.agg #[.slice Az7 Nz7 Cz7], .int .i64 (isE T1 x1 T2)]), (.int .u64 T1), (.agg #[.slice a1 len1 cap1]), (.int .u64 T2), (.tuple #[.agg #[.slice Az7 Nz7 Cz7], .int .i64 (isE T1 x1 T2)]), (.agg #[.slice Az7 Nz7 Cz7]), (.int .i64 (isE T1 x1 T2)), (.tuple #[.agg #[.slice Az10 Nz10 Cz10], .int .i64 (isE (T1 + T2) (x1 + (isV T1 x1 T2)) T3)]), (.int .u64 T1), (.int .u64 T2), (.int .u64 (T1 + T2)), (.agg #[.slice a1 len1 cap1]), (.agg #[.slice Az7 Nz7 Cz7]), (.agg #[.slice Az9 Nz9 Cz9]), (.int .u64 T3), (.tuple #[.agg #[.slice Az10 Nz10 Cz10], .int .i64 (isE (T1 + T2) (x1 + (isV T1 x1 T2)) T3)]), (.agg #[.slice Az10 Nz10 Cz10]), (.int .i64 (isE (T1 + T2) (x1 + (isV T1 x1 T2)) T3)), (.tuple #[.agg #[.slice Az12 Nz12 Cz12], .int .i64 (isE T1 x1 (T2 + T3))]), (.int .u64 T1), (.agg #[.slice a1 len1 cap1]), (.int .u64 T2), (.int .u64 T3), (.int .u64 (T2 + T3)), (.tuple #[.agg #[.slice Az12 Nz12 Cz12], .int .i64 (isE T1 x1 (T2 + T3))]), (.agg #[.slice Az12 Nz12 Cz12]), (.int .i64 (isE T1 x1 (T2 + T3))), (.int .i64 (isE T1 x1 T2)), (.bool false), (.bool false), (.int .i64 (isE (T1 + T2) (x1 + (isV T1 x1 T2)) T3)), (.bool false), (.bool false), (.bool false), (.int .i64 (isE T1 x1 (T2 + T3))), (.bool false), (.bool false), (.agg #[.slice Az7 Nz7 Cz7]), (.agg #[.slice Az10 Nz10 Cz10]), (.agg #[.slice Az16 Nz16 Cz16]), (.agg #[.slice Az16 Nz16 Cz16]), (.agg #[.slice Az12 Nz12 Cz12]), (.int .i64 0), (.bool true), (.bool true), (.int .u64 T1), (.int .u64 T2), (.int .u64 (T1 + T2)), (.int .u64 T3), (.int .u64 (T1 + T2 + T3)), (.agg #[.slice a1 len1 cap1]), (.agg #[.slice Az12 Nz12 Cz12]), (.agg #[.slice Az30 Nz30 Cz30]), (.int .u64 T1), (.int .u64 T2), (.int .u64 (T1 + T2)), (.int .u64 T3), (.int .u64 (T1 + T2 + T3)), (.agg #[.slice a1 len1 cap1]), (.agg #[.slice Az16 Nz16 Cz16]), (.agg #[.slice Az31 Nz31 Cz31]), (.bool false), (.bool false)], []⟩) (by kernel_rfl) ?_
                    exfalso
                    have kk := two_steps (T := T1) (S := x1) (t := T2) (u := T3) (by omega) hx1 c5 (w64 rt2).1 (w64 rt3).1
                    have k2 := rate_two (V := T1 + T2 + T3) (S := x1) (a := isV T1 x1 T2 + isV (T1 + T2) (x1 + isV T1 x1 T2) T3) (c := isV T1 x1 (T2 + T3)) (by omega)
                    clear BB
                    omega
                · skip
                  refine rg_call 2 (some 78) 17 #[.agg #[.slice Az16 Nz16 Cz16], .agg #[.slice Az12 Nz12 Cz12]] (by kernel_rfl) (by kernel_rfl) (cmpD Oz16.a Oz12.a (by omega) (by omega) 1 (sgn_gt (lt_of c17 (fun e => c25 e.symm)))) ?_
                  rintro e1 v26w ⟨rfl, B⟩
                  refine ⟨_, rfl, joinB hS B, ?_⟩
                  replace hS := joinB hS B
                  replace N1 := N1.keep B
                  replace X5 := X5.keep B
                  replace L3 := L3.keep B
                  replace Oz7 := Oz7.keep B
                  replace X9 := X9.keep B
                  replace Oz9 := Oz9.keep B
                  replace Oz10 := Oz10.keep B
                  replace X11 := X11.keep B
                  replace Oz12 := Oz12.keep B
                  replace X13 := X13.keep B
                  replace Oz16 := Oz16.keep B
                  replace X15 := X15.keep B
                  replace BB := joinB BB B
                  clear B
                  refine rg_take 3 (some 79) (.bool false) (by kernel_rfl) (fun _ _ => by kernel_rfl) (fun _ _ _ h => h) hS ?_
                  refine rg_take 4 (some 80) (.bool false) (by kernel_rfl) (fun _ _ => by kernel_rfl) (fun _ _ _ h => h) hS ?_
                  refine rg_skip 5 (some 81) (by kernel_rfl) (fun _ _ _ h => h) hS ?_
                  refine rg_skip 6 (some 82) (by kernel_rfl) (fun _ _ _ h => h) hS ?_
                  refine rg_skip 7 (some 83) (by kernel_rfl) (fun _ _ _ h => h) hS ?_
                  refine rg_skip 8 (some 84) (by kernel_rfl) (fun _ _ _ h => h) hS ?_
                  refine rg_skip 9 (some 85) (by kernel_rfl) (fun _ _ _ h => h) hS ?_
                  refine rg_skip 10 (some 86) (by kernel_rfl) (fun _ _ _ h => h) hS ?_
                  refine rg_skip 11 (some 87) (by kernel_rfl) (fun _ _ _ h => h) hS ?_
                  refine rg_skip 12 (some 88) (by kernel_rfl) (fun _ _ _ h => h) hS ?_
                  refine rg_skip 13 (some 89) (by kernel_rfl) (fun _ _ _ h => h) hS ?_
                  refine rg_skip 14 (some 90) (by kernel_rfl) (fun _ _ _ h => h) hS ?_
                  refine rg_skip 15 (some 91) (by kernel_rfl) (fun _ _ _ h => h) hS ?_
                  refine rg_skip 16 (some 92) (by kernel_rfl) (fun _ _ _ h => h) hS ?_
                  refine rg_skip 17 (some 93) (by kernel_rfl) (fun _ _ _ h => h) hS ?_
                  refine rg_skip 18 (some 94) (by kernel_rfl) (fun _ _ _ h => h) hS ?_
                  refine rg_skip 19 (some 95) (by kernel_rfl) (fun _ _ _ h => h) hS ?_
                  refine rg_skip 20 (some 96) (by kernel_rfl) (fun _ _ _ h => h) hS ?_
                  refine rg_skip 21 (some 97) (by kernel_rfl) (fun _ _ _ h => h) hS ?_
                  refine rg_take 22 (some 98) (.bool false) (by kernel_rfl) (fun _ _ => by kernel_rfl) (fun _ _ _ h => h) hS ?_
                  refine rg_take 23 (some 8) (.bool false) (by kernel_rfl) (fun _ _ => by kernel_rfl) (fun _ _ _ h => h) hS ?_
                  refine rg_done (by kernel_rfl) ?_
                  clear hS UX5 UL3 UX9 UX11 UX13 UX15
                  refine wp_then ?_
                  refine wp_frame (a' := ⟨#[(.int .u64 T1), (.agg #[.slice a1 len1 cap1]), (.int .u64 T2), (.int .u64 T3), ud, (.pointer (some ⟨g1v, 0, none⟩)), ud, ud, (.bool false), (.pointer (some ⟨g8v, 0, none⟩)), (.int .i64 (isE T1 x1 T2)), (.pointer (some ⟨g11v, 0, none⟩)), (.int .i64 (isE (T1 + T2) (x1 + (isV T1 x1 T2)) T3)), (.pointer (some ⟨g13v, 0, none⟩)), (.int .i64 (isE T1 x1 (T2 + T3))), (.pointer (some ⟨g15v, 0, none⟩)), (.bool true), (.bool false), (.int .u64 y0), (.int .u64 T1), (.int .u64 y2), (.int .u64 T2), (.int .u64 y3), (.int .u64 T3), (.agg #[.slice a1 len1 cap1]), (.slice (some ⟨g3v, 0, none⟩) 1 1), (.bool true), (.bool false), (.bool false), (.agg #[.slice a1 len1 cap1]), (.bool false), (.bool false), (.bool false), (.int .u64 T1), (.bool false), (.bool false), (.tuple #[.agg #[.slice Az7 Nz7 Cz7], .int .i64 (isE T1 x1 T2)]), (.int .u64 T1), (.agg #[.slice a1 len1 cap1]), (.int .u64 T2), (.tuple #[.agg #[.slice Az7 Nz7 Cz7], .int .i64 (isE T1 x1 T2)]), (.agg #[.slice Az7 Nz7 Cz7]), (.int .i64 (isE T1 x1 T2)), (.tuple #[.agg #[.slice Az10 Nz10 Cz10], .int .i64 (isE (T1 + T2) (x1 + (isV T1 x1 T2)) T3)]), (.int .u64 T1), (.int .u64 T2), (.int .u64 (T1 + T2)), (.agg #[.slice a1 len1 cap1]), (.agg #[.slice Az7 Nz7 Cz7]), (.agg #[.slice Az9 Nz9 Cz9]), (.int .u64 T3), (.tuple #[.agg #[.slice Az10 Nz10 Cz10], .int .i64 (isE (T1 + T2) (x1 + (isV T1 x1 T2)) T3)]), (.agg #[.slice Az10 Nz10 Cz10]), (.int .i64 (isE (T1 + T2) (x1 + (isV T1 x1 T2)) T3)), (.tuple #[.agg #[.slice Az12 Nz12 Cz12], .int .i64 (isE T1 x1 (T2 + T3))]), (.int .u64 T1), (.agg #[.slice a1 len1 cap1]), (.int .u64 T2), (.int .u64 T3), (.int .u64 (T2 + T3)), (.tuple #[.agg #[.slice Az12 Nz12 Cz12], .int .i64 (isE T1 x1 (T2 + T3))]), (.agg #[.slice Az12 Nz12 Cz12]), (.int .i64 (isE T1 x1 (T2 + T3))), (.int .i64 (isE T1 x1 T2)), (.bool false), (.bool false), (.int .i64 (isE (T1 + T2) (x1 + (isV T1 x1 T2)) T3)), (.bool false), (.bool false), (.bool false), (.int .i64 (isE T1 x1 (T2 + T3))), (.bool false), (.bool false), (.agg #[.slice Az7 Nz7 Cz7]), (.agg #[.slice Az10 Nz10 Cz10]), (.agg #[.slice Az16 Nz16 Cz16]), (.agg #[.slice Az16 Nz16 Cz16]), (.agg #[.slice Az12 Nz12 Cz12]), (.int .i64 1), (.bool false), (.bool false), ud, ud, ud, ud, ud, ud, ud, ud, ud, ud, ud, ud, ud, ud, ud, ud, ud, (.bool false)], []⟩) (by kernel_rfl) ?_
                  exfalso
                  have kk := two_steps (T := T1) (S := x1) (t := T2) (u := T3) (by omega) hx1 c5 (w64 rt2).1 (w64 rt3).1
                  have k2 := rate_two (V := T1 + T2 + T3) (S := x1) (a := isV T1 x1 T2 + isV (T1 + T2) (x1 + isV T1 x1 T2) T3) (c := isV T1 x1 (T2 + T3)) (by omega)
                  clear BB
                  omega
            · skip
              refine wg_eq (some 71) (.bool ((isE T1 x1 (T2 + T3) : Int) != 0)) (.bool true) (congrArg Value.bool (bne_iff_ne.2 c15)) (by kernel_rfl) rfl (by kernel_rfl) ?_
              refine wl_take (some 72) (.bool true) rfl rfl (by kernel_rfl) ?_
              refine wl_nil ?_
              refine wp_then ?_
              refine wp_frame (a' := ⟨#[(.int .u64 T1), (.agg #[.slice a1 len1 cap1]), (.int .u64 T2), (.int .u64 T3), ud, (.pointer (some ⟨g1v, 0, none⟩)), ud, ud, (.bool false), (.pointer (some ⟨g8v, 0, none⟩)), (.int .i64 (isE T1 x1 T2)), (.pointer (some ⟨g11v, 0, none⟩)), (.int .i64 (isE (T1 + T2) (x1 + (isV T1 x1 T2)) T3)), (.pointer (some ⟨g13v, 0, none⟩)), (.int .i64 (isE T1 x1 (T2 + T3))), ud, (.bool true), (.bool false), (.int .u64 y0), (.int .u64 T1), (.int .u64 y2), (.int .u64 T2), (.int .u64 y3), (.int .u64 T3), (.agg #[.slice a1 len1 cap1]), (.slice (some ⟨g3v, 0, none⟩) 1 1), (.bool true), (.bool false), (.bool false), (.agg #[.slice a1 len1 cap1]), (.bool false), (.bool false), (.bool false), (.int .u64 T1), (.bool false), (.bool false), (.tuple #[.agg #[.slice Az7 Nz7 Cz7], .int .i64 (isE T1 x1 T2)]), (.int .u64 T1), (.agg #[.slice a1 len1 cap1]), (.int .u64 T2), (.tuple #[.agg #[.slice Az7 Nz7 Cz7], .int .i64 (isE T1 x1 T2)]), (.agg #[.slice Az7 Nz7 Cz7]), (.int .i64 (isE T1 x1 T2)), (.tuple #[.agg #[.slice Az10 Nz10 Cz10], .int .i64 (isE (T1 + T2) (x1 + (isV T1 x1 T2)) T3)]), (.int .u64 T1), (.int .u64 T2), (.int .u64 (T1 + T2)), (.agg #[.slice a1 len1 cap1]), (.agg #[.slice Az7 Nz7 Cz7]), (.agg #[.slice Az9 Nz9 Cz9]), (.int .u64 T3), (.tuple #[.agg #[.slice Az10 Nz10 Cz10], .int .i64 (isE (T1 + T2) (x1 + (isV T1 x1 T2)) T3)]), (.agg #[.slice Az10 Nz10 Cz10]), (.int .i64 (isE (T1 + T2) (x1 + (isV T1 x1 T2)) T3)), (.tuple #[.agg #[.slice Az12 Nz12 Cz12], .int .i64 (isE T1 x1 (T2 + T3))]), (.int .u64 T1), (.agg #[.slice a1 len1 cap1]), (.int .u64 T2), (.int .u64 T3), (.int .u64 (T2 + T3)), (.tuple #[.agg #[.slice Az12 Nz12 Cz12], .int .i64 (isE T1 x1 (T2 + T3))]), (.agg #[.slice Az12 Nz12 Cz12]), (.int .i64 (isE T1 x1 (T2 + T3))), (.int .i64 (isE T1 x1 T2)), (.bool false), (.bool false), (.int .i64 (isE (T1 + T2) (x1 + (isV T1 x1 T2)) T3)), (.bool false), (.bool false), (.bool false), (.int .i64 (isE T1 x1 (T2 + T3))), (.bool true), (.bool true), ud, ud, ud, ud, ud, ud, ud, ud, ud, ud, ud, ud, ud, ud, ud, ud, ud, ud, ud, ud, ud, ud, ud, ud, ud, ud], []⟩) (by kernel_rfl) ?_
              refine wp_cond_true (by kernel_rfl) ?_
              refine wp_seq ?_
              refine wl_start ?_
              refine wl_take (some 8) (.bool true) rfl rfl (by kernel_rfl) ?_
              refine wl_nil ?_
              refine wp_then ?_
              refine wp_ret ?_
              repeat (first | refine ret_then ?_ | refine ret_block ?_)
              refine bodyPost_ret (results_tmp rfl _ _ _) rfl ?_
              exact ⟨by kernel_rfl, BB⟩
          · skip
            refine wg_eq (some 67) (.bool ((isE (T1 + T2) (x1 + (isV T1 x1 T2)) T3 : Int) != 0)) (.bool true) (congrArg Value.bool (bne_iff_ne.2 c14)) (by kernel_rfl) rfl (by kernel_rfl) ?_
            refine wl_take (some 68) (.bool true) rfl rfl (by kernel_rfl) ?_
            refine wl_take (some 69) (.bool true) rfl rfl (by kernel_rfl) ?_
            refine wg_not (some 70) (by kernel_rfl) rfl ?_
            refine wg_not (some 71) (by kernel_rfl) rfl ?_
            refine wl_take (some 72) (.bool true) rfl rfl (by kernel_rfl) ?_
            refine wl_nil ?_
            refine wp_then ?_
            refine wp_frame (a' := ⟨#[(.int .u64 T1), (.agg #[.slice a1 len1 cap1]), (.int .u64 T2), (.int .u64 T3), ud, (.pointer (some ⟨g1v, 0, none⟩)), ud, ud, (.bool false), (.pointer (some ⟨g8v, 0, none⟩)), (.int .i64 (isE T1 x1 T2)), (.pointer (some ⟨g11v, 0, none⟩)), (.int .i64 (isE (T1 + T2) (x1 + (isV T1 x1 T2)) T3)), (.pointer (some ⟨g13v, 0, none⟩)), (.int .i64 (isE T1 x1 (T2 + T3))), ud, (.bool true), (.bool false), (.int .u64 y0), (.int .u64 T1), (.int .u64 y2), (.int .u64 T2), (.int .u64 y3), (.int .u64 T3), (.agg #[.slice a1 len1 cap1]), (.slice (some ⟨g3v, 0, none⟩) 1 1), (.bool true), (.bool false), (.bool false), (.agg #[.slice a1 len1 cap1]), (.bool false), (.bool false), (.bool false), (.int .u64 T1), (.bool false), (.bool false), (.tuple #[.agg #[.slice Az7 Nz7 Cz7], .int .i64 (isE T1 x1 T2)]), (.int .u64 T1), (.agg #[.slice a1 len1 cap1]), (.int .u64 T2), (.tuple #[.agg #[.slice Az7 Nz7 Cz7], .int .i64 (isE T1 x1 T2)]), (.agg #[.slice Az7 Nz7 Cz7]), (.int .i64 (isE T1 x1 T2)), (.tuple #[.agg #[.slice Az10 Nz10 Cz10], .int .i64 (isE (T1 + T2) (x1 + (isV T1 x1 T2)) T3)]), (.int .u64 T1), (.int .u64 T2), (.int .u64 (T1 + T2)), (.agg #[.slice a1 len1 cap1]), (.agg #[.slice Az7 Nz7 Cz7]), (.agg #[.slice Az9 Nz9 Cz9]), (.int .u64 T3), (.tuple #[.agg #[.slice Az10 Nz10 Cz10], .int .i64 (isE (T1 + T2) (x1 + (isV T1 x1 T2)) T3)]), (.agg #[.slice Az10 Nz10 Cz10]), (.int .i64 (isE (T1 + T2) (x1 + (isV T1 x1 T2)) T3)), (.tuple #[.agg #[.slice Az12 Nz12 Cz12], .int .i64 (isE T1 x1 (T2 + T3))]), (.int .u64 T1), (.agg #[.slice a1 len1 cap1]), (.int .u64 T2), (.int .u64 T3), (.int .u64 (T2 + T3)), (.tuple #[.agg #[.slice Az12 Nz12 Cz12], .int .i64 (isE T1 x1 (T2 + T3))]), (.agg #[.slice Az12 Nz12 Cz12]), (.int .i64 (isE T1 x1 (T2 + T3))), (.int .i64 (isE T1 x1 T2)), (.bool false), (.bool false), (.int .i64 (isE (T1 + T2) (x1 + (isV T1 x1 T2)) T3)), (.bool true), (.bool true), (.bool true), ud, ud, (.bool true), ud, ud, ud, ud, ud, ud, ud, ud, ud, ud, ud, ud, ud, ud, ud, ud, ud, ud, ud, ud, ud, ud, ud, ud, ud, ud], []⟩) (by kernel_rfl) ?_
            refine wp_cond_true (by kernel_rfl) ?_
            refine wp_seq ?_
            refine wl_start ?_
            refine wl_take (some 8) (.bool true) rfl rfl (by kernel_rfl) ?_
            refine wl_nil ?_
            refine wp_then ?_
            refine wp_ret ?_
            repeat (first | refine ret_then ?_ | refine ret_block ?_)
            refine bodyPost_ret (results_tmp rfl _ _ _) rfl ?_
            exact ⟨by kernel_rfl, BB⟩
        · skip
          refine wl_eq (some 64) (.bool ((isE T1 x1 T2 : Int) != 0)) (.bool true) (congrArg Value.bool (bne_iff_ne.2 c13)) rfl rfl (by kernel_rfl) ?_
          refine wl_take (some 65) (.bool true) rfl rfl (by kernel_rfl) ?_
          refine wg_not (some 66) (by kernel_rfl) rfl ?_
          refine wg_not (some 67) (by kernel_rfl) rfl ?_
          refine wl_take (some 68) (.bool true) rfl rfl (by kernel_rfl) ?_
          refine wl_take (some 69) (.bool true) rfl rfl (by kernel_rfl) ?_
          refine wg_not (some 70) (by kernel_rfl) rfl ?_
          refine wg_not (some 71) (by kernel_rfl) rfl ?_
          refine wl_take (some 72) (.bool true) rfl rfl (by kernel_rfl) ?_
          refine wl_nil ?_
          refine wp_then ?_
          refine wp_frame (a' := ⟨#[(.int .u64 T1), (.agg #[.slice a1 len1 cap1]), (.int .u64 T2), (.int .u64 T3), ud, (.pointer (some ⟨g1v, 0, none⟩)), ud, ud, (.bool false), (.pointer (some ⟨g8v, 0, none⟩)), (.int .i64 (isE T1 x1 T2)), (.pointer (some ⟨g11v, 0, none⟩)), (.int .i64 (isE (T1 + T2) (x1 + (isV T1 x1 T2)) T3)), (.pointer (some ⟨g13v, 0, none⟩)), (.int .i64 (isE T1 x1 (T2 + T3))), ud, (.bool true), (.bool false), (.int .u64 y0), (.int .u64 T1), (.int .u64 y2), (.int .u64 T2), (.int .u64 y3), (.int .u64 T3), (.agg #[.slice a1 len1 cap1]), (.slice (some ⟨g3v, 0, none⟩) 1 1), (.bool true), (.bool false), (.bool false), (.agg #[.slice a1 len1 cap1]), (.bool false), (.bool false), (.bool false), (.int .u64 T1), (.bool false), (.bool false), (.tuple #[.agg #[.slice Az7 Nz7 Cz7], .int .i64 (isE T1 x1 T2)]), (.int .u64 T1), (.agg #[.slice a1 len1 cap1]), (.int .u64 T2), (.tuple #[.agg #[.slice Az7 Nz7 Cz7], .int .i64 (isE T1 x1 T2)]), (.agg #[.slice Az7 Nz7 Cz7]), (.int .i64 (isE T1 x1 T2)), (.tuple #[.agg #[.slice Az10 Nz10 Cz10], .int .i64 (isE (T1 + T2) (x1 + (isV T1 x1 T2)) T3)]), (.int .u64 T1), (.int .u64 T2), (.int .u64 (T1 + T2)), (.agg #[.slice a1 len1 cap1]), (.agg #[.slice Az7 Nz7 Cz7]), (.agg #[.slice Az9 Nz9 Cz9]), (.int .u64 T3), (.tuple #[.agg #[.slice Az10 Nz10 Cz10], .int .i64 (isE (T1 + T2) (x1 + (isV T1 x1 T2)) T3)]), (.agg #[.slice Az10 Nz10 Cz10]), (.int .i64 (isE (T1 + T2) (x1 + (isV T1 x1 T2)) T3)), (.tuple #[.agg #[.slice Az12 Nz12 Cz12], .int .i64 (isE T1 x1 (T2 + T3))]), (.int .u64 T1), (.agg #[.slice a1 len1 cap1]), (.int .u64 T2), (.int .u64 T3), (.int .u64 (T2 + T3)), (.tuple #[.agg #[.slice Az12 Nz12 Cz12], .int .i64 (isE T1 x1 (T2 + T3))]), (.agg #[.slice Az12 Nz12 Cz12]), (.int .i64 (isE T1 x1 (T2 + T3))), (.int .i64 (isE T1 x1 T2)), (.bool true), (.bool true), ud, ud, (.bool true), (.bool true), ud, ud, (.bool true), ud, ud, ud, ud, ud, ud, ud, ud, ud, ud, ud, ud, ud, ud, ud, ud, ud, ud, ud, ud, ud, ud, ud, ud, ud, ud], []⟩) (by kernel_rfl) ?_
          refine wp_cond_true (by kernel_rfl) ?_
          refine wp_seq ?_
          refine wl_start ?_
          refine wl_take (some 8) (.bool true) rfl rfl (by kernel_rfl) ?_
          refine wl_nil ?_
          refine wp_then ?_
          refine wp_ret ?_
          repeat (first | refine ret_then ?_ | refine ret_block ?_)
          refine bodyPost_ret (results_tmp rfl _ _ _) rfl ?_
          exact ⟨by kernel_rfl, BB⟩
  · skip
    refine wl_call (some 26) 9 #[.slice (some ⟨g3v, 0, none⟩) 1 1] rfl rfl (by kernel_rfl) (small1 L3 hm1 false (decide_eq_false c4)) ?_
    rintro e1 v27w ⟨rfl, B⟩
    refine ⟨_, rfl, ?_⟩
    replace N1 := N1.keep B
    replace X5 := X5.keep B
    replace L3 := L3.keep B
    replace BB := joinB BB B
    clear B
    refine wl_take (some 27) (.bool true) rfl rfl (by kernel_rfl) ?_
    refine wl_take (some 28) (.bool true) rfl rfl (by kernel_rfl) ?_
    refine wg_not (some 29) (by kernel_rfl) rfl ?_
    refine wg_not (some 30) (by kernel_rfl) rfl ?_
    refine wl_take (some 31) (.bool true) rfl rfl (by kernel_rfl) ?_
    refine wl_take (some 32) (.bool true) rfl rfl (by kernel_rfl) ?_
    refine wg_not (some 33) (by kernel_rfl) rfl ?_
    refine wg_not (some 34) (by kernel_rfl) rfl ?_
    refine wl_take (some 35) (.bool true) rfl rfl (by kernel_rfl) ?_
    refine wl_nil ?_
    refine wp_then ?_
    refine wp_frame (a' := ⟨#[(.int .u64 T1), (.agg #[.slice a1 len1 cap1]), (.int .u64 T2), (.int .u64 T3), ud, (.pointer (some ⟨g1v, 0, none⟩)), ud, ud, (.bool false), ud, ud, ud, ud, ud, ud, ud, (.bool true), (.bool false), (.int .u64 y0), (.int .u64 T1), (.int .u64 y2), (.int .u64 T2), (.int .u64 y3), (.int .u64 T3), (.agg #[.slice a1 len1 cap1]), (.slice (some ⟨g3v, 0, none⟩) 1 1), (.bool false), (.bool true), (.bool true), ud, ud, (.bool true), (.bool true), ud, ud, (.bool true), ud, ud, ud, ud, ud, ud, ud, ud, ud, ud, ud, ud, ud, ud, ud, ud, ud, ud, ud, ud, ud, ud, ud, ud, ud, ud, ud, ud, ud, ud, ud, ud, ud, ud, ud, ud, ud, ud, ud, ud, ud, ud, ud, ud, ud, ud, ud, ud, ud, ud, ud, ud, ud, ud, ud, ud, ud, ud, ud, ud, ud, ud, ud], []⟩) (by kernel_rfl) ?_
    refine wp_cond_true (by kernel_rfl) ?_
    refine wp_seq ?_
    refine wl_start ?_
    refine wl_take (some 8) (.bool true) rfl rfl (by kernel_rfl) ?_
    refine wl_nil ?_
    refine wp_then ?_
    refine wp_ret ?_
    repeat (first | refine ret_then ?_ | refine ret_block ?_)
    refine bodyPost_ret (results_tmp rfl _ _ _) rfl ?_
    exact ⟨by kernel_rfl, BB⟩
end shareTwo
end Go.Proofs.YtdgdfhefnlaalaaDoor
