/- gleanlaw10.ShareLeave returns true for all numbers. -/
import Derived.Test.YtdgdfhefnlaalaaDoorJcb
namespace Go.Proofs.YtdgdfhefnlaalaaDoor
namespace shareLeave
open Go.RowKit Go.Lib Pg Lim Sh
attribute [local go_sem] Oper.semAt_some
theorem w64 {x : Int} (h : 0 ≤ x ∧ x < 1000000000000000000) : 0 ≤ x ∧ x < 18446744073709551616 := by omega
theorem u64r {v : Int} (b : (Lit.int .u64 v).wf = true) : 0 ≤ v ∧ v < 18446744073709551616 := by
  have := bounds_u64 b
  omega
theorem cut_full (n : Int) : n * min 10000 10000 / 10000 = n := Int.mul_ediv_cancel n (by decide)
theorem cut_none (n : Int) : n * min 0 10000 / 10000 = 0 := by
  rw [show min (0 : Int) 10000 = 0 from rfl, Int.mul_zero]; rfl
theorem bsx41_3 {a : Act} {o : Oper} {k0 k1 k2 : Nat} {a0 a1 a2 : Option Addr} {n0 c0 n1 c1 n2 c2 : Nat} (ho : o.op = .buildSlice 41 3 #[(0, .tmp k0), (1, .tmp k1), (2, .tmp k2)]) (h0 : a.eval (.tmp k0) = .agg #[.slice a0 n0 c0]) (h1 : a.eval (.tmp k1) = .agg #[.slice a1 n1 c1]) (h2 : a.eval (.tmp k2) = .agg #[.slice a2 n2 c2]) (w : World) : (execOp a.eval o).run Tryd.prog w = .ok (.value (.slice (some ⟨w.heap.size, 0, none⟩) 3 3)) (w.alloc (.cells [.slice a0 n0 c0, .slice a1 n1 c1, .slice a2 n2 c2].toArray 26)) := by
  have h0' : a.tmps[k0]?.getD undef = .agg #[.slice a0 n0 c0] := by simpa [Act.eval] using h0
  have h1' : a.tmps[k1]?.getD undef = .agg #[.slice a1 n1 c1] := by simpa [Act.eval] using h1
  have h2' : a.tmps[k2]?.getD undef = .agg #[.slice a2 n2 c2] := by simpa [Act.eval] using h2
  simp only [execOp, ho]
  go_simp
set_option maxHeartbeats 16000000 in
set_option maxRecDepth 100000 in
theorem walk (y0 : Int) (a1 : Option Addr) (len1 cap1 : Nat) (z1 : List Int) (a2 : Option Addr) (len2 cap2 : Nat) (z2 : List Int) (a3 : Option Addr) (len3 cap3 : Nat) (z3 : List Int) (y4 : Int) (y5 : Int) (y6 : Int) (w : World) (wy0 : (Lit.int .u64 y0).wf = true) (w1 : IsRow w a1 len1 cap1 z1) (w2 : IsRow w a2 len2 cap2 z2) (w3 : IsRow w a3 len3 cap3 z3) (wy4 : (Lit.int .u64 y4).wf = true) (wy5 : (Lit.int .u64 y5).wf = true) (wy6 : (Lit.int .u64 y6).wf = true) :
    Calls Tryd.prog 7 #[.int .u64 y0, .agg #[.slice a1 len1 cap1], .agg #[.slice a2 len2 cap2], .agg #[.slice a3 len3 cap3], .int .u64 y4, .int .u64 y5, .int .u64 y6] w fun e w' => e = .returned (.bool true) ∧ Below w.heap.size w w' := by
  obtain ⟨g1, o1, l1, hl1, hc1, hm1, W1, h1⟩ := w1.open
  have N1 : NatA w a1 len1 cap1 (val l1) := ⟨g1, o1, l1, hl1, hc1, W1, h1, rfl⟩
  clear h1 w1 W1 hl1
  generalize val l1 = x1 at *
  have hx1 := N1.nonneg
  obtain ⟨g2, o2, l2, hl2, hc2, hm2, W2, h2⟩ := w2.open
  have N2 : NatA w a2 len2 cap2 (val l2) := ⟨g2, o2, l2, hl2, hc2, W2, h2, rfl⟩
  clear h2 w2 W2 hl2
  generalize val l2 = x2 at *
  have hx2 := N2.nonneg
  obtain ⟨g3, o3, l3, hl3, hc3, hm3, W3, h3⟩ := w3.open
  have N3 : NatA w a3 len3 cap3 (val l3) := ⟨g3, o3, l3, hl3, hc3, W3, h3, rfl⟩
  clear h3 w3 W3 hl3
  generalize val l3 = x3 at *
  have hx3 := N3.nonneg
  have by0 := u64r wy0
  clear wy0
  have by4 := u64r wy4
  clear wy4
  have by5 := u64r wy5
  clear wy5
  have by6 := u64r wy6
  clear wy6
  have BB := Below.refl w.heap.size w
  go_enter Tryd.func7, Tryd.ntmps7
  refine wp_seq ?_
  refine wl_start ?_
  have bs0 := BB.size
  refine wl_box 8 1 26 [.slice a1 len1 cap1] rfl rfl rfl (by kernel_rfl) boxx26 ?_
  intro v1w g1v X8 hg1v B
  replace N1 := N1.keep B
  replace N2 := N2.keep B
  replace N3 := N3.keep B
  replace BB := joinB BB B
  clear B
  have bs1 := BB.size
  refine wl_box 9 2 26 [.slice a2 len2 cap2] rfl rfl rfl (by kernel_rfl) boxx26 ?_
  intro v2w g2v X9 hg2v B
  replace N1 := N1.keep B
  replace N2 := N2.keep B
  replace N3 := N3.keep B
  replace X8 := X8.keep B
  replace BB := joinB BB B
  clear B
  have bs2 := BB.size
  refine wl_box 10 3 26 [.slice a3 len3 cap3] rfl rfl rfl (by kernel_rfl) boxx26 ?_
  intro v3w g3v X10 hg3v B
  replace N1 := N1.keep B
  replace N2 := N2.keep B
  replace N3 := N3.keep B
  replace X8 := X8.keep B
  replace X9 := X9.keep B
  replace BB := joinB BB B
  clear B
  refine wl_take (some 14) (.bool false) rfl rfl (by kernel_rfl) ?_
  refine wl_nil ?_
  refine wp_then ?_
  refine wp_seq ?_
  refine wp_seq ?_
  refine wl_start ?_
  refine wl_call (some 23) 8 #[] rfl rfl (by kernel_rfl) (knownS) ?_
  rintro e1 v4w ⟨rfl, B⟩
  refine ⟨_, rfl, ?_⟩
  replace N1 := N1.keep B
  replace N2 := N2.keep B
  replace N3 := N3.keep B
  replace X8 := X8.keep B
  replace X9 := X9.keep B
  replace X10 := X10.keep B
  replace BB := joinB BB B
  clear B
  refine wl_take (some 24) (.bool false) rfl rfl (by kernel_rfl) ?_
  refine wl_nil ?_
  refine wp_then ?_
  refine wp_cond_false (by kernel_rfl) ?_
  refine wp_skip_then ?_
  refine wp_seq ?_
  refine wl_start ?_
  refine wl_take (some 25) (.int .u64 y0) rfl rfl (by kernel_rfl) ?_
  obtain ⟨T1, eT1⟩ : ∃ T, y0 % 1000000000000000000 = T := ⟨_, rfl⟩
  have rt1 : 0 ≤ T1 ∧ T1 < 1000000000000000000 := by omega
  refine wl_take (some 26) (.int .u64 T1) rfl rfl (eT1 ▸ run_rem (x := 25) (p := y0) (by kernel_rfl) (by kernel_rfl) by0) ?_
  refine wl_take (some 0) (.int .u64 T1) rfl rfl (by kernel_rfl) ?_
  refine wl_nil ?_
  refine wp_then ?_
  refine wp_seq ?_
  refine wp_seq ?_
  refine wl_start ?_
  refine wl_take (some 27) (.agg #[.slice a1 len1 cap1]) rfl rfl (run_lp 8 (by kernel_rfl) (by kernel_rfl) (ldx26 (X8.cell (i := 0) rfl))) ?_
  refine wl_take (some 28) (.agg #[.slice a2 len2 cap2]) rfl rfl (run_lp 9 (by kernel_rfl) (by kernel_rfl) (ldx26 (X9.cell (i := 0) rfl))) ?_
  refine wl_take (some 29) (.agg #[.slice a3 len3 cap3]) rfl rfl (run_lp 10 (by kernel_rfl) (by kernel_rfl) (ldx26 (X10.cell (i := 0) rfl))) ?_
  refine wl_list 30 [.slice a1 len1 cap1, .slice a2 len2 cap2, .slice a3 len3 cap3] 26 rfl rfl (bsx41_3 (k0 := 27) (k1 := 28) (k2 := 29) (a0 := a1) (n0 := len1) (c0 := cap1) (a1 := a2) (n1 := len2) (c1 := cap2) (a2 := a3) (n2 := len3) (c2 := cap3) (by kernel_rfl) (by kernel_rfl) (by kernel_rfl) (by kernel_rfl)) ?_
  intro v5w g5v L5 hg5v B
  replace N1 := N1.keep B
  replace N2 := N2.keep B
  replace N3 := N3.keep B
  replace X8 := X8.keep B
  replace X9 := X9.keep B
  replace X10 := X10.keep B
  replace BB := joinB BB B
  clear B
  by_cases c2 : len1 ≤ 12 ∧ len2 ≤ 12 ∧ len3 ≤ 12
  · skip
    refine wl_call (some 31) 9 #[.slice (some ⟨g5v, 0, none⟩) 3 3] rfl rfl (by kernel_rfl) (small3 L5 hm1 hm2 hm3 true (decide_eq_true c2)) ?_
    rintro e1 v6w ⟨rfl, B⟩
    refine ⟨_, rfl, ?_⟩
    replace N1 := N1.keep B
    replace N2 := N2.keep B
    replace N3 := N3.keep B
    replace X8 := X8.keep B
    replace X9 := X9.keep B
    replace X10 := X10.keep B
    replace L5 := L5.keep B
    replace BB := joinB BB B
    clear B
    refine wl_take (some 32) (.bool false) rfl rfl (by kernel_rfl) ?_
    refine wl_nil ?_
    refine wp_then ?_
    refine wp_frame (a' := ⟨#[(.int .u64 T1), (.agg #[.slice a1 len1 cap1]), (.agg #[.slice a2 len2 cap2]), (.agg #[.slice a3 len3 cap3]), (.int .u64 y4), (.int .u64 y5), (.int .u64 y6), ud, (.pointer (some ⟨g1v, 0, none⟩)), (.pointer (some ⟨g2v, 0, none⟩)), (.pointer (some ⟨g3v, 0, none⟩)), ud, ud, ud, (.bool false), ud, ud, ud, ud, ud, ud, ud, ud, (.bool true), (.bool false), (.int .u64 y0), (.int .u64 T1), (.agg #[.slice a1 len1 cap1]), (.agg #[.slice a2 len2 cap2]), (.agg #[.slice a3 len3 cap3]), (.slice (some ⟨g5v, 0, none⟩) 3 3), (.bool true), (.bool false), ud, ud, ud, ud, ud, ud, ud, ud, ud, ud, ud, ud, ud, ud, ud, ud, ud, ud, ud, ud, ud, ud, ud, ud, ud, ud, ud, ud, ud, ud, ud, ud, ud, ud, ud, ud, ud, ud, ud, ud, ud, ud, ud, ud, ud, ud, ud, ud, ud, ud, ud, ud, ud, ud, ud, ud, ud, ud, ud, ud, ud, ud, ud, ud, ud, ud, ud, ud, ud, ud, ud, ud, ud, ud, ud, ud, ud, ud, ud, ud, ud, ud, ud, ud, ud, ud, ud, ud, ud, ud, ud, ud, ud, ud, ud, ud, ud, ud], []⟩) (by kernel_rfl) ?_
    refine wp_cond_false (by kernel_rfl) ?_
    refine wp_skip_then ?_
    refine wp_seq ?_
    refine wl_start ?_
    refine wl_take (some 34) (.int .u64 T1) rfl rfl (by kernel_rfl) ?_
    refine wl_take (some 35) (.agg #[.slice a1 len1 cap1]) rfl rfl (run_lp 8 (by kernel_rfl) (by kernel_rfl) (ldx26 (X8.cell (i := 0) rfl))) ?_
    refine wl_take (some 36) (.agg #[.slice a2 len2 cap2]) rfl rfl (run_lp 9 (by kernel_rfl) (by kernel_rfl) (ldx26 (X9.cell (i := 0) rfl))) ?_
    refine wl_call (some 37) 14 #[.int .u64 T1, .agg #[.slice a1 len1 cap1], .agg #[.slice a2 len2 cap2]] rfl rfl (by kernel_rfl) (sRedeem (w64 rt1) N1 (by omega) N2 (by omega)) ?_
    rintro e1 v7w ⟨rfl, B⟩
    refine ⟨_, rfl, ?_⟩
    replace N1 := N1.keep B
    replace N2 := N2.keep B
    replace N3 := N3.keep B
    replace X8 := X8.keep B
    replace X9 := X9.keep B
    replace X10 := X10.keep B
    replace L5 := L5.keep B
    replace BB := joinB BB B
    clear B
    have rg3 := re_rng (S := x1) (w64 rt1) N2.nonneg
    have kf4 := re_facts (T := T1) (S := x1) (x := x2) (w64 rt1).1 N2.nonneg
    refine wl_take (some 33) (.tuple #[.int .u64 (reV T1 x1 x2), .int .i64 (reE x1 x2)]) rfl rfl (by kernel_rfl) ?_
    refine wl_take (some 38) (.int .u64 (reV T1 x1 x2)) rfl rfl (by kernel_rfl) ?_
    refine wl_take (some 39) (.int .i64 (reE x1 x2)) rfl rfl (by kernel_rfl) ?_
    refine wl_take (some 15) (.int .u64 (reV T1 x1 x2)) rfl rfl (by kernel_rfl) ?_
    refine wl_take (some 16) (.int .i64 (reE x1 x2)) rfl rfl (by kernel_rfl) ?_
    refine wl_nil ?_
    refine wp_then ?_
    refine wp_seq ?_
    refine wl_start ?_
    refine wl_take (some 41) (.agg #[.slice a1 len1 cap1]) rfl rfl (run_lp 8 (by kernel_rfl) (by kernel_rfl) (ldx26 (X8.cell (i := 0) rfl))) ?_
    refine wl_take (some 42) (.agg #[.slice a2 len2 cap2]) rfl rfl (run_lp 9 (by kernel_rfl) (by kernel_rfl) (ldx26 (X9.cell (i := 0) rfl))) ?_
    by_cases c5 : x2 ≤ x1
    · skip
      refine wl_call (some 43) 15 #[.agg #[.slice a1 len1 cap1], .agg #[.slice a2 len2 cap2]] rfl rfl (by kernel_rfl) (dSub N1 N2 (by omega) (by omega) c5) ?_
      rintro e1 v8w ⟨Az6, Nz6, Cz6, rfl, Oz6, Kz6, B⟩
      refine ⟨_, rfl, ?_⟩
      replace N1 := N1.keep B
      replace N2 := N2.keep B
      replace N3 := N3.keep B
      replace X8 := X8.keep B
      replace X9 := X9.keep B
      replace X10 := X10.keep B
      replace L5 := L5.keep B
      replace BB := joinB BB B
      clear B
      refine wl_take (some 40) (.tuple #[.agg #[.slice Az6 Nz6 Cz6], .int .i64 0]) rfl rfl (by kernel_rfl) ?_
      refine wl_take (some 44) (.agg #[.slice Az6 Nz6 Cz6]) rfl rfl (by kernel_rfl) ?_
      refine wl_take (some 45) (.int .i64 0) rfl rfl (by kernel_rfl) ?_
      have bs8 := BB.size
      refine wl_new 17 44 26 [.slice none 0 0] [.slice Az6 Nz6 Cz6] rfl rfl rfl rfl rfl rfl allocx26 (fun _ => by kernel_rfl) (fun _ => by kernel_rfl) (by kernel_rfl) rfl (by kernel_rfl) ?_
      intro v9w g9v X17 hg9v B
      replace N1 := N1.keep B
      replace N2 := N2.keep B
      replace N3 := N3.keep B
      replace X8 := X8.keep B
      replace X9 := X9.keep B
      replace X10 := X10.keep B
      replace L5 := L5.keep B
      replace Oz6 := Oz6.keep B
      replace BB := joinB BB B
      clear B
      refine wl_take (some 18) (.int .i64 0) rfl rfl (by kernel_rfl) ?_
      refine wl_nil ?_
      refine wp_then ?_
      refine wp_frame (a' := ⟨#[(.int .u64 T1), (.agg #[.slice a1 len1 cap1]), (.agg #[.slice a2 len2 cap2]), (.agg #[.slice a3 len3 cap3]), (.int .u64 y4), (.int .u64 y5), (.int .u64 y6), ud, (.pointer (some ⟨g1v, 0, none⟩)), (.pointer (some ⟨g2v, 0, none⟩)), (.pointer (some ⟨g3v, 0, none⟩)), ud, ud, ud, (.bool false), (.int .u64 (reV T1 x1 x2)), (.int .i64 (reE x1 x2)), (.pointer (some ⟨g9v, 0, none⟩)), (.int .i64 0), ud, ud, ud, ud, (.bool true), (.bool false), (.int .u64 y0), (.int .u64 T1), (.agg #[.slice a1 len1 cap1]), (.agg #[.slice a2 len2 cap2]), (.agg #[.slice a3 len3 cap3]), (.slice (some ⟨g5v, 0, none⟩) 3 3), (.bool true), (.bool false), (.tuple #[.int .u64 (reV T1 x1 x2), .int .i64 (reE x1 x2)]), (.int .u64 T1), (.agg #[.slice a1 len1 cap1]), (.agg #[.slice a2 len2 cap2]), (.tuple #[.int .u64 (reV T1 x1 x2), .int .i64 (reE x1 x2)]), (.int .u64 (reV T1 x1 x2)), (.int .i64 (reE x1 x2)), (.tuple #[.agg #[.slice Az6 Nz6 Cz6], .int .i64 0]), (.agg #[.slice a1 len1 cap1]), (.agg #[.slice a2 len2 cap2]), (.tuple #[.agg #[.slice Az6 Nz6 Cz6], .int .i64 0]), (.agg #[.slice Az6 Nz6 Cz6]), (.int .i64 0), ud, ud, ud, ud, ud, ud, ud, ud, ud, ud, ud, ud, ud, ud, ud, ud, ud, ud, ud, ud, ud, ud, ud, ud, ud, ud, ud, ud, ud, ud, ud, ud, ud, ud, ud, ud, ud, ud, ud, ud, ud, ud, ud, ud, ud, ud, ud, ud, ud, ud, ud, ud, ud, ud, ud, ud, ud, ud, ud, ud, ud, ud, ud, ud, ud, ud, ud, ud, ud, ud, ud, ud, ud, ud, ud, ud, ud, ud, ud, ud, ud, ud, ud, ud, ud], []⟩) (by kernel_rfl) ?_
      refine wp_cutw [14, 19, 20, 21, 22, 46, 47, 48, 49, 50, 51, 52, 53, 54, 55, 56, 57, 58, 59, 60, 61, 62, 63, 64, 65, 66, 67, 68, 69, 70, 71, 72, 73, 74, 75, 76, 77, 78, 79, 80, 81, 82, 83, 84, 85, 86, 87, 88, 89, 90, 91, 92, 93, 94, 95, 96, 97, 98, 99, 100] (fun w' => Below w.heap.size w w') ?_ ?_
      · skip
        refine wp_seq ?_
        refine wl_start ?_
        refine wl_take (some 46) (.int .i64 (reE x1 x2)) rfl rfl (by kernel_rfl) ?_
        by_cases c7 : reE x1 x2 = 0
        · skip
          refine wl_eq (some 47) (.bool ((reE x1 x2 : Int) == 0)) (.bool true) (congrArg Value.bool (beq_iff_eq.2 c7)) rfl rfl (by kernel_rfl) ?_
          refine wl_take (some 48) (.bool true) rfl rfl (by kernel_rfl) ?_
          refine wg_take (some 49) (.int .i64 0) (by kernel_rfl) rfl (by kernel_rfl) ?_
          refine wg_take (some 50) (.bool true) (by kernel_rfl) rfl (by kernel_rfl) ?_
          refine wl_take (some 51) (.bool true) rfl rfl (by kernel_rfl) ?_
          refine wl_take (some 52) (.bool true) rfl rfl (by kernel_rfl) ?_
          refine wg_take (some 53) (.agg #[.slice Az6 Nz6 Cz6]) (by kernel_rfl) rfl (run_lp 17 (by kernel_rfl) (by kernel_rfl) (ldx26 (X17.cell (i := 0) rfl))) ?_
          by_cases c8 : (x1 - x2) = 0
          · skip
            refine wg_call (some 54) 10 #[.agg #[.slice Az6 Nz6 Cz6]] (by kernel_rfl) rfl (by kernel_rfl) (zeroD Oz6.a (by omega) true (decide_eq_true c8)) ?_
            rintro e1 v10w ⟨rfl, B⟩
            refine ⟨_, rfl, ?_⟩
            replace N1 := N1.keep B
            replace N2 := N2.keep B
            replace N3 := N3.keep B
            replace X8 := X8.keep B
            replace X9 := X9.keep B
            replace X10 := X10.keep B
            replace L5 := L5.keep B
            replace Oz6 := Oz6.keep B
            replace X17 := X17.keep B
            replace BB := joinB BB B
            clear B
            refine wg_take (some 55) (.bool false) (by kernel_rfl) rfl (by kernel_rfl) ?_
            refine wl_take (some 56) (.bool false) rfl rfl (by kernel_rfl) ?_
            refine wl_nil ?_
            refine wp_then ?_
            refine wp_cond_false (by kernel_rfl) ?_
            refine wp_skip_then ?_
            exact cutw_end (by kernel_rfl) BB
          · skip
            refine wg_call (some 54) 10 #[.agg #[.slice Az6 Nz6 Cz6]] (by kernel_rfl) rfl (by kernel_rfl) (zeroD Oz6.a (by omega) false (decide_eq_false c8)) ?_
            rintro e1 v11w ⟨rfl, B⟩
            refine ⟨_, rfl, ?_⟩
            replace N1 := N1.keep B
            replace N2 := N2.keep B
            replace N3 := N3.keep B
            replace X8 := X8.keep B
            replace X9 := X9.keep B
            replace X10 := X10.keep B
            replace L5 := L5.keep B
            replace Oz6 := Oz6.keep B
            replace X17 := X17.keep B
            replace BB := joinB BB B
            clear B
            refine wg_take (some 55) (.bool true) (by kernel_rfl) rfl (by kernel_rfl) ?_
            refine wl_take (some 56) (.bool true) rfl rfl (by kernel_rfl) ?_
            refine wl_nil ?_
            refine wp_then ?_
            refine wp_cond_true (by kernel_rfl) ?_
            refine wp_seq ?_
            refine wl_start ?_
            refine wl_take (some 58) (.int .u64 T1) rfl rfl (by kernel_rfl) ?_
            refine wl_take (some 59) (.int .u64 (reV T1 x1 x2)) rfl rfl (by kernel_rfl) ?_
            have rg9 : 0 ≤ T1 - (reV T1 x1 x2) ∧ T1 - (reV T1 x1 x2) < 18446744073709551616 := by omega
            refine wl_take (some 60) (.int .u64 (T1 - (reV T1 x1 x2))) rfl rfl (run_subu (x := 58) (y := 59) (p := T1) (q := reV T1 x1 x2) (by kernel_rfl) (by kernel_rfl) (by kernel_rfl) rg9) ?_
            refine wl_take (some 61) (.agg #[.slice Az6 Nz6 Cz6]) rfl rfl (run_lp 17 (by kernel_rfl) (by kernel_rfl) (ldx26 (X17.cell (i := 0) rfl))) ?_
            refine wl_take (some 62) (.agg #[.slice a3 len3 cap3]) rfl rfl (run_lp 10 (by kernel_rfl) (by kernel_rfl) (ldx26 (X10.cell (i := 0) rfl))) ?_
            refine wl_call (some 63) 14 #[.int .u64 (T1 - (reV T1 x1 x2)), .agg #[.slice Az6 Nz6 Cz6], .agg #[.slice a3 len3 cap3]] rfl rfl (by kernel_rfl) (sRedeem rg9 Oz6.a (by omega) N3 (by omega)) ?_
            rintro e1 v12w ⟨rfl, B⟩
            refine ⟨_, rfl, ?_⟩
            replace N1 := N1.keep B
            replace N2 := N2.keep B
            replace N3 := N3.keep B
            replace X8 := X8.keep B
            replace X9 := X9.keep B
            replace X10 := X10.keep B
            replace L5 := L5.keep B
            replace Oz6 := Oz6.keep B
            replace X17 := X17.keep B
            replace BB := joinB BB B
            clear B
            have rg10 := re_rng (S := (x1 - x2)) rg9 N3.nonneg
            have kf11 := re_facts (T := T1 - (reV T1 x1 x2)) (S := (x1 - x2)) (x := x3) rg9.1 N3.nonneg
            refine wl_take (some 57) (.tuple #[.int .u64 (reV (T1 - (reV T1 x1 x2)) (x1 - x2) x3), .int .i64 (reE (x1 - x2) x3)]) rfl rfl (by kernel_rfl) ?_
            refine wl_take (some 64) (.int .u64 (reV (T1 - (reV T1 x1 x2)) (x1 - x2) x3)) rfl rfl (by kernel_rfl) ?_
            refine wl_take (some 65) (.int .i64 (reE (x1 - x2) x3)) rfl rfl (by kernel_rfl) ?_
            refine wl_take (some 19) (.int .u64 (reV (T1 - (reV T1 x1 x2)) (x1 - x2) x3)) rfl rfl (by kernel_rfl) ?_
            refine wl_take (some 20) (.int .i64 (reE (x1 - x2) x3)) rfl rfl (by kernel_rfl) ?_
            refine wl_nil ?_
            refine wp_then ?_
            refine wp_frame (a' := ⟨#[(.int .u64 T1), (.agg #[.slice a1 len1 cap1]), (.agg #[.slice a2 len2 cap2]), (.agg #[.slice a3 len3 cap3]), (.int .u64 y4), (.int .u64 y5), (.int .u64 y6), ud, (.pointer (some ⟨g1v, 0, none⟩)), (.pointer (some ⟨g2v, 0, none⟩)), (.pointer (some ⟨g3v, 0, none⟩)), ud, ud, ud, (.bool false), (.int .u64 (reV T1 x1 x2)), (.int .i64 (reE x1 x2)), (.pointer (some ⟨g9v, 0, none⟩)), (.int .i64 0), (.int .u64 (reV (T1 - (reV T1 x1 x2)) (x1 - x2) x3)), (.int .i64 (reE (x1 - x2) x3)), ud, ud, (.bool true), (.bool false), (.int .u64 y0), (.int .u64 T1), (.agg #[.slice a1 len1 cap1]), (.agg #[.slice a2 len2 cap2]), (.agg #[.slice a3 len3 cap3]), (.slice (some ⟨g5v, 0, none⟩) 3 3), (.bool true), (.bool false), (.tuple #[.int .u64 (reV T1 x1 x2), .int .i64 (reE x1 x2)]), (.int .u64 T1), (.agg #[.slice a1 len1 cap1]), (.agg #[.slice a2 len2 cap2]), (.tuple #[.int .u64 (reV T1 x1 x2), .int .i64 (reE x1 x2)]), (.int .u64 (reV T1 x1 x2)), (.int .i64 (reE x1 x2)), (.tuple #[.agg #[.slice Az6 Nz6 Cz6], .int .i64 0]), (.agg #[.slice a1 len1 cap1]), (.agg #[.slice a2 len2 cap2]), (.tuple #[.agg #[.slice Az6 Nz6 Cz6], .int .i64 0]), (.agg #[.slice Az6 Nz6 Cz6]), (.int .i64 0), (.int .i64 (reE x1 x2)), (.bool true), (.bool true), (.int .i64 0), (.bool true), (.bool true), (.bool true), (.agg #[.slice Az6 Nz6 Cz6]), (.bool false), (.bool true), (.bool true), (.tuple #[.int .u64 (reV (T1 - (reV T1 x1 x2)) (x1 - x2) x3), .int .i64 (reE (x1 - x2) x3)]), (.int .u64 T1), (.int .u64 (reV T1 x1 x2)), (.int .u64 (T1 - (reV T1 x1 x2))), (.agg #[.slice Az6 Nz6 Cz6]), (.agg #[.slice a3 len3 cap3]), (.tuple #[.int .u64 (reV (T1 - (reV T1 x1 x2)) (x1 - x2) x3), .int .i64 (reE (x1 - x2) x3)]), (.int .u64 (reV (T1 - (reV T1 x1 x2)) (x1 - x2) x3)), (.int .i64 (reE (x1 - x2) x3)), ud, ud, ud, ud, ud, ud, ud, ud, ud, ud, ud, ud, ud, ud, ud, ud, ud, ud, ud, ud, ud, ud, ud, ud, ud, ud, ud, ud, ud, ud, ud, ud, ud, ud, ud, ud, ud, ud, ud, ud, ud, ud, ud, ud, ud, ud, ud, ud, ud, ud, ud, ud, ud, ud, ud, ud, ud, ud, ud, ud, ud, ud, ud, ud, ud], []⟩) (by kernel_rfl) ?_
            refine wp_seq ?_
            refine rg_start (S := fun w' => Below v12w.drew.heap.size v12w.drew w') (by kernel_rfl) (Below.refl _ _) ?_
            replace N1 := N1.drew
            replace N2 := N2.drew
            replace N3 := N3.drew
            replace X8 := X8.drew
            replace X9 := X9.drew
            replace X10 := X10.drew
            replace L5 := L5.drew
            replace Oz6 := Oz6.drew
            replace X17 := X17.drew
            replace BB := BB.drew
            have hS := Below.refl v12w.drew.heap.size v12w.drew
            have UX8 := X8
            have UX9 := X9
            have UX10 := X10
            have UL5 := L5
            have UX17 := X17
            refine rg_take 0 (some 67) (.int .u64 T1) (by kernel_rfl) (fun _ _ => by kernel_rfl) (fun _ _ _ h => h) hS ?_
            refine rg_load 1 (some 68) (.agg #[.slice a1 len1 cap1]) 26 8 (g1v) 0 (by kernel_rfl) (by kernel_rfl) (by kernel_rfl) (fun _ hb => ldx26 ((UX8.keep hb).cell (i := 0) rfl)) (fun _ _ _ h => h) hS ?_
            refine rg_load 2 (some 69) (.agg #[.slice a2 len2 cap2]) 26 9 (g2v) 0 (by kernel_rfl) (by kernel_rfl) (by kernel_rfl) (fun _ hb => ldx26 ((UX9.keep hb).cell (i := 0) rfl)) (fun _ _ _ h => h) hS ?_
            refine rg_load 3 (some 70) (.agg #[.slice a3 len3 cap3]) 26 10 (g3v) 0 (by kernel_rfl) (by kernel_rfl) (by kernel_rfl) (fun _ hb => ldx26 ((UX10.keep hb).cell (i := 0) rfl)) (fun _ _ _ h => h) hS ?_
            refine rg_call 4 (some 71) 13 #[.agg #[.slice a2 len2 cap2], .agg #[.slice a3 len3 cap3]] (by kernel_rfl) (by kernel_rfl) (dAdd N2 N3 (by omega) (by omega)) ?_
            rintro e1 v13w ⟨Az12, Nz12, Cz12, rfl, Oz12, Kz12, B⟩
            refine ⟨_, rfl, joinB hS B, ?_⟩
            replace hS := joinB hS B
            replace N1 := N1.keep B
            replace N2 := N2.keep B
            replace N3 := N3.keep B
            replace X8 := X8.keep B
            replace X9 := X9.keep B
            replace X10 := X10.keep B
            replace L5 := L5.keep B
            replace Oz6 := Oz6.keep B
            replace X17 := X17.keep B
            replace BB := joinB BB B
            clear B
            refine rg_call 5 (some 72) 14 #[.int .u64 T1, .agg #[.slice a1 len1 cap1], .agg #[.slice Az12 Nz12 Cz12]] (by kernel_rfl) (by kernel_rfl) (sRedeem (w64 rt1) N1 (by omega) Oz12.a (by omega)) ?_
            rintro e1 v14w ⟨rfl, B⟩
            refine ⟨_, rfl, joinB hS B, ?_⟩
            replace hS := joinB hS B
            replace N1 := N1.keep B
            replace N2 := N2.keep B
            replace N3 := N3.keep B
            replace X8 := X8.keep B
            replace X9 := X9.keep B
            replace X10 := X10.keep B
            replace L5 := L5.keep B
            replace Oz6 := Oz6.keep B
            replace X17 := X17.keep B
            replace Oz12 := Oz12.keep B
            replace BB := joinB BB B
            clear B
            have rg13 := re_rng (S := x1) (w64 rt1) Oz12.a.nonneg
            have kf14 := re_facts (T := T1) (S := x1) (x := (x2 + x3)) (w64 rt1).1 Oz12.a.nonneg
            refine rg_take 6 (some 66) (.tuple #[.int .u64 (reV T1 x1 (x2 + x3)), .int .i64 (reE x1 (x2 + x3))]) (by kernel_rfl) (fun _ _ => by kernel_rfl) (fun _ _ _ h => h) hS ?_
            refine rg_take 7 (some 73) (.int .u64 (reV T1 x1 (x2 + x3))) (by kernel_rfl) (fun _ _ => by kernel_rfl) (fun _ _ _ h => h) hS ?_
            refine rg_take 8 (some 74) (.int .i64 (reE x1 (x2 + x3))) (by kernel_rfl) (fun _ _ => by kernel_rfl) (fun _ _ _ h => h) hS ?_
            refine rg_take 9 (some 21) (.int .u64 (reV T1 x1 (x2 + x3))) (by kernel_rfl) (fun _ _ => by kernel_rfl) (fun _ _ _ h => h) hS ?_
            refine rg_take 10 (some 22) (.int .i64 (reE x1 (x2 + x3))) (by kernel_rfl) (fun _ _ => by kernel_rfl) (fun _ _ _ h => h) hS ?_
            refine rg_done (by kernel_rfl) ?_
            clear hS UX8 UX9 UX10 UL5 UX17
            refine wp_then ?_
            refine wp_seq ?_
            refine wl_start ?_
            refine wl_take (some 75) (.int .i64 (reE (x1 - x2) x3)) rfl rfl (by kernel_rfl) ?_
            by_cases c15 : reE (x1 - x2) x3 = 0
            · skip
              refine wl_eq (some 76) (.bool ((reE (x1 - x2) x3 : Int) == 0)) (.bool true) (congrArg Value.bool (beq_iff_eq.2 c15)) rfl rfl (by kernel_rfl) ?_
              refine wl_take (some 77) (.bool true) rfl rfl (by kernel_rfl) ?_
              refine wg_take (some 78) (.int .i64 (reE x1 (x2 + x3))) (by kernel_rfl) rfl (by kernel_rfl) ?_
              by_cases c16 : reE x1 (x2 + x3) = 0
              · skip
                refine wg_eq (some 79) (.bool ((reE x1 (x2 + x3) : Int) != 0)) (.bool false) (congrArg Value.bool (bne_eq_false_iff_eq.2 c16)) (by kernel_rfl) rfl (by kernel_rfl) ?_
                refine wg_take (some 80) (.bool false) (by kernel_rfl) rfl (by kernel_rfl) ?_
                refine wg_take (some 81) (.int .u64 (reV T1 x1 x2)) (by kernel_rfl) rfl (by kernel_rfl) ?_
                refine wg_take (some 82) (.int .u64 (reV (T1 - (reV T1 x1 x2)) (x1 - x2) x3)) (by kernel_rfl) rfl (by kernel_rfl) ?_
                have rg17 : 0 ≤ reV T1 x1 x2 + (reV (T1 - (reV T1 x1 x2)) (x1 - x2) x3) ∧ reV T1 x1 x2 + (reV (T1 - (reV T1 x1 x2)) (x1 - x2) x3) < 18446744073709551616 := by omega
                refine wg_take (some 83) (.int .u64 (reV T1 x1 x2 + (reV (T1 - (reV T1 x1 x2)) (x1 - x2) x3))) (by kernel_rfl) rfl (run_addu (x := 81) (y := 82) (p := reV T1 x1 x2) (q := reV (T1 - (reV T1 x1 x2)) (x1 - x2) x3) (by kernel_rfl) (by kernel_rfl) (by kernel_rfl) rg17) ?_
                refine wg_take (some 84) (.int .u64 (reV T1 x1 (x2 + x3))) (by kernel_rfl) rfl (by kernel_rfl) ?_
                by_cases c18 : reV T1 x1 (x2 + x3) < reV T1 x1 x2 + (reV (T1 - (reV T1 x1 x2)) (x1 - x2) x3)
                · skip
                  refine wg_eq (some 85) (.bool (decide ((reV T1 x1 (x2 + x3) : Int) < reV T1 x1 x2 + (reV (T1 - (reV T1 x1 x2)) (x1 - x2) x3)))) (.bool true) (congrArg Value.bool (decide_eq_true c18)) (by kernel_rfl) rfl (by kernel_rfl) ?_
                  refine wg_take (some 86) (.bool true) (by kernel_rfl) rfl (by kernel_rfl) ?_
                  refine wg_take (some 87) (.bool true) (by kernel_rfl) rfl (by kernel_rfl) ?_
                  refine wg_not (some 88) (by kernel_rfl) rfl ?_
                  refine wg_not (some 89) (by kernel_rfl) rfl ?_
                  refine wg_not (some 90) (by kernel_rfl) rfl ?_
                  refine wl_frame (a' := ⟨#[(.int .u64 T1), (.agg #[.slice a1 len1 cap1]), (.agg #[.slice a2 len2 cap2]), (.agg #[.slice a3 len3 cap3]), (.int .u64 y4), (.int .u64 y5), (.int .u64 y6), ud, (.pointer (some ⟨g1v, 0, none⟩)), (.pointer (some ⟨g2v, 0, none⟩)), (.pointer (some ⟨g3v, 0, none⟩)), ud, ud, ud, (.bool false), (.int .u64 (reV T1 x1 x2)), (.int .i64 (reE x1 x2)), (.pointer (some ⟨g9v, 0, none⟩)), (.int .i64 0), (.int .u64 (reV (T1 - (reV T1 x1 x2)) (x1 - x2) x3)), (.int .i64 (reE (x1 - x2) x3)), (.int .u64 (reV T1 x1 (x2 + x3))), (.int .i64 (reE x1 (x2 + x3))), (.bool true), (.bool false), (.int .u64 y0), (.int .u64 T1), (.agg #[.slice a1 len1 cap1]), (.agg #[.slice a2 len2 cap2]), (.agg #[.slice a3 len3 cap3]), (.slice (some ⟨g5v, 0, none⟩) 3 3), (.bool true), (.bool false), (.tuple #[.int .u64 (reV T1 x1 x2), .int .i64 (reE x1 x2)]), (.int .u64 T1), (.agg #[.slice a1 len1 cap1]), (.agg #[.slice a2 len2 cap2]), (.tuple #[.int .u64 (reV T1 x1 x2), .int .i64 (reE x1 x2)]), (.int .u64 (reV T1 x1 x2)), (.int .i64 (reE x1 x2)), (.tuple #[.agg #[.slice Az6 Nz6 Cz6], .int .i64 0]), (.agg #[.slice a1 len1 cap1]), (.agg #[.slice a2 len2 cap2]), (.tuple #[.agg #[.slice Az6 Nz6 Cz6], .int .i64 0]), (.agg #[.slice Az6 Nz6 Cz6]), (.int .i64 0), (.int .i64 (reE x1 x2)), (.bool true), (.bool true), (.int .i64 0), (.bool true), (.bool true), (.bool true), (.agg #[.slice Az6 Nz6 Cz6]), (.bool false), (.bool true), (.bool true), (.tuple #[.int .u64 (reV (T1 - (reV T1 x1 x2)) (x1 - x2) x3), .int .i64 (reE (x1 - x2) x3)]), (.int .u64 T1), (.int .u64 (reV T1 x1 x2)), (.int .u64 (T1 - (reV T1 x1 x2))), (.agg #[.slice Az6 Nz6 Cz6]), (.agg #[.slice a3 len3 cap3]), (.tuple #[.int .u64 (reV (T1 - (reV T1 x1 x2)) (x1 - x2) x3), .int .i64 (reE (x1 - x2) x3)]), (.int .u64 (reV (T1 - (reV T1 x1 x2)) (x1 - x2) x3)), (.int .i64 (reE (x1 - x2) x3)), (.tuple #[.int .u64 (reV T1 x1 (x2 + x3)), .int .i64 (reE x1 (x2 + x3))]), (.int .u64 T1), (.agg #[.slice a1 len1 cap1]), (.agg #[.slice a2 len2 cap2]), (.agg #[.slice a3 len3 cap3]), (.agg #[.slice Az12 Nz12 Cz12]), (.tuple #[.int .u64 (reV T1 x1 (x2 + x3)), .int .i64 (reE x1 (x2 + x3))]), (.int .u64 (reV T1 x1 (x2 + x3))), (.int .i64 (reE x1 (x2 + x3))), (.int .i64 (reE (x1 - x2) x3)), (.bool true), (.bool true), (.int .i64 (reE x1 (x2 + x3))), (.bool false), (.bool false), (.int .u64 (reV T1 x1 x2)), (.int .u64 (reV (T1 - (reV T1 x1 x2)) (x1 - x2) x3)), (.int .u64 (reV T1 x1 x2 + (reV (T1 - (reV T1 x1 x2)) (x1 - x2) x3))), (.int .u64 (reV T1 x1 (x2 + x3))), (.bool true), (.bool true), (.bool true), ud, ud, ud, ud, ud, ud, ud, ud, ud, ud, ud, ud, ud, ud, ud, ud, ud, ud, ud, ud, ud, ud, ud, ud, ud, ud, ud, ud, ud, ud, ud, ud, ud, ud, ud, ud, ud, ud, ud, ud, ud, ud, ud], []⟩) (by kernel_rfl) ?_
                  refine wg_not (some 91) (by kernel_rfl) rfl ?_
                  refine wg_not (some 92) (by kernel_rfl) rfl ?_
                  refine wg_not (some 93) (by kernel_rfl) rfl ?_
                  refine wg_not (some 94) (by kernel_rfl) rfl ?_
                  refine wg_not (some 95) (by kernel_rfl) rfl ?_
                  refine wg_not (some 96) (by kernel_rfl) rfl ?_
                  refine wg_not (some 97) (by kernel_rfl) rfl ?_
                  refine wg_not (some 98) (by kernel_rfl) rfl ?_
                  refine wg_take (some 99) (.bool true) (by kernel_rfl) rfl (by kernel_rfl) ?_
                  refine wl_take (some 100) (.bool true) rfl rfl (by kernel_rfl) ?_
                  refine wl_nil ?_
                  refine wp_then ?_
                  refine wp_frame (a' := ⟨#[(.int .u64 T1), (.agg #[.slice a1 len1 cap1]), (.agg #[.slice a2 len2 cap2]), (.agg #[.slice a3 len3 cap3]), (.int .u64 y4), (.int .u64 y5), (.int .u64 y6), ud, (.pointer (some ⟨g1v, 0, none⟩)), (.pointer (some ⟨g2v, 0, none⟩)), (.pointer (some ⟨g3v, 0, none⟩)), ud, ud, ud, (.bool false), (.int .u64 (reV T1 x1 x2)), (.int .i64 (reE x1 x2)), (.pointer (some ⟨g9v, 0, none⟩)), (.int .i64 0), (.int .u64 (reV (T1 - (reV T1 x1 x2)) (x1 - x2) x3)), (.int .i64 (reE (x1 - x2) x3)), (.int .u64 (reV T1 x1 (x2 + x3))), (.int .i64 (reE x1 (x2 + x3))), (.bool true), (.bool false), (.int .u64 y0), (.int .u64 T1), (.agg #[.slice a1 len1 cap1]), (.agg #[.slice a2 len2 cap2]), (.agg #[.slice a3 len3 cap3]), (.slice (some ⟨g5v, 0, none⟩) 3 3), (.bool true), (.bool false), (.tuple #[.int .u64 (reV T1 x1 x2), .int .i64 (reE x1 x2)]), (.int .u64 T1), (.agg #[.slice a1 len1 cap1]), (.agg #[.slice a2 len2 cap2]), (.tuple #[.int .u64 (reV T1 x1 x2), .int .i64 (reE x1 x2)]), (.int .u64 (reV T1 x1 x2)), (.int .i64 (reE x1 x2)), (.tuple #[.agg #[.slice Az6 Nz6 Cz6], .int .i64 0]), (.agg #[.slice a1 len1 cap1]), (.agg #[.slice a2 len2 cap2]), (.tuple #[.agg #[.slice Az6 Nz6 Cz6], .int .i64 0]), (.agg #[.slice Az6 Nz6 Cz6]), (.int .i64 0), (.int .i64 (reE x1 x2)), (.bool true), (.bool true), (.int .i64 0), (.bool true), (.bool true), (.bool true), (.agg #[.slice Az6 Nz6 Cz6]), (.bool false), (.bool true), (.bool true), (.tuple #[.int .u64 (reV (T1 - (reV T1 x1 x2)) (x1 - x2) x3), .int .i64 (reE (x1 - x2) x3)]), (.int .u64 T1), (.int .u64 (reV T1 x1 x2)), (.int .u64 (T1 - (reV T1 x1 x2))), (.agg #[.slice Az6 Nz6 Cz6]), (.agg #[.slice a3 len3 cap3]), (.tuple #[.int .u64 (reV (T1 - (reV T1 x1 x2)) (x1 - x2) x3), .int .i64 (reE (x1 - x2) x3)]), (.int .u64 (reV (T1 - (reV T1 x1 x2)) (x1 - x2) x3)), (.int .i64 (reE (x1 - x2) x3)), (.tuple #[.int .u64 (reV T1 x1 (x2 + x3)), .int .i64 (reE x1 (x2 + x3))]), (.int .u64 T1), (.agg #[.slice a1 len1 cap1]), (.agg #[.slice a2 len2 cap2]), (.agg #[.slice a3 len3 cap3]), (.agg #[.slice Az12 Nz12 Cz12]), (.tuple #[.int .u64 (reV T1 x1 (x2 + x3)), .int .i64 (reE x1 (x2 + x3))]), (.int .u64 (reV T1 x1 (x2 + x3))), (.int .i64 (reE x1 (x2 + x3))), (.int .i64 (reE (x1 - x2) x3)), (.bool true), (.bool true), (.int .i64 (reE x1 (x2 + x3))), (.bool false), (.bool false), (.int .u64 (reV T1 x1 x2)), (.int .u64 (reV (T1 - (reV T1 x1 x2)) (x1 - x2) x3)), (.int .u64 (reV T1 x1 x2 + (reV (T1 - (reV T1 x1 x2)) (x1 - x2) x3))), (.int .u64 (reV T1 x1 (x2 + x3))), (.bool true), (.bool true), (.bool true), ud, ud, ud, ud, ud, ud, ud, ud, ud, ud, ud, (.bool true), (.bool true), ud, ud, ud, ud, ud, ud, ud, ud, ud, ud, ud, ud, ud, ud, ud, ud, ud, ud, ud, ud, ud, ud, ud, ud, ud, ud, ud, ud, ud, ud], []⟩) (by kernel_rfl) ?_
                  refine wp_cond_true (by kernel_rfl) ?_
                  refine wp_seq ?_
                  refine wl_start ?_
                  refine wl_take (some 14) (.bool false) rfl rfl (by kernel_rfl) ?_
                  refine wl_nil ?_
                  refine wp_then ?_
                  exfalso
                  have kk := leave_two (T := T1) (S := x1) (x := x2) (y := x3) hx2 hx3
                  have c1 := fun h => cut_le (n := y4) (p := y5) (q := y6) by4.1 h
                  have c2 := fun h => cut_le (n := y4) (p := y6) (q := y5) by4.1 h
                  have c3 := cut_n (n := y4) (q := y5) by4.1
                  have c4 := cut_n (n := y4) (q := y6) by4.1
                  have c5 := cut_full y4
                  have c6 := cut_none y4
                  clear BB
                  omega
                · skip
                  refine wg_eq (some 85) (.bool (decide ((reV T1 x1 (x2 + x3) : Int) < reV T1 x1 x2 + (reV (T1 - (reV T1 x1 x2)) (x1 - x2) x3)))) (.bool false) (congrArg Value.bool (decide_eq_false c18)) (by kernel_rfl) rfl (by kernel_rfl) ?_
                  refine wg_take (some 86) (.bool false) (by kernel_rfl) rfl (by kernel_rfl) ?_
                  refine wg_take (some 87) (.bool false) (by kernel_rfl) rfl (by kernel_rfl) ?_
                  refine wg_take (some 88) (.agg #[.slice a3 len3 cap3]) (by kernel_rfl) rfl (run_lp 10 (by kernel_rfl) (by kernel_rfl) (ldx26 (X10.cell (i := 0) rfl))) ?_
                  refine wg_take (some 89) (.agg #[.slice Az6 Nz6 Cz6]) (by kernel_rfl) rfl (run_lp 17 (by kernel_rfl) (by kernel_rfl) (ldx26 (X17.cell (i := 0) rfl))) ?_
                  by_cases c19 : x3 < (x1 - x2)
                  · skip
                    refine wg_call (some 90) 17 #[.agg #[.slice a3 len3 cap3], .agg #[.slice Az6 Nz6 Cz6]] (by kernel_rfl) rfl (by kernel_rfl) (cmpD N3 Oz6.a (by omega) (by omega) (-1) (sgn_lt c19)) ?_
                    rintro e1 v15w ⟨rfl, B⟩
                    refine ⟨_, rfl, ?_⟩
                    replace N1 := N1.keep B
                    replace N2 := N2.keep B
                    replace N3 := N3.keep B
                    replace X8 := X8.keep B
                    replace X9 := X9.keep B
                    replace X10 := X10.keep B
                    replace L5 := L5.keep B
                    replace Oz6 := Oz6.keep B
                    replace X17 := X17.keep B
                    replace Oz12 := Oz12.keep B
                    replace BB := joinB BB B
                    clear B
                    refine wl_frame (a' := ⟨#[(.int .u64 T1), (.agg #[.slice a1 len1 cap1]), (.agg #[.slice a2 len2 cap2]), (.agg #[.slice a3 len3 cap3]), (.int .u64 y4), (.int .u64 y5), (.int .u64 y6), ud, (.pointer (some ⟨g1v, 0, none⟩)), (.pointer (some ⟨g2v, 0, none⟩)), (.pointer (some ⟨g3v, 0, none⟩)), ud, ud, ud, (.bool false), (.int .u64 (reV T1 x1 x2)), (.int .i64 (reE x1 x2)), (.pointer (some ⟨g9v, 0, none⟩)), (.int .i64 0), (.int .u64 (reV (T1 - (reV T1 x1 x2)) (x1 - x2) x3)), (.int .i64 (reE (x1 - x2) x3)), (.int .u64 (reV T1 x1 (x2 + x3))), (.int .i64 (reE x1 (x2 + x3))), (.bool true), (.bool false), (.int .u64 y0), (.int .u64 T1), (.agg #[.slice a1 len1 cap1]), (.agg #[.slice a2 len2 cap2]), (.agg #[.slice a3 len3 cap3]), (.slice (some ⟨g5v, 0, none⟩) 3 3), (.bool true), (.bool false), (.tuple #[.int .u64 (reV T1 x1 x2), .int .i64 (reE x1 x2)]), (.int .u64 T1), (.agg #[.slice a1 len1 cap1]), (.agg #[.slice a2 len2 cap2]), (.tuple #[.int .u64 (reV T1 x1 x2), .int .i64 (reE x1 x2)]), (.int .u64 (reV T1 x1 x2)), (.int .i64 (reE x1 x2)), (.tuple #[.agg #[.slice Az6 Nz6 Cz6], .int .i64 0]), (.agg #[.slice a1 len1 cap1]), (.agg #[.slice a2 len2 cap2]), (.tuple #[.agg #[.slice Az6 Nz6 Cz6], .int .i64 0]), (.agg #[.slice Az6 Nz6 Cz6]), (.int .i64 0), (.int .i64 (reE x1 x2)), (.bool true), (.bool true), (.int .i64 0), (.bool true), (.bool true), (.bool true), (.agg #[.slice Az6 Nz6 Cz6]), (.bool false), (.bool true), (.bool true), (.tuple #[.int .u64 (reV (T1 - (reV T1 x1 x2)) (x1 - x2) x3), .int .i64 (reE (x1 - x2) x3)]), (.int .u64 T1), (.int .u64 (reV T1 x1 x2)), (.int .u64 (T1 - (reV T1 x1 x2))), (.agg #[.slice Az6 Nz6 Cz6]), (.agg #[.slice a3 len3 cap3]), (.tuple #[.int .u64 (reV (T1 - (reV T1 x1 x2)) (x1 - x2) x3), .int .i64 (reE (x1 - x2) x3)]), (.int .u64 (reV (T1 - (reV T1 x1 x2)) (x1 - x2) x3)), (.int .i64 (reE (x1 - x2) x3)), (.tuple #[.int .u64 (reV T1 x1 (x2 + x3)), .int .i64 (reE x1 (x2 + x3))]), (.int .u64 T1), (.agg #[.slice a1 len1 cap1]), (.agg #[.slice a2 len2 cap2]), (.agg #[.slice a3 len3 cap3]), (.agg #[.slice Az12 Nz12 Cz12]), (.tuple #[.int .u64 (reV T1 x1 (x2 + x3)), .int .i64 (reE x1 (x2 + x3))]), (.int .u64 (reV T1 x1 (x2 + x3))), (.int .i64 (reE x1 (x2 + x3))), (.int .i64 (reE (x1 - x2) x3)), (.bool true), (.bool true), (.int .i64 (reE x1 (x2 + x3))), (.bool false), (.bool false), (.int .u64 (reV T1 x1 x2)), (.int .u64 (reV (T1 - (reV T1 x1 x2)) (x1 - x2) x3)), (.int .u64 (reV T1 x1 x2 + (reV (T1 - (reV T1 x1 x2)) (x1 - x2) x3))), (.int .u64 (reV T1 x1 (x2 + x3))), (.bool false), (.bool false), (.bool false), (.agg #[.slice a3 len3 cap3]), (.agg #[.slice Az6 Nz6 Cz6]), (.int .i64 (-1)), ud, ud, ud, ud, ud, ud, ud, ud, ud, ud, ud, ud, ud, ud, ud, ud, ud, ud, ud, ud, ud, ud, ud, ud, ud, ud, ud, ud, ud, ud, ud, ud, ud, ud, ud, ud, ud, ud, ud, ud], []⟩) (by kernel_rfl) ?_
                    refine wg_take (some 91) (.bool false) (by kernel_rfl) rfl (by kernel_rfl) ?_
                    refine wg_take (some 92) (.bool false) (by kernel_rfl) rfl (by kernel_rfl) ?_
                    refine wg_not (some 93) (by kernel_rfl) rfl ?_
                    refine wg_not (some 94) (by kernel_rfl) rfl ?_
                    refine wg_not (some 95) (by kernel_rfl) rfl ?_
                    refine wg_not (some 96) (by kernel_rfl) rfl ?_
                    refine wg_not (some 97) (by kernel_rfl) rfl ?_
                    refine wg_take (some 98) (.bool false) (by kernel_rfl) rfl (by kernel_rfl) ?_
                    refine wg_take (some 99) (.bool false) (by kernel_rfl) rfl (by kernel_rfl) ?_
                    refine wl_take (some 100) (.bool false) rfl rfl (by kernel_rfl) ?_
                    refine wl_nil ?_
                    refine wp_then ?_
                    refine wp_frame (a' := ⟨#[(.int .u64 T1), (.agg #[.slice a1 len1 cap1]), (.agg #[.slice a2 len2 cap2]), (.agg #[.slice a3 len3 cap3]), (.int .u64 y4), (.int .u64 y5), (.int .u64 y6), ud, (.pointer (some ⟨g1v, 0, none⟩)), (.pointer (some ⟨g2v, 0, none⟩)), (.pointer (some ⟨g3v, 0, none⟩)), ud, ud, ud, (.bool false), (.int .u64 (reV T1 x1 x2)), (.int .i64 (reE x1 x2)), (.pointer (some ⟨g9v, 0, none⟩)), (.int .i64 0), (.int .u64 (reV (T1 - (reV T1 x1 x2)) (x1 - x2) x3)), (.int .i64 (reE (x1 - x2) x3)), (.int .u64 (reV T1 x1 (x2 + x3))), (.int .i64 (reE x1 (x2 + x3))), (.bool true), (.bool false), (.int .u64 y0), (.int .u64 T1), (.agg #[.slice a1 len1 cap1]), (.agg #[.slice a2 len2 cap2]), (.agg #[.slice a3 len3 cap3]), (.slice (some ⟨g5v, 0, none⟩) 3 3), (.bool true), (.bool false), (.tuple #[.int .u64 (reV T1 x1 x2), .int .i64 (reE x1 x2)]), (.int .u64 T1), (.agg #[.slice a1 len1 cap1]), (.agg #[.slice a2 len2 cap2]), (.tuple #[.int .u64 (reV T1 x1 x2), .int .i64 (reE x1 x2)]), (.int .u64 (reV T1 x1 x2)), (.int .i64 (reE x1 x2)), (.tuple #[.agg #[.slice Az6 Nz6 Cz6], .int .i64 0]), (.agg #[.slice a1 len1 cap1]), (.agg #[.slice a2 len2 cap2]), (.tuple #[.agg #[.slice Az6 Nz6 Cz6], .int .i64 0]), (.agg #[.slice Az6 Nz6 Cz6]), (.int .i64 0), (.int .i64 (reE x1 x2)), (.bool true), (.bool true), (.int .i64 0), (.bool true), (.bool true), (.bool true), (.agg #[.slice Az6 Nz6 Cz6]), (.bool false), (.bool true), (.bool true), (.tuple #[.int .u64 (reV (T1 - (reV T1 x1 x2)) (x1 - x2) x3), .int .i64 (reE (x1 - x2) x3)]), (.int .u64 T1), (.int .u64 (reV T1 x1 x2)), (.int .u64 (T1 - (reV T1 x1 x2))), (.agg #[.slice Az6 Nz6 Cz6]), (.agg #[.slice a3 len3 cap3]), (.tuple #[.int .u64 (reV (T1 - (reV T1 x1 x2)) (x1 - x2) x3), .int .i64 (reE (x1 - x2) x3)]), (.int .u64 (reV (T1 - (reV T1 x1 x2)) (x1 - x2) x3)), (.int .i64 (reE (x1 - x2) x3)), (.tuple #[.int .u64 (reV T1 x1 (x2 + x3)), .int .i64 (reE x1 (x2 + x3))]), (.int .u64 T1), (.agg #[.slice a1 len1 cap1]), (.agg #[.slice a2 len2 cap2]), (.agg #[.slice a3 len3 cap3]), (.agg #[.slice Az12 Nz12 Cz12]), (.tuple #[.int .u64 (reV T1 x1 (x2 + x3)), .int .i64 (reE x1 (x2 + x3))]), (.int .u64 (reV T1 x1 (x2 + x3))), (.int .i64 (reE x1 (x2 + x3))), (.int .i64 (reE (x1 - x2) x3)), (.bool true), (.bool true), (.int .i64 (reE x1 (x2 + x3))), (.bool false), (.bool false), (.int .u64 (reV T1 x1 x2)), (.int .u64 (reV (T1 - (reV T1 x1 x2)) (x1 - x2) x3)), (.int .u64 (reV T1 x1 x2 + (reV (T1 - (reV T1 x1 x2)) (x1 - x2) x3))), (.int .u64 (reV T1 x1 (x2 + x3))), (.bool false), (.bool false), (.bool false), (.agg #[.slice a3 len3 cap3]), (.agg #[.slice Az6 Nz6 Cz6]), (.int .i64 (-1)), (.bool false), (.bool false), ud, ud, ud, ud, ud, (.bool false), (.bool false), (.bool false), ud, ud, ud, ud, ud, ud, ud, ud, ud, ud, ud, ud, ud, ud, ud, ud, ud, ud, ud, ud, ud, ud, ud, ud, ud, ud, ud, ud, ud, ud], []⟩) (by kernel_rfl) ?_
                    refine wp_cond_false (by kernel_rfl) ?_
                    refine wp_skip_then ?_
                    exact cutw_end (by kernel_rfl) BB
                  · skip
                    by_cases c20 : x3 = (x1 - x2)
                    · skip
                      refine wg_call (some 90) 17 #[.agg #[.slice a3 len3 cap3], .agg #[.slice Az6 Nz6 Cz6]] (by kernel_rfl) rfl (by kernel_rfl) (cmpD N3 Oz6.a (by omega) (by omega) 0 (sgn_eq c20)) ?_
                      rintro e1 v16w ⟨rfl, B⟩
                      refine ⟨_, rfl, ?_⟩
                      replace N1 := N1.keep B
                      replace N2 := N2.keep B
                      replace N3 := N3.keep B
                      replace X8 := X8.keep B
                      replace X9 := X9.keep B
                      replace X10 := X10.keep B
                      replace L5 := L5.keep B
                      replace Oz6 := Oz6.keep B
                      replace X17 := X17.keep B
                      replace Oz12 := Oz12.keep B
                      replace BB := joinB BB B
                      clear B
                      refine wl_frame (a' := ⟨#[(.int .u64 T1), (.agg #[.slice a1 len1 cap1]), (.agg #[.slice a2 len2 cap2]), (.agg #[.slice a3 len3 cap3]), (.int .u64 y4), (.int .u64 y5), (.int .u64 y6), ud, (.pointer (some ⟨g1v, 0, none⟩)), (.pointer (some ⟨g2v, 0, none⟩)), (.pointer (some ⟨g3v, 0, none⟩)), ud, ud, ud, (.bool false), (.int .u64 (reV T1 x1 x2)), (.int .i64 (reE x1 x2)), (.pointer (some ⟨g9v, 0, none⟩)), (.int .i64 0), (.int .u64 (reV (T1 - (reV T1 x1 x2)) (x1 - x2) x3)), (.int .i64 (reE (x1 - x2) x3)), (.int .u64 (reV T1 x1 (x2 + x3))), (.int .i64 (reE x1 (x2 + x3))), (.bool true), (.bool false), (.int .u64 y0), (.int .u64 T1), (.agg #[.slice a1 len1 cap1]), (.agg #[.slice a2 len2 cap2]), (.agg #[.slice a3 len3 cap3]), (.slice (some ⟨g5v, 0, none⟩) 3 3), (.bool true), (.bool false), (.tuple #[.int .u64 (reV T1 x1 x2), .int .i64 (reE x1 x2)]), (.int .u64 T1), (.agg #[.slice a1 len1 cap1]), (.agg #[.slice a2 len2 cap2]), (.tuple #[.int .u64 (reV T1 x1 x2), .int .i64 (reE x1 x2)]), (.int .u64 (reV T1 x1 x2)), (.int .i64 (reE x1 x2)), (.tuple #[.agg #[.slice Az6 Nz6 Cz6], .int .i64 0]), (.agg #[.slice a1 len1 cap1]), (.agg #[.slice a2 len2 cap2]), (.tuple #[.agg #[.slice Az6 Nz6 Cz6], .int .i64 0]), (.agg #[.slice Az6 Nz6 Cz6]), (.int .i64 0), (.int .i64 (reE x1 x2)), (.bool true), (.bool true), (.int .i64 0), (.bool true), (.bool true), (.bool true), (.agg #[.slice Az6 Nz6 Cz6]), (.bool false), (.bool true), (.bool true), (.tuple #[.int .u64 (reV (T1 - (reV T1 x1 x2)) (x1 - x2) x3), .int .i64 (reE (x1 - x2) x3)]), (.int .u64 T1), (.int .u64 (reV T1 x1 x2)), (.int .u64 (T1 - (reV T1 x1 x2))), (.agg #[.slice Az6 Nz6 Cz6]), (.agg #[.slice a3 len3 cap3]), (.tuple #[.int .u64 (reV (T1 - (reV T1 x1 x2)) (x1 - x2) x3), .int .i64 (reE (x1 - x2) x3)]), (.int .u64 (reV (T1 - (reV T1 x1 x2)) (x1 - x2) x3)), (.int .i64 (reE (x1 - x2) x3)), (.tuple #[.int .u64 (reV T1 x1 (x2 + x3)), .int .i64 (reE x1 (x2 + x3))]), (.int .u64 T1), (.agg #[.slice a1 len1 cap1]), (.agg #[.slice a2 len2 cap2]), (.agg #[.slice a3 len3 cap3]), (.agg #[.slice Az12 Nz12 Cz12]), (.tuple #[.int .u64 (reV T1 x1 (x2 + x3)), .int .i64 (reE x1 (x2 + x3))]), (.int .u64 (reV T1 x1 (x2 + x3))), (.int .i64 (reE x1 (x2 + x3))), (.int .i64 (reE (x1 - x2) x3)), (.bool true), (.bool true), (.int .i64 (reE x1 (x2 + x3))), (.bool false), (.bool false), (.int .u64 (reV T1 x1 x2)), (.int .u64 (reV (T1 - (reV T1 x1 x2)) (x1 - x2) x3)), (.int .u64 (reV T1 x1 x2 + (reV (T1 - (reV T1 x1 x2)) (x1 - x2) x3))), (.int .u64 (reV T1 x1 (x2 + x3))), (.bool false), (.bool false), (.bool false), (.agg #[.slice a3 len3 cap3]), (.agg #[.slice Az6 Nz6 Cz6]), (.int .i64 0), ud, ud, ud, ud, ud, ud, ud, ud, ud, ud, ud, ud, ud, ud, ud, ud, ud, ud, ud, ud, ud, ud, ud, ud, ud, ud, ud, ud, ud, ud, ud, ud, ud, ud, ud, ud, ud, ud, ud, ud], []⟩) (by kernel_rfl) ?_
                      refine wg_take (some 91) (.bool true) (by kernel_rfl) rfl (by kernel_rfl) ?_
                      refine wg_take (some 92) (.bool true) (by kernel_rfl) rfl (by kernel_rfl) ?_
                      refine wg_take (some 93) (.int .u64 (reV T1 x1 x2)) (by kernel_rfl) rfl (by kernel_rfl) ?_
                      refine wg_take (some 94) (.int .u64 (reV (T1 - (reV T1 x1 x2)) (x1 - x2) x3)) (by kernel_rfl) rfl (by kernel_rfl) ?_
                      have rg21 : 0 ≤ reV T1 x1 x2 + (reV (T1 - (reV T1 x1 x2)) (x1 - x2) x3) ∧ reV T1 x1 x2 + (reV (T1 - (reV T1 x1 x2)) (x1 - x2) x3) < 18446744073709551616 := by omega
                      refine wg_take (some 95) (.int .u64 (reV T1 x1 x2 + (reV (T1 - (reV T1 x1 x2)) (x1 - x2) x3))) (by kernel_rfl) rfl (run_addu (x := 93) (y := 94) (p := reV T1 x1 x2) (q := reV (T1 - (reV T1 x1 x2)) (x1 - x2) x3) (by kernel_rfl) (by kernel_rfl) (by kernel_rfl) rg21) ?_
                      refine wg_take (some 96) (.int .u64 (reV T1 x1 (x2 + x3))) (by kernel_rfl) rfl (by kernel_rfl) ?_
                      by_cases c22 : reV T1 x1 x2 + (reV (T1 - (reV T1 x1 x2)) (x1 - x2) x3) = reV T1 x1 (x2 + x3)
                      · skip
                        refine wg_eq (some 97) (.bool ((reV T1 x1 x2 + (reV (T1 - (reV T1 x1 x2)) (x1 - x2) x3) : Int) != reV T1 x1 (x2 + x3))) (.bool false) (congrArg Value.bool (bne_eq_false_iff_eq.2 c22)) (by kernel_rfl) rfl (by kernel_rfl) ?_
                        refine wg_take (some 98) (.bool false) (by kernel_rfl) rfl (by kernel_rfl) ?_
                        refine wg_take (some 99) (.bool false) (by kernel_rfl) rfl (by kernel_rfl) ?_
                        refine wl_take (some 100) (.bool false) rfl rfl (by kernel_rfl) ?_
                        refine wl_nil ?_
                        refine wp_then ?_
                        refine wp_frame (a' := ⟨#[(.int .u64 T1), (.agg #[.slice a1 len1 cap1]), (.agg #[.slice a2 len2 cap2]), (.agg #[.slice a3 len3 cap3]), (.int .u64 y4), (.int .u64 y5), (.int .u64 y6), ud, (.pointer (some ⟨g1v, 0, none⟩)), (.pointer (some ⟨g2v, 0, none⟩)), (.pointer (some ⟨g3v, 0, none⟩)), ud, ud, ud, (.bool false), (.int .u64 (reV T1 x1 x2)), (.int .i64 (reE x1 x2)), (.pointer (some ⟨g9v, 0, none⟩)), (.int .i64 0), (.int .u64 (reV (T1 - (reV T1 x1 x2)) (x1 - x2) x3)), (.int .i64 (reE (x1 - x2) x3)), (.int .u64 (reV T1 x1 (x2 + x3))), (.int .i64 (reE x1 (x2 + x3))), (.bool true), (.bool false), (.int .u64 y0), (.int .u64 T1), (.agg #[.slice a1 len1 cap1]), (.agg #[.slice a2 len2 cap2]), (.agg #[.slice a3 len3 cap3]), (.slice (some ⟨g5v, 0, none⟩) 3 3), (.bool true), (.bool false), (.tuple #[.int .u64 (reV T1 x1 x2), .int .i64 (reE x1 x2)]), (.int .u64 T1), (.agg #[.slice a1 len1 cap1]), (.agg #[.slice a2 len2 cap2]), (.tuple #[.int .u64 (reV T1 x1 x2), .int .i64 (reE x1 x2)]), (.int .u64 (reV T1 x1 x2)), (.int .i64 (reE x1 x2)), (.tuple #[.agg #[.slice Az6 Nz6 Cz6], .int .i64 0]), (.agg #[.slice a1 len1 cap1]), (.agg #[.slice a2 len2 cap2]), (.tuple #[.agg #[.slice Az6 Nz6 Cz6], .int .i64 0]), (.agg #[.slice Az6 Nz6 Cz6]), (.int .i64 0), (.int .i64 (reE x1 x2)), (.bool true), (.bool true), (.int .i64 0), (.bool true), (.bool true), (.bool true), (.agg #[.slice Az6 Nz6 Cz6]), (.bool false), (.bool true), (.bool true), (.tuple #[.int .u64 (reV (T1 - (reV T1 x1 x2)) (x1 - x2) x3), .int .i64 (reE (x1 - x2) x3)]), (.int .u64 T1), (.int .u64 (reV T1 x1 x2)), (.int .u64 (T1 - (reV T1 x1 x2))), (.agg #[.slice Az6 Nz6 Cz6]), (.agg #[.slice a3 len3 cap3]), (.tuple #[.int .u64 (reV (T1 - (reV T1 x1 x2)) (x1 - x2) x3), .int .i64 (reE (x1 - x2) x3)]), (.int .u64 (reV (T1 - (reV T1 x1 x2)) (x1 - x2) x3)), (.int .i64 (reE (x1 - x2) x3)), (.tuple #[.int .u64 (reV T1 x1 (x2 + x3)), .int .i64 (reE x1 (x2 + x3))]), (.int .u64 T1), (.agg #[.slice a1 len1 cap1]), (.agg #[.slice a2 len2 cap2]), (.agg #[.slice a3 len3 cap3]), (.agg #[.slice Az12 Nz12 Cz12]), (.tuple #[.int .u64 (reV T1 x1 (x2 + x3)), .int .i64 (reE x1 (x2 + x3))]), (.int .u64 (reV T1 x1 (x2 + x3))), (.int .i64 (reE x1 (x2 + x3))), (.int .i64 (reE (x1 - x2) x3)), (.bool true), (.bool true), (.int .i64 (reE x1 (x2 + x3))), (.bool false), (.bool false), (.int .u64 (reV T1 x1 x2)), (.int .u64 (reV (T1 - (reV T1 x1 x2)) (x1 - x2) x3)), (.int .u64 (reV T1 x1 x2 + (reV (T1 - (reV T1 x1 x2)) (x1 - x2) x3))), (.int .u64 (reV T1 x1 (x2 + x3))), (.bool false), (.bool false), (.bool false), (.agg #[.slice a3 len3 cap3]), (.agg #[.slice Az6 Nz6 Cz6]), (.int .i64 0), (.bool true), (.bool true), (.int .u64 (reV T1 x1 x2)), (.int .u64 (reV (T1 - (reV T1 x1 x2)) (x1 - x2) x3)), (.int .u64 (reV T1 x1 x2 + (reV (T1 - (reV T1 x1 x2)) (x1 - x2) x3))), (.int .u64 (reV T1 x1 (x2 + x3))), (.bool false), (.bool false), (.bool false), (.bool false), ud, ud, ud, ud, ud, ud, ud, ud, ud, ud, ud, ud, ud, ud, ud, ud, ud, ud, ud, ud, ud, ud, ud, ud, ud, ud, ud, ud, ud, ud], []⟩) (by kernel_rfl) ?_
                        refine wp_cond_false (by kernel_rfl) ?_
                        refine wp_skip_then ?_
                        exact cutw_end (by kernel_rfl) BB
                      · skip
                        refine wg_eq (some 97) (.bool ((reV T1 x1 x2 + (reV (T1 - (reV T1 x1 x2)) (x1 - x2) x3) : Int) != reV T1 x1 (x2 + x3))) (.bool true) (congrArg Value.bool (bne_iff_ne.2 c22)) (by kernel_rfl) rfl (by kernel_rfl) ?_
                        refine wg_take (some 98) (.bool true) (by kernel_rfl) rfl (by kernel_rfl) ?_
                        refine wg_take (some 99) (.bool true) (by kernel_rfl) rfl (by kernel_rfl) ?_
                        refine wl_take (some 100) (.bool true) rfl rfl (by kernel_rfl) ?_
                        refine wl_nil ?_
                        refine wp_then ?_
                        refine wp_frame (a' := ⟨#[(.int .u64 T1), (.agg #[.slice a1 len1 cap1]), (.agg #[.slice a2 len2 cap2]), (.agg #[.slice a3 len3 cap3]), (.int .u64 y4), (.int .u64 y5), (.int .u64 y6), ud, (.pointer (some ⟨g1v, 0, none⟩)), (.pointer (some ⟨g2v, 0, none⟩)), (.pointer (some ⟨g3v, 0, none⟩)), ud, ud, ud, (.bool false), (.int .u64 (reV T1 x1 x2)), (.int .i64 (reE x1 x2)), (.pointer (some ⟨g9v, 0, none⟩)), (.int .i64 0), (.int .u64 (reV (T1 - (reV T1 x1 x2)) (x1 - x2) x3)), (.int .i64 (reE (x1 - x2) x3)), (.int .u64 (reV T1 x1 (x2 + x3))), (.int .i64 (reE x1 (x2 + x3))), (.bool true), (.bool false), (.int .u64 y0), (.int .u64 T1), (.agg #[.slice a1 len1 cap1]), (.agg #[.slice a2 len2 cap2]), (.agg #[.slice a3 len3 cap3]), (.slice (some ⟨g5v, 0, none⟩) 3 3), (.bool true), (.bool false), (.tuple #[.int .u64 (reV T1 x1 x2), .int .i64 (reE x1 x2)]), (.int .u64 T1), (.agg #[.slice a1 len1 cap1]), (.agg #[.slice a2 len2 cap2]), (.tuple #[.int .u64 (reV T1 x1 x2), .int .i64 (reE x1 x2)]), (.int .u64 (reV T1 x1 x2)), (.int .i64 (reE x1 x2)), (.tuple #[.agg #[.slice Az6 Nz6 Cz6], .int .i64 0]), (.agg #[.slice a1 len1 cap1]), (.agg #[.slice a2 len2 cap2]), (.tuple #[.agg #[.slice Az6 Nz6 Cz6], .int .i64 0]), (.agg #[.slice Az6 Nz6 Cz6]), (.int .i64 0), (.int .i64 (reE x1 x2)), (.bool true), (.bool true), (.int .i64 0), (.bool true), (.bool true), (.bool true), (.agg #[.slice Az6 Nz6 Cz6]), (.bool false), (.bool true), (.bool true), (.tuple #[.int .u64 (reV (T1 - (reV T1 x1 x2)) (x1 - x2) x3), .int .i64 (reE (x1 - x2) x3)]), (.int .u64 T1), (.int .u64 (reV T1 x1 x2)), (.int .u64 (T1 - (reV T1 x1 x2))), (.agg #[.slice Az6 Nz6 Cz6]), (.agg #[.slice a3 len3 cap3]), (.tuple #[.int .u64 (reV (T1 - (reV T1 x1 x2)) (x1 - x2) x3), .int .i64 (reE (x1 - x2) x3)]), (.int .u64 (reV (T1 - (reV T1 x1 x2)) (x1 - x2) x3)), (.int .i64 (reE (x1 - x2) x3)), (.tuple #[.int .u64 (reV T1 x1 (x2 + x3)), .int .i64 (reE x1 (x2 + x3))]), (.int .u64 T1), (.agg #[.slice a1 len1 cap1]), (.agg #[.slice a2 len2 cap2]), (.agg #[.slice a3 len3 cap3]), (.agg #[.slice Az12 Nz12 Cz12]), (.tuple #[.int .u64 (reV T1 x1 (x2 + x3)), .int .i64 (reE x1 (x2 + x3))]), (.int .u64 (reV T1 x1 (x2 + x3))), (.int .i64 (reE x1 (x2 + x3))), (.int .i64 (reE (x1 - x2) x3)), (.bool true), (.bool true), (.int .i64 (reE x1 (x2 + x3))), (.bool false), (.bool false), (.int .u64 (reV T1 x1 x2)), (.int .u64 (reV (T1 - (reV T1 x1 x2)) (x1 - x2) x3)), (.int .u64 (reV T1 x1 x2 + (reV (T1 - (reV T1 x1 x2)) (x1 - x2) x3))), (.int .u64 (reV T1 x1 (x2 + x3))), (.bool false), (.bool false), (.bool false), (.agg #[.slice a3 len3 cap3]), (.agg #[.slice Az6 Nz6 Cz6]), (.int .i64 0), (.bool true), (.bool true), (.int .u64 (reV T1 x1 x2)), (.int .u64 (reV (T1 - (reV T1 x1 x2)) (x1 - x2) x3)), (.int .u64 (reV T1 x1 x2 + (reV (T1 - (reV T1 x1 x2)) (x1 - x2) x3))), (.int .u64 (reV T1 x1 (x2 + x3))), (.bool true), (.bool true), (.bool true), (.bool true), ud, ud, ud, ud, ud, ud, ud, ud, ud, ud, ud, ud, ud, ud, ud, ud, ud, ud, ud, ud, ud, ud, ud, ud, ud, ud, ud, ud, ud, ud], []⟩) (by kernel_rfl) ?_
                        refine wp_cond_true (by kernel_rfl) ?_
                        refine wp_seq ?_
                        refine wl_start ?_
                        refine wl_take (some 14) (.bool false) rfl rfl (by kernel_rfl) ?_
                        refine wl_nil ?_
                        refine wp_then ?_
                        exfalso
                        have kk := leave_two (T := T1) (S := x1) (x := x2) (y := x3) hx2 hx3
                        have c1 := fun h => cut_le (n := y4) (p := y5) (q := y6) by4.1 h
                        have c2 := fun h => cut_le (n := y4) (p := y6) (q := y5) by4.1 h
                        have c3 := cut_n (n := y4) (q := y5) by4.1
                        have c4 := cut_n (n := y4) (q := y6) by4.1
                        have c5 := cut_full y4
                        have c6 := cut_none y4
                        clear BB
                        omega
                    · skip
                      refine wg_call (some 90) 17 #[.agg #[.slice a3 len3 cap3], .agg #[.slice Az6 Nz6 Cz6]] (by kernel_rfl) rfl (by kernel_rfl) (cmpD N3 Oz6.a (by omega) (by omega) 1 (sgn_gt (lt_of c19 (fun e => c20 e.symm)))) ?_
                      rintro e1 v17w ⟨rfl, B⟩
                      refine ⟨_, rfl, ?_⟩
                      replace N1 := N1.keep B
                      replace N2 := N2.keep B
                      replace N3 := N3.keep B
                      replace X8 := X8.keep B
                      replace X9 := X9.keep B
                      replace X10 := X10.keep B
                      replace L5 := L5.keep B
                      replace Oz6 := Oz6.keep B
                      replace X17 := X17.keep B
                      replace Oz12 := Oz12.keep B
                      replace BB := joinB BB B
                      clear B
                      refine wl_frame (a' := ⟨#[(.int .u64 T1), (.agg #[.slice a1 len1 cap1]), (.agg #[.slice a2 len2 cap2]), (.agg #[.slice a3 len3 cap3]), (.int .u64 y4), (.int .u64 y5), (.int .u64 y6), ud, (.pointer (some ⟨g1v, 0, none⟩)), (.pointer (some ⟨g2v, 0, none⟩)), (.pointer (some ⟨g3v, 0, none⟩)), ud, ud, ud, (.bool false), (.int .u64 (reV T1 x1 x2)), (.int .i64 (reE x1 x2)), (.pointer (some ⟨g9v, 0, none⟩)), (.int .i64 0), (.int .u64 (reV (T1 - (reV T1 x1 x2)) (x1 - x2) x3)), (.int .i64 (reE (x1 - x2) x3)), (.int .u64 (reV T1 x1 (x2 + x3))), (.int .i64 (reE x1 (x2 + x3))), (.bool true), (.bool false), (.int .u64 y0), (.int .u64 T1), (.agg #[.slice a1 len1 cap1]), (.agg #[.slice a2 len2 cap2]), (.agg #[.slice a3 len3 cap3]), (.slice (some ⟨g5v, 0, none⟩) 3 3), (.bool true), (.bool false), (.tuple #[.int .u64 (reV T1 x1 x2), .int .i64 (reE x1 x2)]), (.int .u64 T1), (.agg #[.slice a1 len1 cap1]), (.agg #[.slice a2 len2 cap2]), (.tuple #[.int .u64 (reV T1 x1 x2), .int .i64 (reE x1 x2)]), (.int .u64 (reV T1 x1 x2)), (.int .i64 (reE x1 x2)), (.tuple #[.agg #[.slice Az6 Nz6 Cz6], .int .i64 0]), (.agg #[.slice a1 len1 cap1]), (.agg #[.slice a2 len2 cap2]), (.tuple #[.agg #[.slice Az6 Nz6 Cz6], .int .i64 0]), (.agg #[.slice Az6 Nz6 Cz6]), (.int .i64 0), (.int .i64 (reE x1 x2)), (.bool true), (.bool true), (.int .i64 0), (.bool true), (.bool true), (.bool true), (.agg #[.slice Az6 Nz6 Cz6]), (.bool false), (.bool true), (.bool true), (.tuple #[.int .u64 (reV (T1 - (reV T1 x1 x2)) (x1 - x2) x3), .int .i64 (reE (x1 - x2) x3)]), (.int .u64 T1), (.int .u64 (reV T1 x1 x2)), (.int .u64 (T1 - (reV T1 x1 x2))), (.agg #[.slice Az6 Nz6 Cz6]), (.agg #[.slice a3 len3 cap3]), (.tuple #[.int .u64 (reV (T1 - (reV T1 x1 x2)) (x1 - x2) x3), .int .i64 (reE (x1 - x2) x3)]), (.int .u64 (reV (T1 - (reV T1 x1 x2)) (x1 - x2) x3)), (.int .i64 (reE (x1 - x2) x3)), (.tuple #[.int .u64 (reV T1 x1 (x2 + x3)), .int .i64 (reE x1 (x2 + x3))]), (.int .u64 T1), (.agg #[.slice a1 len1 cap1]), (.agg #[.slice a2 len2 cap2]), (.agg #[.slice a3 len3 cap3]), (.agg #[.slice Az12 Nz12 Cz12]), (.tuple #[.int .u64 (reV T1 x1 (x2 + x3)), .int .i64 (reE x1 (x2 + x3))]), (.int .u64 (reV T1 x1 (x2 + x3))), (.int .i64 (reE x1 (x2 + x3))), (.int .i64 (reE (x1 - x2) x3)), (.bool true), (.bool true), (.int .i64 (reE x1 (x2 + x3))), (.bool false), (.bool false), (.int .u64 (reV T1 x1 x2)), (.int .u64 (reV (T1 - (reV T1 x1 x2)) (x1 - x2) x3)), (.int .u64 (reV T1 x1 x2 + (reV (T1 - (reV T1 x1 x2)) (x1 - x2) x3))), (.int .u64 (reV T1 x1 (x2 + x3))), (.bool false), (.bool false), (.bool false), (.agg #[.slice a3 len3 cap3]), (.agg #[.slice Az6 Nz6 Cz6]), (.int .i64 1), ud, ud, ud, ud, ud, ud, ud, ud, ud, ud, ud, ud, ud, ud, ud, ud, ud, ud, ud, ud, ud, ud, ud, ud, ud, ud, ud, ud, ud, ud, ud, ud, ud, ud, ud, ud, ud, ud, ud, ud], []⟩) (by kernel_rfl) ?_
                      refine wg_take (some 91) (.bool false) (by kernel_rfl) rfl (by kernel_rfl) ?_
                      refine wg_take (some 92) (.bool false) (by kernel_rfl) rfl (by kernel_rfl) ?_
                      refine wg_not (some 93) (by kernel_rfl) rfl ?_
                      refine wg_not (some 94) (by kernel_rfl) rfl ?_
                      refine wg_not (some 95) (by kernel_rfl) rfl ?_
                      refine wg_not (some 96) (by kernel_rfl) rfl ?_
                      refine wg_not (some 97) (by kernel_rfl) rfl ?_
                      refine wg_take (some 98) (.bool false) (by kernel_rfl) rfl (by kernel_rfl) ?_
                      refine wg_take (some 99) (.bool false) (by kernel_rfl) rfl (by kernel_rfl) ?_
                      refine wl_take (some 100) (.bool false) rfl rfl (by kernel_rfl) ?_
                      refine wl_nil ?_
                      refine wp_then ?_
                      refine wp_frame (a' := ⟨#[(.int .u64 T1), (.agg #[.slice a1 len1 cap1]), (.agg #[.slice a2 len2 cap2]), (.agg #[.slice a3 len3 cap3]), (.int .u64 y4), (.int .u64 y5), (.int .u64 y6), ud, (.pointer (some ⟨g1v, 0, none⟩)), (.pointer (some ⟨g2v, 0, none⟩)), (.pointer (some ⟨g3v, 0, none⟩)), ud, ud, ud, (.bool false), (.int .u64 (reV T1 x1 x2)), (.int .i64 (reE x1 x2)), (.pointer (some ⟨g9v, 0, none⟩)), (.int .i64 0), (.int .u64 (reV (T1 - (reV T1 x1 x2)) (x1 - x2) x3)), (.int .i64 (reE (x1 - x2) x3)), (.int .u64 (reV T1 x1 (x2 + x3))), (.int .i64 (reE x1 (x2 + x3))), (.bool true), (.bool false), (.int .u64 y0), (.int .u64 T1), (.agg #[.slice a1 len1 cap1]), (.agg #[.slice a2 len2 cap2]), (.agg #[.slice a3 len3 cap3]), (.slice (some ⟨g5v, 0, none⟩) 3 3), (.bool true), (.bool false), (.tuple #[.int .u64 (reV T1 x1 x2), .int .i64 (reE x1 x2)]), (.int .u64 T1), (.agg #[.slice a1 len1 cap1]), (.agg #[.slice a2 len2 cap2]), (.tuple #[.int .u64 (reV T1 x1 x2), .int .i64 (reE x1 x2)]), (.int .u64 (reV T1 x1 x2)), (.int .i64 (reE x1 x2)), (.tuple #[.agg #[.slice Az6 Nz6 Cz6], .int .i64 0]), (.agg #[.slice a1 len1 cap1]), (.agg #[.slice a2 len2 cap2]), (.tuple #[.agg #[.slice Az6 Nz6 Cz6], .int .i64 0]), (.agg #[.slice Az6 Nz6 Cz6]), (.int .i64 0), (.int .i64 (reE x1 x2)), (.bool true), (.bool true), (.int .i64 0), (.bool true), (.bool true), (.bool true), (.agg #[.slice Az6 Nz6 Cz6]), (.bool false), (.bool true), (.bool true), (.tuple #[.int .u64 (reV (T1 - (reV T1 x1 x2)) (x1 - x2) x3), .int .i64 (reE (x1 - x2) x3)]), (.int .u64 T1), (.int .u64 (reV T1 x1 x2)), (.int .u64 (T1 - (reV T1 x1 x2))), (.agg #[.slice Az6 Nz6 Cz6]), (.agg #[.slice a3 len3 cap3]), (.tuple #[.int .u64 (reV (T1 - (reV T1 x1 x2)) (x1 - x2) x3), .int .i64 (reE (x1 - x2) x3)]), (.int .u64 (reV (T1 - (reV T1 x1 x2)) (x1 - x2) x3)), (.int .i64 (reE (x1 - x2) x3)), (.tuple #[.int .u64 (reV T1 x1 (x2 + x3)), .int .i64 (reE x1 (x2 + x3))]), (.int .u64 T1), (.agg #[.slice a1 len1 cap1]), (.agg #[.slice a2 len2 cap2]), (.agg #[.slice a3 len3 cap3]), (.agg #[.slice Az12 Nz12 Cz12]), (.tuple #[.int .u64 (reV T1 x1 (x2 + x3)), .int .i64 (reE x1 (x2 + x3))]), (.int .u64 (reV T1 x1 (x2 + x3))), (.int .i64 (reE x1 (x2 + x3))), (.int .i64 (reE (x1 - x2) x3)), (.bool true), (.bool true), (.int .i64 (reE x1 (x2 + x3))), (.bool false), (.bool false), (.int .u64 (reV T1 x1 x2)), (.int .u64 (reV (T1 - (reV T1 x1 x2)) (x1 - x2) x3)), (.int .u64 (reV T1 x1 x2 + (reV (T1 - (reV T1 x1 x2)) (x1 - x2) x3))), (.int .u64 (reV T1 x1 (x2 + x3))), (.bool false), (.bool false), (.bool false), (.agg #[.slice a3 len3 cap3]), (.agg #[.slice Az6 Nz6 Cz6]), (.int .i64 1), (.bool false), (.bool false), ud, ud, ud, ud, ud, (.bool false), (.bool false), (.bool false), ud, ud, ud, ud, ud, ud, ud, ud, ud, ud, ud, ud, ud, ud, ud, ud, ud, ud, ud, ud, ud, ud, ud, ud, ud, ud, ud, ud, ud, ud], []⟩) (by kernel_rfl) ?_
                      refine wp_cond_false (by kernel_rfl) ?_
                      refine wp_skip_then ?_
                      exact cutw_end (by kernel_rfl) BB
              · skip
                refine wg_eq (some 79) (.bool ((reE x1 (x2 + x3) : Int) != 0)) (.bool true) (congrArg Value.bool (bne_iff_ne.2 c16)) (by kernel_rfl) rfl (by kernel_rfl) ?_
                refine wg_take (some 80) (.bool true) (by kernel_rfl) rfl (by kernel_rfl) ?_
                refine wg_not (some 81) (by kernel_rfl) rfl ?_
                refine wg_not (some 82) (by kernel_rfl) rfl ?_
                refine wg_not (some 83) (by kernel_rfl) rfl ?_
                refine wg_not (some 84) (by kernel_rfl) rfl ?_
                refine wg_not (some 85) (by kernel_rfl) rfl ?_
                refine wg_take (some 86) (.bool true) (by kernel_rfl) rfl (by kernel_rfl) ?_
                refine wg_take (some 87) (.bool true) (by kernel_rfl) rfl (by kernel_rfl) ?_
                refine wg_not (some 88) (by kernel_rfl) rfl ?_
                refine wg_not (some 89) (by kernel_rfl) rfl ?_
                refine wg_not (some 90) (by kernel_rfl) rfl ?_
                refine wl_frame (a' := ⟨#[(.int .u64 T1), (.agg #[.slice a1 len1 cap1]), (.agg #[.slice a2 len2 cap2]), (.agg #[.slice a3 len3 cap3]), (.int .u64 y4), (.int .u64 y5), (.int .u64 y6), ud, (.pointer (some ⟨g1v, 0, none⟩)), (.pointer (some ⟨g2v, 0, none⟩)), (.pointer (some ⟨g3v, 0, none⟩)), ud, ud, ud, (.bool false), (.int .u64 (reV T1 x1 x2)), (.int .i64 (reE x1 x2)), (.pointer (some ⟨g9v, 0, none⟩)), (.int .i64 0), (.int .u64 (reV (T1 - (reV T1 x1 x2)) (x1 - x2) x3)), (.int .i64 (reE (x1 - x2) x3)), (.int .u64 (reV T1 x1 (x2 + x3))), (.int .i64 (reE x1 (x2 + x3))), (.bool true), (.bool false), (.int .u64 y0), (.int .u64 T1), (.agg #[.slice a1 len1 cap1]), (.agg #[.slice a2 len2 cap2]), (.agg #[.slice a3 len3 cap3]), (.slice (some ⟨g5v, 0, none⟩) 3 3), (.bool true), (.bool false), (.tuple #[.int .u64 (reV T1 x1 x2), .int .i64 (reE x1 x2)]), (.int .u64 T1), (.agg #[.slice a1 len1 cap1]), (.agg #[.slice a2 len2 cap2]), (.tuple #[.int .u64 (reV T1 x1 x2), .int .i64 (reE x1 x2)]), (.int .u64 (reV T1 x1 x2)), (.int .i64 (reE x1 x2)), (.tuple #[.agg #[.slice Az6 Nz6 Cz6], .int .i64 0]), (.agg #[.slice a1 len1 cap1]), (.agg #[.slice a2 len2 cap2]), (.tuple #[.agg #[.slice Az6 Nz6 Cz6], .int .i64 0]), (.agg #[.slice Az6 Nz6 Cz6]), (.int .i64 0), (.int .i64 (reE x1 x2)), (.bool true), (.bool true), (.int .i64 0), (.bool true), (.bool true), (.bool true), (.agg #[.slice Az6 Nz6 Cz6]), (.bool false), (.bool true), (.bool true), (.tuple #[.int .u64 (reV (T1 - (reV T1 x1 x2)) (x1 - x2) x3), .int .i64 (reE (x1 - x2) x3)]), (.int .u64 T1), (.int .u64 (reV T1 x1 x2)), (.int .u64 (T1 - (reV T1 x1 x2))), (.agg #[.slice Az6 Nz6 Cz6]), (.agg #[.slice a3 len3 cap3]), (.tuple #[.int .u64 (reV (T1 - (reV T1 x1 x2)) (x1 - x2) x3), .int .i64 (reE (x1 - x2) x3)]), (.int .u64 (reV (T1 - (reV T1 x1 x2)) (x1 - x2) x3)), (.int .i64 (reE (x1 - x2) x3)), (.tuple #[.int .u64 (reV T1 x1 (x2 + x3)), .int .i64 (reE x1 (x2 + x3))]), (.int .u64 T1), (.agg #[.slice a1 len1 cap1]), (.agg #[.slice a2 len2 cap2]), (.agg #[.slice a3 len3 cap3]), (.agg #[.slice Az12 Nz12 Cz12]), (.tuple #[.int .u64 (reV T1 x1 (x2 + x3)), .int .i64 (reE x1 (x2 + x3))]), (.int .u64 (reV T1 x1 (x2 + x3))), (.int .i64 (reE x1 (x2 + x3))), (.int .i64 (reE (x1 - x2) x3)), (.bool true), (.bool true), (.int .i64 (reE x1 (x2 + x3))), (.bool true), (.bool true), ud, ud, ud, ud, ud, (.bool true), (.bool true), ud, ud, ud, ud, ud, ud, ud, ud, ud, ud, ud, ud, ud, ud, ud, ud, ud, ud, ud, ud, ud, ud, ud, ud, ud, ud, ud, ud, ud, ud, ud, ud, ud, ud, ud, ud, ud, ud, ud, ud, ud, ud, ud], []⟩) (by kernel_rfl) ?_
                refine wg_not (some 91) (by kernel_rfl) rfl ?_
                refine wg_not (some 92) (by kernel_rfl) rfl ?_
                refine wg_not (some 93) (by kernel_rfl) rfl ?_
                refine wg_not (some 94) (by kernel_rfl) rfl ?_
                refine wg_not (some 95) (by kernel_rfl) rfl ?_
                refine wg_not (some 96) (by kernel_rfl) rfl ?_
                refine wg_not (some 97) (by kernel_rfl) rfl ?_
                refine wg_not (some 98) (by kernel_rfl) rfl ?_
                refine wg_take (some 99) (.bool true) (by kernel_rfl) rfl (by kernel_rfl) ?_
                refine wl_take (some 100) (.bool true) rfl rfl (by kernel_rfl) ?_
                refine wl_nil ?_
                refine wp_then ?_
                refine wp_frame (a' := ⟨#[(.int .u64 T1), (.agg #[.slice a1 len1 cap1]), (.agg #[.slice a2 len2 cap2]), (.agg #[.slice a3 len3 cap3]), (.int .u64 y4), (.int .u64 y5), (.int .u64 y6), ud, (.pointer (some ⟨g1v, 0, none⟩)), (.pointer (some ⟨g2v, 0, none⟩)), (.pointer (some ⟨g3v, 0, none⟩)), ud, ud, ud, (.bool false), (.int .u64 (reV T1 x1 x2)), (.int .i64 (reE x1 x2)), (.pointer (some ⟨g9v, 0, none⟩)), (.int .i64 0), (.int .u64 (reV (T1 - (reV T1 x1 x2)) (x1 - x2) x3)), (.int .i64 (reE (x1 - x2) x3)), (.int .u64 (reV T1 x1 (x2 + x3))), (.int .i64 (reE x1 (x2 + x3))), (.bool true), (.bool false), (.int .u64 y0), (.int .u64 T1), (.agg #[.slice a1 len1 cap1]), (.agg #[.slice a2 len2 cap2]), (.agg #[.slice a3 len3 cap3]), (.slice (some ⟨g5v, 0, none⟩) 3 3), (.bool true), (.bool false), (.tuple #[.int .u64 (reV T1 x1 x2), .int .i64 (reE x1 x2)]), (.int .u64 T1), (.agg #[.slice a1 len1 cap1]), (.agg #[.slice a2 len2 cap2]), (.tuple #[.int .u64 (reV T1 x1 x2), .int .i64 (reE x1 x2)]), (.int .u64 (reV T1 x1 x2)), (.int .i64 (reE x1 x2)), (.tuple #[.agg #[.slice Az6 Nz6 Cz6], .int .i64 0]), (.agg #[.slice a1 len1 cap1]), (.agg #[.slice a2 len2 cap2]), (.tuple #[.agg #[.slice Az6 Nz6 Cz6], .int .i64 0]), (.agg #[.slice Az6 Nz6 Cz6]), (.int .i64 0), (.int .i64 (reE x1 x2)), (.bool true), (.bool true), (.int .i64 0), (.bool true), (.bool true), (.bool true), (.agg #[.slice Az6 Nz6 Cz6]), (.bool false), (.bool true), (.bool true), (.tuple #[.int .u64 (reV (T1 - (reV T1 x1 x2)) (x1 - x2) x3), .int .i64 (reE (x1 - x2) x3)]), (.int .u64 T1), (.int .u64 (reV T1 x1 x2)), (.int .u64 (T1 - (reV T1 x1 x2))), (.agg #[.slice Az6 Nz6 Cz6]), (.agg #[.slice a3 len3 cap3]), (.tuple #[.int .u64 (reV (T1 - (reV T1 x1 x2)) (x1 - x2) x3), .int .i64 (reE (x1 - x2) x3)]), (.int .u64 (reV (T1 - (reV T1 x1 x2)) (x1 - x2) x3)), (.int .i64 (reE (x1 - x2) x3)), (.tuple #[.int .u64 (reV T1 x1 (x2 + x3)), .int .i64 (reE x1 (x2 + x3))]), (.int .u64 T1), (.agg #[.slice a1 len1 cap1]), (.agg #[.slice a2 len2 cap2]), (.agg #[.slice a3 len3 cap3]), (.agg #[.slice Az12 Nz12 Cz12]), (.tuple #[.int .u64 (reV T1 x1 (x2 + x3)), .int .i64 (reE x1 (x2 + x3))]), (.int .u64 (reV T1 x1 (x2 + x3))), (.int .i64 (reE x1 (x2 + x3))), (.int .i64 (reE (x1 - x2) x3)), (.bool true), (.bool true), (.int .i64 (reE x1 (x2 + x3))), (.bool true), (.bool true), ud, ud, ud, ud, ud, (.bool true), (.bool true), ud, ud, ud, ud, ud, ud, ud, ud, ud, ud, ud, (.bool true), (.bool true), ud, ud, ud, ud, ud, ud, ud, ud, ud, ud, ud, ud, ud, ud, ud, ud, ud, ud, ud, ud, ud, ud, ud, ud, ud, ud, ud, ud, ud, ud], []⟩) (by kernel_rfl) ?_
                refine wp_cond_true (by kernel_rfl) ?_
                refine wp_seq ?_
                refine wl_start ?_
                refine wl_take (some 14) (.bool false) rfl rfl (by kernel_rfl) ?_
                refine wl_nil ?_
                refine wp_then ?_
                exfalso
                have kk := leave_two (T := T1) (S := x1) (x := x2) (y := x3) hx2 hx3
                have c1 := fun h => cut_le (n := y4) (p := y5) (q := y6) by4.1 h
                have c2 := fun h => cut_le (n := y4) (p := y6) (q := y5) by4.1 h
                have c3 := cut_n (n := y4) (q := y5) by4.1
                have c4 := cut_n (n := y4) (q := y6) by4.1
                have c5 := cut_full y4
                have c6 := cut_none y4
                clear BB
                omega
            · skip
              refine wl_eq (some 76) (.bool ((reE (x1 - x2) x3 : Int) == 0)) (.bool false) (congrArg Value.bool (beq_eq_false_iff_ne.2 c15)) rfl rfl (by kernel_rfl) ?_
              refine wl_take (some 77) (.bool false) rfl rfl (by kernel_rfl) ?_
              refine wg_not (some 78) (by kernel_rfl) rfl ?_
              refine wg_not (some 79) (by kernel_rfl) rfl ?_
              refine wg_not (some 80) (by kernel_rfl) rfl ?_
              refine wg_not (some 81) (by kernel_rfl) rfl ?_
              refine wg_not (some 82) (by kernel_rfl) rfl ?_
              refine wg_not (some 83) (by kernel_rfl) rfl ?_
              refine wg_not (some 84) (by kernel_rfl) rfl ?_
              refine wg_not (some 85) (by kernel_rfl) rfl ?_
              refine wg_not (some 86) (by kernel_rfl) rfl ?_
              refine wg_not (some 87) (by kernel_rfl) rfl ?_
              refine wg_not (some 88) (by kernel_rfl) rfl ?_
              refine wg_not (some 89) (by kernel_rfl) rfl ?_
              refine wg_not (some 90) (by kernel_rfl) rfl ?_
              refine wl_frame (a' := ⟨#[(.int .u64 T1), (.agg #[.slice a1 len1 cap1]), (.agg #[.slice a2 len2 cap2]), (.agg #[.slice a3 len3 cap3]), (.int .u64 y4), (.int .u64 y5), (.int .u64 y6), ud, (.pointer (some ⟨g1v, 0, none⟩)), (.pointer (some ⟨g2v, 0, none⟩)), (.pointer (some ⟨g3v, 0, none⟩)), ud, ud, ud, (.bool false), (.int .u64 (reV T1 x1 x2)), (.int .i64 (reE x1 x2)), (.pointer (some ⟨g9v, 0, none⟩)), (.int .i64 0), (.int .u64 (reV (T1 - (reV T1 x1 x2)) (x1 - x2) x3)), (.int .i64 (reE (x1 - x2) x3)), (.int .u64 (reV T1 x1 (x2 + x3))), (.int .i64 (reE x1 (x2 + x3))), (.bool true), (.bool false), (.int .u64 y0), (.int .u64 T1), (.agg #[.slice a1 len1 cap1]), (.agg #[.slice a2 len2 cap2]), (.agg #[.slice a3 len3 cap3]), (.slice (some ⟨g5v, 0, none⟩) 3 3), (.bool true), (.bool false), (.tuple #[.int .u64 (reV T1 x1 x2), .int .i64 (reE x1 x2)]), (.int .u64 T1), (.agg #[.slice a1 len1 cap1]), (.agg #[.slice a2 len2 cap2]), (.tuple #[.int .u64 (reV T1 x1 x2), .int .i64 (reE x1 x2)]), (.int .u64 (reV T1 x1 x2)), (.int .i64 (reE x1 x2)), (.tuple #[.agg #[.slice Az6 Nz6 Cz6], .int .i64 0]), (.agg #[.slice a1 len1 cap1]), (.agg #[.slice a2 len2 cap2]), (.tuple #[.agg #[.slice Az6 Nz6 Cz6], .int .i64 0]), (.agg #[.slice Az6 Nz6 Cz6]), (.int .i64 0), (.int .i64 (reE x1 x2)), (.bool true), (.bool true), (.int .i64 0), (.bool true), (.bool true), (.bool true), (.agg #[.slice Az6 Nz6 Cz6]), (.bool false), (.bool true), (.bool true), (.tuple #[.int .u64 (reV (T1 - (reV T1 x1 x2)) (x1 - x2) x3), .int .i64 (reE (x1 - x2) x3)]), (.int .u64 T1), (.int .u64 (reV T1 x1 x2)), (.int .u64 (T1 - (reV T1 x1 x2))), (.agg #[.slice Az6 Nz6 Cz6]), (.agg #[.slice a3 len3 cap3]), (.tuple #[.int .u64 (reV (T1 - (reV T1 x1 x2)) (x1 - x2) x3), .int .i64 (reE (x1 - x2) x3)]), (.int .u64 (reV (T1 - (reV T1 x1 x2)) (x1 - x2) x3)), (.int .i64 (reE (x1 - x2) x3)), (.tuple #[.int .u64 (reV T1 x1 (x2 + x3)), .int .i64 (reE x1 (x2 + x3))]), (.int .u64 T1), (.agg #[.slice a1 len1 cap1]), (.agg #[.slice a2 len2 cap2]), (.agg #[.slice a3 len3 cap3]), (.agg #[.slice Az12 Nz12 Cz12]), (.tuple #[.int .u64 (reV T1 x1 (x2 + x3)), .int .i64 (reE x1 (x2 + x3))]), (.int .u64 (reV T1 x1 (x2 + x3))), (.int .i64 (reE x1 (x2 + x3))), (.int .i64 (reE (x1 - x2) x3)), (.bool false), (.bool false), ud, ud, ud, ud, ud, ud, ud, ud, ud, ud, ud, ud, ud, ud, ud, ud, ud, ud, ud, ud, ud, ud, ud, ud, ud, ud, ud, ud, ud, ud, ud, ud, ud, ud, ud, ud, ud, ud, ud, ud, ud, ud, ud, ud, ud, ud, ud, ud, ud, ud, ud, ud, ud], []⟩) (by kernel_rfl) ?_
              refine wg_not (some 91) (by kernel_rfl) rfl ?_
              refine wg_not (some 92) (by kernel_rfl) rfl ?_
              refine wg_not (some 93) (by kernel_rfl) rfl ?_
              refine wg_not (some 94) (by kernel_rfl) rfl ?_
              refine wg_not (some 95) (by kernel_rfl) rfl ?_
              refine wg_not (some 96) (by kernel_rfl) rfl ?_
              refine wg_not (some 97) (by kernel_rfl) rfl ?_
              refine wg_not (some 98) (by kernel_rfl) rfl ?_
              refine wg_not (some 99) (by kernel_rfl) rfl ?_
              refine wl_take (some 100) (.bool false) rfl rfl (by kernel_rfl) ?_
              refine wl_nil ?_
              refine wp_then ?_
              refine wp_frame (a' := ⟨#[(.int .u64 T1), (.agg #[.slice a1 len1 cap1]), (.agg #[.slice a2 len2 cap2]), (.agg #[.slice a3 len3 cap3]), (.int .u64 y4), (.int .u64 y5), (.int .u64 y6), ud, (.pointer (some ⟨g1v, 0, none⟩)), (.pointer (some ⟨g2v, 0, none⟩)), (.pointer (some ⟨g3v, 0, none⟩)), ud, ud, ud, (.bool false), (.int .u64 (reV T1 x1 x2)), (.int .i64 (reE x1 x2)), (.pointer (some ⟨g9v, 0, none⟩)), (.int .i64 0), (.int .u64 (reV (T1 - (reV T1 x1 x2)) (x1 - x2) x3)), (.int .i64 (reE (x1 - x2) x3)), (.int .u64 (reV T1 x1 (x2 + x3))), (.int .i64 (reE x1 (x2 + x3))), (.bool true), (.bool false), (.int .u64 y0), (.int .u64 T1), (.agg #[.slice a1 len1 cap1]), (.agg #[.slice a2 len2 cap2]), (.agg #[.slice a3 len3 cap3]), (.slice (some ⟨g5v, 0, none⟩) 3 3), (.bool true), (.bool false), (.tuple #[.int .u64 (reV T1 x1 x2), .int .i64 (reE x1 x2)]), (.int .u64 T1), (.agg #[.slice a1 len1 cap1]), (.agg #[.slice a2 len2 cap2]), (.tuple #[.int .u64 (reV T1 x1 x2), .int .i64 (reE x1 x2)]), (.int .u64 (reV T1 x1 x2)), (.int .i64 (reE x1 x2)), (.tuple #[.agg #[.slice Az6 Nz6 Cz6], .int .i64 0]), (.agg #[.slice a1 len1 cap1]), (.agg #[.slice a2 len2 cap2]), (.tuple #[.agg #[.slice Az6 Nz6 Cz6], .int .i64 0]), (.agg #[.slice Az6 Nz6 Cz6]), (.int .i64 0), (.int .i64 (reE x1 x2)), (.bool true), (.bool true), (.int .i64 0), (.bool true), (.bool true), (.bool true), (.agg #[.slice Az6 Nz6 Cz6]), (.bool false), (.bool true), (.bool true), (.tuple #[.int .u64 (reV (T1 - (reV T1 x1 x2)) (x1 - x2) x3), .int .i64 (reE (x1 - x2) x3)]), (.int .u64 T1), (.int .u64 (reV T1 x1 x2)), (.int .u64 (T1 - (reV T1 x1 x2))), (.agg #[.slice Az6 Nz6 Cz6]), (.agg #[.slice a3 len3 cap3]), (.tuple #[.int .u64 (reV (T1 - (reV T1 x1 x2)) (x1 - x2) x3), .int .i64 (reE (x1 - x2) x3)]), (.int .u64 (reV (T1 - (reV T1 x1 x2)) (x1 - x2) x3)), (.int .i64 (reE (x1 - x2) x3)), (.tuple #[.int .u64 (reV T1 x1 (x2 + x3)), .int .i64 (reE x1 (x2 + x3))]), (.int .u64 T1), (.agg #[.slice a1 len1 cap1]), (.agg #[.slice a2 len2 cap2]), (.agg #[.slice a3 len3 cap3]), (.agg #[.slice Az12 Nz12 Cz12]), (.tuple #[.int .u64 (reV T1 x1 (x2 + x3)), .int .i64 (reE x1 (x2 + x3))]), (.int .u64 (reV T1 x1 (x2 + x3))), (.int .i64 (reE x1 (x2 + x3))), (.int .i64 (reE (x1 - x2) x3)), (.bool false), (.bool false), ud, ud, ud, ud, ud, ud, ud, ud, ud, ud, ud, ud, ud, ud, ud, ud, ud, ud, ud, ud, ud, ud, (.bool false), ud, ud, ud, ud, ud, ud, ud, ud, ud, ud, ud, ud, ud, ud, ud, ud, ud, ud, ud, ud, ud, ud, ud, ud, ud, ud, ud, ud, ud, ud], []⟩) (by kernel_rfl) ?_
              refine wp_cond_false (by kernel_rfl) ?_
              refine wp_skip_then ?_
              exact cutw_end (by kernel_rfl) BB
        · skip
          refine wl_eq (some 47) (.bool ((reE x1 x2 : Int) == 0)) (.bool false) (congrArg Value.bool (beq_eq_false_iff_ne.2 c7)) rfl rfl (by kernel_rfl) ?_
          refine wl_take (some 48) (.bool false) rfl rfl (by kernel_rfl) ?_
          refine wg_not (some 49) (by kernel_rfl) rfl ?_
          refine wg_not (some 50) (by kernel_rfl) rfl ?_
          refine wl_take (some 51) (.bool false) rfl rfl (by kernel_rfl) ?_
          refine wl_take (some 52) (.bool false) rfl rfl (by kernel_rfl) ?_
          refine wg_not (some 53) (by kernel_rfl) rfl ?_
          refine wg_not (some 54) (by kernel_rfl) rfl ?_
          refine wg_not (some 55) (by kernel_rfl) rfl ?_
          refine wl_take (some 56) (.bool false) rfl rfl (by kernel_rfl) ?_
          refine wl_nil ?_
          refine wp_then ?_
          refine wp_cond_false (by kernel_rfl) ?_
          refine wp_skip_then ?_
          exact cutw_end (by kernel_rfl) BB
      clear N1 N2 N3 X8 X9 X10 L5 Oz6 X17
      clear BB
      intro yy v18w BB
      refine wp_frame (a' := ⟨#[(.int .u64 T1), (.agg #[.slice a1 len1 cap1]), (.agg #[.slice a2 len2 cap2]), (.agg #[.slice a3 len3 cap3]), (.int .u64 y4), (.int .u64 y5), (.int .u64 y6), ud, (.pointer (some ⟨g1v, 0, none⟩)), (.pointer (some ⟨g2v, 0, none⟩)), (.pointer (some ⟨g3v, 0, none⟩)), ud, ud, ud, (yy 14), (.int .u64 (reV T1 x1 x2)), (.int .i64 (reE x1 x2)), (.pointer (some ⟨g9v, 0, none⟩)), (.int .i64 0), (yy 19), (yy 20), (yy 21), (yy 22), (.bool true), (.bool false), (.int .u64 y0), (.int .u64 T1), (.agg #[.slice a1 len1 cap1]), (.agg #[.slice a2 len2 cap2]), (.agg #[.slice a3 len3 cap3]), (.slice (some ⟨g5v, 0, none⟩) 3 3), (.bool true), (.bool false), (.tuple #[.int .u64 (reV T1 x1 x2), .int .i64 (reE x1 x2)]), (.int .u64 T1), (.agg #[.slice a1 len1 cap1]), (.agg #[.slice a2 len2 cap2]), (.tuple #[.int .u64 (reV T1 x1 x2), .int .i64 (reE x1 x2)]), (.int .u64 (reV T1 x1 x2)), (.int .i64 (reE x1 x2)), (.tuple #[.agg #[.slice Az6 Nz6 Cz6], .int .i64 0]), (.agg #[.slice a1 len1 cap1]), (.agg #[.slice a2 len2 cap2]), (.tuple #[.agg #[.slice Az6 Nz6 Cz6], .int .i64 0]), (.agg #[.slice Az6 Nz6 Cz6]), (.int .i64 0), (yy 46), (yy 47), (yy 48), (yy 49), (yy 50), (yy 51), (yy 52), (yy 53), (yy 54), (yy 55), (yy 56), (yy 57), (yy 58), (yy 59), (yy 60), (yy 61), (yy 62), (yy 63), (yy 64), (yy 65), (yy 66), (yy 67), (yy 68), (yy 69), (yy 70), (yy 71), (yy 72), (yy 73), (yy 74), (yy 75), (yy 76), (yy 77), (yy 78), (yy 79), (yy 80), (yy 81), (yy 82), (yy 83), (yy 84), (yy 85), (yy 86), (yy 87), (yy 88), (yy 89), (yy 90), (yy 91), (yy 92), (yy 93), (yy 94), (yy 95), (yy 96), (yy 97), (yy 98), (yy 99), (yy 100), ud, ud, ud, ud, ud, ud, ud, ud, ud, ud, ud, ud, ud, ud, ud, ud, ud, ud, ud, ud, ud, ud, ud, ud, ud, ud, ud, ud, ud, ud], []⟩) (by kernel_rfl) ?_
      refine wp_seq ?_
      refine wp_seq ?_
      refine wl_start ?_
      refine wl_take (some 101) (.int .u64 y5) rfl rfl (by kernel_rfl) ?_
      refine wl_take (some 102) (.int .u64 y6) rfl rfl (by kernel_rfl) ?_
      by_cases c23 : y6 < y5
      · skip
        refine wl_eq (some 103) (.bool (decide ((y6 : Int) < y5))) (.bool true) (congrArg Value.bool (decide_eq_true c23)) rfl rfl (by kernel_rfl) ?_
        refine wl_nil ?_
        refine wp_then ?_
        refine wp_cond_true (by kernel_rfl) ?_
        refine wl_start ?_
        refine wl_take (some 104) (.int .u64 y6) rfl rfl (by kernel_rfl) ?_
        refine wl_take (some 105) (.int .u64 y5) rfl rfl (by kernel_rfl) ?_
        refine wl_take (some 5) (.int .u64 y6) rfl rfl (by kernel_rfl) ?_
        refine wl_take (some 6) (.int .u64 y5) rfl rfl (by kernel_rfl) ?_
        refine wl_nil ?_
        refine wp_then ?_
        refine wp_seq ?_
        refine wl_start ?_
        refine wl_take (some 106) (.int .u64 y4) rfl rfl (by kernel_rfl) ?_
        refine wl_take (some 107) (.int .u64 y6) rfl rfl (by kernel_rfl) ?_
        refine wl_call (some 108) 23 #[.int .u64 y4, .int .u64 y6] rfl rfl (by kernel_rfl) (sCut by4 by6) ?_
        rintro e1 v19w ⟨rfl, B⟩
        refine ⟨_, rfl, ?_⟩
        replace BB := joinB BB B
        clear B
        have rg24 := cut_rng (p := y6) by4 by6
        refine wl_take (some 109) (.int .u64 y4) rfl rfl (by kernel_rfl) ?_
        refine wl_take (some 110) (.int .u64 y5) rfl rfl (by kernel_rfl) ?_
        refine wl_call (some 111) 23 #[.int .u64 y4, .int .u64 y5] rfl rfl (by kernel_rfl) (sCut by4 by5) ?_
        rintro e1 v20w ⟨rfl, B⟩
        refine ⟨_, rfl, ?_⟩
        replace BB := joinB BB B
        clear B
        have rg25 := cut_rng (p := y5) by4 by5
        by_cases c26 : y4 * min y6 10000 / 10000 ≤ y4 * min y5 10000 / 10000
        · skip
          refine wl_eq (some 112) (.bool (decide ((y4 * min y6 10000 / 10000 : Int) ≤ y4 * min y5 10000 / 10000))) (.bool true) (congrArg Value.bool (decide_eq_true c26)) rfl rfl (by kernel_rfl) ?_
          refine wl_take (some 113) (.bool true) rfl rfl (by kernel_rfl) ?_
          refine wg_take (some 114) (.int .u64 y4) (by kernel_rfl) rfl (by kernel_rfl) ?_
          refine wg_take (some 115) (.int .u64 y5) (by kernel_rfl) rfl (by kernel_rfl) ?_
          refine wg_call (some 116) 23 #[.int .u64 y4, .int .u64 y5] (by kernel_rfl) rfl (by kernel_rfl) (sCut by4 by5) ?_
          rintro e1 v21w ⟨rfl, B⟩
          refine ⟨_, rfl, ?_⟩
          replace BB := joinB BB B
          clear B
          have rg27 := cut_rng (p := y5) by4 by5
          refine wg_take (some 117) (.int .u64 y4) (by kernel_rfl) rfl (by kernel_rfl) ?_
          by_cases c28 : y4 * min y5 10000 / 10000 ≤ y4
          · skip
            refine wg_eq (some 118) (.bool (decide ((y4 * min y5 10000 / 10000 : Int) ≤ y4))) (.bool true) (congrArg Value.bool (decide_eq_true c28)) (by kernel_rfl) rfl (by kernel_rfl) ?_
            refine wl_take (some 119) (.bool true) rfl rfl (by kernel_rfl) ?_
            refine wl_take (some 120) (.bool true) rfl rfl (by kernel_rfl) ?_
            refine wg_take (some 121) (.int .u64 y4) (by kernel_rfl) rfl (by kernel_rfl) ?_
            refine wl_frame (a' := ⟨#[(.int .u64 T1), (.agg #[.slice a1 len1 cap1]), (.agg #[.slice a2 len2 cap2]), (.agg #[.slice a3 len3 cap3]), (.int .u64 y4), (.int .u64 y6), (.int .u64 y5), ud, (.pointer (some ⟨g1v, 0, none⟩)), (.pointer (some ⟨g2v, 0, none⟩)), (.pointer (some ⟨g3v, 0, none⟩)), ud, ud, ud, (yy 14), (.int .u64 (reV T1 x1 x2)), (.int .i64 (reE x1 x2)), (.pointer (some ⟨g9v, 0, none⟩)), (.int .i64 0), (yy 19), (yy 20), (yy 21), (yy 22), (.bool true), (.bool false), (.int .u64 y0), (.int .u64 T1), (.agg #[.slice a1 len1 cap1]), (.agg #[.slice a2 len2 cap2]), (.agg #[.slice a3 len3 cap3]), (.slice (some ⟨g5v, 0, none⟩) 3 3), (.bool true), (.bool false), (.tuple #[.int .u64 (reV T1 x1 x2), .int .i64 (reE x1 x2)]), (.int .u64 T1), (.agg #[.slice a1 len1 cap1]), (.agg #[.slice a2 len2 cap2]), (.tuple #[.int .u64 (reV T1 x1 x2), .int .i64 (reE x1 x2)]), (.int .u64 (reV T1 x1 x2)), (.int .i64 (reE x1 x2)), (.tuple #[.agg #[.slice Az6 Nz6 Cz6], .int .i64 0]), (.agg #[.slice a1 len1 cap1]), (.agg #[.slice a2 len2 cap2]), (.tuple #[.agg #[.slice Az6 Nz6 Cz6], .int .i64 0]), (.agg #[.slice Az6 Nz6 Cz6]), (.int .i64 0), (yy 46), (yy 47), (yy 48), (yy 49), (yy 50), (yy 51), (yy 52), (yy 53), (yy 54), (yy 55), (yy 56), (yy 57), (yy 58), (yy 59), (yy 60), (yy 61), (yy 62), (yy 63), (yy 64), (yy 65), (yy 66), (yy 67), (yy 68), (yy 69), (yy 70), (yy 71), (yy 72), (yy 73), (yy 74), (yy 75), (yy 76), (yy 77), (yy 78), (yy 79), (yy 80), (yy 81), (yy 82), (yy 83), (yy 84), (yy 85), (yy 86), (yy 87), (yy 88), (yy 89), (yy 90), (yy 91), (yy 92), (yy 93), (yy 94), (yy 95), (yy 96), (yy 97), (yy 98), (yy 99), (yy 100), (.int .u64 y5), (.int .u64 y6), (.bool true), (.int .u64 y6), (.int .u64 y5), (.int .u64 y4), (.int .u64 y6), (.int .u64 (y4 * min y6 10000 / 10000)), (.int .u64 y4), (.int .u64 y5), (.int .u64 (y4 * min y5 10000 / 10000)), (.bool true), (.bool true), (.int .u64 y4), (.int .u64 y5), (.int .u64 (y4 * min y5 10000 / 10000)), (.int .u64 y4), (.bool true), (.bool true), (.bool true), (.int .u64 y4), ud, ud, ud, ud, ud, ud, ud, ud, ud], []⟩) (by kernel_rfl) ?_
            refine wg_call (some 122) 23 #[.int .u64 y4, .int .u64 10000] (by kernel_rfl) rfl (by kernel_rfl) (sCut by4 (⟨by decide, by decide⟩ : (0 : Int) ≤ 10000 ∧ (10000 : Int) < 18446744073709551616)) ?_
            rintro e1 v22w ⟨rfl, B⟩
            refine ⟨_, rfl, ?_⟩
            replace BB := joinB BB B
            clear B
            have rg29 := cut_rng (p := 10000) by4 (⟨by decide, by decide⟩ : (0 : Int) ≤ 10000 ∧ (10000 : Int) < 18446744073709551616)
            refine wg_take (some 123) (.int .u64 y4) (by kernel_rfl) rfl (by kernel_rfl) ?_
            by_cases c30 : y4 * min 10000 10000 / 10000 = y4
            · skip
              refine wg_eq (some 124) (.bool ((y4 * min 10000 10000 / 10000 : Int) == y4)) (.bool true) (congrArg Value.bool (beq_iff_eq.2 c30)) (by kernel_rfl) rfl (by kernel_rfl) ?_
              refine wl_take (some 125) (.bool true) rfl rfl (by kernel_rfl) ?_
              refine wl_take (some 126) (.bool true) rfl rfl (by kernel_rfl) ?_
              refine wg_take (some 127) (.int .u64 y4) (by kernel_rfl) rfl (by kernel_rfl) ?_
              refine wg_call (some 128) 23 #[.int .u64 y4, .int .u64 0] (by kernel_rfl) rfl (by kernel_rfl) (sCut by4 (⟨by decide, by decide⟩ : (0 : Int) ≤ 0 ∧ (0 : Int) < 18446744073709551616)) ?_
              rintro e1 v23w ⟨rfl, B⟩
              refine ⟨_, rfl, ?_⟩
              replace BB := joinB BB B
              clear B
              have rg31 := cut_rng (p := 0) by4 (⟨by decide, by decide⟩ : (0 : Int) ≤ 0 ∧ (0 : Int) < 18446744073709551616)
              by_cases c32 : y4 * min 0 10000 / 10000 = 0
              · skip
                refine wg_eq (some 129) (.bool ((y4 * min 0 10000 / 10000 : Int) == 0)) (.bool true) (congrArg Value.bool (beq_iff_eq.2 c32)) (by kernel_rfl) rfl (by kernel_rfl) ?_
                refine wl_take (some 130) (.bool true) rfl rfl (by kernel_rfl) ?_
                refine wl_take (some 14) (.bool true) rfl rfl (by kernel_rfl) ?_
                refine wl_nil ?_
                refine wp_then ?_
                refine wp_frame (a' := ⟨#[(.int .u64 T1), (.agg #[.slice a1 len1 cap1]), (.agg #[.slice a2 len2 cap2]), (.agg #[.slice a3 len3 cap3]), (.int .u64 y4), (.int .u64 y6), (.int .u64 y5), ud, (.pointer (some ⟨g1v, 0, none⟩)), (.pointer (some ⟨g2v, 0, none⟩)), (.pointer (some ⟨g3v, 0, none⟩)), ud, ud, ud, (.bool true), (.int .u64 (reV T1 x1 x2)), (.int .i64 (reE x1 x2)), (.pointer (some ⟨g9v, 0, none⟩)), (.int .i64 0), (yy 19), (yy 20), (yy 21), (yy 22), (.bool true), (.bool false), (.int .u64 y0), (.int .u64 T1), (.agg #[.slice a1 len1 cap1]), (.agg #[.slice a2 len2 cap2]), (.agg #[.slice a3 len3 cap3]), (.slice (some ⟨g5v, 0, none⟩) 3 3), (.bool true), (.bool false), (.tuple #[.int .u64 (reV T1 x1 x2), .int .i64 (reE x1 x2)]), (.int .u64 T1), (.agg #[.slice a1 len1 cap1]), (.agg #[.slice a2 len2 cap2]), (.tuple #[.int .u64 (reV T1 x1 x2), .int .i64 (reE x1 x2)]), (.int .u64 (reV T1 x1 x2)), (.int .i64 (reE x1 x2)), (.tuple #[.agg #[.slice Az6 Nz6 Cz6], .int .i64 0]), (.agg #[.slice a1 len1 cap1]), (.agg #[.slice a2 len2 cap2]), (.tuple #[.agg #[.slice Az6 Nz6 Cz6], .int .i64 0]), (.agg #[.slice Az6 Nz6 Cz6]), (.int .i64 0), (yy 46), (yy 47), (yy 48), (yy 49), (yy 50), (yy 51), (yy 52), (yy 53), (yy 54), (yy 55), (yy 56), (yy 57), (yy 58), (yy 59), (yy 60), (yy 61), (yy 62), (yy 63), (yy 64), (yy 65), (yy 66), (yy 67), (yy 68), (yy 69), (yy 70), (yy 71), (yy 72), (yy 73), (yy 74), (yy 75), (yy 76), (yy 77), (yy 78), (yy 79), (yy 80), (yy 81), (yy 82), (yy 83), (yy 84), (yy 85), (yy 86), (yy 87), (yy 88), (yy 89), (yy 90), (yy 91), (yy 92), (yy 93), (yy 94), (yy 95), (yy 96), (yy 97), (yy 98), (yy 99), (yy 100), (.int .u64 y5), (.int .u64 y6), (.bool true), (.int .u64 y6), (.int .u64 y5), (.int .u64 y4), (.int .u64 y6), (.int .u64 (y4 * min y6 10000 / 10000)), (.int .u64 y4), (.int .u64 y5), (.int .u64 (y4 * min y5 10000 / 10000)), (.bool true), (.bool true), (.int .u64 y4), (.int .u64 y5), (.int .u64 (y4 * min y5 10000 / 10000)), (.int .u64 y4), (.bool true), (.bool true), (.bool true), (.int .u64 y4), (.int .u64 (y4 * min 10000 10000 / 10000)), (.int .u64 y4), (.bool true), (.bool true), (.bool true), (.int .u64 y4), (.int .u64 (y4 * min 0 10000 / 10000)), (.bool true), (.bool true)], []⟩) (by kernel_rfl) ?_
                refine wp_ret ?_
                repeat (first | refine ret_then ?_ | refine ret_block ?_)
                refine bodyPost_ret (results_tmp rfl _ _ _) rfl ?_
                exact ⟨by kernel_rfl, BB⟩
              · skip
                refine wg_eq (some 129) (.bool ((y4 * min 0 10000 / 10000 : Int) == 0)) (.bool false) (congrArg Value.bool (beq_eq_false_iff_ne.2 c32)) (by kernel_rfl) rfl (by kernel_rfl) ?_
                refine wl_take (some 130) (.bool false) rfl rfl (by kernel_rfl) ?_
                refine wl_take (some 14) (.bool false) rfl rfl (by kernel_rfl) ?_
                refine wl_nil ?_
                refine wp_then ?_
                refine wp_frame (a' := ⟨#[(.int .u64 T1), (.agg #[.slice a1 len1 cap1]), (.agg #[.slice a2 len2 cap2]), (.agg #[.slice a3 len3 cap3]), (.int .u64 y4), (.int .u64 y6), (.int .u64 y5), ud, (.pointer (some ⟨g1v, 0, none⟩)), (.pointer (some ⟨g2v, 0, none⟩)), (.pointer (some ⟨g3v, 0, none⟩)), ud, ud, ud, (.bool false), (.int .u64 (reV T1 x1 x2)), (.int .i64 (reE x1 x2)), (.pointer (some ⟨g9v, 0, none⟩)), (.int .i64 0), (yy 19), (yy 20), (yy 21), (yy 22), (.bool true), (.bool false), (.int .u64 y0), (.int .u64 T1), (.agg #[.slice a1 len1 cap1]), (.agg #[.slice a2 len2 cap2]), (.agg #[.slice a3 len3 cap3]), (.slice (some ⟨g5v, 0, none⟩) 3 3), (.bool true), (.bool false), (.tuple #[.int .u64 (reV T1 x1 x2), .int .i64 (reE x1 x2)]), (.int .u64 T1), (.agg #[.slice a1 len1 cap1]), (.agg #[.slice a2 len2 cap2]), (.tuple #[.int .u64 (reV T1 x1 x2), .int .i64 (reE x1 x2)]), (.int .u64 (reV T1 x1 x2)), (.int .i64 (reE x1 x2)), (.tuple #[.agg #[.slice Az6 Nz6 Cz6], .int .i64 0]), (.agg #[.slice a1 len1 cap1]), (.agg #[.slice a2 len2 cap2]), (.tuple #[.agg #[.slice Az6 Nz6 Cz6], .int .i64 0]), (.agg #[.slice Az6 Nz6 Cz6]), (.int .i64 0), (yy 46), (yy 47), (yy 48), (yy 49), (yy 50), (yy 51), (yy 52), (yy 53), (yy 54), (yy 55), (yy 56), (yy 57), (yy 58), (yy 59), (yy 60), (yy 61), (yy 62), (yy 63), (yy 64), (yy 65), (yy 66), (yy 67), (yy 68), (yy 69), (yy 70), (yy 71), (yy 72), (yy 73), (yy 74), (yy 75), (yy 76), (yy 77), (yy 78), (yy 79), (yy 80), (yy 81), (yy 82), (yy 83), (yy 84), (yy 85), (yy 86), (yy 87), (yy 88), (yy 89), (yy 90), (yy 91), (yy 92), (yy 93), (yy 94), (yy 95), (yy 96), (yy 97), (yy 98), (yy 99), (yy 100), (.int .u64 y5), (.int .u64 y6), (.bool true), (.int .u64 y6), (.int .u64 y5), (.int .u64 y4), (.int .u64 y6), (.int .u64 (y4 * min y6 10000 / 10000)), (.int .u64 y4), (.int .u64 y5), (.int .u64 (y4 * min y5 10000 / 10000)), (.bool true), (.bool true), (.int .u64 y4), (.int .u64 y5), (.int .u64 (y4 * min y5 10000 / 10000)), (.int .u64 y4), (.bool true), (.bool true), (.bool true), (.int .u64 y4), (.int .u64 (y4 * min 10000 10000 / 10000)), (.int .u64 y4), (.bool true), (.bool true), (.bool true), (.int .u64 y4), (.int .u64 (y4 * min 0 10000 / 10000)), (.bool false), (.bool false)], []⟩) (by kernel_rfl) ?_
                exfalso
                have kk := leave_two (T := T1) (S := x1) (x := x2) (y := x3) hx2 hx3
                have c1 := fun h => cut_le (n := y4) (p := y5) (q := y6) by4.1 h
                have c2 := fun h => cut_le (n := y4) (p := y6) (q := y5) by4.1 h
                have c3 := cut_n (n := y4) (q := y5) by4.1
                have c4 := cut_n (n := y4) (q := y6) by4.1
                have c5 := cut_full y4
                have c6 := cut_none y4
                clear BB
                omega
            · skip
              refine wg_eq (some 124) (.bool ((y4 * min 10000 10000 / 10000 : Int) == y4)) (.bool false) (congrArg Value.bool (beq_eq_false_iff_ne.2 c30)) (by kernel_rfl) rfl (by kernel_rfl) ?_
              refine wl_take (some 125) (.bool false) rfl rfl (by kernel_rfl) ?_
              refine wl_take (some 126) (.bool false) rfl rfl (by kernel_rfl) ?_
              refine wg_not (some 127) (by kernel_rfl) rfl ?_
              refine wg_not (some 128) (by kernel_rfl) rfl ?_
              refine wg_not (some 129) (by kernel_rfl) rfl ?_
              refine wl_take (some 130) (.bool false) rfl rfl (by kernel_rfl) ?_
              refine wl_take (some 14) (.bool false) rfl rfl (by kernel_rfl) ?_
              refine wl_nil ?_
              refine wp_then ?_
              refine wp_frame (a' := ⟨#[(.int .u64 T1), (.agg #[.slice a1 len1 cap1]), (.agg #[.slice a2 len2 cap2]), (.agg #[.slice a3 len3 cap3]), (.int .u64 y4), (.int .u64 y6), (.int .u64 y5), ud, (.pointer (some ⟨g1v, 0, none⟩)), (.pointer (some ⟨g2v, 0, none⟩)), (.pointer (some ⟨g3v, 0, none⟩)), ud, ud, ud, (.bool false), (.int .u64 (reV T1 x1 x2)), (.int .i64 (reE x1 x2)), (.pointer (some ⟨g9v, 0, none⟩)), (.int .i64 0), (yy 19), (yy 20), (yy 21), (yy 22), (.bool true), (.bool false), (.int .u64 y0), (.int .u64 T1), (.agg #[.slice a1 len1 cap1]), (.agg #[.slice a2 len2 cap2]), (.agg #[.slice a3 len3 cap3]), (.slice (some ⟨g5v, 0, none⟩) 3 3), (.bool true), (.bool false), (.tuple #[.int .u64 (reV T1 x1 x2), .int .i64 (reE x1 x2)]), (.int .u64 T1), (.agg #[.slice a1 len1 cap1]), (.agg #[.slice a2 len2 cap2]), (.tuple #[.int .u64 (reV T1 x1 x2), .int .i64 (reE x1 x2)]), (.int .u64 (reV T1 x1 x2)), (.int .i64 (reE x1 x2)), (.tuple #[.agg #[.slice Az6 Nz6 Cz6], .int .i64 0]), (.agg #[.slice a1 len1 cap1]), (.agg #[.slice a2 len2 cap2]), (.tuple #[.agg #[.slice Az6 Nz6 Cz6], .int .i64 0]), (.agg #[.slice Az6 Nz6 Cz6]), (.int .i64 0), (yy 46), (yy 47), (yy 48), (yy 49), (yy 50), (yy 51), (yy 52), (yy 53), (yy 54), (yy 55), (yy 56), (yy 57), (yy 58), (yy 59), (yy 60), (yy 61), (yy 62), (yy 63), (yy 64), (yy 65), (yy 66), (yy 67), (yy 68), (yy 69), (yy 70), (yy 71), (yy 72), (yy 73), (yy 74), (yy 75), (yy 76), (yy 77), (yy 78), (yy 79), (yy 80), (yy 81), (yy 82), (yy 83), (yy 84), (yy 85), (yy 86), (yy 87), (yy 88), (yy 89), (yy 90), (yy 91), (yy 92), (yy 93), (yy 94), (yy 95), (yy 96), (yy 97), (yy 98), (yy 99), (yy 100), (.int .u64 y5), (.int .u64 y6), (.bool true), (.int .u64 y6), (.int .u64 y5), (.int .u64 y4), (.int .u64 y6), (.int .u64 (y4 * min y6 10000 / 10000)), (.int .u64 y4), (.int .u64 y5), (.int .u64 (y4 * min y5 10000 / 10000)), (.bool true), (.bool true), (.int .u64 y4), (.int .u64 y5), (.int .u64 (y4 * min y5 10000 / 10000)), (.int .u64 y4), (.bool true), (.bool true), (.bool true), (.int .u64 y4), (.int .u64 (y4 * min 10000 10000 / 10000)), (.int .u64 y4), (.bool false), (.bool false), (.bool false), ud, ud, ud, (.bool false)], []⟩) (by kernel_rfl) ?_
              exfalso
              have kk := leave_two (T := T1) (S := x1) (x := x2) (y := x3) hx2 hx3
              have c1 := fun h => cut_le (n := y4) (p := y5) (q := y6) by4.1 h
              have c2 := fun h => cut_le (n := y4) (p := y6) (q := y5) by4.1 h
              have c3 := cut_n (n := y4) (q := y5) by4.1
              have c4 := cut_n (n := y4) (q := y6) by4.1
              have c5 := cut_full y4
              have c6 := cut_none y4
              clear BB
              omega
          · skip
            refine wg_eq (some 118) (.bool (decide ((y4 * min y5 10000 / 10000 : Int) ≤ y4))) (.bool false) (congrArg Value.bool (decide_eq_false c28)) (by kernel_rfl) rfl (by kernel_rfl) ?_
            refine wl_take (some 119) (.bool false) rfl rfl (by kernel_rfl) ?_
            refine wl_take (some 120) (.bool false) rfl rfl (by kernel_rfl) ?_
            refine wg_not (some 121) (by kernel_rfl) rfl ?_
            refine wl_frame (a' := ⟨#[(.int .u64 T1), (.agg #[.slice a1 len1 cap1]), (.agg #[.slice a2 len2 cap2]), (.agg #[.slice a3 len3 cap3]), (.int .u64 y4), (.int .u64 y6), (.int .u64 y5), ud, (.pointer (some ⟨g1v, 0, none⟩)), (.pointer (some ⟨g2v, 0, none⟩)), (.pointer (some ⟨g3v, 0, none⟩)), ud, ud, ud, (yy 14), (.int .u64 (reV T1 x1 x2)), (.int .i64 (reE x1 x2)), (.pointer (some ⟨g9v, 0, none⟩)), (.int .i64 0), (yy 19), (yy 20), (yy 21), (yy 22), (.bool true), (.bool false), (.int .u64 y0), (.int .u64 T1), (.agg #[.slice a1 len1 cap1]), (.agg #[.slice a2 len2 cap2]), (.agg #[.slice a3 len3 cap3]), (.slice (some ⟨g5v, 0, none⟩) 3 3), (.bool true), (.bool false), (.tuple #[.int .u64 (reV T1 x1 x2), .int .i64 (reE x1 x2)]), (.int .u64 T1), (.agg #[.slice a1 len1 cap1]), (.agg #[.slice a2 len2 cap2]), (.tuple #[.int .u64 (reV T1 x1 x2), .int .i64 (reE x1 x2)]), (.int .u64 (reV T1 x1 x2)), (.int .i64 (reE x1 x2)), (.tuple #[.agg #[.slice Az6 Nz6 Cz6], .int .i64 0]), (.agg #[.slice a1 len1 cap1]), (.agg #[.slice a2 len2 cap2]), (.tuple #[.agg #[.slice Az6 Nz6 Cz6], .int .i64 0]), (.agg #[.slice Az6 Nz6 Cz6]), (.int .i64 0), (yy 46), (yy 47), (yy 48), (yy 49), (yy 50), (yy 51), (yy 52), (yy 53), (yy 54), (yy 55), (yy 56), (yy 57), (yy 58), (yy 59), (yy 60), (yy 61), (yy 62), (yy 63), (yy 64), (yy 65), (yy 66), (yy 67), (yy 68), (yy 69), (yy 70), (yy 71), (yy 72), (yy 73), (yy 74), (yy 75), (yy 76), (yy 77), (yy 78), (yy 79), (yy 80), (yy 81), (yy 82), (yy 83), (yy 84), (yy 85), (yy 86), (yy 87), (yy 88), (yy 89), (yy 90), (yy 91), (yy 92), (yy 93), (yy 94), (yy 95), (yy 96), (yy 97), (yy 98), (yy 99), (yy 100), (.int .u64 y5), (.int .u64 y6), (.bool true), (.int .u64 y6), (.int .u64 y5), (.int .u64 y4), (.int .u64 y6), (.int .u64 (y4 * min y6 10000 / 10000)), (.int .u64 y4), (.int .u64 y5), (.int .u64 (y4 * min y5 10000 / 10000)), (.bool true), (.bool true), (.int .u64 y4), (.int .u64 y5), (.int .u64 (y4 * min y5 10000 / 10000)), (.int .u64 y4), (.bool false), (.bool false), (.bool false), ud, ud, ud, ud, ud, ud, ud, ud, ud, ud], []⟩) (by kernel_rfl) ?_
            refine wg_not (some 122) (by kernel_rfl) rfl ?_
            refine wg_not (some 123) (by kernel_rfl) rfl ?_
            refine wg_not (some 124) (by kernel_rfl) rfl ?_
            refine wl_take (some 125) (.bool false) rfl rfl (by kernel_rfl) ?_
            refine wl_take (some 126) (.bool false) rfl rfl (by kernel_rfl) ?_
            refine wg_not (some 127) (by kernel_rfl) rfl ?_
            refine wg_not (some 128) (by kernel_rfl) rfl ?_
            refine wg_not (some 129) (by kernel_rfl) rfl ?_
            refine wl_take (some 130) (.bool false) rfl rfl (by kernel_rfl) ?_
            refine wl_take (some 14) (.bool false) rfl rfl (by kernel_rfl) ?_
            refine wl_nil ?_
            refine wp_then ?_
            refine wp_frame (a' := ⟨#[(.int .u64 T1), (.agg #[.slice a1 len1 cap1]), (.agg #[.slice a2 len2 cap2]), (.agg #[.slice a3 len3 cap3]), (.int .u64 y4), (.int .u64 y6), (.int .u64 y5), ud, (.pointer (some ⟨g1v, 0, none⟩)), (.pointer (some ⟨g2v, 0, none⟩)), (.pointer (some ⟨g3v, 0, none⟩)), ud, ud, ud, (.bool false), (.int .u64 (reV T1 x1 x2)), (.int .i64 (reE x1 x2)), (.pointer (some ⟨g9v, 0, none⟩)), (.int .i64 0), (yy 19), (yy 20), (yy 21), (yy 22), (.bool true), (.bool false), (.int .u64 y0), (.int .u64 T1), (.agg #[.slice a1 len1 cap1]), (.agg #[.slice a2 len2 cap2]), (.agg #[.slice a3 len3 cap3]), (.slice (some ⟨g5v, 0, none⟩) 3 3), (.bool true), (.bool false), (.tuple #[.int .u64 (reV T1 x1 x2), .int .i64 (reE x1 x2)]), (.int .u64 T1), (.agg #[.slice a1 len1 cap1]), (.agg #[.slice a2 len2 cap2]), (.tuple #[.int .u64 (reV T1 x1 x2), .int .i64 (reE x1 x2)]), (.int .u64 (reV T1 x1 x2)), (.int .i64 (reE x1 x2)), (.tuple #[.agg #[.slice Az6 Nz6 Cz6], .int .i64 0]), (.agg #[.slice a1 len1 cap1]), (.agg #[.slice a2 len2 cap2]), (.tuple #[.agg #[.slice Az6 Nz6 Cz6], .int .i64 0]), (.agg #[.slice Az6 Nz6 Cz6]), (.int .i64 0), (yy 46), (yy 47), (yy 48), (yy 49), (yy 50), (yy 51), (yy 52), (yy 53), (yy 54), (yy 55), (yy 56), (yy 57), (yy 58), (yy 59), (yy 60), (yy 61), (yy 62), (yy 63), (yy 64), (yy 65), (yy 66), (yy 67), (yy 68), (yy 69), (yy 70), (yy 71), (yy 72), (yy 73), (yy 74), (yy 75), (yy 76), (yy 77), (yy 78), (yy 79), (yy 80), (yy 81), (yy 82), (yy 83), (yy 84), (yy 85), (yy 86), (yy 87), (yy 88), (yy 89), (yy 90), (yy 91), (yy 92), (yy 93), (yy 94), (yy 95), (yy 96), (yy 97), (yy 98), (yy 99), (yy 100), (.int .u64 y5), (.int .u64 y6), (.bool true), (.int .u64 y6), (.int .u64 y5), (.int .u64 y4), (.int .u64 y6), (.int .u64 (y4 * min y6 10000 / 10000)), (.int .u64 y4), (.int .u64 y5), (.int .u64 (y4 * min y5 10000 / 10000)), (.bool true), (.bool true), (.int .u64 y4), (.int .u64 y5), (.int .u64 (y4 * min y5 10000 / 10000)), (.int .u64 y4), (.bool false), (.bool false), (.bool false), ud, ud, ud, ud, (.bool false), (.bool false), ud, ud, ud, (.bool false)], []⟩) (by kernel_rfl) ?_
            exfalso
            have kk := leave_two (T := T1) (S := x1) (x := x2) (y := x3) hx2 hx3
            have c1 := fun h => cut_le (n := y4) (p := y5) (q := y6) by4.1 h
            have c2 := fun h => cut_le (n := y4) (p := y6) (q := y5) by4.1 h
            have c3 := cut_n (n := y4) (q := y5) by4.1
            have c4 := cut_n (n := y4) (q := y6) by4.1
            have c5 := cut_full y4
            have c6 := cut_none y4
            clear BB
            omega
        · skip
          refine wl_eq (some 112) (.bool (decide ((y4 * min y6 10000 / 10000 : Int) ≤ y4 * min y5 10000 / 10000))) (.bool false) (congrArg Value.bool (decide_eq_false c26)) rfl rfl (by kernel_rfl) ?_
          refine wl_take (some 113) (.bool false) rfl rfl (by kernel_rfl) ?_
          refine wg_not (some 114) (by kernel_rfl) rfl ?_
          refine wg_not (some 115) (by kernel_rfl) rfl ?_
          refine wg_not (some 116) (by kernel_rfl) rfl ?_
          refine wg_not (some 117) (by kernel_rfl) rfl ?_
          refine wg_not (some 118) (by kernel_rfl) rfl ?_
          refine wl_take (some 119) (.bool false) rfl rfl (by kernel_rfl) ?_
          refine wl_take (some 120) (.bool false) rfl rfl (by kernel_rfl) ?_
          refine wg_not (some 121) (by kernel_rfl) rfl ?_
          refine wl_frame (a' := ⟨#[(.int .u64 T1), (.agg #[.slice a1 len1 cap1]), (.agg #[.slice a2 len2 cap2]), (.agg #[.slice a3 len3 cap3]), (.int .u64 y4), (.int .u64 y6), (.int .u64 y5), ud, (.pointer (some ⟨g1v, 0, none⟩)), (.pointer (some ⟨g2v, 0, none⟩)), (.pointer (some ⟨g3v, 0, none⟩)), ud, ud, ud, (yy 14), (.int .u64 (reV T1 x1 x2)), (.int .i64 (reE x1 x2)), (.pointer (some ⟨g9v, 0, none⟩)), (.int .i64 0), (yy 19), (yy 20), (yy 21), (yy 22), (.bool true), (.bool false), (.int .u64 y0), (.int .u64 T1), (.agg #[.slice a1 len1 cap1]), (.agg #[.slice a2 len2 cap2]), (.agg #[.slice a3 len3 cap3]), (.slice (some ⟨g5v, 0, none⟩) 3 3), (.bool true), (.bool false), (.tuple #[.int .u64 (reV T1 x1 x2), .int .i64 (reE x1 x2)]), (.int .u64 T1), (.agg #[.slice a1 len1 cap1]), (.agg #[.slice a2 len2 cap2]), (.tuple #[.int .u64 (reV T1 x1 x2), .int .i64 (reE x1 x2)]), (.int .u64 (reV T1 x1 x2)), (.int .i64 (reE x1 x2)), (.tuple #[.agg #[.slice Az6 Nz6 Cz6], .int .i64 0]), (.agg #[.slice a1 len1 cap1]), (.agg #[.slice a2 len2 cap2]), (.tuple #[.agg #[.slice Az6 Nz6 Cz6], .int .i64 0]), (.agg #[.slice Az6 Nz6 Cz6]), (.int .i64 0), (yy 46), (yy 47), (yy 48), (yy 49), (yy 50), (yy 51), (yy 52), (yy 53), (yy 54), (yy 55), (yy 56), (yy 57), (yy 58), (yy 59), (yy 60), (yy 61), (yy 62), (yy 63), (yy 64), (yy 65), (yy 66), (yy 67), (yy 68), (yy 69), (yy 70), (yy 71), (yy 72), (yy 73), (yy 74), (yy 75), (yy 76), (yy 77), (yy 78), (yy 79), (yy 80), (yy 81), (yy 82), (yy 83), (yy 84), (yy 85), (yy 86), (yy 87), (yy 88), (yy 89), (yy 90), (yy 91), (yy 92), (yy 93), (yy 94), (yy 95), (yy 96), (yy 97), (yy 98), (yy 99), (yy 100), (.int .u64 y5), (.int .u64 y6), (.bool true), (.int .u64 y6), (.int .u64 y5), (.int .u64 y4), (.int .u64 y6), (.int .u64 (y4 * min y6 10000 / 10000)), (.int .u64 y4), (.int .u64 y5), (.int .u64 (y4 * min y5 10000 / 10000)), (.bool false), (.bool false), ud, ud, ud, ud, ud, (.bool false), (.bool false), ud, ud, ud, ud, ud, ud, ud, ud, ud, ud], []⟩) (by kernel_rfl) ?_
          refine wg_not (some 122) (by kernel_rfl) rfl ?_
          refine wg_not (some 123) (by kernel_rfl) rfl ?_
          refine wg_not (some 124) (by kernel_rfl) rfl ?_
          refine wl_take (some 125) (.bool false) rfl rfl (by kernel_rfl) ?_
          refine wl_take (some 126) (.bool false) rfl rfl (by kernel_rfl) ?_
          refine wg_not (some 127) (by kernel_rfl) rfl ?_
          refine wg_not (some 128) (by kernel_rfl) rfl ?_
          refine wg_not (some 129) (by kernel_rfl) rfl ?_
          refine wl_take (some 130) (.bool false) rfl rfl (by kernel_rfl) ?_
          refine wl_take (some 14) (.bool false) rfl rfl (by kernel_rfl) ?_
          refine wl_nil ?_
          refine wp_then ?_
          refine wp_frame (a' := ⟨#[(.int .u64 T1), (.agg #[.slice a1 len1 cap1]), (.agg #[.slice a2 len2 cap2]), (.agg #[.slice a3 len3 cap3]), (.int .u64 y4), (.int .u64 y6), (.int .u64 y5), ud, (.pointer (some ⟨g1v, 0, none⟩)), (.pointer (some ⟨g2v, 0, none⟩)), (.pointer (some ⟨g3v, 0, none⟩)), ud, ud, ud, (.bool false), (.int .u64 (reV T1 x1 x2)), (.int .i64 (reE x1 x2)), (.pointer (some ⟨g9v, 0, none⟩)), (.int .i64 0), (yy 19), (yy 20), (yy 21), (yy 22), (.bool true), (.bool false), (.int .u64 y0), (.int .u64 T1), (.agg #[.slice a1 len1 cap1]), (.agg #[.slice a2 len2 cap2]), (.agg #[.slice a3 len3 cap3]), (.slice (some ⟨g5v, 0, none⟩) 3 3), (.bool true), (.bool false), (.tuple #[.int .u64 (reV T1 x1 x2), .int .i64 (reE x1 x2)]), (.int .u64 T1), (.agg #[.slice a1 len1 cap1]), (.agg #[.slice a2 len2 cap2]), (.tuple #[.int .u64 (reV T1 x1 x2), .int .i64 (reE x1 x2)]), (.int .u64 (reV T1 x1 x2)), (.int .i64 (reE x1 x2)), (.tuple #[.agg #[.slice Az6 Nz6 Cz6], .int .i64 0]), (.agg #[.slice a1 len1 cap1]), (.agg #[.slice a2 len2 cap2]), (.tuple #[.agg #[.slice Az6 Nz6 Cz6], .int .i64 0]), (.agg #[.slice Az6 Nz6 Cz6]), (.int .i64 0), (yy 46), (yy 47), (yy 48), (yy 49), (yy 50), (yy 51), (yy 52), (yy 53), (yy 54), (yy 55), (yy 56), (yy 57), (yy 58), (yy 59), (yy 60), (yy 61), (yy 62), (yy 63), (yy 64), (yy 65), (yy 66), (yy 67), (yy 68), (yy 69), (yy 70), (yy 71), (yy 72), (yy 73), (yy 74), (yy 75), (yy 76), (yy 77), (yy 78), (yy 79), (yy 80), (yy 81), (yy 82), (yy 83), (yy 84), (yy 85), (yy 86), (yy 87), (yy 88), (yy 89), (yy 90), (yy 91), (yy 92), (yy 93), (yy 94), (yy 95), (yy 96), (yy 97), (yy 98), (yy 99), (yy 100), (.int .u64 y5), (.int .u64 y6), (.bool true), (.int .u64 y6), (.int .u64 y5), (.int .u64 y4), (.int .u64 y6), (.int .u64 (y4 * min y6 10000 / 10000)), (.int .u64 y4), (.int .u64 y5), (.int .u64 (y4 * min y5 10000 / 10000)), (.bool false), (.bool false), ud, ud, ud, ud, ud, (.bool false), (.bool false), ud, ud, ud, ud, (.bool false), (.bool false), ud, ud, ud, (.bool false)], []⟩) (by kernel_rfl) ?_
          exfalso
          have kk := leave_two (T := T1) (S := x1) (x := x2) (y := x3) hx2 hx3
          have c1 := fun h => cut_le (n := y4) (p := y5) (q := y6) by4.1 h
          have c2 := fun h => cut_le (n := y4) (p := y6) (q := y5) by4.1 h
          have c3 := cut_n (n := y4) (q := y5) by4.1
          have c4 := cut_n (n := y4) (q := y6) by4.1
          have c5 := cut_full y4
          have c6 := cut_none y4
          clear BB
          omega
      · skip
        refine wl_eq (some 103) (.bool (decide ((y6 : Int) < y5))) (.bool false) (congrArg Value.bool (decide_eq_false c23)) rfl rfl (by kernel_rfl) ?_
        refine wl_nil ?_
        refine wp_then ?_
        refine wp_cond_false (by kernel_rfl) ?_
        refine wp_skip_then ?_
        refine wp_seq ?_
        refine wl_start ?_
        refine wl_take (some 106) (.int .u64 y4) rfl rfl (by kernel_rfl) ?_
        refine wl_take (some 107) (.int .u64 y5) rfl rfl (by kernel_rfl) ?_
        refine wl_call (some 108) 23 #[.int .u64 y4, .int .u64 y5] rfl rfl (by kernel_rfl) (sCut by4 by5) ?_
        rintro e1 v24w ⟨rfl, B⟩
        refine ⟨_, rfl, ?_⟩
        replace BB := joinB BB B
        clear B
        have rg33 := cut_rng (p := y5) by4 by5
        refine wl_take (some 109) (.int .u64 y4) rfl rfl (by kernel_rfl) ?_
        refine wl_take (some 110) (.int .u64 y6) rfl rfl (by kernel_rfl) ?_
        refine wl_call (some 111) 23 #[.int .u64 y4, .int .u64 y6] rfl rfl (by kernel_rfl) (sCut by4 by6) ?_
        rintro e1 v25w ⟨rfl, B⟩
        refine ⟨_, rfl, ?_⟩
        replace BB := joinB BB B
        clear B
        have rg34 := cut_rng (p := y6) by4 by6
        by_cases c35 : y4 * min y5 10000 / 10000 ≤ y4 * min y6 10000 / 10000
        · skip
          refine wl_eq (some 112) (.bool (decide ((y4 * min y5 10000 / 10000 : Int) ≤ y4 * min y6 10000 / 10000))) (.bool true) (congrArg Value.bool (decide_eq_true c35)) rfl rfl (by kernel_rfl) ?_
          refine wl_take (some 113) (.bool true) rfl rfl (by kernel_rfl) ?_
          refine wg_take (some 114) (.int .u64 y4) (by kernel_rfl) rfl (by kernel_rfl) ?_
          refine wg_take (some 115) (.int .u64 y6) (by kernel_rfl) rfl (by kernel_rfl) ?_
          refine wg_call (some 116) 23 #[.int .u64 y4, .int .u64 y6] (by kernel_rfl) rfl (by kernel_rfl) (sCut by4 by6) ?_
          rintro e1 v26w ⟨rfl, B⟩
          refine ⟨_, rfl, ?_⟩
          replace BB := joinB BB B
          clear B
          have rg36 := cut_rng (p := y6) by4 by6
          refine wg_take (some 117) (.int .u64 y4) (by kernel_rfl) rfl (by kernel_rfl) ?_
          by_cases c37 : y4 * min y6 10000 / 10000 ≤ y4
          · skip
            refine wg_eq (some 118) (.bool (decide ((y4 * min y6 10000 / 10000 : Int) ≤ y4))) (.bool true) (congrArg Value.bool (decide_eq_true c37)) (by kernel_rfl) rfl (by kernel_rfl) ?_
            refine wl_take (some 119) (.bool true) rfl rfl (by kernel_rfl) ?_
            refine wl_take (some 120) (.bool true) rfl rfl (by kernel_rfl) ?_
            refine wg_take (some 121) (.int .u64 y4) (by kernel_rfl) rfl (by kernel_rfl) ?_
            refine wl_frame (a' := ⟨#[(.int .u64 T1), (.agg #[.slice a1 len1 cap1]), (.agg #[.slice a2 len2 cap2]), (.agg #[.slice a3 len3 cap3]), (.int .u64 y4), (.int .u64 y5), (.int .u64 y6), ud, (.pointer (some ⟨g1v, 0, none⟩)), (.pointer (some ⟨g2v, 0, none⟩)), (.pointer (some ⟨g3v, 0, none⟩)), ud, ud, ud, (yy 14), (.int .u64 (reV T1 x1 x2)), (.int .i64 (reE x1 x2)), (.pointer (some ⟨g9v, 0, none⟩)), (.int .i64 0), (yy 19), (yy 20), (yy 21), (yy 22), (.bool true), (.bool false), (.int .u64 y0), (.int .u64 T1), (.agg #[.slice a1 len1 cap1]), (.agg #[.slice a2 len2 cap2]), (.agg #[.slice a3 len3 cap3]), (.slice (some ⟨g5v, 0, none⟩) 3 3), (.bool true), (.bool false), (.tuple #[.int .u64 (reV T1 x1 x2), .int .i64 (reE x1 x2)]), (.int .u64 T1), (.agg #[.slice a1 len1 cap1]), (.agg #[.slice a2 len2 cap2]), (.tuple #[.int .u64 (reV T1 x1 x2), .int .i64 (reE x1 x2)]), (.int .u64 (reV T1 x1 x2)), (.int .i64 (reE x1 x2)), (.tuple #[.agg #[.slice Az6 Nz6 Cz6], .int .i64 0]), (.agg #[.slice a1 len1 cap1]), (.agg #[.slice a2 len2 cap2]), (.tuple #[.agg #[.slice Az6 Nz6 Cz6], .int .i64 0]), (.agg #[.slice Az6 Nz6 Cz6]), (.int .i64 0), (yy 46), (yy 47), (yy 48), (yy 49), (yy 50), (yy 51), (yy 52), (yy 53), (yy 54), (yy 55), (yy 56), (yy 57), (yy 58), (yy 59), (yy 60), (yy 61), (yy 62), (yy 63), (yy 64), (yy 65), (yy 66), (yy 67), (yy 68), (yy 69), (yy 70), (yy 71), (yy 72), (yy 73), (yy 74), (yy 75), (yy 76), (yy 77), (yy 78), (yy 79), (yy 80), (yy 81), (yy 82), (yy 83), (yy 84), (yy 85), (yy 86), (yy 87), (yy 88), (yy 89), (yy 90), (yy 91), (yy 92), (yy 93), (yy 94), (yy 95), (yy 96), (yy 97), (yy 98), (yy 99), (yy 100), (.int .u64 y5), (.int .u64 y6), (.bool false), ud, ud, (.int .u64 y4), (.int .u64 y5), (.int .u64 (y4 * min y5 10000 / 10000)), (.int .u64 y4), (.int .u64 y6), (.int .u64 (y4 * min y6 10000 / 10000)), (.bool true), (.bool true), (.int .u64 y4), (.int .u64 y6), (.int .u64 (y4 * min y6 10000 / 10000)), (.int .u64 y4), (.bool true), (.bool true), (.bool true), (.int .u64 y4), ud, ud, ud, ud, ud, ud, ud, ud, ud], []⟩) (by kernel_rfl) ?_
            refine wg_call (some 122) 23 #[.int .u64 y4, .int .u64 10000] (by kernel_rfl) rfl (by kernel_rfl) (sCut by4 (⟨by decide, by decide⟩ : (0 : Int) ≤ 10000 ∧ (10000 : Int) < 18446744073709551616)) ?_
            rintro e1 v27w ⟨rfl, B⟩
            refine ⟨_, rfl, ?_⟩
            replace BB := joinB BB B
            clear B
            have rg38 := cut_rng (p := 10000) by4 (⟨by decide, by decide⟩ : (0 : Int) ≤ 10000 ∧ (10000 : Int) < 18446744073709551616)
            refine wg_take (some 123) (.int .u64 y4) (by kernel_rfl) rfl (by kernel_rfl) ?_
            by_cases c39 : y4 * min 10000 10000 / 10000 = y4
            · skip
              refine wg_eq (some 124) (.bool ((y4 * min 10000 10000 / 10000 : Int) == y4)) (.bool true) (congrArg Value.bool (beq_iff_eq.2 c39)) (by kernel_rfl) rfl (by kernel_rfl) ?_
              refine wl_take (some 125) (.bool true) rfl rfl (by kernel_rfl) ?_
              refine wl_take (some 126) (.bool true) rfl rfl (by kernel_rfl) ?_
              refine wg_take (some 127) (.int .u64 y4) (by kernel_rfl) rfl (by kernel_rfl) ?_
              refine wg_call (some 128) 23 #[.int .u64 y4, .int .u64 0] (by kernel_rfl) rfl (by kernel_rfl) (sCut by4 (⟨by decide, by decide⟩ : (0 : Int) ≤ 0 ∧ (0 : Int) < 18446744073709551616)) ?_
              rintro e1 v28w ⟨rfl, B⟩
              refine ⟨_, rfl, ?_⟩
              replace BB := joinB BB B
              clear B
              have rg40 := cut_rng (p := 0) by4 (⟨by decide, by decide⟩ : (0 : Int) ≤ 0 ∧ (0 : Int) < 18446744073709551616)
              by_cases c41 : y4 * min 0 10000 / 10000 = 0
              · skip
                refine wg_eq (some 129) (.bool ((y4 * min 0 10000 / 10000 : Int) == 0)) (.bool true) (congrArg Value.bool (beq_iff_eq.2 c41)) (by kernel_rfl) rfl (by kernel_rfl) ?_
                refine wl_take (some 130) (.bool true) rfl rfl (by kernel_rfl) ?_
                refine wl_take (some 14) (.bool true) rfl rfl (by kernel_rfl) ?_
                refine wl_nil ?_
                refine wp_then ?_
                refine wp_frame (a' := ⟨#[(.int .u64 T1), (.agg #[.slice a1 len1 cap1]), (.agg #[.slice a2 len2 cap2]), (.agg #[.slice a3 len3 cap3]), (.int .u64 y4), (.int .u64 y5), (.int .u64 y6), ud, (.pointer (some ⟨g1v, 0, none⟩)), (.pointer (some ⟨g2v, 0, none⟩)), (.pointer (some ⟨g3v, 0, none⟩)), ud, ud, ud, (.bool true), (.int .u64 (reV T1 x1 x2)), (.int .i64 (reE x1 x2)), (.pointer (some ⟨g9v, 0, none⟩)), (.int .i64 0), (yy 19), (yy 20), (yy 21), (yy 22), (.bool true), (.bool false), (.int .u64 y0), (.int .u64 T1), (.agg #[.slice a1 len1 cap1]), (.agg #[.slice a2 len2 cap2]), (.agg #[.slice a3 len3 cap3]), (.slice (some ⟨g5v, 0, none⟩) 3 3), (.bool true), (.bool false), (.tuple #[.int .u64 (reV T1 x1 x2), .int .i64 (reE x1 x2)]), (.int .u64 T1), (.agg #[.slice a1 len1 cap1]), (.agg #[.slice a2 len2 cap2]), (.tuple #[.int .u64 (reV T1 x1 x2), .int .i64 (reE x1 x2)]), (.int .u64 (reV T1 x1 x2)), (.int .i64 (reE x1 x2)), (.tuple #[.agg #[.slice Az6 Nz6 Cz6], .int .i64 0]), (.agg #[.slice a1 len1 cap1]), (.agg #[.slice a2 len2 cap2]), (.tuple #[.agg #[.slice Az6 Nz6 Cz6], .int .i64 0]), (.agg #[.slice Az6 Nz6 Cz6]), (.int .i64 0), (yy 46), (yy 47), (yy 48), (yy 49), (yy 50), (yy 51), (yy 52), (yy 53), (yy 54), (yy 55), (yy 56), (yy 57), (yy 58), (yy 59), (yy 60), (yy 61), (yy 62), (yy 63), (yy 64), (yy 65), (yy 66), (yy 67), (yy 68), (yy 69), (yy 70), (yy 71), (yy 72), (yy 73), (yy 74), (yy 75), (yy 76), (yy 77), (yy 78), (yy 79), (yy 80), (yy 81), (yy 82), (yy 83), (yy 84), (yy 85), (yy 86), (yy 87), (yy 88), (yy 89), (yy 90), (yy 91), (yy 92), (yy 93), (yy 94), (yy 95), (yy 96), (yy 97), (yy 98), (yy 99), (yy 100), (.int .u64 y5), (.int .u64 y6), (.bool false), ud, ud, (.int .u64 y4), (.int .u64 y5), (.int .u64 (y4 * min y5 10000 / 10000)), (.int .u64 y4), (.int .u64 y6), (.int .u64 (y4 * min y6 10000 / 10000)), (.bool true), (.bool true), (.int .u64 y4), (.int .u64 y6), (.int .u64 (y4 * min y6 10000 / 10000)), (.int .u64 y4), (.bool true), (.bool true), (.bool true), (.int .u64 y4), (.int .u64 (y4 * min 10000 10000 / 10000)), (.int .u64 y4), (.bool true), (.bool true), (.bool true), (.int .u64 y4), (.int .u64 (y4 * min 0 10000 / 10000)), (.bool true), (.bool true)], []⟩) (by kernel_rfl) ?_
                refine wp_ret ?_
                repeat (first | refine ret_then ?_ | refine ret_block ?_)
                refine bodyPost_ret (results_tmp rfl _ _ _) rfl ?_
                exact ⟨by kernel_rfl, BB⟩
              · skip
                refine wg_eq (some 129) (.bool ((y4 * min 0 10000 / 10000 : Int) == 0)) (.bool false) (congrArg Value.bool (beq_eq_false_iff_ne.2 c41)) (by kernel_rfl) rfl (by kernel_rfl) ?_
                refine wl_take (some 130) (.bool false) rfl rfl (by kernel_rfl) ?_
                refine wl_take (some 14) (.bool false) rfl rfl (by kernel_rfl) ?_
                refine wl_nil ?_
                refine wp_then ?_
                refine wp_frame (a' := ⟨#[(.int .u64 T1), (.agg #[.slice a1 len1 cap1]), (.agg #[.slice a2 len2 cap2]), (.agg #[.slice a3 len3 cap3]), (.int .u64 y4), (.int .u64 y5), (.int .u64 y6), ud, (.pointer (some ⟨g1v, 0, none⟩)), (.pointer (some ⟨g2v, 0, none⟩)), (.pointer (some ⟨g3v, 0, none⟩)), ud, ud, ud, (.bool false), (.int .u64 (reV T1 x1 x2)), (.int .i64 (reE x1 x2)), (.pointer (some ⟨g9v, 0, none⟩)), (.int .i64 0), (yy 19), (yy 20), (yy 21), (yy 22), (.bool true), (.bool false), (.int .u64 y0), (.int .u64 T1), (.agg #[.slice a1 len1 cap1]), (.agg #[.slice a2 len2 cap2]), (.agg #[.slice a3 len3 cap3]), (.slice (some ⟨g5v, 0, none⟩) 3 3), (.bool true), (.bool false), (.tuple #[.int .u64 (reV T1 x1 x2), .int .i64 (reE x1 x2)]), (.int .u64 T1), (.agg #[.slice a1 len1 cap1]), (.agg #[.slice a2 len2 cap2]), (.tuple #[.int .u64 (reV T1 x1 x2), .int .i64 (reE x1 x2)]), (.int .u64 (reV T1 x1 x2)), (.int .i64 (reE x1 x2)), (.tuple #[.agg #[.slice Az6 Nz6 Cz6], .int .i64 0]), (.agg #[.slice a1 len1 cap1]), (.agg #[.slice a2 len2 cap2]), (.tuple #[.agg #[.slice Az6 Nz6 Cz6], .int .i64 0]), (.agg #[.slice Az6 Nz6 Cz6]), (.int .i64 0), (yy 46), (yy 47), (yy 48), (yy 49), (yy 50), (yy 51), (yy 52), (yy 53), (yy 54), (yy 55), (yy 56), (yy 57), (yy 58), (yy 59), (yy 60), (yy 61), (yy 62), (yy 63), (yy 64), (yy 65), (yy 66), (yy 67), (yy 68), (yy 69), (yy 70), (yy 71), (yy 72), (yy 73), (yy 74), (yy 75), (yy 76), (yy 77), (yy 78), (yy 79), (yy 80), (yy 81), (yy 82), (yy 83), (yy 84), (yy 85), (yy 86), (yy 87), (yy 88), (yy 89), (yy 90), (yy 91), (yy 92), (yy 93), (yy 94), (yy 95), (yy 96), (yy 97), (yy 98), (yy 99), (yy 100), (.int .u64 y5), (.int .u64 y6), (.bool false), ud, ud, (.int .u64 y4), (.int .u64 y5), (.int .u64 (y4 * min y5 10000 / 10000)), (.int .u64 y4), (.int .u64 y6), (.int .u64 (y4 * min y6 10000 / 10000)), (.bool true), (.bool true), (.int .u64 y4), (.int .u64 y6), (.int .u64 (y4 * min y6 10000 / 10000)), (.int .u64 y4), (.bool true), (.bool true), (.bool true), (.int .u64 y4), (.int .u64 (y4 * min 10000 10000 / 10000)), (.int .u64 y4), (.bool true), (.bool true), (.bool true), (.int .u64 y4), (.int .u64 (y4 * min 0 10000 / 10000)), (.bool false), (.bool false)], []⟩) (by kernel_rfl) ?_
                exfalso
                have kk := leave_two (T := T1) (S := x1) (x := x2) (y := x3) hx2 hx3
                have c1 := fun h => cut_le (n := y4) (p := y5) (q := y6) by4.1 h
                have c2 := fun h => cut_le (n := y4) (p := y6) (q := y5) by4.1 h
                have c3 := cut_n (n := y4) (q := y5) by4.1
                have c4 := cut_n (n := y4) (q := y6) by4.1
                have c5 := cut_full y4
                have c6 := cut_none y4
                clear BB
                omega
            · skip
              refine wg_eq (some 124) (.bool ((y4 * min 10000 10000 / 10000 : Int) == y4)) (.bool false) (congrArg Value.bool (beq_eq_false_iff_ne.2 c39)) (by kernel_rfl) rfl (by kernel_rfl) ?_
              refine wl_take (some 125) (.bool false) rfl rfl (by kernel_rfl) ?_
              refine wl_take (some 126) (.bool false) rfl rfl (by kernel_rfl) ?_
              refine wg_not (some 127) (by kernel_rfl) rfl ?_
              refine wg_not (some 128) (by kernel_rfl) rfl ?_
              refine wg_not (some 129) (by kernel_rfl) rfl ?_
              refine wl_take (some 130) (.bool false) rfl rfl (by kernel_rfl) ?_
              refine wl_take (some 14) (.bool false) rfl rfl (by kernel_rfl) ?_
              refine wl_nil ?_
              refine wp_then ?_
              refine wp_frame (a' := ⟨#[(.int .u64 T1), (.agg #[.slice a1 len1 cap1]), (.agg #[.slice a2 len2 cap2]), (.agg #[.slice a3 len3 cap3]), (.int .u64 y4), (.int .u64 y5), (.int .u64 y6), ud, (.pointer (some ⟨g1v, 0, none⟩)), (.pointer (some ⟨g2v, 0, none⟩)), (.pointer (some ⟨g3v, 0, none⟩)), ud, ud, ud, (.bool false), (.int .u64 (reV T1 x1 x2)), (.int .i64 (reE x1 x2)), (.pointer (some ⟨g9v, 0, none⟩)), (.int .i64 0), (yy 19), (yy 20), (yy 21), (yy 22), (.bool true), (.bool false), (.int .u64 y0), (.int .u64 T1), (.agg #[.slice a1 len1 cap1]), (.agg #[.slice a2 len2 cap2]), (.agg #[.slice a3 len3 cap3]), (.slice (some ⟨g5v, 0, none⟩) 3 3), (.bool true), (.bool false), (.tuple #[.int .u64 (reV T1 x1 x2), .int .i64 (reE x1 x2)]), (.int .u64 T1), (.agg #[.slice a1 len1 cap1]), (.agg #[.slice a2 len2 cap2]), (.tuple #[.int .u64 (reV T1 x1 x2), .int .i64 (reE x1 x2)]), (.int .u64 (reV T1 x1 x2)), (.int .i64 (reE x1 x2)), (.tuple #[.agg #[.slice Az6 Nz6 Cz6], .int .i64 0]), (.agg #[.slice a1 len1 cap1]), (.agg #[.slice a2 len2 cap2]), (.tuple #[.agg #[.slice Az6 Nz6 Cz6], .int .i64 0]), (.agg #[.slice Az6 Nz6 Cz6]), (.int .i64 0), (yy 46), (yy 47), (yy 48), (yy 49), (yy 50), (yy 51), (yy 52), (yy 53), (yy 54), (yy 55), (yy 56), (yy 57), (yy 58), (yy 59), (yy 60), (yy 61), (yy 62), (yy 63), (yy 64), (yy 65), (yy 66), (yy 67), (yy 68), (yy 69), (yy 70), (yy 71), (yy 72), (yy 73), (yy 74), (yy 75), (yy 76), (yy 77), (yy 78), (yy 79), (yy 80), (yy 81), (yy 82), (yy 83), (yy 84), (yy 85), (yy 86), (yy 87), (yy 88), (yy 89), (yy 90), (yy 91), (yy 92), (yy 93), (yy 94), (yy 95), (yy 96), (yy 97), (yy 98), (yy 99), (yy 100), (.int .u64 y5), (.int .u64 y6), (.bool false), ud, ud, (.int .u64 y4), (.int .u64 y5), (.int .u64 (y4 * min y5 10000 / 10000)), (.int .u64 y4), (.int .u64 y6), (.int .u64 (y4 * min y6 10000 / 10000)), (.bool true), (.bool true), (.int .u64 y4), (.int .u64 y6), (.int .u64 (y4 * min y6 10000 / 10000)), (.int .u64 y4), (.bool true), (.bool true), (.bool true), (.int .u64 y4), (.int .u64 (y4 * min 10000 10000 / 10000)), (.int .u64 y4), (.bool false), (.bool false), (.bool false), ud, ud, ud, (.bool false)], []⟩) (by kernel_rfl) ?_
              exfalso
              have kk := leave_two (T := T1) (S := x1) (x := x2) (y := x3) hx2 hx3
              have c1 := fun h => cut_le (n := y4) (p := y5) (q := y6) by4.1 h
              have c2 := fun h => cut_le (n := y4) (p := y6) (q := y5) by4.1 h
              have c3 := cut_n (n := y4) (q := y5) by4.1
              have c4 := cut_n (n := y4) (q := y6) by4.1
              have c5 := cut_full y4
              have c6 := cut_none y4
              clear BB
              omega
          · skip
            refine wg_eq (some 118) (.bool (decide ((y4 * min y6 10000 / 10000 : Int) ≤ y4))) (.bool false) (congrArg Value.bool (decide_eq_false c37)) (by kernel_rfl) rfl (by kernel_rfl) ?_
            refine wl_take (some 119) (.bool false) rfl rfl (by kernel_rfl) ?_
            refine wl_take (some 120) (.bool false) rfl rfl (by kernel_rfl) ?_
            refine wg_not (some 121) (by kernel_rfl) rfl ?_
            refine wl_frame (a' := ⟨#[(.int .u64 T1), (.agg #[.slice a1 len1 cap1]), (.agg #[.slice a2 len2 cap2]), (.agg #[.slice a3 len3 cap3]), (.int .u64 y4), (.int .u64 y5), (.int .u64 y6), ud, (.pointer (some ⟨g1v, 0, none⟩)), (.pointer (some ⟨g2v, 0, none⟩)), (.pointer (some ⟨g3v, 0, none⟩)), ud, ud, ud, (yy 14), (.int .u64 (reV T1 x1 x2)), (.int .i64 (reE x1 x2)), (.pointer (some ⟨g9v, 0, none⟩)), (.int .i64 0), (yy 19), (yy 20), (yy 21), (yy 22), (.bool true), (.bool false), (.int .u64 y0), (.int .u64 T1), (.agg #[.slice a1 len1 cap1]), (.agg #[.slice a2 len2 cap2]), (.agg #[.slice a3 len3 cap3]), (.slice (some ⟨g5v, 0, none⟩) 3 3), (.bool true), (.bool false), (.tuple #[.int .u64 (reV T1 x1 x2), .int .i64 (reE x1 x2)]), (.int .u64 T1), (.agg #[.slice a1 len1 cap1]), (.agg #[.slice a2 len2 cap2]), (.tuple #[.int .u64 (reV T1 x1 x2), .int .i64 (reE x1 x2)]), (.int .u64 (reV T1 x1 x2)), (.int .i64 (reE x1 x2)), (.tuple #[.agg #[.slice Az6 Nz6 Cz6], .int .i64 0]), (.agg #[.slice a1 len1 cap1]), (.agg #[.slice a2 len2 cap2]), (.tuple #[.agg #[.slice Az6 Nz6 Cz6], .int .i64 0]), (.agg #[.slice Az6 Nz6 Cz6]), (.int .i64 0), (yy 46), (yy 47), (yy 48), (yy 49), (yy 50), (yy 51), (yy 52), (yy 53), (yy 54), (yy 55), (yy 56), (yy 57), (yy 58), (yy 59), (yy 60), (yy 61), (yy 62), (yy 63), (yy 64), (yy 65), (yy 66), (yy 67), (yy 68), (yy 69), (yy 70), (yy 71), (yy 72), (yy 73), (yy 74), (yy 75), (yy 76), (yy 77), (yy 78), (yy 79), (yy 80), (yy 81), (yy 82), (yy 83), (yy 84), (yy 85), (yy 86), (yy 87), (yy 88), (yy 89), (yy 90), (yy 91), (yy 92), (yy 93), (yy 94), (yy 95), (yy 96), (yy 97), (yy 98), (yy 99), (yy 100), (.int .u64 y5), (.int .u64 y6), (.bool false), ud, ud, (.int .u64 y4), (.int .u64 y5), (.int .u64 (y4 * min y5 10000 / 10000)), (.int .u64 y4), (.int .u64 y6), (.int .u64 (y4 * min y6 10000 / 10000)), (.bool true), (.bool true), (.int .u64 y4), (.int .u64 y6), (.int .u64 (y4 * min y6 10000 / 10000)), (.int .u64 y4), (.bool false), (.bool false), (.bool false), ud, ud, ud, ud, ud, ud, ud, ud, ud, ud], []⟩) (by kernel_rfl) ?_
            refine wg_not (some 122) (by kernel_rfl) rfl ?_
            refine wg_not (some 123) (by kernel_rfl) rfl ?_
            refine wg_not (some 124) (by kernel_rfl) rfl ?_
            refine wl_take (some 125) (.bool false) rfl rfl (by kernel_rfl) ?_
            refine wl_take (some 126) (.bool false) rfl rfl (by kernel_rfl) ?_
            refine wg_not (some 127) (by kernel_rfl) rfl ?_
            refine wg_not (some 128) (by kernel_rfl) rfl ?_
            refine wg_not (some 129) (by kernel_rfl) rfl ?_
            refine wl_take (some 130) (.bool false) rfl rfl (by kernel_rfl) ?_
            refine wl_take (some 14) (.bool false) rfl rfl (by kernel_rfl) ?_
            refine wl_nil ?_
            refine wp_then ?_
            refine wp_frame (a' := ⟨#[(.int .u64 T1), (.agg #[.slice a1 len1 cap1]), (.agg #[.slice a2 len2 cap2]), (.agg #[.slice a3 len3 cap3]), (.int .u64 y4), (.int .u64 y5), (.int .u64 y6), ud, (.pointer (some ⟨g1v, 0, none⟩)), (.pointer (some ⟨g2v, 0, none⟩)), (.pointer (some ⟨g3v, 0, none⟩)), ud, ud, ud, (.bool false), (.int .u64 (reV T1 x1 x2)), (.int .i64 (reE x1 x2)), (.pointer (some ⟨g9v, 0, none⟩)), (.int .i64 0), (yy 19), (yy 20), (yy 21), (yy 22), (.bool true), (.bool false), (.int .u64 y0), (.int .u64 T1), (.agg #[.slice a1 len1 cap1]), (.agg #[.slice a2 len2 cap2]), (.agg #[.slice a3 len3 cap3]), (.slice (some ⟨g5v, 0, none⟩) 3 3), (.bool true), (.bool false), (.tuple #[.int .u64 (reV T1 x1 x2), .int .i64 (reE x1 x2)]), (.int .u64 T1), (.agg #[.slice a1 len1 cap1]), (.agg #[.slice a2 len2 cap2]), (.tuple #[.int .u64 (reV T1 x1 x2), .int .i64 (reE x1 x2)]), (.int .u64 (reV T1 x1 x2)), (.int .i64 (reE x1 x2)), (.tuple #[.agg #[.slice Az6 Nz6 Cz6], .int .i64 0]), (.agg #[.slice a1 len1 cap1]), (.agg #[.slice a2 len2 cap2]), (.tuple #[.agg #[.slice Az6 Nz6 Cz6], .int .i64 0]), (.agg #[.slice Az6 Nz6 Cz6]), (.int .i64 0), (yy 46), (yy 47), (yy 48), (yy 49), (yy 50), (yy 51), (yy 52), (yy 53), (yy 54), (yy 55), (yy 56), (yy 57), (yy 58), (yy 59), (yy 60), (yy 61), (yy 62), (yy 63), (yy 64), (yy 65), (yy 66), (yy 67), (yy 68), (yy 69), (yy 70), (yy 71), (yy 72), (yy 73), (yy 74), (yy 75), (yy 76), (yy 77), (yy 78), (yy 79), (yy 80), (yy 81), (yy 82), (yy 83), (yy 84), (yy 85), (yy 86), (yy 87), (yy 88), (yy 89), (yy 90), (yy 91), (yy 92), (yy 93), (yy 94), (yy 95), (yy 96), (yy 97), (yy 98), (yy 99), (yy 100), (.int .u64 y5), (.int .u64 y6), (.bool false), ud, ud, (.int .u64 y4), (.int .u64 y5), (.int .u64 (y4 * min y5 10000 / 10000)), (.int .u64 y4), (.int .u64 y6), (.int .u64 (y4 * min y6 10000 / 10000)), (.bool true), (.bool true), (.int .u64 y4), (.int .u64 y6), (.int .u64 (y4 * min y6 10000 / 10000)), (.int .u64 y4), (.bool false), (.bool false), (.bool false), ud, ud, ud, ud, (.bool false), (.bool false), ud, ud, ud, (.bool false)], []⟩) (by kernel_rfl) ?_
            exfalso
            have kk := leave_two (T := T1) (S := x1) (x := x2) (y := x3) hx2 hx3
            have c1 := fun h => cut_le (n := y4) (p := y5) (q := y6) by4.1 h
            have c2 := fun h => cut_le (n := y4) (p := y6) (q := y5) by4.1 h
            have c3 := cut_n (n := y4) (q := y5) by4.1
            have c4 := cut_n (n := y4) (q := y6) by4.1
            have c5 := cut_full y4
            have c6 := cut_none y4
            clear BB
            omega
        · skip
          refine wl_eq (some 112) (.bool (decide ((y4 * min y5 10000 / 10000 : Int) ≤ y4 * min y6 10000 / 10000))) (.bool false) (congrArg Value.bool (decide_eq_false c35)) rfl rfl (by kernel_rfl) ?_
          refine wl_take (some 113) (.bool false) rfl rfl (by kernel_rfl) ?_
          refine wg_not (some 114) (by kernel_rfl) rfl ?_
          refine wg_not (some 115) (by kernel_rfl) rfl ?_
          refine wg_not (some 116) (by kernel_rfl) rfl ?_
          refine wg_not (some 117) (by kernel_rfl) rfl ?_
          refine wg_not (some 118) (by kernel_rfl) rfl ?_
          refine wl_take (some 119) (.bool false) rfl rfl (by kernel_rfl) ?_
          refine wl_take (some 120) (.bool false) rfl rfl (by kernel_rfl) ?_
          refine wg_not (some 121) (by kernel_rfl) rfl ?_
          refine wl_frame (a' := ⟨#[(.int .u64 T1), (.agg #[.slice a1 len1 cap1]), (.agg #[.slice a2 len2 cap2]), (.agg #[.slice a3 len3 cap3]), (.int .u64 y4), (.int .u64 y5), (.int .u64 y6), ud, (.pointer (some ⟨g1v, 0, none⟩)), (.pointer (some ⟨g2v, 0, none⟩)), (.pointer (some ⟨g3v, 0, none⟩)), ud, ud, ud, (yy 14), (.int .u64 (reV T1 x1 x2)), (.int .i64 (reE x1 x2)), (.pointer (some ⟨g9v, 0, none⟩)), (.int .i64 0), (yy 19), (yy 20), (yy 21), (yy 22), (.bool true), (.bool false), (.int .u64 y0), (.int .u64 T1), (.agg #[.slice a1 len1 cap1]), (.agg #[.slice a2 len2 cap2]), (.agg #[.slice a3 len3 cap3]), (.slice (some ⟨g5v, 0, none⟩) 3 3), (.bool true), (.bool false), (.tuple #[.int .u64 (reV T1 x1 x2), .int .i64 (reE x1 x2)]), (.int .u64 T1), (.agg #[.slice a1 len1 cap1]), (.agg #[.slice a2 len2 cap2]), (.tuple #[.int .u64 (reV T1 x1 x2), .int .i64 (reE x1 x2)]), (.int .u64 (reV T1 x1 x2)), (.int .i64 (reE x1 x2)), (.tuple #[.agg #[.slice Az6 Nz6 Cz6], .int .i64 0]), (.agg #[.slice a1 len1 cap1]), (.agg #[.slice a2 len2 cap2]), (.tuple #[.agg #[.slice Az6 Nz6 Cz6], .int .i64 0]), (.agg #[.slice Az6 Nz6 Cz6]), (.int .i64 0), (yy 46), (yy 47), (yy 48), (yy 49), (yy 50), (yy 51), (yy 52), (yy 53), (yy 54), (yy 55), (yy 56), (yy 57), (yy 58), (yy 59), (yy 60), (yy 61), (yy 62), (yy 63), (yy 64), (yy 65), (yy 66), (yy 67), (yy 68), (yy 69), (yy 70), (yy 71), (yy 72), (yy 73), (yy 74), (yy 75), (yy 76), (yy 77), (yy 78), (yy 79), (yy 80), (yy 81), (yy 82), (yy 83), (yy 84), (yy 85), (yy 86), (yy 87), (yy 88), (yy 89), (yy 90), (yy 91), (yy 92), (yy 93), (yy 94), (yy 95), (yy 96), (yy 97), (yy 98), (yy 99), (yy 100), (.int .u64 y5), (.int .u64 y6), (.bool false), ud, ud, (.int .u64 y4), (.int .u64 y5), (.int .u64 (y4 * min y5 10000 / 10000)), (.int .u64 y4), (.int .u64 y6), (.int .u64 (y4 * min y6 10000 / 10000)), (.bool false), (.bool false), ud, ud, ud, ud, ud, (.bool false), (.bool false), ud, ud, ud, ud, ud, ud, ud, ud, ud, ud], []⟩) (by kernel_rfl) ?_
          refine wg_not (some 122) (by kernel_rfl) rfl ?_
          refine wg_not (some 123) (by kernel_rfl) rfl ?_
          refine wg_not (some 124) (by kernel_rfl) rfl ?_
          refine wl_take (some 125) (.bool false) rfl rfl (by kernel_rfl) ?_
          refine wl_take (some 126) (.bool false) rfl rfl (by kernel_rfl) ?_
          refine wg_not (some 127) (by kernel_rfl) rfl ?_
          refine wg_not (some 128) (by kernel_rfl) rfl ?_
          refine wg_not (some 129) (by kernel_rfl) rfl ?_
          refine wl_take (some 130) (.bool false) rfl rfl (by kernel_rfl) ?_
          refine wl_take (some 14) (.bool false) rfl rfl (by kernel_rfl) ?_
          refine wl_nil ?_
          refine wp_then ?_
          refine wp_frame (a' := ⟨#[(.int .u64 T1), (.agg #[.slice a1 len1 cap1]), (.agg #[.slice a2 len2 cap2]), (.agg #[.slice a3 len3 cap3]), (.int .u64 y4), (.int .u64 y5), (.int .u64 y6), ud, (.pointer (some ⟨g1v, 0, none⟩)), (.pointer (some ⟨g2v, 0, none⟩)), (.pointer (some ⟨g3v, 0, none⟩)), ud, ud, ud, (.bool false), (.int .u64 (reV T1 x1 x2)), (.int .i64 (reE x1 x2)), (.pointer (some ⟨g9v, 0, none⟩)), (.int .i64 0), (yy 19), (yy 20), (yy 21), (yy 22), (.bool true), (.bool false), (.int .u64 y0), (.int .u64 T1), (.agg #[.slice a1 len1 cap1]), (.agg #[.slice a2 len2 cap2]), (.agg #[.slice a3 len3 cap3]), (.slice (some ⟨g5v, 0, none⟩) 3 3), (.bool true), (.bool false), (.tuple #[.int .u64 (reV T1 x1 x2), .int .i64 (reE x1 x2)]), (.int .u64 T1), (.agg #[.slice a1 len1 cap1]), (.agg #[.slice a2 len2 cap2]), (.tuple #[.int .u64 (reV T1 x1 x2), .int .i64 (reE x1 x2)]), (.int .u64 (reV T1 x1 x2)), (.int .i64 (reE x1 x2)), (.tuple #[.agg #[.slice Az6 Nz6 Cz6], .int .i64 0]), (.agg #[.slice a1 len1 cap1]), (.agg #[.slice a2 len2 cap2]), (.tuple #[.agg #[.slice Az6 Nz6 Cz6], .int .i64 0]), (.agg #[.slice Az6 Nz6 Cz6]), (.int .i64 0), (yy 46), (yy 47), (yy 48), (yy 49), (yy 50), (yy 51), (yy 52), (yy 53), (yy 54), (yy 55), (yy 56), (yy 57), (yy 58), (yy 59), (yy 60), (yy 61), (yy 62), (yy 63), (yy 64), (yy 65), (yy 66), (yy 67), (yy 68), (yy 69), (yy 70), (yy 71), (yy 72), (yy 73), (yy 74), (yy 75), (yy 76), (yy 77), (yy 78), (yy 79), (yy 80), (yy 81), (yy 82), (yy 83), (yy 84), (yy 85), (yy 86), (yy 87), (yy 88), (yy 89), (yy 90), (yy 91), (yy 92), (yy 93), (yy 94), (yy 95), (yy 96), (yy 97), (yy 98), (yy 99), (yy 100), (.int .u64 y5), (.int .u64 y6), (.bool false), ud, ud, (.int .u64 y4), (.int .u64 y5), (.int .u64 (y4 * min y5 10000 / 10000)), (.int .u64 y4), (.int .u64 y6), (.int .u64 (y4 * min y6 10000 / 10000)), (.bool false), (.bool false), ud, ud, ud, ud, ud, (.bool false), (.bool false), ud, ud, ud, ud, (.bool false), (.bool false), ud, ud, ud, (.bool false)], []⟩) (by kernel_rfl) ?_
          exfalso
          have kk := leave_two (T := T1) (S := x1) (x := x2) (y := x3) hx2 hx3
          have c1 := fun h => cut_le (n := y4) (p := y5) (q := y6) by4.1 h
          have c2 := fun h => cut_le (n := y4) (p := y6) (q := y5) by4.1 h
          have c3 := cut_n (n := y4) (q := y5) by4.1
          have c4 := cut_n (n := y4) (q := y6) by4.1
          have c5 := cut_full y4
          have c6 := cut_none y4
          clear BB
          omega
    · skip
      refine wl_call (some 43) 15 #[.agg #[.slice a1 len1 cap1], .agg #[.slice a2 len2 cap2]] rfl rfl (by kernel_rfl) (dSubLt N1 N2 (by omega) (by omega) (Int.not_le.1 c5)) ?_
      rintro e1 v29w ⟨rfl, B⟩
      refine ⟨_, rfl, ?_⟩
      replace N1 := N1.keep B
      replace N2 := N2.keep B
      replace N3 := N3.keep B
      replace X8 := X8.keep B
      replace X9 := X9.keep B
      replace X10 := X10.keep B
      replace L5 := L5.keep B
      replace BB := joinB BB B
      clear B
      refine wl_take (some 40) (.tuple #[.agg #[.slice none 0 0], .int .i64 20]) rfl rfl (by kernel_rfl) ?_
      refine wl_take (some 44) (.agg #[.slice none 0 0]) rfl rfl (by kernel_rfl) ?_
      refine wl_take (some 45) (.int .i64 20) rfl rfl (by kernel_rfl) ?_
      have bs29 := BB.size
      refine wl_new 17 44 26 [.slice none 0 0] [.slice none 0 0] rfl rfl rfl rfl rfl rfl allocx26 (fun _ => by kernel_rfl) (fun _ => by kernel_rfl) (by kernel_rfl) rfl (by kernel_rfl) ?_
      intro v30w g30v X17 hg30v B
      replace N1 := N1.keep B
      replace N2 := N2.keep B
      replace N3 := N3.keep B
      replace X8 := X8.keep B
      replace X9 := X9.keep B
      replace X10 := X10.keep B
      replace L5 := L5.keep B
      replace BB := joinB BB B
      clear B
      refine wl_take (some 18) (.int .i64 20) rfl rfl (by kernel_rfl) ?_
      refine wl_nil ?_
      refine wp_then ?_
      refine wp_frame (a' := ⟨#[(.int .u64 T1), (.agg #[.slice a1 len1 cap1]), (.agg #[.slice a2 len2 cap2]), (.agg #[.slice a3 len3 cap3]), (.int .u64 y4), (.int .u64 y5), (.int .u64 y6), ud, (.pointer (some ⟨g1v, 0, none⟩)), (.pointer (some ⟨g2v, 0, none⟩)), (.pointer (some ⟨g3v, 0, none⟩)), ud, ud, ud, (.bool false), (.int .u64 (reV T1 x1 x2)), (.int .i64 (reE x1 x2)), (.pointer (some ⟨g30v, 0, none⟩)), (.int .i64 20), ud, ud, ud, ud, (.bool true), (.bool false), (.int .u64 y0), (.int .u64 T1), (.agg #[.slice a1 len1 cap1]), (.agg #[.slice a2 len2 cap2]), (.agg #[.slice a3 len3 cap3]), (.slice (some ⟨g5v, 0, none⟩) 3 3), (.bool true), (.bool false), (.tuple #[.int .u64 (reV T1 x1 x2), .int .i64 (reE x1 x2)]), (.int .u64 T1), (.agg #[.slice a1 len1 cap1]), (.agg #[.slice a2 len2 cap2]), (.tuple #[.int .u64 (reV T1 x1 x2), .int .i64 (reE x1 x2)]), (.int .u64 (reV T1 x1 x2)), (.int .i64 (reE x1 x2)), (.tuple #[.agg #[.slice none 0 0], .int .i64 20]), (.agg #[.slice a1 len1 cap1]), (.agg #[.slice a2 len2 cap2]), (.tuple #[.agg #[.slice none 0 0], .int .i64 20]), (.agg #[.slice none 0 0]), (.int .i64 20), ud, ud, ud, ud, ud, ud, ud, ud, ud, ud, ud, ud, ud, ud, ud, ud, ud, ud, ud, ud, ud, ud, ud, ud, ud, ud, ud, ud, ud, ud, ud, ud, ud, ud, ud, ud, ud, ud, ud, ud, ud, ud, ud, ud, ud, ud, ud, ud, ud, ud, ud, ud, ud, ud, ud, ud, ud, ud, ud, ud, ud, ud, ud, ud, ud, ud, ud, ud, ud, ud, ud, ud, ud, ud, ud, ud, ud, ud, ud, ud, ud, ud, ud, ud, ud], []⟩) (by kernel_rfl) ?_
      refine wp_cutw [14, 19, 20, 21, 22, 46, 47, 48, 49, 50, 51, 52, 53, 54, 55, 56, 57, 58, 59, 60, 61, 62, 63, 64, 65, 66, 67, 68, 69, 70, 71, 72, 73, 74, 75, 76, 77, 78, 79, 80, 81, 82, 83, 84, 85, 86, 87, 88, 89, 90, 91, 92, 93, 94, 95, 96, 97, 98, 99, 100] (fun w' => Below w.heap.size w w') ?_ ?_
      · skip
        refine wp_seq ?_
        refine wl_start ?_
        refine wl_take (some 46) (.int .i64 (reE x1 x2)) rfl rfl (by kernel_rfl) ?_
        by_cases c42 : reE x1 x2 = 0
        · skip
          refine wl_eq (some 47) (.bool ((reE x1 x2 : Int) == 0)) (.bool true) (congrArg Value.bool (beq_iff_eq.2 c42)) rfl rfl (by kernel_rfl) ?_
          refine wl_take (some 48) (.bool true) rfl rfl (by kernel_rfl) ?_
          refine wg_take (some 49) (.int .i64 20) (by kernel_rfl) rfl (by kernel_rfl) ?_
          refine wg_take (some 50) (.bool false) (by kernel_rfl) rfl (by kernel_rfl) ?_
          refine wl_take (some 51) (.bool false) rfl rfl (by kernel_rfl) ?_
          refine wl_take (some 52) (.bool false) rfl rfl (by kernel_rfl) ?_
          refine wg_not (some 53) (by kernel_rfl) rfl ?_
          refine wg_not (some 54) (by kernel_rfl) rfl ?_
          refine wg_not (some 55) (by kernel_rfl) rfl ?_
          refine wl_take (some 56) (.bool false) rfl rfl (by kernel_rfl) ?_
          refine wl_nil ?_
          refine wp_then ?_
          refine wp_cond_false (by kernel_rfl) ?_
          refine wp_skip_then ?_
          exact cutw_end (by kernel_rfl) BB
        · skip
          refine wl_eq (some 47) (.bool ((reE x1 x2 : Int) == 0)) (.bool false) (congrArg Value.bool (beq_eq_false_iff_ne.2 c42)) rfl rfl (by kernel_rfl) ?_
          refine wl_take (some 48) (.bool false) rfl rfl (by kernel_rfl) ?_
          refine wg_not (some 49) (by kernel_rfl) rfl ?_
          refine wg_not (some 50) (by kernel_rfl) rfl ?_
          refine wl_take (some 51) (.bool false) rfl rfl (by kernel_rfl) ?_
          refine wl_take (some 52) (.bool false) rfl rfl (by kernel_rfl) ?_
          refine wg_not (some 53) (by kernel_rfl) rfl ?_
          refine wg_not (some 54) (by kernel_rfl) rfl ?_
          refine wg_not (some 55) (by kernel_rfl) rfl ?_
          refine wl_take (some 56) (.bool false) rfl rfl (by kernel_rfl) ?_
          refine wl_nil ?_
          refine wp_then ?_
          refine wp_cond_false (by kernel_rfl) ?_
          refine wp_skip_then ?_
          exact cutw_end (by kernel_rfl) BB
      clear N1 N2 N3 X8 X9 X10 L5 X17
      clear BB
      intro yy v31w BB
      refine wp_frame (a' := ⟨#[(.int .u64 T1), (.agg #[.slice a1 len1 cap1]), (.agg #[.slice a2 len2 cap2]), (.agg #[.slice a3 len3 cap3]), (.int .u64 y4), (.int .u64 y5), (.int .u64 y6), ud, (.pointer (some ⟨g1v, 0, none⟩)), (.pointer (some ⟨g2v, 0, none⟩)), (.pointer (some ⟨g3v, 0, none⟩)), ud, ud, ud, (yy 14), (.int .u64 (reV T1 x1 x2)), (.int .i64 (reE x1 x2)), (.pointer (some ⟨g30v, 0, none⟩)), (.int .i64 20), (yy 19), (yy 20), (yy 21), (yy 22), (.bool true), (.bool false), (.int .u64 y0), (.int .u64 T1), (.agg #[.slice a1 len1 cap1]), (.agg #[.slice a2 len2 cap2]), (.agg #[.slice a3 len3 cap3]), (.slice (some ⟨g5v, 0, none⟩) 3 3), (.bool true), (.bool false), (.tuple #[.int .u64 (reV T1 x1 x2), .int .i64 (reE x1 x2)]), (.int .u64 T1), (.agg #[.slice a1 len1 cap1]), (.agg #[.slice a2 len2 cap2]), (.tuple #[.int .u64 (reV T1 x1 x2), .int .i64 (reE x1 x2)]), (.int .u64 (reV T1 x1 x2)), (.int .i64 (reE x1 x2)), (.tuple #[.agg #[.slice none 0 0], .int .i64 20]), (.agg #[.slice a1 len1 cap1]), (.agg #[.slice a2 len2 cap2]), (.tuple #[.agg #[.slice none 0 0], .int .i64 20]), (.agg #[.slice none 0 0]), (.int .i64 20), (yy 46), (yy 47), (yy 48), (yy 49), (yy 50), (yy 51), (yy 52), (yy 53), (yy 54), (yy 55), (yy 56), (yy 57), (yy 58), (yy 59), (yy 60), (yy 61), (yy 62), (yy 63), (yy 64), (yy 65), (yy 66), (yy 67), (yy 68), (yy 69), (yy 70), (yy 71), (yy 72), (yy 73), (yy 74), (yy 75), (yy 76), (yy 77), (yy 78), (yy 79), (yy 80), (yy 81), (yy 82), (yy 83), (yy 84), (yy 85), (yy 86), (yy 87), (yy 88), (yy 89), (yy 90), (yy 91), (yy 92), (yy 93), (yy 94), (yy 95), (yy 96), (yy 97), (yy 98), (yy 99), (yy 100), ud, ud, ud, ud, ud, ud, ud, ud, ud, ud, ud, ud, ud, ud, ud, ud, ud, ud, ud, ud, ud, ud, ud, ud, ud, ud, ud, ud, ud, ud], []⟩) (by kernel_rfl) ?_
      refine wp_seq ?_
      refine wp_seq ?_
      refine wl_start ?_
      refine wl_take (some 101) (.int .u64 y5) rfl rfl (by kernel_rfl) ?_
      refine wl_take (some 102) (.int .u64 y6) rfl rfl (by kernel_rfl) ?_
      by_cases c43 : y6 < y5
      · skip
        refine wl_eq (some 103) (.bool (decide ((y6 : Int) < y5))) (.bool true) (congrArg Value.bool (decide_eq_true c43)) rfl rfl (by kernel_rfl) ?_
        refine wl_nil ?_
        refine wp_then ?_
        refine wp_cond_true (by kernel_rfl) ?_
        refine wl_start ?_
        refine wl_take (some 104) (.int .u64 y6) rfl rfl (by kernel_rfl) ?_
        refine wl_take (some 105) (.int .u64 y5) rfl rfl (by kernel_rfl) ?_
        refine wl_take (some 5) (.int .u64 y6) rfl rfl (by kernel_rfl) ?_
        refine wl_take (some 6) (.int .u64 y5) rfl rfl (by kernel_rfl) ?_
        refine wl_nil ?_
        refine wp_then ?_
        refine wp_seq ?_
        refine wl_start ?_
        refine wl_take (some 106) (.int .u64 y4) rfl rfl (by kernel_rfl) ?_
        refine wl_take (some 107) (.int .u64 y6) rfl rfl (by kernel_rfl) ?_
        refine wl_call (some 108) 23 #[.int .u64 y4, .int .u64 y6] rfl rfl (by kernel_rfl) (sCut by4 by6) ?_
        rintro e1 v32w ⟨rfl, B⟩
        refine ⟨_, rfl, ?_⟩
        replace BB := joinB BB B
        clear B
        have rg44 := cut_rng (p := y6) by4 by6
        refine wl_take (some 109) (.int .u64 y4) rfl rfl (by kernel_rfl) ?_
        refine wl_take (some 110) (.int .u64 y5) rfl rfl (by kernel_rfl) ?_
        refine wl_call (some 111) 23 #[.int .u64 y4, .int .u64 y5] rfl rfl (by kernel_rfl) (sCut by4 by5) ?_
        rintro e1 v33w ⟨rfl, B⟩
        refine ⟨_, rfl, ?_⟩
        replace BB := joinB BB B
        clear B
        have rg45 := cut_rng (p := y5) by4 by5
        by_cases c46 : y4 * min y6 10000 / 10000 ≤ y4 * min y5 10000 / 10000
        · skip
          refine wl_eq (some 112) (.bool (decide ((y4 * min y6 10000 / 10000 : Int) ≤ y4 * min y5 10000 / 10000))) (.bool true) (congrArg Value.bool (decide_eq_true c46)) rfl rfl (by kernel_rfl) ?_
          refine wl_take (some 113) (.bool true) rfl rfl (by kernel_rfl) ?_
          refine wg_take (some 114) (.int .u64 y4) (by kernel_rfl) rfl (by kernel_rfl) ?_
          refine wg_take (some 115) (.int .u64 y5) (by kernel_rfl) rfl (by kernel_rfl) ?_
          refine wg_call (some 116) 23 #[.int .u64 y4, .int .u64 y5] (by kernel_rfl) rfl (by kernel_rfl) (sCut by4 by5) ?_
          rintro e1 v34w ⟨rfl, B⟩
          refine ⟨_, rfl, ?_⟩
          replace BB := joinB BB B
          clear B
          have rg47 := cut_rng (p := y5) by4 by5
          refine wg_take (some 117) (.int .u64 y4) (by kernel_rfl) rfl (by kernel_rfl) ?_
          by_cases c48 : y4 * min y5 10000 / 10000 ≤ y4
          · skip
            refine wg_eq (some 118) (.bool (decide ((y4 * min y5 10000 / 10000 : Int) ≤ y4))) (.bool true) (congrArg Value.bool (decide_eq_true c48)) (by kernel_rfl) rfl (by kernel_rfl) ?_
            refine wl_take (some 119) (.bool true) rfl rfl (by kernel_rfl) ?_
            refine wl_take (some 120) (.bool true) rfl rfl (by kernel_rfl) ?_
            refine wg_take (some 121) (.int .u64 y4) (by kernel_rfl) rfl (by kernel_rfl) ?_
            refine wl_frame (a' := ⟨#[(.int .u64 T1), (.agg #[.slice a1 len1 cap1]), (.agg #[.slice a2 len2 cap2]), (.agg #[.slice a3 len3 cap3]), (.int .u64 y4), (.int .u64 y6), (.int .u64 y5), ud, (.pointer (some ⟨g1v, 0, none⟩)), (.pointer (some ⟨g2v, 0, none⟩)), (.pointer (some ⟨g3v, 0, none⟩)), ud, ud, ud, (yy 14), (.int .u64 (reV T1 x1 x2)), (.int .i64 (reE x1 x2)), (.pointer (some ⟨g30v, 0, none⟩)), (.int .i64 20), (yy 19), (yy 20), (yy 21), (yy 22), (.bool true), (.bool false), (.int .u64 y0), (.int .u64 T1), (.agg #[.slice a1 len1 cap1]), (.agg #[.slice a2 len2 cap2]), (.agg #[.slice a3 len3 cap3]), (.slice (some ⟨g5v, 0, none⟩) 3 3), (.bool true), (.bool false), (.tuple #[.int .u64 (reV T1 x1 x2), .int .i64 (reE x1 x2)]), (.int .u64 T1), (.agg #[.slice a1 len1 cap1]), (.agg #[.slice a2 len2 cap2]), (.tuple #[.int .u64 (reV T1 x1 x2), .int .i64 (reE x1 x2)]), (.int .u64 (reV T1 x1 x2)), (.int .i64 (reE x1 x2)), (.tuple #[.agg #[.slice none 0 0], .int .i64 20]), (.agg #[.slice a1 len1 cap1]), (.agg #[.slice a2 len2 cap2]), (.tuple #[.agg #[.slice none 0 0], .int .i64 20]), (.agg #[.slice none 0 0]), (.int .i64 20), (yy 46), (yy 47), (yy 48), (yy 49), (yy 50), (yy 51), (yy 52), (yy 53), (yy 54), (yy 55), (yy 56), (yy 57), (yy 58), (yy 59), (yy 60), (yy 61), (yy 62), (yy 63), (yy 64), (yy 65), (yy 66), (yy 67), (yy 68), (yy 69), (yy 70), (yy 71), (yy 72), (yy 73), (yy 74), (yy 75), (yy 76), (yy 77), (yy 78), (yy 79), (yy 80), (yy 81), (yy 82), (yy 83), (yy 84), (yy 85), (yy 86), (yy 87), (yy 88), (yy 89), (yy 90), (yy 91), (yy 92), (yy 93), (yy 94), (yy 95), (yy 96), (yy 97), (yy 98), (yy 99), (yy 100), (.int .u64 y5), (.int .u64 y6), (.bool true), (.int .u64 y6), (.int .u64 y5), (.int .u64 y4), (.int .u64 y6), (.int .u64 (y4 * min y6 10000 / 10000)), (.int .u64 y4), (.int .u64 y5), (.int .u64 (y4 * min y5 10000 / 10000)), (.bool true), (.bool true), (.int .u64 y4), (.int .u64 y5), (.int .u64 (y4 * min y5 10000 / 10000)), (.int .u64 y4), (.bool true), (.bool true), (.bool true), (.int .u64 y4), ud, ud, ud, ud, ud, ud, ud, ud, ud], []⟩) (by kernel_rfl) ?_
            refine wg_call (some 122) 23 #[.int .u64 y4, .int .u64 10000] (by kernel_rfl) rfl (by kernel_rfl) (sCut by4 (⟨by decide, by decide⟩ : (0 : Int) ≤ 10000 ∧ (10000 : Int) < 18446744073709551616)) ?_
            rintro e1 v35w ⟨rfl, B⟩
            refine ⟨_, rfl, ?_⟩
            replace BB := joinB BB B
            clear B
            have rg49 := cut_rng (p := 10000) by4 (⟨by decide, by decide⟩ : (0 : Int) ≤ 10000 ∧ (10000 : Int) < 18446744073709551616)
            refine wg_take (some 123) (.int .u64 y4) (by kernel_rfl) rfl (by kernel_rfl) ?_
            by_cases c50 : y4 * min 10000 10000 / 10000 = y4
            · skip
              refine wg_eq (some 124) (.bool ((y4 * min 10000 10000 / 10000 : Int) == y4)) (.bool true) (congrArg Value.bool (beq_iff_eq.2 c50)) (by kernel_rfl) rfl (by kernel_rfl) ?_
              refine wl_take (some 125) (.bool true) rfl rfl (by kernel_rfl) ?_
              refine wl_take (some 126) (.bool true) rfl rfl (by kernel_rfl) ?_
              refine wg_take (some 127) (.int .u64 y4) (by kernel_rfl) rfl (by kernel_rfl) ?_
              refine wg_call (some 128) 23 #[.int .u64 y4, .int .u64 0] (by kernel_rfl) rfl (by kernel_rfl) (sCut by4 (⟨by decide, by decide⟩ : (0 : Int) ≤ 0 ∧ (0 : Int) < 18446744073709551616)) ?_
              rintro e1 v36w ⟨rfl, B⟩
              refine ⟨_, rfl, ?_⟩
              replace BB := joinB BB B
              clear B
              have rg51 := cut_rng (p := 0) by4 (⟨by decide, by decide⟩ : (0 : Int) ≤ 0 ∧ (0 : Int) < 18446744073709551616)
              by_cases c52 : y4 * min 0 10000 / 10000 = 0
              · skip
                refine wg_eq (some 129) (.bool ((y4 * min 0 10000 / 10000 : Int) == 0)) (.bool true) (congrArg Value.bool (beq_iff_eq.2 c52)) (by kernel_rfl) rfl (by kernel_rfl) ?_
                refine wl_take (some 130) (.bool true) rfl rfl (by kernel_rfl) ?_
                refine wl_take (some 14) (.bool true) rfl rfl (by kernel_rfl) ?_
                refine wl_nil ?_
                refine wp_then ?_
                refine wp_frame (a' := ⟨#[(.int .u64 T1), (.agg #[.slice a1 len1 cap1]), (.agg #[.slice a2 len2 cap2]), (.agg #[.slice a3 len3 cap3]), (.int .u64 y4), (.int .u64 y6), (.int .u64 y5), ud, (.pointer (some ⟨g1v, 0, none⟩)), (.pointer (some ⟨g2v, 0, none⟩)), (.pointer (some ⟨g3v, 0, none⟩)), ud, ud, ud, (.bool true), (.int .u64 (reV T1 x1 x2)), (.int .i64 (reE x1 x2)), (.pointer (some ⟨g30v, 0, none⟩)), (.int .i64 20), (yy 19), (yy 20), (yy 21), (yy 22), (.bool true), (.bool false), (.int .u64 y0), (.int .u64 T1), (.agg #[.slice a1 len1 cap1]), (.agg #[.slice a2 len2 cap2]), (.agg #[.slice a3 len3 cap3]), (.slice (some ⟨g5v, 0, none⟩) 3 3), (.bool true), (.bool false), (.tuple #[.int .u64 (reV T1 x1 x2), .int .i64 (reE x1 x2)]), (.int .u64 T1), (.agg #[.slice a1 len1 cap1]), (.agg #[.slice a2 len2 cap2]), (.tuple #[.int .u64 (reV T1 x1 x2), .int .i64 (reE x1 x2)]), (.int .u64 (reV T1 x1 x2)), (.int .i64 (reE x1 x2)), (.tuple #[.agg #[.slice none 0 0], .int .i64 20]), (.agg #[.slice a1 len1 cap1]), (.agg #[.slice a2 len2 cap2]), (.tuple #[.agg #[.slice none 0 0], .int .i64 20]), (.agg #[.slice none 0 0]), (.int .i64 20), (yy 46), (yy 47), (yy 48), (yy 49), (yy 50), (yy 51), (yy 52), (yy 53), (yy 54), (yy 55), (yy 56), (yy 57), (yy 58), (yy 59), (yy 60), (yy 61), (yy 62), (yy 63), (yy 64), (yy 65), (yy 66), (yy 67), (yy 68), (yy 69), (yy 70), (yy 71), (yy 72), (yy 73), (yy 74), (yy 75), (yy 76), (yy 77), (yy 78), (yy 79), (yy 80), (yy 81), (yy 82), (yy 83), (yy 84), (yy 85), (yy 86), (yy 87), (yy 88), (yy 89), (yy 90), (yy 91), (yy 92), (yy 93), (yy 94), (yy 95), (yy 96), (yy 97), (yy 98), (yy 99), (yy 100), (.int .u64 y5), (.int .u64 y6), (.bool true), (.int .u64 y6), (.int .u64 y5), (.int .u64 y4), (.int .u64 y6), (.int .u64 (y4 * min y6 10000 / 10000)), (.int .u64 y4), (.int .u64 y5), (.int .u64 (y4 * min y5 10000 / 10000)), (.bool true), (.bool true), (.int .u64 y4), (.int .u64 y5), (.int .u64 (y4 * min y5 10000 / 10000)), (.int .u64 y4), (.bool true), (.bool true), (.bool true), (.int .u64 y4), (.int .u64 (y4 * min 10000 10000 / 10000)), (.int .u64 y4), (.bool true), (.bool true), (.bool true), (.int .u64 y4), (.int .u64 (y4 * min 0 10000 / 10000)), (.bool true), (.bool true)], []⟩) (by kernel_rfl) ?_
                refine wp_ret ?_
                repeat (first | refine ret_then ?_ | refine ret_block ?_)
                refine bodyPost_ret (results_tmp rfl _ _ _) rfl ?_
                exact ⟨by kernel_rfl, BB⟩
              · skip
                refine wg_eq (some 129) (.bool ((y4 * min 0 10000 / 10000 : Int) == 0)) (.bool false) (congrArg Value.bool (beq_eq_false_iff_ne.2 c52)) (by kernel_rfl) rfl (by kernel_rfl) ?_
                refine wl_take (some 130) (.bool false) rfl rfl (by kernel_rfl) ?_
                refine wl_take (some 14) (.bool false) rfl rfl (by kernel_rfl) ?_
                refine wl_nil ?_
                refine wp_then ?_
                refine wp_frame (a' := ⟨#[(.int .u64 T1), (.agg #[.slice a1 len1 cap1]), (.agg #[.slice a2 len2 cap2]), (.agg #[.slice a3 len3 cap3]), (.int .u64 y4), (.int .u64 y6), (.int .u64 y5), ud, (.pointer (some ⟨g1v, 0, none⟩)), (.pointer (some ⟨g2v, 0, none⟩)), (.pointer (some ⟨g3v, 0, none⟩)), ud, ud, ud, (.bool false), (.int .u64 (reV T1 x1 x2)), (.int .i64 (reE x1 x2)), (.pointer (some ⟨g30v, 0, none⟩)), (.int .i64 20), (yy 19), (yy 20), (yy 21), (yy 22), (.bool true), (.bool false), (.int .u64 y0), (.int .u64 T1), (.agg #[.slice a1 len1 cap1]), (.agg #[.slice a2 len2 cap2]), (.agg #[.slice a3 len3 cap3]), (.slice (some ⟨g5v, 0, none⟩) 3 3), (.bool true), (.bool false), (.tuple #[.int .u64 (reV T1 x1 x2), .int .i64 (reE x1 x2)]), (.int .u64 T1), (.agg #[.slice a1 len1 cap1]), (.agg #[.slice a2 len2 cap2]), (.tuple #[.int .u64 (reV T1 x1 x2), .int .i64 (reE x1 x2)]), (.int .u64 (reV T1 x1 x2)), (.int .i64 (reE x1 x2)), (.tuple #[.agg #[.slice none 0 0], .int .i64 20]), (.agg #[.slice a1 len1 cap1]), (.agg #[.slice a2 len2 cap2]), (.tuple #[.agg #[.slice none 0 0], .int .i64 20]), (.agg #[.slice none 0 0]), (.int .i64 20), (yy 46), (yy 47), (yy 48), (yy 49), (yy 50), (yy 51), (yy 52), (yy 53), (yy 54), (yy 55), (yy 56), (yy 57), (yy 58), (yy 59), (yy 60), (yy 61), (yy 62), (yy 63), (yy 64), (yy 65), (yy 66), (yy 67), (yy 68), (yy 69), (yy 70), (yy 71), (yy 72), (yy 73), (yy 74), (yy 75), (yy 76), (yy 77), (yy 78), (yy 79), (yy 80), (yy 81), (yy 82), (yy 83), (yy 84), (yy 85), (yy 86), (yy 87), (yy 88), (yy 89), (yy 90), (yy 91), (yy 92), (yy 93), (yy 94), (yy 95), (yy 96), (yy 97), (yy 98), (yy 99), (yy 100), (.int .u64 y5), (.int .u64 y6), (.bool true), (.int .u64 y6), (.int .u64 y5), (.int .u64 y4), (.int .u64 y6), (.int .u64 (y4 * min y6 10000 / 10000)), (.int .u64 y4), (.int .u64 y5), (.int .u64 (y4 * min y5 10000 / 10000)), (.bool true), (.bool true), (.int .u64 y4), (.int .u64 y5), (.int .u64 (y4 * min y5 10000 / 10000)), (.int .u64 y4), (.bool true), (.bool true), (.bool true), (.int .u64 y4), (.int .u64 (y4 * min 10000 10000 / 10000)), (.int .u64 y4), (.bool true), (.bool true), (.bool true), (.int .u64 y4), (.int .u64 (y4 * min 0 10000 / 10000)), (.bool false), (.bool false)], []⟩) (by kernel_rfl) ?_
                exfalso
                have kk := leave_two (T := T1) (S := x1) (x := x2) (y := x3) hx2 hx3
                have c1 := fun h => cut_le (n := y4) (p := y5) (q := y6) by4.1 h
                have c2 := fun h => cut_le (n := y4) (p := y6) (q := y5) by4.1 h
                have c3 := cut_n (n := y4) (q := y5) by4.1
                have c4 := cut_n (n := y4) (q := y6) by4.1
                have c5 := cut_full y4
                have c6 := cut_none y4
                clear BB
                omega
            · skip
              refine wg_eq (some 124) (.bool ((y4 * min 10000 10000 / 10000 : Int) == y4)) (.bool false) (congrArg Value.bool (beq_eq_false_iff_ne.2 c50)) (by kernel_rfl) rfl (by kernel_rfl) ?_
              refine wl_take (some 125) (.bool false) rfl rfl (by kernel_rfl) ?_
              refine wl_take (some 126) (.bool false) rfl rfl (by kernel_rfl) ?_
              refine wg_not (some 127) (by kernel_rfl) rfl ?_
              refine wg_not (some 128) (by kernel_rfl) rfl ?_
              refine wg_not (some 129) (by kernel_rfl) rfl ?_
              refine wl_take (some 130) (.bool false) rfl rfl (by kernel_rfl) ?_
              refine wl_take (some 14) (.bool false) rfl rfl (by kernel_rfl) ?_
              refine wl_nil ?_
              refine wp_then ?_
              refine wp_frame (a' := ⟨#[(.int .u64 T1), (.agg #[.slice a1 len1 cap1]), (.agg #[.slice a2 len2 cap2]), (.agg #[.slice a3 len3 cap3]), (.int .u64 y4), (.int .u64 y6), (.int .u64 y5), ud, (.pointer (some ⟨g1v, 0, none⟩)), (.pointer (some ⟨g2v, 0, none⟩)), (.pointer (some ⟨g3v, 0, none⟩)), ud, ud, ud, (.bool false), (.int .u64 (reV T1 x1 x2)), (.int .i64 (reE x1 x2)), (.pointer (some ⟨g30v, 0, none⟩)), (.int .i64 20), (yy 19), (yy 20), (yy 21), (yy 22), (.bool true), (.bool false), (.int .u64 y0), (.int .u64 T1), (.agg #[.slice a1 len1 cap1]), (.agg #[.slice a2 len2 cap2]), (.agg #[.slice a3 len3 cap3]), (.slice (some ⟨g5v, 0, none⟩) 3 3), (.bool true), (.bool false), (.tuple #[.int .u64 (reV T1 x1 x2), .int .i64 (reE x1 x2)]), (.int .u64 T1), (.agg #[.slice a1 len1 cap1]), (.agg #[.slice a2 len2 cap2]), (.tuple #[.int .u64 (reV T1 x1 x2), .int .i64 (reE x1 x2)]), (.int .u64 (reV T1 x1 x2)), (.int .i64 (reE x1 x2)), (.tuple #[.agg #[.slice none 0 0], .int .i64 20]), (.agg #[.slice a1 len1 cap1]), (.agg #[.slice a2 len2 cap2]), (.tuple #[.agg #[.slice none 0 0], .int .i64 20]), (.agg #[.slice none 0 0]), (.int .i64 20), (yy 46), (yy 47), (yy 48), (yy 49), (yy 50), (yy 51), (yy 52), (yy 53), (yy 54), (yy 55), (yy 56), (yy 57), (yy 58), (yy 59), (yy 60), (yy 61), (yy 62), (yy 63), (yy 64), (yy 65), (yy 66), (yy 67), (yy 68), (yy 69), (yy 70), (yy 71), (yy 72), (yy 73), (yy 74), (yy 75), (yy 76), (yy 77), (yy 78), (yy 79), (yy 80), (yy 81), (yy 82), (yy 83), (yy 84), (yy 85), (yy 86), (yy 87), (yy 88), (yy 89), (yy 90), (yy 91), (yy 92), (yy 93), (yy 94), (yy 95), (yy 96), (yy 97), (yy 98), (yy 99), (yy 100), (.int .u64 y5), (.int .u64 y6), (.bool true), (.int .u64 y6), (.int .u64 y5), (.int .u64 y4), (.int .u64 y6), (.int .u64 (y4 * min y6 10000 / 10000)), (.int .u64 y4), (.int .u64 y5), (.int .u64 (y4 * min y5 10000 / 10000)), (.bool true), (.bool true), (.int .u64 y4), (.int .u64 y5), (.int .u64 (y4 * min y5 10000 / 10000)), (.int .u64 y4), (.bool true), (.bool true), (.bool true), (.int .u64 y4), (.int .u64 (y4 * min 10000 10000 / 10000)), (.int .u64 y4), (.bool false), (.bool false), (.bool false), ud, ud, ud, (.bool false)], []⟩) (by kernel_rfl) ?_
              exfalso
              have kk := leave_two (T := T1) (S := x1) (x := x2) (y := x3) hx2 hx3
              have c1 := fun h => cut_le (n := y4) (p := y5) (q := y6) by4.1 h
              have c2 := fun h => cut_le (n := y4) (p := y6) (q := y5) by4.1 h
              have c3 := cut_n (n := y4) (q := y5) by4.1
              have c4 := cut_n (n := y4) (q := y6) by4.1
              have c5 := cut_full y4
              have c6 := cut_none y4
              clear BB
              omega
          · skip
            refine wg_eq (some 118) (.bool (decide ((y4 * min y5 10000 / 10000 : Int) ≤ y4))) (.bool false) (congrArg Value.bool (decide_eq_false c48)) (by kernel_rfl) rfl (by kernel_rfl) ?_
            refine wl_take (some 119) (.bool false) rfl rfl (by kernel_rfl) ?_
            refine wl_take (some 120) (.bool false) rfl rfl (by kernel_rfl) ?_
            refine wg_not (some 121) (by kernel_rfl) rfl ?_
            refine wl_frame (a' := ⟨#[(.int .u64 T1), (.agg #[.slice a1 len1 cap1]), (.agg #[.slice a2 len2 cap2]), (.agg #[.slice a3 len3 cap3]), (.int .u64 y4), (.int .u64 y6), (.int .u64 y5), ud, (.pointer (some ⟨g1v, 0, none⟩)), (.pointer (some ⟨g2v, 0, none⟩)), (.pointer (some ⟨g3v, 0, none⟩)), ud, ud, ud, (yy 14), (.int .u64 (reV T1 x1 x2)), (.int .i64 (reE x1 x2)), (.pointer (some ⟨g30v, 0, none⟩)), (.int .i64 20), (yy 19), (yy 20), (yy 21), (yy 22), (.bool true), (.bool false), (.int .u64 y0), (.int .u64 T1), (.agg #[.slice a1 len1 cap1]), (.agg #[.slice a2 len2 cap2]), (.agg #[.slice a3 len3 cap3]), (.slice (some ⟨g5v, 0, none⟩) 3 3), (.bool true), (.bool false), (.tuple #[.int .u64 (reV T1 x1 x2), .int .i64 (reE x1 x2)]), (.int .u64 T1), (.agg #[.slice a1 len1 cap1]), (.agg #[.slice a2 len2 cap2]), (.tuple #[.int .u64 (reV T1 x1 x2), .int .i64 (reE x1 x2)]), (.int .u64 (reV T1 x1 x2)), (.int .i64 (reE x1 x2)), (.tuple #[.agg #[.slice none 0 0], .int .i64 20]), (.agg #[.slice a1 len1 cap1]), (.agg #[.slice a2 len2 cap2]), (.tuple #[.agg #[.slice none 0 0], .int .i64 20]), (.agg #[.slice none 0 0]), (.int .i64 20), (yy 46), (yy 47), (yy 48), (yy 49), (yy 50), (yy 51), (yy 52), (yy 53), (yy 54), (yy 55), (yy 56), (yy 57), (yy 58), (yy 59), (yy 60), (yy 61), (yy 62), (yy 63), (yy 64), (yy 65), (yy 66), (yy 67), (yy 68), (yy 69), (yy 70), (yy 71), (yy 72), (yy 73), (yy 74), (yy 75), (yy 76), (yy 77), (yy 78), (yy 79), (yy 80), (yy 81), (yy 82), (yy 83), (yy 84), (yy 85), (yy 86), (yy 87), (yy 88), (yy 89), (yy 90), (yy 91), (yy 92), (yy 93), (yy 94), (yy 95), (yy 96), (yy 97), (yy 98), (yy 99), (yy 100), (.int .u64 y5), (.int .u64 y6), (.bool true), (.int .u64 y6), (.int .u64 y5), (.int .u64 y4), (.int .u64 y6), (.int .u64 (y4 * min y6 10000 / 10000)), (.int .u64 y4), (.int .u64 y5), (.int .u64 (y4 * min y5 10000 / 10000)), (.bool true), (.bool true), (.int .u64 y4), (.int .u64 y5), (.int .u64 (y4 * min y5 10000 / 10000)), (.int .u64 y4), (.bool false), (.bool false), (.bool false), ud, ud, ud, ud, ud, ud, ud, ud, ud, ud], []⟩) (by kernel_rfl) ?_
            refine wg_not (some 122) (by kernel_rfl) rfl ?_
            refine wg_not (some 123) (by kernel_rfl) rfl ?_
            refine wg_not (some 124) (by kernel_rfl) rfl ?_
            refine wl_take (some 125) (.bool false) rfl rfl (by kernel_rfl) ?_
            refine wl_take (some 126) (.bool false) rfl rfl (by kernel_rfl) ?_
            refine wg_not (some 127) (by kernel_rfl) rfl ?_
            refine wg_not (some 128) (by kernel_rfl) rfl ?_
            refine wg_not (some 129) (by kernel_rfl) rfl ?_
            refine wl_take (some 130) (.bool false) rfl rfl (by kernel_rfl) ?_
            refine wl_take (some 14) (.bool false) rfl rfl (by kernel_rfl) ?_
            refine wl_nil ?_
            refine wp_then ?_
            refine wp_frame (a' := ⟨#[(.int .u64 T1), (.agg #[.slice a1 len1 cap1]), (.agg #[.slice a2 len2 cap2]), (.agg #[.slice a3 len3 cap3]), (.int .u64 y4), (.int .u64 y6), (.int .u64 y5), ud, (.pointer (some ⟨g1v, 0, none⟩)), (.pointer (some ⟨g2v, 0, none⟩)), (.pointer (some ⟨g3v, 0, none⟩)), ud, ud, ud, (.bool false), (.int .u64 (reV T1 x1 x2)), (.int .i64 (reE x1 x2)), (.pointer (some ⟨g30v, 0, none⟩)), (.int .i64 20), (yy 19), (yy 20), (yy 21), (yy 22), (.bool true), (.bool false), (.int .u64 y0), (.int .u64 T1), (.agg #[.slice a1 len1 cap1]), (.agg #[.slice a2 len2 cap2]), (.agg #[.slice a3 len3 cap3]), (.slice (some ⟨g5v, 0, none⟩) 3 3), (.bool true), (.bool false), (.tuple #[.int .u64 (reV T1 x1 x2), .int .i64 (reE x1 x2)]), (.int .u64 T1), (.agg #[.slice a1 len1 cap1]), (.agg #[.slice a2 len2 cap2]), (.tuple #[.int .u64 (reV T1 x1 x2), .int .i64 (reE x1 x2)]), (.int .u64 (reV T1 x1 x2)), (.int .i64 (reE x1 x2)), (.tuple #[.agg #[.slice none 0 0], .int .i64 20]), (.agg #[.slice a1 len1 cap1]), (.agg #[.slice a2 len2 cap2]), (.tuple #[.agg #[.slice none 0 0], .int .i64 20]), (.agg #[.slice none 0 0]), (.int .i64 20), (yy 46), (yy 47), (yy 48), (yy 49), (yy 50), (yy 51), (yy 52), (yy 53), (yy 54), (yy 55), (yy 56), (yy 57), (yy 58), (yy 59), (yy 60), (yy 61), (yy 62), (yy 63), (yy 64), (yy 65), (yy 66), (yy 67), (yy 68), (yy 69), (yy 70), (yy 71), (yy 72), (yy 73), (yy 74), (yy 75), (yy 76), (yy 77), (yy 78), (yy 79), (yy 80), (yy 81), (yy 82), (yy 83), (yy 84), (yy 85), (yy 86), (yy 87), (yy 88), (yy 89), (yy 90), (yy 91), (yy 92), (yy 93), (yy 94), (yy 95), (yy 96), (yy 97), (yy 98), (yy 99), (yy 100), (.int .u64 y5), (.int .u64 y6), (.bool true), (.int .u64 y6), (.int .u64 y5), (.int .u64 y4), (.int .u64 y6), (.int .u64 (y4 * min y6 10000 / 10000)), (.int .u64 y4), (.int .u64 y5), (.int .u64 (y4 * min y5 10000 / 10000)), (.bool true), (.bool true), (.int .u64 y4), (.int .u64 y5), (.int .u64 (y4 * min y5 10000 / 10000)), (.int .u64 y4), (.bool false), (.bool false), (.bool false), ud, ud, ud, ud, (.bool false), (.bool false), ud, ud, ud, (.bool false)], []⟩) (by kernel_rfl) ?_
            exfalso
            have kk := leave_two (T := T1) (S := x1) (x := x2) (y := x3) hx2 hx3
            have c1 := fun h => cut_le (n := y4) (p := y5) (q := y6) by4.1 h
            have c2 := fun h => cut_le (n := y4) (p := y6) (q := y5) by4.1 h
            have c3 := cut_n (n := y4) (q := y5) by4.1
            have c4 := cut_n (n := y4) (q := y6) by4.1
            have c5 := cut_full y4
            have c6 := cut_none y4
            clear BB
            omega
        · skip
          refine wl_eq (some 112) (.bool (decide ((y4 * min y6 10000 / 10000 : Int) ≤ y4 * min y5 10000 / 10000))) (.bool false) (congrArg Value.bool (decide_eq_false c46)) rfl rfl (by kernel_rfl) ?_
          refine wl_take (some 113) (.bool false) rfl rfl (by kernel_rfl) ?_
          refine wg_not (some 114) (by kernel_rfl) rfl ?_
          refine wg_not (some 115) (by kernel_rfl) rfl ?_
          refine wg_not (some 116) (by kernel_rfl) rfl ?_
          refine wg_not (some 117) (by kernel_rfl) rfl ?_
          refine wg_not (some 118) (by kernel_rfl) rfl ?_
          refine wl_take (some 119) (.bool false) rfl rfl (by kernel_rfl) ?_
          refine wl_take (some 120) (.bool false) rfl rfl (by kernel_rfl) ?_
          refine wg_not (some 121) (by kernel_rfl) rfl ?_
          refine wl_frame (a' := ⟨#[(.int .u64 T1), (.agg #[.slice a1 len1 cap1]), (.agg #[.slice a2 len2 cap2]), (.agg #[.slice a3 len3 cap3]), (.int .u64 y4), (.int .u64 y6), (.int .u64 y5), ud, (.pointer (some ⟨g1v, 0, none⟩)), (.pointer (some ⟨g2v, 0, none⟩)), (.pointer (some ⟨g3v, 0, none⟩)), ud, ud, ud, (yy 14), (.int .u64 (reV T1 x1 x2)), (.int .i64 (reE x1 x2)), (.pointer (some ⟨g30v, 0, none⟩)), (.int .i64 20), (yy 19), (yy 20), (yy 21), (yy 22), (.bool true), (.bool false), (.int .u64 y0), (.int .u64 T1), (.agg #[.slice a1 len1 cap1]), (.agg #[.slice a2 len2 cap2]), (.agg #[.slice a3 len3 cap3]), (.slice (some ⟨g5v, 0, none⟩) 3 3), (.bool true), (.bool false), (.tuple #[.int .u64 (reV T1 x1 x2), .int .i64 (reE x1 x2)]), (.int .u64 T1), (.agg #[.slice a1 len1 cap1]), (.agg #[.slice a2 len2 cap2]), (.tuple #[.int .u64 (reV T1 x1 x2), .int .i64 (reE x1 x2)]), (.int .u64 (reV T1 x1 x2)), (.int .i64 (reE x1 x2)), (.tuple #[.agg #[.slice none 0 0], .int .i64 20]), (.agg #[.slice a1 len1 cap1]), (.agg #[.slice a2 len2 cap2]), (.tuple #[.agg #[.slice none 0 0], .int .i64 20]), (.agg #[.slice none 0 0]), (.int .i64 20), (yy 46), (yy 47), (yy 48), (yy 49), (yy 50), (yy 51), (yy 52), (yy 53), (yy 54), (yy 55), (yy 56), (yy 57), (yy 58), (yy 59), (yy 60), (yy 61), (yy 62), (yy 63), (yy 64), (yy 65), (yy 66), (yy 67), (yy 68), (yy 69), (yy 70), (yy 71), (yy 72), (yy 73), (yy 74), (yy 75), (yy 76), (yy 77), (yy 78), (yy 79), (yy 80), (yy 81), (yy 82), (yy 83), (yy 84), (yy 85), (yy 86), (yy 87), (yy 88), (yy 89), (yy 90), (yy 91), (yy 92), (yy 93), (yy 94), (yy 95), (yy 96), (yy 97), (yy 98), (yy 99), (yy 100), (.int .u64 y5), (.int .u64 y6), (.bool true), (.int .u64 y6), (.int .u64 y5), (.int .u64 y4), (.int .u64 y6), (.int .u64 (y4 * min y6 10000 / 10000)), (.int .u64 y4), (.int .u64 y5), (.int .u64 (y4 * min y5 10000 / 10000)), (.bool false), (.bool false), ud, ud, ud, ud, ud, (.bool false), (.bool false), ud, ud, ud, ud, ud, ud, ud, ud, ud, ud], []⟩) (by kernel_rfl) ?_
          refine wg_not (some 122) (by kernel_rfl) rfl ?_
          refine wg_not (some 123) (by kernel_rfl) rfl ?_
          refine wg_not (some 124) (by kernel_rfl) rfl ?_
          refine wl_take (some 125) (.bool false) rfl rfl (by kernel_rfl) ?_
          refine wl_take (some 126) (.bool false) rfl rfl (by kernel_rfl) ?_
          refine wg_not (some 127) (by kernel_rfl) rfl ?_
          refine wg_not (some 128) (by kernel_rfl) rfl ?_
          refine wg_not (some 129) (by kernel_rfl) rfl ?_
          refine wl_take (some 130) (.bool false) rfl rfl (by kernel_rfl) ?_
          refine wl_take (some 14) (.bool false) rfl rfl (by kernel_rfl) ?_
          refine wl_nil ?_
          refine wp_then ?_
          refine wp_frame (a' := ⟨#[(.int .u64 T1), (.agg #[.slice a1 len1 cap1]), (.agg #[.slice a2 len2 cap2]), (.agg #[.slice a3 len3 cap3]), (.int .u64 y4), (.int .u64 y6), (.int .u64 y5), ud, (.pointer (some ⟨g1v, 0, none⟩)), (.pointer (some ⟨g2v, 0, none⟩)), (.pointer (some ⟨g3v, 0, none⟩)), ud, ud, ud, (.bool false), (.int .u64 (reV T1 x1 x2)), (.int .i64 (reE x1 x2)), (.pointer (some ⟨g30v, 0, none⟩)), (.int .i64 20), (yy 19), (yy 20), (yy 21), (yy 22), (.bool true), (.bool false), (.int .u64 y0), (.int .u64 T1), (.agg #[.slice a1 len1 cap1]), (.agg #[.slice a2 len2 cap2]), (.agg #[.slice a3 len3 cap3]), (.slice (some ⟨g5v, 0, none⟩) 3 3), (.bool true), (.bool false), (.tuple #[.int .u64 (reV T1 x1 x2), .int .i64 (reE x1 x2)]), (.int .u64 T1), (.agg #[.slice a1 len1 cap1]), (.agg #[.slice a2 len2 cap2]), (.tuple #[.int .u64 (reV T1 x1 x2), .int .i64 (reE x1 x2)]), (.int .u64 (reV T1 x1 x2)), (.int .i64 (reE x1 x2)), (.tuple #[.agg #[.slice none 0 0], .int .i64 20]), (.agg #[.slice a1 len1 cap1]), (.agg #[.slice a2 len2 cap2]), (.tuple #[.agg #[.slice none 0 0], .int .i64 20]), (.agg #[.slice none 0 0]), (.int .i64 20), (yy 46), (yy 47), (yy 48), (yy 49), (yy 50), (yy 51), (yy 52), (yy 53), (yy 54), (yy 55), (yy 56), (yy 57), (yy 58), (yy 59), (yy 60), (yy 61), (yy 62), (yy 63), (yy 64), (yy 65), (yy 66), (yy 67), (yy 68), (yy 69), (yy 70), (yy 71), (yy 72), (yy 73), (yy 74), (yy 75), (yy 76), (yy 77), (yy 78), (yy 79), (yy 80), (yy 81), (yy 82), (yy 83), (yy 84), (yy 85), (yy 86), (yy 87), (yy 88), (yy 89), (yy 90), (yy 91), (yy 92), (yy 93), (yy 94), (yy 95), (yy 96), (yy 97), (yy 98), (yy 99), (yy 100), (.int .u64 y5), (.int .u64 y6), (.bool true), (.int .u64 y6), (.int .u64 y5), (.int .u64 y4), (.int .u64 y6), (.int .u64 (y4 * min y6 10000 / 10000)), (.int .u64 y4), (.int .u64 y5), (.int .u64 (y4 * min y5 10000 / 10000)), (.bool false), (.bool false), ud, ud, ud, ud, ud, (.bool false), (.bool false), ud, ud, ud, ud, (.bool false), (.bool false), ud, ud, ud, (.bool false)], []⟩) (by kernel_rfl) ?_
          exfalso
          have kk := leave_two (T := T1) (S := x1) (x := x2) (y := x3) hx2 hx3
          have c1 := fun h => cut_le (n := y4) (p := y5) (q := y6) by4.1 h
          have c2 := fun h => cut_le (n := y4) (p := y6) (q := y5) by4.1 h
          have c3 := cut_n (n := y4) (q := y5) by4.1
          have c4 := cut_n (n := y4) (q := y6) by4.1
          have c5 := cut_full y4
          have c6 := cut_none y4
          clear BB
          omega
      · skip
        refine wl_eq (some 103) (.bool (decide ((y6 : Int) < y5))) (.bool false) (congrArg Value.bool (decide_eq_false c43)) rfl rfl (by kernel_rfl) ?_
        refine wl_nil ?_
        refine wp_then ?_
        refine wp_cond_false (by kernel_rfl) ?_
        refine wp_skip_then ?_
        refine wp_seq ?_
        refine wl_start ?_
        refine wl_take (some 106) (.int .u64 y4) rfl rfl (by kernel_rfl) ?_
        refine wl_take (some 107) (.int .u64 y5) rfl rfl (by kernel_rfl) ?_
        refine wl_call (some 108) 23 #[.int .u64 y4, .int .u64 y5] rfl rfl (by kernel_rfl) (sCut by4 by5) ?_
        rintro e1 v37w ⟨rfl, B⟩
        refine ⟨_, rfl, ?_⟩
        replace BB := joinB BB B
        clear B
        have rg53 := cut_rng (p := y5) by4 by5
        refine wl_take (some 109) (.int .u64 y4) rfl rfl (by kernel_rfl) ?_
        refine wl_take (some 110) (.int .u64 y6) rfl rfl (by kernel_rfl) ?_
        refine wl_call (some 111) 23 #[.int .u64 y4, .int .u64 y6] rfl rfl (by kernel_rfl) (sCut by4 by6) ?_
        rintro e1 v38w ⟨rfl, B⟩
        refine ⟨_, rfl, ?_⟩
        replace BB := joinB BB B
        clear B
        have rg54 := cut_rng (p := y6) by4 by6
        by_cases c55 : y4 * min y5 10000 / 10000 ≤ y4 * min y6 10000 / 10000
        · skip
          refine wl_eq (some 112) (.bool (decide ((y4 * min y5 10000 / 10000 : Int) ≤ y4 * min y6 10000 / 10000))) (.bool true) (congrArg Value.bool (decide_eq_true c55)) rfl rfl (by kernel_rfl) ?_
          refine wl_take (some 113) (.bool true) rfl rfl (by kernel_rfl) ?_
          refine wg_take (some 114) (.int .u64 y4) (by kernel_rfl) rfl (by kernel_rfl) ?_
          refine wg_take (some 115) (.int .u64 y6) (by kernel_rfl) rfl (by kernel_rfl) ?_
          refine wg_call (some 116) 23 #[.int .u64 y4, .int .u64 y6] (by kernel_rfl) rfl (by kernel_rfl) (sCut by4 by6) ?_
          rintro e1 v39w ⟨rfl, B⟩
          refine ⟨_, rfl, ?_⟩
          replace BB := joinB BB B
          clear B
          have rg56 := cut_rng (p := y6) by4 by6
          refine wg_take (some 117) (.int .u64 y4) (by kernel_rfl) rfl (by kernel_rfl) ?_
          by_cases c57 : y4 * min y6 10000 / 10000 ≤ y4
          · skip
            refine wg_eq (some 118) (.bool (decide ((y4 * min y6 10000 / 10000 : Int) ≤ y4))) (.bool true) (congrArg Value.bool (decide_eq_true c57)) (by kernel_rfl) rfl (by kernel_rfl) ?_
            refine wl_take (some 119) (.bool true) rfl rfl (by kernel_rfl) ?_
            refine wl_take (some 120) (.bool true) rfl rfl (by kernel_rfl) ?_
            refine wg_take (some 121) (.int .u64 y4) (by kernel_rfl) rfl (by kernel_rfl) ?_
            refine wl_frame (a' := ⟨#[(.int .u64 T1), (.agg #[.slice a1 len1 cap1]), (.agg #[.slice a2 len2 cap2]), (.agg #[.slice a3 len3 cap3]), (.int .u64 y4), (.int .u64 y5), (.int .u64 y6), ud, (.pointer (some ⟨g1v, 0, none⟩)), (.pointer (some ⟨g2v, 0, none⟩)), (.pointer (some ⟨g3v, 0, none⟩)), ud, ud, ud, (yy 14), (.int .u64 (reV T1 x1 x2)), (.int .i64 (reE x1 x2)), (.pointer (some ⟨g30v, 0, none⟩)), (.int .i64 20), (yy 19), (yy 20), (yy 21), (yy 22), (.bool true), (.bool false), (.int .u64 y0), (.int .u64 T1), (.agg #[.slice a1 len1 cap1]), (.agg #[.slice a2 len2 cap2]), (.agg #[.slice a3 len3 cap3]), (.slice (some ⟨g5v, 0, none⟩) 3 3), (.bool true), (.bool false), (.tuple #[.int .u64 (reV T1 x1 x2), .int .i64 (reE x1 x2)]), (.int .u64 T1), (.agg #[.slice a1 len1 cap1]), (.agg #[.slice a2 len2 cap2]), (.tuple #[.int .u64 (reV T1 x1 x2), .int .i64 (reE x1 x2)]), (.int .u64 (reV T1 x1 x2)), (.int .i64 (reE x1 x2)), (.tuple #[.agg #[.slice none 0 0], .int .i64 20]), (.agg #[.slice a1 len1 cap1]), (.agg #[.slice a2 len2 cap2]), (.tuple #[.agg #[.slice none 0 0], .int .i64 20]), (.agg #[.slice none 0 0]), (.int .i64 20), (yy 46), (yy 47), (yy 48), (yy 49), (yy 50), (yy 51), (yy 52), (yy 53), (yy 54), (yy 55), (yy 56), (yy 57), (yy 58), (yy 59), (yy 60), (yy 61), (yy 62), (yy 63), (yy 64), (yy 65), (yy 66), (yy 67), (yy 68), (yy 69), (yy 70), (yy 71), (yy 72), (yy 73), (yy 74), (yy 75), (yy 76), (yy 77), (yy 78), (yy 79), (yy 80), (yy 81), (yy 82), (yy 83), (yy 84), (yy 85), (yy 86), (yy 87), (yy 88), (yy 89), (yy 90), (yy 91), (yy 92), (yy 93), (yy 94), (yy 95), (yy 96), (yy 97), (yy 98), (yy 99), (yy 100), (.int .u64 y5), (.int .u64 y6), (.bool false), ud, ud, (.int .u64 y4), (.int .u64 y5), (.int .u64 (y4 * min y5 10000 / 10000)), (.int .u64 y4), (.int .u64 y6), (.int .u64 (y4 * min y6 10000 / 10000)), (.bool true), (.bool true), (.int .u64 y4), (.int .u64 y6), (.int .u64 (y4 * min y6 10000 / 10000)), (.int .u64 y4), (.bool true), (.bool true), (.bool true), (.int .u64 y4), ud, ud, ud, ud, ud, ud, ud, ud, ud], []⟩) (by kernel_rfl) ?_
            refine wg_call (some 122) 23 #[.int .u64 y4, .int .u64 10000] (by kernel_rfl) rfl (by kernel_rfl) (sCut by4 (⟨by decide, by decide⟩ : (0 : Int) ≤ 10000 ∧ (10000 : Int) < 18446744073709551616)) ?_
            rintro e1 v40w ⟨rfl, B⟩
            refine ⟨_, rfl, ?_⟩
            replace BB := joinB BB B
            clear B
            have rg58 := cut_rng (p := 10000) by4 (⟨by decide, by decide⟩ : (0 : Int) ≤ 10000 ∧ (10000 : Int) < 18446744073709551616)
            refine wg_take (some 123) (.int .u64 y4) (by kernel_rfl) rfl (by kernel_rfl) ?_
            by_cases c59 : y4 * min 10000 10000 / 10000 = y4
            · skip
              refine wg_eq (some 124) (.bool ((y4 * min 10000 10000 / 10000 : Int) == y4)) (.bool true) (congrArg Value.bool (beq_iff_eq.2 c59)) (by kernel_rfl) rfl (by kernel_rfl) ?_
              refine wl_take (some 125) (.bool true) rfl rfl (by kernel_rfl) ?_
              refine wl_take (some 126) (.bool true) rfl rfl (by kernel_rfl) ?_
              refine wg_take (some 127) (.int .u64 y4) (by kernel_rfl) rfl (by kernel_rfl) ?_
              refine wg_call (some 128) 23 #[.int .u64 y4, .int .u64 0] (by kernel_rfl) rfl (by kernel_rfl) (sCut by4 (⟨by decide, by decide⟩ : (0 : Int) ≤ 0 ∧ (0 : Int) < 18446744073709551616)) ?_
              rintro e1 v41w ⟨rfl, B⟩
              refine ⟨_, rfl, ?_⟩
              replace BB := joinB BB B
              clear B
              have rg60 := cut_rng (p := 0) by4 (⟨by decide, by decide⟩ : (0 : Int) ≤ 0 ∧ (0 : Int) < 18446744073709551616)
              by_cases c61 : y4 * min 0 10000 / 10000 = 0
              · skip
                refine wg_eq (some 129) (.bool ((y4 * min 0 10000 / 10000 : Int) == 0)) (.bool true) (congrArg Value.bool (beq_iff_eq.2 c61)) (by kernel_rfl) rfl (by kernel_rfl) ?_
                refine wl_take (some 130) (.bool true) rfl rfl (by kernel_rfl) ?_
                refine wl_take (some 14) (.bool true) rfl rfl (by kernel_rfl) ?_
                refine wl_nil ?_
                refine wp_then ?_
                refine wp_frame (a' := ⟨#[(.int .u64 T1), (.agg #[.slice a1 len1 cap1]), (.agg #[.slice a2 len2 cap2]), (.agg #[.slice a3 len3 cap3]), (.int .u64 y4), (.int .u64 y5), (.int .u64 y6), ud, (.pointer (some ⟨g1v, 0, none⟩)), (.pointer (some ⟨g2v, 0, none⟩)), (.pointer (some ⟨g3v, 0, none⟩)), ud, ud, ud, (.bool true), (.int .u64 (reV T1 x1 x2)), (.int .i64 (reE x1 x2)), (.pointer (some ⟨g30v, 0, none⟩)), (.int .i64 20), (yy 19), (yy 20), (yy 21), (yy 22), (.bool true), (.bool false), (.int .u64 y0), (.int .u64 T1), (.agg #[.slice a1 len1 cap1]), (.agg #[.slice a2 len2 cap2]), (.agg #[.slice a3 len3 cap3]), (.slice (some ⟨g5v, 0, none⟩) 3 3), (.bool true), (.bool false), (.tuple #[.int .u64 (reV T1 x1 x2), .int .i64 (reE x1 x2)]), (.int .u64 T1), (.agg #[.slice a1 len1 cap1]), (.agg #[.slice a2 len2 cap2]), (.tuple #[.int .u64 (reV T1 x1 x2), .int .i64 (reE x1 x2)]), (.int .u64 (reV T1 x1 x2)), (.int .i64 (reE x1 x2)), (.tuple #[.agg #[.slice none 0 0], .int .i64 20]), (.agg #[.slice a1 len1 cap1]), (.agg #[.slice a2 len2 cap2]), (.tuple #[.agg #[.slice none 0 0], .int .i64 20]), (.agg #[.slice none 0 0]), (.int .i64 20), (yy 46), (yy 47), (yy 48), (yy 49), (yy 50), (yy 51), (yy 52), (yy 53), (yy 54), (yy 55), (yy 56), (yy 57), (yy 58), (yy 59), (yy 60), (yy 61), (yy 62), (yy 63), (yy 64), (yy 65), (yy 66), (yy 67), (yy 68), (yy 69), (yy 70), (yy 71), (yy 72), (yy 73), (yy 74), (yy 75), (yy 76), (yy 77), (yy 78), (yy 79), (yy 80), (yy 81), (yy 82), (yy 83), (yy 84), (yy 85), (yy 86), (yy 87), (yy 88), (yy 89), (yy 90), (yy 91), (yy 92), (yy 93), (yy 94), (yy 95), (yy 96), (yy 97), (yy 98), (yy 99), (yy 100), (.int .u64 y5), (.int .u64 y6), (.bool false), ud, ud, (.int .u64 y4), (.int .u64 y5), (.int .u64 (y4 * min y5 10000 / 10000)), (.int .u64 y4), (.int .u64 y6), (.int .u64 (y4 * min y6 10000 / 10000)), (.bool true), (.bool true), (.int .u64 y4), (.int .u64 y6), (.int .u64 (y4 * min y6 10000 / 10000)), (.int .u64 y4), (.bool true), (.bool true), (.bool true), (.int .u64 y4), (.int .u64 (y4 * min 10000 10000 / 10000)), (.int .u64 y4), (.bool true), (.bool true), (.bool true), (.int .u64 y4), (.int .u64 (y4 * min 0 10000 / 10000)), (.bool true), (.bool true)], []⟩) (by kernel_rfl) ?_
                refine wp_ret ?_
                repeat (first | refine ret_then ?_ | refine ret_block ?_)
                refine bodyPost_ret (results_tmp rfl _ _ _) rfl ?_
                exact ⟨by kernel_rfl, BB⟩
              · skip
                refine wg_eq (some 129) (.bool ((y4 * min 0 10000 / 10000 : Int) == 0)) (.bool false) (congrArg Value.bool (beq_eq_false_iff_ne.2 c61)) (by kernel_rfl) rfl (by kernel_rfl) ?_
                refine wl_take (some 130) (.bool false) rfl rfl (by kernel_rfl) ?_
                refine wl_take (some 14) (.bool false) rfl rfl (by kernel_rfl) ?_
                refine wl_nil ?_
                refine wp_then ?_
                refine wp_frame (a' := ⟨#[(.int .u64 T1), (.agg #[.slice a1 len1 cap1]), (.agg #[.slice a2 len2 cap2]), (.agg #[.slice a3 len3 cap3]), (.int .u64 y4), (.int .u64 y5), (.int .u64 y6), ud, (.pointer (some ⟨g1v, 0, none⟩)), (.pointer (some ⟨g2v, 0, none⟩)), (.pointer (some ⟨g3v, 0, none⟩)), ud, ud, ud, (.bool false), (.int .u64 (reV T1 x1 x2)), (.int .i64 (reE x1 x2)), (.pointer (some ⟨g30v, 0, none⟩)), (.int .i64 20), (yy 19), (yy 20), (yy 21), (yy 22), (.bool true), (.bool false), (.int .u64 y0), (.int .u64 T1), (.agg #[.slice a1 len1 cap1]), (.agg #[.slice a2 len2 cap2]), (.agg #[.slice a3 len3 cap3]), (.slice (some ⟨g5v, 0, none⟩) 3 3), (.bool true), (.bool false), (.tuple #[.int .u64 (reV T1 x1 x2), .int .i64 (reE x1 x2)]), (.int .u64 T1), (.agg #[.slice a1 len1 cap1]), (.agg #[.slice a2 len2 cap2]), (.tuple #[.int .u64 (reV T1 x1 x2), .int .i64 (reE x1 x2)]), (.int .u64 (reV T1 x1 x2)), (.int .i64 (reE x1 x2)), (.tuple #[.agg #[.slice none 0 0], .int .i64 20]), (.agg #[.slice a1 len1 cap1]), (.agg #[.slice a2 len2 cap2]), (.tuple #[.agg #[.slice none 0 0], .int .i64 20]), (.agg #[.slice none 0 0]), (.int .i64 20), (yy 46), (yy 47), (yy 48), (yy 49), (yy 50), (yy 51), (yy 52), (yy 53), (yy 54), (yy 55), (yy 56), (yy 57), (yy 58), (yy 59), (yy 60), (yy 61), (yy 62), (yy 63), (yy 64), (yy 65), (yy 66), (yy 67), (yy 68), (yy 69), (yy 70), (yy 71), (yy 72), (yy 73), (yy 74), (yy 75), (yy 76), (yy 77), (yy 78), (yy 79), (yy 80), (yy 81), (yy 82), (yy 83), (yy 84), (yy 85), (yy 86), (yy 87), (yy 88), (yy 89), (yy 90), (yy 91), (yy 92), (yy 93), (yy 94), (yy 95), (yy 96), (yy 97), (yy 98), (yy 99), (yy 100), (.int .u64 y5), (.int .u64 y6), (.bool false), ud, ud, (.int .u64 y4), (.int .u64 y5), (.int .u64 (y4 * min y5 10000 / 10000)), (.int .u64 y4), (.int .u64 y6), (.int .u64 (y4 * min y6 10000 / 10000)), (.bool true), (.bool true), (.int .u64 y4), (.int .u64 y6), (.int .u64 (y4 * min y6 10000 / 10000)), (.int .u64 y4), (.bool true), (.bool true), (.bool true), (.int .u64 y4), (.int .u64 (y4 * min 10000 10000 / 10000)), (.int .u64 y4), (.bool true), (.bool true), (.bool true), (.int .u64 y4), (.int .u64 (y4 * min 0 10000 / 10000)), (.bool false), (.bool false)], []⟩) (by kernel_rfl) ?_
                exfalso
                have kk := leave_two (T := T1) (S := x1) (x := x2) (y := x3) hx2 hx3
                have c1 := fun h => cut_le (n := y4) (p := y5) (q := y6) by4.1 h
                have c2 := fun h => cut_le (n := y4) (p := y6) (q := y5) by4.1 h
                have c3 := cut_n (n := y4) (q := y5) by4.1
                have c4 := cut_n (n := y4) (q := y6) by4.1
                have c5 := cut_full y4
                have c6 := cut_none y4
                clear BB
                omega
            · skip
              refine wg_eq (some 124) (.bool ((y4 * min 10000 10000 / 10000 : Int) == y4)) (.bool false) (congrArg Value.bool (beq_eq_false_iff_ne.2 c59)) (by kernel_rfl) rfl (by kernel_rfl) ?_
              refine wl_take (some 125) (.bool false) rfl rfl (by kernel_rfl) ?_
              refine wl_take (some 126) (.bool false) rfl rfl (by kernel_rfl) ?_
              refine wg_not (some 127) (by kernel_rfl) rfl ?_
              refine wg_not (some 128) (by kernel_rfl) rfl ?_
              refine wg_not (some 129) (by kernel_rfl) rfl ?_
              refine wl_take (some 130) (.bool false) rfl rfl (by kernel_rfl) ?_
              refine wl_take (some 14) (.bool false) rfl rfl (by kernel_rfl) ?_
              refine wl_nil ?_
              refine wp_then ?_
              refine wp_frame (a' := ⟨#[(.int .u64 T1), (.agg #[.slice a1 len1 cap1]), (.agg #[.slice a2 len2 cap2]), (.agg #[.slice a3 len3 cap3]), (.int .u64 y4), (.int .u64 y5), (.int .u64 y6), ud, (.pointer (some ⟨g1v, 0, none⟩)), (.pointer (some ⟨g2v, 0, none⟩)), (.pointer (some ⟨g3v, 0, none⟩)), ud, ud, ud, (.bool false), (.int .u64 (reV T1 x1 x2)), (.int .i64 (reE x1 x2)), (.pointer (some ⟨g30v, 0, none⟩)), (.int .i64 20), (yy 19), (yy 20), (yy 21), (yy 22), (.bool true), (.bool false), (.int .u64 y0), (.int .u64 T1), (.agg #[.slice a1 len1 cap1]), (.agg #[.slice a2 len2 cap2]), (.agg #[.slice a3 len3 cap3]), (.slice (some ⟨g5v, 0, none⟩) 3 3), (.bool true), (.bool false), (.tuple #[.int .u64 (reV T1 x1 x2), .int .i64 (reE x1 x2)]), (.int .u64 T1), (.agg #[.slice a1 len1 cap1]), (.agg #[.slice a2 len2 cap2]), (.tuple #[.int .u64 (reV T1 x1 x2), .int .i64 (reE x1 x2)]), (.int .u64 (reV T1 x1 x2)), (.int .i64 (reE x1 x2)), (.tuple #[.agg #[.slice none 0 0], .int .i64 20]), (.agg #[.slice a1 len1 cap1]), (.agg #[.slice a2 len2 cap2]), (.tuple #[.agg #[.slice none 0 0], .int .i64 20]), (.agg #[.slice none 0 0]), (.int .i64 20), (yy 46), (yy 47), (yy 48), (yy 49), (yy 50), (yy 51), (yy 52), (yy 53), (yy 54), (yy 55), (yy 56), (yy 57), (yy 58), (yy 59), (yy 60), (yy 61), (yy 62), (yy 63), (yy 64), (yy 65), (yy 66), (yy 67), (yy 68), (yy 69), (yy 70), (yy 71), (yy 72), (yy 73), (yy 74), (yy 75), (yy 76), (yy 77), (yy 78), (yy 79), (yy 80), (yy 81), (yy 82), (yy 83), (yy 84), (yy 85), (yy 86), (yy 87), (yy 88), (yy 89), (yy 90), (yy 91), (yy 92), (yy 93), (yy 94), (yy 95), (yy 96), (yy 97), (yy 98), (yy 99), (yy 100), (.int .u64 y5), (.int .u64 y6), (.bool false), ud, ud, (.int .u64 y4), (.int .u64 y5), (.int .u64 (y4 * min y5 10000 / 10000)), (.int .u64 y4), (.int .u64 y6), (.int .u64 (y4 * min y6 10000 / 10000)), (.bool true), (.bool true), (.int .u64 y4), (.int .u64 y6), (.int .u64 (y4 * min y6 10000 / 10000)), (.int .u64 y4), (.bool true), (.bool true), (.bool true), (.int .u64 y4), (.int .u64 (y4 * min 10000 10000 / 10000)), (.int .u64 y4), (.bool false), (.bool false), (.bool false), ud, ud, ud, (.bool false)], []⟩) (by kernel_rfl) ?_
              exfalso
              have kk := leave_two (T := T1) (S := x1) (x := x2) (y := x3) hx2 hx3
              have c1 := fun h => cut_le (n := y4) (p := y5) (q := y6) by4.1 h
              have c2 := fun h => cut_le (n := y4) (p := y6) (q := y5) by4.1 h
              have c3 := cut_n (n := y4) (q := y5) by4.1
              have c4 := cut_n (n := y4) (q := y6) by4.1
              have c5 := cut_full y4
              have c6 := cut_none y4
              clear BB
              omega
          · skip
            refine wg_eq (some 118) (.bool (decide ((y4 * min y6 10000 / 10000 : Int) ≤ y4))) (.bool false) (congrArg Value.bool (decide_eq_false c57)) (by kernel_rfl) rfl (by kernel_rfl) ?_
            refine wl_take (some 119) (.bool false) rfl rfl (by kernel_rfl) ?_
            refine wl_take (some 120) (.bool false) rfl rfl (by kernel_rfl) ?_
            refine wg_not (some 121) (by kernel_rfl) rfl ?_
            refine wl_frame (a' := ⟨#[(.int .u64 T1), (.agg #[.slice a1 len1 cap1]), (.agg #[.slice a2 len2 cap2]), (.agg #[.slice a3 len3 cap3]), (.int .u64 y4), (.int .u64 y5), (.int .u64 y6), ud, (.pointer (some ⟨g1v, 0, none⟩)), (.pointer (some ⟨g2v, 0, none⟩)), (.pointer (some ⟨g3v, 0, none⟩)), ud, ud, ud, (yy 14), (.int .u64 (reV T1 x1 x2)), (.int .i64 (reE x1 x2)), (.pointer (some ⟨g30v, 0, none⟩)), (.int .i64 20), (yy 19), (yy 20), (yy 21), (yy 22), (.bool true), (.bool false), (.int .u64 y0), (.int .u64 T1), (.agg #[.slice a1 len1 cap1]), (.agg #[.slice a2 len2 cap2]), (.agg #[.slice a3 len3 cap3]), (.slice (some ⟨g5v, 0, none⟩) 3 3), (.bool true), (.bool false), (.tuple #[.int .u64 (reV T1 x1 x2), .int .i64 (reE x1 x2)]), (.int .u64 T1), (.agg #[.slice a1 len1 cap1]), (.agg #[.slice a2 len2 cap2]), (.tuple #[.int .u64 (reV T1 x1 x2), .int .i64 (reE x1 x2)]), (.int .u64 (reV T1 x1 x2)), (.int .i64 (reE x1 x2)), (.tuple #[.agg #[.slice none 0 0], .int .i64 20]), (.agg #[.slice a1 len1 cap1]), (.agg #[.slice a2 len2 cap2]), (.tuple #[.agg #[.slice none 0 0], .int .i64 20]), (.agg #[.slice none 0 0]), (.int .i64 20), (yy 46), (yy 47), (yy 48), (yy 49), (yy 50), (yy 51), (yy 52), (yy 53), (yy 54), (yy 55), (yy 56), (yy 57), (yy 58), (yy 59), (yy 60), (yy 61), (yy 62), (yy 63), (yy 64), (yy 65), (yy 66), (yy 67), (yy 68), (yy 69), (yy 70), (yy 71), (yy 72), (yy 73), (yy 74), (yy 75), (yy 76), (yy 77), (yy 78), (yy 79), (yy 80), (yy 81), (yy 82), (yy 83), (yy 84), (yy 85), (yy 86), (yy 87), (yy 88), (yy 89), (yy 90), (yy 91), (yy 92), (yy 93), (yy 94), (yy 95), (yy 96), (yy 97), (yy 98), (yy 99), (yy 100), (.int .u64 y5), (.int .u64 y6), (.bool false), ud, ud, (.int .u64 y4), (.int .u64 y5), (.int .u64 (y4 * min y5 10000 / 10000)), (.int .u64 y4), (.int .u64 y6), (.int .u64 (y4 * min y6 10000 / 10000)), (.bool true), (.bool true), (.int .u64 y4), (.int .u64 y6), (.int .u64 (y4 * min y6 10000 / 10000)), (.int .u64 y4), (.bool false), (.bool false), (.bool false), ud, ud, ud, ud, ud, ud, ud, ud, ud, ud], []⟩) (by kernel_rfl) ?_
            refine wg_not (some 122) (by kernel_rfl) rfl ?_
            refine wg_not (some 123) (by kernel_rfl) rfl ?_
            refine wg_not (some 124) (by kernel_rfl) rfl ?_
            refine wl_take (some 125) (.bool false) rfl rfl (by kernel_rfl) ?_
            refine wl_take (some 126) (.bool false) rfl rfl (by kernel_rfl) ?_
            refine wg_not (some 127) (by kernel_rfl) rfl ?_
            refine wg_not (some 128) (by kernel_rfl) rfl ?_
            refine wg_not (some 129) (by kernel_rfl) rfl ?_
            refine wl_take (some 130) (.bool false) rfl rfl (by kernel_rfl) ?_
            refine wl_take (some 14) (.bool false) rfl rfl (by kernel_rfl) ?_
            refine wl_nil ?_
            refine wp_then ?_
            refine wp_frame (a' := ⟨#[(.int .u64 T1), (.agg #[.slice a1 len1 cap1]), (.agg #[.slice a2 len2 cap2]), (.agg #[.slice a3 len3 cap3]), (.int .u64 y4), (.int .u64 y5), (.int .u64 y6), ud, (.pointer (some ⟨g1v, 0, none⟩)), (.pointer (some ⟨g2v, 0, none⟩)), (.pointer (some ⟨g3v, 0, none⟩)), ud, ud, ud, (.bool false), (.int .u64 (reV T1 x1 x2)), (.int .i64 (reE x1 x2)), (.pointer (some ⟨g30v, 0, none⟩)), (.int .i64 20), (yy 19), (yy 20), (yy 21), (yy 22), (.bool true), (.bool false), (.int .u64 y0), (.int .u64 T1), (.agg #[.slice a1 len1 cap1]), (.agg #[.slice a2 len2 cap2]), (.agg #[.slice a3 len3 cap3]), (.slice (some ⟨g5v, 0, none⟩) 3 3), (.bool true), (.bool false), (.tuple #[.int .u64 (reV T1 x1 x2), .int .i64 (reE x1 x2)]), (.int .u64 T1), (.agg #[.slice a1 len1 cap1]), (.agg #[.slice a2 len2 cap2]), (.tuple #[.int .u64 (reV T1 x1 x2), .int .i64 (reE x1 x2)]), (.int .u64 (reV T1 x1 x2)), (.int .i64 (reE x1 x2)), (.tuple #[.agg #[.slice none 0 0], .int .i64 20]), (.agg #[.slice a1 len1 cap1]), (.agg #[.slice a2 len2 cap2]), (.tuple #[.agg #[.slice none 0 0], .int .i64 20]), (.agg #[.slice none 0 0]), (.int .i64 20), (yy 46), (yy 47), (yy 48), (yy 49), (yy 50), (yy 51), (yy 52), (yy 53), (yy 54), (yy 55), (yy 56), (yy 57), (yy 58), (yy 59), (yy 60), (yy 61), (yy 62), (yy 63), (yy 64), (yy 65), (yy 66), (yy 67), (yy 68), (yy 69), (yy 70), (yy 71), (yy 72), (yy 73), (yy 74), (yy 75), (yy 76), (yy 77), (yy 78), (yy 79), (yy 80), (yy 81), (yy 82), (yy 83), (yy 84), (yy 85), (yy 86), (yy 87), (yy 88), (yy 89), (yy 90), (yy 91), (yy 92), (yy 93), (yy 94), (yy 95), (yy 96), (yy 97), (yy 98), (yy 99), (yy 100), (.int .u64 y5), (.int .u64 y6), (.bool false), ud, ud, (.int .u64 y4), (.int .u64 y5), (.int .u64 (y4 * min y5 10000 / 10000)), (.int .u64 y4), (.int .u64 y6), (.int .u64 (y4 * min y6 10000 / 10000)), (.bool true), (.bool true), (.int .u64 y4), (.int .u64 y6), (.int .u64 (y4 * min y6 10000 / 10000)), (.int .u64 y4), (.bool false), (.bool false), (.bool false), ud, ud, ud, ud, (.bool false), (.bool false), ud, ud, ud, (.bool false)], []⟩) (by kernel_rfl) ?_
            exfalso
            have kk := leave_two (T := T1) (S := x1) (x := x2) (y := x3) hx2 hx3
            have c1 := fun h => cut_le (n := y4) (p := y5) (q := y6) by4.1 h
            have c2 := fun h => cut_le (n := y4) (p := y6) (q := y5) by4.1 h
            have c3 := cut_n (n := y4) (q := y5) by4.1
            have c4 := cut_n (n := y4) (q := y6) by4.1
            have c5 := cut_full y4
            have c6 := cut_none y4
            clear BB
            omega
        · skip
          refine wl_eq (some 112) (.bool (decide ((y4 * min y5 10000 / 10000 : Int) ≤ y4 * min y6 10000 / 10000))) (.bool false) (congrArg Value.bool (decide_eq_false c55)) rfl rfl (by kernel_rfl) ?_
          refine wl_take (some 113) (.bool false) rfl rfl (by kernel_rfl) ?_
          refine wg_not (some 114) (by kernel_rfl) rfl ?_
          refine wg_not (some 115) (by kernel_rfl) rfl ?_
          refine wg_not (some 116) (by kernel_rfl) rfl ?_
          refine wg_not (some 117) (by kernel_rfl) rfl ?_
          refine wg_not (some 118) (by kernel_rfl) rfl ?_
          refine wl_take (some 119) (.bool false) rfl rfl (by kernel_rfl) ?_
          refine wl_take (some 120) (.bool false) rfl rfl (by kernel_rfl) ?_
          refine wg_not (some 121) (by kernel_rfl) rfl ?_
          refine wl_frame (a' := ⟨#[(.int .u64 T1), (.agg #[.slice a1 len1 cap1]), (.agg #[.slice a2 len2 cap2]), (.agg #[.slice a3 len3 cap3]), (.int .u64 y4), (.int .u64 y5), (.int .u64 y6), ud, (.pointer (some ⟨g1v, 0, none⟩)), (.pointer (some ⟨g2v, 0, none⟩)), (.pointer (some ⟨g3v, 0, none⟩)), ud, ud, ud, (yy 14), (.int .u64 (reV T1 x1 x2)), (.int .i64 (reE x1 x2)), (.pointer (some ⟨g30v, 0, none⟩)), (.int .i64 20), (yy 19), (yy 20), (yy 21), (yy 22), (.bool true), (.bool false), (.int .u64 y0), (.int .u64 T1), (.agg #[.slice a1 len1 cap1]), (.agg #[.slice a2 len2 cap2]), (.agg #[.slice a3 len3 cap3]), (.slice (some ⟨g5v, 0, none⟩) 3 3), (.bool true), (.bool false), (.tuple #[.int .u64 (reV T1 x1 x2), .int .i64 (reE x1 x2)]), (.int .u64 T1), (.agg #[.slice a1 len1 cap1]), (.agg #[.slice a2 len2 cap2]), (.tuple #[.int .u64 (reV T1 x1 x2), .int .i64 (reE x1 x2)]), (.int .u64 (reV T1 x1 x2)), (.int .i64 (reE x1 x2)), (.tuple #[.agg #[.slice none 0 0], .int .i64 20]), (.agg #[.slice a1 len1 cap1]), (.agg #[.slice a2 len2 cap2]), (.tuple #[.agg #[.slice none 0 0], .int .i64 20]), (.agg #[.slice none 0 0]), (.int .i64 20), (yy 46), (yy 47), (yy 48), (yy 49), (yy 50), (yy 51), (yy 52), (yy 53), (yy 54), (yy 55), (yy 56), (yy 57), (yy 58), (yy 59), (yy 60), (yy 61), (yy 62), (yy 63), (yy 64), (yy 65), (yy 66), (yy 67), (yy 68), (yy 69), (yy 70), (yy 71), (yy 72), (yy 73), (yy 74), (yy 75), (yy 76), (yy 77), (yy 78), (yy 79), (yy 80), (yy 81), (yy 82), (yy 83), (yy 84), (yy 85), (yy 86), (yy 87), (yy 88), (yy 89), (yy 90), (yy 91), (yy 92), (yy 93), (yy 94), (yy 95), (yy 96), (yy 97), (yy 98), (yy 99), (yy 100), (.int .u64 y5), (.int .u64 y6), (.bool false), ud, ud, (.int .u64 y4), (.int .u64 y5), (.int .u64 (y4 * min y5 10000 / 10000)), (.int .u64 y4), (.int .u64 y6), (.int .u64 (y4 * min y6 10000 / 10000)), (.bool false), (.bool false), ud, ud, ud, ud, ud, (.bool false), (.bool false), ud, ud, ud, ud, ud, ud, ud, ud, ud, ud], []⟩) (by kernel_rfl) ?_
          refine wg_not (some 122) (by kernel_rfl) rfl ?_
          refine wg_not (some 123) (by kernel_rfl) rfl ?_
          refine wg_not (some 124) (by kernel_rfl) rfl ?_
          refine wl_take (some 125) (.bool false) rfl rfl (by kernel_rfl) ?_
          refine wl_take (some 126) (.bool false) rfl rfl (by kernel_rfl) ?_
          refine wg_not (some 127) (by kernel_rfl) rfl ?_
          refine wg_not (some 128) (by kernel_rfl) rfl ?_
          refine wg_not (some 129) (by kernel_rfl) rfl ?_
          refine wl_take (some 130) (.bool false) rfl rfl (by kernel_rfl) ?_
          refine wl_take (some 14) (.bool false) rfl rfl (by kernel_rfl) ?_
          refine wl_nil ?_
          refine wp_then ?_
          refine wp_frame (a' := ⟨#[(.int .u64 T1), (.agg #[.slice a1 len1 cap1]), (.agg #[.slice a2 len2 cap2]), (.agg #[.slice a3 len3 cap3]), (.int .u64 y4), (.int .u64 y5), (.int .u64 y6), ud, (.pointer (some ⟨g1v, 0, none⟩)), (.pointer (some ⟨g2v, 0, none⟩)), (.pointer (some ⟨g3v, 0, none⟩)), ud, ud, ud, (.bool false), (.int .u64 (reV T1 x1 x2)), (.int .i64 (reE x1 x2)), (.pointer (some ⟨g30v, 0, none⟩)), (.int .i64 20), (yy 19), (yy 20), (yy 21), (yy 22), (.bool true), (.bool false), (.int .u64 y0), (.int .u64 T1), (.agg #[.slice a1 len1 cap1]), (.agg #[.slice a2 len2 cap2]), (.agg #[.slice a3 len3 cap3]), (.slice (some ⟨g5v, 0, none⟩) 3 3), (.bool true), (.bool false), (.tuple #[.int .u64 (reV T1 x1 x2), .int .i64 (reE x1 x2)]), (.int .u64 T1), (.agg #[.slice a1 len1 cap1]), (.agg #[.slice a2 len2 cap2]), (.tuple #[.int .u64 (reV T1 x1 x2), .int .i64 (reE x1 x2)]), (.int .u64 (reV T1 x1 x2)), (.int .i64 (reE x1 x2)), (.tuple #[.agg #[.slice none 0 0], .int .i64 20]), (.agg #[.slice a1 len1 cap1]), (.agg #[.slice a2 len2 cap2]), (.tuple #[.agg #[.slice none 0 0], .int .i64 20]), (.agg #[.slice none 0 0]), (.int .i64 20), (yy 46), (yy 47), (yy 48), (yy 49), (yy 50), (yy 51), (yy 52), (yy 53), (yy 54), (yy 55), (yy 56), (yy 57), (yy 58), (yy 59), (yy 60), (yy 61), (yy 62), (yy 63), (yy 64), (yy 65), (yy 66), (yy 67), (yy 68), (yy 69), (yy 70), (yy 71), (yy 72), (yy 73), (yy 74), (yy 75), (yy 76), (yy 77), (yy 78), (yy 79), (yy 80), (yy 81), (yy 82), (yy 83), (yy 84), (yy 85), (yy 86), (yy 87), (yy 88), (yy 89), (yy 90), (yy 91), (yy 92), (yy 93), (yy 94), (yy 95), (yy 96), (yy 97), (yy 98), (yy 99), (yy 100), (.int .u64 y5), (.int .u64 y6), (.bool false), ud, ud, (.int .u64 y4), (.int .u64 y5), (.int .u64 (y4 * min y5 10000 / 10000)), (.int .u64 y4), (.int .u64 y6), (.int .u64 (y4 * min y6 10000 / 10000)), (.bool false), (.bool false), ud, ud, ud, ud, ud, (.bool false), (.bool false), ud, ud, ud, ud, (.bool false), (.bool false), ud, ud, ud, (.bool false)], []⟩) (by kernel_rfl) ?_
          exfalso
          have kk := leave_two (T := T1) (S := x1) (x := x2) (y := x3) hx2 hx3
          have c1 := fun h => cut_le (n := y4) (p := y5) (q := y6) by4.1 h
          have c2 := fun h => cut_le (n := y4) (p := y6) (q := y5) by4.1 h
          have c3 := cut_n (n := y4) (q := y5) by4.1
          have c4 := cut_n (n := y4) (q := y6) by4.1
          have c5 := cut_full y4
          have c6 := cut_none y4
          clear BB
          omega
  · skip
    refine wl_call (some 31) 9 #[.slice (some ⟨g5v, 0, none⟩) 3 3] rfl rfl (by kernel_rfl) (small3 L5 hm1 hm2 hm3 false (decide_eq_false c2)) ?_
    rintro e1 v42w ⟨rfl, B⟩
    refine ⟨_, rfl, ?_⟩
    replace N1 := N1.keep B
    replace N2 := N2.keep B
    replace N3 := N3.keep B
    replace X8 := X8.keep B
    replace X9 := X9.keep B
    replace X10 := X10.keep B
    replace L5 := L5.keep B
    replace BB := joinB BB B
    clear B
    refine wl_take (some 32) (.bool true) rfl rfl (by kernel_rfl) ?_
    refine wl_nil ?_
    refine wp_then ?_
    refine wp_frame (a' := ⟨#[(.int .u64 T1), (.agg #[.slice a1 len1 cap1]), (.agg #[.slice a2 len2 cap2]), (.agg #[.slice a3 len3 cap3]), (.int .u64 y4), (.int .u64 y5), (.int .u64 y6), ud, (.pointer (some ⟨g1v, 0, none⟩)), (.pointer (some ⟨g2v, 0, none⟩)), (.pointer (some ⟨g3v, 0, none⟩)), ud, ud, ud, (.bool false), ud, ud, ud, ud, ud, ud, ud, ud, (.bool true), (.bool false), (.int .u64 y0), (.int .u64 T1), (.agg #[.slice a1 len1 cap1]), (.agg #[.slice a2 len2 cap2]), (.agg #[.slice a3 len3 cap3]), (.slice (some ⟨g5v, 0, none⟩) 3 3), (.bool false), (.bool true), ud, ud, ud, ud, ud, ud, ud, ud, ud, ud, ud, ud, ud, ud, ud, ud, ud, ud, ud, ud, ud, ud, ud, ud, ud, ud, ud, ud, ud, ud, ud, ud, ud, ud, ud, ud, ud, ud, ud, ud, ud, ud, ud, ud, ud, ud, ud, ud, ud, ud, ud, ud, ud, ud, ud, ud, ud, ud, ud, ud, ud, ud, ud, ud, ud, ud, ud, ud, ud, ud, ud, ud, ud, ud, ud, ud, ud, ud, ud, ud, ud, ud, ud, ud, ud, ud, ud, ud, ud, ud, ud, ud, ud, ud, ud, ud, ud, ud], []⟩) (by kernel_rfl) ?_
    refine wp_cond_true (by kernel_rfl) ?_
    refine wp_seq ?_
    refine wl_start ?_
    refine wl_take (some 14) (.bool true) rfl rfl (by kernel_rfl) ?_
    refine wl_nil ?_
    refine wp_then ?_
    refine wp_ret ?_
    repeat (first | refine ret_then ?_ | refine ret_block ?_)
    refine bodyPost_ret (results_tmp rfl _ _ _) rfl ?_
    exact ⟨by kernel_rfl, BB⟩
end shareLeave
end Go.Proofs.YtdgdfhefnlaalaaDoor
