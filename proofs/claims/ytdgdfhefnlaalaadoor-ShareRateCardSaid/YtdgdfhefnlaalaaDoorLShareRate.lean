/- gleanlaw10.ShareRate returns true for all numbers. -/
import Derived.Test.YtdgdfhefnlaalaaDoorJcb
namespace Go.Proofs.YtdgdfhefnlaalaaDoor
namespace shareRate
open Go.RowKit Go.Lib Pg Lim Sh
attribute [local go_sem] Oper.semAt_some
theorem w64 {x : Int} (h : 0 ≤ x ∧ x < 1000000000000000000) : 0 ≤ x ∧ x < 18446744073709551616 := by omega
theorem u64r {v : Int} (b : (Lit.int .u64 v).wf = true) : 0 ≤ v ∧ v < 18446744073709551616 := by
  have := bounds_u64 b
  omega
theorem cut_full (n : Int) : n * min 10000 10000 / 10000 = n := Int.mul_ediv_cancel n (by decide)
theorem cut_none (n : Int) : n * min 0 10000 / 10000 = 0 := by
  rw [show min (0 : Int) 10000 = 0 from rfl, Int.mul_zero]; rfl
theorem bsx41_2 {a : Act} {o : Oper} {k0 k1 : Nat} {a0 a1 : Option Addr} {n0 c0 n1 c1 : Nat} (ho : o.op = .buildSlice 41 2 #[(0, .tmp k0), (1, .tmp k1)]) (h0 : a.eval (.tmp k0) = .agg #[.slice a0 n0 c0]) (h1 : a.eval (.tmp k1) = .agg #[.slice a1 n1 c1]) (w : World) : (execOp a.eval o).run Tryd.prog w = .ok (.value (.slice (some ⟨w.heap.size, 0, none⟩) 2 2)) (w.alloc (.cells [.slice a0 n0 c0, .slice a1 n1 c1].toArray 26)) := by
  have h0' : a.tmps[k0]?.getD undef = .agg #[.slice a0 n0 c0] := by simpa [Act.eval] using h0
  have h1' : a.tmps[k1]?.getD undef = .agg #[.slice a1 n1 c1] := by simpa [Act.eval] using h1
  simp only [execOp, ho]
  go_simp
set_option maxHeartbeats 16000000 in
set_option maxRecDepth 100000 in
theorem walk (y0 : Int) (a1 : Option Addr) (len1 cap1 : Nat) (z1 : List Int) (a2 : Option Addr) (len2 cap2 : Nat) (z2 : List Int) (y3 : Int) (w : World) (wy0 : (Lit.int .u64 y0).wf = true) (w1 : IsRow w a1 len1 cap1 z1) (w2 : IsRow w a2 len2 cap2 z2) (wy3 : (Lit.int .u64 y3).wf = true) :
    Calls Tryd.prog 3 #[.int .u64 y0, .agg #[.slice a1 len1 cap1], .agg #[.slice a2 len2 cap2], .int .u64 y3] w fun e w' => e = .returned (.bool true) ∧ Below w.heap.size w w' := by
  obtain ⟨g1, o1, l1, hl1, hc1, hm1, W1, h1⟩ := w1.open
  have N1 : NatA w a1 len1 cap1 (val l1) := ⟨g1, o1, l1, hl1, hc1, W1, h1, rfl⟩
  clear h1 w1 W1 hl1
  generalize val l1 = x1 at *
  have hx1 := N1.nonneg
  obtain ⟨g2, o2, l2, hl2, hc2, hm2, W2, h2⟩ := w2.open
  have N2 : NatA w a2 len2 cap2 (val l2) := ⟨g2, o2, l2, hl2, hc2, W2, h2, rfl⟩
  clear h2 w2 W2 hl2
  generalize val l2 = x2 at *
  have hx2 := N2.nonneg
  have by0 := u64r wy0
  clear wy0
  have by3 := u64r wy3
  clear wy3
  have BB := Below.refl w.heap.size w
  go_enter Tryd.func3, Tryd.ntmps3
  refine wp_seq ?_
  refine wl_start ?_
  have bs0 := BB.size
  refine wl_box 5 1 26 [.slice a1 len1 cap1] rfl rfl rfl (by kernel_rfl) boxx26 ?_
  intro v1w g1v X5 hg1v B
  replace N1 := N1.keep B
  replace N2 := N2.keep B
  replace BB := joinB BB B
  clear B
  have bs1 := BB.size
  refine wl_box 6 2 26 [.slice a2 len2 cap2] rfl rfl rfl (by kernel_rfl) boxx26 ?_
  intro v2w g2v X6 hg2v B
  replace N1 := N1.keep B
  replace N2 := N2.keep B
  replace X5 := X5.keep B
  replace BB := joinB BB B
  clear B
  refine wl_take (some 8) (.bool false) rfl rfl (by kernel_rfl) ?_
  refine wl_nil ?_
  refine wp_then ?_
  refine wp_seq ?_
  refine wp_seq ?_
  refine wl_start ?_
  refine wl_call (some 15) 8 #[] rfl rfl (by kernel_rfl) (knownS) ?_
  rintro e1 v3w ⟨rfl, B⟩
  refine ⟨_, rfl, ?_⟩
  replace N1 := N1.keep B
  replace N2 := N2.keep B
  replace X5 := X5.keep B
  replace X6 := X6.keep B
  replace BB := joinB BB B
  clear B
  refine wl_take (some 16) (.bool false) rfl rfl (by kernel_rfl) ?_
  refine wl_nil ?_
  refine wp_then ?_
  refine wp_cond_false (by kernel_rfl) ?_
  refine wp_skip_then ?_
  refine wp_seq ?_
  refine wl_start ?_
  refine wl_take (some 17) (.int .u64 y0) rfl rfl (by kernel_rfl) ?_
  obtain ⟨T1, eT1⟩ : ∃ T, y0 % 1000000000000000000 = T := ⟨_, rfl⟩
  have rt1 : 0 ≤ T1 ∧ T1 < 1000000000000000000 := by omega
  refine wl_take (some 18) (.int .u64 T1) rfl rfl (eT1 ▸ run_rem (x := 17) (p := y0) (by kernel_rfl) (by kernel_rfl) by0) ?_
  refine wl_take (some 19) (.int .u64 y3) rfl rfl (by kernel_rfl) ?_
  obtain ⟨T2, eT2⟩ : ∃ T, y3 % 1000000000000000000 = T := ⟨_, rfl⟩
  have rt2 : 0 ≤ T2 ∧ T2 < 1000000000000000000 := by omega
  refine wl_take (some 20) (.int .u64 T2) rfl rfl (eT2 ▸ run_rem (x := 19) (p := y3) (by kernel_rfl) (by kernel_rfl) by3) ?_
  refine wl_take (some 0) (.int .u64 T1) rfl rfl (by kernel_rfl) ?_
  refine wl_take (some 3) (.int .u64 T2) rfl rfl (by kernel_rfl) ?_
  refine wl_nil ?_
  refine wp_then ?_
  refine wp_seq ?_
  refine wp_seq ?_
  refine wl_start ?_
  refine wl_take (some 21) (.agg #[.slice a1 len1 cap1]) rfl rfl (run_lp 5 (by kernel_rfl) (by kernel_rfl) (ldx26 (X5.cell (i := 0) rfl))) ?_
  refine wl_take (some 22) (.agg #[.slice a2 len2 cap2]) rfl rfl (run_lp 6 (by kernel_rfl) (by kernel_rfl) (ldx26 (X6.cell (i := 0) rfl))) ?_
  refine wl_list 23 [.slice a1 len1 cap1, .slice a2 len2 cap2] 26 rfl rfl (bsx41_2 (k0 := 21) (k1 := 22) (a0 := a1) (n0 := len1) (c0 := cap1) (a1 := a2) (n1 := len2) (c1 := cap2) (by kernel_rfl) (by kernel_rfl) (by kernel_rfl)) ?_
  intro v4w g4v L4 hg4v B
  replace N1 := N1.keep B
  replace N2 := N2.keep B
  replace X5 := X5.keep B
  replace X6 := X6.keep B
  replace BB := joinB BB B
  clear B
  by_cases c3 : len1 ≤ 12 ∧ len2 ≤ 12
  · skip
    refine wl_call (some 24) 9 #[.slice (some ⟨g4v, 0, none⟩) 2 2] rfl rfl (by kernel_rfl) (small2 L4 hm1 hm2 true (decide_eq_true c3)) ?_
    rintro e1 v5w ⟨rfl, B⟩
    refine ⟨_, rfl, ?_⟩
    replace N1 := N1.keep B
    replace N2 := N2.keep B
    replace X5 := X5.keep B
    replace X6 := X6.keep B
    replace L4 := L4.keep B
    replace BB := joinB BB B
    clear B
    refine wl_take (some 25) (.bool false) rfl rfl (by kernel_rfl) ?_
    refine wl_take (some 26) (.bool false) rfl rfl (by kernel_rfl) ?_
    refine wg_take (some 27) (.agg #[.slice a1 len1 cap1]) (by kernel_rfl) rfl (run_lp 5 (by kernel_rfl) (by kernel_rfl) (ldx26 (X5.cell (i := 0) rfl))) ?_
    by_cases c4 : x1 = 0
    · skip
      refine wg_call (some 28) 10 #[.agg #[.slice a1 len1 cap1]] (by kernel_rfl) rfl (by kernel_rfl) (zeroD N1 (by omega) true (decide_eq_true c4)) ?_
      rintro e1 v6w ⟨rfl, B⟩
      refine ⟨_, rfl, ?_⟩
      replace N1 := N1.keep B
      replace N2 := N2.keep B
      replace X5 := X5.keep B
      replace X6 := X6.keep B
      replace L4 := L4.keep B
      replace BB := joinB BB B
      clear B
      refine wl_take (some 29) (.bool true) rfl rfl (by kernel_rfl) ?_
      refine wl_nil ?_
      refine wp_then ?_
      refine wp_frame (a' := ⟨#[(.int .u64 T1), (.agg #[.slice a1 len1 cap1]), (.agg #[.slice a2 len2 cap2]), (.int .u64 T2), ud, (.pointer (some ⟨g1v, 0, none⟩)), (.pointer (some ⟨g2v, 0, none⟩)), ud, (.bool false), ud, ud, ud, ud, ud, ud, (.bool true), (.bool false), (.int .u64 y0), (.int .u64 T1), (.int .u64 y3), (.int .u64 T2), (.agg #[.slice a1 len1 cap1]), (.agg #[.slice a2 len2 cap2]), (.slice (some ⟨g4v, 0, none⟩) 2 2), (.bool true), (.bool false), (.bool false), (.agg #[.slice a1 len1 cap1]), (.bool true), (.bool true), ud, ud, ud, ud, ud, ud, ud, ud, ud, ud, ud, ud, ud, ud, ud, ud, ud, ud, ud, ud, ud, ud, ud, ud, ud, ud, ud, ud, ud, ud, ud, ud, ud, ud, ud, ud, ud, ud, ud, ud, ud, ud, ud, ud, ud, ud, ud, ud, ud, ud, ud, ud, ud, ud, ud, ud, ud, ud, ud, ud, ud, ud, ud, ud, ud, ud, ud, ud, ud, ud, ud, ud], []⟩) (by kernel_rfl) ?_
      refine wp_cond_true (by kernel_rfl) ?_
      refine wp_seq ?_
      refine wl_start ?_
      refine wl_take (some 8) (.bool true) rfl rfl (by kernel_rfl) ?_
      refine wl_nil ?_
      refine wp_then ?_
      refine wp_ret ?_
      repeat (first | refine ret_then ?_ | refine ret_block ?_)
      refine bodyPost_ret (results_tmp rfl _ _ _) rfl ?_
      exact ⟨by kernel_rfl, BB⟩
    · skip
      refine wg_call (some 28) 10 #[.agg #[.slice a1 len1 cap1]] (by kernel_rfl) rfl (by kernel_rfl) (zeroD N1 (by omega) false (decide_eq_false c4)) ?_
      rintro e1 v7w ⟨rfl, B⟩
      refine ⟨_, rfl, ?_⟩
      replace N1 := N1.keep B
      replace N2 := N2.keep B
      replace X5 := X5.keep B
      replace X6 := X6.keep B
      replace L4 := L4.keep B
      replace BB := joinB BB B
      clear B
      refine wl_take (some 29) (.bool false) rfl rfl (by kernel_rfl) ?_
      refine wl_nil ?_
      refine wp_then ?_
      refine wp_frame (a' := ⟨#[(.int .u64 T1), (.agg #[.slice a1 len1 cap1]), (.agg #[.slice a2 len2 cap2]), (.int .u64 T2), ud, (.pointer (some ⟨g1v, 0, none⟩)), (.pointer (some ⟨g2v, 0, none⟩)), ud, (.bool false), ud, ud, ud, ud, ud, ud, (.bool true), (.bool false), (.int .u64 y0), (.int .u64 T1), (.int .u64 y3), (.int .u64 T2), (.agg #[.slice a1 len1 cap1]), (.agg #[.slice a2 len2 cap2]), (.slice (some ⟨g4v, 0, none⟩) 2 2), (.bool true), (.bool false), (.bool false), (.agg #[.slice a1 len1 cap1]), (.bool false), (.bool false), ud, ud, ud, ud, ud, ud, ud, ud, ud, ud, ud, ud, ud, ud, ud, ud, ud, ud, ud, ud, ud, ud, ud, ud, ud, ud, ud, ud, ud, ud, ud, ud, ud, ud, ud, ud, ud, ud, ud, ud, ud, ud, ud, ud, ud, ud, ud, ud, ud, ud, ud, ud, ud, ud, ud, ud, ud, ud, ud, ud, ud, ud, ud, ud, ud, ud, ud, ud, ud, ud, ud, ud], []⟩) (by kernel_rfl) ?_
      refine wp_cond_false (by kernel_rfl) ?_
      refine wp_skip_then ?_
      refine wp_seq ?_
      refine wl_start ?_
      refine wl_take (some 31) (.int .u64 T1) rfl rfl (by kernel_rfl) ?_
      refine wl_take (some 32) (.agg #[.slice a1 len1 cap1]) rfl rfl (run_lp 5 (by kernel_rfl) (by kernel_rfl) (ldx26 (X5.cell (i := 0) rfl))) ?_
      refine wl_take (some 33) (.int .u64 T2) rfl rfl (by kernel_rfl) ?_
      refine wl_call (some 34) 11 #[.int .u64 T1, .agg #[.slice a1 len1 cap1], .int .u64 T2] rfl rfl (by kernel_rfl) (sIssue (w64 rt1) N1 (by omega) (w64 rt2)) ?_
      rintro e1 v8w ⟨Az5, Nz5, Cz5, rfl, Oz5, Kz5, B⟩
      refine ⟨_, rfl, ?_⟩
      replace N1 := N1.keep B
      replace N2 := N2.keep B
      replace X5 := X5.keep B
      replace X6 := X6.keep B
      replace L4 := L4.keep B
      replace BB := joinB BB B
      clear B
      refine wl_take (some 30) (.tuple #[.agg #[.slice Az5 Nz5 Cz5], .int .i64 (isE T1 x1 T2)]) rfl rfl (by kernel_rfl) ?_
      refine wl_take (some 35) (.agg #[.slice Az5 Nz5 Cz5]) rfl rfl (by kernel_rfl) ?_
      refine wl_take (some 36) (.int .i64 (isE T1 x1 T2)) rfl rfl (by kernel_rfl) ?_
      have bs8 := BB.size
      refine wl_new 9 35 26 [.slice none 0 0] [.slice Az5 Nz5 Cz5] rfl rfl rfl rfl rfl rfl allocx26 (fun _ => by kernel_rfl) (fun _ => by kernel_rfl) (by kernel_rfl) rfl (by kernel_rfl) ?_
      intro v9w g9v X9 hg9v B
      replace N1 := N1.keep B
      replace N2 := N2.keep B
      replace X5 := X5.keep B
      replace X6 := X6.keep B
      replace L4 := L4.keep B
      replace Oz5 := Oz5.keep B
      replace BB := joinB BB B
      clear B
      refine wl_take (some 10) (.int .i64 (isE T1 x1 T2)) rfl rfl (by kernel_rfl) ?_
      refine wl_nil ?_
      refine wp_then ?_
      refine wp_seq ?_
      refine wp_seq ?_
      refine rg_start (S := fun w' => Below v9w.drew.heap.size v9w.drew w') (by kernel_rfl) (Below.refl _ _) ?_
      replace N1 := N1.drew
      replace N2 := N2.drew
      replace X5 := X5.drew
      replace X6 := X6.drew
      replace L4 := L4.drew
      replace Oz5 := Oz5.drew
      replace X9 := X9.drew
      replace BB := BB.drew
      have hS := Below.refl v9w.drew.heap.size v9w.drew
      have UX5 := X5
      have UX6 := X6
      have UL4 := L4
      have UX9 := X9
      refine rg_take 0 (some 37) (.int .i64 (isE T1 x1 T2)) (by kernel_rfl) (fun _ _ => by kernel_rfl) (fun _ _ _ h => h) hS ?_
      by_cases c6 : isE T1 x1 T2 = 0
      · skip
        refine rg_eq 1 (some 38) (.bool ((isE T1 x1 T2 : Int) == 0)) (.bool true) (congrArg Value.bool (beq_iff_eq.2 c6)) (by kernel_rfl) (fun _ _ => by kernel_rfl) (fun _ _ _ h => h) hS ?_
        refine rg_take 2 (some 39) (.bool true) (by kernel_rfl) (fun _ _ => by kernel_rfl) (fun _ _ _ h => h) hS ?_
        refine rg_take 3 (some 40) (.int .u64 T1) (by kernel_rfl) (fun _ _ => by kernel_rfl) (fun _ _ _ h => h) hS ?_
        refine rg_load 4 (some 41) (.agg #[.slice a1 len1 cap1]) 26 5 (g1v) 0 (by kernel_rfl) (by kernel_rfl) (by kernel_rfl) (fun _ hb => ldx26 ((UX5.keep hb).cell (i := 0) rfl)) (fun _ _ _ h => h) hS ?_
        refine rg_take 5 (some 42) (.int .u64 T1) (by kernel_rfl) (fun _ _ => by kernel_rfl) (fun _ _ _ h => h) hS ?_
        refine rg_take 6 (some 43) (.int .u64 T2) (by kernel_rfl) (fun _ _ => by kernel_rfl) (fun _ _ _ h => h) hS ?_
        have rg7 : 0 ≤ T1 + T2 ∧ T1 + T2 < 18446744073709551616 := by omega
        refine rg_take 7 (some 44) (.int .u64 (T1 + T2)) (by kernel_rfl) (fun _ _ => run_addu (x := 42) (y := 43) (p := T1) (q := T2) (by kernel_rfl) (by kernel_rfl) (by kernel_rfl) rg7) (fun _ _ _ h => h) hS ?_
        refine rg_load 8 (some 45) (.agg #[.slice a1 len1 cap1]) 26 5 (g1v) 0 (by kernel_rfl) (by kernel_rfl) (by kernel_rfl) (fun _ hb => ldx26 ((UX5.keep hb).cell (i := 0) rfl)) (fun _ _ _ h => h) hS ?_
        refine rg_load 9 (some 46) (.agg #[.slice Az5 Nz5 Cz5]) 26 9 (g9v) 0 (by kernel_rfl) (by kernel_rfl) (by kernel_rfl) (fun _ hb => ldx26 ((UX9.keep hb).cell (i := 0) rfl)) (fun _ _ _ h => h) hS ?_
        refine rg_call 10 (some 47) 13 #[.agg #[.slice a1 len1 cap1], .agg #[.slice Az5 Nz5 Cz5]] (by kernel_rfl) (by kernel_rfl) (dAdd N1 Oz5.a (by omega) (by omega)) ?_
        rintro e1 v10w ⟨Az8, Nz8, Cz8, rfl, Oz8, Kz8, B⟩
        refine ⟨_, rfl, joinB hS B, ?_⟩
        replace hS := joinB hS B
        replace N1 := N1.keep B
        replace N2 := N2.keep B
        replace X5 := X5.keep B
        replace X6 := X6.keep B
        replace L4 := L4.keep B
        replace Oz5 := Oz5.keep B
        replace X9 := X9.keep B
        replace BB := joinB BB B
        clear B
        by_cases c9 : T1 * (x1 + (isV T1 x1 T2)) ≤ (T1 + T2) * x1
        · skip
          refine rg_call 11 (some 48) 12 #[.int .u64 T1, .agg #[.slice a1 len1 cap1], .int .u64 (T1 + T2), .agg #[.slice Az8 Nz8 Cz8]] (by kernel_rfl) (by kernel_rfl) (rate_any (w64 rt1) N1 (by omega) rg7 Oz8.a (by omega) true (decide_eq_true c9)) ?_
          rintro e1 v11w ⟨rfl, B⟩
          refine ⟨_, rfl, joinB hS B, ?_⟩
          replace hS := joinB hS B
          replace N1 := N1.keep B
          replace N2 := N2.keep B
          replace X5 := X5.keep B
          replace X6 := X6.keep B
          replace L4 := L4.keep B
          replace Oz5 := Oz5.keep B
          replace X9 := X9.keep B
          replace Oz8 := Oz8.keep B
          replace BB := joinB BB B
          clear B
          refine rg_take 12 (some 49) (.bool false) (by kernel_rfl) (fun _ _ => by kernel_rfl) (fun _ _ _ h => h) hS ?_
          refine rg_take 13 (some 50) (.bool false) (by kernel_rfl) (fun _ _ => by kernel_rfl) (fun _ _ _ h => h) hS ?_
          refine rg_done (by kernel_rfl) ?_
          clear hS UX5 UX6 UL4 UX9
          refine wp_then ?_
          refine wp_frame (a' := ⟨#[(.int .u64 T1), (.agg #[.slice a1 len1 cap1]), (.agg #[.slice a2 len2 cap2]), (.int .u64 T2), ud, (.pointer (some ⟨g1v, 0, none⟩)), (.pointer (some ⟨g2v, 0, none⟩)), ud, (.bool false), (.pointer (some ⟨g9v, 0, none⟩)), (.int .i64 (isE T1 x1 T2)), ud, ud, ud, ud, (.bool true), (.bool false), (.int .u64 y0), (.int .u64 T1), (.int .u64 y3), (.int .u64 T2), (.agg #[.slice a1 len1 cap1]), (.agg #[.slice a2 len2 cap2]), (.slice (some ⟨g4v, 0, none⟩) 2 2), (.bool true), (.bool false), (.bool false), (.agg #[.slice a1 len1 cap1]), (.bool false), (.bool false), (.tuple #[.agg #[.slice Az5 Nz5 Cz5], .int .i64 (isE T1 x1 T2)]), (.int .u64 T1), (.agg #[.slice a1 len1 cap1]), (.int .u64 T2), (.tuple #[.agg #[.slice Az5 Nz5 Cz5], .int .i64 (isE T1 x1 T2)]), (.agg #[.slice Az5 Nz5 Cz5]), (.int .i64 (isE T1 x1 T2)), (.int .i64 (isE T1 x1 T2)), (.bool true), (.bool true), (.int .u64 T1), (.agg #[.slice a1 len1 cap1]), (.int .u64 T1), (.int .u64 T2), (.int .u64 (T1 + T2)), (.agg #[.slice a1 len1 cap1]), (.agg #[.slice Az5 Nz5 Cz5]), (.agg #[.slice Az8 Nz8 Cz8]), (.bool true), (.bool false), (.bool false), ud, ud, ud, ud, ud, ud, ud, ud, ud, ud, ud, ud, ud, ud, ud, ud, ud, ud, ud, ud, ud, ud, ud, ud, ud, ud, ud, ud, ud, ud, ud, ud, ud, ud, ud, ud, ud, ud, ud, ud, ud, ud, ud, ud, ud, ud, ud, ud, ud, ud, ud], []⟩) (by kernel_rfl) ?_
          refine wp_cond_false (by kernel_rfl) ?_
          refine wp_skip_then ?_
          refine wp_seq ?_
          refine wl_start ?_
          refine wl_take (some 52) (.int .u64 T1) rfl rfl (by kernel_rfl) ?_
          refine wl_take (some 53) (.agg #[.slice a1 len1 cap1]) rfl rfl (run_lp 5 (by kernel_rfl) (by kernel_rfl) (ldx26 (X5.cell (i := 0) rfl))) ?_
          refine wl_take (some 54) (.agg #[.slice a2 len2 cap2]) rfl rfl (run_lp 6 (by kernel_rfl) (by kernel_rfl) (ldx26 (X6.cell (i := 0) rfl))) ?_
          refine wl_call (some 55) 14 #[.int .u64 T1, .agg #[.slice a1 len1 cap1], .agg #[.slice a2 len2 cap2]] rfl rfl (by kernel_rfl) (sRedeem (w64 rt1) N1 (by omega) N2 (by omega)) ?_
          rintro e1 v12w ⟨rfl, B⟩
          refine ⟨_, rfl, ?_⟩
          replace N1 := N1.keep B
          replace N2 := N2.keep B
          replace X5 := X5.keep B
          replace X6 := X6.keep B
          replace L4 := L4.keep B
          replace Oz5 := Oz5.keep B
          replace X9 := X9.keep B
          replace Oz8 := Oz8.keep B
          replace BB := joinB BB B
          clear B
          have rg10 := re_rng (S := x1) (w64 rt1) N2.nonneg
          have kf11 := re_facts (T := T1) (S := x1) (x := x2) (w64 rt1).1 N2.nonneg
          refine wl_take (some 51) (.tuple #[.int .u64 (reV T1 x1 x2), .int .i64 (reE x1 x2)]) rfl rfl (by kernel_rfl) ?_
          refine wl_take (some 56) (.int .u64 (reV T1 x1 x2)) rfl rfl (by kernel_rfl) ?_
          refine wl_take (some 57) (.int .i64 (reE x1 x2)) rfl rfl (by kernel_rfl) ?_
          refine wl_take (some 11) (.int .u64 (reV T1 x1 x2)) rfl rfl (by kernel_rfl) ?_
          refine wl_take (some 12) (.int .i64 (reE x1 x2)) rfl rfl (by kernel_rfl) ?_
          refine wl_nil ?_
          refine wp_then ?_
          refine wp_seq ?_
          refine wl_start ?_
          refine wl_take (some 59) (.agg #[.slice a1 len1 cap1]) rfl rfl (run_lp 5 (by kernel_rfl) (by kernel_rfl) (ldx26 (X5.cell (i := 0) rfl))) ?_
          refine wl_take (some 60) (.agg #[.slice a2 len2 cap2]) rfl rfl (run_lp 6 (by kernel_rfl) (by kernel_rfl) (ldx26 (X6.cell (i := 0) rfl))) ?_
          by_cases c12 : x2 ≤ x1
          · skip
            refine wl_call (some 61) 15 #[.agg #[.slice a1 len1 cap1], .agg #[.slice a2 len2 cap2]] rfl rfl (by kernel_rfl) (dSub N1 N2 (by omega) (by omega) c12) ?_
            rintro e1 v13w ⟨Az13, Nz13, Cz13, rfl, Oz13, Kz13, B⟩
            refine ⟨_, rfl, ?_⟩
            replace N1 := N1.keep B
            replace N2 := N2.keep B
            replace X5 := X5.keep B
            replace X6 := X6.keep B
            replace L4 := L4.keep B
            replace Oz5 := Oz5.keep B
            replace X9 := X9.keep B
            replace Oz8 := Oz8.keep B
            replace BB := joinB BB B
            clear B
            refine wl_take (some 58) (.tuple #[.agg #[.slice Az13 Nz13 Cz13], .int .i64 0]) rfl rfl (by kernel_rfl) ?_
            refine wl_take (some 62) (.agg #[.slice Az13 Nz13 Cz13]) rfl rfl (by kernel_rfl) ?_
            refine wl_take (some 63) (.int .i64 0) rfl rfl (by kernel_rfl) ?_
            have bs13 := BB.size
            refine wl_new 13 62 26 [.slice none 0 0] [.slice Az13 Nz13 Cz13] rfl rfl rfl rfl rfl rfl allocx26 (fun _ => by kernel_rfl) (fun _ => by kernel_rfl) (by kernel_rfl) rfl (by kernel_rfl) ?_
            intro v14w g14v X13 hg14v B
            replace N1 := N1.keep B
            replace N2 := N2.keep B
            replace X5 := X5.keep B
            replace X6 := X6.keep B
            replace L4 := L4.keep B
            replace Oz5 := Oz5.keep B
            replace X9 := X9.keep B
            replace Oz8 := Oz8.keep B
            replace Oz13 := Oz13.keep B
            replace BB := joinB BB B
            clear B
            refine wl_take (some 14) (.int .i64 0) rfl rfl (by kernel_rfl) ?_
            refine wl_nil ?_
            refine wp_then ?_
            refine wp_frame (a' := ⟨#[(.int .u64 T1), (.agg #[.slice a1 len1 cap1]), (.agg #[.slice a2 len2 cap2]), (.int .u64 T2), ud, (.pointer (some ⟨g1v, 0, none⟩)), (.pointer (some ⟨g2v, 0, none⟩)), ud, (.bool false), (.pointer (some ⟨g9v, 0, none⟩)), (.int .i64 (isE T1 x1 T2)), (.int .u64 (reV T1 x1 x2)), (.int .i64 (reE x1 x2)), (.pointer (some ⟨g14v, 0, none⟩)), (.int .i64 0), (.bool true), (.bool false), (.int .u64 y0), (.int .u64 T1), (.int .u64 y3), (.int .u64 T2), (.agg #[.slice a1 len1 cap1]), (.agg #[.slice a2 len2 cap2]), (.slice (some ⟨g4v, 0, none⟩) 2 2), (.bool true), (.bool false), (.bool false), (.agg #[.slice a1 len1 cap1]), (.bool false), (.bool false), (.tuple #[.agg #[.slice Az5 Nz5 Cz5], .int .i64 (isE T1 x1 T2)]), (.int .u64 T1), (.agg #[.slice a1 len1 cap1]), (.int .u64 T2), (.tuple #[.agg #[.slice Az5 Nz5 Cz5], .int .i64 (isE T1 x1 T2)]), (.agg #[.slice Az5 Nz5 Cz5]), (.int .i64 (isE T1 x1 T2)), (.int .i64 (isE T1 x1 T2)), (.bool true), (.bool true), (.int .u64 T1), (.agg #[.slice a1 len1 cap1]), (.int .u64 T1), (.int .u64 T2), (.int .u64 (T1 + T2)), (.agg #[.slice a1 len1 cap1]), (.agg #[.slice Az5 Nz5 Cz5]), (.agg #[.slice Az8 Nz8 Cz8]), (.bool true), (.bool false), (.bool false), (.tuple #[.int .u64 (reV T1 x1 x2), .int .i64 (reE x1 x2)]), (.int .u64 T1), (.agg #[.slice a1 len1 cap1]), (.agg #[.slice a2 len2 cap2]), (.tuple #[.int .u64 (reV T1 x1 x2), .int .i64 (reE x1 x2)]), (.int .u64 (reV T1 x1 x2)), (.int .i64 (reE x1 x2)), (.tuple #[.agg #[.slice Az13 Nz13 Cz13], .int .i64 0]), (.agg #[.slice a1 len1 cap1]), (.agg #[.slice a2 len2 cap2]), (.tuple #[.agg #[.slice Az13 Nz13 Cz13], .int .i64 0]), (.agg #[.slice Az13 Nz13 Cz13]), (.int .i64 0), ud, ud, ud, ud, ud, ud, ud, ud, ud, ud, ud, ud, ud, ud, ud, ud, ud, ud, ud, ud, ud, ud, ud, ud, ud, ud, ud, ud, ud, ud, ud, ud, ud, ud, ud, ud, ud, ud], []⟩) (by kernel_rfl) ?_
            refine wp_seq ?_
            refine wp_seq ?_
            refine wl_start ?_
            refine wl_take (some 64) (.int .i64 (reE x1 x2)) rfl rfl (by kernel_rfl) ?_
            by_cases c14 : reE x1 x2 = 0
            · skip
              refine wl_eq (some 65) (.bool ((reE x1 x2 : Int) != 0)) (.bool false) (congrArg Value.bool (bne_eq_false_iff_eq.2 c14)) rfl rfl (by kernel_rfl) ?_
              refine wl_nil ?_
              refine wp_then ?_
              refine wp_cond_false (by kernel_rfl) ?_
              refine wp_skip_then ?_
              refine wp_seq ?_
              refine wp_seq ?_
              refine wl_start ?_
              refine wl_take (some 72) (.agg #[.slice Az13 Nz13 Cz13]) rfl rfl (run_lp 13 (by kernel_rfl) (by kernel_rfl) (ldx26 (X13.cell (i := 0) rfl))) ?_
              by_cases c15 : (x1 - x2) = 0
              · skip
                refine wl_call (some 73) 10 #[.agg #[.slice Az13 Nz13 Cz13]] rfl rfl (by kernel_rfl) (zeroD Oz13.a (by omega) true (decide_eq_true c15)) ?_
                rintro e1 v15w ⟨rfl, B⟩
                refine ⟨_, rfl, ?_⟩
                replace N1 := N1.keep B
                replace N2 := N2.keep B
                replace X5 := X5.keep B
                replace X6 := X6.keep B
                replace L4 := L4.keep B
                replace Oz5 := Oz5.keep B
                replace X9 := X9.keep B
                replace Oz8 := Oz8.keep B
                replace Oz13 := Oz13.keep B
                replace X13 := X13.keep B
                replace BB := joinB BB B
                clear B
                refine wl_nil ?_
                refine wp_then ?_
                refine wp_cond_true (by kernel_rfl) ?_
                refine wp_seq ?_
                refine wl_start ?_
                refine wl_take (some 74) (.int .u64 (reV T1 x1 x2)) rfl rfl (by kernel_rfl) ?_
                refine wl_take (some 75) (.int .u64 T1) rfl rfl (by kernel_rfl) ?_
                by_cases c16 : reV T1 x1 x2 = T1
                · skip
                  refine wl_eq (some 76) (.bool ((reV T1 x1 x2 : Int) == T1)) (.bool true) (congrArg Value.bool (beq_iff_eq.2 c16)) rfl rfl (by kernel_rfl) ?_
                  refine wl_take (some 8) (.bool true) rfl rfl (by kernel_rfl) ?_
                  refine wl_nil ?_
                  refine wp_then ?_
                  refine wp_ret ?_
                  repeat (first | refine ret_then ?_ | refine ret_block ?_)
                  refine bodyPost_ret (results_tmp rfl _ _ _) rfl ?_
                  exact ⟨by kernel_rfl, BB⟩
                · skip
                  refine wl_eq (some 76) (.bool ((reV T1 x1 x2 : Int) == T1)) (.bool false) (congrArg Value.bool (beq_eq_false_iff_ne.2 c16)) rfl rfl (by kernel_rfl) ?_
                  refine wl_take (some 8) (.bool false) rfl rfl (by kernel_rfl) ?_
                  refine wl_nil ?_
                  refine wp_then ?_
                  exfalso
                  have kk := is_rate (t := T2) (w64 rt1).1 hx1 c4
                  clear BB
                  omega
              · skip
                refine wl_call (some 73) 10 #[.agg #[.slice Az13 Nz13 Cz13]] rfl rfl (by kernel_rfl) (zeroD Oz13.a (by omega) false (decide_eq_false c15)) ?_
                rintro e1 v16w ⟨rfl, B⟩
                refine ⟨_, rfl, ?_⟩
                replace N1 := N1.keep B
                replace N2 := N2.keep B
                replace X5 := X5.keep B
                replace X6 := X6.keep B
                replace L4 := L4.keep B
                replace Oz5 := Oz5.keep B
                replace X9 := X9.keep B
                replace Oz8 := Oz8.keep B
                replace Oz13 := Oz13.keep B
                replace X13 := X13.keep B
                replace BB := joinB BB B
                clear B
                refine wl_nil ?_
                refine wp_then ?_
                refine wp_cond_false (by kernel_rfl) ?_
                refine wp_skip_then ?_
                refine wp_seq ?_
                refine wl_start ?_
                refine wl_take (some 77) (.int .i64 0) rfl rfl (by kernel_rfl) ?_
                refine wl_take (some 78) (.bool true) rfl rfl (by kernel_rfl) ?_
                refine wl_take (some 79) (.bool true) rfl rfl (by kernel_rfl) ?_
                refine wg_take (some 80) (.int .u64 (reV T1 x1 x2)) (by kernel_rfl) rfl (by kernel_rfl) ?_
                refine wg_take (some 81) (.int .u64 T1) (by kernel_rfl) rfl (by kernel_rfl) ?_
                by_cases c17 : reV T1 x1 x2 ≤ T1
                · skip
                  refine wg_eq (some 82) (.bool (decide ((reV T1 x1 x2 : Int) ≤ T1))) (.bool true) (congrArg Value.bool (decide_eq_true c17)) (by kernel_rfl) rfl (by kernel_rfl) ?_
                  refine wl_take (some 83) (.bool true) rfl rfl (by kernel_rfl) ?_
                  refine wl_take (some 84) (.bool true) rfl rfl (by kernel_rfl) ?_
                  refine wg_take (some 85) (.int .u64 T1) (by kernel_rfl) rfl (by kernel_rfl) ?_
                  by_cases c18 : T1 = 0
                  · skip
                    refine wg_eq (some 86) (.bool ((T1 : Int) == 0)) (.bool true) (congrArg Value.bool (beq_iff_eq.2 c18)) (by kernel_rfl) rfl (by kernel_rfl) ?_
                    refine wg_take (some 87) (.bool true) (by kernel_rfl) rfl (by kernel_rfl) ?_
                    refine wg_not (some 88) (by kernel_rfl) rfl ?_
                    refine wg_not (some 89) (by kernel_rfl) rfl ?_
                    refine wg_not (some 90) (by kernel_rfl) rfl ?_
                    refine wg_take (some 91) (.bool true) (by kernel_rfl) rfl (by kernel_rfl) ?_
                    refine wl_take (some 92) (.bool true) rfl rfl (by kernel_rfl) ?_
                    refine wl_frame (a' := ⟨#[(.int .u64 T1), (.agg #[.slice a1 len1 cap1]), (.agg #[.slice a2 len2 cap2]), (.int .u64 T2), ud, (.pointer (some ⟨g1v, 0, none⟩)), (.pointer (some ⟨g2v, 0, none⟩)), ud, (.bool false), (.pointer (some ⟨g9v, 0, none⟩)), (.int .i64 (isE T1 x1 T2)), (.int .u64 (reV T1 x1 x2)), (.int .i64 (reE x1 x2)), (.pointer (some ⟨g14v, 0, none⟩)), (.int .i64 0), (.bool true), (.bool false), (.int .u64 y0), (.int .u64 T1), (.int .u64 y3), (.int .u64 T2), (.agg #[.slice a1 len1 cap1]), (.agg #[.slice a2 len2 cap2]), (.slice (some ⟨g4v, 0, none⟩) 2 2), (.bool true), (.bool false), (.bool false), (.agg #[.slice a1 len1 cap1]), (.bool false), (.bool false), (.tuple #[.agg #[.slice Az5 Nz5 Cz5], .int .i64 (isE T1 x1 T2)]), (.int .u64 T1), (.agg #[.slice a1 len1 cap1]), (.int .u64 T2), (.tuple #[.agg #[.slice Az5 Nz5 Cz5], .int .i64 (isE T1 x1 T2)]), (.agg #[.slice Az5 Nz5 Cz5]), (.int .i64 (isE T1 x1 T2)), (.int .i64 (isE T1 x1 T2)), (.bool true), (.bool true), (.int .u64 T1), (.agg #[.slice a1 len1 cap1]), (.int .u64 T1), (.int .u64 T2), (.int .u64 (T1 + T2)), (.agg #[.slice a1 len1 cap1]), (.agg #[.slice Az5 Nz5 Cz5]), (.agg #[.slice Az8 Nz8 Cz8]), (.bool true), (.bool false), (.bool false), (.tuple #[.int .u64 (reV T1 x1 x2), .int .i64 (reE x1 x2)]), (.int .u64 T1), (.agg #[.slice a1 len1 cap1]), (.agg #[.slice a2 len2 cap2]), (.tuple #[.int .u64 (reV T1 x1 x2), .int .i64 (reE x1 x2)]), (.int .u64 (reV T1 x1 x2)), (.int .i64 (reE x1 x2)), (.tuple #[.agg #[.slice Az13 Nz13 Cz13], .int .i64 0]), (.agg #[.slice a1 len1 cap1]), (.agg #[.slice a2 len2 cap2]), (.tuple #[.agg #[.slice Az13 Nz13 Cz13], .int .i64 0]), (.agg #[.slice Az13 Nz13 Cz13]), (.int .i64 0), (.int .i64 (reE x1 x2)), (.bool false), ud, ud, ud, ud, ud, ud, (.agg #[.slice Az13 Nz13 Cz13]), (.bool false), ud, ud, ud, (.int .i64 0), (.bool true), (.bool true), (.int .u64 (reV T1 x1 x2)), (.int .u64 T1), (.bool true), (.bool true), (.bool true), (.int .u64 T1), (.bool true), (.bool true), ud, ud, ud, (.bool true), (.bool true), ud, ud, ud, ud, ud, ud, ud, ud, ud], []⟩) (by kernel_rfl) ?_
                    refine wl_take (some 93) (.bool true) rfl rfl (by kernel_rfl) ?_
                    refine wg_take (some 94) (.int .u64 T1) (by kernel_rfl) rfl (by kernel_rfl) ?_
                    refine wg_take (some 95) (.agg #[.slice a1 len1 cap1]) (by kernel_rfl) rfl (run_lp 5 (by kernel_rfl) (by kernel_rfl) (ldx26 (X5.cell (i := 0) rfl))) ?_
                    refine wg_take (some 96) (.int .u64 T1) (by kernel_rfl) rfl (by kernel_rfl) ?_
                    refine wg_take (some 97) (.int .u64 (reV T1 x1 x2)) (by kernel_rfl) rfl (by kernel_rfl) ?_
                    have rg19 : 0 ≤ T1 - (reV T1 x1 x2) ∧ T1 - (reV T1 x1 x2) < 18446744073709551616 := by omega
                    refine wg_take (some 98) (.int .u64 (T1 - (reV T1 x1 x2))) (by kernel_rfl) rfl (run_subu (x := 96) (y := 97) (p := T1) (q := reV T1 x1 x2) (by kernel_rfl) (by kernel_rfl) (by kernel_rfl) rg19) ?_
                    refine wg_take (some 99) (.agg #[.slice Az13 Nz13 Cz13]) (by kernel_rfl) rfl (run_lp 13 (by kernel_rfl) (by kernel_rfl) (ldx26 (X13.cell (i := 0) rfl))) ?_
                    by_cases c20 : T1 * (x1 - x2) ≤ (T1 - (reV T1 x1 x2)) * x1
                    · skip
                      refine wg_call (some 100) 12 #[.int .u64 T1, .agg #[.slice a1 len1 cap1], .int .u64 (T1 - (reV T1 x1 x2)), .agg #[.slice Az13 Nz13 Cz13]] (by kernel_rfl) rfl (by kernel_rfl) (rate_any (w64 rt1) N1 (by omega) rg19 Oz13.a (by omega) true (decide_eq_true c20)) ?_
                      rintro e1 v17w ⟨rfl, B⟩
                      refine ⟨_, rfl, ?_⟩
                      replace N1 := N1.keep B
                      replace N2 := N2.keep B
                      replace X5 := X5.keep B
                      replace X6 := X6.keep B
                      replace L4 := L4.keep B
                      replace Oz5 := Oz5.keep B
                      replace X9 := X9.keep B
                      replace Oz8 := Oz8.keep B
                      replace Oz13 := Oz13.keep B
                      replace X13 := X13.keep B
                      replace BB := joinB BB B
                      clear B
                      refine wl_take (some 101) (.bool true) rfl rfl (by kernel_rfl) ?_
                      refine wl_take (some 8) (.bool true) rfl rfl (by kernel_rfl) ?_
                      refine wl_nil ?_
                      refine wp_then ?_
                      refine wp_frame (a' := ⟨#[(.int .u64 T1), (.agg #[.slice a1 len1 cap1]), (.agg #[.slice a2 len2 cap2]), (.int .u64 T2), ud, (.pointer (some ⟨g1v, 0, none⟩)), (.pointer (some ⟨g2v, 0, none⟩)), ud, (.bool true), (.pointer (some ⟨g9v, 0, none⟩)), (.int .i64 (isE T1 x1 T2)), (.int .u64 (reV T1 x1 x2)), (.int .i64 (reE x1 x2)), (.pointer (some ⟨g14v, 0, none⟩)), (.int .i64 0), (.bool true), (.bool false), (.int .u64 y0), (.int .u64 T1), (.int .u64 y3), (.int .u64 T2), (.agg #[.slice a1 len1 cap1]), (.agg #[.slice a2 len2 cap2]), (.slice (some ⟨g4v, 0, none⟩) 2 2), (.bool true), (.bool false), (.bool false), (.agg #[.slice a1 len1 cap1]), (.bool false), (.bool false), (.tuple #[.agg #[.slice Az5 Nz5 Cz5], .int .i64 (isE T1 x1 T2)]), (.int .u64 T1), (.agg #[.slice a1 len1 cap1]), (.int .u64 T2), (.tuple #[.agg #[.slice Az5 Nz5 Cz5], .int .i64 (isE T1 x1 T2)]), (.agg #[.slice Az5 Nz5 Cz5]), (.int .i64 (isE T1 x1 T2)), (.int .i64 (isE T1 x1 T2)), (.bool true), (.bool true), (.int .u64 T1), (.agg #[.slice a1 len1 cap1]), (.int .u64 T1), (.int .u64 T2), (.int .u64 (T1 + T2)), (.agg #[.slice a1 len1 cap1]), (.agg #[.slice Az5 Nz5 Cz5]), (.agg #[.slice Az8 Nz8 Cz8]), (.bool true), (.bool false), (.bool false), (.tuple #[.int .u64 (reV T1 x1 x2), .int .i64 (reE x1 x2)]), (.int .u64 T1), (.agg #[.slice a1 len1 cap1]), (.agg #[.slice a2 len2 cap2]), (.tuple #[.int .u64 (reV T1 x1 x2), .int .i64 (reE x1 x2)]), (.int .u64 (reV T1 x1 x2)), (.int .i64 (reE x1 x2)), (.tuple #[.agg #[.slice Az13 Nz13 Cz13], .int .i64 0]), (.agg #[.slice a1 len1 cap1]), (.agg #[.slice a2 len2 cap2]), (.tuple #[.agg #[.slice Az13 Nz13 Cz13], .int .i64 0]), (.agg #[.slice Az13 Nz13 Cz13]), (.int .i64 0), (.int .i64 (reE x1 x2)), (.bool false), ud, ud, ud, ud, ud, ud, (.agg #[.slice Az13 Nz13 Cz13]), (.bool false), ud, ud, ud, (.int .i64 0), (.bool true), (.bool true), (.int .u64 (reV T1 x1 x2)), (.int .u64 T1), (.bool true), (.bool true), (.bool true), (.int .u64 T1), (.bool true), (.bool true), ud, ud, ud, (.bool true), (.bool true), (.bool true), (.int .u64 T1), (.agg #[.slice a1 len1 cap1]), (.int .u64 T1), (.int .u64 (reV T1 x1 x2)), (.int .u64 (T1 - (reV T1 x1 x2))), (.agg #[.slice Az13 Nz13 Cz13]), (.bool true), (.bool true)], []⟩) (by kernel_rfl) ?_
                      refine wp_ret ?_
                      repeat (first | refine ret_then ?_ | refine ret_block ?_)
                      refine bodyPost_ret (results_tmp rfl _ _ _) rfl ?_
                      exact ⟨by kernel_rfl, BB⟩
                    · skip
                      refine wg_call (some 100) 12 #[.int .u64 T1, .agg #[.slice a1 len1 cap1], .int .u64 (T1 - (reV T1 x1 x2)), .agg #[.slice Az13 Nz13 Cz13]] (by kernel_rfl) rfl (by kernel_rfl) (rate_any (w64 rt1) N1 (by omega) rg19 Oz13.a (by omega) false (decide_eq_false c20)) ?_
                      rintro e1 v18w ⟨rfl, B⟩
                      refine ⟨_, rfl, ?_⟩
                      replace N1 := N1.keep B
                      replace N2 := N2.keep B
                      replace X5 := X5.keep B
                      replace X6 := X6.keep B
                      replace L4 := L4.keep B
                      replace Oz5 := Oz5.keep B
                      replace X9 := X9.keep B
                      replace Oz8 := Oz8.keep B
                      replace Oz13 := Oz13.keep B
                      replace X13 := X13.keep B
                      replace BB := joinB BB B
                      clear B
                      refine wl_take (some 101) (.bool false) rfl rfl (by kernel_rfl) ?_
                      refine wl_take (some 8) (.bool false) rfl rfl (by kernel_rfl) ?_
                      refine wl_nil ?_
                      refine wp_then ?_
                      refine wp_frame (a' := ⟨#[(.int .u64 T1), (.agg #[.slice a1 len1 cap1]), (.agg #[.slice a2 len2 cap2]), (.int .u64 T2), ud, (.pointer (some ⟨g1v, 0, none⟩)), (.pointer (some ⟨g2v, 0, none⟩)), ud, (.bool false), (.pointer (some ⟨g9v, 0, none⟩)), (.int .i64 (isE T1 x1 T2)), (.int .u64 (reV T1 x1 x2)), (.int .i64 (reE x1 x2)), (.pointer (some ⟨g14v, 0, none⟩)), (.int .i64 0), (.bool true), (.bool false), (.int .u64 y0), (.int .u64 T1), (.int .u64 y3), (.int .u64 T2), (.agg #[.slice a1 len1 cap1]), (.agg #[.slice a2 len2 cap2]), (.slice (some ⟨g4v, 0, none⟩) 2 2), (.bool true), (.bool false), (.bool false), (.agg #[.slice a1 len1 cap1]), (.bool false), (.bool false), (.tuple #[.agg #[.slice Az5 Nz5 Cz5], .int .i64 (isE T1 x1 T2)]), (.int .u64 T1), (.agg #[.slice a1 len1 cap1]), (.int .u64 T2), (.tuple #[.agg #[.slice Az5 Nz5 Cz5], .int .i64 (isE T1 x1 T2)]), (.agg #[.slice Az5 Nz5 Cz5]), (.int .i64 (isE T1 x1 T2)), (.int .i64 (isE T1 x1 T2)), (.bool true), (.bool true), (.int .u64 T1), (.agg #[.slice a1 len1 cap1]), (.int .u64 T1), (.int .u64 T2), (.int .u64 (T1 + T2)), (.agg #[.slice a1 len1 cap1]), (.agg #[.slice Az5 Nz5 Cz5]), (.agg #[.slice Az8 Nz8 Cz8]), (.bool true), (.bool false), (.bool false), (.tuple #[.int .u64 (reV T1 x1 x2), .int .i64 (reE x1 x2)]), (.int .u64 T1), (.agg #[.slice a1 len1 cap1]), (.agg #[.slice a2 len2 cap2]), (.tuple #[.int .u64 (reV T1 x1 x2), .int .i64 (reE x1 x2)]), (.int .u64 (reV T1 x1 x2)), (.int .i64 (reE x1 x2)), (.tuple #[.agg #[.slice Az13 Nz13 Cz13], .int .i64 0]), (.agg #[.slice a1 len1 cap1]), (.agg #[.slice a2 len2 cap2]), (.tuple #[.agg #[.slice Az13 Nz13 Cz13], .int .i64 0]), (.agg #[.slice Az13 Nz13 Cz13]), (.int .i64 0), (.int .i64 (reE x1 x2)), (.bool false), ud, ud, ud, ud, ud, ud, (.agg #[.slice Az13 Nz13 Cz13]), (.bool false), ud, ud, ud, (.int .i64 0), (.bool true), (.bool true), (.int .u64 (reV T1 x1 x2)), (.int .u64 T1), (.bool true), (.bool true), (.bool true), (.int .u64 T1), (.bool true), (.bool true), ud, ud, ud, (.bool true), (.bool true), (.bool true), (.int .u64 T1), (.agg #[.slice a1 len1 cap1]), (.int .u64 T1), (.int .u64 (reV T1 x1 x2)), (.int .u64 (T1 - (reV T1 x1 x2))), (.agg #[.slice Az13 Nz13 Cz13]), (.bool false), (.bool false)], []⟩) (by kernel_rfl) ?_
                      exfalso
                      have kk := is_rate (t := T2) (w64 rt1).1 hx1 c4
                      clear BB
                      omega
                  · skip
                    refine wg_eq (some 86) (.bool ((T1 : Int) == 0)) (.bool false) (congrArg Value.bool (beq_eq_false_iff_ne.2 c18)) (by kernel_rfl) rfl (by kernel_rfl) ?_
                    refine wg_take (some 87) (.bool false) (by kernel_rfl) rfl (by kernel_rfl) ?_
                    refine wg_take (some 88) (.int .u64 (reV T1 x1 x2)) (by kernel_rfl) rfl (by kernel_rfl) ?_
                    refine wg_take (some 89) (.int .u64 T1) (by kernel_rfl) rfl (by kernel_rfl) ?_
                    by_cases c21 : reV T1 x1 x2 < T1
                    · skip
                      refine wg_eq (some 90) (.bool (decide ((reV T1 x1 x2 : Int) < T1))) (.bool true) (congrArg Value.bool (decide_eq_true c21)) (by kernel_rfl) rfl (by kernel_rfl) ?_
                      refine wg_take (some 91) (.bool true) (by kernel_rfl) rfl (by kernel_rfl) ?_
                      refine wl_take (some 92) (.bool true) rfl rfl (by kernel_rfl) ?_
                      refine wl_frame (a' := ⟨#[(.int .u64 T1), (.agg #[.slice a1 len1 cap1]), (.agg #[.slice a2 len2 cap2]), (.int .u64 T2), ud, (.pointer (some ⟨g1v, 0, none⟩)), (.pointer (some ⟨g2v, 0, none⟩)), ud, (.bool false), (.pointer (some ⟨g9v, 0, none⟩)), (.int .i64 (isE T1 x1 T2)), (.int .u64 (reV T1 x1 x2)), (.int .i64 (reE x1 x2)), (.pointer (some ⟨g14v, 0, none⟩)), (.int .i64 0), (.bool true), (.bool false), (.int .u64 y0), (.int .u64 T1), (.int .u64 y3), (.int .u64 T2), (.agg #[.slice a1 len1 cap1]), (.agg #[.slice a2 len2 cap2]), (.slice (some ⟨g4v, 0, none⟩) 2 2), (.bool true), (.bool false), (.bool false), (.agg #[.slice a1 len1 cap1]), (.bool false), (.bool false), (.tuple #[.agg #[.slice Az5 Nz5 Cz5], .int .i64 (isE T1 x1 T2)]), (.int .u64 T1), (.agg #[.slice a1 len1 cap1]), (.int .u64 T2), (.tuple #[.agg #[.slice Az5 Nz5 Cz5], .int .i64 (isE T1 x1 T2)]), (.agg #[.slice Az5 Nz5 Cz5]), (.int .i64 (isE T1 x1 T2)), (.int .i64 (isE T1 x1 T2)), (.bool true), (.bool true), (.int .u64 T1), (.agg #[.slice a1 len1 cap1]), (.int .u64 T1), (.int .u64 T2), (.int .u64 (T1 + T2)), (.agg #[.slice a1 len1 cap1]), (.agg #[.slice Az5 Nz5 Cz5]), (.agg #[.slice Az8 Nz8 Cz8]), (.bool true), (.bool false), (.bool false), (.tuple #[.int .u64 (reV T1 x1 x2), .int .i64 (reE x1 x2)]), (.int .u64 T1), (.agg #[.slice a1 len1 cap1]), (.agg #[.slice a2 len2 cap2]), (.tuple #[.int .u64 (reV T1 x1 x2), .int .i64 (reE x1 x2)]), (.int .u64 (reV T1 x1 x2)), (.int .i64 (reE x1 x2)), (.tuple #[.agg #[.slice Az13 Nz13 Cz13], .int .i64 0]), (.agg #[.slice a1 len1 cap1]), (.agg #[.slice a2 len2 cap2]), (.tuple #[.agg #[.slice Az13 Nz13 Cz13], .int .i64 0]), (.agg #[.slice Az13 Nz13 Cz13]), (.int .i64 0), (.int .i64 (reE x1 x2)), (.bool false), ud, ud, ud, ud, ud, ud, (.agg #[.slice Az13 Nz13 Cz13]), (.bool false), ud, ud, ud, (.int .i64 0), (.bool true), (.bool true), (.int .u64 (reV T1 x1 x2)), (.int .u64 T1), (.bool true), (.bool true), (.bool true), (.int .u64 T1), (.bool false), (.bool false), (.int .u64 (reV T1 x1 x2)), (.int .u64 T1), (.bool true), (.bool true), (.bool true), ud, ud, ud, ud, ud, ud, ud, ud, ud], []⟩) (by kernel_rfl) ?_
                      refine wl_take (some 93) (.bool true) rfl rfl (by kernel_rfl) ?_
                      refine wg_take (some 94) (.int .u64 T1) (by kernel_rfl) rfl (by kernel_rfl) ?_
                      refine wg_take (some 95) (.agg #[.slice a1 len1 cap1]) (by kernel_rfl) rfl (run_lp 5 (by kernel_rfl) (by kernel_rfl) (ldx26 (X5.cell (i := 0) rfl))) ?_
                      refine wg_take (some 96) (.int .u64 T1) (by kernel_rfl) rfl (by kernel_rfl) ?_
                      refine wg_take (some 97) (.int .u64 (reV T1 x1 x2)) (by kernel_rfl) rfl (by kernel_rfl) ?_
                      have rg22 : 0 ≤ T1 - (reV T1 x1 x2) ∧ T1 - (reV T1 x1 x2) < 18446744073709551616 := by omega
                      refine wg_take (some 98) (.int .u64 (T1 - (reV T1 x1 x2))) (by kernel_rfl) rfl (run_subu (x := 96) (y := 97) (p := T1) (q := reV T1 x1 x2) (by kernel_rfl) (by kernel_rfl) (by kernel_rfl) rg22) ?_
                      refine wg_take (some 99) (.agg #[.slice Az13 Nz13 Cz13]) (by kernel_rfl) rfl (run_lp 13 (by kernel_rfl) (by kernel_rfl) (ldx26 (X13.cell (i := 0) rfl))) ?_
                      by_cases c23 : T1 * (x1 - x2) ≤ (T1 - (reV T1 x1 x2)) * x1
                      · skip
                        refine wg_call (some 100) 12 #[.int .u64 T1, .agg #[.slice a1 len1 cap1], .int .u64 (T1 - (reV T1 x1 x2)), .agg #[.slice Az13 Nz13 Cz13]] (by kernel_rfl) rfl (by kernel_rfl) (rate_any (w64 rt1) N1 (by omega) rg22 Oz13.a (by omega) true (decide_eq_true c23)) ?_
                        rintro e1 v19w ⟨rfl, B⟩
                        refine ⟨_, rfl, ?_⟩
                        replace N1 := N1.keep B
                        replace N2 := N2.keep B
                        replace X5 := X5.keep B
                        replace X6 := X6.keep B
                        replace L4 := L4.keep B
                        replace Oz5 := Oz5.keep B
                        replace X9 := X9.keep B
                        replace Oz8 := Oz8.keep B
                        replace Oz13 := Oz13.keep B
                        replace X13 := X13.keep B
                        replace BB := joinB BB B
                        clear B
                        refine wl_take (some 101) (.bool true) rfl rfl (by kernel_rfl) ?_
                        refine wl_take (some 8) (.bool true) rfl rfl (by kernel_rfl) ?_
                        refine wl_nil ?_
                        refine wp_then ?_
                        refine wp_frame (a' := ⟨#[(.int .u64 T1), (.agg #[.slice a1 len1 cap1]), (.agg #[.slice a2 len2 cap2]), (.int .u64 T2), ud, (.pointer (some ⟨g1v, 0, none⟩)), (.pointer (some ⟨g2v, 0, none⟩)), ud, (.bool true), (.pointer (some ⟨g9v, 0, none⟩)), (.int .i64 (isE T1 x1 T2)), (.int .u64 (reV T1 x1 x2)), (.int .i64 (reE x1 x2)), (.pointer (some ⟨g14v, 0, none⟩)), (.int .i64 0), (.bool true), (.bool false), (.int .u64 y0), (.int .u64 T1), (.int .u64 y3), (.int .u64 T2), (.agg #[.slice a1 len1 cap1]), (.agg #[.slice a2 len2 cap2]), (.slice (some ⟨g4v, 0, none⟩) 2 2), (.bool true), (.bool false), (.bool false), (.agg #[.slice a1 len1 cap1]), (.bool false), (.bool false), (.tuple #[.agg #[.slice Az5 Nz5 Cz5], .int .i64 (isE T1 x1 T2)]), (.int .u64 T1), (.agg #[.slice a1 len1 cap1]), (.int .u64 T2), (.tuple #[.agg #[.slice Az5 Nz5 Cz5], .int .i64 (isE T1 x1 T2)]), (.agg #[.slice Az5 Nz5 Cz5]), (.int .i64 (isE T1 x1 T2)), (.int .i64 (isE T1 x1 T2)), (.bool true), (.bool true), (.int .u64 T1), (.agg #[.slice a1 len1 cap1]), (.int .u64 T1), (.int .u64 T2), (.int .u64 (T1 + T2)), (.agg #[.slice a1 len1 cap1]), (.agg #[.slice Az5 Nz5 Cz5]), (.agg #[.slice Az8 Nz8 Cz8]), (.bool true), (.bool false), (.bool false), (.tuple #[.int .u64 (reV T1 x1 x2), .int .i64 (reE x1 x2)]), (.int .u64 T1), (.agg #[.slice a1 len1 cap1]), (.agg #[.slice a2 len2 cap2]), (.tuple #[.int .u64 (reV T1 x1 x2), .int .i64 (reE x1 x2)]), (.int .u64 (reV T1 x1 x2)), (.int .i64 (reE x1 x2)), (.tuple #[.agg #[.slice Az13 Nz13 Cz13], .int .i64 0]), (.agg #[.slice a1 len1 cap1]), (.agg #[.slice a2 len2 cap2]), (.tuple #[.agg #[.slice Az13 Nz13 Cz13], .int .i64 0]), (.agg #[.slice Az13 Nz13 Cz13]), (.int .i64 0), (.int .i64 (reE x1 x2)), (.bool false), ud, ud, ud, ud, ud, ud, (.agg #[.slice Az13 Nz13 Cz13]), (.bool false), ud, ud, ud, (.int .i64 0), (.bool true), (.bool true), (.int .u64 (reV T1 x1 x2)), (.int .u64 T1), (.bool true), (.bool true), (.bool true), (.int .u64 T1), (.bool false), (.bool false), (.int .u64 (reV T1 x1 x2)), (.int .u64 T1), (.bool true), (.bool true), (.bool true), (.bool true), (.int .u64 T1), (.agg #[.slice a1 len1 cap1]), (.int .u64 T1), (.int .u64 (reV T1 x1 x2)), (.int .u64 (T1 - (reV T1 x1 x2))), (.agg #[.slice Az13 Nz13 Cz13]), (.bool true), (.bool true)], []⟩) (by kernel_rfl) ?_
                        refine wp_ret ?_
                        repeat (first | refine ret_then ?_ | refine ret_block ?_)
                        refine bodyPost_ret (results_tmp rfl _ _ _) rfl ?_
                        exact ⟨by kernel_rfl, BB⟩
                      · skip
                        refine wg_call (some 100) 12 #[.int .u64 T1, .agg #[.slice a1 len1 cap1], .int .u64 (T1 - (reV T1 x1 x2)), .agg #[.slice Az13 Nz13 Cz13]] (by kernel_rfl) rfl (by kernel_rfl) (rate_any (w64 rt1) N1 (by omega) rg22 Oz13.a (by omega) false (decide_eq_false c23)) ?_
                        rintro e1 v20w ⟨rfl, B⟩
                        refine ⟨_, rfl, ?_⟩
                        replace N1 := N1.keep B
                        replace N2 := N2.keep B
                        replace X5 := X5.keep B
                        replace X6 := X6.keep B
                        replace L4 := L4.keep B
                        replace Oz5 := Oz5.keep B
                        replace X9 := X9.keep B
                        replace Oz8 := Oz8.keep B
                        replace Oz13 := Oz13.keep B
                        replace X13 := X13.keep B
                        replace BB := joinB BB B
                        clear B
                        refine wl_take (some 101) (.bool false) rfl rfl (by kernel_rfl) ?_
                        refine wl_take (some 8) (.bool false) rfl rfl (by kernel_rfl) ?_
                        refine wl_nil ?_
                        refine wp_then ?_
                        refine wp_frame (a' := ⟨#[(.int .u64 T1), (.agg #[.slice a1 len1 cap1]), (.agg #[.slice a2 len2 cap2]), (.int .u64 T2), ud, (.pointer (some ⟨g1v, 0, none⟩)), (.pointer (some ⟨g2v, 0, none⟩)), ud, (.bool false), (.pointer (some ⟨g9v, 0, none⟩)), (.int .i64 (isE T1 x1 T2)), (.int .u64 (reV T1 x1 x2)), (.int .i64 (reE x1 x2)), (.pointer (some ⟨g14v, 0, none⟩)), (.int .i64 0), (.bool true), (.bool false), (.int .u64 y0), (.int .u64 T1), (.int .u64 y3), (.int .u64 T2), (.agg #[.slice a1 len1 cap1]), (.agg #[.slice a2 len2 cap2]), (.slice (some ⟨g4v, 0, none⟩) 2 2), (.bool true), (.bool false), (.bool false), (.agg #[.slice a1 len1 cap1]), (.bool false), (.bool false), (.tuple #[.agg #[.slice Az5 Nz5 Cz5], .int .i64 (isE T1 x1 T2)]), (.int .u64 T1), (.agg #[.slice a1 len1 cap1]), (.int .u64 T2), (.tuple #[.agg #[.slice Az5 Nz5 Cz5], .int .i64 (isE T1 x1 T2)]), (.agg #[.slice Az5 Nz5 Cz5]), (.int .i64 (isE T1 x1 T2)), (.int .i64 (isE T1 x1 T2)), (.bool true), (.bool true), (.int .u64 T1), (.agg #[.slice a1 len1 cap1]), (.int .u64 T1), (.int .u64 T2), (.int .u64 (T1 + T2)), (.agg #[.slice a1 len1 cap1]), (.agg #[.slice Az5 Nz5 Cz5]), (.agg #[.slice Az8 Nz8 Cz8]), (.bool true), (.bool false), (.bool false), (.tuple #[.int .u64 (reV T1 x1 x2), .int .i64 (reE x1 x2)]), (.int .u64 T1), (.agg #[.slice a1 len1 cap1]), (.agg #[.slice a2 len2 cap2]), (.tuple #[.int .u64 (reV T1 x1 x2), .int .i64 (reE x1 x2)]), (.int .u64 (reV T1 x1 x2)), (.int .i64 (reE x1 x2)), (.tuple #[.agg #[.slice Az13 Nz13 Cz13], .int .i64 0]), (.agg #[.slice a1 len1 cap1]), (.agg #[.slice a2 len2 cap2]), (.tuple #[.agg #[.slice Az13 Nz13 Cz13], .int .i64 0]), (.agg #[.slice Az13 Nz13 Cz13]), (.int .i64 0), (.int .i64 (reE x1 x2)), (.bool false), ud, ud, ud, ud, ud, ud, (.agg #[.slice Az13 Nz13 Cz13]), (.bool false), ud, ud, ud, (.int .i64 0), (.bool true), (.bool true), (.int .u64 (reV T1 x1 x2)), (.int .u64 T1), (.bool true), (.bool true), (.bool true), (.int .u64 T1), (.bool false), (.bool false), (.int .u64 (reV T1 x1 x2)), (.int .u64 T1), (.bool true), (.bool true), (.bool true), (.bool true), (.int .u64 T1), (.agg #[.slice a1 len1 cap1]), (.int .u64 T1), (.int .u64 (reV T1 x1 x2)), (.int .u64 (T1 - (reV T1 x1 x2))), (.agg #[.slice Az13 Nz13 Cz13]), (.bool false), (.bool false)], []⟩) (by kernel_rfl) ?_
                        exfalso
                        have kk := is_rate (t := T2) (w64 rt1).1 hx1 c4
                        clear BB
                        omega
                    · skip
                      refine wg_eq (some 90) (.bool (decide ((reV T1 x1 x2 : Int) < T1))) (.bool false) (congrArg Value.bool (decide_eq_false c21)) (by kernel_rfl) rfl (by kernel_rfl) ?_
                      refine wg_take (some 91) (.bool false) (by kernel_rfl) rfl (by kernel_rfl) ?_
                      refine wl_take (some 92) (.bool false) rfl rfl (by kernel_rfl) ?_
                      refine wl_frame (a' := ⟨#[(.int .u64 T1), (.agg #[.slice a1 len1 cap1]), (.agg #[.slice a2 len2 cap2]), (.int .u64 T2), ud, (.pointer (some ⟨g1v, 0, none⟩)), (.pointer (some ⟨g2v, 0, none⟩)), ud, (.bool false), (.pointer (some ⟨g9v, 0, none⟩)), (.int .i64 (isE T1 x1 T2)), (.int .u64 (reV T1 x1 x2)), (.int .i64 (reE x1 x2)), (.pointer (some ⟨g14v, 0, none⟩)), (.int .i64 0), (.bool true), (.bool false), (.int .u64 y0), (.int .u64 T1), (.int .u64 y3), (.int .u64 T2), (.agg #[.slice a1 len1 cap1]), (.agg #[.slice a2 len2 cap2]), (.slice (some ⟨g4v, 0, none⟩) 2 2), (.bool true), (.bool false), (.bool false), (.agg #[.slice a1 len1 cap1]), (.bool false), (.bool false), (.tuple #[.agg #[.slice Az5 Nz5 Cz5], .int .i64 (isE T1 x1 T2)]), (.int .u64 T1), (.agg #[.slice a1 len1 cap1]), (.int .u64 T2), (.tuple #[.agg #[.slice Az5 Nz5 Cz5], .int .i64 (isE T1 x1 T2)]), (.agg #[.slice Az5 Nz5 Cz5]), (.int .i64 (isE T1 x1 T2)), (.int .i64 (isE T1 x1 T2)), (.bool true), (.bool true), (.int .u64 T1), (.agg #[.slice a1 len1 cap1]), (.int .u64 T1), (.int .u64 T2), (.int .u64 (T1 + T2)), (.agg #[.slice a1 len1 cap1]), (.agg #[.slice Az5 Nz5 Cz5]), (.agg #[.slice Az8 Nz8 Cz8]), (.bool true), (.bool false), (.bool false), (.tuple #[.int .u64 (reV T1 x1 x2), .int .i64 (reE x1 x2)]), (.int .u64 T1), (.agg #[.slice a1 len1 cap1]), (.agg #[.slice a2 len2 cap2]), (.tuple #[.int .u64 (reV T1 x1 x2), .int .i64 (reE x1 x2)]), (.int .u64 (reV T1 x1 x2)), (.int .i64 (reE x1 x2)), (.tuple #[.agg #[.slice Az13 Nz13 Cz13], .int .i64 0]), (.agg #[.slice a1 len1 cap1]), (.agg #[.slice a2 len2 cap2]), (.tuple #[.agg #[.slice Az13 Nz13 Cz13], .int .i64 0]), (.agg #[.slice Az13 Nz13 Cz13]), (.int .i64 0), (.int .i64 (reE x1 x2)), (.bool false), ud, ud, ud, ud, ud, ud, (.agg #[.slice Az13 Nz13 Cz13]), (.bool false), ud, ud, ud, (.int .i64 0), (.bool true), (.bool true), (.int .u64 (reV T1 x1 x2)), (.int .u64 T1), (.bool true), (.bool true), (.bool true), (.int .u64 T1), (.bool false), (.bool false), (.int .u64 (reV T1 x1 x2)), (.int .u64 T1), (.bool false), (.bool false), (.bool false), ud, ud, ud, ud, ud, ud, ud, ud, ud], []⟩) (by kernel_rfl) ?_
                      refine wl_take (some 93) (.bool false) rfl rfl (by kernel_rfl) ?_
                      refine wg_not (some 94) (by kernel_rfl) rfl ?_
                      refine wg_not (some 95) (by kernel_rfl) rfl ?_
                      refine wg_not (some 96) (by kernel_rfl) rfl ?_
                      refine wg_not (some 97) (by kernel_rfl) rfl ?_
                      refine wg_not (some 98) (by kernel_rfl) rfl ?_
                      refine wg_not (some 99) (by kernel_rfl) rfl ?_
                      refine wg_not (some 100) (by kernel_rfl) rfl ?_
                      refine wl_take (some 101) (.bool false) rfl rfl (by kernel_rfl) ?_
                      refine wl_take (some 8) (.bool false) rfl rfl (by kernel_rfl) ?_
                      refine wl_nil ?_
                      refine wp_then ?_
                      refine wp_frame (a' := ⟨#[(.int .u64 T1), (.agg #[.slice a1 len1 cap1]), (.agg #[.slice a2 len2 cap2]), (.int .u64 T2), ud, (.pointer (some ⟨g1v, 0, none⟩)), (.pointer (some ⟨g2v, 0, none⟩)), ud, (.bool false), (.pointer (some ⟨g9v, 0, none⟩)), (.int .i64 (isE T1 x1 T2)), (.int .u64 (reV T1 x1 x2)), (.int .i64 (reE x1 x2)), (.pointer (some ⟨g14v, 0, none⟩)), (.int .i64 0), (.bool true), (.bool false), (.int .u64 y0), (.int .u64 T1), (.int .u64 y3), (.int .u64 T2), (.agg #[.slice a1 len1 cap1]), (.agg #[.slice a2 len2 cap2]), (.slice (some ⟨g4v, 0, none⟩) 2 2), (.bool true), (.bool false), (.bool false), (.agg #[.slice a1 len1 cap1]), (.bool false), (.bool false), (.tuple #[.agg #[.slice Az5 Nz5 Cz5], .int .i64 (isE T1 x1 T2)]), (.int .u64 T1), (.agg #[.slice a1 len1 cap1]), (.int .u64 T2), (.tuple #[.agg #[.slice Az5 Nz5 Cz5], .int .i64 (isE T1 x1 T2)]), (.agg #[.slice Az5 Nz5 Cz5]), (.int .i64 (isE T1 x1 T2)), (.int .i64 (isE T1 x1 T2)), (.bool true), (.bool true), (.int .u64 T1), (.agg #[.slice a1 len1 cap1]), (.int .u64 T1), (.int .u64 T2), (.int .u64 (T1 + T2)), (.agg #[.slice a1 len1 cap1]), (.agg #[.slice Az5 Nz5 Cz5]), (.agg #[.slice Az8 Nz8 Cz8]), (.bool true), (.bool false), (.bool false), (.tuple #[.int .u64 (reV T1 x1 x2), .int .i64 (reE x1 x2)]), (.int .u64 T1), (.agg #[.slice a1 len1 cap1]), (.agg #[.slice a2 len2 cap2]), (.tuple #[.int .u64 (reV T1 x1 x2), .int .i64 (reE x1 x2)]), (.int .u64 (reV T1 x1 x2)), (.int .i64 (reE x1 x2)), (.tuple #[.agg #[.slice Az13 Nz13 Cz13], .int .i64 0]), (.agg #[.slice a1 len1 cap1]), (.agg #[.slice a2 len2 cap2]), (.tuple #[.agg #[.slice Az13 Nz13 Cz13], .int .i64 0]), (.agg #[.slice Az13 Nz13 Cz13]), (.int .i64 0), (.int .i64 (reE x1 x2)), (.bool false), ud, ud, ud, ud, ud, ud, (.agg #[.slice Az13 Nz13 Cz13]), (.bool false), ud, ud, ud, (.int .i64 0), (.bool true), (.bool true), (.int .u64 (reV T1 x1 x2)), (.int .u64 T1), (.bool true), (.bool true), (.bool true), (.int .u64 T1), (.bool false), (.bool false), (.int .u64 (reV T1 x1 x2)), (.int .u64 T1), (.bool false), (.bool false), (.bool false), (.bool false), ud, ud, ud, ud, ud, ud, ud, (.bool false)], []⟩) (by kernel_rfl) ?_
                      exfalso
                      have kk := is_rate (t := T2) (w64 rt1).1 hx1 c4
                      clear BB
                      omega
                · skip
                  refine wg_eq (some 82) (.bool (decide ((reV T1 x1 x2 : Int) ≤ T1))) (.bool false) (congrArg Value.bool (decide_eq_false c17)) (by kernel_rfl) rfl (by kernel_rfl) ?_
                  refine wl_take (some 83) (.bool false) rfl rfl (by kernel_rfl) ?_
                  refine wl_take (some 84) (.bool false) rfl rfl (by kernel_rfl) ?_
                  refine wg_not (some 85) (by kernel_rfl) rfl ?_
                  refine wg_not (some 86) (by kernel_rfl) rfl ?_
                  refine wg_not (some 87) (by kernel_rfl) rfl ?_
                  refine wg_not (some 88) (by kernel_rfl) rfl ?_
                  refine wg_not (some 89) (by kernel_rfl) rfl ?_
                  refine wg_not (some 90) (by kernel_rfl) rfl ?_
                  refine wg_not (some 91) (by kernel_rfl) rfl ?_
                  refine wl_take (some 92) (.bool false) rfl rfl (by kernel_rfl) ?_
                  refine wl_frame (a' := ⟨#[(.int .u64 T1), (.agg #[.slice a1 len1 cap1]), (.agg #[.slice a2 len2 cap2]), (.int .u64 T2), ud, (.pointer (some ⟨g1v, 0, none⟩)), (.pointer (some ⟨g2v, 0, none⟩)), ud, (.bool false), (.pointer (some ⟨g9v, 0, none⟩)), (.int .i64 (isE T1 x1 T2)), (.int .u64 (reV T1 x1 x2)), (.int .i64 (reE x1 x2)), (.pointer (some ⟨g14v, 0, none⟩)), (.int .i64 0), (.bool true), (.bool false), (.int .u64 y0), (.int .u64 T1), (.int .u64 y3), (.int .u64 T2), (.agg #[.slice a1 len1 cap1]), (.agg #[.slice a2 len2 cap2]), (.slice (some ⟨g4v, 0, none⟩) 2 2), (.bool true), (.bool false), (.bool false), (.agg #[.slice a1 len1 cap1]), (.bool false), (.bool false), (.tuple #[.agg #[.slice Az5 Nz5 Cz5], .int .i64 (isE T1 x1 T2)]), (.int .u64 T1), (.agg #[.slice a1 len1 cap1]), (.int .u64 T2), (.tuple #[.agg #[.slice Az5 Nz5 Cz5], .int .i64 (isE T1 x1 T2)]), (.agg #[.slice Az5 Nz5 Cz5]), (.int .i64 (isE T1 x1 T2)), (.int .i64 (isE T1 x1 T2)), (.bool true), (.bool true), (.int .u64 T1), (.agg #[.slice a1 len1 cap1]), (.int .u64 T1), (.int .u64 T2), (.int .u64 (T1 + T2)), (.agg #[.slice a1 len1 cap1]), (.agg #[.slice Az5 Nz5 Cz5]), (.agg #[.slice Az8 Nz8 Cz8]), (.bool true), (.bool false), (.bool false), (.tuple #[.int .u64 (reV T1 x1 x2), .int .i64 (reE x1 x2)]), (.int .u64 T1), (.agg #[.slice a1 len1 cap1]), (.agg #[.slice a2 len2 cap2]), (.tuple #[.int .u64 (reV T1 x1 x2), .int .i64 (reE x1 x2)]), (.int .u64 (reV T1 x1 x2)), (.int .i64 (reE x1 x2)), (.tuple #[.agg #[.slice Az13 Nz13 Cz13], .int .i64 0]), (.agg #[.slice a1 len1 cap1]), (.agg #[.slice a2 len2 cap2]), (.tuple #[.agg #[.slice Az13 Nz13 Cz13], .int .i64 0]), (.agg #[.slice Az13 Nz13 Cz13]), (.int .i64 0), (.int .i64 (reE x1 x2)), (.bool false), ud, ud, ud, ud, ud, ud, (.agg #[.slice Az13 Nz13 Cz13]), (.bool false), ud, ud, ud, (.int .i64 0), (.bool true), (.bool true), (.int .u64 (reV T1 x1 x2)), (.int .u64 T1), (.bool false), (.bool false), (.bool false), ud, ud, ud, ud, ud, ud, ud, (.bool false), ud, ud, ud, ud, ud, ud, ud, ud, ud], []⟩) (by kernel_rfl) ?_
                  refine wl_take (some 93) (.bool false) rfl rfl (by kernel_rfl) ?_
                  refine wg_not (some 94) (by kernel_rfl) rfl ?_
                  refine wg_not (some 95) (by kernel_rfl) rfl ?_
                  refine wg_not (some 96) (by kernel_rfl) rfl ?_
                  refine wg_not (some 97) (by kernel_rfl) rfl ?_
                  refine wg_not (some 98) (by kernel_rfl) rfl ?_
                  refine wg_not (some 99) (by kernel_rfl) rfl ?_
                  refine wg_not (some 100) (by kernel_rfl) rfl ?_
                  refine wl_take (some 101) (.bool false) rfl rfl (by kernel_rfl) ?_
                  refine wl_take (some 8) (.bool false) rfl rfl (by kernel_rfl) ?_
                  refine wl_nil ?_
                  refine wp_then ?_
                  refine wp_frame (a' := ⟨#[(.int .u64 T1), (.agg #[.slice a1 len1 cap1]), (.agg #[.slice a2 len2 cap2]), (.int .u64 T2), ud, (.pointer (some ⟨g1v, 0, none⟩)), (.pointer (some ⟨g2v, 0, none⟩)), ud, (.bool false), (.pointer (some ⟨g9v, 0, none⟩)), (.int .i64 (isE T1 x1 T2)), (.int .u64 (reV T1 x1 x2)), (.int .i64 (reE x1 x2)), (.pointer (some ⟨g14v, 0, none⟩)), (.int .i64 0), (.bool true), (.bool false), (.int .u64 y0), (.int .u64 T1), (.int .u64 y3), (.int .u64 T2), (.agg #[.slice a1 len1 cap1]), (.agg #[.slice a2 len2 cap2]), (.slice (some ⟨g4v, 0, none⟩) 2 2), (.bool true), (.bool false), (.bool false), (.agg #[.slice a1 len1 cap1]), (.bool false), (.bool false), (.tuple #[.agg #[.slice Az5 Nz5 Cz5], .int .i64 (isE T1 x1 T2)]), (.int .u64 T1), (.agg #[.slice a1 len1 cap1]), (.int .u64 T2), (.tuple #[.agg #[.slice Az5 Nz5 Cz5], .int .i64 (isE T1 x1 T2)]), (.agg #[.slice Az5 Nz5 Cz5]), (.int .i64 (isE T1 x1 T2)), (.int .i64 (isE T1 x1 T2)), (.bool true), (.bool true), (.int .u64 T1), (.agg #[.slice a1 len1 cap1]), (.int .u64 T1), (.int .u64 T2), (.int .u64 (T1 + T2)), (.agg #[.slice a1 len1 cap1]), (.agg #[.slice Az5 Nz5 Cz5]), (.agg #[.slice Az8 Nz8 Cz8]), (.bool true), (.bool false), (.bool false), (.tuple #[.int .u64 (reV T1 x1 x2), .int .i64 (reE x1 x2)]), (.int .u64 T1), (.agg #[.slice a1 len1 cap1]), (.agg #[.slice a2 len2 cap2]), (.tuple #[.int .u64 (reV T1 x1 x2), .int .i64 (reE x1 x2)]), (.int .u64 (reV T1 x1 x2)), (.int .i64 (reE x1 x2)), (.tuple #[.agg #[.slice Az13 Nz13 Cz13], .int .i64 0]), (.agg #[.slice a1 len1 cap1]), (.agg #[.slice a2 len2 cap2]), (.tuple #[.agg #[.slice Az13 Nz13 Cz13], .int .i64 0]), (.agg #[.slice Az13 Nz13 Cz13]), (.int .i64 0), (.int .i64 (reE x1 x2)), (.bool false), ud, ud, ud, ud, ud, ud, (.agg #[.slice Az13 Nz13 Cz13]), (.bool false), ud, ud, ud, (.int .i64 0), (.bool true), (.bool true), (.int .u64 (reV T1 x1 x2)), (.int .u64 T1), (.bool false), (.bool false), (.bool false), ud, ud, ud, ud, ud, ud, ud, (.bool false), (.bool false), ud, ud, ud, ud, ud, ud, ud, (.bool false)], []⟩) (by kernel_rfl) ?_
                  exfalso
                  have kk := is_rate (t := T2) (w64 rt1).1 hx1 c4
                  clear BB
                  omega
            · skip
              refine wl_eq (some 65) (.bool ((reE x1 x2 : Int) != 0)) (.bool true) (congrArg Value.bool (bne_iff_ne.2 c14)) rfl rfl (by kernel_rfl) ?_
              refine wl_nil ?_
              refine wp_then ?_
              refine wp_cond_true (by kernel_rfl) ?_
              refine wp_seq ?_
              refine wl_start ?_
              refine wl_take (some 66) (.int .i64 0) rfl rfl (by kernel_rfl) ?_
              refine wl_take (some 67) (.bool false) rfl rfl (by kernel_rfl) ?_
              refine wl_take (some 68) (.bool false) rfl rfl (by kernel_rfl) ?_
              refine wg_not (some 69) (by kernel_rfl) rfl ?_
              refine wg_not (some 70) (by kernel_rfl) rfl ?_
              refine wl_take (some 71) (.bool false) rfl rfl (by kernel_rfl) ?_
              refine wl_take (some 8) (.bool false) rfl rfl (by kernel_rfl) ?_
              refine wl_nil ?_
              refine wp_then ?_
              exfalso
              have kk := is_rate (t := T2) (w64 rt1).1 hx1 c4
              clear BB
              omega
          · skip
            refine wl_call (some 61) 15 #[.agg #[.slice a1 len1 cap1], .agg #[.slice a2 len2 cap2]] rfl rfl (by kernel_rfl) (dSubLt N1 N2 (by omega) (by omega) (Int.not_le.1 c12)) ?_
            rintro e1 v21w ⟨rfl, B⟩
            refine ⟨_, rfl, ?_⟩
            replace N1 := N1.keep B
            replace N2 := N2.keep B
            replace X5 := X5.keep B
            replace X6 := X6.keep B
            replace L4 := L4.keep B
            replace Oz5 := Oz5.keep B
            replace X9 := X9.keep B
            replace Oz8 := Oz8.keep B
            replace BB := joinB BB B
            clear B
            refine wl_take (some 58) (.tuple #[.agg #[.slice none 0 0], .int .i64 20]) rfl rfl (by kernel_rfl) ?_
            refine wl_take (some 62) (.agg #[.slice none 0 0]) rfl rfl (by kernel_rfl) ?_
            refine wl_take (some 63) (.int .i64 20) rfl rfl (by kernel_rfl) ?_
            have bs21 := BB.size
            refine wl_new 13 62 26 [.slice none 0 0] [.slice none 0 0] rfl rfl rfl rfl rfl rfl allocx26 (fun _ => by kernel_rfl) (fun _ => by kernel_rfl) (by kernel_rfl) rfl (by kernel_rfl) ?_
            intro v22w g22v X13 hg22v B
            replace N1 := N1.keep B
            replace N2 := N2.keep B
            replace X5 := X5.keep B
            replace X6 := X6.keep B
            replace L4 := L4.keep B
            replace Oz5 := Oz5.keep B
            replace X9 := X9.keep B
            replace Oz8 := Oz8.keep B
            replace BB := joinB BB B
            clear B
            refine wl_take (some 14) (.int .i64 20) rfl rfl (by kernel_rfl) ?_
            refine wl_nil ?_
            refine wp_then ?_
            refine wp_frame (a' := ⟨#[(.int .u64 T1), (.agg #[.slice a1 len1 cap1]), (.agg #[.slice a2 len2 cap2]), (.int .u64 T2), ud, (.pointer (some ⟨g1v, 0, none⟩)), (.pointer (some ⟨g2v, 0, none⟩)), ud, (.bool false), (.pointer (some ⟨g9v, 0, none⟩)), (.int .i64 (isE T1 x1 T2)), (.int .u64 (reV T1 x1 x2)), (.int .i64 (reE x1 x2)), (.pointer (some ⟨g22v, 0, none⟩)), (.int .i64 20), (.bool true), (.bool false), (.int .u64 y0), (.int .u64 T1), (.int .u64 y3), (.int .u64 T2), (.agg #[.slice a1 len1 cap1]), (.agg #[.slice a2 len2 cap2]), (.slice (some ⟨g4v, 0, none⟩) 2 2), (.bool true), (.bool false), (.bool false), (.agg #[.slice a1 len1 cap1]), (.bool false), (.bool false), (.tuple #[.agg #[.slice Az5 Nz5 Cz5], .int .i64 (isE T1 x1 T2)]), (.int .u64 T1), (.agg #[.slice a1 len1 cap1]), (.int .u64 T2), (.tuple #[.agg #[.slice Az5 Nz5 Cz5], .int .i64 (isE T1 x1 T2)]), (.agg #[.slice Az5 Nz5 Cz5]), (.int .i64 (isE T1 x1 T2)), (.int .i64 (isE T1 x1 T2)), (.bool true), (.bool true), (.int .u64 T1), (.agg #[.slice a1 len1 cap1]), (.int .u64 T1), (.int .u64 T2), (.int .u64 (T1 + T2)), (.agg #[.slice a1 len1 cap1]), (.agg #[.slice Az5 Nz5 Cz5]), (.agg #[.slice Az8 Nz8 Cz8]), (.bool true), (.bool false), (.bool false), (.tuple #[.int .u64 (reV T1 x1 x2), .int .i64 (reE x1 x2)]), (.int .u64 T1), (.agg #[.slice a1 len1 cap1]), (.agg #[.slice a2 len2 cap2]), (.tuple #[.int .u64 (reV T1 x1 x2), .int .i64 (reE x1 x2)]), (.int .u64 (reV T1 x1 x2)), (.int .i64 (reE x1 x2)), (.tuple #[.agg #[.slice none 0 0], .int .i64 20]), (.agg #[.slice a1 len1 cap1]), (.agg #[.slice a2 len2 cap2]), (.tuple #[.agg #[.slice none 0 0], .int .i64 20]), (.agg #[.slice none 0 0]), (.int .i64 20), ud, ud, ud, ud, ud, ud, ud, ud, ud, ud, ud, ud, ud, ud, ud, ud, ud, ud, ud, ud, ud, ud, ud, ud, ud, ud, ud, ud, ud, ud, ud, ud, ud, ud, ud, ud, ud, ud], []⟩) (by kernel_rfl) ?_
            refine wp_seq ?_
            refine wp_seq ?_
            refine wl_start ?_
            refine wl_take (some 64) (.int .i64 (reE x1 x2)) rfl rfl (by kernel_rfl) ?_
            by_cases c24 : reE x1 x2 = 0
            · skip
              refine wl_eq (some 65) (.bool ((reE x1 x2 : Int) != 0)) (.bool false) (congrArg Value.bool (bne_eq_false_iff_eq.2 c24)) rfl rfl (by kernel_rfl) ?_
              refine wl_nil ?_
              refine wp_then ?_
              refine wp_cond_false (by kernel_rfl) ?_
              refine wp_skip_then ?_
              refine wp_seq ?_
              refine wp_seq ?_
              refine wl_start ?_
              refine wl_take (some 72) (.agg #[.slice none 0 0]) rfl rfl (run_lp 13 (by kernel_rfl) (by kernel_rfl) (ldx26 (X13.cell (i := 0) rfl))) ?_
              refine wl_call (some 73) 10 #[.agg #[.slice none 0 0]] rfl rfl (by kernel_rfl) (zeroD (natO_nil _).a (by decide) true rfl) ?_
              rintro e1 v23w ⟨rfl, B⟩
              refine ⟨_, rfl, ?_⟩
              replace N1 := N1.keep B
              replace N2 := N2.keep B
              replace X5 := X5.keep B
              replace X6 := X6.keep B
              replace L4 := L4.keep B
              replace Oz5 := Oz5.keep B
              replace X9 := X9.keep B
              replace Oz8 := Oz8.keep B
              replace X13 := X13.keep B
              replace BB := joinB BB B
              clear B
              refine wl_nil ?_
              refine wp_then ?_
              refine wp_cond_true (by kernel_rfl) ?_
              refine wp_seq ?_
              refine wl_start ?_
              refine wl_take (some 74) (.int .u64 (reV T1 x1 x2)) rfl rfl (by kernel_rfl) ?_
              refine wl_take (some 75) (.int .u64 T1) rfl rfl (by kernel_rfl) ?_
              by_cases c25 : reV T1 x1 x2 = T1
              · skip
                refine wl_eq (some 76) (.bool ((reV T1 x1 x2 : Int) == T1)) (.bool true) (congrArg Value.bool (beq_iff_eq.2 c25)) rfl rfl (by kernel_rfl) ?_
                refine wl_take (some 8) (.bool true) rfl rfl (by kernel_rfl) ?_
                refine wl_nil ?_
                refine wp_then ?_
                refine wp_ret ?_
                repeat (first | refine ret_then ?_ | refine ret_block ?_)
                refine bodyPost_ret (results_tmp rfl _ _ _) rfl ?_
                exact ⟨by kernel_rfl, BB⟩
              · skip
                refine wl_eq (some 76) (.bool ((reV T1 x1 x2 : Int) == T1)) (.bool false) (congrArg Value.bool (beq_eq_false_iff_ne.2 c25)) rfl rfl (by kernel_rfl) ?_
                refine wl_take (some 8) (.bool false) rfl rfl (by kernel_rfl) ?_
                refine wl_nil ?_
                refine wp_then ?_
                exfalso
                have kk := is_rate (t := T2) (w64 rt1).1 hx1 c4
                clear BB
                omega
            · skip
              refine wl_eq (some 65) (.bool ((reE x1 x2 : Int) != 0)) (.bool true) (congrArg Value.bool (bne_iff_ne.2 c24)) rfl rfl (by kernel_rfl) ?_
              refine wl_nil ?_
              refine wp_then ?_
              refine wp_cond_true (by kernel_rfl) ?_
              refine wp_seq ?_
              refine wl_start ?_
              refine wl_take (some 66) (.int .i64 20) rfl rfl (by kernel_rfl) ?_
              refine wl_take (some 67) (.bool true) rfl rfl (by kernel_rfl) ?_
              refine wl_take (some 68) (.bool true) rfl rfl (by kernel_rfl) ?_
              refine wg_take (some 69) (.int .i64 (reE x1 x2)) (by kernel_rfl) rfl (by kernel_rfl) ?_
              by_cases c26 : reE x1 x2 = 102
              · skip
                refine wg_eq (some 70) (.bool ((reE x1 x2 : Int) == 102)) (.bool true) (congrArg Value.bool (beq_iff_eq.2 c26)) (by kernel_rfl) rfl (by kernel_rfl) ?_
                refine wl_take (some 71) (.bool true) rfl rfl (by kernel_rfl) ?_
                refine wl_take (some 8) (.bool true) rfl rfl (by kernel_rfl) ?_
                refine wl_nil ?_
                refine wp_then ?_
                refine wp_ret ?_
                repeat (first | refine ret_then ?_ | refine ret_block ?_)
                refine bodyPost_ret (results_tmp rfl _ _ _) rfl ?_
                exact ⟨by kernel_rfl, BB⟩
              · skip
                refine wg_eq (some 70) (.bool ((reE x1 x2 : Int) == 102)) (.bool false) (congrArg Value.bool (beq_eq_false_iff_ne.2 c26)) (by kernel_rfl) rfl (by kernel_rfl) ?_
                refine wl_take (some 71) (.bool false) rfl rfl (by kernel_rfl) ?_
                refine wl_take (some 8) (.bool false) rfl rfl (by kernel_rfl) ?_
                refine wl_nil ?_
                refine wp_then ?_
                exfalso
                have kk := is_rate (t := T2) (w64 rt1).1 hx1 c4
                clear BB
                omega
        · skip
          refine rg_call 11 (some 48) 12 #[.int .u64 T1, .agg #[.slice a1 len1 cap1], .int .u64 (T1 + T2), .agg #[.slice Az8 Nz8 Cz8]] (by kernel_rfl) (by kernel_rfl) (rate_any (w64 rt1) N1 (by omega) rg7 Oz8.a (by omega) false (decide_eq_false c9)) ?_
          rintro e1 v24w ⟨rfl, B⟩
          refine ⟨_, rfl, joinB hS B, ?_⟩
          replace hS := joinB hS B
          replace N1 := N1.keep B
          replace N2 := N2.keep B
          replace X5 := X5.keep B
          replace X6 := X6.keep B
          replace L4 := L4.keep B
          replace Oz5 := Oz5.keep B
          replace X9 := X9.keep B
          replace Oz8 := Oz8.keep B
          replace BB := joinB BB B
          clear B
          refine rg_take 12 (some 49) (.bool true) (by kernel_rfl) (fun _ _ => by kernel_rfl) (fun _ _ _ h => h) hS ?_
          refine rg_take 13 (some 50) (.bool true) (by kernel_rfl) (fun _ _ => by kernel_rfl) (fun _ _ _ h => h) hS ?_
          refine rg_done (by kernel_rfl) ?_
          clear hS UX5 UX6 UL4 UX9
          refine wp_then ?_
          refine wp_frame (a' := ⟨#[(.int .u64 T1), (.agg #[.slice a1 len1 cap1]), (.agg #[.slice a2 len2 cap2]), (.int .u64 T2), ud, (.pointer (some ⟨g1v, 0, none⟩)), (.pointer (some ⟨g2v, 0, none⟩)), ud, (.bool false), (.pointer (some ⟨g9v, 0, none⟩)), (.int .i64 (isE T1 x1 T2)), ud, ud, ud, ud, (.bool true), (.bool false), (.int .u64 y0), (.int .u64 T1), (.int .u64 y3), (.int .u64 T2), (.agg #[.slice a1 len1 cap1]), (.agg #[.slice a2 len2 cap2]), (.slice (some ⟨g4v, 0, none⟩) 2 2), (.bool true), (.bool false), (.bool false), (.agg #[.slice a1 len1 cap1]), (.bool false), (.bool false), (.tuple #[.agg #[.slice Az5 Nz5 Cz5], .int .i64 (isE T1 x1 T2)]), (.int .u64 T1), (.agg #[.slice a1 len1 cap1]), (.int .u64 T2), (.tuple #[.agg #[.slice Az5 Nz5 Cz5], .int .i64 (isE T1 x1 T2)]), (.agg #[.slice Az5 Nz5 Cz5]), (.int .i64 (isE T1 x1 T2)), (.int .i64 (isE T1 x1 T2)), (.bool true), (.bool true), (.int .u64 T1), (.agg #[.slice a1 len1 cap1]), (.int .u64 T1), (.int .u64 T2), (.int .u64 (T1 + T2)), (.agg #[.slice a1 len1 cap1]), (.agg #[.slice Az5 Nz5 Cz5]), (.agg #[.slice Az8 Nz8 Cz8]), (.bool false), (.bool true), (.bool true), ud, ud, ud, ud, ud, ud, ud, ud, ud, ud, ud, ud, ud, ud, ud, ud, ud, ud, ud, ud, ud, ud, ud, ud, ud, ud, ud, ud, ud, ud, ud, ud, ud, ud, ud, ud, ud, ud, ud, ud, ud, ud, ud, ud, ud, ud, ud, ud, ud, ud, ud], []⟩) (by kernel_rfl) ?_
          refine wp_cond_true (by kernel_rfl) ?_
          refine wp_seq ?_
          refine wl_start ?_
          refine wl_take (some 8) (.bool false) rfl rfl (by kernel_rfl) ?_
          refine wl_nil ?_
          refine wp_then ?_
          exfalso
          have kk := is_rate (t := T2) (w64 rt1).1 hx1 c4
          clear BB
          omega
      · skip
        refine rg_eq 1 (some 38) (.bool ((isE T1 x1 T2 : Int) == 0)) (.bool false) (congrArg Value.bool (beq_eq_false_iff_ne.2 c6)) (by kernel_rfl) (fun _ _ => by kernel_rfl) (fun _ _ _ h => h) hS ?_
        refine rg_take 2 (some 39) (.bool false) (by kernel_rfl) (fun _ _ => by kernel_rfl) (fun _ _ _ h => h) hS ?_
        refine rg_skip 3 (some 40) (by kernel_rfl) (fun _ _ _ h => h) hS ?_
        refine rg_skip 4 (some 41) (by kernel_rfl) (fun _ _ _ h => h) hS ?_
        refine rg_skip 5 (some 42) (by kernel_rfl) (fun _ _ _ h => h) hS ?_
        refine rg_skip 6 (some 43) (by kernel_rfl) (fun _ _ _ h => h) hS ?_
        refine rg_skip 7 (some 44) (by kernel_rfl) (fun _ _ _ h => h) hS ?_
        refine rg_skip 8 (some 45) (by kernel_rfl) (fun _ _ _ h => h) hS ?_
        refine rg_skip 9 (some 46) (by kernel_rfl) (fun _ _ _ h => h) hS ?_
        refine rg_skip 10 (some 47) (by kernel_rfl) (fun _ _ _ h => h) hS ?_
        refine rg_skip 11 (some 48) (by kernel_rfl) (fun _ _ _ h => h) hS ?_
        refine rg_skip 12 (some 49) (by kernel_rfl) (fun _ _ _ h => h) hS ?_
        refine rg_take 13 (some 50) (.bool false) (by kernel_rfl) (fun _ _ => by kernel_rfl) (fun _ _ _ h => h) hS ?_
        refine rg_done (by kernel_rfl) ?_
        clear hS UX5 UX6 UL4 UX9
        refine wp_then ?_
        refine wp_frame (a' := ⟨#[(.int .u64 T1), (.agg #[.slice a1 len1 cap1]), (.agg #[.slice a2 len2 cap2]), (.int .u64 T2), ud, (.pointer (some ⟨g1v, 0, none⟩)), (.pointer (some ⟨g2v, 0, none⟩)), ud, (.bool false), (.pointer (some ⟨g9v, 0, none⟩)), (.int .i64 (isE T1 x1 T2)), ud, ud, ud, ud, (.bool true), (.bool false), (.int .u64 y0), (.int .u64 T1), (.int .u64 y3), (.int .u64 T2), (.agg #[.slice a1 len1 cap1]), (.agg #[.slice a2 len2 cap2]), (.slice (some ⟨g4v, 0, none⟩) 2 2), (.bool true), (.bool false), (.bool false), (.agg #[.slice a1 len1 cap1]), (.bool false), (.bool false), (.tuple #[.agg #[.slice Az5 Nz5 Cz5], .int .i64 (isE T1 x1 T2)]), (.int .u64 T1), (.agg #[.slice a1 len1 cap1]), (.int .u64 T2), (.tuple #[.agg #[.slice Az5 Nz5 Cz5], .int .i64 (isE T1 x1 T2)]), (.agg #[.slice Az5 Nz5 Cz5]), (.int .i64 (isE T1 x1 T2)), (.int .i64 (isE T1 x1 T2)), (.bool false), (.bool false), ud, ud, ud, ud, ud, ud, ud, ud, ud, ud, (.bool false), ud, ud, ud, ud, ud, ud, ud, ud, ud, ud, ud, ud, ud, ud, ud, ud, ud, ud, ud, ud, ud, ud, ud, ud, ud, ud, ud, ud, ud, ud, ud, ud, ud, ud, ud, ud, ud, ud, ud, ud, ud, ud, ud, ud, ud, ud, ud, ud, ud, ud, ud], []⟩) (by kernel_rfl) ?_
        refine wp_cond_false (by kernel_rfl) ?_
        refine wp_skip_then ?_
        refine wp_seq ?_
        refine wl_start ?_
        refine wl_take (some 52) (.int .u64 T1) rfl rfl (by kernel_rfl) ?_
        refine wl_take (some 53) (.agg #[.slice a1 len1 cap1]) rfl rfl (run_lp 5 (by kernel_rfl) (by kernel_rfl) (ldx26 (X5.cell (i := 0) rfl))) ?_
        refine wl_take (some 54) (.agg #[.slice a2 len2 cap2]) rfl rfl (run_lp 6 (by kernel_rfl) (by kernel_rfl) (ldx26 (X6.cell (i := 0) rfl))) ?_
        refine wl_call (some 55) 14 #[.int .u64 T1, .agg #[.slice a1 len1 cap1], .agg #[.slice a2 len2 cap2]] rfl rfl (by kernel_rfl) (sRedeem (w64 rt1) N1 (by omega) N2 (by omega)) ?_
        rintro e1 v25w ⟨rfl, B⟩
        refine ⟨_, rfl, ?_⟩
        replace N1 := N1.keep B
        replace N2 := N2.keep B
        replace X5 := X5.keep B
        replace X6 := X6.keep B
        replace L4 := L4.keep B
        replace Oz5 := Oz5.keep B
        replace X9 := X9.keep B
        replace BB := joinB BB B
        clear B
        have rg27 := re_rng (S := x1) (w64 rt1) N2.nonneg
        have kf28 := re_facts (T := T1) (S := x1) (x := x2) (w64 rt1).1 N2.nonneg
        refine wl_take (some 51) (.tuple #[.int .u64 (reV T1 x1 x2), .int .i64 (reE x1 x2)]) rfl rfl (by kernel_rfl) ?_
        refine wl_take (some 56) (.int .u64 (reV T1 x1 x2)) rfl rfl (by kernel_rfl) ?_
        refine wl_take (some 57) (.int .i64 (reE x1 x2)) rfl rfl (by kernel_rfl) ?_
        refine wl_take (some 11) (.int .u64 (reV T1 x1 x2)) rfl rfl (by kernel_rfl) ?_
        refine wl_take (some 12) (.int .i64 (reE x1 x2)) rfl rfl (by kernel_rfl) ?_
        refine wl_nil ?_
        refine wp_then ?_
        refine wp_seq ?_
        refine wl_start ?_
        refine wl_take (some 59) (.agg #[.slice a1 len1 cap1]) rfl rfl (run_lp 5 (by kernel_rfl) (by kernel_rfl) (ldx26 (X5.cell (i := 0) rfl))) ?_
        refine wl_take (some 60) (.agg #[.slice a2 len2 cap2]) rfl rfl (run_lp 6 (by kernel_rfl) (by kernel_rfl) (ldx26 (X6.cell (i := 0) rfl))) ?_
        by_cases c29 : x2 ≤ x1
        · skip
          refine wl_call (some 61) 15 #[.agg #[.slice a1 len1 cap1], .agg #[.slice a2 len2 cap2]] rfl rfl (by kernel_rfl) (dSub N1 N2 (by omega) (by omega) c29) ?_
          rintro e1 v26w ⟨Az30, Nz30, Cz30, rfl, Oz30, Kz30, B⟩
          refine ⟨_, rfl, ?_⟩
          replace N1 := N1.keep B
          replace N2 := N2.keep B
          replace X5 := X5.keep B
          replace X6 := X6.keep B
          replace L4 := L4.keep B
          replace Oz5 := Oz5.keep B
          replace X9 := X9.keep B
          replace BB := joinB BB B
          clear B
          refine wl_take (some 58) (.tuple #[.agg #[.slice Az30 Nz30 Cz30], .int .i64 0]) rfl rfl (by kernel_rfl) ?_
          refine wl_take (some 62) (.agg #[.slice Az30 Nz30 Cz30]) rfl rfl (by kernel_rfl) ?_
          refine wl_take (some 63) (.int .i64 0) rfl rfl (by kernel_rfl) ?_
          have bs26 := BB.size
          refine wl_new 13 62 26 [.slice none 0 0] [.slice Az30 Nz30 Cz30] rfl rfl rfl rfl rfl rfl allocx26 (fun _ => by kernel_rfl) (fun _ => by kernel_rfl) (by kernel_rfl) rfl (by kernel_rfl) ?_
          intro v27w g27v X13 hg27v B
          replace N1 := N1.keep B
          replace N2 := N2.keep B
          replace X5 := X5.keep B
          replace X6 := X6.keep B
          replace L4 := L4.keep B
          replace Oz5 := Oz5.keep B
          replace X9 := X9.keep B
          replace Oz30 := Oz30.keep B
          replace BB := joinB BB B
          clear B
          refine wl_take (some 14) (.int .i64 0) rfl rfl (by kernel_rfl) ?_
          refine wl_nil ?_
          refine wp_then ?_
          refine wp_frame (a' := ⟨#[(.int .u64 T1), (.agg #[.slice a1 len1 cap1]), (.agg #[.slice a2 len2 cap2]), (.int .u64 T2), ud, (.pointer (some ⟨g1v, 0, none⟩)), (.pointer (some ⟨g2v, 0, none⟩)), ud, (.bool false), (.pointer (some ⟨g9v, 0, none⟩)), (.int .i64 (isE T1 x1 T2)), (.int .u64 (reV T1 x1 x2)), (.int .i64 (reE x1 x2)), (.pointer (some ⟨g27v, 0, none⟩)), (.int .i64 0), (.bool true), (.bool false), (.int .u64 y0), (.int .u64 T1), (.int .u64 y3), (.int .u64 T2), (.agg #[.slice a1 len1 cap1]), (.agg #[.slice a2 len2 cap2]), (.slice (some ⟨g4v, 0, none⟩) 2 2), (.bool true), (.bool false), (.bool false), (.agg #[.slice a1 len1 cap1]), (.bool false), (.bool false), (.tuple #[.agg #[.slice Az5 Nz5 Cz5], .int .i64 (isE T1 x1 T2)]), (.int .u64 T1), (.agg #[.slice a1 len1 cap1]), (.int .u64 T2), (.tuple #[.agg #[.slice Az5 Nz5 Cz5], .int .i64 (isE T1 x1 T2)]), (.agg #[.slice Az5 Nz5 Cz5]), (.int .i64 (isE T1 x1 T2)), (.int .i64 (isE T1 x1 T2)), (.bool false), (.bool false), ud, ud, ud, ud, ud, ud, ud, ud, ud, ud, (.bool false), (.tuple #[.int .u64 (reV T1 x1 x2), .int .i64 (reE x1 x2)]), (.int .u64 T1), (.agg #[.slice a1 len1 cap1]), (.agg #[.slice a2 len2 cap2]), (.tuple #[.int .u64 (reV T1 x1 x2), .int .i64 (reE x1 x2)]), (.int .u64 (reV T1 x1 x2)), (.int .i64 (reE x1 x2)), (.tuple #[.agg #[.slice Az30 Nz30 Cz30], .int .i64 0]), (.agg #[.slice a1 len1 cap1]), (.agg #[.slice a2 len2 cap2]), (.tuple #[.agg #[.slice Az30 Nz30 Cz30], .int .i64 0]), (.agg #[.slice Az30 Nz30 Cz30]), (.int .i64 0), ud, ud, ud, ud, ud, ud, ud, ud, ud, ud, ud, ud, ud, ud, ud, ud, ud, ud, ud, ud, ud, ud, ud, ud, ud, ud, ud, ud, ud, ud, ud, ud, ud, ud, ud, ud, ud, ud], []⟩) (by kernel_rfl) ?_
          refine wp_seq ?_
          refine wp_seq ?_
          refine wl_start ?_
          refine wl_take (some 64) (.int .i64 (reE x1 x2)) rfl rfl (by kernel_rfl) ?_
          by_cases c31 : reE x1 x2 = 0
          · skip
            refine wl_eq (some 65) (.bool ((reE x1 x2 : Int) != 0)) (.bool false) (congrArg Value.bool (bne_eq_false_iff_eq.2 c31)) rfl rfl (by kernel_rfl) ?_
            refine wl_nil ?_
            refine wp_then ?_
            refine wp_cond_false (by kernel_rfl) ?_
            refine wp_skip_then ?_
            refine wp_seq ?_
            refine wp_seq ?_
            refine wl_start ?_
            refine wl_take (some 72) (.agg #[.slice Az30 Nz30 Cz30]) rfl rfl (run_lp 13 (by kernel_rfl) (by kernel_rfl) (ldx26 (X13.cell (i := 0) rfl))) ?_
            by_cases c32 : (x1 - x2) = 0
            · skip
              refine wl_call (some 73) 10 #[.agg #[.slice Az30 Nz30 Cz30]] rfl rfl (by kernel_rfl) (zeroD Oz30.a (by omega) true (decide_eq_true c32)) ?_
              rintro e1 v28w ⟨rfl, B⟩
              refine ⟨_, rfl, ?_⟩
              replace N1 := N1.keep B
              replace N2 := N2.keep B
              replace X5 := X5.keep B
              replace X6 := X6.keep B
              replace L4 := L4.keep B
              replace Oz5 := Oz5.keep B
              replace X9 := X9.keep B
              replace Oz30 := Oz30.keep B
              replace X13 := X13.keep B
              replace BB := joinB BB B
              clear B
              refine wl_nil ?_
              refine wp_then ?_
              refine wp_cond_true (by kernel_rfl) ?_
              refine wp_seq ?_
              refine wl_start ?_
              refine wl_take (some 74) (.int .u64 (reV T1 x1 x2)) rfl rfl (by kernel_rfl) ?_
              refine wl_take (some 75) (.int .u64 T1) rfl rfl (by kernel_rfl) ?_
              by_cases c33 : reV T1 x1 x2 = T1
              · skip
                refine wl_eq (some 76) (.bool ((reV T1 x1 x2 : Int) == T1)) (.bool true) (congrArg Value.bool (beq_iff_eq.2 c33)) rfl rfl (by kernel_rfl) ?_
                refine wl_take (some 8) (.bool true) rfl rfl (by kernel_rfl) ?_
                refine wl_nil ?_
                refine wp_then ?_
                refine wp_ret ?_
                repeat (first | refine ret_then ?_ | refine ret_block ?_)
                refine bodyPost_ret (results_tmp rfl _ _ _) rfl ?_
                exact ⟨by kernel_rfl, BB⟩
              · skip
                refine wl_eq (some 76) (.bool ((reV T1 x1 x2 : Int) == T1)) (.bool false) (congrArg Value.bool (beq_eq_false_iff_ne.2 c33)) rfl rfl (by kernel_rfl) ?_
                refine wl_take (some 8) (.bool false) rfl rfl (by kernel_rfl) ?_
                refine wl_nil ?_
                refine wp_then ?_
                exfalso
                have kk := is_rate (t := T2) (w64 rt1).1 hx1 c4
                clear BB
                omega
            · skip
              refine wl_call (some 73) 10 #[.agg #[.slice Az30 Nz30 Cz30]] rfl rfl (by kernel_rfl) (zeroD Oz30.a (by omega) false (decide_eq_false c32)) ?_
              rintro e1 v29w ⟨rfl, B⟩
              refine ⟨_, rfl, ?_⟩
              replace N1 := N1.keep B
              replace N2 := N2.keep B
              replace X5 := X5.keep B
              replace X6 := X6.keep B
              replace L4 := L4.keep B
              replace Oz5 := Oz5.keep B
              replace X9 := X9.keep B
              replace Oz30 := Oz30.keep B
              replace X13 := X13.keep B
              replace BB := joinB BB B
              clear B
              refine wl_nil ?_
              refine wp_then ?_
              refine wp_cond_false (by kernel_rfl) ?_
              refine wp_skip_then ?_
              refine wp_seq ?_
              refine wl_start ?_
              refine wl_take (some 77) (.int .i64 0) rfl rfl (by kernel_rfl) ?_
              refine wl_take (some 78) (.bool true) rfl rfl (by kernel_rfl) ?_
              refine wl_take (some 79) (.bool true) rfl rfl (by kernel_rfl) ?_
              refine wg_take (some 80) (.int .u64 (reV T1 x1 x2)) (by kernel_rfl) rfl (by kernel_rfl) ?_
              refine wg_take (some 81) (.int .u64 T1) (by kernel_rfl) rfl (by kernel_rfl) ?_
              by_cases c34 : reV T1 x1 x2 ≤ T1
              · skip
                refine wg_eq (some 82) (.bool (decide ((reV T1 x1 x2 : Int) ≤ T1))) (.bool true) (congrArg Value.bool (decide_eq_true c34)) (by kernel_rfl) rfl (by kernel_rfl) ?_
                refine wl_take (some 83) (.bool true) rfl rfl (by kernel_rfl) ?_
                refine wl_take (some 84) (.bool true) rfl rfl (by kernel_rfl) ?_
                refine wg_take (some 85) (.int .u64 T1) (by kernel_rfl) rfl (by kernel_rfl) ?_
                by_cases c35 : T1 = 0
                · skip
                  refine wg_eq (some 86) (.bool ((T1 : Int) == 0)) (.bool true) (congrArg Value.bool (beq_iff_eq.2 c35)) (by kernel_rfl) rfl (by kernel_rfl) ?_
                  refine wg_take (some 87) (.bool true) (by kernel_rfl) rfl (by kernel_rfl) ?_
                  refine wg_not (some 88) (by kernel_rfl) rfl ?_
                  refine wg_not (some 89) (by kernel_rfl) rfl ?_
                  refine wg_not (some 90) (by kernel_rfl) rfl ?_
                  refine wg_take (some 91) (.bool true) (by kernel_rfl) rfl (by kernel_rfl) ?_
                  refine wl_take (some 92) (.bool true) rfl rfl (by kernel_rfl) ?_
                  refine wl_frame (a' := ⟨#[(.int .u64 T1), (.agg #[.slice a1 len1 cap1]), (.agg #[.slice a2 len2 cap2]), (.int .u64 T2), ud, (.pointer (some ⟨g1v, 0, none⟩)), (.pointer (some ⟨g2v, 0, none⟩)), ud, (.bool false), (.pointer (some ⟨g9v, 0, none⟩)), (.int .i64 (isE T1 x1 T2)), (.int .u64 (reV T1 x1 x2)), (.int .i64 (reE x1 x2)), (.pointer (some ⟨g27v, 0, none⟩)), (.int .i64 0), (.bool true), (.bool false), (.int .u64 y0), (.int .u64 T1), (.int .u64 y3), (.int .u64 T2), (.agg #[.slice a1 len1 cap1]), (.agg #[.slice a2 len2 cap2]), (.slice (some ⟨g4v, 0, none⟩) 2 2), (.bool true), (.bool false), (.bool false), (.agg #[.slice a1 len1 cap1]), (.bool false), (.bool false), (.tuple #[.agg #[.slice Az5 Nz5 Cz5], .int .i64 (isE T1 x1 T2)]), (.int .u64 T1), (.agg #[.slice a1 len1 cap1]), (.int .u64 T2), (.tuple #[.agg #[.slice Az5 Nz5 Cz5], .int .i64 (isE T1 x1 T2)]), (.agg #[.slice Az5 Nz5 Cz5]), (.int .i64 (isE T1 x1 T2)), (.int .i64 (isE T1 x1 T2)), (.bool false), (.bool false), ud, ud, ud, ud, ud, ud, ud, ud, ud, ud, (.bool false), (.tuple #[.int .u64 (reV T1 x1 x2), .int .i64 (reE x1 x2)]), (.int .u64 T1), (.agg #[.slice a1 len1 cap1]), (.agg #[.slice a2 len2 cap2]), (.tuple #[.int .u64 (reV T1 x1 x2), .int .i64 (reE x1 x2)]), (.int .u64 (reV T1 x1 x2)), (.int .i64 (reE x1 x2)), (.tuple #[.agg #[.slice Az30 Nz30 Cz30], .int .i64 0]), (.agg #[.slice a1 len1 cap1]), (.agg #[.slice a2 len2 cap2]), (.tuple #[.agg #[.slice Az30 Nz30 Cz30], .int .i64 0]), (.agg #[.slice Az30 Nz30 Cz30]), (.int .i64 0), (.int .i64 (reE x1 x2)), (.bool false), ud, ud, ud, ud, ud, ud, (.agg #[.slice Az30 Nz30 Cz30]), (.bool false), ud, ud, ud, (.int .i64 0), (.bool true), (.bool true), (.int .u64 (reV T1 x1 x2)), (.int .u64 T1), (.bool true), (.bool true), (.bool true), (.int .u64 T1), (.bool true), (.bool true), ud, ud, ud, (.bool true), (.bool true), ud, ud, ud, ud, ud, ud, ud, ud, ud], []⟩) (by kernel_rfl) ?_
                  refine wl_take (some 93) (.bool true) rfl rfl (by kernel_rfl) ?_
                  refine wg_take (some 94) (.int .u64 T1) (by kernel_rfl) rfl (by kernel_rfl) ?_
                  refine wg_take (some 95) (.agg #[.slice a1 len1 cap1]) (by kernel_rfl) rfl (run_lp 5 (by kernel_rfl) (by kernel_rfl) (ldx26 (X5.cell (i := 0) rfl))) ?_
                  refine wg_take (some 96) (.int .u64 T1) (by kernel_rfl) rfl (by kernel_rfl) ?_
                  refine wg_take (some 97) (.int .u64 (reV T1 x1 x2)) (by kernel_rfl) rfl (by kernel_rfl) ?_
                  have rg36 : 0 ≤ T1 - (reV T1 x1 x2) ∧ T1 - (reV T1 x1 x2) < 18446744073709551616 := by omega
                  refine wg_take (some 98) (.int .u64 (T1 - (reV T1 x1 x2))) (by kernel_rfl) rfl (run_subu (x := 96) (y := 97) (p := T1) (q := reV T1 x1 x2) (by kernel_rfl) (by kernel_rfl) (by kernel_rfl) rg36) ?_
                  refine wg_take (some 99) (.agg #[.slice Az30 Nz30 Cz30]) (by kernel_rfl) rfl (run_lp 13 (by kernel_rfl) (by kernel_rfl) (ldx26 (X13.cell (i := 0) rfl))) ?_
                  by_cases c37 : T1 * (x1 - x2) ≤ (T1 - (reV T1 x1 x2)) * x1
                  · skip
                    refine wg_call (some 100) 12 #[.int .u64 T1, .agg #[.slice a1 len1 cap1], .int .u64 (T1 - (reV T1 x1 x2)), .agg #[.slice Az30 Nz30 Cz30]] (by kernel_rfl) rfl (by kernel_rfl) (rate_any (w64 rt1) N1 (by omega) rg36 Oz30.a (by omega) true (decide_eq_true c37)) ?_
                    rintro e1 v30w ⟨rfl, B⟩
                    refine ⟨_, rfl, ?_⟩
                    replace N1 := N1.keep B
                    replace N2 := N2.keep B
                    replace X5 := X5.keep B
                    replace X6 := X6.keep B
                    replace L4 := L4.keep B
                    replace Oz5 := Oz5.keep B
                    replace X9 := X9.keep B
                    replace Oz30 := Oz30.keep B
                    replace X13 := X13.keep B
                    replace BB := joinB BB B
                    clear B
                    refine wl_take (some 101) (.bool true) rfl rfl (by kernel_rfl) ?_
                    refine wl_take (some 8) (.bool true) rfl rfl (by kernel_rfl) ?_
                    refine wl_nil ?_
                    refine wp_then ?_
                    refine wp_frame (a' := ⟨#[(.int .u64 T1), (.agg #[.slice a1 len1 cap1]), (.agg #[.slice a2 len2 cap2]), (.int .u64 T2), ud, (.pointer (some ⟨g1v, 0, none⟩)), (.pointer (some ⟨g2v, 0, none⟩)), ud, (.bool true), (.pointer (some ⟨g9v, 0, none⟩)), (.int .i64 (isE T1 x1 T2)), (.int .u64 (reV T1 x1 x2)), (.int .i64 (reE x1 x2)), (.pointer (some ⟨g27v, 0, none⟩)), (.int .i64 0), (.bool true), (.bool false), (.int .u64 y0), (.int .u64 T1), (.int .u64 y3), (.int .u64 T2), (.agg #[.slice a1 len1 cap1]), (.agg #[.slice a2 len2 cap2]), (.slice (some ⟨g4v, 0, none⟩) 2 2), (.bool true), (.bool false), (.bool false), (.agg #[.slice a1 len1 cap1]), (.bool false), (.bool false), (.tuple #[.agg #[.slice Az5 Nz5 Cz5], .int .i64 (isE T1 x1 T2)]), (.int .u64 T1), (.agg #[.slice a1 len1 cap1]), (.int .u64 T2), (.tuple #[.agg #[.slice Az5 Nz5 Cz5], .int .i64 (isE T1 x1 T2)]), (.agg #[.slice Az5 Nz5 Cz5]), (.int .i64 (isE T1 x1 T2)), (.int .i64 (isE T1 x1 T2)), (.bool false), (.bool false), ud, ud, ud, ud, ud, ud, ud, ud, ud, ud, (.bool false), (.tuple #[.int .u64 (reV T1 x1 x2), .int .i64 (reE x1 x2)]), (.int .u64 T1), (.agg #[.slice a1 len1 cap1]), (.agg #[.slice a2 len2 cap2]), (.tuple #[.int .u64 (reV T1 x1 x2), .int .i64 (reE x1 x2)]), (.int .u64 (reV T1 x1 x2)), (.int .i64 (reE x1 x2)), (.tuple #[.agg #[.slice Az30 Nz30 Cz30], .int .i64 0]), (.agg #[.slice a1 len1 cap1]), (.agg #[.slice a2 len2 cap2]), (.tuple #[.agg #[.slice Az30 Nz30 Cz30], .int .i64 0]), (.agg #[.slice Az30 Nz30 Cz30]), (.int .i64 0), (.int .i64 (reE x1 x2)), (.bool false), ud, ud, ud, ud, ud, ud, (.agg #[.slice Az30 Nz30 Cz30]), (.bool false), ud, ud, ud, (.int .i64 0), (.bool true), (.bool true), (.int .u64 (reV T1 x1 x2)), (.int .u64 T1), (.bool true), (.bool true), (.bool true), (.int .u64 T1), (.bool true), (.bool true), ud, ud, ud, (.bool true), (.bool true), (.bool true), (.int .u64 T1), (.agg #[.slice a1 len1 cap1]), (.int .u64 T1), (.int .u64 (reV T1 x1 x2)), (.int .u64 (T1 - (reV T1 x1 x2))), (.agg #[.slice Az30 Nz30 Cz30]), (.bool true), (.bool true)], []⟩) (by kernel_rfl) ?_
                    refine wp_ret ?_
                    repeat (first | refine ret_then ?_ | refine ret_block ?_)
                    refine bodyPost_ret (results_tmp rfl _ _ _) rfl ?_
                    exact ⟨by kernel_rfl, BB⟩
                  · skip
                    refine wg_call (some 100) 12 #[.int .u64 T1, .agg #[.slice a1 len1 cap1], .int .u64 (T1 - (reV T1 x1 x2)), .agg #[.slice Az30 Nz30 Cz30]] (by kernel_rfl) rfl (by kernel_rfl) (rate_any (w64 rt1) N1 (by omega) rg36 Oz30.a (by omega) false (decide_eq_false c37)) ?_
                    rintro e1 v31w ⟨rfl, B⟩
                    refine ⟨_, rfl, ?_⟩
                    replace N1 := N1.keep B
                    replace N2 := N2.keep B
                    replace X5 := X5.keep B
                    replace X6 := X6.keep B
                    replace L4 := L4.keep B
                    replace Oz5 := Oz5.keep B
                    replace X9 := X9.keep B
                    replace Oz30 := Oz30.keep B
                    replace X13 := X13.keep B
                    replace BB := joinB BB B
                    clear B
                    refine wl_take (some 101) (.bool false) rfl rfl (by kernel_rfl) ?_
                    refine wl_take (some 8) (.bool false) rfl rfl (by kernel_rfl) ?_
                    refine wl_nil ?_
                    refine wp_then ?_
                    refine wp_frame (a' := ⟨#[(.int .u64 T1), (.agg #[.slice a1 len1 cap1]), (.agg #[.slice a2 len2 cap2]), (.int .u64 T2), ud, (.pointer (some ⟨g1v, 0, none⟩)), (.pointer (some ⟨g2v, 0, none⟩)), ud, (.bool false), (.pointer (some ⟨g9v, 0, none⟩)), (.int .i64 (isE T1 x1 T2)), (.int .u64 (reV T1 x1 x2)), (.int .i64 (reE x1 x2)), (.pointer (some ⟨g27v, 0, none⟩)), (.int .i64 0), (.bool true), (.bool false), (.int .u64 y0), (.int .u64 T1), (.int .u64 y3), (.int .u64 T2), (.agg #[.slice a1 len1 cap1]), (.agg #[.slice a2 len2 cap2]), (.slice (some ⟨g4v, 0, none⟩) 2 2), (.bool true), (.bool false), (.bool false), (.agg #[.slice a1 len1 cap1]), (.bool false), (.bool false), (.tuple #[.agg #[.slice Az5 Nz5 Cz5], .int .i64 (isE T1 x1 T2)]), (.int .u64 T1), (.agg #[.slice a1 len1 cap1]), (.int .u64 T2), (.tuple #[.agg #[.slice Az5 Nz5 Cz5], .int .i64 (isE T1 x1 T2)]), (.agg #[.slice Az5 Nz5 Cz5]), (.int .i64 (isE T1 x1 T2)), (.int .i64 (isE T1 x1 T2)), (.bool false), (.bool false), ud, ud, ud, ud, ud, ud, ud, ud, ud, ud, (.bool false), (.tuple #[.int .u64 (reV T1 x1 x2), .int .i64 (reE x1 x2)]), (.int .u64 T1), (.agg #[.slice a1 len1 cap1]), (.agg #[.slice a2 len2 cap2]), (.tuple #[.int .u64 (reV T1 x1 x2), .int .i64 (reE x1 x2)]), (.int .u64 (reV T1 x1 x2)), (.int .i64 (reE x1 x2)), (.tuple #[.agg #[.slice Az30 Nz30 Cz30], .int .i64 0]), (.agg #[.slice a1 len1 cap1]), (.agg #[.slice a2 len2 cap2]), (.tuple #[.agg #[.slice Az30 Nz30 Cz30], .int .i64 0]), (.agg #[.slice Az30 Nz30 Cz30]), (.int .i64 0), (.int .i64 (reE x1 x2)), (.bool false), ud, ud, ud, ud, ud, ud, (.agg #[.slice Az30 Nz30 Cz30]), (.bool false), ud, ud, ud, (.int .i64 0), (.bool true), (.bool true), (.int .u64 (reV T1 x1 x2)), (.int .u64 T1), (.bool true), (.bool true), (.bool true), (.int .u64 T1), (.bool true), (.bool true), ud, ud, ud, (.bool true), (.bool true), (.bool true), (.int .u64 T1), (.agg #[.slice a1 len1 cap1]), (.int .u64 T1), (.int .u64 (reV T1 x1 x2)), (.int .u64 (T1 - (reV T1 x1 x2))), (.agg #[.slice Az30 Nz30 Cz30]), (.bool false), (.bool false)], []⟩) (by kernel_rfl) ?_
                    exfalso
                    have kk := is_rate (t := T2) (w64 rt1).1 hx1 c4
                    clear BB
                    omega
                · skip
                  refine wg_eq (some 86) (.bool ((T1 : Int) == 0)) (.bool false) (congrArg Value.bool (beq_eq_false_iff_ne.2 c35)) (by kernel_rfl) rfl (by kernel_rfl) ?_
                  refine wg_take (some 87) (.bool false) (by kernel_rfl) rfl (by kernel_rfl) ?_
                  refine wg_take (some 88) (.int .u64 (reV T1 x1 x2)) (by kernel_rfl) rfl (by kernel_rfl) ?_
                  refine wg_take (some 89) (.int .u64 T1) (by kernel_rfl) rfl (by kernel_rfl) ?_
                  by_cases c38 : reV T1 x1 x2 < T1
                  · skip
                    refine wg_eq (some 90) (.bool (decide ((reV T1 x1 x2 : Int) < T1))) (.bool true) (congrArg Value.bool (decide_eq_true c38)) (by kernel_rfl) rfl (by kernel_rfl) ?_
                    refine wg_take (some 91) (.bool true) (by kernel_rfl) rfl (by kernel_rfl) ?_
                    refine wl_take (some 92) (.bool true) rfl rfl (by kernel_rfl) ?_
                    refine wl_frame (a' := ⟨#[(.int .u64 T1), (.agg #[.slice a1 len1 cap1]), (.agg #[.slice a2 len2 cap2]), (.int .u64 T2), ud, (.pointer (some ⟨g1v, 0, none⟩)), (.pointer (some ⟨g2v, 0, none⟩)), ud, (.bool false), (.pointer (some ⟨g9v, 0, none⟩)), (.int .i64 (isE T1 x1 T2)), (.int .u64 (reV T1 x1 x2)), (.int .i64 (reE x1 x2)), (.pointer (some ⟨g27v, 0, none⟩)), (.int .i64 0), (.bool true), (.bool false), (.int .u64 y0), (.int .u64 T1), (.int .u64 y3), (.int .u64 T2), (.agg #[.slice a1 len1 cap1]), (.agg #[.slice a2 len2 cap2]), (.slice (some ⟨g4v, 0, none⟩) 2 2), (.bool true), (.bool false), (.bool false), (.agg #[.slice a1 len1 cap1]), (.bool false), (.bool false), (.tuple #[.agg #[.slice Az5 Nz5 Cz5], .int .i64 (isE T1 x1 T2)]), (.int .u64 T1), (.agg #[.slice a1 len1 cap1]), (.int .u64 T2), (.tuple #[.agg #[.slice Az5 Nz5 Cz5], .int .i64 (isE T1 x1 T2)]), (.agg #[.slice Az5 Nz5 Cz5]), (.int .i64 (isE T1 x1 T2)), (.int .i64 (isE T1 x1 T2)), (.bool false), (.bool false), ud, ud, ud, ud, ud, ud, ud, ud, ud, ud, (.bool false), (.tuple #[.int .u64 (reV T1 x1 x2), .int .i64 (reE x1 x2)]), (.int .u64 T1), (.agg #[.slice a1 len1 cap1]), (.agg #[.slice a2 len2 cap2]), (.tuple #[.int .u64 (reV T1 x1 x2), .int .i64 (reE x1 x2)]), (.int .u64 (reV T1 x1 x2)), (.int .i64 (reE x1 x2)), (.tuple #[.agg #[.slice Az30 Nz30 Cz30], .int .i64 0]), (.agg #[.slice a1 len1 cap1]), (.agg #[.slice a2 len2 cap2]), (.tuple #[.agg #[.slice Az30 Nz30 Cz30], .int .i64 0]), (.agg #[.slice Az30 Nz30 Cz30]), (.int .i64 0), (.int .i64 (reE x1 x2)), (.bool false), ud, ud, ud, ud, ud, ud, (.agg #[.slice Az30 Nz30 Cz30]), (.bool false), ud, ud, ud, (.int .i64 0), (.bool true), (.bool true), (.int .u64 (reV T1 x1 x2)), (.int .u64 T1), (.bool true), (.bool true), (.bool true), (.int .u64 T1), (.bool false), (.bool false), (.int .u64 (reV T1 x1 x2)), (.int .u64 T1), (.bool true), (.bool true), (.bool true), ud, ud, ud, ud, ud, ud, ud, ud, ud], []⟩) (by kernel_rfl) ?_
                    refine wl_take (some 93) (.bool true) rfl rfl (by kernel_rfl) ?_
                    refine wg_take (some 94) (.int .u64 T1) (by kernel_rfl) rfl (by kernel_rfl) ?_
                    refine wg_take (some 95) (.agg #[.slice a1 len1 cap1]) (by kernel_rfl) rfl (run_lp 5 (by kernel_rfl) (by kernel_rfl) (ldx26 (X5.cell (i := 0) rfl))) ?_
                    refine wg_take (some 96) (.int .u64 T1) (by kernel_rfl) rfl (by kernel_rfl) ?_
                    refine wg_take (some 97) (.int .u64 (reV T1 x1 x2)) (by kernel_rfl) rfl (by kernel_rfl) ?_
                    have rg39 : 0 ≤ T1 - (reV T1 x1 x2) ∧ T1 - (reV T1 x1 x2) < 18446744073709551616 := by omega
                    refine wg_take (some 98) (.int .u64 (T1 - (reV T1 x1 x2))) (by kernel_rfl) rfl (run_subu (x := 96) (y := 97) (p := T1) (q := reV T1 x1 x2) (by kernel_rfl) (by kernel_rfl) (by kernel_rfl) rg39) ?_
                    refine wg_take (some 99) (.agg #[.slice Az30 Nz30 Cz30]) (by kernel_rfl) rfl (run_lp 13 (by kernel_rfl) (by kernel_rfl) (ldx26 (X13.cell (i := 0) rfl))) ?_
                    by_cases c40 : T1 * (x1 - x2) ≤ (T1 - (reV T1 x1 x2)) * x1
                    · skip
                      refine wg_call (some 100) 12 #[.int .u64 T1, .agg #[.slice a1 len1 cap1], .int .u64 (T1 - (reV T1 x1 x2)), .agg #[.slice Az30 Nz30 Cz30]] (by kernel_rfl) rfl (by kernel_rfl) (rate_any (w64 rt1) N1 (by omega) rg39 Oz30.a (by omega) true (decide_eq_true c40)) ?_
                      rintro e1 v32w ⟨rfl, B⟩
                      refine ⟨_, rfl, ?_⟩
                      replace N1 := N1.keep B
                      replace N2 := N2.keep B
                      replace X5 := X5.keep B
                      replace X6 := X6.keep B
                      replace L4 := L4.keep B
                      replace Oz5 := Oz5.keep B
                      replace X9 := X9.keep B
                      replace Oz30 := Oz30.keep B
                      replace X13 := X13.keep B
                      replace BB := joinB BB B
                      clear B
                      refine wl_take (some 101) (.bool true) rfl rfl (by kernel_rfl) ?_
                      refine wl_take (some 8) (.bool true) rfl rfl (by kernel_rfl) ?_
                      refine wl_nil ?_
                      refine wp_then ?_
                      refine wp_frame (a' := ⟨#[(.int .u64 T1), (.agg #[.slice a1 len1 cap1]), (.agg #[.slice a2 len2 cap2]), (.int .u64 T2), ud, (.pointer (some ⟨g1v, 0, none⟩)), (.pointer (some ⟨g2v, 0, none⟩)), ud, (.bool true), (.pointer (some ⟨g9v, 0, none⟩)), (.int .i64 (isE T1 x1 T2)), (.int .u64 (reV T1 x1 x2)), (.int .i64 (reE x1 x2)), (.pointer (some ⟨g27v, 0, none⟩)), (.int .i64 0), (.bool true), (.bool false), (.int .u64 y0), (.int .u64 T1), (.int .u64 y3), (.int .u64 T2), (.agg #[.slice a1 len1 cap1]), (.agg #[.slice a2 len2 cap2]), (.slice (some ⟨g4v, 0, none⟩) 2 2), (.bool true), (.bool false), (.bool false), (.agg #[.slice a1 len1 cap1]), (.bool false), (.bool false), (.tuple #[.agg #[.slice Az5 Nz5 Cz5], .int .i64 (isE T1 x1 T2)]), (.int .u64 T1), (.agg #[.slice a1 len1 cap1]), (.int .u64 T2), (.tuple #[.agg #[.slice Az5 Nz5 Cz5], .int .i64 (isE T1 x1 T2)]), (.agg #[.slice Az5 Nz5 Cz5]), (.int .i64 (isE T1 x1 T2)), (.int .i64 (isE T1 x1 T2)), (.bool false), (.bool false), ud, ud, ud, ud, ud, ud, ud, ud, ud, ud, (.bool false), (.tuple #[.int .u64 (reV T1 x1 x2), .int .i64 (reE x1 x2)]), (.int .u64 T1), (.agg #[.slice a1 len1 cap1]), (.agg #[.slice a2 len2 cap2]), (.tuple #[.int .u64 (reV T1 x1 x2), .int .i64 (reE x1 x2)]), (.int .u64 (reV T1 x1 x2)), (.int .i64 (reE x1 x2)), (.tuple #[.agg #[.slice Az30 Nz30 Cz30], .int .i64 0]), (.agg #[.slice a1 len1 cap1]), (.agg #[.slice a2 len2 cap2]), (.tuple #[.agg #[.slice Az30 Nz30 Cz30], .int .i64 0]), (.agg #[.slice Az30 Nz30 Cz30]), (.int .i64 0), (.int .i64 (reE x1 x2)), (.bool false), ud, ud, ud, ud, ud, ud, (.agg #[.slice Az30 Nz30 Cz30]), (.bool false), ud, ud, ud, (.int .i64 0), (.bool true), (.bool true), (.int .u64 (reV T1 x1 x2)), (.int .u64 T1), (.bool true), (.bool true), (.bool true), (.int .u64 T1), (.bool false), (.bool false), (.int .u64 (reV T1 x1 x2)), (.int .u64 T1), (.bool true), (.bool true), (.bool true), (.bool true), (.int .u64 T1), (.agg #[.slice a1 len1 cap1]), (.int .u64 T1), (.int .u64 (reV T1 x1 x2)), (.int .u64 (T1 - (reV T1 x1 x2))), (.agg #[.slice Az30 Nz30 Cz30]), (.bool true), (.bool true)], []⟩) (by kernel_rfl) ?_
                      refine wp_ret ?_
                      repeat (first | refine ret_then ?_ | refine ret_block ?_)
                      refine bodyPost_ret (results_tmp rfl _ _ _) rfl ?_
                      exact ⟨by kernel_rfl, BB⟩
                    · skip
                      refine wg_call (some 100) 12 #[.int .u64 T1, .agg #[.slice a1 len1 cap1], .int .u64 (T1 - (reV T1 x1 x2)), .agg #[.slice Az30 Nz30 Cz30]] (by kernel_rfl) rfl (by kernel_rfl) (rate_any (w64 rt1) N1 (by omega) rg39 Oz30.a (by omega) false (decide_eq_false c40)) ?_
                      rintro e1 v33w ⟨rfl, B⟩
                      refine ⟨_, rfl, ?_⟩
                      replace N1 := N1.keep B
                      replace N2 := N2.keep B
                      replace X5 := X5.keep B
                      replace X6 := X6.keep B
                      replace L4 := L4.keep B
                      replace Oz5 := Oz5.keep B
                      replace X9 := X9.keep B
                      replace Oz30 := Oz30.keep B
                      replace X13 := X13.keep B
                      replace BB := joinB BB B
                      clear B
                      refine wl_take (some 101) (.bool false) rfl rfl (by kernel_rfl) ?_
                      refine wl_take (some 8) (.bool false) rfl rfl (by kernel_rfl) ?_
                      refine wl_nil ?_
                      refine wp_then ?_
                      refine wp_frame (a' := ⟨#[(.int .u64 T1), (.agg #[.slice a1 len1 cap1]), (.agg #[.slice a2 len2 cap2]), (.int .u64 T2), ud, (.pointer (some ⟨g1v, 0, none⟩)), (.pointer (some ⟨g2v, 0, none⟩)), ud, (.bool false), (.pointer (some ⟨g9v, 0, none⟩)), (.int .i64 (isE T1 x1 T2)), (.int .u64 (reV T1 x1 x2)), (.int .i64 (reE x1 x2)), (.pointer (some ⟨g27v, 0, none⟩)), (.int .i64 0), (.bool true), (.bool false), (.int .u64 y0), (.int .u64 T1), (.int .u64 y3), (.int .u64 T2), (.agg #[.slice a1 len1 cap1]), (.agg #[.slice a2 len2 cap2]), (.slice (some ⟨g4v, 0, none⟩) 2 2), (.bool true), (.bool false), (.bool false), (.agg #[.slice a1 len1 cap1]), (.bool false), (.bool false), (.tuple #[.agg #[.slice Az5 Nz5 Cz5], .int .i64 (isE T1 x1 T2)]), (.int .u64 T1), (.agg #[.slice a1 len1 cap1]), (.int .u64 T2), (.tuple #[.agg #[.slice Az5 Nz5 Cz5], .int .i64 (isE T1 x1 T2)]), (.agg #[.slice Az5 Nz5 Cz5]), (.int .i64 (isE T1 x1 T2)), (.int .i64 (isE T1 x1 T2)), (.bool false), (.bool false), ud, ud, ud, ud, ud, ud, ud, ud, ud, ud, (.bool false), (.tuple #[.int .u64 (reV T1 x1 x2), .int .i64 (reE x1 x2)]), (.int .u64 T1), (.agg #[.slice a1 len1 cap1]), (.agg #[.slice a2 len2 cap2]), (.tuple #[.int .u64 (reV T1 x1 x2), .int .i64 (reE x1 x2)]), (.int .u64 (reV T1 x1 x2)), (.int .i64 (reE x1 x2)), (.tuple #[.agg #[.slice Az30 Nz30 Cz30], .int .i64 0]), (.agg #[.slice a1 len1 cap1]), (.agg #[.slice a2 len2 cap2]), (.tuple #[.agg #[.slice Az30 Nz30 Cz30], .int .i64 0]), (.agg #[.slice Az30 Nz30 Cz30]), (.int .i64 0), (.int .i64 (reE x1 x2)), (.bool false), ud, ud, ud, ud, ud, ud, (.agg #[.slice Az30 Nz30 Cz30]), (.bool false), ud, ud, ud, (.int .i64 0), (.bool true), (.bool true), (.int .u64 (reV T1 x1 x2)), (.int .u64 T1), (.bool true), (.bool true), (.bool true), (.int .u64 T1), (.bool false), (.bool false), (.int .u64 (reV T1 x1 x2)), (.int .u64 T1), (.bool true), (.bool true), (.bool true), (.bool true), (.int .u64 T1), (.agg #[.slice a1 len1 cap1]), (.int .u64 T1), (.int .u64 (reV T1 x1 x2)), (.int .u64 (T1 - (reV T1 x1 x2))), (.agg #[.slice Az30 Nz30 Cz30]), (.bool false), (.bool false)], []⟩) (by kernel_rfl) ?_
                      exfalso
                      have kk := is_rate (t := T2) (w64 rt1).1 hx1 c4
                      clear BB
                      omega
                  · skip
                    refine wg_eq (some 90) (.bool (decide ((reV T1 x1 x2 : Int) < T1))) (.bool false) (congrArg Value.bool (decide_eq_false c38)) (by kernel_rfl) rfl (by kernel_rfl) ?_
                    refine wg_take (some 91) (.bool false) (by kernel_rfl) rfl (by kernel_rfl) ?_
                    refine wl_take (some 92) (.bool false) rfl rfl (by kernel_rfl) ?_
                    refine wl_frame (a' := ⟨#[(.int .u64 T1), (.agg #[.slice a1 len1 cap1]), (.agg #[.slice a2 len2 cap2]), (.int .u64 T2), ud, (.pointer (some ⟨g1v, 0, none⟩)), (.pointer (some ⟨g2v, 0, none⟩)), ud, (.bool false), (.pointer (some ⟨g9v, 0, none⟩)), (.int .i64 (isE T1 x1 T2)), (.int .u64 (reV T1 x1 x2)), (.int .i64 (reE x1 x2)), (.pointer (some ⟨g27v, 0, none⟩)), (.int .i64 0), (.bool true), (.bool false), (.int .u64 y0), (.int .u64 T1), (.int .u64 y3), (.int .u64 T2), (.agg #[.slice a1 len1 cap1]), (.agg #[.slice a2 len2 cap2]), (.slice (some ⟨g4v, 0, none⟩) 2 2), (.bool true), (.bool false), (.bool false), (.agg #[.slice a1 len1 cap1]), (.bool false), (.bool false), (.tuple #[.agg #[.slice Az5 Nz5 Cz5], .int .i64 (isE T1 x1 T2)]), (.int .u64 T1), (.agg #[.slice a1 len1 cap1]), (.int .u64 T2), (.tuple #[.agg #[.slice Az5 Nz5 Cz5], .int .i64 (isE T1 x1 T2)]), (.agg #[.slice Az5 Nz5 Cz5]), (.int .i64 (isE T1 x1 T2)), (.int .i64 (isE T1 x1 T2)), (.bool false), (.bool false), ud, ud, ud, ud, ud, ud, ud, ud, ud, ud, (.bool false), (.tuple #[.int .u64 (reV T1 x1 x2), .int .i64 (reE x1 x2)]), (.int .u64 T1), (.agg #[.slice a1 len1 cap1]), (.agg #[.slice a2 len2 cap2]), (.tuple #[.int .u64 (reV T1 x1 x2), .int .i64 (reE x1 x2)]), (.int .u64 (reV T1 x1 x2)), (.int .i64 (reE x1 x2)), (.tuple #[.agg #[.slice Az30 Nz30 Cz30], .int .i64 0]), (.agg #[.slice a1 len1 cap1]), (.agg #[.slice a2 len2 cap2]), (.tuple #[.agg #[.slice Az30 Nz30 Cz30], .int .i64 0]), (.agg #[.slice Az30 Nz30 Cz30]), (.int .i64 0), (.int .i64 (reE x1 x2)), (.bool false), ud, ud, ud, ud, ud, ud, (.agg #[.slice Az30 Nz30 Cz30]), (.bool false), ud, ud, ud, (.int .i64 0), (.bool true), (.bool true), (.int .u64 (reV T1 x1 x2)), (.int .u64 T1), (.bool true), (.bool true), (.bool true), (.int .u64 T1), (.bool false), (.bool false), (.int .u64 (reV T1 x1 x2)), (.int .u64 T1), (.bool false), (.bool false), (.bool false), ud, ud, ud, ud, ud, ud, ud, ud, ud], []⟩) (by kernel_rfl) ?_
                    refine wl_take (some 93) (.bool false) rfl rfl (by kernel_rfl) ?_
                    refine wg_not (some 94) (by kernel_rfl) rfl ?_
                    refine wg_not (some 95) (by kernel_rfl) rfl ?_
                    refine wg_not (some 96) (by kernel_rfl) rfl ?_
                    refine wg_not (some 97) (by kernel_rfl) rfl ?_
                    refine wg_not (some 98) (by kernel_rfl) rfl ?_
                    refine wg_not (some 99) (by kernel_rfl) rfl ?_
                    refine wg_not (some 100) (by kernel_rfl) rfl ?_
                    refine wl_take (some 101) (.bool false) rfl rfl (by kernel_rfl) ?_
                    refine wl_take (some 8) (.bool false) rfl rfl (by kernel_rfl) ?_
                    refine wl_nil ?_
                    refine wp_then ?_
                    refine wp_frame (a' := ⟨#[(.int .u64 T1), (.agg #[.slice a1 len1 cap1]), (.agg #[.slice a2 len2 cap2]), (.int .u64 T2), ud, (.pointer (some ⟨g1v, 0, none⟩)), (.pointer (some ⟨g2v, 0, none⟩)), ud, (.bool false), (.pointer (some ⟨g9v, 0, none⟩)), (.int .i64 (isE T1 x1 T2)), (.int .u64 (reV T1 x1 x2)), (.int .i64 (reE x1 x2)), (.pointer (some ⟨g27v, 0, none⟩)), (.int .i64 0), (.bool true), (.bool false), (.int .u64 y0), (.int .u64 T1), (.int .u64 y3), (.int .u64 T2), (.agg #[.slice a1 len1 cap1]), (.agg #[.slice a2 len2 cap2]), (.slice (some ⟨g4v, 0, none⟩) 2 2), (.bool true), (.bool false), (.bool false), (.agg #[.slice a1 len1 cap1]), (.bool false), (.bool false), (.tuple #[.agg #[.slice Az5 Nz5 Cz5], .int .i64 (isE T1 x1 T2)]), (.int .u64 T1), (.agg #[.slice a1 len1 cap1]), (.int .u64 T2), (.tuple #[.agg #[.slice Az5 Nz5 Cz5], .int .i64 (isE T1 x1 T2)]), (.agg #[.slice Az5 Nz5 Cz5]), (.int .i64 (isE T1 x1 T2)), (.int .i64 (isE T1 x1 T2)), (.bool false), (.bool false), ud, ud, ud, ud, ud, ud, ud, ud, ud, ud, (.bool false), (.tuple #[.int .u64 (reV T1 x1 x2), .int .i64 (reE x1 x2)]), (.int .u64 T1), (.agg #[.slice a1 len1 cap1]), (.agg #[.slice a2 len2 cap2]), (.tuple #[.int .u64 (reV T1 x1 x2), .int .i64 (reE x1 x2)]), (.int .u64 (reV T1 x1 x2)), (.int .i64 (reE x1 x2)), (.tuple #[.agg #[.slice Az30 Nz30 Cz30], .int .i64 0]), (.agg #[.slice a1 len1 cap1]), (.agg #[.slice a2 len2 cap2]), (.tuple #[.agg #[.slice Az30 Nz30 Cz30], .int .i64 0]), (.agg #[.slice Az30 Nz30 Cz30]), (.int .i64 0), (.int .i64 (reE x1 x2)), (.bool false), ud, ud, ud, ud, ud, ud, (.agg #[.slice Az30 Nz30 Cz30]), (.bool false), ud, ud, ud, (.int .i64 0), (.bool true), (.bool true), (.int .u64 (reV T1 x1 x2)), (.int .u64 T1), (.bool true), (.bool true), (.bool true), (.int .u64 T1), (.bool false), (.bool false), (.int .u64 (reV T1 x1 x2)), (.int .u64 T1), (.bool false), (.bool false), (.bool false), (.bool false), ud, ud, ud, ud, ud, ud, ud, (.bool false)], []⟩) (by kernel_rfl) ?_
                    exfalso
                    have kk := is_rate (t := T2) (w64 rt1).1 hx1 c4
                    clear BB
                    omega
              · skip
                refine wg_eq (some 82) (.bool (decide ((reV T1 x1 x2 : Int) ≤ T1))) (.bool false) (congrArg Value.bool (decide_eq_false c34)) (by kernel_rfl) rfl (by kernel_rfl) ?_
                refine wl_take (some 83) (.bool false) rfl rfl (by kernel_rfl) ?_
                refine wl_take (some 84) (.bool false) rfl rfl (by kernel_rfl) ?_
                refine wg_not (some 85) (by kernel_rfl) rfl ?_
                refine wg_not (some 86) (by kernel_rfl) rfl ?_
                refine wg_not (some 87) (by kernel_rfl) rfl ?_
                refine wg_not (some 88) (by kernel_rfl) rfl ?_
                refine wg_not (some 89) (by kernel_rfl) rfl ?_
                refine wg_not (some 90) (by kernel_rfl) rfl ?_
                refine wg_not (some 91) (by kernel_rfl) rfl ?_
                refine wl_take (some 92) (.bool false) rfl rfl (by kernel_rfl) ?_
                refine wl_frame (a' := ⟨#[(.int .u64 T1), (.agg #[.slice a1 len1 cap1]), (.agg #[.slice a2 len2 cap2]), (.int .u64 T2), ud, (.pointer (some ⟨g1v, 0, none⟩)), (.pointer (some ⟨g2v, 0, none⟩)), ud, (.bool false), (.pointer (some ⟨g9v, 0, none⟩)), (.int .i64 (isE T1 x1 T2)), (.int .u64 (reV T1 x1 x2)), (.int .i64 (reE x1 x2)), (.pointer (some ⟨g27v, 0, none⟩)), (.int .i64 0), (.bool true), (.bool false), (.int .u64 y0), (.int .u64 T1), (.int .u64 y3), (.int .u64 T2), (.agg #[.slice a1 len1 cap1]), (.agg #[.slice a2 len2 cap2]), (.slice (some ⟨g4v, 0, none⟩) 2 2), (.bool true), (.bool false), (.bool false), (.agg #[.slice a1 len1 cap1]), (.bool false), (.bool false), (.tuple #[.agg #[.slice Az5 Nz5 Cz5], .int .i64 (isE T1 x1 T2)]), (.int .u64 T1), (.agg #[.slice a1 len1 cap1]), (.int .u64 T2), (.tuple #[.agg #[.slice Az5 Nz5 Cz5], .int .i64 (isE T1 x1 T2)]), (.agg #[.slice Az5 Nz5 Cz5]), (.int .i64 (isE T1 x1 T2)), (.int .i64 (isE T1 x1 T2)), (.bool false), (.bool false), ud, ud, ud, ud, ud, ud, ud, ud, ud, ud, (.bool false), (.tuple #[.int .u64 (reV T1 x1 x2), .int .i64 (reE x1 x2)]), (.int .u64 T1), (.agg #[.slice a1 len1 cap1]), (.agg #[.slice a2 len2 cap2]), (.tuple #[.int .u64 (reV T1 x1 x2), .int .i64 (reE x1 x2)]), (.int .u64 (reV T1 x1 x2)), (.int .i64 (reE x1 x2)), (.tuple #[.agg #[.slice Az30 Nz30 Cz30], .int .i64 0]), (.agg #[.slice a1 len1 cap1]), (.agg #[.slice a2 len2 cap2]), (.tuple #[.agg #[.slice Az30 Nz30 Cz30], .int .i64 0]), (.agg #[.slice Az30 Nz30 Cz30]), (.int .i64 0), (.int .i64 (reE x1 x2)), (.bool false), ud, ud, ud, ud, ud, ud, (.agg #[.slice Az30 Nz30 Cz30]), (.bool false), ud, ud, ud, (.int .i64 0), (.bool true), (.bool true), (.int .u64 (reV T1 x1 x2)), (.int .u64 T1), (.bool false), (.bool false), (.bool false), ud, ud, ud, ud, ud, ud, ud, (.bool false), ud, ud, ud, ud, ud, ud, ud, ud, ud], []⟩) (by kernel_rfl) ?_
                refine wl_take (some 93) (.bool false) rfl rfl (by kernel_rfl) ?_
                refine wg_not (some 94) (by kernel_rfl) rfl ?_
                refine wg_not (some 95) (by kernel_rfl) rfl ?_
                refine wg_not (some 96) (by kernel_rfl) rfl ?_
                refine wg_not (some 97) (by kernel_rfl) rfl ?_
                refine wg_not (some 98) (by kernel_rfl) rfl ?_
                refine wg_not (some 99) (by kernel_rfl) rfl ?_
                refine wg_not (some 100) (by kernel_rfl) rfl ?_
                refine wl_take (some 101) (.bool false) rfl rfl (by kernel_rfl) ?_
                refine wl_take (some 8) (.bool false) rfl rfl (by kernel_rfl) ?_
                refine wl_nil ?_
                refine wp_then ?_
                refine wp_frame (a' := ⟨#[(.int .u64 T1), (.agg #[.slice a1 len1 cap1]), (.agg #[.slice a2 len2 cap2]), (.int .u64 T2), ud, (.pointer (some ⟨g1v, 0, none⟩)), (.pointer (some ⟨g2v, 0, none⟩)), ud, (.bool false), (.pointer (some ⟨g9v, 0, none⟩)), (.int .i64 (isE T1 x1 T2)), (.int .u64 (reV T1 x1 x2)), (.int .i64 (reE x1 x2)), (.pointer (some ⟨g27v, 0, none⟩)), (.int .i64 0), (.bool true), (.bool false), (.int .u64 y0), (.int .u64 T1), (.int .u64 y3), (.int .u64 T2), (.agg #[.slice a1 len1 cap1]), (.agg #[.slice a2 len2 cap2]), (.slice (some ⟨g4v, 0, none⟩) 2 2), (.bool true), (.bool false), (.bool false), (.agg #[.slice a1 len1 cap1]), (.bool false), (.bool false), (.tuple #[.agg #[.slice Az5 Nz5 Cz5], .int .i64 (isE T1 x1 T2)]), (.int .u64 T1), (.agg #[.slice a1 len1 cap1]), (.int .u64 T2), (.tuple #[.agg #[.slice Az5 Nz5 Cz5], .int .i64 (isE T1 x1 T2)]), (.agg #[.slice Az5 Nz5 Cz5]), (.int .i64 (isE T1 x1 T2)), (.int .i64 (isE T1 x1 T2)), (.bool false), (.bool false), ud, ud, ud, ud, ud, ud, ud, ud, ud, ud, (.bool false), (.tuple #[.int .u64 (reV T1 x1 x2), .int .i64 (reE x1 x2)]), (.int .u64 T1), (.agg #[.slice a1 len1 cap1]), (.agg #[.slice a2 len2 cap2]), (.tuple #[.int .u64 (reV T1 x1 x2), .int .i64 (reE x1 x2)]), (.int .u64 (reV T1 x1 x2)), (.int .i64 (reE x1 x2)), (.tuple #[.agg #[.slice Az30 Nz30 Cz30], .int .i64 0]), (.agg #[.slice a1 len1 cap1]), (.agg #[.slice a2 len2 cap2]), (.tuple #[.agg #[.slice Az30 Nz30 Cz30], .int .i64 0]), (.agg #[.slice Az30 Nz30 Cz30]), (.int .i64 0), (.int .i64 (reE x1 x2)), (.bool false), ud, ud, ud, ud, ud, ud, (.agg #[.slice Az30 Nz30 Cz30]), (.bool false), ud, ud, ud, (.int .i64 0), (.bool true), (.bool true), (.int .u64 (reV T1 x1 x2)), (.int .u64 T1), (.bool false), (.bool false), (.bool false), ud, ud, ud, ud, ud, ud, ud, (.bool false), (.bool false), ud, ud, ud, ud, ud, ud, ud, (.bool false)], []⟩) (by kernel_rfl) ?_
                exfalso
                have kk := is_rate (t := T2) (w64 rt1).1 hx1 c4
                clear BB
                omega
          · skip
            refine wl_eq (some 65) (.bool ((reE x1 x2 : Int) != 0)) (.bool true) (congrArg Value.bool (bne_iff_ne.2 c31)) rfl rfl (by kernel_rfl) ?_
            refine wl_nil ?_
            refine wp_then ?_
            refine wp_cond_true (by kernel_rfl) ?_
            refine wp_seq ?_
            refine wl_start ?_
            refine wl_take (some 66) (.int .i64 0) rfl rfl (by kernel_rfl) ?_
            refine wl_take (some 67) (.bool false) rfl rfl (by kernel_rfl) ?_
            refine wl_take (some 68) (.bool false) rfl rfl (by kernel_rfl) ?_
            refine wg_not (some 69) (by kernel_rfl) rfl ?_
            refine wg_not (some 70) (by kernel_rfl) rfl ?_
            refine wl_take (some 71) (.bool false) rfl rfl (by kernel_rfl) ?_
            refine wl_take (some 8) (.bool false) rfl rfl (by kernel_rfl) ?_
            refine wl_nil ?_
            refine wp_then ?_
            exfalso
            have kk := is_rate (t := T2) (w64 rt1).1 hx1 c4
            clear BB
            omega
        · skip
          refine wl_call (some 61) 15 #[.agg #[.slice a1 len1 cap1], .agg #[.slice a2 len2 cap2]] rfl rfl (by kernel_rfl) (dSubLt N1 N2 (by omega) (by omega) (Int.not_le.1 c29)) ?_
          rintro e1 v34w ⟨rfl, B⟩
          refine ⟨_, rfl, ?_⟩
          replace N1 := N1.keep B
          replace N2 := N2.keep B
          replace X5 := X5.keep B
          replace X6 := X6.keep B
          replace L4 := L4.keep B
          replace Oz5 := Oz5.keep B
          replace X9 := X9.keep B
          replace BB := joinB BB B
          clear B
          refine wl_take (some 58) (.tuple #[.agg #[.slice none 0 0], .int .i64 20]) rfl rfl (by kernel_rfl) ?_
          refine wl_take (some 62) (.agg #[.slice none 0 0]) rfl rfl (by kernel_rfl) ?_
          refine wl_take (some 63) (.int .i64 20) rfl rfl (by kernel_rfl) ?_
          have bs34 := BB.size
          refine wl_new 13 62 26 [.slice none 0 0] [.slice none 0 0] rfl rfl rfl rfl rfl rfl allocx26 (fun _ => by kernel_rfl) (fun _ => by kernel_rfl) (by kernel_rfl) rfl (by kernel_rfl) ?_
          intro v35w g35v X13 hg35v B
          replace N1 := N1.keep B
          replace N2 := N2.keep B
          replace X5 := X5.keep B
          replace X6 := X6.keep B
          replace L4 := L4.keep B
          replace Oz5 := Oz5.keep B
          replace X9 := X9.keep B
          replace BB := joinB BB B
          clear B
          refine wl_take (some 14) (.int .i64 20) rfl rfl (by kernel_rfl) ?_
          refine wl_nil ?_
          refine wp_then ?_
          refine wp_frame (a' := ⟨#[(.int .u64 T1), (.agg #[.slice a1 len1 cap1]), (.agg #[.slice a2 len2 cap2]), (.int .u64 T2), ud, (.pointer (some ⟨g1v, 0, none⟩)), (.pointer (some ⟨g2v, 0, none⟩)), ud, (.bool false), (.pointer (some ⟨g9v, 0, none⟩)), (.int .i64 (isE T1 x1 T2)), (.int .u64 (reV T1 x1 x2)), (.int .i64 (reE x1 x2)), (.pointer (some ⟨g35v, 0, none⟩)), (.int .i64 20), (.bool true), (.bool false), (.int .u64 y0), (.int .u64 T1), (.int .u64 y3), (.int .u64 T2), (.agg #[.slice a1 len1 cap1]), (.agg #[.slice a2 len2 cap2]), (.slice (some ⟨g4v, 0, none⟩) 2 2), (.bool true), (.bool false), (.bool false), (.agg #[.slice a1 len1 cap1]), (.bool false), (.bool false), (.tuple #[.agg #[.slice Az5 Nz5 Cz5], .int .i64 (isE T1 x1 T2)]), (.int .u64 T1), (.agg #[.slice a1 len1 cap1]), (.int .u64 T2), (.tuple #[.agg #[.slice Az5 Nz5 Cz5], .int .i64 (isE T1 x1 T2)]), (.agg #[.slice Az5 Nz5 Cz5]), (.int .i64 (isE T1 x1 T2)), (.int .i64 (isE T1 x1 T2)), (.bool false), (.bool false), ud, ud, ud, ud, ud, ud, ud, ud, ud, ud, (.bool false), (.tuple #[.int .u64 (reV T1 x1 x2), .int .i64 (reE x1 x2)]), (.int .u64 T1), (.agg #[.slice a1 len1 cap1]), (.agg #[.slice a2 len2 cap2]), (.tuple #[.int .u64 (reV T1 x1 x2), .int .i64 (reE x1 x2)]), (.int .u64 (reV T1 x1 x2)), (.int .i64 (reE x1 x2)), (.tuple #[.agg #[.slice none 0 0], .int .i64 20]), (.agg #[.slice a1 len1 cap1]), (.agg #[.slice a2 len2 cap2]), (.tuple #[.agg #[.slice none 0 0], .int .i64 20]), (.agg #[.slice none 0 0]), (.int .i64 20), ud, ud, ud, ud, ud, ud, ud, ud, ud, ud, ud, ud, ud, ud, ud, ud, ud, ud, ud, ud, ud, ud, ud, ud, ud, ud, ud, ud, ud, ud, ud, ud, ud, ud, ud, ud, ud, ud], []⟩) (by kernel_rfl) ?_
          refine wp_seq ?_
          refine wp_seq ?_
          refine wl_start ?_
          refine wl_take (some 64) (.int .i64 (reE x1 x2)) rfl rfl (by kernel_rfl) ?_
          by_cases c41 : reE x1 x2 = 0
          · skip
            refine wl_eq (some 65) (.bool ((reE x1 x2 : Int) != 0)) (.bool false) (congrArg Value.bool (bne_eq_false_iff_eq.2 c41)) rfl rfl (by kernel_rfl) ?_
            refine wl_nil ?_
            refine wp_then ?_
            refine wp_cond_false (by kernel_rfl) ?_
            refine wp_skip_then ?_
            refine wp_seq ?_
            refine wp_seq ?_
            refine wl_start ?_
            refine wl_take (some 72) (.agg #[.slice none 0 0]) rfl rfl (run_lp 13 (by kernel_rfl) (by kernel_rfl) (ldx26 (X13.cell (i := 0) rfl))) ?_
            refine wl_call (some 73) 10 #[.agg #[.slice none 0 0]] rfl rfl (by kernel_rfl) (zeroD (natO_nil _).a (by decide) true rfl) ?_
            rintro e1 v36w ⟨rfl, B⟩
            refine ⟨_, rfl, ?_⟩
            replace N1 := N1.keep B
            replace N2 := N2.keep B
            replace X5 := X5.keep B
            replace X6 := X6.keep B
            replace L4 := L4.keep B
            replace Oz5 := Oz5.keep B
            replace X9 := X9.keep B
            replace X13 := X13.keep B
            replace BB := joinB BB B
            clear B
            refine wl_nil ?_
            refine wp_then ?_
            refine wp_cond_true (by kernel_rfl) ?_
            refine wp_seq ?_
            refine wl_start ?_
            refine wl_take (some 74) (.int .u64 (reV T1 x1 x2)) rfl rfl (by kernel_rfl) ?_
            refine wl_take (some 75) (.int .u64 T1) rfl rfl (by kernel_rfl) ?_
            by_cases c42 : reV T1 x1 x2 = T1
            · skip
              refine wl_eq (some 76) (.bool ((reV T1 x1 x2 : Int) == T1)) (.bool true) (congrArg Value.bool (beq_iff_eq.2 c42)) rfl rfl (by kernel_rfl) ?_
              refine wl_take (some 8) (.bool true) rfl rfl (by kernel_rfl) ?_
              refine wl_nil ?_
              refine wp_then ?_
              refine wp_ret ?_
              repeat (first | refine ret_then ?_ | refine ret_block ?_)
              refine bodyPost_ret (results_tmp rfl _ _ _) rfl ?_
              exact ⟨by kernel_rfl, BB⟩
            · skip
              refine wl_eq (some 76) (.bool ((reV T1 x1 x2 : Int) == T1)) (.bool false) (congrArg Value.bool (beq_eq_false_iff_ne.2 c42)) rfl rfl (by kernel_rfl) ?_
              refine wl_take (some 8) (.bool false) rfl rfl (by kernel_rfl) ?_
              refine wl_nil ?_
              refine wp_then ?_
              exfalso
              have kk := is_rate (t := T2) (w64 rt1).1 hx1 c4
              clear BB
              omega
          · skip
            refine wl_eq (some 65) (.bool ((reE x1 x2 : Int) != 0)) (.bool true) (congrArg Value.bool (bne_iff_ne.2 c41)) rfl rfl (by kernel_rfl) ?_
            refine wl_nil ?_
            refine wp_then ?_
            refine wp_cond_true (by kernel_rfl) ?_
            refine wp_seq ?_
            refine wl_start ?_
            refine wl_take (some 66) (.int .i64 20) rfl rfl (by kernel_rfl) ?_
            refine wl_take (some 67) (.bool true) rfl rfl (by kernel_rfl) ?_
            refine wl_take (some 68) (.bool true) rfl rfl (by kernel_rfl) ?_
            refine wg_take (some 69) (.int .i64 (reE x1 x2)) (by kernel_rfl) rfl (by kernel_rfl) ?_
            by_cases c43 : reE x1 x2 = 102
            · skip
              refine wg_eq (some 70) (.bool ((reE x1 x2 : Int) == 102)) (.bool true) (congrArg Value.bool (beq_iff_eq.2 c43)) (by kernel_rfl) rfl (by kernel_rfl) ?_
              refine wl_take (some 71) (.bool true) rfl rfl (by kernel_rfl) ?_
              refine wl_take (some 8) (.bool true) rfl rfl (by kernel_rfl) ?_
              refine wl_nil ?_
              refine wp_then ?_
              refine wp_ret ?_
              repeat (first | refine ret_then ?_ | refine ret_block ?_)
              refine bodyPost_ret (results_tmp rfl _ _ _) rfl ?_
              exact ⟨by kernel_rfl, BB⟩
            · skip
              refine wg_eq (some 70) (.bool ((reE x1 x2 : Int) == 102)) (.bool false) (congrArg Value.bool (beq_eq_false_iff_ne.2 c43)) (by kernel_rfl) rfl (by kernel_rfl) ?_
              refine wl_take (some 71) (.bool false) rfl rfl (by kernel_rfl) ?_
              refine wl_take (some 8) (.bool false) rfl rfl (by kernel_rfl) ?_
              refine wl_nil ?_
              refine wp_then ?_
              exfalso
              have kk := is_rate (t := T2) (w64 rt1).1 hx1 c4
              clear BB
              omega
  · skip
    refine wl_call (some 24) 9 #[.slice (some ⟨g4v, 0, none⟩) 2 2] rfl rfl (by kernel_rfl) (small2 L4 hm1 hm2 false (decide_eq_false c3)) ?_
    rintro e1 v37w ⟨rfl, B⟩
    refine ⟨_, rfl, ?_⟩
    replace N1 := N1.keep B
    replace N2 := N2.keep B
    replace X5 := X5.keep B
    replace X6 := X6.keep B
    replace L4 := L4.keep B
    replace BB := joinB BB B
    clear B
    refine wl_take (some 25) (.bool true) rfl rfl (by kernel_rfl) ?_
    refine wl_take (some 26) (.bool true) rfl rfl (by kernel_rfl) ?_
    refine wg_not (some 27) (by kernel_rfl) rfl ?_
    refine wg_not (some 28) (by kernel_rfl) rfl ?_
    refine wl_take (some 29) (.bool true) rfl rfl (by kernel_rfl) ?_
    refine wl_nil ?_
    refine wp_then ?_
    refine wp_frame (a' := ⟨#[(.int .u64 T1), (.agg #[.slice a1 len1 cap1]), (.agg #[.slice a2 len2 cap2]), (.int .u64 T2), ud, (.pointer (some ⟨g1v, 0, none⟩)), (.pointer (some ⟨g2v, 0, none⟩)), ud, (.bool false), ud, ud, ud, ud, ud, ud, (.bool true), (.bool false), (.int .u64 y0), (.int .u64 T1), (.int .u64 y3), (.int .u64 T2), (.agg #[.slice a1 len1 cap1]), (.agg #[.slice a2 len2 cap2]), (.slice (some ⟨g4v, 0, none⟩) 2 2), (.bool false), (.bool true), (.bool true), ud, ud, (.bool true), ud, ud, ud, ud, ud, ud, ud, ud, ud, ud, ud, ud, ud, ud, ud, ud, ud, ud, ud, ud, ud, ud, ud, ud, ud, ud, ud, ud, ud, ud, ud, ud, ud, ud, ud, ud, ud, ud, ud, ud, ud, ud, ud, ud, ud, ud, ud, ud, ud, ud, ud, ud, ud, ud, ud, ud, ud, ud, ud, ud, ud, ud, ud, ud, ud, ud, ud, ud, ud, ud, ud, ud], []⟩) (by kernel_rfl) ?_
    refine wp_cond_true (by kernel_rfl) ?_
    refine wp_seq ?_
    refine wl_start ?_
    refine wl_take (some 8) (.bool true) rfl rfl (by kernel_rfl) ?_
    refine wl_nil ?_
    refine wp_then ?_
    refine wp_ret ?_
    repeat (first | refine ret_then ?_ | refine ret_block ?_)
    refine bodyPost_ret (results_tmp rfl _ _ _) rfl ?_
    exact ⟨by kernel_rfl, BB⟩
end shareRate
end Go.Proofs.YtdgdfhefnlaalaaDoor
