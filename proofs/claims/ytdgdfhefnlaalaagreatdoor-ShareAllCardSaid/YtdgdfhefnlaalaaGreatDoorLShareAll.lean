/- gleanlaw10.ShareAll returns true for all numbers. -/
import Derived.Test.YtdgdfhefnlaalaaGreatDoorJsb
import Derived.Test.YtdgdfhefnlaalaaGreatDoorJta
namespace Go.Proofs.YtdgdfhefnlaalaaGreatDoor
namespace shareAll
open Go.RowKit Go.Lib Pg Lim Sh
attribute [local go_sem] Oper.semAt_some
theorem w64 {x : Int} (h : 0 ≤ x ∧ x < 1000000000000000000) : 0 ≤ x ∧ x < 18446744073709551616 := by omega
theorem u64r {v : Int} (b : (Lit.int .u64 v).wf = true) : 0 ≤ v ∧ v < 18446744073709551616 := by
  have := bounds_u64 b
  omega
theorem decS {w : World} {ao ao' : Option Addr} {n c n' c' : Nat} {x : Int} (h : NatO w ao n c x) (h' : NatO w ao' n' c' x) (hn : n ≤ 4398046511104) (hn' : n' ≤ 4398046511104) :
    Calls Tryz.prog 12 #[.agg #[.slice ao n c], .agg #[.slice ao' n' c']] w fun e w' => e = .returned (.bool true) ∧ Below w.heap.size w w' := by
  have t := hDec h h' hn hn'
  rw [decide_eq_true rfl] at t
  exact t
theorem cut_full (n : Int) : n * min 10000 10000 / 10000 = n := Int.mul_ediv_cancel n (by decide)
theorem cut_none (n : Int) : n * min 0 10000 / 10000 = 0 := by
  rw [show min (0 : Int) 10000 = 0 from rfl, Int.mul_zero]; rfl
theorem bsx46_2 {a : Act} {o : Oper} {k0 k1 : Nat} {a0 a1 : Option Addr} {n0 c0 n1 c1 : Nat} (ho : o.op = .buildSlice 46 2 #[(0, .tmp k0), (1, .tmp k1)]) (h0 : a.eval (.tmp k0) = .agg #[.slice a0 n0 c0]) (h1 : a.eval (.tmp k1) = .agg #[.slice a1 n1 c1]) (w : World) : (execOp a.eval o).run Tryz.prog w = .ok (.value (.slice (some ⟨w.heap.size, 0, none⟩) 2 2)) (w.alloc (.cells [.slice a0 n0 c0, .slice a1 n1 c1].toArray 26)) := by
  have h0' : a.tmps[k0]?.getD undef = .agg #[.slice a0 n0 c0] := by simpa [Act.eval] using h0
  have h1' : a.tmps[k1]?.getD undef = .agg #[.slice a1 n1 c1] := by simpa [Act.eval] using h1
  simp only [execOp, ho]
  go_simp
set_option maxHeartbeats 16000000 in
set_option maxRecDepth 100000 in
theorem walk (y0 : Int) (a1 : Option Addr) (len1 cap1 : Nat) (z1 : List Int) (a2 : Option Addr) (len2 cap2 : Nat) (z2 : List Int) (y3 : Int) (y4 : Int) (w : World) (wy0 : (Lit.int .u64 y0).wf = true) (w1 : IsRow w a1 len1 cap1 z1) (w2 : IsRow w a2 len2 cap2 z2) (wy3 : (Lit.int .u64 y3).wf = true) (wy4 : (Lit.int .u64 y4).wf = true) :
    Calls Tryz.prog 3 #[.int .u64 y0, .agg #[.slice a1 len1 cap1], .agg #[.slice a2 len2 cap2], .int .u64 y3, .int .u64 y4] w fun e w' => e = .returned (.bool true) ∧ Below w.heap.size w w' := by
  obtain ⟨g1, o1, l1, hl1, hc1, hm1, W1, h1⟩ := w1.open
  have N1 : NatA w a1 len1 cap1 (val l1) := ⟨g1, o1, l1, hl1, hc1, W1, h1, rfl⟩
  clear h1 w1 W1 hl1
  generalize val l1 = x1 at *
  have hx1 := N1.nonneg
  obtain ⟨g2, o2, l2, hl2, hc2, hm2, W2, h2⟩ := w2.open
  have N2 : NatA w a2 len2 cap2 (val l2) := ⟨g2, o2, l2, hl2, hc2, W2, h2, rfl⟩
  clear h2 w2 W2 hl2
  generalize val l2 = x2 at *
  have hx2 := N2.nonneg
  have by0 := u64r wy0
  clear wy0
  have by3 := u64r wy3
  clear wy3
  have by4 := u64r wy4
  clear wy4
  have BB := Below.refl w.heap.size w
  go_enter Tryz.func3, Tryz.ntmps3
  refine wp_seq ?_
  refine wl_start ?_
  have bs0 := BB.size
  refine wl_box 6 1 26 [.slice a1 len1 cap1] rfl rfl rfl (by kernel_rfl) boxx26 ?_
  intro v1w g1v X6 hg1v B
  replace N1 := N1.keep B
  replace N2 := N2.keep B
  replace BB := joinB BB B
  clear B
  have bs1 := BB.size
  refine wl_box 7 2 26 [.slice a2 len2 cap2] rfl rfl rfl (by kernel_rfl) boxx26 ?_
  intro v2w g2v X7 hg2v B
  replace N1 := N1.keep B
  replace N2 := N2.keep B
  replace X6 := X6.keep B
  replace BB := joinB BB B
  clear B
  refine wl_take (some 10) (.bool false) rfl rfl (by kernel_rfl) ?_
  refine wl_nil ?_
  refine wp_then ?_
  refine wp_seq ?_
  refine wp_seq ?_
  refine wl_start ?_
  refine wl_call (some 23) 4 #[] rfl rfl (by kernel_rfl) (knownS) ?_
  rintro e1 v3w ⟨rfl, B⟩
  refine ⟨_, rfl, ?_⟩
  replace N1 := N1.keep B
  replace N2 := N2.keep B
  replace X6 := X6.keep B
  replace X7 := X7.keep B
  replace BB := joinB BB B
  clear B
  refine wl_take (some 24) (.bool false) rfl rfl (by kernel_rfl) ?_
  refine wl_nil ?_
  refine wp_then ?_
  refine wp_cond_false (by kernel_rfl) ?_
  refine wp_skip_then ?_
  refine wp_seq ?_
  refine wp_seq ?_
  refine wl_start ?_
  refine wl_take (some 25) (.agg #[.slice a1 len1 cap1]) rfl rfl (run_lp 6 (by kernel_rfl) (by kernel_rfl) (ldx26 (X6.cell (i := 0) rfl))) ?_
  refine wl_take (some 26) (.agg #[.slice a2 len2 cap2]) rfl rfl (run_lp 7 (by kernel_rfl) (by kernel_rfl) (ldx26 (X7.cell (i := 0) rfl))) ?_
  refine wl_list 27 [.slice a1 len1 cap1, .slice a2 len2 cap2] 26 rfl rfl (bsx46_2 (k0 := 25) (k1 := 26) (a0 := a1) (n0 := len1) (c0 := cap1) (a1 := a2) (n1 := len2) (c1 := cap2) (by kernel_rfl) (by kernel_rfl) (by kernel_rfl)) ?_
  intro v4w g4v L4 hg4v B
  replace N1 := N1.keep B
  replace N2 := N2.keep B
  replace X6 := X6.keep B
  replace X7 := X7.keep B
  replace BB := joinB BB B
  clear B
  by_cases cc1 : len1 ≤ 12 ∧ len2 ≤ 12
  · skip
    refine wl_call (some 28) 5 #[.slice (some ⟨g4v, 0, none⟩) 2 2] rfl rfl (by kernel_rfl) (small2 L4 hm1 hm2 true (decide_eq_true cc1)) ?_
    rintro e1 v5w ⟨rfl, B⟩
    refine ⟨_, rfl, ?_⟩
    replace N1 := N1.keep B
    replace N2 := N2.keep B
    replace X6 := X6.keep B
    replace X7 := X7.keep B
    replace L4 := L4.keep B
    replace BB := joinB BB B
    clear B
    refine wl_take (some 29) (.bool false) rfl rfl (by kernel_rfl) ?_
    refine wl_nil ?_
    refine wp_then ?_
    refine wp_cond_false (by kernel_rfl) ?_
    refine wp_skip_then ?_
    refine wp_seq ?_
    refine wl_start ?_
    refine wl_take (some 31) (.int .u64 y0) rfl rfl (by kernel_rfl) ?_
    refine wl_take (some 32) (.agg #[.slice a1 len1 cap1]) rfl rfl (run_lp 6 (by kernel_rfl) (by kernel_rfl) (ldx26 (X6.cell (i := 0) rfl))) ?_
    refine wl_take (some 33) (.int .u64 y3) rfl rfl (by kernel_rfl) ?_
    refine wl_call (some 34) 6 #[.int .u64 y0, .agg #[.slice a1 len1 cap1], .int .u64 y3] rfl rfl (by kernel_rfl) (sIssue by0 N1 (by omega) by3) ?_
    rintro e1 v6w ⟨Az2, Nz2, Cz2, rfl, Oz2, Kz2, B⟩
    refine ⟨_, rfl, ?_⟩
    replace N1 := N1.keep B
    replace N2 := N2.keep B
    replace X6 := X6.keep B
    replace X7 := X7.keep B
    replace L4 := L4.keep B
    replace BB := joinB BB B
    clear B
    refine wl_take (some 30) (.tuple #[.agg #[.slice Az2 Nz2 Cz2], .int .i64 (isE y0 x1 y3)]) rfl rfl (by kernel_rfl) ?_
    refine wl_take (some 35) (.agg #[.slice Az2 Nz2 Cz2]) rfl rfl (by kernel_rfl) ?_
    refine wl_take (some 36) (.int .i64 (isE y0 x1 y3)) rfl rfl (by kernel_rfl) ?_
    have bs6 := BB.size
    refine wl_new 11 35 26 [.slice none 0 0] [.slice Az2 Nz2 Cz2] rfl rfl rfl rfl rfl rfl allocx26 (fun _ => by kernel_rfl) (fun _ => by kernel_rfl) (by kernel_rfl) rfl (by kernel_rfl) ?_
    intro v7w g7v X11 hg7v B
    replace N1 := N1.keep B
    replace N2 := N2.keep B
    replace X6 := X6.keep B
    replace X7 := X7.keep B
    replace L4 := L4.keep B
    replace Oz2 := Oz2.keep B
    replace BB := joinB BB B
    clear B
    refine wl_take (some 12) (.int .i64 (isE y0 x1 y3)) rfl rfl (by kernel_rfl) ?_
    refine wl_nil ?_
    refine wp_then ?_
    refine wp_frame (a' := ⟨#[(.int .u64 y0), (.agg #[.slice a1 len1 cap1]), (.agg #[.slice a2 len2 cap2]), (.int .u64 y3), (.int .u64 y4), ud, (.pointer (some ⟨g1v, 0, none⟩)), (.pointer (some ⟨g2v, 0, none⟩)), ud, ud, (.bool false), (.pointer (some ⟨g7v, 0, none⟩)), (.int .i64 (isE y0 x1 y3)), ud, ud, ud, ud, ud, ud, ud, ud, ud, ud, (.bool true), (.bool false), (.agg #[.slice a1 len1 cap1]), (.agg #[.slice a2 len2 cap2]), (.slice (some ⟨g4v, 0, none⟩) 2 2), (.bool true), (.bool false), (.tuple #[.agg #[.slice Az2 Nz2 Cz2], .int .i64 (isE y0 x1 y3)]), (.int .u64 y0), (.agg #[.slice a1 len1 cap1]), (.int .u64 y3), (.tuple #[.agg #[.slice Az2 Nz2 Cz2], .int .i64 (isE y0 x1 y3)]), (.agg #[.slice Az2 Nz2 Cz2]), (.int .i64 (isE y0 x1 y3)), ud, ud, ud, ud, ud, ud, ud, ud, ud, ud, ud, ud, ud, ud, ud, ud, ud, ud, ud, ud, ud, ud, ud, ud, ud, ud, ud, ud, ud, ud, ud, ud, ud, ud, ud, ud, ud, ud, ud, ud, ud, ud, ud, ud, ud, ud, ud, ud, ud, ud, ud, ud, ud, ud, ud, ud, ud, ud, ud, ud, ud, ud, ud, ud, ud, ud, ud, ud, ud, ud, ud, ud, ud, ud, ud, ud, ud, ud, ud, ud, ud, ud, ud], []⟩) (by kernel_rfl) ?_
    refine wp_seq ?_
    refine wl_start ?_
    refine wl_take (some 38) (.int .u64 y0) rfl rfl (by kernel_rfl) ?_
    refine wl_take (some 39) (.agg #[.slice a1 len1 cap1]) rfl rfl (run_lp 6 (by kernel_rfl) (by kernel_rfl) (ldx26 (X6.cell (i := 0) rfl))) ?_
    refine wl_take (some 40) (.int .u64 y3) rfl rfl (by kernel_rfl) ?_
    refine wl_call (some 41) 7 #[.int .u64 y0, .agg #[.slice a1 len1 cap1], .int .u64 y3] rfl rfl (by kernel_rfl) (tIssue by0 N1 (by omega) by3) ?_
    rintro e1 v8w ⟨Az3, Nz3, Cz3, rfl, Oz3, Kz3, B⟩
    refine ⟨_, rfl, ?_⟩
    replace N1 := N1.keep B
    replace N2 := N2.keep B
    replace X6 := X6.keep B
    replace X7 := X7.keep B
    replace L4 := L4.keep B
    replace Oz2 := Oz2.keep B
    replace X11 := X11.keep B
    replace BB := joinB BB B
    clear B
    refine wl_take (some 37) (.tuple #[.agg #[.slice Az3 Nz3 Cz3], .int .i64 (isE y0 x1 y3)]) rfl rfl (by kernel_rfl) ?_
    refine wl_take (some 42) (.agg #[.slice Az3 Nz3 Cz3]) rfl rfl (by kernel_rfl) ?_
    refine wl_take (some 43) (.int .i64 (isE y0 x1 y3)) rfl rfl (by kernel_rfl) ?_
    have bs8 := BB.size
    refine wl_new 13 42 26 [.slice none 0 0] [.slice Az3 Nz3 Cz3] rfl rfl rfl rfl rfl rfl allocx26 (fun _ => by kernel_rfl) (fun _ => by kernel_rfl) (by kernel_rfl) rfl (by kernel_rfl) ?_
    intro v9w g9v X13 hg9v B
    replace N1 := N1.keep B
    replace N2 := N2.keep B
    replace X6 := X6.keep B
    replace X7 := X7.keep B
    replace L4 := L4.keep B
    replace Oz2 := Oz2.keep B
    replace X11 := X11.keep B
    replace Oz3 := Oz3.keep B
    replace BB := joinB BB B
    clear B
    refine wl_take (some 14) (.int .i64 (isE y0 x1 y3)) rfl rfl (by kernel_rfl) ?_
    refine wl_nil ?_
    refine wp_then ?_
    refine wp_seq ?_
    refine wl_start ?_
    refine wl_take (some 45) (.int .u64 y0) rfl rfl (by kernel_rfl) ?_
    refine wl_take (some 46) (.agg #[.slice a1 len1 cap1]) rfl rfl (run_lp 6 (by kernel_rfl) (by kernel_rfl) (ldx26 (X6.cell (i := 0) rfl))) ?_
    refine wl_take (some 47) (.agg #[.slice a2 len2 cap2]) rfl rfl (run_lp 7 (by kernel_rfl) (by kernel_rfl) (ldx26 (X7.cell (i := 0) rfl))) ?_
    refine wl_call (some 48) 8 #[.int .u64 y0, .agg #[.slice a1 len1 cap1], .agg #[.slice a2 len2 cap2]] rfl rfl (by kernel_rfl) (sRedeem by0 N1 (by omega) N2 (by omega)) ?_
    rintro e1 v10w ⟨rfl, B⟩
    refine ⟨_, rfl, ?_⟩
    replace N1 := N1.keep B
    replace N2 := N2.keep B
    replace X6 := X6.keep B
    replace X7 := X7.keep B
    replace L4 := L4.keep B
    replace Oz2 := Oz2.keep B
    replace X11 := X11.keep B
    replace Oz3 := Oz3.keep B
    replace X13 := X13.keep B
    replace BB := joinB BB B
    clear B
    have rg4 := re_rng (S := x1) by0 N2.nonneg
    have kf5 := re_facts (T := y0) (S := x1) (x := x2) by0.1 N2.nonneg
    refine wl_take (some 44) (.tuple #[.int .u64 (reV y0 x1 x2), .int .i64 (reE x1 x2)]) rfl rfl (by kernel_rfl) ?_
    refine wl_take (some 49) (.int .u64 (reV y0 x1 x2)) rfl rfl (by kernel_rfl) ?_
    refine wl_take (some 50) (.int .i64 (reE x1 x2)) rfl rfl (by kernel_rfl) ?_
    refine wl_take (some 15) (.int .u64 (reV y0 x1 x2)) rfl rfl (by kernel_rfl) ?_
    refine wl_take (some 16) (.int .i64 (reE x1 x2)) rfl rfl (by kernel_rfl) ?_
    refine wl_nil ?_
    refine wp_then ?_
    refine wp_frame (a' := ⟨#[(.int .u64 y0), (.agg #[.slice a1 len1 cap1]), (.agg #[.slice a2 len2 cap2]), (.int .u64 y3), (.int .u64 y4), ud, (.pointer (some ⟨g1v, 0, none⟩)), (.pointer (some ⟨g2v, 0, none⟩)), ud, ud, (.bool false), (.pointer (some ⟨g7v, 0, none⟩)), (.int .i64 (isE y0 x1 y3)), (.pointer (some ⟨g9v, 0, none⟩)), (.int .i64 (isE y0 x1 y3)), (.int .u64 (reV y0 x1 x2)), (.int .i64 (reE x1 x2)), ud, ud, ud, ud, ud, ud, (.bool true), (.bool false), (.agg #[.slice a1 len1 cap1]), (.agg #[.slice a2 len2 cap2]), (.slice (some ⟨g4v, 0, none⟩) 2 2), (.bool true), (.bool false), (.tuple #[.agg #[.slice Az2 Nz2 Cz2], .int .i64 (isE y0 x1 y3)]), (.int .u64 y0), (.agg #[.slice a1 len1 cap1]), (.int .u64 y3), (.tuple #[.agg #[.slice Az2 Nz2 Cz2], .int .i64 (isE y0 x1 y3)]), (.agg #[.slice Az2 Nz2 Cz2]), (.int .i64 (isE y0 x1 y3)), (.tuple #[.agg #[.slice Az3 Nz3 Cz3], .int .i64 (isE y0 x1 y3)]), (.int .u64 y0), (.agg #[.slice a1 len1 cap1]), (.int .u64 y3), (.tuple #[.agg #[.slice Az3 Nz3 Cz3], .int .i64 (isE y0 x1 y3)]), (.agg #[.slice Az3 Nz3 Cz3]), (.int .i64 (isE y0 x1 y3)), (.tuple #[.int .u64 (reV y0 x1 x2), .int .i64 (reE x1 x2)]), (.int .u64 y0), (.agg #[.slice a1 len1 cap1]), (.agg #[.slice a2 len2 cap2]), (.tuple #[.int .u64 (reV y0 x1 x2), .int .i64 (reE x1 x2)]), (.int .u64 (reV y0 x1 x2)), (.int .i64 (reE x1 x2)), ud, ud, ud, ud, ud, ud, ud, ud, ud, ud, ud, ud, ud, ud, ud, ud, ud, ud, ud, ud, ud, ud, ud, ud, ud, ud, ud, ud, ud, ud, ud, ud, ud, ud, ud, ud, ud, ud, ud, ud, ud, ud, ud, ud, ud, ud, ud, ud, ud, ud, ud, ud, ud, ud, ud, ud, ud, ud, ud, ud, ud, ud, ud, ud, ud, ud, ud, ud, ud], []⟩) (by kernel_rfl) ?_
    refine wp_seq ?_
    refine wl_start ?_
    refine wl_take (some 52) (.int .u64 y0) rfl rfl (by kernel_rfl) ?_
    refine wl_take (some 53) (.agg #[.slice a1 len1 cap1]) rfl rfl (run_lp 6 (by kernel_rfl) (by kernel_rfl) (ldx26 (X6.cell (i := 0) rfl))) ?_
    refine wl_take (some 54) (.agg #[.slice a2 len2 cap2]) rfl rfl (run_lp 7 (by kernel_rfl) (by kernel_rfl) (ldx26 (X7.cell (i := 0) rfl))) ?_
    refine wl_call (some 55) 9 #[.int .u64 y0, .agg #[.slice a1 len1 cap1], .agg #[.slice a2 len2 cap2]] rfl rfl (by kernel_rfl) (tRedeem by0 N1 (by omega) N2 (by omega)) ?_
    rintro e1 v11w ⟨rfl, B⟩
    refine ⟨_, rfl, ?_⟩
    replace N1 := N1.keep B
    replace N2 := N2.keep B
    replace X6 := X6.keep B
    replace X7 := X7.keep B
    replace L4 := L4.keep B
    replace Oz2 := Oz2.keep B
    replace X11 := X11.keep B
    replace Oz3 := Oz3.keep B
    replace X13 := X13.keep B
    replace BB := joinB BB B
    clear B
    have rg6 := re_rng (S := x1) by0 N2.nonneg
    have kf7 := re_facts (T := y0) (S := x1) (x := x2) by0.1 N2.nonneg
    refine wl_take (some 51) (.tuple #[.int .u64 (reV y0 x1 x2), .int .i64 (reE x1 x2)]) rfl rfl (by kernel_rfl) ?_
    refine wl_take (some 56) (.int .u64 (reV y0 x1 x2)) rfl rfl (by kernel_rfl) ?_
    refine wl_take (some 57) (.int .i64 (reE x1 x2)) rfl rfl (by kernel_rfl) ?_
    refine wl_take (some 17) (.int .u64 (reV y0 x1 x2)) rfl rfl (by kernel_rfl) ?_
    refine wl_take (some 18) (.int .i64 (reE x1 x2)) rfl rfl (by kernel_rfl) ?_
    refine wl_nil ?_
    refine wp_then ?_
    refine wp_seq ?_
    refine wl_start ?_
    refine wl_take (some 59) (.int .u64 y0) rfl rfl (by kernel_rfl) ?_
    refine wl_take (some 60) (.agg #[.slice a1 len1 cap1]) rfl rfl (run_lp 6 (by kernel_rfl) (by kernel_rfl) (ldx26 (X6.cell (i := 0) rfl))) ?_
    refine wl_take (some 61) (.int .u64 y3) rfl rfl (by kernel_rfl) ?_
    refine wl_call (some 62) 10 #[.int .u64 y0, .agg #[.slice a1 len1 cap1], .int .u64 y3] rfl rfl (by kernel_rfl) (sNeed by0 N1 (by omega) by3) ?_
    rintro e1 v12w ⟨Az8, Nz8, Cz8, rfl, Oz8, Kz8, B⟩
    refine ⟨_, rfl, ?_⟩
    replace N1 := N1.keep B
    replace N2 := N2.keep B
    replace X6 := X6.keep B
    replace X7 := X7.keep B
    replace L4 := L4.keep B
    replace Oz2 := Oz2.keep B
    replace X11 := X11.keep B
    replace Oz3 := Oz3.keep B
    replace X13 := X13.keep B
    replace BB := joinB BB B
    clear B
    refine wl_take (some 58) (.tuple #[.agg #[.slice Az8 Nz8 Cz8], .int .i64 (neE y0 y3)]) rfl rfl (by kernel_rfl) ?_
    refine wl_take (some 63) (.agg #[.slice Az8 Nz8 Cz8]) rfl rfl (by kernel_rfl) ?_
    refine wl_take (some 64) (.int .i64 (neE y0 y3)) rfl rfl (by kernel_rfl) ?_
    have bs12 := BB.size
    refine wl_new 19 63 26 [.slice none 0 0] [.slice Az8 Nz8 Cz8] rfl rfl rfl rfl rfl rfl allocx26 (fun _ => by kernel_rfl) (fun _ => by kernel_rfl) (by kernel_rfl) rfl (by kernel_rfl) ?_
    intro v13w g13v X19 hg13v B
    replace N1 := N1.keep B
    replace N2 := N2.keep B
    replace X6 := X6.keep B
    replace X7 := X7.keep B
    replace L4 := L4.keep B
    replace Oz2 := Oz2.keep B
    replace X11 := X11.keep B
    replace Oz3 := Oz3.keep B
    replace X13 := X13.keep B
    replace Oz8 := Oz8.keep B
    replace BB := joinB BB B
    clear B
    refine wl_take (some 20) (.int .i64 (neE y0 y3)) rfl rfl (by kernel_rfl) ?_
    refine wl_nil ?_
    refine wp_then ?_
    refine wp_frame (a' := ⟨#[(.int .u64 y0), (.agg #[.slice a1 len1 cap1]), (.agg #[.slice a2 len2 cap2]), (.int .u64 y3), (.int .u64 y4), ud, (.pointer (some ⟨g1v, 0, none⟩)), (.pointer (some ⟨g2v, 0, none⟩)), ud, ud, (.bool false), (.pointer (some ⟨g7v, 0, none⟩)), (.int .i64 (isE y0 x1 y3)), (.pointer (some ⟨g9v, 0, none⟩)), (.int .i64 (isE y0 x1 y3)), (.int .u64 (reV y0 x1 x2)), (.int .i64 (reE x1 x2)), (.int .u64 (reV y0 x1 x2)), (.int .i64 (reE x1 x2)), (.pointer (some ⟨g13v, 0, none⟩)), (.int .i64 (neE y0 y3)), ud, ud, (.bool true), (.bool false), (.agg #[.slice a1 len1 cap1]), (.agg #[.slice a2 len2 cap2]), (.slice (some ⟨g4v, 0, none⟩) 2 2), (.bool true), (.bool false), (.tuple #[.agg #[.slice Az2 Nz2 Cz2], .int .i64 (isE y0 x1 y3)]), (.int .u64 y0), (.agg #[.slice a1 len1 cap1]), (.int .u64 y3), (.tuple #[.agg #[.slice Az2 Nz2 Cz2], .int .i64 (isE y0 x1 y3)]), (.agg #[.slice Az2 Nz2 Cz2]), (.int .i64 (isE y0 x1 y3)), (.tuple #[.agg #[.slice Az3 Nz3 Cz3], .int .i64 (isE y0 x1 y3)]), (.int .u64 y0), (.agg #[.slice a1 len1 cap1]), (.int .u64 y3), (.tuple #[.agg #[.slice Az3 Nz3 Cz3], .int .i64 (isE y0 x1 y3)]), (.agg #[.slice Az3 Nz3 Cz3]), (.int .i64 (isE y0 x1 y3)), (.tuple #[.int .u64 (reV y0 x1 x2), .int .i64 (reE x1 x2)]), (.int .u64 y0), (.agg #[.slice a1 len1 cap1]), (.agg #[.slice a2 len2 cap2]), (.tuple #[.int .u64 (reV y0 x1 x2), .int .i64 (reE x1 x2)]), (.int .u64 (reV y0 x1 x2)), (.int .i64 (reE x1 x2)), (.tuple #[.int .u64 (reV y0 x1 x2), .int .i64 (reE x1 x2)]), (.int .u64 y0), (.agg #[.slice a1 len1 cap1]), (.agg #[.slice a2 len2 cap2]), (.tuple #[.int .u64 (reV y0 x1 x2), .int .i64 (reE x1 x2)]), (.int .u64 (reV y0 x1 x2)), (.int .i64 (reE x1 x2)), (.tuple #[.agg #[.slice Az8 Nz8 Cz8], .int .i64 (neE y0 y3)]), (.int .u64 y0), (.agg #[.slice a1 len1 cap1]), (.int .u64 y3), (.tuple #[.agg #[.slice Az8 Nz8 Cz8], .int .i64 (neE y0 y3)]), (.agg #[.slice Az8 Nz8 Cz8]), (.int .i64 (neE y0 y3)), ud, ud, ud, ud, ud, ud, ud, ud, ud, ud, ud, ud, ud, ud, ud, ud, ud, ud, ud, ud, ud, ud, ud, ud, ud, ud, ud, ud, ud, ud, ud, ud, ud, ud, ud, ud, ud, ud, ud, ud, ud, ud, ud, ud, ud, ud, ud, ud, ud, ud, ud, ud, ud, ud, ud], []⟩) (by kernel_rfl) ?_
    refine wp_seq ?_
    refine wl_start ?_
    refine wl_take (some 66) (.int .u64 y0) rfl rfl (by kernel_rfl) ?_
    refine wl_take (some 67) (.agg #[.slice a1 len1 cap1]) rfl rfl (run_lp 6 (by kernel_rfl) (by kernel_rfl) (ldx26 (X6.cell (i := 0) rfl))) ?_
    refine wl_take (some 68) (.int .u64 y3) rfl rfl (by kernel_rfl) ?_
    refine wl_call (some 69) 11 #[.int .u64 y0, .agg #[.slice a1 len1 cap1], .int .u64 y3] rfl rfl (by kernel_rfl) (tNeed by0 N1 (by omega) by3) ?_
    rintro e1 v14w ⟨Az9, Nz9, Cz9, rfl, Oz9, Kz9, B⟩
    refine ⟨_, rfl, ?_⟩
    replace N1 := N1.keep B
    replace N2 := N2.keep B
    replace X6 := X6.keep B
    replace X7 := X7.keep B
    replace L4 := L4.keep B
    replace Oz2 := Oz2.keep B
    replace X11 := X11.keep B
    replace Oz3 := Oz3.keep B
    replace X13 := X13.keep B
    replace Oz8 := Oz8.keep B
    replace X19 := X19.keep B
    replace BB := joinB BB B
    clear B
    refine wl_take (some 65) (.tuple #[.agg #[.slice Az9 Nz9 Cz9], .int .i64 (neE y0 y3)]) rfl rfl (by kernel_rfl) ?_
    refine wl_take (some 70) (.agg #[.slice Az9 Nz9 Cz9]) rfl rfl (by kernel_rfl) ?_
    refine wl_take (some 71) (.int .i64 (neE y0 y3)) rfl rfl (by kernel_rfl) ?_
    have bs14 := BB.size
    refine wl_new 21 70 26 [.slice none 0 0] [.slice Az9 Nz9 Cz9] rfl rfl rfl rfl rfl rfl allocx26 (fun _ => by kernel_rfl) (fun _ => by kernel_rfl) (by kernel_rfl) rfl (by kernel_rfl) ?_
    intro v15w g15v X21 hg15v B
    replace N1 := N1.keep B
    replace N2 := N2.keep B
    replace X6 := X6.keep B
    replace X7 := X7.keep B
    replace L4 := L4.keep B
    replace Oz2 := Oz2.keep B
    replace X11 := X11.keep B
    replace Oz3 := Oz3.keep B
    replace X13 := X13.keep B
    replace Oz8 := Oz8.keep B
    replace X19 := X19.keep B
    replace Oz9 := Oz9.keep B
    replace BB := joinB BB B
    clear B
    refine wl_take (some 22) (.int .i64 (neE y0 y3)) rfl rfl (by kernel_rfl) ?_
    refine wl_nil ?_
    refine wp_then ?_
    refine wp_seq ?_
    refine rg_start (S := fun w' => Below v15w.drew.heap.size v15w.drew w') (by kernel_rfl) (Below.refl _ _) ?_
    replace N1 := N1.drew
    replace N2 := N2.drew
    replace X6 := X6.drew
    replace X7 := X7.drew
    replace L4 := L4.drew
    replace Oz2 := Oz2.drew
    replace X11 := X11.drew
    replace Oz3 := Oz3.drew
    replace X13 := X13.drew
    replace Oz8 := Oz8.drew
    replace X19 := X19.drew
    replace Oz9 := Oz9.drew
    replace X21 := X21.drew
    replace BB := BB.drew
    have hS := Below.refl v15w.drew.heap.size v15w.drew
    have UX6 := X6
    have UX7 := X7
    have UL4 := L4
    have UX11 := X11
    have UX13 := X13
    have UX19 := X19
    have UX21 := X21
    refine rg_load 0 (some 72) (.agg #[.slice Az2 Nz2 Cz2]) 26 11 (g7v) 0 (by kernel_rfl) (by kernel_rfl) (by kernel_rfl) (fun _ hb => ldx26 ((UX11.keep hb).cell (i := 0) rfl)) (fun _ _ _ h => h) hS ?_
    refine rg_load 1 (some 73) (.agg #[.slice Az3 Nz3 Cz3]) 26 13 (g9v) 0 (by kernel_rfl) (by kernel_rfl) (by kernel_rfl) (fun _ hb => ldx26 ((UX13.keep hb).cell (i := 0) rfl)) (fun _ _ _ h => h) hS ?_
    refine rg_call 2 (some 74) 12 #[.agg #[.slice Az2 Nz2 Cz2], .agg #[.slice Az3 Nz3 Cz3]] (by kernel_rfl) (by kernel_rfl) (decS Oz2 Oz3 (by omega) (by omega)) ?_
    rintro e1 v16w ⟨rfl, B⟩
    refine ⟨_, rfl, joinB hS B, ?_⟩
    replace hS := joinB hS B
    replace N1 := N1.keep B
    replace N2 := N2.keep B
    replace X6 := X6.keep B
    replace X7 := X7.keep B
    replace L4 := L4.keep B
    replace Oz2 := Oz2.keep B
    replace X11 := X11.keep B
    replace Oz3 := Oz3.keep B
    replace X13 := X13.keep B
    replace Oz8 := Oz8.keep B
    replace X19 := X19.keep B
    replace Oz9 := Oz9.keep B
    replace X21 := X21.keep B
    replace BB := joinB BB B
    clear B
    refine rg_take 3 (some 75) (.bool true) (by kernel_rfl) (fun _ _ => by kernel_rfl) (fun _ _ _ h => h) hS ?_
    refine rg_take 4 (some 76) (.int .i64 (isE y0 x1 y3)) (by kernel_rfl) (fun _ _ => by kernel_rfl) (fun _ _ _ h => h) hS ?_
    refine rg_take 5 (some 77) (.int .i64 (isE y0 x1 y3)) (by kernel_rfl) (fun _ _ => by kernel_rfl) (fun _ _ _ h => h) hS ?_
    refine rg_eq 6 (some 78) (.bool ((isE y0 x1 y3 : Int) == isE y0 x1 y3)) (.bool true) (congrArg Value.bool (beq_self_eq_true _)) (by kernel_rfl) (fun _ _ => by kernel_rfl) (fun _ _ _ h => h) hS ?_
    refine rg_take 7 (some 79) (.bool true) (by kernel_rfl) (fun _ _ => by kernel_rfl) (fun _ _ _ h => h) hS ?_
    refine rg_take 8 (some 80) (.bool true) (by kernel_rfl) (fun _ _ => by kernel_rfl) (fun _ _ _ h => h) hS ?_
    refine rg_take 9 (some 81) (.int .u64 (reV y0 x1 x2)) (by kernel_rfl) (fun _ _ => by kernel_rfl) (fun _ _ _ h => h) hS ?_
    refine rg_take 10 (some 82) (.int .u64 (reV y0 x1 x2)) (by kernel_rfl) (fun _ _ => by kernel_rfl) (fun _ _ _ h => h) hS ?_
    refine rg_eq 11 (some 83) (.bool ((reV y0 x1 x2 : Int) == reV y0 x1 x2)) (.bool true) (congrArg Value.bool (beq_self_eq_true _)) (by kernel_rfl) (fun _ _ => by kernel_rfl) (fun _ _ _ h => h) hS ?_
    refine rg_take 12 (some 84) (.bool true) (by kernel_rfl) (fun _ _ => by kernel_rfl) (fun _ _ _ h => h) hS ?_
    refine rg_take 13 (some 85) (.bool true) (by kernel_rfl) (fun _ _ => by kernel_rfl) (fun _ _ _ h => h) hS ?_
    refine rg_take 14 (some 86) (.int .i64 (reE x1 x2)) (by kernel_rfl) (fun _ _ => by kernel_rfl) (fun _ _ _ h => h) hS ?_
    refine rg_take 15 (some 87) (.int .i64 (reE x1 x2)) (by kernel_rfl) (fun _ _ => by kernel_rfl) (fun _ _ _ h => h) hS ?_
    refine rg_eq 16 (some 88) (.bool ((reE x1 x2 : Int) == reE x1 x2)) (.bool true) (congrArg Value.bool (beq_self_eq_true _)) (by kernel_rfl) (fun _ _ => by kernel_rfl) (fun _ _ _ h => h) hS ?_
    refine rg_take 17 (some 89) (.bool true) (by kernel_rfl) (fun _ _ => by kernel_rfl) (fun _ _ _ h => h) hS ?_
    refine rg_take 18 (some 90) (.bool true) (by kernel_rfl) (fun _ _ => by kernel_rfl) (fun _ _ _ h => h) hS ?_
    refine rg_load 19 (some 91) (.agg #[.slice Az8 Nz8 Cz8]) 26 19 (g13v) 0 (by kernel_rfl) (by kernel_rfl) (by kernel_rfl) (fun _ hb => ldx26 ((UX19.keep hb).cell (i := 0) rfl)) (fun _ _ _ h => h) hS ?_
    refine rg_load 20 (some 92) (.agg #[.slice Az9 Nz9 Cz9]) 26 21 (g15v) 0 (by kernel_rfl) (by kernel_rfl) (by kernel_rfl) (fun _ hb => ldx26 ((UX21.keep hb).cell (i := 0) rfl)) (fun _ _ _ h => h) hS ?_
    refine rg_call 21 (some 93) 12 #[.agg #[.slice Az8 Nz8 Cz8], .agg #[.slice Az9 Nz9 Cz9]] (by kernel_rfl) (by kernel_rfl) (decS Oz8 Oz9 (by omega) (by omega)) ?_
    rintro e1 v17w ⟨rfl, B⟩
    refine ⟨_, rfl, joinB hS B, ?_⟩
    replace hS := joinB hS B
    replace N1 := N1.keep B
    replace N2 := N2.keep B
    replace X6 := X6.keep B
    replace X7 := X7.keep B
    replace L4 := L4.keep B
    replace Oz2 := Oz2.keep B
    replace X11 := X11.keep B
    replace Oz3 := Oz3.keep B
    replace X13 := X13.keep B
    replace Oz8 := Oz8.keep B
    replace X19 := X19.keep B
    replace Oz9 := Oz9.keep B
    replace X21 := X21.keep B
    replace BB := joinB BB B
    clear B
    refine rg_take 22 (some 94) (.bool true) (by kernel_rfl) (fun _ _ => by kernel_rfl) (fun _ _ _ h => h) hS ?_
    refine rg_take 23 (some 95) (.bool true) (by kernel_rfl) (fun _ _ => by kernel_rfl) (fun _ _ _ h => h) hS ?_
    refine rg_take 24 (some 96) (.int .i64 (neE y0 y3)) (by kernel_rfl) (fun _ _ => by kernel_rfl) (fun _ _ _ h => h) hS ?_
    refine rg_take 25 (some 97) (.int .i64 (neE y0 y3)) (by kernel_rfl) (fun _ _ => by kernel_rfl) (fun _ _ _ h => h) hS ?_
    refine rg_eq 26 (some 98) (.bool ((neE y0 y3 : Int) == neE y0 y3)) (.bool true) (congrArg Value.bool (beq_self_eq_true _)) (by kernel_rfl) (fun _ _ => by kernel_rfl) (fun _ _ _ h => h) hS ?_
    refine rg_take 27 (some 99) (.bool true) (by kernel_rfl) (fun _ _ => by kernel_rfl) (fun _ _ _ h => h) hS ?_
    refine rg_take 28 (some 100) (.bool true) (by kernel_rfl) (fun _ _ => by kernel_rfl) (fun _ _ _ h => h) hS ?_
    refine rg_take 29 (some 101) (.int .u64 y0) (by kernel_rfl) (fun _ _ => by kernel_rfl) (fun _ _ _ h => h) hS ?_
    refine rg_load 30 (some 102) (.agg #[.slice a1 len1 cap1]) 26 6 (g1v) 0 (by kernel_rfl) (by kernel_rfl) (by kernel_rfl) (fun _ hb => ldx26 ((UX6.keep hb).cell (i := 0) rfl)) (fun _ _ _ h => h) hS ?_
    refine rg_load 31 (some 103) (.agg #[.slice a2 len2 cap2]) 26 7 (g2v) 0 (by kernel_rfl) (by kernel_rfl) (by kernel_rfl) (fun _ hb => ldx26 ((UX7.keep hb).cell (i := 0) rfl)) (fun _ _ _ h => h) hS ?_
    refine rg_take 33 (some 105) (.int .u64 y0) (by kernel_rfl) (fun _ _ => by kernel_rfl) (fun _ _ _ h => h) hS ?_
    refine rg_load 34 (some 106) (.agg #[.slice a1 len1 cap1]) 26 6 (g1v) 0 (by kernel_rfl) (by kernel_rfl) (by kernel_rfl) (fun _ hb => ldx26 ((UX6.keep hb).cell (i := 0) rfl)) (fun _ _ _ h => h) hS ?_
    refine rg_load 35 (some 107) (.agg #[.slice a2 len2 cap2]) 26 7 (g2v) 0 (by kernel_rfl) (by kernel_rfl) (by kernel_rfl) (fun _ hb => ldx26 ((UX7.keep hb).cell (i := 0) rfl)) (fun _ _ _ h => h) hS ?_
    refine rg_call 32 (some 104) 13 #[.int .u64 y0, .agg #[.slice a1 len1 cap1], .agg #[.slice a2 len2 cap2]] (by kernel_rfl) (by kernel_rfl) (sWorth by0 N1 (by omega) N2 (by omega)) ?_
    rintro e1 v18w ⟨Az10, Nz10, Cz10, rfl, Oz10, Kz10, B⟩
    refine ⟨_, rfl, joinB hS B, ?_⟩
    replace hS := joinB hS B
    replace N1 := N1.keep B
    replace N2 := N2.keep B
    replace X6 := X6.keep B
    replace X7 := X7.keep B
    replace L4 := L4.keep B
    replace Oz2 := Oz2.keep B
    replace X11 := X11.keep B
    replace Oz3 := Oz3.keep B
    replace X13 := X13.keep B
    replace Oz8 := Oz8.keep B
    replace X19 := X19.keep B
    replace Oz9 := Oz9.keep B
    replace X21 := X21.keep B
    replace BB := joinB BB B
    clear B
    refine rg_call 36 (some 108) 14 #[.int .u64 y0, .agg #[.slice a1 len1 cap1], .agg #[.slice a2 len2 cap2]] (by kernel_rfl) (by kernel_rfl) (tWorth by0 N1 (by omega) N2 (by omega)) ?_
    rintro e1 v19w ⟨Az11, Nz11, Cz11, rfl, Oz11, Kz11, B⟩
    refine ⟨_, rfl, joinB hS B, ?_⟩
    replace hS := joinB hS B
    replace N1 := N1.keep B
    replace N2 := N2.keep B
    replace X6 := X6.keep B
    replace X7 := X7.keep B
    replace L4 := L4.keep B
    replace Oz2 := Oz2.keep B
    replace X11 := X11.keep B
    replace Oz3 := Oz3.keep B
    replace X13 := X13.keep B
    replace Oz8 := Oz8.keep B
    replace X19 := X19.keep B
    replace Oz9 := Oz9.keep B
    replace X21 := X21.keep B
    replace Oz10 := Oz10.keep B
    replace BB := joinB BB B
    clear B
    refine rg_call 37 (some 109) 12 #[.agg #[.slice Az10 Nz10 Cz10], .agg #[.slice Az11 Nz11 Cz11]] (by kernel_rfl) (by kernel_rfl) (decS Oz10 Oz11 (by omega) (by omega)) ?_
    rintro e1 v20w ⟨rfl, B⟩
    refine ⟨_, rfl, joinB hS B, ?_⟩
    replace hS := joinB hS B
    replace N1 := N1.keep B
    replace N2 := N2.keep B
    replace X6 := X6.keep B
    replace X7 := X7.keep B
    replace L4 := L4.keep B
    replace Oz2 := Oz2.keep B
    replace X11 := X11.keep B
    replace Oz3 := Oz3.keep B
    replace X13 := X13.keep B
    replace Oz8 := Oz8.keep B
    replace X19 := X19.keep B
    replace Oz9 := Oz9.keep B
    replace X21 := X21.keep B
    replace Oz10 := Oz10.keep B
    replace Oz11 := Oz11.keep B
    replace BB := joinB BB B
    clear B
    refine rg_take 38 (some 110) (.bool true) (by kernel_rfl) (fun _ _ => by kernel_rfl) (fun _ _ _ h => h) hS ?_
    refine rg_take 39 (some 111) (.bool true) (by kernel_rfl) (fun _ _ => by kernel_rfl) (fun _ _ _ h => h) hS ?_
    refine rg_take 40 (some 112) (.int .u64 y3) (by kernel_rfl) (fun _ _ => by kernel_rfl) (fun _ _ _ h => h) hS ?_
    refine rg_take 41 (some 113) (.int .u64 y4) (by kernel_rfl) (fun _ _ => by kernel_rfl) (fun _ _ _ h => h) hS ?_
    refine rg_take 43 (some 115) (.int .u64 y3) (by kernel_rfl) (fun _ _ => by kernel_rfl) (fun _ _ _ h => h) hS ?_
    refine rg_take 44 (some 116) (.int .u64 y4) (by kernel_rfl) (fun _ _ => by kernel_rfl) (fun _ _ _ h => h) hS ?_
    refine rg_call 42 (some 114) 15 #[.int .u64 y3, .int .u64 y4] (by kernel_rfl) (by kernel_rfl) (sCut by3 by4) ?_
    rintro e1 v21w ⟨rfl, B⟩
    refine ⟨_, rfl, joinB hS B, ?_⟩
    replace hS := joinB hS B
    replace N1 := N1.keep B
    replace N2 := N2.keep B
    replace X6 := X6.keep B
    replace X7 := X7.keep B
    replace L4 := L4.keep B
    replace Oz2 := Oz2.keep B
    replace X11 := X11.keep B
    replace Oz3 := Oz3.keep B
    replace X13 := X13.keep B
    replace Oz8 := Oz8.keep B
    replace X19 := X19.keep B
    replace Oz9 := Oz9.keep B
    replace X21 := X21.keep B
    replace Oz10 := Oz10.keep B
    replace Oz11 := Oz11.keep B
    replace BB := joinB BB B
    clear B
    have rg12 := cut_rng (p := y4) by3 by4
    refine rg_call 45 (some 117) 16 #[.int .u64 y3, .int .u64 y4] (by kernel_rfl) (by kernel_rfl) (tCut by3 by4) ?_
    rintro e1 v22w ⟨rfl, B⟩
    refine ⟨_, rfl, joinB hS B, ?_⟩
    replace hS := joinB hS B
    replace N1 := N1.keep B
    replace N2 := N2.keep B
    replace X6 := X6.keep B
    replace X7 := X7.keep B
    replace L4 := L4.keep B
    replace Oz2 := Oz2.keep B
    replace X11 := X11.keep B
    replace Oz3 := Oz3.keep B
    replace X13 := X13.keep B
    replace Oz8 := Oz8.keep B
    replace X19 := X19.keep B
    replace Oz9 := Oz9.keep B
    replace X21 := X21.keep B
    replace Oz10 := Oz10.keep B
    replace Oz11 := Oz11.keep B
    replace BB := joinB BB B
    clear B
    have rg13 := cut_rng (p := y4) by3 by4
    refine rg_eq 46 (some 118) (.bool ((y3 * min y4 10000 / 10000 : Int) == y3 * min y4 10000 / 10000)) (.bool true) (congrArg Value.bool (beq_self_eq_true _)) (by kernel_rfl) (fun _ _ => by kernel_rfl) (fun _ _ _ h => h) hS ?_
    refine rg_take 47 (some 119) (.bool true) (by kernel_rfl) (fun _ _ => by kernel_rfl) (fun _ _ _ h => h) hS ?_
    refine rg_take 48 (some 10) (.bool true) (by kernel_rfl) (fun _ _ => by kernel_rfl) (fun _ _ _ h => h) hS ?_
    refine rg_done (by kernel_rfl) ?_
    clear hS UX6 UX7 UL4 UX11 UX13 UX19 UX21
    refine wp_then ?_
    refine wp_frame (a' := ⟨#[(.int .u64 y0), (.agg #[.slice a1 len1 cap1]), (.agg #[.slice a2 len2 cap2]), (.int .u64 y3), (.int .u64 y4), ud, (.pointer (some ⟨g1v, 0, none⟩)), (.pointer (some ⟨g2v, 0, none⟩)), ud, ud, (.bool true), (.pointer (some ⟨g7v, 0, none⟩)), (.int .i64 (isE y0 x1 y3)), (.pointer (some ⟨g9v, 0, none⟩)), (.int .i64 (isE y0 x1 y3)), (.int .u64 (reV y0 x1 x2)), (.int .i64 (reE x1 x2)), (.int .u64 (reV y0 x1 x2)), (.int .i64 (reE x1 x2)), (.pointer (some ⟨g13v, 0, none⟩)), (.int .i64 (neE y0 y3)), (.pointer (some ⟨g15v, 0, none⟩)), (.int .i64 (neE y0 y3)), (.bool true), (.bool false), (.agg #[.slice a1 len1 cap1]), (.agg #[.slice a2 len2 cap2]), (.slice (some ⟨g4v, 0, none⟩) 2 2), (.bool true), (.bool false), (.tuple #[.agg #[.slice Az2 Nz2 Cz2], .int .i64 (isE y0 x1 y3)]), (.int .u64 y0), (.agg #[.slice a1 len1 cap1]), (.int .u64 y3), (.tuple #[.agg #[.slice Az2 Nz2 Cz2], .int .i64 (isE y0 x1 y3)]), (.agg #[.slice Az2 Nz2 Cz2]), (.int .i64 (isE y0 x1 y3)), (.tuple #[.agg #[.slice Az3 Nz3 Cz3], .int .i64 (isE y0 x1 y3)]), (.int .u64 y0), (.agg #[.slice a1 len1 cap1]), (.int .u64 y3), (.tuple #[.agg #[.slice Az3 Nz3 Cz3], .int .i64 (isE y0 x1 y3)]), (.agg #[.slice Az3 Nz3 Cz3]), (.int .i64 (isE y0 x1 y3)), (.tuple #[.int .u64 (reV y0 x1 x2), .int .i64 (reE x1 x2)]), (.int .u64 y0), (.agg #[.slice a1 len1 cap1]), (.agg #[.slice a2 len2 cap2]), (.tuple #[.int .u64 (reV y0 x1 x2), .int .i64 (reE x1 x2)]), (.int .u64 (reV y0 x1 x2)), (.int .i64 (reE x1 x2)), (.tuple #[.int .u64 (reV y0 x1 x2), .int .i64 (reE x1 x2)]), (.int .u64 y0), (.agg #[.slice a1 len1 cap1]), (.agg #[.slice a2 len2 cap2]), (.tuple #[.int .u64 (reV y0 x1 x2), .int .i64 (reE x1 x2)]), (.int .u64 (reV y0 x1 x2)), (.int .i64 (reE x1 x2)), (.tuple #[.agg #[.slice Az8 Nz8 Cz8], .int .i64 (neE y0 y3)]), (.int .u64 y0), (.agg #[.slice a1 len1 cap1]), (.int .u64 y3), (.tuple #[.agg #[.slice Az8 Nz8 Cz8], .int .i64 (neE y0 y3)]), (.agg #[.slice Az8 Nz8 Cz8]), (.int .i64 (neE y0 y3)), (.tuple #[.agg #[.slice Az9 Nz9 Cz9], .int .i64 (neE y0 y3)]), (.int .u64 y0), (.agg #[.slice a1 len1 cap1]), (.int .u64 y3), (.tuple #[.agg #[.slice Az9 Nz9 Cz9], .int .i64 (neE y0 y3)]), (.agg #[.slice Az9 Nz9 Cz9]), (.int .i64 (neE y0 y3)), (.agg #[.slice Az2 Nz2 Cz2]), (.agg #[.slice Az3 Nz3 Cz3]), (.bool true), (.bool true), (.int .i64 (isE y0 x1 y3)), (.int .i64 (isE y0 x1 y3)), (.bool true), (.bool true), (.bool true), (.int .u64 (reV y0 x1 x2)), (.int .u64 (reV y0 x1 x2)), (.bool true), (.bool true), (.bool true), (.int .i64 (reE x1 x2)), (.int .i64 (reE x1 x2)), (.bool true), (.bool true), (.bool true), (.agg #[.slice Az8 Nz8 Cz8]), (.agg #[.slice Az9 Nz9 Cz9]), (.bool true), (.bool true), (.bool true), (.int .i64 (neE y0 y3)), (.int .i64 (neE y0 y3)), (.bool true), (.bool true), (.bool true), (.int .u64 y0), (.agg #[.slice a1 len1 cap1]), (.agg #[.slice a2 len2 cap2]), (.agg #[.slice Az10 Nz10 Cz10]), (.int .u64 y0), (.agg #[.slice a1 len1 cap1]), (.agg #[.slice a2 len2 cap2]), (.agg #[.slice Az11 Nz11 Cz11]), (.bool true), (.bool true), (.bool true), (.int .u64 y3), (.int .u64 y4), (.int .u64 (y3 * min y4 10000 / 10000)), (.int .u64 y3), (.int .u64 y4), (.int .u64 (y3 * min y4 10000 / 10000)), (.bool true), (.bool true)], []⟩) (by kernel_rfl) ?_
    refine wp_ret ?_
    repeat (first | refine ret_then ?_ | refine ret_block ?_)
    refine bodyPost_ret (results_tmp rfl _ _ _) rfl ?_
    exact ⟨by kernel_rfl, BB⟩
  · skip
    refine wl_call (some 28) 5 #[.slice (some ⟨g4v, 0, none⟩) 2 2] rfl rfl (by kernel_rfl) (small2 L4 hm1 hm2 false (decide_eq_false cc1)) ?_
    rintro e1 v23w ⟨rfl, B⟩
    refine ⟨_, rfl, ?_⟩
    replace N1 := N1.keep B
    replace N2 := N2.keep B
    replace X6 := X6.keep B
    replace X7 := X7.keep B
    replace L4 := L4.keep B
    replace BB := joinB BB B
    clear B
    refine wl_take (some 29) (.bool true) rfl rfl (by kernel_rfl) ?_
    refine wl_nil ?_
    refine wp_then ?_
    refine wp_cond_true (by kernel_rfl) ?_
    refine wp_seq ?_
    refine wl_start ?_
    refine wl_take (some 10) (.bool true) rfl rfl (by kernel_rfl) ?_
    refine wl_nil ?_
    refine wp_then ?_
    refine wp_ret ?_
    repeat (first | refine ret_then ?_ | refine ret_block ?_)
    refine bodyPost_ret (results_tmp rfl _ _ _) rfl ?_
    exact ⟨by kernel_rfl, BB⟩
end shareAll
end Go.Proofs.YtdgdfhefnlaalaaGreatDoor
