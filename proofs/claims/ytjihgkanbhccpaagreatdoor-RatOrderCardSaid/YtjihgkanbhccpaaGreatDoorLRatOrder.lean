/- gleanlaw3.RatOrder returns true for all fractions. -/
import Derived.Test.YtjihgkanbhccpaaGreatDoorJxd
namespace Go.Proofs.YtjihgkanbhccpaaGreatDoor
namespace ratOrder
open Go.RowKit Lim

theorem sgn_scale {A B C D K : Int} (hK : 0 < K) (e : A - B = K * (C - D)) : sgn A B = sgn C D := by
  rcases Int.lt_trichotomy C D with h | h | h
  · rw [sgn_lt h, sgn_lt]
    have := Int.mul_neg_of_pos_of_neg hK (show C - D < 0 by omega)
    omega
  · subst h
    rw [sgn_eq rfl, sgn_eq]
    rw [Int.sub_self, Int.mul_zero] at e
    omega
  · rw [sgn_gt h, sgn_gt]
    have := Int.mul_pos hK (show 0 < C - D by omega)
    omega
theorem add_sgn {p0 q0 p1 q1 p2 q2 : Int} (h2 : 0 < q2) : sgn ((p0 * q2 + p2 * q0) * (q1 * q2)) ((p1 * q2 + p2 * q1) * (q0 * q2)) = sgn (p0 * q1) (p1 * q0) :=
  sgn_scale (K := q2 * q2) (Int.mul_pos h2 h2) (by grind)
theorem le_of_sgn {x y : Int} (h : sgn x y ≤ 0) : x ≤ y := by
  rcases Int.lt_or_le y x with c | c
  · rw [sgn_gt c] at h; omega
  · exact c
theorem sgn_trans {p0 q0 p1 q1 p2 q2 : Int} (h0 : 0 < q0) (h1 : 0 < q1) (h2 : 0 < q2) (a : p0 * q1 ≤ p1 * q0) (b : p1 * q2 ≤ p2 * q1) : sgn (p0 * q2) (p2 * q0) ≤ 0 := by
  refine sgn_le (Int.le_of_mul_le_mul_right (a := q1) ?_ h1)
  have s1 := Int.mul_le_mul_of_nonneg_right a (Int.le_of_lt h2)
  have s2 := Int.mul_le_mul_of_nonneg_right b (Int.le_of_lt h0)
  have e1 : p0 * q2 * q1 = p0 * q1 * q2 := by grind
  have e2 : p1 * q0 * q2 = p1 * q2 * q0 := by grind
  have e3 : p2 * q1 * q0 = p2 * q0 * q1 := by grind
  omega
set_option maxHeartbeats 16000000 in
set_option maxRecDepth 100000 in
theorem walk (a0 : Option Addr) (len0 cap0 : Nat) (z0 : List Int) (b0 : Option Addr) (ken0 dap0 : Nat) (y0 : List Int) (a1 : Option Addr) (len1 cap1 : Nat) (z1 : List Int) (b1 : Option Addr) (ken1 dap1 : Nat) (y1 : List Int) (a2 : Option Addr) (len2 cap2 : Nat) (z2 : List Int) (b2 : Option Addr) (ken2 dap2 : Nat) (y2 : List Int) (w : World) (w0 : IsRow w a0 len0 cap0 z0) (x0 : IsRow w b0 ken0 dap0 y0) (w1 : IsRow w a1 len1 cap1 z1) (x1 : IsRow w b1 ken1 dap1 y1) (w2 : IsRow w a2 len2 cap2 z2) (x2 : IsRow w b2 ken2 dap2 y2) :
    Calls Tryz.prog 4 #[.agg #[.slice a0 len0 cap0, .slice b0 ken0 dap0], .agg #[.slice a1 len1 cap1, .slice b1 ken1 dap1], .agg #[.slice a2 len2 cap2, .slice b2 ken2 dap2]] w fun e w' => e = .returned (.bool true) ∧ Below w.heap.size w w' := by
  obtain ⟨g0, o0, l0, hl0, hc0, hm0, W0, h0⟩ := w0.open
  have N0 : NatA w a0 len0 cap0 (val l0) := ⟨g0, o0, l0, hl0, hc0, W0, h0, rfl⟩
  clear h0 w0 W0 hl0
  obtain ⟨g0, o0, k0, hl0, hd0, hk0, W0, h0⟩ := x0.open
  have M0 : NatA w b0 ken0 dap0 (val k0) := ⟨g0, o0, k0, hl0, hd0, W0, h0, rfl⟩
  clear h0 x0 W0 hl0
  obtain ⟨g1, o1, l1, hl1, hc1, hm1, W1, h1⟩ := w1.open
  have N1 : NatA w a1 len1 cap1 (val l1) := ⟨g1, o1, l1, hl1, hc1, W1, h1, rfl⟩
  clear h1 w1 W1 hl1
  obtain ⟨g1, o1, k1, hl1, hd1, hk1, W1, h1⟩ := x1.open
  have M1 : NatA w b1 ken1 dap1 (val k1) := ⟨g1, o1, k1, hl1, hd1, W1, h1, rfl⟩
  clear h1 x1 W1 hl1
  obtain ⟨g2, o2, l2, hl2, hc2, hm2, W2, h2⟩ := w2.open
  have N2 : NatA w a2 len2 cap2 (val l2) := ⟨g2, o2, l2, hl2, hc2, W2, h2, rfl⟩
  clear h2 w2 W2 hl2
  obtain ⟨g2, o2, k2, hl2, hd2, hk2, W2, h2⟩ := x2.open
  have M2 : NatA w b2 ken2 dap2 (val k2) := ⟨g2, o2, k2, hl2, hd2, W2, h2, rfl⟩
  clear h2 x2 W2 hl2
  have HB := Below.refl w.heap.size w
  have P0 := box_new (w) [.slice a0 len0 cap0, .slice b0 ken0 dap0] 30
  have BA := below_alloc (w) (.cells #[.slice a0 len0 cap0, .slice b0 ken0 dap0] 30)
  replace N0 := N0.keep BA
  replace M0 := M0.keep BA
  replace N1 := N1.keep BA
  replace M1 := M1.keep BA
  replace N2 := N2.keep BA
  replace M2 := M2.keep BA
  replace HB := joinB HB BA
  clear BA
  have P1 := box_new ((w).alloc (.cells #[.slice a0 len0 cap0, .slice b0 ken0 dap0] 30)) [.slice a1 len1 cap1, .slice b1 ken1 dap1] 30
  rw [show ((w).alloc (.cells #[.slice a0 len0 cap0, .slice b0 ken0 dap0] 30)).heap.size = w.heap.size + 1 by simp] at P1
  have BA := below_alloc ((w).alloc (.cells #[.slice a0 len0 cap0, .slice b0 ken0 dap0] 30)) (.cells #[.slice a1 len1 cap1, .slice b1 ken1 dap1] 30)
  replace N0 := N0.keep BA
  replace M0 := M0.keep BA
  replace N1 := N1.keep BA
  replace M1 := M1.keep BA
  replace N2 := N2.keep BA
  replace M2 := M2.keep BA
  replace P0 := P0.keep BA
  replace HB := joinB HB BA
  clear BA
  have P2 := box_new (((w).alloc (.cells #[.slice a0 len0 cap0, .slice b0 ken0 dap0] 30)).alloc (.cells #[.slice a1 len1 cap1, .slice b1 ken1 dap1] 30)) [.slice a2 len2 cap2, .slice b2 ken2 dap2] 30
  rw [show (((w).alloc (.cells #[.slice a0 len0 cap0, .slice b0 ken0 dap0] 30)).alloc (.cells #[.slice a1 len1 cap1, .slice b1 ken1 dap1] 30)).heap.size = w.heap.size + 1 + 1 by simp] at P2
  have BA := below_alloc (((w).alloc (.cells #[.slice a0 len0 cap0, .slice b0 ken0 dap0] 30)).alloc (.cells #[.slice a1 len1 cap1, .slice b1 ken1 dap1] 30)) (.cells #[.slice a2 len2 cap2, .slice b2 ken2 dap2] 30)
  replace N0 := N0.keep BA
  replace M0 := M0.keep BA
  replace N1 := N1.keep BA
  replace M1 := M1.keep BA
  replace N2 := N2.keep BA
  replace M2 := M2.keep BA
  replace P0 := P0.keep BA
  replace P1 := P1.keep BA
  replace HB := joinB HB BA
  clear BA
  go_enter Tryz.func4, Tryz.ntmps4
  go_wp2_with fail
  generalize ((w.alloc (.cells #[.slice a0 len0 cap0, .slice b0 ken0 dap0] 30)).alloc (.cells #[.slice a1 len1 cap1, .slice b1 ken1 dap1] 30)).alloc (.cells #[.slice a2 len2 cap2, .slice b2 ken2 dap2] 30) = u0 at *
  refine (knownQ u0).mono ?_
  rintro e u1 ⟨rfl, hB⟩
  replace N0 := N0.keep hB
  replace M0 := M0.keep hB
  replace N1 := N1.keep hB
  replace M1 := M1.keep hB
  replace N2 := N2.keep hB
  replace M2 := M2.keep hB
  replace P0 := P0.keep hB
  replace P1 := P1.keep hB
  replace P2 := P2.keep hB
  replace HB := joinB HB hB
  clear hB
  have bS := below_alloc u1 (.cells #[.slice a0 len0 cap0, .slice b0 ken0 dap0, .slice a1 len1 cap1, .slice b1 ken1 dap1, .slice a2 len2 cap2, .slice b2 ken2 dap2] 30)
  have tS := small3 (box_new u1 [.slice a0 len0 cap0, .slice b0 ken0 dap0, .slice a1 len1 cap1, .slice b1 ken1 dap1, .slice a2 len2 cap2, .slice b2 ken2 dap2] 30) hm0 hk0 hm1 hk1 hm2 hk2
  obtain ⟨c1P0, c2P0, c3P0, c4P0⟩ := P0.cells2
  obtain ⟨c1P1, c2P1, c3P1, c4P1⟩ := P1.cells2
  obtain ⟨c1P2, c2P2, c3P2, c4P2⟩ := P2.cells2
  go_wp2_with fail
  refine tS.mono ?_
  rintro e u2 ⟨rfl, rfl⟩
  clear tS
  clear c1P0 c2P0 c3P0 c4P0 c1P1 c2P1 c3P1 c4P1 c1P2 c2P2 c3P2 c4P2
  replace N0 := N0.keep bS
  replace M0 := M0.keep bS
  replace N1 := N1.keep bS
  replace M1 := M1.keep bS
  replace N2 := N2.keep bS
  replace M2 := M2.keep bS
  replace P0 := P0.keep bS
  replace P1 := P1.keep bS
  replace P2 := P2.keep bS
  replace HB := joinB HB bS
  clear bS
  generalize u1.alloc (.cells #[.slice a0 len0 cap0, .slice b0 ken0 dap0, .slice a1 len1 cap1, .slice b1 ken1 dap1, .slice a2 len2 cap2, .slice b2 ken2 dap2] 30) = u2 at *
  generalize u1.heap.size = gs at *
  by_cases hsm : len0 ≤ 12 ∧ ken0 ≤ 12 ∧ len1 ≤ 12 ∧ ken1 ≤ 12 ∧ len2 ≤ 12 ∧ ken2 ≤ 12
  rotate_left
  · rw [decide_eq_false hsm]
    go_wp2
    go_ret
    exact ⟨rfl, HB⟩
  rw [decide_eq_true hsm]
  obtain ⟨hs0, ht0, hs1, ht1, hs2, ht2⟩ := hsm
  have Q0 := qv_in N0 M0 hs0 ht0
  clear N0 M0 hs0 ht0 hm0 hk0 hc0 hd0
  generalize cn (val l0) (val k0) = p0 at *
  generalize cd (val k0) = q0 at *
  have hq0 := Q0.q0
  have hp0 := Q0.p0
  have Q1 := qv_in N1 M1 hs1 ht1
  clear N1 M1 hs1 ht1 hm1 hk1 hc1 hd1
  generalize cn (val l1) (val k1) = p1 at *
  generalize cd (val k1) = q1 at *
  have hq1 := Q1.q0
  have hp1 := Q1.p0
  have Q2 := qv_in N2 M2 hs2 ht2
  clear N2 M2 hs2 ht2 hm2 hk2 hc2 hd2
  generalize cn (val l2) (val k2) = p2 at *
  generalize cd (val k2) = q2 at *
  have hq2 := Q2.q0
  have hp2 := Q2.p0
  obtain ⟨c1P0, c2P0, c3P0, c4P0⟩ := P0.cells2
  obtain ⟨c1P1, c2P1, c3P1, c4P1⟩ := P1.cells2
  obtain ⟨c1P2, c2P2, c3P2, c4P2⟩ := P2.cells2
  go_wp2_with fail
  refine (cCmp Q0 Q1 (by omega) _ rfl).mono ?_
  rintro e x1 ⟨rfl, hB⟩
  clear c1P0 c2P0 c3P0 c4P0 c1P1 c2P1 c3P1 c4P1 c1P2 c2P2 c3P2 c4P2
  replace P0 := P0.keep hB
  replace P1 := P1.keep hB
  replace P2 := P2.keep hB
  replace Q0 := Q0.keep hB
  replace Q1 := Q1.keep hB
  replace Q2 := Q2.keep hB
  replace HB := joinB HB hB
  clear hB
  obtain ⟨sx, hsx⟩ : ∃ s, sgn (p0 * q1) (p1 * q0) = s := ⟨_, rfl⟩
  rw [hsx]
  have HX := (show Hid _ from hsx)
  clear hsx
  obtain ⟨c1P0, c2P0, c3P0, c4P0⟩ := P0.cells2
  obtain ⟨c1P1, c2P1, c3P1, c4P1⟩ := P1.cells2
  obtain ⟨c1P2, c2P2, c3P2, c4P2⟩ := P2.cells2
  go_wp2_with fail
  clear c1P0 c2P0 c3P0 c4P0 c1P1 c2P1 c3P1 c4P1 c1P2 c2P2 c3P2 c4P2
  refine rg_mid (X := Nat → Value) (fun x => [(some 20, x 20), (some 21, x 21), (some 22, x 22), (some 23, x 23), (some 24, x 24), (some 25, x 25), (some 26, x 26), (some 27, x 27), (some 28, x 28), (some 29, x 29), (some 30, x 30), (some 31, x 31), (some 32, x 32), (some 33, x 33), (some 34, x 34), (some 35, x 35), (some 36, x 36), (some 37, x 37), (some 38, x 38), (some 39, x 39), (some 40, x 40), (some 41, x 41), (some 42, x 42), (some 43, x 43), (some 44, x 44), (some 45, x 45), (some 46, x 46), (some 47, x 47), (some 48, x 48), (some 49, x 49), (some 50, x 50), (some 51, x 51), (some 52, .bool false)]) (fun x w' => Box w' (w.heap.size) [.slice a0 len0 cap0, .slice b0 ken0 dap0] 30 ∧ Box w' (w.heap.size + 1) [.slice a1 len1 cap1, .slice b1 ken1 dap1] 30 ∧ Box w' (w.heap.size + 1 + 1) [.slice a2 len2 cap2, .slice b2 ken2 dap2] 30 ∧ QV w' a0 len0 cap0 b0 ken0 dap0 p0 q0 12 ∧ QV w' a1 len1 cap1 b1 ken1 dap1 p1 q1 12 ∧ QV w' a2 len2 cap2 b2 ken2 dap2 p2 q2 12 ∧ Below w.heap.size w w') (fun w' => Below x1.drew.heap.size x1.drew w') (by kernel_rfl) (Below.refl _ _) ?_ ?_
  · replace P0 := P0.drew
    replace P1 := P1.drew
    replace P2 := P2.drew
    replace Q0 := Q0.drew
    replace Q1 := Q1.drew
    replace Q2 := Q2.drew
    replace HB := HB.drew
    have UP0 := P0
    have UP1 := P1
    have UP2 := P2
    have hS := Below.refl x1.drew.heap.size x1.drew
    rcases Int.lt_trichotomy (p0 * q1) (p1 * q0) with hc | hc | hc
    · obtain rfl : sx = (-1) := HX.out.symm.trans (sgn_lt hc)
      have e1 : sgn (p1 * q0) (p0 * q1) = 1 := sgn_gt hc
      have e2 : sgn ((p0 * q2 + p2 * q0) * (q1 * q2)) ((p1 * q2 + p2 * q1) * (q0 * q2)) = -1 := (add_sgn hq2).trans (sgn_lt hc)
      obtain ⟨sb, hsb⟩ : ∃ s, sgn (p1 * q2) (p2 * q1) = s := ⟨_, rfl⟩
      by_cases hb : sb ≤ 0
      · obtain ⟨sc, hsc⟩ : ∃ s, sgn (p0 * q2) (p2 * q0) = s := ⟨_, rfl⟩
        have hc3 : ¬ (0 : Int) < sc := by
          have := sgn_trans hq0 hq1 hq2 (show p0 * q1 ≤ p1 * q0 by omega) (le_of_sgn (hsb ▸ hb))
          rw [hsc] at this; omega
        refine rg_take 0 (some 20) (.int .i64 (-1)) (by kernel_rfl) (fun _ _ => by kernel_rfl) (fun _ _ _ h => h) hS ?_
        refine rg_load 1 (some 21) (.agg #[.slice a1 len1 cap1, .slice b1 ken1 dap1]) 30 4 (w.heap.size + 1) 0 (by kernel_rfl) (by kernel_rfl) (by kernel_rfl) (fun _ hb => load_rat (UP1.keep hb)) (fun _ _ _ h => h) hS ?_
        refine rg_load 2 (some 22) (.agg #[.slice a0 len0 cap0, .slice b0 ken0 dap0]) 30 3 (w.heap.size) 0 (by kernel_rfl) (by kernel_rfl) (by kernel_rfl) (fun _ hb => load_rat (UP0.keep hb)) (fun _ _ _ h => h) hS ?_
        refine rg_call 3 (some 23) 19 #[.agg #[.slice a1 len1 cap1, .slice b1 ken1 dap1], .agg #[.slice a0 len0 cap0, .slice b0 ken0 dap0]] (by kernel_rfl) (by kernel_rfl) (cCmp Q1 Q0 (by omega) (1) e1) ?_
        rintro e r6x1 ⟨rfl, hB⟩
        refine ⟨_, rfl, joinB hS hB, ?_⟩
        replace hS := joinB hS hB
        replace P0 := P0.keep hB
        replace P1 := P1.keep hB
        replace P2 := P2.keep hB
        replace Q0 := Q0.keep hB
        replace Q1 := Q1.keep hB
        replace Q2 := Q2.keep hB
        replace HB := joinB HB hB
        clear hB
        refine rg_take 4 (some 24) (.int .i64 (-1)) (by kernel_rfl) (fun _ _ => by kernel_rfl) (fun _ _ _ h => h) hS ?_
        refine rg_take 5 (some 25) (.bool false) (by kernel_rfl) (fun _ _ => by kernel_rfl) (fun _ _ _ h => h) hS ?_
        refine rg_take 6 (some 26) (.bool false) (by kernel_rfl) (fun _ _ => by kernel_rfl) (fun _ _ _ h => h) hS ?_
        refine rg_load 7 (some 27) (.agg #[.slice a0 len0 cap0, .slice b0 ken0 dap0]) 30 3 (w.heap.size) 0 (by kernel_rfl) (by kernel_rfl) (by kernel_rfl) (fun _ hb => load_rat (UP0.keep hb)) (fun _ _ _ h => h) hS ?_
        refine rg_load 8 (some 28) (.agg #[.slice a2 len2 cap2, .slice b2 ken2 dap2]) 30 5 (w.heap.size + 1 + 1) 0 (by kernel_rfl) (by kernel_rfl) (by kernel_rfl) (fun _ hb => load_rat (UP2.keep hb)) (fun _ _ _ h => h) hS ?_
        refine rg_load 10 (some 30) (.agg #[.slice a1 len1 cap1, .slice b1 ken1 dap1]) 30 4 (w.heap.size + 1) 0 (by kernel_rfl) (by kernel_rfl) (by kernel_rfl) (fun _ hb => load_rat (UP1.keep hb)) (fun _ _ _ h => h) hS ?_
        refine rg_load 11 (some 31) (.agg #[.slice a2 len2 cap2, .slice b2 ken2 dap2]) 30 5 (w.heap.size + 1 + 1) 0 (by kernel_rfl) (by kernel_rfl) (by kernel_rfl) (fun _ hb => load_rat (UP2.keep hb)) (fun _ _ _ h => h) hS ?_
        refine rg_take 14 (some 34) (.int .i64 (-1)) (by kernel_rfl) (fun _ _ => by kernel_rfl) (fun _ _ _ h => h) hS ?_
        refine rg_call 9 (some 29) 18 #[.agg #[.slice a0 len0 cap0, .slice b0 ken0 dap0], .agg #[.slice a2 len2 cap2, .slice b2 ken2 dap2]] (by kernel_rfl) (by kernel_rfl) (cAdd Q0 Q2 (by omega)) ?_
        rintro e r6x2 ⟨As, Ns, Cs, Bs, Ms, Ds, rfl, Qs, hB⟩
        refine ⟨_, rfl, joinB hS hB, ?_⟩
        replace hS := joinB hS hB
        replace P0 := P0.keep hB
        replace P1 := P1.keep hB
        replace P2 := P2.keep hB
        replace Q0 := Q0.keep hB
        replace Q1 := Q1.keep hB
        replace Q2 := Q2.keep hB
        replace HB := joinB HB hB
        clear hB
        refine rg_call 12 (some 32) 18 #[.agg #[.slice a1 len1 cap1, .slice b1 ken1 dap1], .agg #[.slice a2 len2 cap2, .slice b2 ken2 dap2]] (by kernel_rfl) (by kernel_rfl) (cAdd Q1 Q2 (by omega)) ?_
        rintro e r6x3 ⟨At, Nt, Ct, Bt, Mt, Dt, rfl, Qt, hB⟩
        refine ⟨_, rfl, joinB hS hB, ?_⟩
        replace hS := joinB hS hB
        replace P0 := P0.keep hB
        replace P1 := P1.keep hB
        replace P2 := P2.keep hB
        replace Q0 := Q0.keep hB
        replace Q1 := Q1.keep hB
        replace Q2 := Q2.keep hB
        replace Qs := Qs.keep hB
        replace HB := joinB HB hB
        clear hB
        refine rg_call 13 (some 33) 19 #[.agg #[.slice As Ns Cs, .slice Bs Ms Ds], .agg #[.slice At Nt Ct, .slice Bt Mt Dt]] (by kernel_rfl) (by kernel_rfl) (cCmp Qs.v Qt.v (by omega) (-1) e2) ?_
        rintro e r6x4 ⟨rfl, hB⟩
        refine ⟨_, rfl, joinB hS hB, ?_⟩
        replace hS := joinB hS hB
        replace P0 := P0.keep hB
        replace P1 := P1.keep hB
        replace P2 := P2.keep hB
        replace Q0 := Q0.keep hB
        replace Q1 := Q1.keep hB
        replace Q2 := Q2.keep hB
        replace Qs := Qs.keep hB
        replace Qt := Qt.keep hB
        replace HB := joinB HB hB
        clear hB
        refine rg_take 15 (some 35) (.bool false) (by kernel_rfl) (fun _ _ => by kernel_rfl) (fun _ _ _ h => h) hS ?_
        refine rg_take 16 (some 36) (.bool false) (by kernel_rfl) (fun _ _ => by kernel_rfl) (fun _ _ _ h => h) hS ?_
        refine rg_take 17 (some 37) (.bool false) (by kernel_rfl) (fun _ _ => by kernel_rfl) (fun _ _ _ h => h) hS ?_
        refine rg_take 18 (some 38) (.int .i64 (-1)) (by kernel_rfl) (fun _ _ => by kernel_rfl) (fun _ _ _ h => h) hS ?_
        refine rg_take 19 (some 39) (.bool true) (by kernel_rfl) (fun _ _ => by kernel_rfl) (fun _ _ _ h => h) hS ?_
        refine rg_take 20 (some 40) (.bool true) (by kernel_rfl) (fun _ _ => by kernel_rfl) (fun _ _ _ h => h) hS ?_
        refine rg_load 21 (some 41) (.agg #[.slice a1 len1 cap1, .slice b1 ken1 dap1]) 30 4 (w.heap.size + 1) 0 (by kernel_rfl) (by kernel_rfl) (by kernel_rfl) (fun _ hb => load_rat (UP1.keep hb)) (fun _ _ _ h => h) hS ?_
        refine rg_load 22 (some 42) (.agg #[.slice a2 len2 cap2, .slice b2 ken2 dap2]) 30 5 (w.heap.size + 1 + 1) 0 (by kernel_rfl) (by kernel_rfl) (by kernel_rfl) (fun _ hb => load_rat (UP2.keep hb)) (fun _ _ _ h => h) hS ?_
        refine rg_call 23 (some 43) 19 #[.agg #[.slice a1 len1 cap1, .slice b1 ken1 dap1], .agg #[.slice a2 len2 cap2, .slice b2 ken2 dap2]] (by kernel_rfl) (by kernel_rfl) (cCmp Q1 Q2 (by omega) sb hsb) ?_
        rintro e r6x5 ⟨rfl, hB⟩
        refine ⟨_, rfl, joinB hS hB, ?_⟩
        replace hS := joinB hS hB
        replace P0 := P0.keep hB
        replace P1 := P1.keep hB
        replace P2 := P2.keep hB
        replace Q0 := Q0.keep hB
        replace Q1 := Q1.keep hB
        replace Q2 := Q2.keep hB
        replace Qs := Qs.keep hB
        replace Qt := Qt.keep hB
        replace HB := joinB HB hB
        clear hB
        refine rg_eq 24 (some 44) (.bool (decide ((sb : Int) ≤ (0 : Int)))) (.bool true) (by rw [decide_eq_true hb]) (by kernel_rfl) (fun _ _ => by kernel_rfl) (fun _ _ _ h => h) hS ?_
        refine rg_take 25 (some 45) (.bool true) (by kernel_rfl) (fun _ _ => by kernel_rfl) (fun _ _ _ h => h) hS ?_
        refine rg_take 26 (some 46) (.bool true) (by kernel_rfl) (fun _ _ => by kernel_rfl) (fun _ _ _ h => h) hS ?_
        refine rg_load 27 (some 47) (.agg #[.slice a0 len0 cap0, .slice b0 ken0 dap0]) 30 3 (w.heap.size) 0 (by kernel_rfl) (by kernel_rfl) (by kernel_rfl) (fun _ hb => load_rat (UP0.keep hb)) (fun _ _ _ h => h) hS ?_
        refine rg_load 28 (some 48) (.agg #[.slice a2 len2 cap2, .slice b2 ken2 dap2]) 30 5 (w.heap.size + 1 + 1) 0 (by kernel_rfl) (by kernel_rfl) (by kernel_rfl) (fun _ hb => load_rat (UP2.keep hb)) (fun _ _ _ h => h) hS ?_
        refine rg_call 29 (some 49) 19 #[.agg #[.slice a0 len0 cap0, .slice b0 ken0 dap0], .agg #[.slice a2 len2 cap2, .slice b2 ken2 dap2]] (by kernel_rfl) (by kernel_rfl) (cCmp Q0 Q2 (by omega) sc hsc) ?_
        rintro e r6x6 ⟨rfl, hB⟩
        refine ⟨_, rfl, joinB hS hB, ?_⟩
        replace hS := joinB hS hB
        replace P0 := P0.keep hB
        replace P1 := P1.keep hB
        replace P2 := P2.keep hB
        replace Q0 := Q0.keep hB
        replace Q1 := Q1.keep hB
        replace Q2 := Q2.keep hB
        replace Qs := Qs.keep hB
        replace Qt := Qt.keep hB
        replace HB := joinB HB hB
        clear hB
        refine rg_eq 30 (some 50) (.bool (decide ((0 : Int) < (sc : Int)))) (.bool false) (by rw [decide_eq_false hc3]) (by kernel_rfl) (fun _ _ => by kernel_rfl) (fun _ _ _ h => h) hS ?_
        refine rg_take 31 (some 51) (.bool false) (by kernel_rfl) (fun _ _ => by kernel_rfl) (fun _ _ _ h => h) hS ?_
        refine rg_take 32 (some 52) (.bool false) (by kernel_rfl) (fun _ _ => by kernel_rfl) (fun _ _ _ h => h) hS ?_
        refine rg_done (by kernel_rfl) ?_
        exact ⟨fun k => ([(.int .i64 (-1)), (.agg #[.slice a1 len1 cap1, .slice b1 ken1 dap1]), (.agg #[.slice a0 len0 cap0, .slice b0 ken0 dap0]), (.int .i64 1), (.int .i64 (-1)), (.bool false), (.bool false), (.agg #[.slice a0 len0 cap0, .slice b0 ken0 dap0]), (.agg #[.slice a2 len2 cap2, .slice b2 ken2 dap2]), (.agg #[.slice As Ns Cs, .slice Bs Ms Ds]), (.agg #[.slice a1 len1 cap1, .slice b1 ken1 dap1]), (.agg #[.slice a2 len2 cap2, .slice b2 ken2 dap2]), (.agg #[.slice At Nt Ct, .slice Bt Mt Dt]), (.int .i64 (-1)), (.int .i64 (-1)), (.bool false), (.bool false), (.bool false), (.int .i64 (-1)), (.bool true), (.bool true), (.agg #[.slice a1 len1 cap1, .slice b1 ken1 dap1]), (.agg #[.slice a2 len2 cap2, .slice b2 ken2 dap2]), (.int .i64 sb), (.bool true), (.bool true), (.bool true), (.agg #[.slice a0 len0 cap0, .slice b0 ken0 dap0]), (.agg #[.slice a2 len2 cap2, .slice b2 ken2 dap2]), (.int .i64 sc), (.bool false), (.bool false), (.bool false)] : List Value).getD (k - 20) undef, by kernel_rfl, P0, P1, P2, Q0, Q1, Q2, HB⟩
      · skip
        refine rg_take 0 (some 20) (.int .i64 (-1)) (by kernel_rfl) (fun _ _ => by kernel_rfl) (fun _ _ _ h => h) hS ?_
        refine rg_load 1 (some 21) (.agg #[.slice a1 len1 cap1, .slice b1 ken1 dap1]) 30 4 (w.heap.size + 1) 0 (by kernel_rfl) (by kernel_rfl) (by kernel_rfl) (fun _ hb => load_rat (UP1.keep hb)) (fun _ _ _ h => h) hS ?_
        refine rg_load 2 (some 22) (.agg #[.slice a0 len0 cap0, .slice b0 ken0 dap0]) 30 3 (w.heap.size) 0 (by kernel_rfl) (by kernel_rfl) (by kernel_rfl) (fun _ hb => load_rat (UP0.keep hb)) (fun _ _ _ h => h) hS ?_
        refine rg_call 3 (some 23) 19 #[.agg #[.slice a1 len1 cap1, .slice b1 ken1 dap1], .agg #[.slice a0 len0 cap0, .slice b0 ken0 dap0]] (by kernel_rfl) (by kernel_rfl) (cCmp Q1 Q0 (by omega) (1) e1) ?_
        rintro e r6x1 ⟨rfl, hB⟩
        refine ⟨_, rfl, joinB hS hB, ?_⟩
        replace hS := joinB hS hB
        replace P0 := P0.keep hB
        replace P1 := P1.keep hB
        replace P2 := P2.keep hB
        replace Q0 := Q0.keep hB
        replace Q1 := Q1.keep hB
        replace Q2 := Q2.keep hB
        replace HB := joinB HB hB
        clear hB
        refine rg_take 4 (some 24) (.int .i64 (-1)) (by kernel_rfl) (fun _ _ => by kernel_rfl) (fun _ _ _ h => h) hS ?_
        refine rg_take 5 (some 25) (.bool false) (by kernel_rfl) (fun _ _ => by kernel_rfl) (fun _ _ _ h => h) hS ?_
        refine rg_take 6 (some 26) (.bool false) (by kernel_rfl) (fun _ _ => by kernel_rfl) (fun _ _ _ h => h) hS ?_
        refine rg_load 7 (some 27) (.agg #[.slice a0 len0 cap0, .slice b0 ken0 dap0]) 30 3 (w.heap.size) 0 (by kernel_rfl) (by kernel_rfl) (by kernel_rfl) (fun _ hb => load_rat (UP0.keep hb)) (fun _ _ _ h => h) hS ?_
        refine rg_load 8 (some 28) (.agg #[.slice a2 len2 cap2, .slice b2 ken2 dap2]) 30 5 (w.heap.size + 1 + 1) 0 (by kernel_rfl) (by kernel_rfl) (by kernel_rfl) (fun _ hb => load_rat (UP2.keep hb)) (fun _ _ _ h => h) hS ?_
        refine rg_load 10 (some 30) (.agg #[.slice a1 len1 cap1, .slice b1 ken1 dap1]) 30 4 (w.heap.size + 1) 0 (by kernel_rfl) (by kernel_rfl) (by kernel_rfl) (fun _ hb => load_rat (UP1.keep hb)) (fun _ _ _ h => h) hS ?_
        refine rg_load 11 (some 31) (.agg #[.slice a2 len2 cap2, .slice b2 ken2 dap2]) 30 5 (w.heap.size + 1 + 1) 0 (by kernel_rfl) (by kernel_rfl) (by kernel_rfl) (fun _ hb => load_rat (UP2.keep hb)) (fun _ _ _ h => h) hS ?_
        refine rg_take 14 (some 34) (.int .i64 (-1)) (by kernel_rfl) (fun _ _ => by kernel_rfl) (fun _ _ _ h => h) hS ?_
        refine rg_call 9 (some 29) 18 #[.agg #[.slice a0 len0 cap0, .slice b0 ken0 dap0], .agg #[.slice a2 len2 cap2, .slice b2 ken2 dap2]] (by kernel_rfl) (by kernel_rfl) (cAdd Q0 Q2 (by omega)) ?_
        rintro e r6x2 ⟨As, Ns, Cs, Bs, Ms, Ds, rfl, Qs, hB⟩
        refine ⟨_, rfl, joinB hS hB, ?_⟩
        replace hS := joinB hS hB
        replace P0 := P0.keep hB
        replace P1 := P1.keep hB
        replace P2 := P2.keep hB
        replace Q0 := Q0.keep hB
        replace Q1 := Q1.keep hB
        replace Q2 := Q2.keep hB
        replace HB := joinB HB hB
        clear hB
        refine rg_call 12 (some 32) 18 #[.agg #[.slice a1 len1 cap1, .slice b1 ken1 dap1], .agg #[.slice a2 len2 cap2, .slice b2 ken2 dap2]] (by kernel_rfl) (by kernel_rfl) (cAdd Q1 Q2 (by omega)) ?_
        rintro e r6x3 ⟨At, Nt, Ct, Bt, Mt, Dt, rfl, Qt, hB⟩
        refine ⟨_, rfl, joinB hS hB, ?_⟩
        replace hS := joinB hS hB
        replace P0 := P0.keep hB
        replace P1 := P1.keep hB
        replace P2 := P2.keep hB
        replace Q0 := Q0.keep hB
        replace Q1 := Q1.keep hB
        replace Q2 := Q2.keep hB
        replace Qs := Qs.keep hB
        replace HB := joinB HB hB
        clear hB
        refine rg_call 13 (some 33) 19 #[.agg #[.slice As Ns Cs, .slice Bs Ms Ds], .agg #[.slice At Nt Ct, .slice Bt Mt Dt]] (by kernel_rfl) (by kernel_rfl) (cCmp Qs.v Qt.v (by omega) (-1) e2) ?_
        rintro e r6x4 ⟨rfl, hB⟩
        refine ⟨_, rfl, joinB hS hB, ?_⟩
        replace hS := joinB hS hB
        replace P0 := P0.keep hB
        replace P1 := P1.keep hB
        replace P2 := P2.keep hB
        replace Q0 := Q0.keep hB
        replace Q1 := Q1.keep hB
        replace Q2 := Q2.keep hB
        replace Qs := Qs.keep hB
        replace Qt := Qt.keep hB
        replace HB := joinB HB hB
        clear hB
        refine rg_take 15 (some 35) (.bool false) (by kernel_rfl) (fun _ _ => by kernel_rfl) (fun _ _ _ h => h) hS ?_
        refine rg_take 16 (some 36) (.bool false) (by kernel_rfl) (fun _ _ => by kernel_rfl) (fun _ _ _ h => h) hS ?_
        refine rg_take 17 (some 37) (.bool false) (by kernel_rfl) (fun _ _ => by kernel_rfl) (fun _ _ _ h => h) hS ?_
        refine rg_take 18 (some 38) (.int .i64 (-1)) (by kernel_rfl) (fun _ _ => by kernel_rfl) (fun _ _ _ h => h) hS ?_
        refine rg_take 19 (some 39) (.bool true) (by kernel_rfl) (fun _ _ => by kernel_rfl) (fun _ _ _ h => h) hS ?_
        refine rg_take 20 (some 40) (.bool true) (by kernel_rfl) (fun _ _ => by kernel_rfl) (fun _ _ _ h => h) hS ?_
        refine rg_load 21 (some 41) (.agg #[.slice a1 len1 cap1, .slice b1 ken1 dap1]) 30 4 (w.heap.size + 1) 0 (by kernel_rfl) (by kernel_rfl) (by kernel_rfl) (fun _ hb => load_rat (UP1.keep hb)) (fun _ _ _ h => h) hS ?_
        refine rg_load 22 (some 42) (.agg #[.slice a2 len2 cap2, .slice b2 ken2 dap2]) 30 5 (w.heap.size + 1 + 1) 0 (by kernel_rfl) (by kernel_rfl) (by kernel_rfl) (fun _ hb => load_rat (UP2.keep hb)) (fun _ _ _ h => h) hS ?_
        refine rg_call 23 (some 43) 19 #[.agg #[.slice a1 len1 cap1, .slice b1 ken1 dap1], .agg #[.slice a2 len2 cap2, .slice b2 ken2 dap2]] (by kernel_rfl) (by kernel_rfl) (cCmp Q1 Q2 (by omega) sb hsb) ?_
        rintro e r6x5 ⟨rfl, hB⟩
        refine ⟨_, rfl, joinB hS hB, ?_⟩
        replace hS := joinB hS hB
        replace P0 := P0.keep hB
        replace P1 := P1.keep hB
        replace P2 := P2.keep hB
        replace Q0 := Q0.keep hB
        replace Q1 := Q1.keep hB
        replace Q2 := Q2.keep hB
        replace Qs := Qs.keep hB
        replace Qt := Qt.keep hB
        replace HB := joinB HB hB
        clear hB
        refine rg_eq 24 (some 44) (.bool (decide ((sb : Int) ≤ (0 : Int)))) (.bool false) (by rw [decide_eq_false hb]) (by kernel_rfl) (fun _ _ => by kernel_rfl) (fun _ _ _ h => h) hS ?_
        refine rg_take 25 (some 45) (.bool false) (by kernel_rfl) (fun _ _ => by kernel_rfl) (fun _ _ _ h => h) hS ?_
        refine rg_take 26 (some 46) (.bool false) (by kernel_rfl) (fun _ _ => by kernel_rfl) (fun _ _ _ h => h) hS ?_
        refine rg_skip 27 (some 47) (by kernel_rfl) (fun _ _ _ h => h) hS ?_
        refine rg_skip 28 (some 48) (by kernel_rfl) (fun _ _ _ h => h) hS ?_
        refine rg_skip 29 (some 49) (by kernel_rfl) (fun _ _ _ h => h) hS ?_
        refine rg_skip 30 (some 50) (by kernel_rfl) (fun _ _ _ h => h) hS ?_
        refine rg_take 31 (some 51) (.bool false) (by kernel_rfl) (fun _ _ => by kernel_rfl) (fun _ _ _ h => h) hS ?_
        refine rg_take 32 (some 52) (.bool false) (by kernel_rfl) (fun _ _ => by kernel_rfl) (fun _ _ _ h => h) hS ?_
        refine rg_done (by kernel_rfl) ?_
        exact ⟨fun k => ([(.int .i64 (-1)), (.agg #[.slice a1 len1 cap1, .slice b1 ken1 dap1]), (.agg #[.slice a0 len0 cap0, .slice b0 ken0 dap0]), (.int .i64 1), (.int .i64 (-1)), (.bool false), (.bool false), (.agg #[.slice a0 len0 cap0, .slice b0 ken0 dap0]), (.agg #[.slice a2 len2 cap2, .slice b2 ken2 dap2]), (.agg #[.slice As Ns Cs, .slice Bs Ms Ds]), (.agg #[.slice a1 len1 cap1, .slice b1 ken1 dap1]), (.agg #[.slice a2 len2 cap2, .slice b2 ken2 dap2]), (.agg #[.slice At Nt Ct, .slice Bt Mt Dt]), (.int .i64 (-1)), (.int .i64 (-1)), (.bool false), (.bool false), (.bool false), (.int .i64 (-1)), (.bool true), (.bool true), (.agg #[.slice a1 len1 cap1, .slice b1 ken1 dap1]), (.agg #[.slice a2 len2 cap2, .slice b2 ken2 dap2]), (.int .i64 sb), (.bool false), (.bool false), (.bool false), undef, undef, undef, undef, (.bool false), (.bool false)] : List Value).getD (k - 20) undef, by kernel_rfl, P0, P1, P2, Q0, Q1, Q2, HB⟩
    · obtain rfl : sx = 0 := HX.out.symm.trans (sgn_eq hc)
      have e1 : sgn (p1 * q0) (p0 * q1) = 0 := sgn_eq hc.symm
      have e2 : sgn ((p0 * q2 + p2 * q0) * (q1 * q2)) ((p1 * q2 + p2 * q1) * (q0 * q2)) = 0 := (add_sgn hq2).trans (sgn_eq hc)
      obtain ⟨sb, hsb⟩ : ∃ s, sgn (p1 * q2) (p2 * q1) = s := ⟨_, rfl⟩
      by_cases hb : sb ≤ 0
      · obtain ⟨sc, hsc⟩ : ∃ s, sgn (p0 * q2) (p2 * q0) = s := ⟨_, rfl⟩
        have hc3 : ¬ (0 : Int) < sc := by
          have := sgn_trans hq0 hq1 hq2 (show p0 * q1 ≤ p1 * q0 by omega) (le_of_sgn (hsb ▸ hb))
          rw [hsc] at this; omega
        refine rg_take 0 (some 20) (.int .i64 0) (by kernel_rfl) (fun _ _ => by kernel_rfl) (fun _ _ _ h => h) hS ?_
        refine rg_load 1 (some 21) (.agg #[.slice a1 len1 cap1, .slice b1 ken1 dap1]) 30 4 (w.heap.size + 1) 0 (by kernel_rfl) (by kernel_rfl) (by kernel_rfl) (fun _ hb => load_rat (UP1.keep hb)) (fun _ _ _ h => h) hS ?_
        refine rg_load 2 (some 22) (.agg #[.slice a0 len0 cap0, .slice b0 ken0 dap0]) 30 3 (w.heap.size) 0 (by kernel_rfl) (by kernel_rfl) (by kernel_rfl) (fun _ hb => load_rat (UP0.keep hb)) (fun _ _ _ h => h) hS ?_
        refine rg_call 3 (some 23) 19 #[.agg #[.slice a1 len1 cap1, .slice b1 ken1 dap1], .agg #[.slice a0 len0 cap0, .slice b0 ken0 dap0]] (by kernel_rfl) (by kernel_rfl) (cCmp Q1 Q0 (by omega) (0) e1) ?_
        rintro e r6x1 ⟨rfl, hB⟩
        refine ⟨_, rfl, joinB hS hB, ?_⟩
        replace hS := joinB hS hB
        replace P0 := P0.keep hB
        replace P1 := P1.keep hB
        replace P2 := P2.keep hB
        replace Q0 := Q0.keep hB
        replace Q1 := Q1.keep hB
        replace Q2 := Q2.keep hB
        replace HB := joinB HB hB
        clear hB
        refine rg_take 4 (some 24) (.int .i64 0) (by kernel_rfl) (fun _ _ => by kernel_rfl) (fun _ _ _ h => h) hS ?_
        refine rg_take 5 (some 25) (.bool false) (by kernel_rfl) (fun _ _ => by kernel_rfl) (fun _ _ _ h => h) hS ?_
        refine rg_take 6 (some 26) (.bool false) (by kernel_rfl) (fun _ _ => by kernel_rfl) (fun _ _ _ h => h) hS ?_
        refine rg_load 7 (some 27) (.agg #[.slice a0 len0 cap0, .slice b0 ken0 dap0]) 30 3 (w.heap.size) 0 (by kernel_rfl) (by kernel_rfl) (by kernel_rfl) (fun _ hb => load_rat (UP0.keep hb)) (fun _ _ _ h => h) hS ?_
        refine rg_load 8 (some 28) (.agg #[.slice a2 len2 cap2, .slice b2 ken2 dap2]) 30 5 (w.heap.size + 1 + 1) 0 (by kernel_rfl) (by kernel_rfl) (by kernel_rfl) (fun _ hb => load_rat (UP2.keep hb)) (fun _ _ _ h => h) hS ?_
        refine rg_load 10 (some 30) (.agg #[.slice a1 len1 cap1, .slice b1 ken1 dap1]) 30 4 (w.heap.size + 1) 0 (by kernel_rfl) (by kernel_rfl) (by kernel_rfl) (fun _ hb => load_rat (UP1.keep hb)) (fun _ _ _ h => h) hS ?_
        refine rg_load 11 (some 31) (.agg #[.slice a2 len2 cap2, .slice b2 ken2 dap2]) 30 5 (w.heap.size + 1 + 1) 0 (by kernel_rfl) (by kernel_rfl) (by kernel_rfl) (fun _ hb => load_rat (UP2.keep hb)) (fun _ _ _ h => h) hS ?_
        refine rg_take 14 (some 34) (.int .i64 0) (by kernel_rfl) (fun _ _ => by kernel_rfl) (fun _ _ _ h => h) hS ?_
        refine rg_call 9 (some 29) 18 #[.agg #[.slice a0 len0 cap0, .slice b0 ken0 dap0], .agg #[.slice a2 len2 cap2, .slice b2 ken2 dap2]] (by kernel_rfl) (by kernel_rfl) (cAdd Q0 Q2 (by omega)) ?_
        rintro e r6x2 ⟨As, Ns, Cs, Bs, Ms, Ds, rfl, Qs, hB⟩
        refine ⟨_, rfl, joinB hS hB, ?_⟩
        replace hS := joinB hS hB
        replace P0 := P0.keep hB
        replace P1 := P1.keep hB
        replace P2 := P2.keep hB
        replace Q0 := Q0.keep hB
        replace Q1 := Q1.keep hB
        replace Q2 := Q2.keep hB
        replace HB := joinB HB hB
        clear hB
        refine rg_call 12 (some 32) 18 #[.agg #[.slice a1 len1 cap1, .slice b1 ken1 dap1], .agg #[.slice a2 len2 cap2, .slice b2 ken2 dap2]] (by kernel_rfl) (by kernel_rfl) (cAdd Q1 Q2 (by omega)) ?_
        rintro e r6x3 ⟨At, Nt, Ct, Bt, Mt, Dt, rfl, Qt, hB⟩
        refine ⟨_, rfl, joinB hS hB, ?_⟩
        replace hS := joinB hS hB
        replace P0 := P0.keep hB
        replace P1 := P1.keep hB
        replace P2 := P2.keep hB
        replace Q0 := Q0.keep hB
        replace Q1 := Q1.keep hB
        replace Q2 := Q2.keep hB
        replace Qs := Qs.keep hB
        replace HB := joinB HB hB
        clear hB
        refine rg_call 13 (some 33) 19 #[.agg #[.slice As Ns Cs, .slice Bs Ms Ds], .agg #[.slice At Nt Ct, .slice Bt Mt Dt]] (by kernel_rfl) (by kernel_rfl) (cCmp Qs.v Qt.v (by omega) (0) e2) ?_
        rintro e r6x4 ⟨rfl, hB⟩
        refine ⟨_, rfl, joinB hS hB, ?_⟩
        replace hS := joinB hS hB
        replace P0 := P0.keep hB
        replace P1 := P1.keep hB
        replace P2 := P2.keep hB
        replace Q0 := Q0.keep hB
        replace Q1 := Q1.keep hB
        replace Q2 := Q2.keep hB
        replace Qs := Qs.keep hB
        replace Qt := Qt.keep hB
        replace HB := joinB HB hB
        clear hB
        refine rg_take 15 (some 35) (.bool false) (by kernel_rfl) (fun _ _ => by kernel_rfl) (fun _ _ _ h => h) hS ?_
        refine rg_take 16 (some 36) (.bool false) (by kernel_rfl) (fun _ _ => by kernel_rfl) (fun _ _ _ h => h) hS ?_
        refine rg_take 17 (some 37) (.bool false) (by kernel_rfl) (fun _ _ => by kernel_rfl) (fun _ _ _ h => h) hS ?_
        refine rg_take 18 (some 38) (.int .i64 0) (by kernel_rfl) (fun _ _ => by kernel_rfl) (fun _ _ _ h => h) hS ?_
        refine rg_take 19 (some 39) (.bool true) (by kernel_rfl) (fun _ _ => by kernel_rfl) (fun _ _ _ h => h) hS ?_
        refine rg_take 20 (some 40) (.bool true) (by kernel_rfl) (fun _ _ => by kernel_rfl) (fun _ _ _ h => h) hS ?_
        refine rg_load 21 (some 41) (.agg #[.slice a1 len1 cap1, .slice b1 ken1 dap1]) 30 4 (w.heap.size + 1) 0 (by kernel_rfl) (by kernel_rfl) (by kernel_rfl) (fun _ hb => load_rat (UP1.keep hb)) (fun _ _ _ h => h) hS ?_
        refine rg_load 22 (some 42) (.agg #[.slice a2 len2 cap2, .slice b2 ken2 dap2]) 30 5 (w.heap.size + 1 + 1) 0 (by kernel_rfl) (by kernel_rfl) (by kernel_rfl) (fun _ hb => load_rat (UP2.keep hb)) (fun _ _ _ h => h) hS ?_
        refine rg_call 23 (some 43) 19 #[.agg #[.slice a1 len1 cap1, .slice b1 ken1 dap1], .agg #[.slice a2 len2 cap2, .slice b2 ken2 dap2]] (by kernel_rfl) (by kernel_rfl) (cCmp Q1 Q2 (by omega) sb hsb) ?_
        rintro e r6x5 ⟨rfl, hB⟩
        refine ⟨_, rfl, joinB hS hB, ?_⟩
        replace hS := joinB hS hB
        replace P0 := P0.keep hB
        replace P1 := P1.keep hB
        replace P2 := P2.keep hB
        replace Q0 := Q0.keep hB
        replace Q1 := Q1.keep hB
        replace Q2 := Q2.keep hB
        replace Qs := Qs.keep hB
        replace Qt := Qt.keep hB
        replace HB := joinB HB hB
        clear hB
        refine rg_eq 24 (some 44) (.bool (decide ((sb : Int) ≤ (0 : Int)))) (.bool true) (by rw [decide_eq_true hb]) (by kernel_rfl) (fun _ _ => by kernel_rfl) (fun _ _ _ h => h) hS ?_
        refine rg_take 25 (some 45) (.bool true) (by kernel_rfl) (fun _ _ => by kernel_rfl) (fun _ _ _ h => h) hS ?_
        refine rg_take 26 (some 46) (.bool true) (by kernel_rfl) (fun _ _ => by kernel_rfl) (fun _ _ _ h => h) hS ?_
        refine rg_load 27 (some 47) (.agg #[.slice a0 len0 cap0, .slice b0 ken0 dap0]) 30 3 (w.heap.size) 0 (by kernel_rfl) (by kernel_rfl) (by kernel_rfl) (fun _ hb => load_rat (UP0.keep hb)) (fun _ _ _ h => h) hS ?_
        refine rg_load 28 (some 48) (.agg #[.slice a2 len2 cap2, .slice b2 ken2 dap2]) 30 5 (w.heap.size + 1 + 1) 0 (by kernel_rfl) (by kernel_rfl) (by kernel_rfl) (fun _ hb => load_rat (UP2.keep hb)) (fun _ _ _ h => h) hS ?_
        refine rg_call 29 (some 49) 19 #[.agg #[.slice a0 len0 cap0, .slice b0 ken0 dap0], .agg #[.slice a2 len2 cap2, .slice b2 ken2 dap2]] (by kernel_rfl) (by kernel_rfl) (cCmp Q0 Q2 (by omega) sc hsc) ?_
        rintro e r6x6 ⟨rfl, hB⟩
        refine ⟨_, rfl, joinB hS hB, ?_⟩
        replace hS := joinB hS hB
        replace P0 := P0.keep hB
        replace P1 := P1.keep hB
        replace P2 := P2.keep hB
        replace Q0 := Q0.keep hB
        replace Q1 := Q1.keep hB
        replace Q2 := Q2.keep hB
        replace Qs := Qs.keep hB
        replace Qt := Qt.keep hB
        replace HB := joinB HB hB
        clear hB
        refine rg_eq 30 (some 50) (.bool (decide ((0 : Int) < (sc : Int)))) (.bool false) (by rw [decide_eq_false hc3]) (by kernel_rfl) (fun _ _ => by kernel_rfl) (fun _ _ _ h => h) hS ?_
        refine rg_take 31 (some 51) (.bool false) (by kernel_rfl) (fun _ _ => by kernel_rfl) (fun _ _ _ h => h) hS ?_
        refine rg_take 32 (some 52) (.bool false) (by kernel_rfl) (fun _ _ => by kernel_rfl) (fun _ _ _ h => h) hS ?_
        refine rg_done (by kernel_rfl) ?_
        exact ⟨fun k => ([(.int .i64 0), (.agg #[.slice a1 len1 cap1, .slice b1 ken1 dap1]), (.agg #[.slice a0 len0 cap0, .slice b0 ken0 dap0]), (.int .i64 0), (.int .i64 0), (.bool false), (.bool false), (.agg #[.slice a0 len0 cap0, .slice b0 ken0 dap0]), (.agg #[.slice a2 len2 cap2, .slice b2 ken2 dap2]), (.agg #[.slice As Ns Cs, .slice Bs Ms Ds]), (.agg #[.slice a1 len1 cap1, .slice b1 ken1 dap1]), (.agg #[.slice a2 len2 cap2, .slice b2 ken2 dap2]), (.agg #[.slice At Nt Ct, .slice Bt Mt Dt]), (.int .i64 0), (.int .i64 0), (.bool false), (.bool false), (.bool false), (.int .i64 0), (.bool true), (.bool true), (.agg #[.slice a1 len1 cap1, .slice b1 ken1 dap1]), (.agg #[.slice a2 len2 cap2, .slice b2 ken2 dap2]), (.int .i64 sb), (.bool true), (.bool true), (.bool true), (.agg #[.slice a0 len0 cap0, .slice b0 ken0 dap0]), (.agg #[.slice a2 len2 cap2, .slice b2 ken2 dap2]), (.int .i64 sc), (.bool false), (.bool false), (.bool false)] : List Value).getD (k - 20) undef, by kernel_rfl, P0, P1, P2, Q0, Q1, Q2, HB⟩
      · skip
        refine rg_take 0 (some 20) (.int .i64 0) (by kernel_rfl) (fun _ _ => by kernel_rfl) (fun _ _ _ h => h) hS ?_
        refine rg_load 1 (some 21) (.agg #[.slice a1 len1 cap1, .slice b1 ken1 dap1]) 30 4 (w.heap.size + 1) 0 (by kernel_rfl) (by kernel_rfl) (by kernel_rfl) (fun _ hb => load_rat (UP1.keep hb)) (fun _ _ _ h => h) hS ?_
        refine rg_load 2 (some 22) (.agg #[.slice a0 len0 cap0, .slice b0 ken0 dap0]) 30 3 (w.heap.size) 0 (by kernel_rfl) (by kernel_rfl) (by kernel_rfl) (fun _ hb => load_rat (UP0.keep hb)) (fun _ _ _ h => h) hS ?_
        refine rg_call 3 (some 23) 19 #[.agg #[.slice a1 len1 cap1, .slice b1 ken1 dap1], .agg #[.slice a0 len0 cap0, .slice b0 ken0 dap0]] (by kernel_rfl) (by kernel_rfl) (cCmp Q1 Q0 (by omega) (0) e1) ?_
        rintro e r6x1 ⟨rfl, hB⟩
        refine ⟨_, rfl, joinB hS hB, ?_⟩
        replace hS := joinB hS hB
        replace P0 := P0.keep hB
        replace P1 := P1.keep hB
        replace P2 := P2.keep hB
        replace Q0 := Q0.keep hB
        replace Q1 := Q1.keep hB
        replace Q2 := Q2.keep hB
        replace HB := joinB HB hB
        clear hB
        refine rg_take 4 (some 24) (.int .i64 0) (by kernel_rfl) (fun _ _ => by kernel_rfl) (fun _ _ _ h => h) hS ?_
        refine rg_take 5 (some 25) (.bool false) (by kernel_rfl) (fun _ _ => by kernel_rfl) (fun _ _ _ h => h) hS ?_
        refine rg_take 6 (some 26) (.bool false) (by kernel_rfl) (fun _ _ => by kernel_rfl) (fun _ _ _ h => h) hS ?_
        refine rg_load 7 (some 27) (.agg #[.slice a0 len0 cap0, .slice b0 ken0 dap0]) 30 3 (w.heap.size) 0 (by kernel_rfl) (by kernel_rfl) (by kernel_rfl) (fun _ hb => load_rat (UP0.keep hb)) (fun _ _ _ h => h) hS ?_
        refine rg_load 8 (some 28) (.agg #[.slice a2 len2 cap2, .slice b2 ken2 dap2]) 30 5 (w.heap.size + 1 + 1) 0 (by kernel_rfl) (by kernel_rfl) (by kernel_rfl) (fun _ hb => load_rat (UP2.keep hb)) (fun _ _ _ h => h) hS ?_
        refine rg_load 10 (some 30) (.agg #[.slice a1 len1 cap1, .slice b1 ken1 dap1]) 30 4 (w.heap.size + 1) 0 (by kernel_rfl) (by kernel_rfl) (by kernel_rfl) (fun _ hb => load_rat (UP1.keep hb)) (fun _ _ _ h => h) hS ?_
        refine rg_load 11 (some 31) (.agg #[.slice a2 len2 cap2, .slice b2 ken2 dap2]) 30 5 (w.heap.size + 1 + 1) 0 (by kernel_rfl) (by kernel_rfl) (by kernel_rfl) (fun _ hb => load_rat (UP2.keep hb)) (fun _ _ _ h => h) hS ?_
        refine rg_take 14 (some 34) (.int .i64 0) (by kernel_rfl) (fun _ _ => by kernel_rfl) (fun _ _ _ h => h) hS ?_
        refine rg_call 9 (some 29) 18 #[.agg #[.slice a0 len0 cap0, .slice b0 ken0 dap0], .agg #[.slice a2 len2 cap2, .slice b2 ken2 dap2]] (by kernel_rfl) (by kernel_rfl) (cAdd Q0 Q2 (by omega)) ?_
        rintro e r6x2 ⟨As, Ns, Cs, Bs, Ms, Ds, rfl, Qs, hB⟩
        refine ⟨_, rfl, joinB hS hB, ?_⟩
        replace hS := joinB hS hB
        replace P0 := P0.keep hB
        replace P1 := P1.keep hB
        replace P2 := P2.keep hB
        replace Q0 := Q0.keep hB
        replace Q1 := Q1.keep hB
        replace Q2 := Q2.keep hB
        replace HB := joinB HB hB
        clear hB
        refine rg_call 12 (some 32) 18 #[.agg #[.slice a1 len1 cap1, .slice b1 ken1 dap1], .agg #[.slice a2 len2 cap2, .slice b2 ken2 dap2]] (by kernel_rfl) (by kernel_rfl) (cAdd Q1 Q2 (by omega)) ?_
        rintro e r6x3 ⟨At, Nt, Ct, Bt, Mt, Dt, rfl, Qt, hB⟩
        refine ⟨_, rfl, joinB hS hB, ?_⟩
        replace hS := joinB hS hB
        replace P0 := P0.keep hB
        replace P1 := P1.keep hB
        replace P2 := P2.keep hB
        replace Q0 := Q0.keep hB
        replace Q1 := Q1.keep hB
        replace Q2 := Q2.keep hB
        replace Qs := Qs.keep hB
        replace HB := joinB HB hB
        clear hB
        refine rg_call 13 (some 33) 19 #[.agg #[.slice As Ns Cs, .slice Bs Ms Ds], .agg #[.slice At Nt Ct, .slice Bt Mt Dt]] (by kernel_rfl) (by kernel_rfl) (cCmp Qs.v Qt.v (by omega) (0) e2) ?_
        rintro e r6x4 ⟨rfl, hB⟩
        refine ⟨_, rfl, joinB hS hB, ?_⟩
        replace hS := joinB hS hB
        replace P0 := P0.keep hB
        replace P1 := P1.keep hB
        replace P2 := P2.keep hB
        replace Q0 := Q0.keep hB
        replace Q1 := Q1.keep hB
        replace Q2 := Q2.keep hB
        replace Qs := Qs.keep hB
        replace Qt := Qt.keep hB
        replace HB := joinB HB hB
        clear hB
        refine rg_take 15 (some 35) (.bool false) (by kernel_rfl) (fun _ _ => by kernel_rfl) (fun _ _ _ h => h) hS ?_
        refine rg_take 16 (some 36) (.bool false) (by kernel_rfl) (fun _ _ => by kernel_rfl) (fun _ _ _ h => h) hS ?_
        refine rg_take 17 (some 37) (.bool false) (by kernel_rfl) (fun _ _ => by kernel_rfl) (fun _ _ _ h => h) hS ?_
        refine rg_take 18 (some 38) (.int .i64 0) (by kernel_rfl) (fun _ _ => by kernel_rfl) (fun _ _ _ h => h) hS ?_
        refine rg_take 19 (some 39) (.bool true) (by kernel_rfl) (fun _ _ => by kernel_rfl) (fun _ _ _ h => h) hS ?_
        refine rg_take 20 (some 40) (.bool true) (by kernel_rfl) (fun _ _ => by kernel_rfl) (fun _ _ _ h => h) hS ?_
        refine rg_load 21 (some 41) (.agg #[.slice a1 len1 cap1, .slice b1 ken1 dap1]) 30 4 (w.heap.size + 1) 0 (by kernel_rfl) (by kernel_rfl) (by kernel_rfl) (fun _ hb => load_rat (UP1.keep hb)) (fun _ _ _ h => h) hS ?_
        refine rg_load 22 (some 42) (.agg #[.slice a2 len2 cap2, .slice b2 ken2 dap2]) 30 5 (w.heap.size + 1 + 1) 0 (by kernel_rfl) (by kernel_rfl) (by kernel_rfl) (fun _ hb => load_rat (UP2.keep hb)) (fun _ _ _ h => h) hS ?_
        refine rg_call 23 (some 43) 19 #[.agg #[.slice a1 len1 cap1, .slice b1 ken1 dap1], .agg #[.slice a2 len2 cap2, .slice b2 ken2 dap2]] (by kernel_rfl) (by kernel_rfl) (cCmp Q1 Q2 (by omega) sb hsb) ?_
        rintro e r6x5 ⟨rfl, hB⟩
        refine ⟨_, rfl, joinB hS hB, ?_⟩
        replace hS := joinB hS hB
        replace P0 := P0.keep hB
        replace P1 := P1.keep hB
        replace P2 := P2.keep hB
        replace Q0 := Q0.keep hB
        replace Q1 := Q1.keep hB
        replace Q2 := Q2.keep hB
        replace Qs := Qs.keep hB
        replace Qt := Qt.keep hB
        replace HB := joinB HB hB
        clear hB
        refine rg_eq 24 (some 44) (.bool (decide ((sb : Int) ≤ (0 : Int)))) (.bool false) (by rw [decide_eq_false hb]) (by kernel_rfl) (fun _ _ => by kernel_rfl) (fun _ _ _ h => h) hS ?_
        refine rg_take 25 (some 45) (.bool false) (by kernel_rfl) (fun _ _ => by kernel_rfl) (fun _ _ _ h => h) hS ?_
        refine rg_take 26 (some 46) (.bool false) (by kernel_rfl) (fun _ _ => by kernel_rfl) (fun _ _ _ h => h) hS ?_
        refine rg_skip 27 (some 47) (by kernel_rfl) (fun _ _ _ h => h) hS ?_
        refine rg_skip 28 (some 48) (by kernel_rfl) (fun _ _ _ h => h) hS ?_
        refine rg_skip 29 (some 49) (by kernel_rfl) (fun _ _ _ h => h) hS ?_
        refine rg_skip 30 (some 50) (by kernel_rfl) (fun _ _ _ h => h) hS ?_
        refine rg_take 31 (some 51) (.bool false) (by kernel_rfl) (fun _ _ => by kernel_rfl) (fun _ _ _ h => h) hS ?_
        refine rg_take 32 (some 52) (.bool false) (by kernel_rfl) (fun _ _ => by kernel_rfl) (fun _ _ _ h => h) hS ?_
        refine rg_done (by kernel_rfl) ?_
        exact ⟨fun k => ([(.int .i64 0), (.agg #[.slice a1 len1 cap1, .slice b1 ken1 dap1]), (.agg #[.slice a0 len0 cap0, .slice b0 ken0 dap0]), (.int .i64 0), (.int .i64 0), (.bool false), (.bool false), (.agg #[.slice a0 len0 cap0, .slice b0 ken0 dap0]), (.agg #[.slice a2 len2 cap2, .slice b2 ken2 dap2]), (.agg #[.slice As Ns Cs, .slice Bs Ms Ds]), (.agg #[.slice a1 len1 cap1, .slice b1 ken1 dap1]), (.agg #[.slice a2 len2 cap2, .slice b2 ken2 dap2]), (.agg #[.slice At Nt Ct, .slice Bt Mt Dt]), (.int .i64 0), (.int .i64 0), (.bool false), (.bool false), (.bool false), (.int .i64 0), (.bool true), (.bool true), (.agg #[.slice a1 len1 cap1, .slice b1 ken1 dap1]), (.agg #[.slice a2 len2 cap2, .slice b2 ken2 dap2]), (.int .i64 sb), (.bool false), (.bool false), (.bool false), undef, undef, undef, undef, (.bool false), (.bool false)] : List Value).getD (k - 20) undef, by kernel_rfl, P0, P1, P2, Q0, Q1, Q2, HB⟩
    · obtain rfl : sx = 1 := HX.out.symm.trans (sgn_gt hc)
      have e1 : sgn (p1 * q0) (p0 * q1) = -1 := sgn_lt hc
      have e2 : sgn ((p0 * q2 + p2 * q0) * (q1 * q2)) ((p1 * q2 + p2 * q1) * (q0 * q2)) = 1 := (add_sgn hq2).trans (sgn_gt hc)
      · skip
        refine rg_take 0 (some 20) (.int .i64 1) (by kernel_rfl) (fun _ _ => by kernel_rfl) (fun _ _ _ h => h) hS ?_
        refine rg_load 1 (some 21) (.agg #[.slice a1 len1 cap1, .slice b1 ken1 dap1]) 30 4 (w.heap.size + 1) 0 (by kernel_rfl) (by kernel_rfl) (by kernel_rfl) (fun _ hb => load_rat (UP1.keep hb)) (fun _ _ _ h => h) hS ?_
        refine rg_load 2 (some 22) (.agg #[.slice a0 len0 cap0, .slice b0 ken0 dap0]) 30 3 (w.heap.size) 0 (by kernel_rfl) (by kernel_rfl) (by kernel_rfl) (fun _ hb => load_rat (UP0.keep hb)) (fun _ _ _ h => h) hS ?_
        refine rg_call 3 (some 23) 19 #[.agg #[.slice a1 len1 cap1, .slice b1 ken1 dap1], .agg #[.slice a0 len0 cap0, .slice b0 ken0 dap0]] (by kernel_rfl) (by kernel_rfl) (cCmp Q1 Q0 (by omega) (-1) e1) ?_
        rintro e r6x1 ⟨rfl, hB⟩
        refine ⟨_, rfl, joinB hS hB, ?_⟩
        replace hS := joinB hS hB
        replace P0 := P0.keep hB
        replace P1 := P1.keep hB
        replace P2 := P2.keep hB
        replace Q0 := Q0.keep hB
        replace Q1 := Q1.keep hB
        replace Q2 := Q2.keep hB
        replace HB := joinB HB hB
        clear hB
        refine rg_take 4 (some 24) (.int .i64 (1)) (by kernel_rfl) (fun _ _ => by kernel_rfl) (fun _ _ _ h => h) hS ?_
        refine rg_take 5 (some 25) (.bool false) (by kernel_rfl) (fun _ _ => by kernel_rfl) (fun _ _ _ h => h) hS ?_
        refine rg_take 6 (some 26) (.bool false) (by kernel_rfl) (fun _ _ => by kernel_rfl) (fun _ _ _ h => h) hS ?_
        refine rg_load 7 (some 27) (.agg #[.slice a0 len0 cap0, .slice b0 ken0 dap0]) 30 3 (w.heap.size) 0 (by kernel_rfl) (by kernel_rfl) (by kernel_rfl) (fun _ hb => load_rat (UP0.keep hb)) (fun _ _ _ h => h) hS ?_
        refine rg_load 8 (some 28) (.agg #[.slice a2 len2 cap2, .slice b2 ken2 dap2]) 30 5 (w.heap.size + 1 + 1) 0 (by kernel_rfl) (by kernel_rfl) (by kernel_rfl) (fun _ hb => load_rat (UP2.keep hb)) (fun _ _ _ h => h) hS ?_
        refine rg_load 10 (some 30) (.agg #[.slice a1 len1 cap1, .slice b1 ken1 dap1]) 30 4 (w.heap.size + 1) 0 (by kernel_rfl) (by kernel_rfl) (by kernel_rfl) (fun _ hb => load_rat (UP1.keep hb)) (fun _ _ _ h => h) hS ?_
        refine rg_load 11 (some 31) (.agg #[.slice a2 len2 cap2, .slice b2 ken2 dap2]) 30 5 (w.heap.size + 1 + 1) 0 (by kernel_rfl) (by kernel_rfl) (by kernel_rfl) (fun _ hb => load_rat (UP2.keep hb)) (fun _ _ _ h => h) hS ?_
        refine rg_take 14 (some 34) (.int .i64 1) (by kernel_rfl) (fun _ _ => by kernel_rfl) (fun _ _ _ h => h) hS ?_
        refine rg_call 9 (some 29) 18 #[.agg #[.slice a0 len0 cap0, .slice b0 ken0 dap0], .agg #[.slice a2 len2 cap2, .slice b2 ken2 dap2]] (by kernel_rfl) (by kernel_rfl) (cAdd Q0 Q2 (by omega)) ?_
        rintro e r6x2 ⟨As, Ns, Cs, Bs, Ms, Ds, rfl, Qs, hB⟩
        refine ⟨_, rfl, joinB hS hB, ?_⟩
        replace hS := joinB hS hB
        replace P0 := P0.keep hB
        replace P1 := P1.keep hB
        replace P2 := P2.keep hB
        replace Q0 := Q0.keep hB
        replace Q1 := Q1.keep hB
        replace Q2 := Q2.keep hB
        replace HB := joinB HB hB
        clear hB
        refine rg_call 12 (some 32) 18 #[.agg #[.slice a1 len1 cap1, .slice b1 ken1 dap1], .agg #[.slice a2 len2 cap2, .slice b2 ken2 dap2]] (by kernel_rfl) (by kernel_rfl) (cAdd Q1 Q2 (by omega)) ?_
        rintro e r6x3 ⟨At, Nt, Ct, Bt, Mt, Dt, rfl, Qt, hB⟩
        refine ⟨_, rfl, joinB hS hB, ?_⟩
        replace hS := joinB hS hB
        replace P0 := P0.keep hB
        replace P1 := P1.keep hB
        replace P2 := P2.keep hB
        replace Q0 := Q0.keep hB
        replace Q1 := Q1.keep hB
        replace Q2 := Q2.keep hB
        replace Qs := Qs.keep hB
        replace HB := joinB HB hB
        clear hB
        refine rg_call 13 (some 33) 19 #[.agg #[.slice As Ns Cs, .slice Bs Ms Ds], .agg #[.slice At Nt Ct, .slice Bt Mt Dt]] (by kernel_rfl) (by kernel_rfl) (cCmp Qs.v Qt.v (by omega) (1) e2) ?_
        rintro e r6x4 ⟨rfl, hB⟩
        refine ⟨_, rfl, joinB hS hB, ?_⟩
        replace hS := joinB hS hB
        replace P0 := P0.keep hB
        replace P1 := P1.keep hB
        replace P2 := P2.keep hB
        replace Q0 := Q0.keep hB
        replace Q1 := Q1.keep hB
        replace Q2 := Q2.keep hB
        replace Qs := Qs.keep hB
        replace Qt := Qt.keep hB
        replace HB := joinB HB hB
        clear hB
        refine rg_take 15 (some 35) (.bool false) (by kernel_rfl) (fun _ _ => by kernel_rfl) (fun _ _ _ h => h) hS ?_
        refine rg_take 16 (some 36) (.bool false) (by kernel_rfl) (fun _ _ => by kernel_rfl) (fun _ _ _ h => h) hS ?_
        refine rg_take 17 (some 37) (.bool false) (by kernel_rfl) (fun _ _ => by kernel_rfl) (fun _ _ _ h => h) hS ?_
        refine rg_take 18 (some 38) (.int .i64 1) (by kernel_rfl) (fun _ _ => by kernel_rfl) (fun _ _ _ h => h) hS ?_
        refine rg_take 19 (some 39) (.bool false) (by kernel_rfl) (fun _ _ => by kernel_rfl) (fun _ _ _ h => h) hS ?_
        refine rg_take 20 (some 40) (.bool false) (by kernel_rfl) (fun _ _ => by kernel_rfl) (fun _ _ _ h => h) hS ?_
        refine rg_skip 21 (some 41) (by kernel_rfl) (fun _ _ _ h => h) hS ?_
        refine rg_skip 22 (some 42) (by kernel_rfl) (fun _ _ _ h => h) hS ?_
        refine rg_skip 23 (some 43) (by kernel_rfl) (fun _ _ _ h => h) hS ?_
        refine rg_skip 24 (some 44) (by kernel_rfl) (fun _ _ _ h => h) hS ?_
        refine rg_take 25 (some 45) (.bool false) (by kernel_rfl) (fun _ _ => by kernel_rfl) (fun _ _ _ h => h) hS ?_
        refine rg_take 26 (some 46) (.bool false) (by kernel_rfl) (fun _ _ => by kernel_rfl) (fun _ _ _ h => h) hS ?_
        refine rg_skip 27 (some 47) (by kernel_rfl) (fun _ _ _ h => h) hS ?_
        refine rg_skip 28 (some 48) (by kernel_rfl) (fun _ _ _ h => h) hS ?_
        refine rg_skip 29 (some 49) (by kernel_rfl) (fun _ _ _ h => h) hS ?_
        refine rg_skip 30 (some 50) (by kernel_rfl) (fun _ _ _ h => h) hS ?_
        refine rg_take 31 (some 51) (.bool false) (by kernel_rfl) (fun _ _ => by kernel_rfl) (fun _ _ _ h => h) hS ?_
        refine rg_take 32 (some 52) (.bool false) (by kernel_rfl) (fun _ _ => by kernel_rfl) (fun _ _ _ h => h) hS ?_
        refine rg_done (by kernel_rfl) ?_
        exact ⟨fun k => ([(.int .i64 1), (.agg #[.slice a1 len1 cap1, .slice b1 ken1 dap1]), (.agg #[.slice a0 len0 cap0, .slice b0 ken0 dap0]), (.int .i64 (-1)), (.int .i64 (1)), (.bool false), (.bool false), (.agg #[.slice a0 len0 cap0, .slice b0 ken0 dap0]), (.agg #[.slice a2 len2 cap2, .slice b2 ken2 dap2]), (.agg #[.slice As Ns Cs, .slice Bs Ms Ds]), (.agg #[.slice a1 len1 cap1, .slice b1 ken1 dap1]), (.agg #[.slice a2 len2 cap2, .slice b2 ken2 dap2]), (.agg #[.slice At Nt Ct, .slice Bt Mt Dt]), (.int .i64 1), (.int .i64 1), (.bool false), (.bool false), (.bool false), (.int .i64 1), (.bool false), (.bool false), undef, undef, undef, undef, (.bool false), (.bool false), undef, undef, undef, undef, (.bool false), (.bool false)] : List Value).getD (k - 20) undef, by kernel_rfl, P0, P1, P2, Q0, Q1, Q2, HB⟩
  · rintro x x2 ⟨P0', P1', P2', Q0', Q1', Q2', HBn⟩
    replace P0 := P0'
    clear P0'
    replace P1 := P1'
    clear P1'
    replace P2 := P2'
    clear P2'
    replace Q0 := Q0'
    clear Q0'
    replace Q1 := Q1'
    clear Q1'
    replace Q2 := Q2'
    clear Q2'
    replace HB := HBn
    clear HBn
    try simp only [putAll, Act.put, List.setIfInBounds_toArray, List.set_cons_zero, List.set_cons_succ]
    clear HX
    obtain ⟨c1P0, c2P0, c3P0, c4P0⟩ := P0.cells2
    obtain ⟨c1P1, c2P1, c3P1, c4P1⟩ := P1.cells2
    obtain ⟨c1P2, c2P2, c3P2, c4P2⟩ := P2.cells2
    go_wp2_with fail
    refine (cFloor Q0 (by omega)).mono ?_
    rintro e x3 ⟨Af, Nf, Cf, rfl, Of, hof, hB⟩
    clear c1P0 c2P0 c3P0 c4P0 c1P1 c2P1 c3P1 c4P1 c1P2 c2P2 c3P2 c4P2
    replace P0 := P0.keep hB
    replace P1 := P1.keep hB
    replace P2 := P2.keep hB
    replace Q0 := Q0.keep hB
    replace Q1 := Q1.keep hB
    replace Q2 := Q2.keep hB
    replace HB := joinB HB hB
    clear hB
    clear P1 P2 Q1 Q2
    obtain ⟨s1, hs1⟩ : ∃ s, sgn (p0 / q0 * q0) (p0 * 1) = s := ⟨_, rfl⟩
    have h1 : s1 ≤ 0 := by
      rw [← hs1, Int.mul_one]; exact sgn_le (Int.ediv_mul_le p0 (by omega))
    have h2 : sgn (p0 * 1) ((p0 / q0 + 1) * q0) = -1 := by
      rw [Int.mul_one]; exact sgn_lt (Int.lt_ediv_add_one_mul_self p0 hq0)
    by_cases h3 : p0 = 0
    · have h4 : decide (p0 = 0) = true := decide_eq_true h3
      have h5 : sgn (p0 * 1) (0 * q0) = 0 := by
        rw [Int.mul_one, Int.zero_mul]
        exact sgn_eq h3
      clear h3
      obtain ⟨c1P0, c2P0, c3P0, c4P0⟩ := P0.cells2
      go_wp2_with fail
      clear c1P0 c2P0 c3P0 c4P0
      refine rg_start (S := fun w' => Below x3.drew.heap.size x3.drew w') (by kernel_rfl) (Below.refl _ _) ?_
      replace P0 := P0.drew
      replace Q0 := Q0.drew
      replace Of := Of.drew
      replace HB := HB.drew
      have UP0 := P0
      have hS := Below.refl x3.drew.heap.size x3.drew
      clear P0
      refine rg_take 0 (some 55) (.slice Af Nf Cf) (by kernel_rfl) (fun _ _ => by kernel_rfl) (fun _ _ _ h => h) hS ?_
      refine rg_load 2 (some 57) (.agg #[.slice a0 len0 cap0, .slice b0 ken0 dap0]) 30 3 (w.heap.size) 0 (by kernel_rfl) (by kernel_rfl) (by kernel_rfl) (fun _ hb => load_rat (UP0.keep hb)) (fun _ _ _ h => h) hS ?_
      refine rg_call 1 (some 56) 21 #[.slice Af Nf Cf] (by kernel_rfl) (by kernel_rfl) (cOfNat (B := 13) Of.a (by omega) (by omega) (by omega)) ?_
      rintro e r9x1 ⟨Ag, Ng, Cg, Bg, Mg, Dg, rfl, Qg, hB⟩
      refine ⟨_, rfl, joinB hS hB, ?_⟩
      replace hS := joinB hS hB
      replace Q0 := Q0.keep hB
      replace Of := Of.keep hB
      replace HB := joinB HB hB
      clear hB
      refine rg_call 3 (some 58) 19 #[.agg #[.slice Ag Ng Cg, .slice Bg Mg Dg], .agg #[.slice a0 len0 cap0, .slice b0 ken0 dap0]] (by kernel_rfl) (by kernel_rfl) (cCmp Qg.v (Q0.up (by omega)) (by omega) s1 hs1) ?_
      rintro e r9x2 ⟨rfl, hB⟩
      refine ⟨_, rfl, joinB hS hB, ?_⟩
      replace hS := joinB hS hB
      replace Q0 := Q0.keep hB
      replace Of := Of.keep hB
      replace Qg := Qg.keep hB
      replace HB := joinB HB hB
      clear hB
      refine rg_eq 4 (some 59) (.bool (decide ((s1 : Int) ≤ (0 : Int)))) (.bool true) (by rw [decide_eq_true h1]) (by kernel_rfl) (fun _ _ => by kernel_rfl) (fun _ _ _ h => h) hS ?_
      refine rg_take 5 (some 60) (.bool true) (by kernel_rfl) (fun _ _ => by kernel_rfl) (fun _ _ _ h => h) hS ?_
      refine rg_load 6 (some 61) (.agg #[.slice a0 len0 cap0, .slice b0 ken0 dap0]) 30 3 (w.heap.size) 0 (by kernel_rfl) (by kernel_rfl) (by kernel_rfl) (fun _ hb => load_rat (UP0.keep hb)) (fun _ _ _ h => h) hS ?_
      refine rg_take 7 (some 62) (.slice Af Nf Cf) (by kernel_rfl) (fun _ _ => by kernel_rfl) (fun _ _ _ h => h) hS ?_
      refine rg_call 8 (some 63) 23 #[.int .u64 1] (by kernel_rfl) (by kernel_rfl) (nOf (x := 1) (by decide) (by decide)) ?_
      rintro e r9x3 ⟨Ah, Nh, Ch, rfl, Oh, hoh, hB⟩
      refine ⟨_, rfl, joinB hS hB, ?_⟩
      replace hS := joinB hS hB
      replace Q0 := Q0.keep hB
      replace Of := Of.keep hB
      replace Qg := Qg.keep hB
      replace HB := joinB HB hB
      clear hB
      refine rg_call 9 (some 64) 22 #[.slice Af Nf Cf, .slice Ah Nh Ch] (by kernel_rfl) (by kernel_rfl) (nAdd Of.a Oh.a (by omega) (by omega)) ?_
      rintro e r9x4 ⟨Ai, Ni, Ci, rfl, Oi, hoi, hB⟩
      refine ⟨_, rfl, joinB hS hB, ?_⟩
      replace hS := joinB hS hB
      replace Q0 := Q0.keep hB
      replace Of := Of.keep hB
      replace Qg := Qg.keep hB
      replace Oh := Oh.keep hB
      replace HB := joinB HB hB
      clear hB
      refine rg_call 10 (some 65) 21 #[.slice Ai Ni Ci] (by kernel_rfl) (by kernel_rfl) (cOfNat (B := 15) Oi.a (by omega) (by omega) (by omega)) ?_
      rintro e r9x5 ⟨Aj, Nj, Cj, Bj, Mj, Dj, rfl, Qj, hB⟩
      refine ⟨_, rfl, joinB hS hB, ?_⟩
      replace hS := joinB hS hB
      replace Q0 := Q0.keep hB
      replace Of := Of.keep hB
      replace Qg := Qg.keep hB
      replace Oh := Oh.keep hB
      replace Oi := Oi.keep hB
      replace HB := joinB HB hB
      clear hB
      refine rg_call 11 (some 66) 19 #[.agg #[.slice a0 len0 cap0, .slice b0 ken0 dap0], .agg #[.slice Aj Nj Cj, .slice Bj Mj Dj]] (by kernel_rfl) (by kernel_rfl) (cCmp (Q0.up (by omega)) Qj.v (by omega) (-1) h2) ?_
      rintro e r9x6 ⟨rfl, hB⟩
      refine ⟨_, rfl, joinB hS hB, ?_⟩
      replace hS := joinB hS hB
      replace Q0 := Q0.keep hB
      replace Of := Of.keep hB
      replace Qg := Qg.keep hB
      replace Oh := Oh.keep hB
      replace Oi := Oi.keep hB
      replace Qj := Qj.keep hB
      replace HB := joinB HB hB
      clear hB
      refine rg_take 12 (some 67) (.bool true) (by kernel_rfl) (fun _ _ => by kernel_rfl) (fun _ _ _ h => h) hS ?_
      refine rg_take 13 (some 68) (.bool true) (by kernel_rfl) (fun _ _ => by kernel_rfl) (fun _ _ _ h => h) hS ?_
      refine rg_take 14 (some 69) (.bool true) (by kernel_rfl) (fun _ _ => by kernel_rfl) (fun _ _ _ h => h) hS ?_
      refine rg_load 15 (some 70) (.agg #[.slice a0 len0 cap0, .slice b0 ken0 dap0]) 30 3 (w.heap.size) 0 (by kernel_rfl) (by kernel_rfl) (by kernel_rfl) (fun _ hb => load_rat (UP0.keep hb)) (fun _ _ _ h => h) hS ?_
      refine rg_load 17 (some 72) (.agg #[.slice a0 len0 cap0, .slice b0 ken0 dap0]) 30 3 (w.heap.size) 0 (by kernel_rfl) (by kernel_rfl) (by kernel_rfl) (fun _ hb => load_rat (UP0.keep hb)) (fun _ _ _ h => h) hS ?_
      refine rg_take 18 (some 73) (.agg #[.slice none 0 0, .slice none 0 0]) (by kernel_rfl) (fun _ _ => by kernel_rfl) (fun _ _ _ h => h) hS ?_
      refine rg_call 16 (some 71) 24 #[.agg #[.slice a0 len0 cap0, .slice b0 ken0 dap0]] (by kernel_rfl) (by kernel_rfl) (cZero Q0 (by omega) true h4) ?_
      rintro e r9x7 ⟨rfl, hB⟩
      refine ⟨_, rfl, joinB hS hB, ?_⟩
      replace hS := joinB hS hB
      replace Q0 := Q0.keep hB
      replace Of := Of.keep hB
      replace Qg := Qg.keep hB
      replace Oh := Oh.keep hB
      replace Oi := Oi.keep hB
      replace Qj := Qj.keep hB
      replace HB := joinB HB hB
      clear hB
      refine rg_call 19 (some 74) 19 #[.agg #[.slice a0 len0 cap0, .slice b0 ken0 dap0], .agg #[.slice none 0 0, .slice none 0 0]] (by kernel_rfl) (by kernel_rfl) (cCmp Q0 qv_nil (by omega) 0 h5) ?_
      rintro e r9x8 ⟨rfl, hB⟩
      refine ⟨_, rfl, joinB hS hB, ?_⟩
      replace hS := joinB hS hB
      replace Q0 := Q0.keep hB
      replace Of := Of.keep hB
      replace Qg := Qg.keep hB
      replace Oh := Oh.keep hB
      replace Oi := Oi.keep hB
      replace Qj := Qj.keep hB
      replace HB := joinB HB hB
      clear hB
      refine rg_take 20 (some 75) (.bool true) (by kernel_rfl) (fun _ _ => by kernel_rfl) (fun _ _ _ h => h) hS ?_
      refine rg_take 21 (some 76) (.bool true) (by kernel_rfl) (fun _ _ => by kernel_rfl) (fun _ _ _ h => h) hS ?_
      refine rg_take 22 (some 77) (.bool true) (by kernel_rfl) (fun _ _ => by kernel_rfl) (fun _ _ _ h => h) hS ?_
      refine rg_take 23 (some 6) (.bool true) (by kernel_rfl) (fun _ _ => by kernel_rfl) (fun _ _ _ h => h) hS ?_
      refine rg_done (by kernel_rfl) ?_
      clear hS UP0
      try simp only [Act.put, List.setIfInBounds_toArray, List.set_cons_zero, List.set_cons_succ]
      go_wp2
      go_ret
      exact ⟨rfl, HB⟩
    · have h4 : decide (p0 = 0) = false := decide_eq_false h3
      have h5 : sgn (p0 * 1) (0 * q0) = 1 := by
        rw [Int.mul_one, Int.zero_mul]
        exact sgn_gt (by omega)
      clear h3
      obtain ⟨c1P0, c2P0, c3P0, c4P0⟩ := P0.cells2
      go_wp2_with fail
      clear c1P0 c2P0 c3P0 c4P0
      refine rg_start (S := fun w' => Below x3.drew.heap.size x3.drew w') (by kernel_rfl) (Below.refl _ _) ?_
      replace P0 := P0.drew
      replace Q0 := Q0.drew
      replace Of := Of.drew
      replace HB := HB.drew
      have UP0 := P0
      have hS := Below.refl x3.drew.heap.size x3.drew
      clear P0
      refine rg_take 0 (some 55) (.slice Af Nf Cf) (by kernel_rfl) (fun _ _ => by kernel_rfl) (fun _ _ _ h => h) hS ?_
      refine rg_load 2 (some 57) (.agg #[.slice a0 len0 cap0, .slice b0 ken0 dap0]) 30 3 (w.heap.size) 0 (by kernel_rfl) (by kernel_rfl) (by kernel_rfl) (fun _ hb => load_rat (UP0.keep hb)) (fun _ _ _ h => h) hS ?_
      refine rg_call 1 (some 56) 21 #[.slice Af Nf Cf] (by kernel_rfl) (by kernel_rfl) (cOfNat (B := 13) Of.a (by omega) (by omega) (by omega)) ?_
      rintro e r9x1 ⟨Ag, Ng, Cg, Bg, Mg, Dg, rfl, Qg, hB⟩
      refine ⟨_, rfl, joinB hS hB, ?_⟩
      replace hS := joinB hS hB
      replace Q0 := Q0.keep hB
      replace Of := Of.keep hB
      replace HB := joinB HB hB
      clear hB
      refine rg_call 3 (some 58) 19 #[.agg #[.slice Ag Ng Cg, .slice Bg Mg Dg], .agg #[.slice a0 len0 cap0, .slice b0 ken0 dap0]] (by kernel_rfl) (by kernel_rfl) (cCmp Qg.v (Q0.up (by omega)) (by omega) s1 hs1) ?_
      rintro e r9x2 ⟨rfl, hB⟩
      refine ⟨_, rfl, joinB hS hB, ?_⟩
      replace hS := joinB hS hB
      replace Q0 := Q0.keep hB
      replace Of := Of.keep hB
      replace Qg := Qg.keep hB
      replace HB := joinB HB hB
      clear hB
      refine rg_eq 4 (some 59) (.bool (decide ((s1 : Int) ≤ (0 : Int)))) (.bool true) (by rw [decide_eq_true h1]) (by kernel_rfl) (fun _ _ => by kernel_rfl) (fun _ _ _ h => h) hS ?_
      refine rg_take 5 (some 60) (.bool true) (by kernel_rfl) (fun _ _ => by kernel_rfl) (fun _ _ _ h => h) hS ?_
      refine rg_load 6 (some 61) (.agg #[.slice a0 len0 cap0, .slice b0 ken0 dap0]) 30 3 (w.heap.size) 0 (by kernel_rfl) (by kernel_rfl) (by kernel_rfl) (fun _ hb => load_rat (UP0.keep hb)) (fun _ _ _ h => h) hS ?_
      refine rg_take 7 (some 62) (.slice Af Nf Cf) (by kernel_rfl) (fun _ _ => by kernel_rfl) (fun _ _ _ h => h) hS ?_
      refine rg_call 8 (some 63) 23 #[.int .u64 1] (by kernel_rfl) (by kernel_rfl) (nOf (x := 1) (by decide) (by decide)) ?_
      rintro e r9x3 ⟨Ah, Nh, Ch, rfl, Oh, hoh, hB⟩
      refine ⟨_, rfl, joinB hS hB, ?_⟩
      replace hS := joinB hS hB
      replace Q0 := Q0.keep hB
      replace Of := Of.keep hB
      replace Qg := Qg.keep hB
      replace HB := joinB HB hB
      clear hB
      refine rg_call 9 (some 64) 22 #[.slice Af Nf Cf, .slice Ah Nh Ch] (by kernel_rfl) (by kernel_rfl) (nAdd Of.a Oh.a (by omega) (by omega)) ?_
      rintro e r9x4 ⟨Ai, Ni, Ci, rfl, Oi, hoi, hB⟩
      refine ⟨_, rfl, joinB hS hB, ?_⟩
      replace hS := joinB hS hB
      replace Q0 := Q0.keep hB
      replace Of := Of.keep hB
      replace Qg := Qg.keep hB
      replace Oh := Oh.keep hB
      replace HB := joinB HB hB
      clear hB
      refine rg_call 10 (some 65) 21 #[.slice Ai Ni Ci] (by kernel_rfl) (by kernel_rfl) (cOfNat (B := 15) Oi.a (by omega) (by omega) (by omega)) ?_
      rintro e r9x5 ⟨Aj, Nj, Cj, Bj, Mj, Dj, rfl, Qj, hB⟩
      refine ⟨_, rfl, joinB hS hB, ?_⟩
      replace hS := joinB hS hB
      replace Q0 := Q0.keep hB
      replace Of := Of.keep hB
      replace Qg := Qg.keep hB
      replace Oh := Oh.keep hB
      replace Oi := Oi.keep hB
      replace HB := joinB HB hB
      clear hB
      refine rg_call 11 (some 66) 19 #[.agg #[.slice a0 len0 cap0, .slice b0 ken0 dap0], .agg #[.slice Aj Nj Cj, .slice Bj Mj Dj]] (by kernel_rfl) (by kernel_rfl) (cCmp (Q0.up (by omega)) Qj.v (by omega) (-1) h2) ?_
      rintro e r9x6 ⟨rfl, hB⟩
      refine ⟨_, rfl, joinB hS hB, ?_⟩
      replace hS := joinB hS hB
      replace Q0 := Q0.keep hB
      replace Of := Of.keep hB
      replace Qg := Qg.keep hB
      replace Oh := Oh.keep hB
      replace Oi := Oi.keep hB
      replace Qj := Qj.keep hB
      replace HB := joinB HB hB
      clear hB
      refine rg_take 12 (some 67) (.bool true) (by kernel_rfl) (fun _ _ => by kernel_rfl) (fun _ _ _ h => h) hS ?_
      refine rg_take 13 (some 68) (.bool true) (by kernel_rfl) (fun _ _ => by kernel_rfl) (fun _ _ _ h => h) hS ?_
      refine rg_take 14 (some 69) (.bool true) (by kernel_rfl) (fun _ _ => by kernel_rfl) (fun _ _ _ h => h) hS ?_
      refine rg_load 15 (some 70) (.agg #[.slice a0 len0 cap0, .slice b0 ken0 dap0]) 30 3 (w.heap.size) 0 (by kernel_rfl) (by kernel_rfl) (by kernel_rfl) (fun _ hb => load_rat (UP0.keep hb)) (fun _ _ _ h => h) hS ?_
      refine rg_load 17 (some 72) (.agg #[.slice a0 len0 cap0, .slice b0 ken0 dap0]) 30 3 (w.heap.size) 0 (by kernel_rfl) (by kernel_rfl) (by kernel_rfl) (fun _ hb => load_rat (UP0.keep hb)) (fun _ _ _ h => h) hS ?_
      refine rg_take 18 (some 73) (.agg #[.slice none 0 0, .slice none 0 0]) (by kernel_rfl) (fun _ _ => by kernel_rfl) (fun _ _ _ h => h) hS ?_
      refine rg_call 16 (some 71) 24 #[.agg #[.slice a0 len0 cap0, .slice b0 ken0 dap0]] (by kernel_rfl) (by kernel_rfl) (cZero Q0 (by omega) false h4) ?_
      rintro e r9x7 ⟨rfl, hB⟩
      refine ⟨_, rfl, joinB hS hB, ?_⟩
      replace hS := joinB hS hB
      replace Q0 := Q0.keep hB
      replace Of := Of.keep hB
      replace Qg := Qg.keep hB
      replace Oh := Oh.keep hB
      replace Oi := Oi.keep hB
      replace Qj := Qj.keep hB
      replace HB := joinB HB hB
      clear hB
      refine rg_call 19 (some 74) 19 #[.agg #[.slice a0 len0 cap0, .slice b0 ken0 dap0], .agg #[.slice none 0 0, .slice none 0 0]] (by kernel_rfl) (by kernel_rfl) (cCmp Q0 qv_nil (by omega) 1 h5) ?_
      rintro e r9x8 ⟨rfl, hB⟩
      refine ⟨_, rfl, joinB hS hB, ?_⟩
      replace hS := joinB hS hB
      replace Q0 := Q0.keep hB
      replace Of := Of.keep hB
      replace Qg := Qg.keep hB
      replace Oh := Oh.keep hB
      replace Oi := Oi.keep hB
      replace Qj := Qj.keep hB
      replace HB := joinB HB hB
      clear hB
      refine rg_take 20 (some 75) (.bool false) (by kernel_rfl) (fun _ _ => by kernel_rfl) (fun _ _ _ h => h) hS ?_
      refine rg_take 21 (some 76) (.bool true) (by kernel_rfl) (fun _ _ => by kernel_rfl) (fun _ _ _ h => h) hS ?_
      refine rg_take 22 (some 77) (.bool true) (by kernel_rfl) (fun _ _ => by kernel_rfl) (fun _ _ _ h => h) hS ?_
      refine rg_take 23 (some 6) (.bool true) (by kernel_rfl) (fun _ _ => by kernel_rfl) (fun _ _ _ h => h) hS ?_
      refine rg_done (by kernel_rfl) ?_
      clear hS UP0
      try simp only [Act.put, List.setIfInBounds_toArray, List.set_cons_zero, List.set_cons_succ]
      go_wp2
      go_ret
      exact ⟨rfl, HB⟩
end ratOrder
end Go.Proofs.YtjihgkanbhccpaaGreatDoor
