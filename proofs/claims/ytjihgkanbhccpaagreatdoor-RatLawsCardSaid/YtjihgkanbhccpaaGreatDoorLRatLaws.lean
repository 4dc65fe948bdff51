/- gleanlaw3.RatLaws returns true for all fractions. -/
import Derived.Test.YtjihgkanbhccpaaGreatDoorJxd
namespace Go.Proofs.YtjihgkanbhccpaaGreatDoor
namespace ratLaws
open Go.RowKit Lim

set_option maxHeartbeats 16000000 in
set_option maxRecDepth 100000 in
theorem walk (a0 : Option Addr) (len0 cap0 : Nat) (z0 : List Int) (b0 : Option Addr) (ken0 dap0 : Nat) (y0 : List Int) (a1 : Option Addr) (len1 cap1 : Nat) (z1 : List Int) (b1 : Option Addr) (ken1 dap1 : Nat) (y1 : List Int) (a2 : Option Addr) (len2 cap2 : Nat) (z2 : List Int) (b2 : Option Addr) (ken2 dap2 : Nat) (y2 : List Int) (w : World) (w0 : IsRow w a0 len0 cap0 z0) (x0 : IsRow w b0 ken0 dap0 y0) (w1 : IsRow w a1 len1 cap1 z1) (x1 : IsRow w b1 ken1 dap1 y1) (w2 : IsRow w a2 len2 cap2 z2) (x2 : IsRow w b2 ken2 dap2 y2) :
    Calls Tryz.prog 5 #[.agg #[.slice a0 len0 cap0, .slice b0 ken0 dap0], .agg #[.slice a1 len1 cap1, .slice b1 ken1 dap1], .agg #[.slice a2 len2 cap2, .slice b2 ken2 dap2]] w fun e w' => e = .returned (.bool true) ∧ Below w.heap.size w w' := by
  obtain ⟨g0, o0, l0, hl0, hc0, hm0, W0, h0⟩ := w0.open
  have N0 : NatA w a0 len0 cap0 (val l0) := ⟨g0, o0, l0, hl0, hc0, W0, h0, rfl⟩
  clear h0 w0 W0 hl0
  obtain ⟨g0, o0, k0, hl0, hd0, hk0, W0, h0⟩ := x0.open
  have M0 : NatA w b0 ken0 dap0 (val k0) := ⟨g0, o0, k0, hl0, hd0, W0, h0, rfl⟩
  clear h0 x0 W0 hl0
  obtain ⟨g1, o1, l1, hl1, hc1, hm1, W1, h1⟩ := w1.open
  have N1 : NatA w a1 len1 cap1 (val l1) := ⟨g1, o1, l1, hl1, hc1, W1, h1, rfl⟩
  clear h1 w1 W1 hl1
  obtain ⟨g1, o1, k1, hl1, hd1, hk1, W1, h1⟩ := x1.open
  have M1 : NatA w b1 ken1 dap1 (val k1) := ⟨g1, o1, k1, hl1, hd1, W1, h1, rfl⟩
  clear h1 x1 W1 hl1
  obtain ⟨g2, o2, l2, hl2, hc2, hm2, W2, h2⟩ := w2.open
  have N2 : NatA w a2 len2 cap2 (val l2) := ⟨g2, o2, l2, hl2, hc2, W2, h2, rfl⟩
  clear h2 w2 W2 hl2
  obtain ⟨g2, o2, k2, hl2, hd2, hk2, W2, h2⟩ := x2.open
  have M2 : NatA w b2 ken2 dap2 (val k2) := ⟨g2, o2, k2, hl2, hd2, W2, h2, rfl⟩
  clear h2 x2 W2 hl2
  have HB := Below.refl w.heap.size w
  have P0 := box_new (w) [.slice a0 len0 cap0, .slice b0 ken0 dap0] 30
  have BA := below_alloc (w) (.cells #[.slice a0 len0 cap0, .slice b0 ken0 dap0] 30)
  replace N0 := N0.keep BA
  replace M0 := M0.keep BA
  replace N1 := N1.keep BA
  replace M1 := M1.keep BA
  replace N2 := N2.keep BA
  replace M2 := M2.keep BA
  replace HB := joinB HB BA
  clear BA
  have P1 := box_new ((w).alloc (.cells #[.slice a0 len0 cap0, .slice b0 ken0 dap0] 30)) [.slice a1 len1 cap1, .slice b1 ken1 dap1] 30
  rw [show ((w).alloc (.cells #[.slice a0 len0 cap0, .slice b0 ken0 dap0] 30)).heap.size = w.heap.size + 1 by simp] at P1
  have BA := below_alloc ((w).alloc (.cells #[.slice a0 len0 cap0, .slice b0 ken0 dap0] 30)) (.cells #[.slice a1 len1 cap1, .slice b1 ken1 dap1] 30)
  replace N0 := N0.keep BA
  replace M0 := M0.keep BA
  replace N1 := N1.keep BA
  replace M1 := M1.keep BA
  replace N2 := N2.keep BA
  replace M2 := M2.keep BA
  replace P0 := P0.keep BA
  replace HB := joinB HB BA
  clear BA
  have P2 := box_new (((w).alloc (.cells #[.slice a0 len0 cap0, .slice b0 ken0 dap0] 30)).alloc (.cells #[.slice a1 len1 cap1, .slice b1 ken1 dap1] 30)) [.slice a2 len2 cap2, .slice b2 ken2 dap2] 30
  rw [show (((w).alloc (.cells #[.slice a0 len0 cap0, .slice b0 ken0 dap0] 30)).alloc (.cells #[.slice a1 len1 cap1, .slice b1 ken1 dap1] 30)).heap.size = w.heap.size + 1 + 1 by simp] at P2
  have BA := below_alloc (((w).alloc (.cells #[.slice a0 len0 cap0, .slice b0 ken0 dap0] 30)).alloc (.cells #[.slice a1 len1 cap1, .slice b1 ken1 dap1] 30)) (.cells #[.slice a2 len2 cap2, .slice b2 ken2 dap2] 30)
  replace N0 := N0.keep BA
  replace M0 := M0.keep BA
  replace N1 := N1.keep BA
  replace M1 := M1.keep BA
  replace N2 := N2.keep BA
  replace M2 := M2.keep BA
  replace P0 := P0.keep BA
  replace P1 := P1.keep BA
  replace HB := joinB HB BA
  clear BA
  go_enter Tryz.func5, Tryz.ntmps5
  go_wp2_with fail
  generalize ((w.alloc (.cells #[.slice a0 len0 cap0, .slice b0 ken0 dap0] 30)).alloc (.cells #[.slice a1 len1 cap1, .slice b1 ken1 dap1] 30)).alloc (.cells #[.slice a2 len2 cap2, .slice b2 ken2 dap2] 30) = u0 at *
  refine (knownQ u0).mono ?_
  rintro e u1 ⟨rfl, hB⟩
  replace N0 := N0.keep hB
  replace M0 := M0.keep hB
  replace N1 := N1.keep hB
  replace M1 := M1.keep hB
  replace N2 := N2.keep hB
  replace M2 := M2.keep hB
  replace P0 := P0.keep hB
  replace P1 := P1.keep hB
  replace P2 := P2.keep hB
  replace HB := joinB HB hB
  clear hB
  have bS := below_alloc u1 (.cells #[.slice a0 len0 cap0, .slice b0 ken0 dap0, .slice a1 len1 cap1, .slice b1 ken1 dap1, .slice a2 len2 cap2, .slice b2 ken2 dap2] 30)
  have tS := small3 (box_new u1 [.slice a0 len0 cap0, .slice b0 ken0 dap0, .slice a1 len1 cap1, .slice b1 ken1 dap1, .slice a2 len2 cap2, .slice b2 ken2 dap2] 30) hm0 hk0 hm1 hk1 hm2 hk2
  obtain ⟨c1P0, c2P0, c3P0, c4P0⟩ := P0.cells2
  obtain ⟨c1P1, c2P1, c3P1, c4P1⟩ := P1.cells2
  obtain ⟨c1P2, c2P2, c3P2, c4P2⟩ := P2.cells2
  go_wp2_with fail
  refine tS.mono ?_
  rintro e u2 ⟨rfl, rfl⟩
  clear tS
  clear c1P0 c2P0 c3P0 c4P0 c1P1 c2P1 c3P1 c4P1 c1P2 c2P2 c3P2 c4P2
  replace N0 := N0.keep bS
  replace M0 := M0.keep bS
  replace N1 := N1.keep bS
  replace M1 := M1.keep bS
  replace N2 := N2.keep bS
  replace M2 := M2.keep bS
  replace P0 := P0.keep bS
  replace P1 := P1.keep bS
  replace P2 := P2.keep bS
  replace HB := joinB HB bS
  clear bS
  generalize u1.alloc (.cells #[.slice a0 len0 cap0, .slice b0 ken0 dap0, .slice a1 len1 cap1, .slice b1 ken1 dap1, .slice a2 len2 cap2, .slice b2 ken2 dap2] 30) = u2 at *
  generalize u1.heap.size = gs at *
  by_cases hsm : len0 ≤ 12 ∧ ken0 ≤ 12 ∧ len1 ≤ 12 ∧ ken1 ≤ 12 ∧ len2 ≤ 12 ∧ ken2 ≤ 12
  rotate_left
  · rw [decide_eq_false hsm]
    go_wp2
    go_ret
    exact ⟨rfl, HB⟩
  rw [decide_eq_true hsm]
  obtain ⟨hs0, ht0, hs1, ht1, hs2, ht2⟩ := hsm
  have Q0 := qv_in N0 M0 hs0 ht0
  clear N0 M0 hs0 ht0 hm0 hk0 hc0 hd0
  generalize cn (val l0) (val k0) = p0 at *
  generalize cd (val k0) = q0 at *
  have hq0 := Q0.q0
  have hp0 := Q0.p0
  have Q1 := qv_in N1 M1 hs1 ht1
  clear N1 M1 hs1 ht1 hm1 hk1 hc1 hd1
  generalize cn (val l1) (val k1) = p1 at *
  generalize cd (val k1) = q1 at *
  have hq1 := Q1.q0
  have hp1 := Q1.p0
  have Q2 := qv_in N2 M2 hs2 ht2
  clear N2 M2 hs2 ht2 hm2 hk2 hc2 hd2
  generalize cn (val l2) (val k2) = p2 at *
  generalize cd (val k2) = q2 at *
  have hq2 := Q2.q0
  have hp2 := Q2.p0
  obtain ⟨c1P0, c2P0, c3P0, c4P0⟩ := P0.cells2
  obtain ⟨c1P1, c2P1, c3P1, c4P1⟩ := P1.cells2
  obtain ⟨c1P2, c2P2, c3P2, c4P2⟩ := P2.cells2
  go_wp2_with fail
  clear c1P0 c2P0 c3P0 c4P0 c1P1 c2P1 c3P1 c4P1 c1P2 c2P2 c3P2 c4P2
  refine rg_mid (X := Nat × Nat × Option Addr × Nat × Nat × Option Addr × Nat × Nat × Option Addr × Nat × Nat × Option Addr × Nat × Nat) (fun ⟨g7, g8, As, Ns, Cs, Bs, Ms, Ds, Ap, Np, Cp, Bp, Mp, Dp⟩ => [(some 24, .agg #[.slice a0 len0 cap0, .slice b0 ken0 dap0]), (some 25, .agg #[.slice a1 len1 cap1, .slice b1 ken1 dap1]), (some 26, .agg #[.slice As Ns Cs, .slice Bs Ms Ds]), (some 27, .agg #[.slice a0 len0 cap0, .slice b0 ken0 dap0]), (some 28, .agg #[.slice a1 len1 cap1, .slice b1 ken1 dap1]), (some 29, .agg #[.slice Ap Np Cp, .slice Bp Mp Dp]), (some 7, .pointer (some ⟨g7, 0, none⟩)), (some 8, .pointer (some ⟨g8, 0, none⟩))]) (fun ⟨g7, g8, As, Ns, Cs, Bs, Ms, Ds, Ap, Np, Cp, Bp, Mp, Dp⟩ w' => Box w' g7 [.slice As Ns Cs, .slice Bs Ms Ds] 30 ∧ Box w' g8 [.slice Ap Np Cp, .slice Bp Mp Dp] 30 ∧ u2.heap.size ≤ g7 ∧ u2.heap.size ≤ g8 ∧ QR w' As Ns Cs Bs Ms Ds (p0 * q1 + p1 * q0) (q0 * q1) (8 * 12 + 16) ∧ QR w' Ap Np Cp Bp Mp Dp (p0 * p1) (q0 * q1) (2 * 12 + 2) ∧ Box w' (w.heap.size) [.slice a0 len0 cap0, .slice b0 ken0 dap0] 30 ∧ Box w' (w.heap.size + 1) [.slice a1 len1 cap1, .slice b1 ken1 dap1] 30 ∧ Box w' (w.heap.size + 1 + 1) [.slice a2 len2 cap2, .slice b2 ken2 dap2] 30 ∧ QV w' a0 len0 cap0 b0 ken0 dap0 p0 q0 12 ∧ QV w' a1 len1 cap1 b1 ken1 dap1 p1 q1 12 ∧ QV w' a2 len2 cap2 b2 ken2 dap2 p2 q2 12 ∧ Below w.heap.size w w') (fun w' => Below u2.drew.heap.size u2.drew w') (by kernel_rfl) (Below.refl _ _) ?_ ?_
  · replace P0 := P0.drew
    replace P1 := P1.drew
    replace P2 := P2.drew
    replace Q0 := Q0.drew
    replace Q1 := Q1.drew
    replace Q2 := Q2.drew
    replace HB := HB.drew
    have hBu := HB.size
    have UP0 := P0
    have hP0u := P0.lt
    have UP1 := P1
    have hP1u := P1.lt
    have UP2 := P2
    have hP2u := P2.lt
    have hS := Below.refl u2.drew.heap.size u2.drew
    refine rg_load 0 (some 24) (.agg #[.slice a0 len0 cap0, .slice b0 ken0 dap0]) 30 3 (w.heap.size) 0 (by kernel_rfl) (by kernel_rfl) (by kernel_rfl) (fun _ hb => load_rat (UP0.keep hb)) (fun _ _ _ h => h) hS ?_
    refine rg_load 1 (some 25) (.agg #[.slice a1 len1 cap1, .slice b1 ken1 dap1]) 30 4 (w.heap.size + 1) 0 (by kernel_rfl) (by kernel_rfl) (by kernel_rfl) (fun _ hb => load_rat (UP1.keep hb)) (fun _ _ _ h => h) hS ?_
    refine rg_load 3 (some 27) (.agg #[.slice a0 len0 cap0, .slice b0 ken0 dap0]) 30 3 (w.heap.size) 0 (by kernel_rfl) (by kernel_rfl) (by kernel_rfl) (fun _ hb => load_rat (UP0.keep hb)) (fun _ _ _ h => h) hS ?_
    refine rg_load 4 (some 28) (.agg #[.slice a1 len1 cap1, .slice b1 ken1 dap1]) 30 4 (w.heap.size + 1) 0 (by kernel_rfl) (by kernel_rfl) (by kernel_rfl) (fun _ hb => load_rat (UP1.keep hb)) (fun _ _ _ h => h) hS ?_
    refine rg_ready [2, 6, 7] (by kernel_rfl) (by simp) ?_
    refine ar_call 2 (some 26) 18 #[.agg #[.slice a0 len0 cap0, .slice b0 ken0 dap0], .agg #[.slice a1 len1 cap1, .slice b1 ken1 dap1]] (by kernel_rfl) (by kernel_rfl) (cAdd Q0 Q1 (by omega)) ?_ ?_
    · rintro e v5x59 ⟨As, Ns, Cs, Bs, Ms, Ds, rfl, Qs, hB⟩
      refine ⟨_, rfl, joinB hS hB, ?_⟩
      replace hS := joinB hS hB
      replace HB := joinB HB hB
      replace Q0 := Q0.keep hB
      replace Q1 := Q1.keep hB
      replace Q2 := Q2.keep hB
      replace P0 := P0.keep hB
      replace P1 := P1.keep hB
      replace P2 := P2.keep hB
      clear hB
      refine rg_ready [5, 6, 7] (by kernel_rfl) (by simp) ?_
      refine ar_call 5 (some 29) 25 #[.agg #[.slice a0 len0 cap0, .slice b0 ken0 dap0], .agg #[.slice a1 len1 cap1, .slice b1 ken1 dap1]] (by kernel_rfl) (by kernel_rfl) (cMul Q0 Q1 (by omega)) ?_ ?_
      · rintro e v5x60 ⟨Ap, Np, Cp, Bp, Mp, Dp, rfl, Qp, hB⟩
        refine ⟨_, rfl, joinB hS hB, ?_⟩
        replace hS := joinB hS hB
        replace HB := joinB HB hB
        replace Q0 := Q0.keep hB
        replace Q1 := Q1.keep hB
        replace Q2 := Q2.keep hB
        replace Qs := Qs.keep hB
        replace P0 := P0.keep hB
        replace P1 := P1.keep hB
        replace P2 := P2.keep hB
        clear hB
        refine rg_ready [6, 7] (by kernel_rfl) (by simp) ?_
        refine ar_alloc 6 (some 7) 30 [.slice none 0 0, .slice none 0 0] (by kernel_rfl) (by kernel_rfl) ?_ ?_
        · intro v5x61 X7 hB
          refine ⟨joinB hS hB, ?_⟩
          have hX7 := hS.size
          replace hS := joinB hS hB
          replace HB := joinB HB hB
          replace Q0 := Q0.keep hB
          replace Q1 := Q1.keep hB
          replace Q2 := Q2.keep hB
          replace Qs := Qs.keep hB
          replace Qp := Qp.keep hB
          replace P0 := P0.keep hB
          replace P1 := P1.keep hB
          replace P2 := P2.keep hB
          clear hB
          refine rg_ready [7] (by kernel_rfl) (by simp) ?_
          refine ar_alloc 7 (some 8) 30 [.slice none 0 0, .slice none 0 0] (by kernel_rfl) (by kernel_rfl) ?_ ?_
          · intro v5x62 X8 hB
            refine ⟨joinB hS hB, ?_⟩
            have hX8 := hS.size
            replace hS := joinB hS hB
            replace HB := joinB HB hB
            have nX7X8 := Nat.ne_of_lt X7.lt
            replace Q0 := Q0.keep hB
            replace Q1 := Q1.keep hB
            replace Q2 := Q2.keep hB
            replace Qs := Qs.keep hB
            replace Qp := Qp.keep hB
            replace P0 := P0.keep hB
            replace P1 := P1.keep hB
            replace P2 := P2.keep hB
            replace X7 := X7.keep hB
            clear hB
            refine rg_ready [8] (by kernel_rfl) (by simp) ?_
            refine ar_store 8 30 30 7 26 (v5x60.heap.size) [.slice none 0 0, .slice none 0 0] [.slice As Ns Cs, .slice Bs Ms Ds] (by kernel_rfl) (by kernel_rfl) (by kernel_rfl) (by kernel_rfl) X7 (by kernel_rfl) rfl (by kernel_rfl) ?_ ?_
            · intro v5x63 Y hw hB
              refine ⟨hS.trans (hB.mono hX7), ?_⟩
              replace HB := HB.trans (hB.mono (Nat.le_trans hBu hX7))
              replace hS := hS.trans (hB.mono hX7)
              replace Q0 := Q0.blk X7 (no_ints2 _ _ _ _ _ _) hw
              replace Q1 := Q1.blk X7 (no_ints2 _ _ _ _ _ _) hw
              replace Q2 := Q2.blk X7 (no_ints2 _ _ _ _ _ _) hw
              replace Qs := Qs.blk X7 (no_ints2 _ _ _ _ _ _) hw
              replace Qp := Qp.blk X7 (no_ints2 _ _ _ _ _ _) hw
              replace P0 := P0.off (by omega) hw
              replace P1 := P1.off (by omega) hw
              replace P2 := P2.off (by omega) hw
              replace X8 := X8.off (Ne.symm nX7X8) hw
              replace X7 := Y
              clear hB hw
              refine rg_ready [9] (by kernel_rfl) (by simp) ?_
              refine ar_store 9 30 30 8 29 (v5x61.heap.size) [.slice none 0 0, .slice none 0 0] [.slice Ap Np Cp, .slice Bp Mp Dp] (by kernel_rfl) (by kernel_rfl) (by kernel_rfl) (by kernel_rfl) X8 (by kernel_rfl) rfl (by kernel_rfl) ?_ ?_
              · intro v5x64 Y hw hB
                refine ⟨hS.trans (hB.mono hX8), ?_⟩
                replace HB := HB.trans (hB.mono (Nat.le_trans hBu hX8))
                replace hS := hS.trans (hB.mono hX8)
                replace Q0 := Q0.blk X8 (no_ints2 _ _ _ _ _ _) hw
                replace Q1 := Q1.blk X8 (no_ints2 _ _ _ _ _ _) hw
                replace Q2 := Q2.blk X8 (no_ints2 _ _ _ _ _ _) hw
                replace Qs := Qs.blk X8 (no_ints2 _ _ _ _ _ _) hw
                replace Qp := Qp.blk X8 (no_ints2 _ _ _ _ _ _) hw
                replace P0 := P0.off (by omega) hw
                replace P1 := P1.off (by omega) hw
                replace P2 := P2.off (by omega) hw
                replace X7 := X7.off nX7X8 hw
                replace X8 := Y
                clear hB hw
                refine rg_done (by kernel_rfl) ?_
                exact ⟨(v5x60.heap.size, v5x61.heap.size, As, Ns, Cs, Bs, Ms, Ds, Ap, Np, Cp, Bp, Mp, Dp), by kernel_rfl, X7, X8, hX7, hX8, Qs, Qp, P0, P1, P2, Q0, Q1, Q2, HB⟩
              exact ar_nil
            exact ar_nil
          exact ar_nil
        refine ar_alloc 7 (some 8) 30 [.slice none 0 0, .slice none 0 0] (by kernel_rfl) (by kernel_rfl) ?_ ?_
        · intro v5x65 X8 hB
          refine ⟨joinB hS hB, ?_⟩
          have hX8 := hS.size
          replace hS := joinB hS hB
          replace HB := joinB HB hB
          replace Q0 := Q0.keep hB
          replace Q1 := Q1.keep hB
          replace Q2 := Q2.keep hB
          replace Qs := Qs.keep hB
          replace Qp := Qp.keep hB
          replace P0 := P0.keep hB
          replace P1 := P1.keep hB
          replace P2 := P2.keep hB
          clear hB
          refine rg_ready [6] (by kernel_rfl) (by simp) ?_
          refine ar_alloc 6 (some 7) 30 [.slice none 0 0, .slice none 0 0] (by kernel_rfl) (by kernel_rfl) ?_ ?_
          · intro v5x66 X7 hB
            refine ⟨joinB hS hB, ?_⟩
            have hX7 := hS.size
            replace hS := joinB hS hB
            replace HB := joinB HB hB
            have nX8X7 := Nat.ne_of_lt X8.lt
            replace Q0 := Q0.keep hB
            replace Q1 := Q1.keep hB
            replace Q2 := Q2.keep hB
            replace Qs := Qs.keep hB
            replace Qp := Qp.keep hB
            replace P0 := P0.keep hB
            replace P1 := P1.keep hB
            replace P2 := P2.keep hB
            replace X8 := X8.keep hB
            clear hB
            refine rg_ready [8] (by kernel_rfl) (by simp) ?_
            refine ar_store 8 30 30 7 26 (v5x65.heap.size) [.slice none 0 0, .slice none 0 0] [.slice As Ns Cs, .slice Bs Ms Ds] (by kernel_rfl) (by kernel_rfl) (by kernel_rfl) (by kernel_rfl) X7 (by kernel_rfl) rfl (by kernel_rfl) ?_ ?_
            · intro v5x67 Y hw hB
              refine ⟨hS.trans (hB.mono hX7), ?_⟩
              replace HB := HB.trans (hB.mono (Nat.le_trans hBu hX7))
              replace hS := hS.trans (hB.mono hX7)
              replace Q0 := Q0.blk X7 (no_ints2 _ _ _ _ _ _) hw
              replace Q1 := Q1.blk X7 (no_ints2 _ _ _ _ _ _) hw
              replace Q2 := Q2.blk X7 (no_ints2 _ _ _ _ _ _) hw
              replace Qs := Qs.blk X7 (no_ints2 _ _ _ _ _ _) hw
              replace Qp := Qp.blk X7 (no_ints2 _ _ _ _ _ _) hw
              replace P0 := P0.off (by omega) hw
              replace P1 := P1.off (by omega) hw
              replace P2 := P2.off (by omega) hw
              replace X8 := X8.off nX8X7 hw
              replace X7 := Y
              clear hB hw
              refine rg_ready [9] (by kernel_rfl) (by simp) ?_
              refine ar_store 9 30 30 8 29 (v5x60.heap.size) [.slice none 0 0, .slice none 0 0] [.slice Ap Np Cp, .slice Bp Mp Dp] (by kernel_rfl) (by kernel_rfl) (by kernel_rfl) (by kernel_rfl) X8 (by kernel_rfl) rfl (by kernel_rfl) ?_ ?_
              · intro v5x68 Y hw hB
                refine ⟨hS.trans (hB.mono hX8), ?_⟩
                replace HB := HB.trans (hB.mono (Nat.le_trans hBu hX8))
                replace hS := hS.trans (hB.mono hX8)
                replace Q0 := Q0.blk X8 (no_ints2 _ _ _ _ _ _) hw
                replace Q1 := Q1.blk X8 (no_ints2 _ _ _ _ _ _) hw
                replace Q2 := Q2.blk X8 (no_ints2 _ _ _ _ _ _) hw
                replace Qs := Qs.blk X8 (no_ints2 _ _ _ _ _ _) hw
                replace Qp := Qp.blk X8 (no_ints2 _ _ _ _ _ _) hw
                replace P0 := P0.off (by omega) hw
                replace P1 := P1.off (by omega) hw
                replace P2 := P2.off (by omega) hw
                replace X7 := X7.off (Ne.symm nX8X7) hw
                replace X8 := Y
                clear hB hw
                refine rg_done (by kernel_rfl) ?_
                exact ⟨(v5x65.heap.size, v5x60.heap.size, As, Ns, Cs, Bs, Ms, Ds, Ap, Np, Cp, Bp, Mp, Dp), by kernel_rfl, X7, X8, hX7, hX8, Qs, Qp, P0, P1, P2, Q0, Q1, Q2, HB⟩
              exact ar_nil
            exact ar_nil
          exact ar_nil
        exact ar_nil
      refine ar_alloc 6 (some 7) 30 [.slice none 0 0, .slice none 0 0] (by kernel_rfl) (by kernel_rfl) ?_ ?_
      · intro v5x69 X7 hB
        refine ⟨joinB hS hB, ?_⟩
        have hX7 := hS.size
        replace hS := joinB hS hB
        replace HB := joinB HB hB
        replace Q0 := Q0.keep hB
        replace Q1 := Q1.keep hB
        replace Q2 := Q2.keep hB
        replace Qs := Qs.keep hB
        replace P0 := P0.keep hB
        replace P1 := P1.keep hB
        replace P2 := P2.keep hB
        clear hB
        refine rg_ready [5, 7] (by kernel_rfl) (by simp) ?_
        refine ar_call 5 (some 29) 25 #[.agg #[.slice a0 len0 cap0, .slice b0 ken0 dap0], .agg #[.slice a1 len1 cap1, .slice b1 ken1 dap1]] (by kernel_rfl) (by kernel_rfl) (cMul Q0 Q1 (by omega)) ?_ ?_
        · rintro e v5x70 ⟨Ap, Np, Cp, Bp, Mp, Dp, rfl, Qp, hB⟩
          refine ⟨_, rfl, joinB hS hB, ?_⟩
          replace hS := joinB hS hB
          replace HB := joinB HB hB
          replace Q0 := Q0.keep hB
          replace Q1 := Q1.keep hB
          replace Q2 := Q2.keep hB
          replace Qs := Qs.keep hB
          replace P0 := P0.keep hB
          replace P1 := P1.keep hB
          replace P2 := P2.keep hB
          replace X7 := X7.keep hB
          clear hB
          refine rg_ready [7] (by kernel_rfl) (by simp) ?_
          refine ar_alloc 7 (some 8) 30 [.slice none 0 0, .slice none 0 0] (by kernel_rfl) (by kernel_rfl) ?_ ?_
          · intro v5x71 X8 hB
            refine ⟨joinB hS hB, ?_⟩
            have hX8 := hS.size
            replace hS := joinB hS hB
            replace HB := joinB HB hB
            have nX7X8 := Nat.ne_of_lt X7.lt
            replace Q0 := Q0.keep hB
            replace Q1 := Q1.keep hB
            replace Q2 := Q2.keep hB
            replace Qs := Qs.keep hB
            replace Qp := Qp.keep hB
            replace P0 := P0.keep hB
            replace P1 := P1.keep hB
            replace P2 := P2.keep hB
            replace X7 := X7.keep hB
            clear hB
            refine rg_ready [8] (by kernel_rfl) (by simp) ?_
            refine ar_store 8 30 30 7 26 (v5x59.heap.size) [.slice none 0 0, .slice none 0 0] [.slice As Ns Cs, .slice Bs Ms Ds] (by kernel_rfl) (by kernel_rfl) (by kernel_rfl) (by kernel_rfl) X7 (by kernel_rfl) rfl (by kernel_rfl) ?_ ?_
            · intro v5x72 Y hw hB
              refine ⟨hS.trans (hB.mono hX7), ?_⟩
              replace HB := HB.trans (hB.mono (Nat.le_trans hBu hX7))
              replace hS := hS.trans (hB.mono hX7)
              replace Q0 := Q0.blk X7 (no_ints2 _ _ _ _ _ _) hw
              replace Q1 := Q1.blk X7 (no_ints2 _ _ _ _ _ _) hw
              replace Q2 := Q2.blk X7 (no_ints2 _ _ _ _ _ _) hw
              replace Qs := Qs.blk X7 (no_ints2 _ _ _ _ _ _) hw
              replace Qp := Qp.blk X7 (no_ints2 _ _ _ _ _ _) hw
              replace P0 := P0.off (by omega) hw
              replace P1 := P1.off (by omega) hw
              replace P2 := P2.off (by omega) hw
              replace X8 := X8.off (Ne.symm nX7X8) hw
              replace X7 := Y
              clear hB hw
              refine rg_ready [9] (by kernel_rfl) (by simp) ?_
              refine ar_store 9 30 30 8 29 (v5x70.heap.size) [.slice none 0 0, .slice none 0 0] [.slice Ap Np Cp, .slice Bp Mp Dp] (by kernel_rfl) (by kernel_rfl) (by kernel_rfl) (by kernel_rfl) X8 (by kernel_rfl) rfl (by kernel_rfl) ?_ ?_
              · intro v5x73 Y hw hB
                refine ⟨hS.trans (hB.mono hX8), ?_⟩
                replace HB := HB.trans (hB.mono (Nat.le_trans hBu hX8))
                replace hS := hS.trans (hB.mono hX8)
                replace Q0 := Q0.blk X8 (no_ints2 _ _ _ _ _ _) hw
                replace Q1 := Q1.blk X8 (no_ints2 _ _ _ _ _ _) hw
                replace Q2 := Q2.blk X8 (no_ints2 _ _ _ _ _ _) hw
                replace Qs := Qs.blk X8 (no_ints2 _ _ _ _ _ _) hw
                replace Qp := Qp.blk X8 (no_ints2 _ _ _ _ _ _) hw
                replace P0 := P0.off (by omega) hw
                replace P1 := P1.off (by omega) hw
                replace P2 := P2.off (by omega) hw
                replace X7 := X7.off nX7X8 hw
                replace X8 := Y
                clear hB hw
                refine rg_done (by kernel_rfl) ?_
                exact ⟨(v5x59.heap.size, v5x70.heap.size, As, Ns, Cs, Bs, Ms, Ds, Ap, Np, Cp, Bp, Mp, Dp), by kernel_rfl, X7, X8, hX7, hX8, Qs, Qp, P0, P1, P2, Q0, Q1, Q2, HB⟩
              exact ar_nil
            exact ar_nil
          exact ar_nil
        refine ar_alloc 7 (some 8) 30 [.slice none 0 0, .slice none 0 0] (by kernel_rfl) (by kernel_rfl) ?_ ?_
        · intro v5x74 X8 hB
          refine ⟨joinB hS hB, ?_⟩
          have hX8 := hS.size
          replace hS := joinB hS hB
          replace HB := joinB HB hB
          have nX7X8 := Nat.ne_of_lt X7.lt
          replace Q0 := Q0.keep hB
          replace Q1 := Q1.keep hB
          replace Q2 := Q2.keep hB
          replace Qs := Qs.keep hB
          replace P0 := P0.keep hB
          replace P1 := P1.keep hB
          replace P2 := P2.keep hB
          replace X7 := X7.keep hB
          clear hB
          refine rg_ready [5] (by kernel_rfl) (by simp) ?_
          refine ar_call 5 (some 29) 25 #[.agg #[.slice a0 len0 cap0, .slice b0 ken0 dap0], .agg #[.slice a1 len1 cap1, .slice b1 ken1 dap1]] (by kernel_rfl) (by kernel_rfl) (cMul Q0 Q1 (by omega)) ?_ ?_
          · rintro e v5x75 ⟨Ap, Np, Cp, Bp, Mp, Dp, rfl, Qp, hB⟩
            refine ⟨_, rfl, joinB hS hB, ?_⟩
            replace hS := joinB hS hB
            replace HB := joinB HB hB
            replace Q0 := Q0.keep hB
            replace Q1 := Q1.keep hB
            replace Q2 := Q2.keep hB
            replace Qs := Qs.keep hB
            replace P0 := P0.keep hB
            replace P1 := P1.keep hB
            replace P2 := P2.keep hB
            replace X7 := X7.keep hB
            replace X8 := X8.keep hB
            clear hB
            refine rg_ready [8] (by kernel_rfl) (by simp) ?_
            refine ar_store 8 30 30 7 26 (v5x59.heap.size) [.slice none 0 0, .slice none 0 0] [.slice As Ns Cs, .slice Bs Ms Ds] (by kernel_rfl) (by kernel_rfl) (by kernel_rfl) (by kernel_rfl) X7 (by kernel_rfl) rfl (by kernel_rfl) ?_ ?_
            · intro v5x76 Y hw hB
              refine ⟨hS.trans (hB.mono hX7), ?_⟩
              replace HB := HB.trans (hB.mono (Nat.le_trans hBu hX7))
              replace hS := hS.trans (hB.mono hX7)
              replace Q0 := Q0.blk X7 (no_ints2 _ _ _ _ _ _) hw
              replace Q1 := Q1.blk X7 (no_ints2 _ _ _ _ _ _) hw
              replace Q2 := Q2.blk X7 (no_ints2 _ _ _ _ _ _) hw
              replace Qs := Qs.blk X7 (no_ints2 _ _ _ _ _ _) hw
              replace Qp := Qp.blk X7 (no_ints2 _ _ _ _ _ _) hw
              replace P0 := P0.off (by omega) hw
              replace P1 := P1.off (by omega) hw
              replace P2 := P2.off (by omega) hw
              replace X8 := X8.off (Ne.symm nX7X8) hw
              replace X7 := Y
              clear hB hw
              refine rg_ready [9] (by kernel_rfl) (by simp) ?_
              refine ar_store 9 30 30 8 29 (v5x69.heap.size) [.slice none 0 0, .slice none 0 0] [.slice Ap Np Cp, .slice Bp Mp Dp] (by kernel_rfl) (by kernel_rfl) (by kernel_rfl) (by kernel_rfl) X8 (by kernel_rfl) rfl (by kernel_rfl) ?_ ?_
              · intro v5x77 Y hw hB
                refine ⟨hS.trans (hB.mono hX8), ?_⟩
                replace HB := HB.trans (hB.mono (Nat.le_trans hBu hX8))
                replace hS := hS.trans (hB.mono hX8)
                replace Q0 := Q0.blk X8 (no_ints2 _ _ _ _ _ _) hw
                replace Q1 := Q1.blk X8 (no_ints2 _ _ _ _ _ _) hw
                replace Q2 := Q2.blk X8 (no_ints2 _ _ _ _ _ _) hw
                replace Qs := Qs.blk X8 (no_ints2 _ _ _ _ _ _) hw
                replace Qp := Qp.blk X8 (no_ints2 _ _ _ _ _ _) hw
                replace P0 := P0.off (by omega) hw
                replace P1 := P1.off (by omega) hw
                replace P2 := P2.off (by omega) hw
                replace X7 := X7.off nX7X8 hw
                replace X8 := Y
                clear hB hw
                refine rg_done (by kernel_rfl) ?_
                exact ⟨(v5x59.heap.size, v5x69.heap.size, As, Ns, Cs, Bs, Ms, Ds, Ap, Np, Cp, Bp, Mp, Dp), by kernel_rfl, X7, X8, hX7, hX8, Qs, Qp, P0, P1, P2, Q0, Q1, Q2, HB⟩
              exact ar_nil
            exact ar_nil
          exact ar_nil
        exact ar_nil
      refine ar_alloc 7 (some 8) 30 [.slice none 0 0, .slice none 0 0] (by kernel_rfl) (by kernel_rfl) ?_ ?_
      · intro v5x78 X8 hB
        refine ⟨joinB hS hB, ?_⟩
        have hX8 := hS.size
        replace hS := joinB hS hB
        replace HB := joinB HB hB
        replace Q0 := Q0.keep hB
        replace Q1 := Q1.keep hB
        replace Q2 := Q2.keep hB
        replace Qs := Qs.keep hB
        replace P0 := P0.keep hB
        replace P1 := P1.keep hB
        replace P2 := P2.keep hB
        clear hB
        refine rg_ready [5, 6] (by kernel_rfl) (by simp) ?_
        refine ar_call 5 (some 29) 25 #[.agg #[.slice a0 len0 cap0, .slice b0 ken0 dap0], .agg #[.slice a1 len1 cap1, .slice b1 ken1 dap1]] (by kernel_rfl) (by kernel_rfl) (cMul Q0 Q1 (by omega)) ?_ ?_
        · rintro e v5x79 ⟨Ap, Np, Cp, Bp, Mp, Dp, rfl, Qp, hB⟩
          refine ⟨_, rfl, joinB hS hB, ?_⟩
          replace hS := joinB hS hB
          replace HB := joinB HB hB
          replace Q0 := Q0.keep hB
          replace Q1 := Q1.keep hB
          replace Q2 := Q2.keep hB
          replace Qs := Qs.keep hB
          replace P0 := P0.keep hB
          replace P1 := P1.keep hB
          replace P2 := P2.keep hB
          replace X8 := X8.keep hB
          clear hB
          refine rg_ready [6] (by kernel_rfl) (by simp) ?_
          refine ar_alloc 6 (some 7) 30 [.slice none 0 0, .slice none 0 0] (by kernel_rfl) (by kernel_rfl) ?_ ?_
          · intro v5x80 X7 hB
            refine ⟨joinB hS hB, ?_⟩
            have hX7 := hS.size
            replace hS := joinB hS hB
            replace HB := joinB HB hB
            have nX8X7 := Nat.ne_of_lt X8.lt
            replace Q0 := Q0.keep hB
            replace Q1 := Q1.keep hB
            replace Q2 := Q2.keep hB
            replace Qs := Qs.keep hB
            replace Qp := Qp.keep hB
            replace P0 := P0.keep hB
            replace P1 := P1.keep hB
            replace P2 := P2.keep hB
            replace X8 := X8.keep hB
            clear hB
            refine rg_ready [8] (by kernel_rfl) (by simp) ?_
            refine ar_store 8 30 30 7 26 (v5x79.heap.size) [.slice none 0 0, .slice none 0 0] [.slice As Ns Cs, .slice Bs Ms Ds] (by kernel_rfl) (by kernel_rfl) (by kernel_rfl) (by kernel_rfl) X7 (by kernel_rfl) rfl (by kernel_rfl) ?_ ?_
            · intro v5x81 Y hw hB
              refine ⟨hS.trans (hB.mono hX7), ?_⟩
              replace HB := HB.trans (hB.mono (Nat.le_trans hBu hX7))
              replace hS := hS.trans (hB.mono hX7)
              replace Q0 := Q0.blk X7 (no_ints2 _ _ _ _ _ _) hw
              replace Q1 := Q1.blk X7 (no_ints2 _ _ _ _ _ _) hw
              replace Q2 := Q2.blk X7 (no_ints2 _ _ _ _ _ _) hw
              replace Qs := Qs.blk X7 (no_ints2 _ _ _ _ _ _) hw
              replace Qp := Qp.blk X7 (no_ints2 _ _ _ _ _ _) hw
              replace P0 := P0.off (by omega) hw
              replace P1 := P1.off (by omega) hw
              replace P2 := P2.off (by omega) hw
              replace X8 := X8.off nX8X7 hw
              replace X7 := Y
              clear hB hw
              refine rg_ready [9] (by kernel_rfl) (by simp) ?_
              refine ar_store 9 30 30 8 29 (v5x59.heap.size) [.slice none 0 0, .slice none 0 0] [.slice Ap Np Cp, .slice Bp Mp Dp] (by kernel_rfl) (by kernel_rfl) (by kernel_rfl) (by kernel_rfl) X8 (by kernel_rfl) rfl (by kernel_rfl) ?_ ?_
              · intro v5x82 Y hw hB
                refine ⟨hS.trans (hB.mono hX8), ?_⟩
                replace HB := HB.trans (hB.mono (Nat.le_trans hBu hX8))
                replace hS := hS.trans (hB.mono hX8)
                replace Q0 := Q0.blk X8 (no_ints2 _ _ _ _ _ _) hw
                replace Q1 := Q1.blk X8 (no_ints2 _ _ _ _ _ _) hw
                replace Q2 := Q2.blk X8 (no_ints2 _ _ _ _ _ _) hw
                replace Qs := Qs.blk X8 (no_ints2 _ _ _ _ _ _) hw
                replace Qp := Qp.blk X8 (no_ints2 _ _ _ _ _ _) hw
                replace P0 := P0.off (by omega) hw
                replace P1 := P1.off (by omega) hw
                replace P2 := P2.off (by omega) hw
                replace X7 := X7.off (Ne.symm nX8X7) hw
                replace X8 := Y
                clear hB hw
                refine rg_done (by kernel_rfl) ?_
                exact ⟨(v5x79.heap.size, v5x59.heap.size, As, Ns, Cs, Bs, Ms, Ds, Ap, Np, Cp, Bp, Mp, Dp), by kernel_rfl, X7, X8, hX7, hX8, Qs, Qp, P0, P1, P2, Q0, Q1, Q2, HB⟩
              exact ar_nil
            exact ar_nil
          exact ar_nil
        refine ar_alloc 6 (some 7) 30 [.slice none 0 0, .slice none 0 0] (by kernel_rfl) (by kernel_rfl) ?_ ?_
        · intro v5x83 X7 hB
          refine ⟨joinB hS hB, ?_⟩
          have hX7 := hS.size
          replace hS := joinB hS hB
          replace HB := joinB HB hB
          have nX8X7 := Nat.ne_of_lt X8.lt
          replace Q0 := Q0.keep hB
          replace Q1 := Q1.keep hB
          replace Q2 := Q2.keep hB
          replace Qs := Qs.keep hB
          replace P0 := P0.keep hB
          replace P1 := P1.keep hB
          replace P2 := P2.keep hB
          replace X8 := X8.keep hB
          clear hB
          refine rg_ready [5] (by kernel_rfl) (by simp) ?_
          refine ar_call 5 (some 29) 25 #[.agg #[.slice a0 len0 cap0, .slice b0 ken0 dap0], .agg #[.slice a1 len1 cap1, .slice b1 ken1 dap1]] (by kernel_rfl) (by kernel_rfl) (cMul Q0 Q1 (by omega)) ?_ ?_
          · rintro e v5x84 ⟨Ap, Np, Cp, Bp, Mp, Dp, rfl, Qp, hB⟩
            refine ⟨_, rfl, joinB hS hB, ?_⟩
            replace hS := joinB hS hB
            replace HB := joinB HB hB
            replace Q0 := Q0.keep hB
            replace Q1 := Q1.keep hB
            replace Q2 := Q2.keep hB
            replace Qs := Qs.keep hB
            replace P0 := P0.keep hB
            replace P1 := P1.keep hB
            replace P2 := P2.keep hB
            replace X8 := X8.keep hB
            replace X7 := X7.keep hB
            clear hB
            refine rg_ready [8] (by kernel_rfl) (by simp) ?_
            refine ar_store 8 30 30 7 26 (v5x78.heap.size) [.slice none 0 0, .slice none 0 0] [.slice As Ns Cs, .slice Bs Ms Ds] (by kernel_rfl) (by kernel_rfl) (by kernel_rfl) (by kernel_rfl) X7 (by kernel_rfl) rfl (by kernel_rfl) ?_ ?_
            · intro v5x85 Y hw hB
              refine ⟨hS.trans (hB.mono hX7), ?_⟩
              replace HB := HB.trans (hB.mono (Nat.le_trans hBu hX7))
              replace hS := hS.trans (hB.mono hX7)
              replace Q0 := Q0.blk X7 (no_ints2 _ _ _ _ _ _) hw
              replace Q1 := Q1.blk X7 (no_ints2 _ _ _ _ _ _) hw
              replace Q2 := Q2.blk X7 (no_ints2 _ _ _ _ _ _) hw
              replace Qs := Qs.blk X7 (no_ints2 _ _ _ _ _ _) hw
              replace Qp := Qp.blk X7 (no_ints2 _ _ _ _ _ _) hw
              replace P0 := P0.off (by omega) hw
              replace P1 := P1.off (by omega) hw
              replace P2 := P2.off (by omega) hw
              replace X8 := X8.off nX8X7 hw
              replace X7 := Y
              clear hB hw
              refine rg_ready [9] (by kernel_rfl) (by simp) ?_
              refine ar_store 9 30 30 8 29 (v5x59.heap.size) [.slice none 0 0, .slice none 0 0] [.slice Ap Np Cp, .slice Bp Mp Dp] (by kernel_rfl) (by kernel_rfl) (by kernel_rfl) (by kernel_rfl) X8 (by kernel_rfl) rfl (by kernel_rfl) ?_ ?_
              · intro v5x86 Y hw hB
                refine ⟨hS.trans (hB.mono hX8), ?_⟩
                replace HB := HB.trans (hB.mono (Nat.le_trans hBu hX8))
                replace hS := hS.trans (hB.mono hX8)
                replace Q0 := Q0.blk X8 (no_ints2 _ _ _ _ _ _) hw
                replace Q1 := Q1.blk X8 (no_ints2 _ _ _ _ _ _) hw
                replace Q2 := Q2.blk X8 (no_ints2 _ _ _ _ _ _) hw
                replace Qs := Qs.blk X8 (no_ints2 _ _ _ _ _ _) hw
                replace Qp := Qp.blk X8 (no_ints2 _ _ _ _ _ _) hw
                replace P0 := P0.off (by omega) hw
                replace P1 := P1.off (by omega) hw
                replace P2 := P2.off (by omega) hw
                replace X7 := X7.off (Ne.symm nX8X7) hw
                replace X8 := Y
                clear hB hw
                refine rg_done (by kernel_rfl) ?_
                exact ⟨(v5x78.heap.size, v5x59.heap.size, As, Ns, Cs, Bs, Ms, Ds, Ap, Np, Cp, Bp, Mp, Dp), by kernel_rfl, X7, X8, hX7, hX8, Qs, Qp, P0, P1, P2, Q0, Q1, Q2, HB⟩
              exact ar_nil
            exact ar_nil
          exact ar_nil
        exact ar_nil
      exact ar_nil
    refine ar_alloc 6 (some 7) 30 [.slice none 0 0, .slice none 0 0] (by kernel_rfl) (by kernel_rfl) ?_ ?_
    · intro v5x87 X7 hB
      refine ⟨joinB hS hB, ?_⟩
      have hX7 := hS.size
      replace hS := joinB hS hB
      replace HB := joinB HB hB
      replace Q0 := Q0.keep hB
      replace Q1 := Q1.keep hB
      replace Q2 := Q2.keep hB
      replace P0 := P0.keep hB
      replace P1 := P1.keep hB
      replace P2 := P2.keep hB
      clear hB
      refine rg_ready [2, 7] (by kernel_rfl) (by simp) ?_
      refine ar_call 2 (some 26) 18 #[.agg #[.slice a0 len0 cap0, .slice b0 ken0 dap0], .agg #[.slice a1 len1 cap1, .slice b1 ken1 dap1]] (by kernel_rfl) (by kernel_rfl) (cAdd Q0 Q1 (by omega)) ?_ ?_
      · rintro e v5x88 ⟨As, Ns, Cs, Bs, Ms, Ds, rfl, Qs, hB⟩
        refine ⟨_, rfl, joinB hS hB, ?_⟩
        replace hS := joinB hS hB
        replace HB := joinB HB hB
        replace Q0 := Q0.keep hB
        replace Q1 := Q1.keep hB
        replace Q2 := Q2.keep hB
        replace P0 := P0.keep hB
        replace P1 := P1.keep hB
        replace P2 := P2.keep hB
        replace X7 := X7.keep hB
        clear hB
        refine rg_ready [5, 7] (by kernel_rfl) (by simp) ?_
        refine ar_call 5 (some 29) 25 #[.agg #[.slice a0 len0 cap0, .slice b0 ken0 dap0], .agg #[.slice a1 len1 cap1, .slice b1 ken1 dap1]] (by kernel_rfl) (by kernel_rfl) (cMul Q0 Q1 (by omega)) ?_ ?_
        · rintro e v5x89 ⟨Ap, Np, Cp, Bp, Mp, Dp, rfl, Qp, hB⟩
          refine ⟨_, rfl, joinB hS hB, ?_⟩
          replace hS := joinB hS hB
          replace HB := joinB HB hB
          replace Q0 := Q0.keep hB
          replace Q1 := Q1.keep hB
          replace Q2 := Q2.keep hB
          replace Qs := Qs.keep hB
          replace P0 := P0.keep hB
          replace P1 := P1.keep hB
          replace P2 := P2.keep hB
          replace X7 := X7.keep hB
          clear hB
          refine rg_ready [7] (by kernel_rfl) (by simp) ?_
          refine ar_alloc 7 (some 8) 30 [.slice none 0 0, .slice none 0 0] (by kernel_rfl) (by kernel_rfl) ?_ ?_
          · intro v5x90 X8 hB
            refine ⟨joinB hS hB, ?_⟩
            have hX8 := hS.size
            replace hS := joinB hS hB
            replace HB := joinB HB hB
            have nX7X8 := Nat.ne_of_lt X7.lt
            replace Q0 := Q0.keep hB
            replace Q1 := Q1.keep hB
            replace Q2 := Q2.keep hB
            replace Qs := Qs.keep hB
            replace Qp := Qp.keep hB
            replace P0 := P0.keep hB
            replace P1 := P1.keep hB
            replace P2 := P2.keep hB
            replace X7 := X7.keep hB
            clear hB
            refine rg_ready [8] (by kernel_rfl) (by simp) ?_
            refine ar_store 8 30 30 7 26 (u2.drew.heap.size) [.slice none 0 0, .slice none 0 0] [.slice As Ns Cs, .slice Bs Ms Ds] (by kernel_rfl) (by kernel_rfl) (by kernel_rfl) (by kernel_rfl) X7 (by kernel_rfl) rfl (by kernel_rfl) ?_ ?_
            · intro v5x91 Y hw hB
              refine ⟨hS.trans (hB.mono hX7), ?_⟩
              replace HB := HB.trans (hB.mono (Nat.le_trans hBu hX7))
              replace hS := hS.trans (hB.mono hX7)
              replace Q0 := Q0.blk X7 (no_ints2 _ _ _ _ _ _) hw
              replace Q1 := Q1.blk X7 (no_ints2 _ _ _ _ _ _) hw
              replace Q2 := Q2.blk X7 (no_ints2 _ _ _ _ _ _) hw
              replace Qs := Qs.blk X7 (no_ints2 _ _ _ _ _ _) hw
              replace Qp := Qp.blk X7 (no_ints2 _ _ _ _ _ _) hw
              replace P0 := P0.off (by omega) hw
              replace P1 := P1.off (by omega) hw
              replace P2 := P2.off (by omega) hw
              replace X8 := X8.off (Ne.symm nX7X8) hw
              replace X7 := Y
              clear hB hw
              refine rg_ready [9] (by kernel_rfl) (by simp) ?_
              refine ar_store 9 30 30 8 29 (v5x89.heap.size) [.slice none 0 0, .slice none 0 0] [.slice Ap Np Cp, .slice Bp Mp Dp] (by kernel_rfl) (by kernel_rfl) (by kernel_rfl) (by kernel_rfl) X8 (by kernel_rfl) rfl (by kernel_rfl) ?_ ?_
              · intro v5x92 Y hw hB
                refine ⟨hS.trans (hB.mono hX8), ?_⟩
                replace HB := HB.trans (hB.mono (Nat.le_trans hBu hX8))
                replace hS := hS.trans (hB.mono hX8)
                replace Q0 := Q0.blk X8 (no_ints2 _ _ _ _ _ _) hw
                replace Q1 := Q1.blk X8 (no_ints2 _ _ _ _ _ _) hw
                replace Q2 := Q2.blk X8 (no_ints2 _ _ _ _ _ _) hw
                replace Qs := Qs.blk X8 (no_ints2 _ _ _ _ _ _) hw
                replace Qp := Qp.blk X8 (no_ints2 _ _ _ _ _ _) hw
                replace P0 := P0.off (by omega) hw
                replace P1 := P1.off (by omega) hw
                replace P2 := P2.off (by omega) hw
                replace X7 := X7.off nX7X8 hw
                replace X8 := Y
                clear hB hw
                refine rg_done (by kernel_rfl) ?_
                exact ⟨(u2.drew.heap.size, v5x89.heap.size, As, Ns, Cs, Bs, Ms, Ds, Ap, Np, Cp, Bp, Mp, Dp), by kernel_rfl, X7, X8, hX7, hX8, Qs, Qp, P0, P1, P2, Q0, Q1, Q2, HB⟩
              exact ar_nil
            exact ar_nil
          exact ar_nil
        refine ar_alloc 7 (some 8) 30 [.slice none 0 0, .slice none 0 0] (by kernel_rfl) (by kernel_rfl) ?_ ?_
        · intro v5x93 X8 hB
          refine ⟨joinB hS hB, ?_⟩
          have hX8 := hS.size
          replace hS := joinB hS hB
          replace HB := joinB HB hB
          have nX7X8 := Nat.ne_of_lt X7.lt
          replace Q0 := Q0.keep hB
          replace Q1 := Q1.keep hB
          replace Q2 := Q2.keep hB
          replace Qs := Qs.keep hB
          replace P0 := P0.keep hB
          replace P1 := P1.keep hB
          replace P2 := P2.keep hB
          replace X7 := X7.keep hB
          clear hB
          refine rg_ready [5] (by kernel_rfl) (by simp) ?_
          refine ar_call 5 (some 29) 25 #[.agg #[.slice a0 len0 cap0, .slice b0 ken0 dap0], .agg #[.slice a1 len1 cap1, .slice b1 ken1 dap1]] (by kernel_rfl) (by kernel_rfl) (cMul Q0 Q1 (by omega)) ?_ ?_
          · rintro e v5x94 ⟨Ap, Np, Cp, Bp, Mp, Dp, rfl, Qp, hB⟩
            refine ⟨_, rfl, joinB hS hB, ?_⟩
            replace hS := joinB hS hB
            replace HB := joinB HB hB
            replace Q0 := Q0.keep hB
            replace Q1 := Q1.keep hB
            replace Q2 := Q2.keep hB
            replace Qs := Qs.keep hB
            replace P0 := P0.keep hB
            replace P1 := P1.keep hB
            replace P2 := P2.keep hB
            replace X7 := X7.keep hB
            replace X8 := X8.keep hB
            clear hB
            refine rg_ready [8] (by kernel_rfl) (by simp) ?_
            refine ar_store 8 30 30 7 26 (u2.drew.heap.size) [.slice none 0 0, .slice none 0 0] [.slice As Ns Cs, .slice Bs Ms Ds] (by kernel_rfl) (by kernel_rfl) (by kernel_rfl) (by kernel_rfl) X7 (by kernel_rfl) rfl (by kernel_rfl) ?_ ?_
            · intro v5x95 Y hw hB
              refine ⟨hS.trans (hB.mono hX7), ?_⟩
              replace HB := HB.trans (hB.mono (Nat.le_trans hBu hX7))
              replace hS := hS.trans (hB.mono hX7)
              replace Q0 := Q0.blk X7 (no_ints2 _ _ _ _ _ _) hw
              replace Q1 := Q1.blk X7 (no_ints2 _ _ _ _ _ _) hw
              replace Q2 := Q2.blk X7 (no_ints2 _ _ _ _ _ _) hw
              replace Qs := Qs.blk X7 (no_ints2 _ _ _ _ _ _) hw
              replace Qp := Qp.blk X7 (no_ints2 _ _ _ _ _ _) hw
              replace P0 := P0.off (by omega) hw
              replace P1 := P1.off (by omega) hw
              replace P2 := P2.off (by omega) hw
              replace X8 := X8.off (Ne.symm nX7X8) hw
              replace X7 := Y
              clear hB hw
              refine rg_ready [9] (by kernel_rfl) (by simp) ?_
              refine ar_store 9 30 30 8 29 (v5x88.heap.size) [.slice none 0 0, .slice none 0 0] [.slice Ap Np Cp, .slice Bp Mp Dp] (by kernel_rfl) (by kernel_rfl) (by kernel_rfl) (by kernel_rfl) X8 (by kernel_rfl) rfl (by kernel_rfl) ?_ ?_
              · intro v5x96 Y hw hB
                refine ⟨hS.trans (hB.mono hX8), ?_⟩
                replace HB := HB.trans (hB.mono (Nat.le_trans hBu hX8))
                replace hS := hS.trans (hB.mono hX8)
                replace Q0 := Q0.blk X8 (no_ints2 _ _ _ _ _ _) hw
                replace Q1 := Q1.blk X8 (no_ints2 _ _ _ _ _ _) hw
                replace Q2 := Q2.blk X8 (no_ints2 _ _ _ _ _ _) hw
                replace Qs := Qs.blk X8 (no_ints2 _ _ _ _ _ _) hw
                replace Qp := Qp.blk X8 (no_ints2 _ _ _ _ _ _) hw
                replace P0 := P0.off (by omega) hw
                replace P1 := P1.off (by omega) hw
                replace P2 := P2.off (by omega) hw
                replace X7 := X7.off nX7X8 hw
                replace X8 := Y
                clear hB hw
                refine rg_done (by kernel_rfl) ?_
                exact ⟨(u2.drew.heap.size, v5x88.heap.size, As, Ns, Cs, Bs, Ms, Ds, Ap, Np, Cp, Bp, Mp, Dp), by kernel_rfl, X7, X8, hX7, hX8, Qs, Qp, P0, P1, P2, Q0, Q1, Q2, HB⟩
              exact ar_nil
            exact ar_nil
          exact ar_nil
        exact ar_nil
      refine ar_alloc 7 (some 8) 30 [.slice none 0 0, .slice none 0 0] (by kernel_rfl) (by kernel_rfl) ?_ ?_
      · intro v5x97 X8 hB
        refine ⟨joinB hS hB, ?_⟩
        have hX8 := hS.size
        replace hS := joinB hS hB
        replace HB := joinB HB hB
        have nX7X8 := Nat.ne_of_lt X7.lt
        replace Q0 := Q0.keep hB
        replace Q1 := Q1.keep hB
        replace Q2 := Q2.keep hB
        replace P0 := P0.keep hB
        replace P1 := P1.keep hB
        replace P2 := P2.keep hB
        replace X7 := X7.keep hB
        clear hB
        refine rg_ready [2] (by kernel_rfl) (by simp) ?_
        refine ar_call 2 (some 26) 18 #[.agg #[.slice a0 len0 cap0, .slice b0 ken0 dap0], .agg #[.slice a1 len1 cap1, .slice b1 ken1 dap1]] (by kernel_rfl) (by kernel_rfl) (cAdd Q0 Q1 (by omega)) ?_ ?_
        · rintro e v5x98 ⟨As, Ns, Cs, Bs, Ms, Ds, rfl, Qs, hB⟩
          refine ⟨_, rfl, joinB hS hB, ?_⟩
          replace hS := joinB hS hB
          replace HB := joinB HB hB
          replace Q0 := Q0.keep hB
          replace Q1 := Q1.keep hB
          replace Q2 := Q2.keep hB
          replace P0 := P0.keep hB
          replace P1 := P1.keep hB
          replace P2 := P2.keep hB
          replace X7 := X7.keep hB
          replace X8 := X8.keep hB
          clear hB
          refine rg_ready [5] (by kernel_rfl) (by simp) ?_
          refine ar_call 5 (some 29) 25 #[.agg #[.slice a0 len0 cap0, .slice b0 ken0 dap0], .agg #[.slice a1 len1 cap1, .slice b1 ken1 dap1]] (by kernel_rfl) (by kernel_rfl) (cMul Q0 Q1 (by omega)) ?_ ?_
          · rintro e v5x99 ⟨Ap, Np, Cp, Bp, Mp, Dp, rfl, Qp, hB⟩
            refine ⟨_, rfl, joinB hS hB, ?_⟩
            replace hS := joinB hS hB
            replace HB := joinB HB hB
            replace Q0 := Q0.keep hB
            replace Q1 := Q1.keep hB
            replace Q2 := Q2.keep hB
            replace Qs := Qs.keep hB
            replace P0 := P0.keep hB
            replace P1 := P1.keep hB
            replace P2 := P2.keep hB
            replace X7 := X7.keep hB
            replace X8 := X8.keep hB
            clear hB
            refine rg_ready [8] (by kernel_rfl) (by simp) ?_
            refine ar_store 8 30 30 7 26 (u2.drew.heap.size) [.slice none 0 0, .slice none 0 0] [.slice As Ns Cs, .slice Bs Ms Ds] (by kernel_rfl) (by kernel_rfl) (by kernel_rfl) (by kernel_rfl) X7 (by kernel_rfl) rfl (by kernel_rfl) ?_ ?_
            · intro v5x100 Y hw hB
              refine ⟨hS.trans (hB.mono hX7), ?_⟩
              replace HB := HB.trans (hB.mono (Nat.le_trans hBu hX7))
              replace hS := hS.trans (hB.mono hX7)
              replace Q0 := Q0.blk X7 (no_ints2 _ _ _ _ _ _) hw
              replace Q1 := Q1.blk X7 (no_ints2 _ _ _ _ _ _) hw
              replace Q2 := Q2.blk X7 (no_ints2 _ _ _ _ _ _) hw
              replace Qs := Qs.blk X7 (no_ints2 _ _ _ _ _ _) hw
              replace Qp := Qp.blk X7 (no_ints2 _ _ _ _ _ _) hw
              replace P0 := P0.off (by omega) hw
              replace P1 := P1.off (by omega) hw
              replace P2 := P2.off (by omega) hw
              replace X8 := X8.off (Ne.symm nX7X8) hw
              replace X7 := Y
              clear hB hw
              refine rg_ready [9] (by kernel_rfl) (by simp) ?_
              refine ar_store 9 30 30 8 29 (v5x87.heap.size) [.slice none 0 0, .slice none 0 0] [.slice Ap Np Cp, .slice Bp Mp Dp] (by kernel_rfl) (by kernel_rfl) (by kernel_rfl) (by kernel_rfl) X8 (by kernel_rfl) rfl (by kernel_rfl) ?_ ?_
              · intro v5x101 Y hw hB
                refine ⟨hS.trans (hB.mono hX8), ?_⟩
                replace HB := HB.trans (hB.mono (Nat.le_trans hBu hX8))
                replace hS := hS.trans (hB.mono hX8)
                replace Q0 := Q0.blk X8 (no_ints2 _ _ _ _ _ _) hw
                replace Q1 := Q1.blk X8 (no_ints2 _ _ _ _ _ _) hw
                replace Q2 := Q2.blk X8 (no_ints2 _ _ _ _ _ _) hw
                replace Qs := Qs.blk X8 (no_ints2 _ _ _ _ _ _) hw
                replace Qp := Qp.blk X8 (no_ints2 _ _ _ _ _ _) hw
                replace P0 := P0.off (by omega) hw
                replace P1 := P1.off (by omega) hw
                replace P2 := P2.off (by omega) hw
                replace X7 := X7.off nX7X8 hw
                replace X8 := Y
                clear hB hw
                refine rg_done (by kernel_rfl) ?_
                exact ⟨(u2.drew.heap.size, v5x87.heap.size, As, Ns, Cs, Bs, Ms, Ds, Ap, Np, Cp, Bp, Mp, Dp), by kernel_rfl, X7, X8, hX7, hX8, Qs, Qp, P0, P1, P2, Q0, Q1, Q2, HB⟩
              exact ar_nil
            exact ar_nil
          exact ar_nil
        exact ar_nil
      exact ar_nil
    refine ar_alloc 7 (some 8) 30 [.slice none 0 0, .slice none 0 0] (by kernel_rfl) (by kernel_rfl) ?_ ?_
    · intro v5x102 X8 hB
      refine ⟨joinB hS hB, ?_⟩
      have hX8 := hS.size
      replace hS := joinB hS hB
      replace HB := joinB HB hB
      replace Q0 := Q0.keep hB
      replace Q1 := Q1.keep hB
      replace Q2 := Q2.keep hB
      replace P0 := P0.keep hB
      replace P1 := P1.keep hB
      replace P2 := P2.keep hB
      clear hB
      refine rg_ready [2, 6] (by kernel_rfl) (by simp) ?_
      refine ar_call 2 (some 26) 18 #[.agg #[.slice a0 len0 cap0, .slice b0 ken0 dap0], .agg #[.slice a1 len1 cap1, .slice b1 ken1 dap1]] (by kernel_rfl) (by kernel_rfl) (cAdd Q0 Q1 (by omega)) ?_ ?_
      · rintro e v5x103 ⟨As, Ns, Cs, Bs, Ms, Ds, rfl, Qs, hB⟩
        refine ⟨_, rfl, joinB hS hB, ?_⟩
        replace hS := joinB hS hB
        replace HB := joinB HB hB
        replace Q0 := Q0.keep hB
        replace Q1 := Q1.keep hB
        replace Q2 := Q2.keep hB
        replace P0 := P0.keep hB
        replace P1 := P1.keep hB
        replace P2 := P2.keep hB
        replace X8 := X8.keep hB
        clear hB
        refine rg_ready [5, 6] (by kernel_rfl) (by simp) ?_
        refine ar_call 5 (some 29) 25 #[.agg #[.slice a0 len0 cap0, .slice b0 ken0 dap0], .agg #[.slice a1 len1 cap1, .slice b1 ken1 dap1]] (by kernel_rfl) (by kernel_rfl) (cMul Q0 Q1 (by omega)) ?_ ?_
        · rintro e v5x104 ⟨Ap, Np, Cp, Bp, Mp, Dp, rfl, Qp, hB⟩
          refine ⟨_, rfl, joinB hS hB, ?_⟩
          replace hS := joinB hS hB
          replace HB := joinB HB hB
          replace Q0 := Q0.keep hB
          replace Q1 := Q1.keep hB
          replace Q2 := Q2.keep hB
          replace Qs := Qs.keep hB
          replace P0 := P0.keep hB
          replace P1 := P1.keep hB
          replace P2 := P2.keep hB
          replace X8 := X8.keep hB
          clear hB
          refine rg_ready [6] (by kernel_rfl) (by simp) ?_
          refine ar_alloc 6 (some 7) 30 [.slice none 0 0, .slice none 0 0] (by kernel_rfl) (by kernel_rfl) ?_ ?_
          · intro v5x105 X7 hB
            refine ⟨joinB hS hB, ?_⟩
            have hX7 := hS.size
            replace hS := joinB hS hB
            replace HB := joinB HB hB
            have nX8X7 := Nat.ne_of_lt X8.lt
            replace Q0 := Q0.keep hB
            replace Q1 := Q1.keep hB
            replace Q2 := Q2.keep hB
            replace Qs := Qs.keep hB
            replace Qp := Qp.keep hB
            replace P0 := P0.keep hB
            replace P1 := P1.keep hB
            replace P2 := P2.keep hB
            replace X8 := X8.keep hB
            clear hB
            refine rg_ready [8] (by kernel_rfl) (by simp) ?_
            refine ar_store 8 30 30 7 26 (v5x104.heap.size) [.slice none 0 0, .slice none 0 0] [.slice As Ns Cs, .slice Bs Ms Ds] (by kernel_rfl) (by kernel_rfl) (by kernel_rfl) (by kernel_rfl) X7 (by kernel_rfl) rfl (by kernel_rfl) ?_ ?_
            · intro v5x106 Y hw hB
              refine ⟨hS.trans (hB.mono hX7), ?_⟩
              replace HB := HB.trans (hB.mono (Nat.le_trans hBu hX7))
              replace hS := hS.trans (hB.mono hX7)
              replace Q0 := Q0.blk X7 (no_ints2 _ _ _ _ _ _) hw
              replace Q1 := Q1.blk X7 (no_ints2 _ _ _ _ _ _) hw
              replace Q2 := Q2.blk X7 (no_ints2 _ _ _ _ _ _) hw
              replace Qs := Qs.blk X7 (no_ints2 _ _ _ _ _ _) hw
              replace Qp := Qp.blk X7 (no_ints2 _ _ _ _ _ _) hw
              replace P0 := P0.off (by omega) hw
              replace P1 := P1.off (by omega) hw
              replace P2 := P2.off (by omega) hw
              replace X8 := X8.off nX8X7 hw
              replace X7 := Y
              clear hB hw
              refine rg_ready [9] (by kernel_rfl) (by simp) ?_
              refine ar_store 9 30 30 8 29 (u2.drew.heap.size) [.slice none 0 0, .slice none 0 0] [.slice Ap Np Cp, .slice Bp Mp Dp] (by kernel_rfl) (by kernel_rfl) (by kernel_rfl) (by kernel_rfl) X8 (by kernel_rfl) rfl (by kernel_rfl) ?_ ?_
              · intro v5x107 Y hw hB
                refine ⟨hS.trans (hB.mono hX8), ?_⟩
                replace HB := HB.trans (hB.mono (Nat.le_trans hBu hX8))
                replace hS := hS.trans (hB.mono hX8)
                replace Q0 := Q0.blk X8 (no_ints2 _ _ _ _ _ _) hw
                replace Q1 := Q1.blk X8 (no_ints2 _ _ _ _ _ _) hw
                replace Q2 := Q2.blk X8 (no_ints2 _ _ _ _ _ _) hw
                replace Qs := Qs.blk X8 (no_ints2 _ _ _ _ _ _) hw
                replace Qp := Qp.blk X8 (no_ints2 _ _ _ _ _ _) hw
                replace P0 := P0.off (by omega) hw
                replace P1 := P1.off (by omega) hw
                replace P2 := P2.off (by omega) hw
                replace X7 := X7.off (Ne.symm nX8X7) hw
                replace X8 := Y
                clear hB hw
                refine rg_done (by kernel_rfl) ?_
                exact ⟨(v5x104.heap.size, u2.drew.heap.size, As, Ns, Cs, Bs, Ms, Ds, Ap, Np, Cp, Bp, Mp, Dp), by kernel_rfl, X7, X8, hX7, hX8, Qs, Qp, P0, P1, P2, Q0, Q1, Q2, HB⟩
              exact ar_nil
            exact ar_nil
          exact ar_nil
        refine ar_alloc 6 (some 7) 30 [.slice none 0 0, .slice none 0 0] (by kernel_rfl) (by kernel_rfl) ?_ ?_
        · intro v5x108 X7 hB
          refine ⟨joinB hS hB, ?_⟩
          have hX7 := hS.size
          replace hS := joinB hS hB
          replace HB := joinB HB hB
          have nX8X7 := Nat.ne_of_lt X8.lt
          replace Q0 := Q0.keep hB
          replace Q1 := Q1.keep hB
          replace Q2 := Q2.keep hB
          replace Qs := Qs.keep hB
          replace P0 := P0.keep hB
          replace P1 := P1.keep hB
          replace P2 := P2.keep hB
          replace X8 := X8.keep hB
          clear hB
          refine rg_ready [5] (by kernel_rfl) (by simp) ?_
          refine ar_call 5 (some 29) 25 #[.agg #[.slice a0 len0 cap0, .slice b0 ken0 dap0], .agg #[.slice a1 len1 cap1, .slice b1 ken1 dap1]] (by kernel_rfl) (by kernel_rfl) (cMul Q0 Q1 (by omega)) ?_ ?_
          · rintro e v5x109 ⟨Ap, Np, Cp, Bp, Mp, Dp, rfl, Qp, hB⟩
            refine ⟨_, rfl, joinB hS hB, ?_⟩
            replace hS := joinB hS hB
            replace HB := joinB HB hB
            replace Q0 := Q0.keep hB
            replace Q1 := Q1.keep hB
            replace Q2 := Q2.keep hB
            replace Qs := Qs.keep hB
            replace P0 := P0.keep hB
            replace P1 := P1.keep hB
            replace P2 := P2.keep hB
            replace X8 := X8.keep hB
            replace X7 := X7.keep hB
            clear hB
            refine rg_ready [8] (by kernel_rfl) (by simp) ?_
            refine ar_store 8 30 30 7 26 (v5x103.heap.size) [.slice none 0 0, .slice none 0 0] [.slice As Ns Cs, .slice Bs Ms Ds] (by kernel_rfl) (by kernel_rfl) (by kernel_rfl) (by kernel_rfl) X7 (by kernel_rfl) rfl (by kernel_rfl) ?_ ?_
            · intro v5x110 Y hw hB
              refine ⟨hS.trans (hB.mono hX7), ?_⟩
              replace HB := HB.trans (hB.mono (Nat.le_trans hBu hX7))
              replace hS := hS.trans (hB.mono hX7)
              replace Q0 := Q0.blk X7 (no_ints2 _ _ _ _ _ _) hw
              replace Q1 := Q1.blk X7 (no_ints2 _ _ _ _ _ _) hw
              replace Q2 := Q2.blk X7 (no_ints2 _ _ _ _ _ _) hw
              replace Qs := Qs.blk X7 (no_ints2 _ _ _ _ _ _) hw
              replace Qp := Qp.blk X7 (no_ints2 _ _ _ _ _ _) hw
              replace P0 := P0.off (by omega) hw
              replace P1 := P1.off (by omega) hw
              replace P2 := P2.off (by omega) hw
              replace X8 := X8.off nX8X7 hw
              replace X7 := Y
              clear hB hw
              refine rg_ready [9] (by kernel_rfl) (by simp) ?_
              refine ar_store 9 30 30 8 29 (u2.drew.heap.size) [.slice none 0 0, .slice none 0 0] [.slice Ap Np Cp, .slice Bp Mp Dp] (by kernel_rfl) (by kernel_rfl) (by kernel_rfl) (by kernel_rfl) X8 (by kernel_rfl) rfl (by kernel_rfl) ?_ ?_
              · intro v5x111 Y hw hB
                refine ⟨hS.trans (hB.mono hX8), ?_⟩
                replace HB := HB.trans (hB.mono (Nat.le_trans hBu hX8))
                replace hS := hS.trans (hB.mono hX8)
                replace Q0 := Q0.blk X8 (no_ints2 _ _ _ _ _ _) hw
                replace Q1 := Q1.blk X8 (no_ints2 _ _ _ _ _ _) hw
                replace Q2 := Q2.blk X8 (no_ints2 _ _ _ _ _ _) hw
                replace Qs := Qs.blk X8 (no_ints2 _ _ _ _ _ _) hw
                replace Qp := Qp.blk X8 (no_ints2 _ _ _ _ _ _) hw
                replace P0 := P0.off (by omega) hw
                replace P1 := P1.off (by omega) hw
                replace P2 := P2.off (by omega) hw
                replace X7 := X7.off (Ne.symm nX8X7) hw
                replace X8 := Y
                clear hB hw
                refine rg_done (by kernel_rfl) ?_
                exact ⟨(v5x103.heap.size, u2.drew.heap.size, As, Ns, Cs, Bs, Ms, Ds, Ap, Np, Cp, Bp, Mp, Dp), by kernel_rfl, X7, X8, hX7, hX8, Qs, Qp, P0, P1, P2, Q0, Q1, Q2, HB⟩
              exact ar_nil
            exact ar_nil
          exact ar_nil
        exact ar_nil
      refine ar_alloc 6 (some 7) 30 [.slice none 0 0, .slice none 0 0] (by kernel_rfl) (by kernel_rfl) ?_ ?_
      · intro v5x112 X7 hB
        refine ⟨joinB hS hB, ?_⟩
        have hX7 := hS.size
        replace hS := joinB hS hB
        replace HB := joinB HB hB
        have nX8X7 := Nat.ne_of_lt X8.lt
        replace Q0 := Q0.keep hB
        replace Q1 := Q1.keep hB
        replace Q2 := Q2.keep hB
        replace P0 := P0.keep hB
        replace P1 := P1.keep hB
        replace P2 := P2.keep hB
        replace X8 := X8.keep hB
        clear hB
        refine rg_ready [2] (by kernel_rfl) (by simp) ?_
        refine ar_call 2 (some 26) 18 #[.agg #[.slice a0 len0 cap0, .slice b0 ken0 dap0], .agg #[.slice a1 len1 cap1, .slice b1 ken1 dap1]] (by kernel_rfl) (by kernel_rfl) (cAdd Q0 Q1 (by omega)) ?_ ?_
        · rintro e v5x113 ⟨As, Ns, Cs, Bs, Ms, Ds, rfl, Qs, hB⟩
          refine ⟨_, rfl, joinB hS hB, ?_⟩
          replace hS := joinB hS hB
          replace HB := joinB HB hB
          replace Q0 := Q0.keep hB
          replace Q1 := Q1.keep hB
          replace Q2 := Q2.keep hB
          replace P0 := P0.keep hB
          replace P1 := P1.keep hB
          replace P2 := P2.keep hB
          replace X8 := X8.keep hB
          replace X7 := X7.keep hB
          clear hB
          refine rg_ready [5] (by kernel_rfl) (by simp) ?_
          refine ar_call 5 (some 29) 25 #[.agg #[.slice a0 len0 cap0, .slice b0 ken0 dap0], .agg #[.slice a1 len1 cap1, .slice b1 ken1 dap1]] (by kernel_rfl) (by kernel_rfl) (cMul Q0 Q1 (by omega)) ?_ ?_
          · rintro e v5x114 ⟨Ap, Np, Cp, Bp, Mp, Dp, rfl, Qp, hB⟩
            refine ⟨_, rfl, joinB hS hB, ?_⟩
            replace hS := joinB hS hB
            replace HB := joinB HB hB
            replace Q0 := Q0.keep hB
            replace Q1 := Q1.keep hB
            replace Q2 := Q2.keep hB
            replace Qs := Qs.keep hB
            replace P0 := P0.keep hB
            replace P1 := P1.keep hB
            replace P2 := P2.keep hB
            replace X8 := X8.keep hB
            replace X7 := X7.keep hB
            clear hB
            refine rg_ready [8] (by kernel_rfl) (by simp) ?_
            refine ar_store 8 30 30 7 26 (v5x102.heap.size) [.slice none 0 0, .slice none 0 0] [.slice As Ns Cs, .slice Bs Ms Ds] (by kernel_rfl) (by kernel_rfl) (by kernel_rfl) (by kernel_rfl) X7 (by kernel_rfl) rfl (by kernel_rfl) ?_ ?_
            · intro v5x115 Y hw hB
              refine ⟨hS.trans (hB.mono hX7), ?_⟩
              replace HB := HB.trans (hB.mono (Nat.le_trans hBu hX7))
              replace hS := hS.trans (hB.mono hX7)
              replace Q0 := Q0.blk X7 (no_ints2 _ _ _ _ _ _) hw
              replace Q1 := Q1.blk X7 (no_ints2 _ _ _ _ _ _) hw
              replace Q2 := Q2.blk X7 (no_ints2 _ _ _ _ _ _) hw
              replace Qs := Qs.blk X7 (no_ints2 _ _ _ _ _ _) hw
              replace Qp := Qp.blk X7 (no_ints2 _ _ _ _ _ _) hw
              replace P0 := P0.off (by omega) hw
              replace P1 := P1.off (by omega) hw
              replace P2 := P2.off (by omega) hw
              replace X8 := X8.off nX8X7 hw
              replace X7 := Y
              clear hB hw
              refine rg_ready [9] (by kernel_rfl) (by simp) ?_
              refine ar_store 9 30 30 8 29 (u2.drew.heap.size) [.slice none 0 0, .slice none 0 0] [.slice Ap Np Cp, .slice Bp Mp Dp] (by kernel_rfl) (by kernel_rfl) (by kernel_rfl) (by kernel_rfl) X8 (by kernel_rfl) rfl (by kernel_rfl) ?_ ?_
              · intro v5x116 Y hw hB
                refine ⟨hS.trans (hB.mono hX8), ?_⟩
                replace HB := HB.trans (hB.mono (Nat.le_trans hBu hX8))
                replace hS := hS.trans (hB.mono hX8)
                replace Q0 := Q0.blk X8 (no_ints2 _ _ _ _ _ _) hw
                replace Q1 := Q1.blk X8 (no_ints2 _ _ _ _ _ _) hw
                replace Q2 := Q2.blk X8 (no_ints2 _ _ _ _ _ _) hw
                replace Qs := Qs.blk X8 (no_ints2 _ _ _ _ _ _) hw
                replace Qp := Qp.blk X8 (no_ints2 _ _ _ _ _ _) hw
                replace P0 := P0.off (by omega) hw
                replace P1 := P1.off (by omega) hw
                replace P2 := P2.off (by omega) hw
                replace X7 := X7.off (Ne.symm nX8X7) hw
                replace X8 := Y
                clear hB hw
                refine rg_done (by kernel_rfl) ?_
                exact ⟨(v5x102.heap.size, u2.drew.heap.size, As, Ns, Cs, Bs, Ms, Ds, Ap, Np, Cp, Bp, Mp, Dp), by kernel_rfl, X7, X8, hX7, hX8, Qs, Qp, P0, P1, P2, Q0, Q1, Q2, HB⟩
              exact ar_nil
            exact ar_nil
          exact ar_nil
        exact ar_nil
      exact ar_nil
    exact ar_nil
  · rintro ⟨g7, g8, As, Ns, Cs, Bs, Ms, Ds, Ap, Np, Cp, Bp, Mp, Dp⟩ x1 ⟨Xs, Xp, hnXs, hnXp, Qs, Qp, P0', P1', P2', Q0', Q1', Q2', HBn⟩
    replace P0 := P0'
    clear P0'
    replace P1 := P1'
    clear P1'
    replace P2 := P2'
    clear P2'
    replace Q0 := Q0'
    clear Q0'
    replace Q1 := Q1'
    clear Q1'
    replace Q2 := Q2'
    clear Q2'
    replace HB := HBn
    clear HBn
    try simp only [putAll, Act.put, List.setIfInBounds_toArray, List.set_cons_zero, List.set_cons_succ]
    obtain ⟨c1P0, c2P0, c3P0, c4P0⟩ := P0.cells2
    obtain ⟨c1P1, c2P1, c3P1, c4P1⟩ := P1.cells2
    obtain ⟨c1P2, c2P2, c3P2, c4P2⟩ := P2.cells2
    obtain ⟨c1Xs, c2Xs, c3Xs, c4Xs⟩ := Xs.cells2
    obtain ⟨c1Xp, c2Xp, c3Xp, c4Xp⟩ := Xp.cells2
    go_wp2_with fail
    clear c1P0 c2P0 c3P0 c4P0 c1P1 c2P1 c3P1 c4P1 c1P2 c2P2 c3P2 c4P2 c1Xs c2Xs c3Xs c4Xs c1Xp c2Xp c3Xp c4Xp
    refine rg_start (S := fun w' => Below x1.drew.heap.size x1.drew w') (by kernel_rfl) (Below.refl _ _) ?_
    replace P0 := P0.drew
    replace P1 := P1.drew
    replace P2 := P2.drew
    replace Q0 := Q0.drew
    replace Q1 := Q1.drew
    replace Q2 := Q2.drew
    replace Xs := Xs.drew
    replace Xp := Xp.drew
    replace Qs := Qs.drew
    replace Qp := Qp.drew
    replace HB := HB.drew
    have UP0 := P0
    have UP1 := P1
    have UP2 := P2
    have UXs := Xs
    have UXp := Xp
    have hS := Below.refl x1.drew.heap.size x1.drew
    refine rg_load 0 (some 30) (.agg #[.slice As Ns Cs, .slice Bs Ms Ds]) 30 7 (g7) 0 (by kernel_rfl) (by kernel_rfl) (by kernel_rfl) (fun _ hb => load_rat (UXs.keep hb)) (fun _ _ _ h => h) hS ?_
    refine rg_call 1 (some 31) 26 #[.agg #[.slice As Ns Cs, .slice Bs Ms Ds]] (by kernel_rfl) (by kernel_rfl) (cRight Qs (by omega)) ?_
    rintro e r6x1 ⟨rfl, hB⟩
    refine ⟨_, rfl, joinB hS hB, ?_⟩
    replace hS := joinB hS hB
    replace P0 := P0.keep hB
    replace P1 := P1.keep hB
    replace P2 := P2.keep hB
    replace Q0 := Q0.keep hB
    replace Q1 := Q1.keep hB
    replace Q2 := Q2.keep hB
    replace Xs := Xs.keep hB
    replace Xp := Xp.keep hB
    replace Qs := Qs.keep hB
    replace Qp := Qp.keep hB
    replace HB := joinB HB hB
    clear hB
    refine rg_take 2 (some 32) (.bool false) (by kernel_rfl) (fun _ _ => by kernel_rfl) (fun _ _ _ h => h) hS ?_
    refine rg_take 3 (some 33) (.bool false) (by kernel_rfl) (fun _ _ => by kernel_rfl) (fun _ _ _ h => h) hS ?_
    refine rg_load 4 (some 34) (.agg #[.slice Ap Np Cp, .slice Bp Mp Dp]) 30 8 (g8) 0 (by kernel_rfl) (by kernel_rfl) (by kernel_rfl) (fun _ hb => load_rat (UXp.keep hb)) (fun _ _ _ h => h) hS ?_
    refine rg_call 5 (some 35) 26 #[.agg #[.slice Ap Np Cp, .slice Bp Mp Dp]] (by kernel_rfl) (by kernel_rfl) (cRight Qp (by omega)) ?_
    rintro e r6x2 ⟨rfl, hB⟩
    refine ⟨_, rfl, joinB hS hB, ?_⟩
    replace hS := joinB hS hB
    replace P0 := P0.keep hB
    replace P1 := P1.keep hB
    replace P2 := P2.keep hB
    replace Q0 := Q0.keep hB
    replace Q1 := Q1.keep hB
    replace Q2 := Q2.keep hB
    replace Xs := Xs.keep hB
    replace Xp := Xp.keep hB
    replace Qs := Qs.keep hB
    replace Qp := Qp.keep hB
    replace HB := joinB HB hB
    clear hB
    refine rg_take 6 (some 36) (.bool false) (by kernel_rfl) (fun _ _ => by kernel_rfl) (fun _ _ _ h => h) hS ?_
    refine rg_take 7 (some 37) (.bool false) (by kernel_rfl) (fun _ _ => by kernel_rfl) (fun _ _ _ h => h) hS ?_
    refine rg_take 8 (some 38) (.bool false) (by kernel_rfl) (fun _ _ => by kernel_rfl) (fun _ _ _ h => h) hS ?_
    refine rg_load 9 (some 39) (.agg #[.slice As Ns Cs, .slice Bs Ms Ds]) 30 7 (g7) 0 (by kernel_rfl) (by kernel_rfl) (by kernel_rfl) (fun _ hb => load_rat (UXs.keep hb)) (fun _ _ _ h => h) hS ?_
    refine rg_load 10 (some 40) (.agg #[.slice a1 len1 cap1, .slice b1 ken1 dap1]) 30 4 (w.heap.size + 1) 0 (by kernel_rfl) (by kernel_rfl) (by kernel_rfl) (fun _ hb => load_rat (UP1.keep hb)) (fun _ _ _ h => h) hS ?_
    refine rg_load 11 (some 41) (.agg #[.slice a0 len0 cap0, .slice b0 ken0 dap0]) 30 3 (w.heap.size) 0 (by kernel_rfl) (by kernel_rfl) (by kernel_rfl) (fun _ hb => load_rat (UP0.keep hb)) (fun _ _ _ h => h) hS ?_
    refine rg_call 12 (some 42) 18 #[.agg #[.slice a1 len1 cap1, .slice b1 ken1 dap1], .agg #[.slice a0 len0 cap0, .slice b0 ken0 dap0]] (by kernel_rfl) (by kernel_rfl) (cAdd Q1 Q0 (by omega)) ?_
    rintro e r6x3 ⟨Aa, Na, Ca, Ba, Ma, Da, rfl, Qa, hB⟩
    refine ⟨_, rfl, joinB hS hB, ?_⟩
    replace hS := joinB hS hB
    replace P0 := P0.keep hB
    replace P1 := P1.keep hB
    replace P2 := P2.keep hB
    replace Q0 := Q0.keep hB
    replace Q1 := Q1.keep hB
    replace Q2 := Q2.keep hB
    replace Xs := Xs.keep hB
    replace Xp := Xp.keep hB
    replace Qs := Qs.keep hB
    replace Qp := Qp.keep hB
    replace HB := joinB HB hB
    clear hB
    refine rg_call 13 (some 43) 16 #[.agg #[.slice As Ns Cs, .slice Bs Ms Ds], .agg #[.slice Aa Na Ca, .slice Ba Ma Da]] (by kernel_rfl) (by kernel_rfl) (cSame (Qs.up (C := 100000) (by omega)) (Qa.up (C := 100000) (by omega)) (by omega) true (decide_eq_true (by grind))) ?_
    rintro e r6x4 ⟨rfl, hB⟩
    refine ⟨_, rfl, joinB hS hB, ?_⟩
    replace hS := joinB hS hB
    replace P0 := P0.keep hB
    replace P1 := P1.keep hB
    replace P2 := P2.keep hB
    replace Q0 := Q0.keep hB
    replace Q1 := Q1.keep hB
    replace Q2 := Q2.keep hB
    replace Xs := Xs.keep hB
    replace Xp := Xp.keep hB
    replace Qs := Qs.keep hB
    replace Qp := Qp.keep hB
    replace Qa := Qa.keep hB
    replace HB := joinB HB hB
    clear hB
    refine rg_take 14 (some 44) (.bool false) (by kernel_rfl) (fun _ _ => by kernel_rfl) (fun _ _ _ h => h) hS ?_
    refine rg_take 15 (some 45) (.bool false) (by kernel_rfl) (fun _ _ => by kernel_rfl) (fun _ _ _ h => h) hS ?_
    refine rg_take 16 (some 46) (.bool false) (by kernel_rfl) (fun _ _ => by kernel_rfl) (fun _ _ _ h => h) hS ?_
    refine rg_load 17 (some 47) (.agg #[.slice Ap Np Cp, .slice Bp Mp Dp]) 30 8 (g8) 0 (by kernel_rfl) (by kernel_rfl) (by kernel_rfl) (fun _ hb => load_rat (UXp.keep hb)) (fun _ _ _ h => h) hS ?_
    refine rg_load 18 (some 48) (.agg #[.slice a1 len1 cap1, .slice b1 ken1 dap1]) 30 4 (w.heap.size + 1) 0 (by kernel_rfl) (by kernel_rfl) (by kernel_rfl) (fun _ hb => load_rat (UP1.keep hb)) (fun _ _ _ h => h) hS ?_
    refine rg_load 19 (some 49) (.agg #[.slice a0 len0 cap0, .slice b0 ken0 dap0]) 30 3 (w.heap.size) 0 (by kernel_rfl) (by kernel_rfl) (by kernel_rfl) (fun _ hb => load_rat (UP0.keep hb)) (fun _ _ _ h => h) hS ?_
    refine rg_call 20 (some 50) 25 #[.agg #[.slice a1 len1 cap1, .slice b1 ken1 dap1], .agg #[.slice a0 len0 cap0, .slice b0 ken0 dap0]] (by kernel_rfl) (by kernel_rfl) (cMul Q1 Q0 (by omega)) ?_
    rintro e r6x5 ⟨Ab, Nb, Cb, Bb, Mb, Db, rfl, Qb, hB⟩
    refine ⟨_, rfl, joinB hS hB, ?_⟩
    replace hS := joinB hS hB
    replace P0 := P0.keep hB
    replace P1 := P1.keep hB
    replace P2 := P2.keep hB
    replace Q0 := Q0.keep hB
    replace Q1 := Q1.keep hB
    replace Q2 := Q2.keep hB
    replace Xs := Xs.keep hB
    replace Xp := Xp.keep hB
    replace Qs := Qs.keep hB
    replace Qp := Qp.keep hB
    replace Qa := Qa.keep hB
    replace HB := joinB HB hB
    clear hB
    refine rg_call 21 (some 51) 16 #[.agg #[.slice Ap Np Cp, .slice Bp Mp Dp], .agg #[.slice Ab Nb Cb, .slice Bb Mb Db]] (by kernel_rfl) (by kernel_rfl) (cSame (Qp.up (C := 100000) (by omega)) (Qb.up (C := 100000) (by omega)) (by omega) true (decide_eq_true (by grind))) ?_
    rintro e r6x6 ⟨rfl, hB⟩
    refine ⟨_, rfl, joinB hS hB, ?_⟩
    replace hS := joinB hS hB
    replace P0 := P0.keep hB
    replace P1 := P1.keep hB
    replace P2 := P2.keep hB
    replace Q0 := Q0.keep hB
    replace Q1 := Q1.keep hB
    replace Q2 := Q2.keep hB
    replace Xs := Xs.keep hB
    replace Xp := Xp.keep hB
    replace Qs := Qs.keep hB
    replace Qp := Qp.keep hB
    replace Qa := Qa.keep hB
    replace Qb := Qb.keep hB
    replace HB := joinB HB hB
    clear hB
    refine rg_take 22 (some 52) (.bool false) (by kernel_rfl) (fun _ _ => by kernel_rfl) (fun _ _ _ h => h) hS ?_
    refine rg_take 23 (some 53) (.bool false) (by kernel_rfl) (fun _ _ => by kernel_rfl) (fun _ _ _ h => h) hS ?_
    refine rg_take 24 (some 54) (.bool false) (by kernel_rfl) (fun _ _ => by kernel_rfl) (fun _ _ _ h => h) hS ?_
    refine rg_load 25 (some 55) (.agg #[.slice As Ns Cs, .slice Bs Ms Ds]) 30 7 (g7) 0 (by kernel_rfl) (by kernel_rfl) (by kernel_rfl) (fun _ hb => load_rat (UXs.keep hb)) (fun _ _ _ h => h) hS ?_
    refine rg_load 26 (some 56) (.agg #[.slice a2 len2 cap2, .slice b2 ken2 dap2]) 30 5 (w.heap.size + 1 + 1) 0 (by kernel_rfl) (by kernel_rfl) (by kernel_rfl) (fun _ hb => load_rat (UP2.keep hb)) (fun _ _ _ h => h) hS ?_
    refine rg_load 28 (some 58) (.agg #[.slice a0 len0 cap0, .slice b0 ken0 dap0]) 30 3 (w.heap.size) 0 (by kernel_rfl) (by kernel_rfl) (by kernel_rfl) (fun _ hb => load_rat (UP0.keep hb)) (fun _ _ _ h => h) hS ?_
    refine rg_load 29 (some 59) (.agg #[.slice a1 len1 cap1, .slice b1 ken1 dap1]) 30 4 (w.heap.size + 1) 0 (by kernel_rfl) (by kernel_rfl) (by kernel_rfl) (fun _ hb => load_rat (UP1.keep hb)) (fun _ _ _ h => h) hS ?_
    refine rg_load 30 (some 60) (.agg #[.slice a2 len2 cap2, .slice b2 ken2 dap2]) 30 5 (w.heap.size + 1 + 1) 0 (by kernel_rfl) (by kernel_rfl) (by kernel_rfl) (fun _ hb => load_rat (UP2.keep hb)) (fun _ _ _ h => h) hS ?_
    refine rg_call 27 (some 57) 18 #[.agg #[.slice As Ns Cs, .slice Bs Ms Ds], .agg #[.slice a2 len2 cap2, .slice b2 ken2 dap2]] (by kernel_rfl) (by kernel_rfl) (cAdd Qs.v (Q2.up (C := (8 * 12 + 16)) (by omega)) (by omega)) ?_
    rintro e r6x7 ⟨Ac, Nc, Cc, Bc, Mc, Dc, rfl, Qc, hB⟩
    refine ⟨_, rfl, joinB hS hB, ?_⟩
    replace hS := joinB hS hB
    replace P0 := P0.keep hB
    replace P1 := P1.keep hB
    replace P2 := P2.keep hB
    replace Q0 := Q0.keep hB
    replace Q1 := Q1.keep hB
    replace Q2 := Q2.keep hB
    replace Xs := Xs.keep hB
    replace Xp := Xp.keep hB
    replace Qs := Qs.keep hB
    replace Qp := Qp.keep hB
    replace Qa := Qa.keep hB
    replace Qb := Qb.keep hB
    replace HB := joinB HB hB
    clear hB
    refine rg_call 31 (some 61) 18 #[.agg #[.slice a1 len1 cap1, .slice b1 ken1 dap1], .agg #[.slice a2 len2 cap2, .slice b2 ken2 dap2]] (by kernel_rfl) (by kernel_rfl) (cAdd Q1 Q2 (by omega)) ?_
    rintro e r6x8 ⟨Ad, Nd, Cd, Bd, Md, Dd, rfl, Qd, hB⟩
    refine ⟨_, rfl, joinB hS hB, ?_⟩
    replace hS := joinB hS hB
    replace P0 := P0.keep hB
    replace P1 := P1.keep hB
    replace P2 := P2.keep hB
    replace Q0 := Q0.keep hB
    replace Q1 := Q1.keep hB
    replace Q2 := Q2.keep hB
    replace Xs := Xs.keep hB
    replace Xp := Xp.keep hB
    replace Qs := Qs.keep hB
    replace Qp := Qp.keep hB
    replace Qa := Qa.keep hB
    replace Qb := Qb.keep hB
    replace Qc := Qc.keep hB
    replace HB := joinB HB hB
    clear hB
    refine rg_call 32 (some 62) 18 #[.agg #[.slice a0 len0 cap0, .slice b0 ken0 dap0], .agg #[.slice Ad Nd Cd, .slice Bd Md Dd]] (by kernel_rfl) (by kernel_rfl) (cAdd (Q0.up (C := (8 * 12 + 16)) (by omega)) Qd.v (by omega)) ?_
    rintro e r6x9 ⟨Af, Nf, Cf, Bf, Mf, Df, rfl, Qf, hB⟩
    refine ⟨_, rfl, joinB hS hB, ?_⟩
    replace hS := joinB hS hB
    replace P0 := P0.keep hB
    replace P1 := P1.keep hB
    replace P2 := P2.keep hB
    replace Q0 := Q0.keep hB
    replace Q1 := Q1.keep hB
    replace Q2 := Q2.keep hB
    replace Xs := Xs.keep hB
    replace Xp := Xp.keep hB
    replace Qs := Qs.keep hB
    replace Qp := Qp.keep hB
    replace Qa := Qa.keep hB
    replace Qb := Qb.keep hB
    replace Qc := Qc.keep hB
    replace Qd := Qd.keep hB
    replace HB := joinB HB hB
    clear hB
    refine rg_call 33 (some 63) 16 #[.agg #[.slice Ac Nc Cc, .slice Bc Mc Dc], .agg #[.slice Af Nf Cf, .slice Bf Mf Df]] (by kernel_rfl) (by kernel_rfl) (cSame (Qc.up (C := 100000) (by omega)) (Qf.up (C := 100000) (by omega)) (by omega) true (decide_eq_true (by grind))) ?_
    rintro e r6x10 ⟨rfl, hB⟩
    refine ⟨_, rfl, joinB hS hB, ?_⟩
    replace hS := joinB hS hB
    replace P0 := P0.keep hB
    replace P1 := P1.keep hB
    replace P2 := P2.keep hB
    replace Q0 := Q0.keep hB
    replace Q1 := Q1.keep hB
    replace Q2 := Q2.keep hB
    replace Xs := Xs.keep hB
    replace Xp := Xp.keep hB
    replace Qs := Qs.keep hB
    replace Qp := Qp.keep hB
    replace Qa := Qa.keep hB
    replace Qb := Qb.keep hB
    replace Qc := Qc.keep hB
    replace Qd := Qd.keep hB
    replace Qf := Qf.keep hB
    replace HB := joinB HB hB
    clear hB
    refine rg_take 34 (some 64) (.bool false) (by kernel_rfl) (fun _ _ => by kernel_rfl) (fun _ _ _ h => h) hS ?_
    refine rg_take 35 (some 65) (.bool false) (by kernel_rfl) (fun _ _ => by kernel_rfl) (fun _ _ _ h => h) hS ?_
    refine rg_take 36 (some 66) (.bool false) (by kernel_rfl) (fun _ _ => by kernel_rfl) (fun _ _ _ h => h) hS ?_
    refine rg_load 37 (some 67) (.agg #[.slice a2 len2 cap2, .slice b2 ken2 dap2]) 30 5 (w.heap.size + 1 + 1) 0 (by kernel_rfl) (by kernel_rfl) (by kernel_rfl) (fun _ hb => load_rat (UP2.keep hb)) (fun _ _ _ h => h) hS ?_
    refine rg_load 38 (some 68) (.agg #[.slice As Ns Cs, .slice Bs Ms Ds]) 30 7 (g7) 0 (by kernel_rfl) (by kernel_rfl) (by kernel_rfl) (fun _ hb => load_rat (UXs.keep hb)) (fun _ _ _ h => h) hS ?_
    refine rg_load 40 (some 70) (.agg #[.slice a2 len2 cap2, .slice b2 ken2 dap2]) 30 5 (w.heap.size + 1 + 1) 0 (by kernel_rfl) (by kernel_rfl) (by kernel_rfl) (fun _ hb => load_rat (UP2.keep hb)) (fun _ _ _ h => h) hS ?_
    refine rg_load 41 (some 71) (.agg #[.slice a0 len0 cap0, .slice b0 ken0 dap0]) 30 3 (w.heap.size) 0 (by kernel_rfl) (by kernel_rfl) (by kernel_rfl) (fun _ hb => load_rat (UP0.keep hb)) (fun _ _ _ h => h) hS ?_
    refine rg_load 43 (some 73) (.agg #[.slice a2 len2 cap2, .slice b2 ken2 dap2]) 30 5 (w.heap.size + 1 + 1) 0 (by kernel_rfl) (by kernel_rfl) (by kernel_rfl) (fun _ hb => load_rat (UP2.keep hb)) (fun _ _ _ h => h) hS ?_
    refine rg_load 44 (some 74) (.agg #[.slice a1 len1 cap1, .slice b1 ken1 dap1]) 30 4 (w.heap.size + 1) 0 (by kernel_rfl) (by kernel_rfl) (by kernel_rfl) (fun _ hb => load_rat (UP1.keep hb)) (fun _ _ _ h => h) hS ?_
    refine rg_call 39 (some 69) 25 #[.agg #[.slice a2 len2 cap2, .slice b2 ken2 dap2], .agg #[.slice As Ns Cs, .slice Bs Ms Ds]] (by kernel_rfl) (by kernel_rfl) (cMul (Q2.up (C := (8 * 12 + 16)) (by omega)) Qs.v (by omega)) ?_
    rintro e r6x11 ⟨Ag, Ng, Cg, Bg, Mg, Dg, rfl, Qg, hB⟩
    refine ⟨_, rfl, joinB hS hB, ?_⟩
    replace hS := joinB hS hB
    replace P0 := P0.keep hB
    replace P1 := P1.keep hB
    replace P2 := P2.keep hB
    replace Q0 := Q0.keep hB
    replace Q1 := Q1.keep hB
    replace Q2 := Q2.keep hB
    replace Xs := Xs.keep hB
    replace Xp := Xp.keep hB
    replace Qs := Qs.keep hB
    replace Qp := Qp.keep hB
    replace Qa := Qa.keep hB
    replace Qb := Qb.keep hB
    replace Qc := Qc.keep hB
    replace Qd := Qd.keep hB
    replace Qf := Qf.keep hB
    replace HB := joinB HB hB
    clear hB
    refine rg_call 42 (some 72) 25 #[.agg #[.slice a2 len2 cap2, .slice b2 ken2 dap2], .agg #[.slice a0 len0 cap0, .slice b0 ken0 dap0]] (by kernel_rfl) (by kernel_rfl) (cMul Q2 Q0 (by omega)) ?_
    rintro e r6x12 ⟨Ah, Nh, Ch, Bh, Mh, Dh, rfl, Qh, hB⟩
    refine ⟨_, rfl, joinB hS hB, ?_⟩
    replace hS := joinB hS hB
    replace P0 := P0.keep hB
    replace P1 := P1.keep hB
    replace P2 := P2.keep hB
    replace Q0 := Q0.keep hB
    replace Q1 := Q1.keep hB
    replace Q2 := Q2.keep hB
    replace Xs := Xs.keep hB
    replace Xp := Xp.keep hB
    replace Qs := Qs.keep hB
    replace Qp := Qp.keep hB
    replace Qa := Qa.keep hB
    replace Qb := Qb.keep hB
    replace Qc := Qc.keep hB
    replace Qd := Qd.keep hB
    replace Qf := Qf.keep hB
    replace Qg := Qg.keep hB
    replace HB := joinB HB hB
    clear hB
    refine rg_call 45 (some 75) 25 #[.agg #[.slice a2 len2 cap2, .slice b2 ken2 dap2], .agg #[.slice a1 len1 cap1, .slice b1 ken1 dap1]] (by kernel_rfl) (by kernel_rfl) (cMul Q2 Q1 (by omega)) ?_
    rintro e r6x13 ⟨Ai, Ni, Ci, Bi, Mi, Di, rfl, Qi, hB⟩
    refine ⟨_, rfl, joinB hS hB, ?_⟩
    replace hS := joinB hS hB
    replace P0 := P0.keep hB
    replace P1 := P1.keep hB
    replace P2 := P2.keep hB
    replace Q0 := Q0.keep hB
    replace Q1 := Q1.keep hB
    replace Q2 := Q2.keep hB
    replace Xs := Xs.keep hB
    replace Xp := Xp.keep hB
    replace Qs := Qs.keep hB
    replace Qp := Qp.keep hB
    replace Qa := Qa.keep hB
    replace Qb := Qb.keep hB
    replace Qc := Qc.keep hB
    replace Qd := Qd.keep hB
    replace Qf := Qf.keep hB
    replace Qg := Qg.keep hB
    replace Qh := Qh.keep hB
    replace HB := joinB HB hB
    clear hB
    refine rg_call 46 (some 76) 18 #[.agg #[.slice Ah Nh Ch, .slice Bh Mh Dh], .agg #[.slice Ai Ni Ci, .slice Bi Mi Di]] (by kernel_rfl) (by kernel_rfl) (cAdd Qh.v Qi.v (by omega)) ?_
    rintro e r6x14 ⟨Aj, Nj, Cj, Bj, Mj, Dj, rfl, Qj, hB⟩
    refine ⟨_, rfl, joinB hS hB, ?_⟩
    replace hS := joinB hS hB
    replace P0 := P0.keep hB
    replace P1 := P1.keep hB
    replace P2 := P2.keep hB
    replace Q0 := Q0.keep hB
    replace Q1 := Q1.keep hB
    replace Q2 := Q2.keep hB
    replace Xs := Xs.keep hB
    replace Xp := Xp.keep hB
    replace Qs := Qs.keep hB
    replace Qp := Qp.keep hB
    replace Qa := Qa.keep hB
    replace Qb := Qb.keep hB
    replace Qc := Qc.keep hB
    replace Qd := Qd.keep hB
    replace Qf := Qf.keep hB
    replace Qg := Qg.keep hB
    replace Qh := Qh.keep hB
    replace Qi := Qi.keep hB
    replace HB := joinB HB hB
    clear hB
    refine rg_call 47 (some 77) 16 #[.agg #[.slice Ag Ng Cg, .slice Bg Mg Dg], .agg #[.slice Aj Nj Cj, .slice Bj Mj Dj]] (by kernel_rfl) (by kernel_rfl) (cSame (Qg.up (C := 100000) (by omega)) (Qj.up (C := 100000) (by omega)) (by omega) true (decide_eq_true (by grind))) ?_
    rintro e r6x15 ⟨rfl, hB⟩
    refine ⟨_, rfl, joinB hS hB, ?_⟩
    replace hS := joinB hS hB
    replace P0 := P0.keep hB
    replace P1 := P1.keep hB
    replace P2 := P2.keep hB
    replace Q0 := Q0.keep hB
    replace Q1 := Q1.keep hB
    replace Q2 := Q2.keep hB
    replace Xs := Xs.keep hB
    replace Xp := Xp.keep hB
    replace Qs := Qs.keep hB
    replace Qp := Qp.keep hB
    replace Qa := Qa.keep hB
    replace Qb := Qb.keep hB
    replace Qc := Qc.keep hB
    replace Qd := Qd.keep hB
    replace Qf := Qf.keep hB
    replace Qg := Qg.keep hB
    replace Qh := Qh.keep hB
    replace Qi := Qi.keep hB
    replace Qj := Qj.keep hB
    replace HB := joinB HB hB
    clear hB
    refine rg_take 48 (some 78) (.bool false) (by kernel_rfl) (fun _ _ => by kernel_rfl) (fun _ _ _ h => h) hS ?_
    refine rg_take 49 (some 79) (.bool false) (by kernel_rfl) (fun _ _ => by kernel_rfl) (fun _ _ _ h => h) hS ?_
    refine rg_done (by kernel_rfl) ?_
    clear hS UP0 UP1 UP2 UXs UXp
    try simp only [Act.put, List.setIfInBounds_toArray, List.set_cons_zero, List.set_cons_succ]
    clear Qa Qb Qc Qd Qf Qg Qh Qi Qj P2 Q2
    have hge : p1 * (q0 * q1) ≤ (p0 * q1 + p1 * q0) * q1 := by
      have t1 : (p0 * q1 + p1 * q0) * q1 = p0 * q1 * q1 + p1 * (q0 * q1) := by grind
      have t2 : 0 ≤ p0 * q1 * q1 := Int.mul_nonneg (Int.mul_nonneg hp0 (by omega)) (by omega)
      omega
    obtain ⟨c1P0, c2P0, c3P0, c4P0⟩ := P0.cells2
    obtain ⟨c1P1, c2P1, c3P1, c4P1⟩ := P1.cells2
    obtain ⟨c1Xs, c2Xs, c3Xs, c4Xs⟩ := Xs.cells2
    obtain ⟨c1Xp, c2Xp, c3Xp, c4Xp⟩ := Xp.cells2
    go_wp2_with fail
    refine (cSub Qs.v (Q1.up (C := 8 * 12 + 16) (by omega)) (by omega) hge).mono ?_
    rintro e x2 ⟨Ad, Nd, Cd, Bd, Md, Dd, rfl, Qd, hB⟩
    clear c1P0 c2P0 c3P0 c4P0 c1P1 c2P1 c3P1 c4P1 c1Xs c2Xs c3Xs c4Xs c1Xp c2Xp c3Xp c4Xp
    replace P0 := P0.keep hB
    replace P1 := P1.keep hB
    replace Q0 := Q0.keep hB
    replace Q1 := Q1.keep hB
    replace Xs := Xs.keep hB
    replace Xp := Xp.keep hB
    replace Qs := Qs.keep hB
    replace Qp := Qp.keep hB
    replace HB := joinB HB hB
    clear hB
    clear hge
    have BA := below_alloc x2 (.cells #[.slice Ad Nd Cd, .slice Bd Md Dd] 30)
    have Xd := box_new x2 [.slice Ad Nd Cd, .slice Bd Md Dd] 30
    replace P0 := P0.keep BA
    replace P1 := P1.keep BA
    replace Q0 := Q0.keep BA
    replace Q1 := Q1.keep BA
    replace Xs := Xs.keep BA
    replace Xp := Xp.keep BA
    replace Qs := Qs.keep BA
    replace Qp := Qp.keep BA
    replace Qd := Qd.keep BA
    replace HB := joinB HB BA
    clear BA
    clear Qs Xs
    obtain ⟨c1P0, c2P0, c3P0, c4P0⟩ := P0.cells2
    obtain ⟨c1P1, c2P1, c3P1, c4P1⟩ := P1.cells2
    obtain ⟨c1Xp, c2Xp, c3Xp, c4Xp⟩ := Xp.cells2
    obtain ⟨c1Xd, c2Xd, c3Xd, c4Xd⟩ := Xd.cells2
    go_wp2_with fail
    generalize x2.alloc (.cells #[.slice Ad Nd Cd, .slice Bd Md Dd] 30) = y1 at *
    generalize x2.heap.size = gd at *
    clear c1P0 c2P0 c3P0 c4P0 c1P1 c2P1 c3P1 c4P1 c1Xp c2Xp c3Xp c4Xp c1Xd c2Xd c3Xd c4Xd
    refine rg_mid (X := Nat × Option Addr × Nat × Nat × Option Addr × Nat × Nat × Option Addr × Nat × Nat × Option Addr × Nat × Nat) (fun ⟨g11, An, Nn, Cn, Bn, Mn, Dn, Ao, No, Co, Bo, Mo, Do⟩ => [(some 86, .agg #[.slice a0 len0 cap0, .slice b0 ken0 dap0]), (some 87, .agg #[.slice An Nn Cn, .slice Bn Mn Dn]), (some 88, .agg #[.slice Ao No Co, .slice Bo Mo Do]), (some 11, .pointer (some ⟨g11, 0, none⟩))]) (fun ⟨g11, An, Nn, Cn, Bn, Mn, Dn, Ao, No, Co, Bo, Mo, Do⟩ w' => Box w' g11 [.slice Ao No Co, .slice Bo Mo Do] 30 ∧ y1.heap.size ≤ g11 ∧ QR w' An Nn Cn Bn Mn Dn (0) (1) 12 ∧ QR w' Ao No Co Bo Mo Do (p0 * 1 + 0 * q0) (q0 * 1) (8 * 12 + 16) ∧ Box w' (w.heap.size) [.slice a0 len0 cap0, .slice b0 ken0 dap0] 30 ∧ Box w' (w.heap.size + 1) [.slice a1 len1 cap1, .slice b1 ken1 dap1] 30 ∧ QV w' a0 len0 cap0 b0 ken0 dap0 p0 q0 12 ∧ QV w' a1 len1 cap1 b1 ken1 dap1 p1 q1 12 ∧ Box w' (g8) [.slice Ap Np Cp, .slice Bp Mp Dp] 30 ∧ QR w' Ap Np Cp Bp Mp Dp (p0 * p1) (q0 * q1) (2 * 12 + 2) ∧ QR w' Ad Nd Cd Bd Md Dd ((p0 * q1 + p1 * q0) * q1 - p1 * (q0 * q1)) (q0 * q1 * q1) (4 * (8 * 12 + 16) + 3) ∧ Box w' (gd) [.slice Ad Nd Cd, .slice Bd Md Dd] 30 ∧ Below w.heap.size w w') (fun w' => Below y1.drew.heap.size y1.drew w') (by kernel_rfl) (Below.refl _ _) ?_ ?_
    · replace P0 := P0.drew
      replace P1 := P1.drew
      replace Q0 := Q0.drew
      replace Q1 := Q1.drew
      replace Xp := Xp.drew
      replace Qp := Qp.drew
      replace Qd := Qd.drew
      replace Xd := Xd.drew
      replace HB := HB.drew
      have hBu := HB.size
      have UP0 := P0
      have hP0u := P0.lt
      have UP1 := P1
      have hP1u := P1.lt
      have UXp := Xp
      have hXpu := Xp.lt
      have UXd := Xd
      have hXdu := Xd.lt
      have hS := Below.refl y1.drew.heap.size y1.drew
      refine rg_load 0 (some 86) (.agg #[.slice a0 len0 cap0, .slice b0 ken0 dap0]) 30 3 (w.heap.size) 0 (by kernel_rfl) (by kernel_rfl) (by kernel_rfl) (fun _ hb => load_rat (UP0.keep hb)) (fun _ _ _ h => h) hS ?_
      refine rg_ready [1, 3] (by kernel_rfl) (by simp) ?_
      refine ar_call 1 (some 87) 21 #[.slice none 0 0] (by kernel_rfl) (by kernel_rfl) (cOfNat (B := 12) (natO_nil _).a (by omega) (by omega) (by omega)) ?_ ?_
      · rintro e v9x128 ⟨An, Nn, Cn, Bn, Mn, Dn, rfl, Qn, hB⟩
        refine ⟨_, rfl, joinB hS hB, ?_⟩
        replace hS := joinB hS hB
        replace HB := joinB HB hB
        replace Q0 := Q0.keep hB
        replace Q1 := Q1.keep hB
        replace Qp := Qp.keep hB
        replace Qd := Qd.keep hB
        replace P0 := P0.keep hB
        replace P1 := P1.keep hB
        replace Xp := Xp.keep hB
        replace Xd := Xd.keep hB
        clear hB
        refine rg_ready [2, 3] (by kernel_rfl) (by simp) ?_
        refine ar_call 2 (some 88) 18 #[.agg #[.slice a0 len0 cap0, .slice b0 ken0 dap0], .agg #[.slice An Nn Cn, .slice Bn Mn Dn]] (by kernel_rfl) (by kernel_rfl) (cAdd Q0 Qn.v (by omega)) ?_ ?_
        · rintro e v9x129 ⟨Ao, No, Co, Bo, Mo, Do, rfl, Qo, hB⟩
          refine ⟨_, rfl, joinB hS hB, ?_⟩
          replace hS := joinB hS hB
          replace HB := joinB HB hB
          replace Q0 := Q0.keep hB
          replace Q1 := Q1.keep hB
          replace Qp := Qp.keep hB
          replace Qd := Qd.keep hB
          replace Qn := Qn.keep hB
          replace P0 := P0.keep hB
          replace P1 := P1.keep hB
          replace Xp := Xp.keep hB
          replace Xd := Xd.keep hB
          clear hB
          refine rg_ready [3] (by kernel_rfl) (by simp) ?_
          refine ar_alloc 3 (some 11) 30 [.slice none 0 0, .slice none 0 0] (by kernel_rfl) (by kernel_rfl) ?_ ?_
          · intro v9x130 X11 hB
            refine ⟨joinB hS hB, ?_⟩
            have hX11 := hS.size
            replace hS := joinB hS hB
            replace HB := joinB HB hB
            replace Q0 := Q0.keep hB
            replace Q1 := Q1.keep hB
            replace Qp := Qp.keep hB
            replace Qd := Qd.keep hB
            replace Qn := Qn.keep hB
            replace Qo := Qo.keep hB
            replace P0 := P0.keep hB
            replace P1 := P1.keep hB
            replace Xp := Xp.keep hB
            replace Xd := Xd.keep hB
            clear hB
            refine rg_ready [4] (by kernel_rfl) (by simp) ?_
            refine ar_store 4 30 30 11 88 (v9x129.heap.size) [.slice none 0 0, .slice none 0 0] [.slice Ao No Co, .slice Bo Mo Do] (by kernel_rfl) (by kernel_rfl) (by kernel_rfl) (by kernel_rfl) X11 (by kernel_rfl) rfl (by kernel_rfl) ?_ ?_
            · intro v9x131 Y hw hB
              refine ⟨hS.trans (hB.mono hX11), ?_⟩
              replace HB := HB.trans (hB.mono (Nat.le_trans hBu hX11))
              replace hS := hS.trans (hB.mono hX11)
              replace Q0 := Q0.blk X11 (no_ints2 _ _ _ _ _ _) hw
              replace Q1 := Q1.blk X11 (no_ints2 _ _ _ _ _ _) hw
              replace Qp := Qp.blk X11 (no_ints2 _ _ _ _ _ _) hw
              replace Qd := Qd.blk X11 (no_ints2 _ _ _ _ _ _) hw
              replace Qn := Qn.blk X11 (no_ints2 _ _ _ _ _ _) hw
              replace Qo := Qo.blk X11 (no_ints2 _ _ _ _ _ _) hw
              replace P0 := P0.off (by omega) hw
              replace P1 := P1.off (by omega) hw
              replace Xp := Xp.off (by omega) hw
              replace Xd := Xd.off (by omega) hw
              replace X11 := Y
              clear hB hw
              refine rg_done (by kernel_rfl) ?_
              exact ⟨(v9x129.heap.size, An, Nn, Cn, Bn, Mn, Dn, Ao, No, Co, Bo, Mo, Do), by kernel_rfl, X11, hX11, Qn, Qo, P0, P1, Q0, Q1, Xp, Qp, Qd, Xd, HB⟩
            exact ar_nil
          exact ar_nil
        refine ar_alloc 3 (some 11) 30 [.slice none 0 0, .slice none 0 0] (by kernel_rfl) (by kernel_rfl) ?_ ?_
        · intro v9x132 X11 hB
          refine ⟨joinB hS hB, ?_⟩
          have hX11 := hS.size
          replace hS := joinB hS hB
          replace HB := joinB HB hB
          replace Q0 := Q0.keep hB
          replace Q1 := Q1.keep hB
          replace Qp := Qp.keep hB
          replace Qd := Qd.keep hB
          replace Qn := Qn.keep hB
          replace P0 := P0.keep hB
          replace P1 := P1.keep hB
          replace Xp := Xp.keep hB
          replace Xd := Xd.keep hB
          clear hB
          refine rg_ready [2] (by kernel_rfl) (by simp) ?_
          refine ar_call 2 (some 88) 18 #[.agg #[.slice a0 len0 cap0, .slice b0 ken0 dap0], .agg #[.slice An Nn Cn, .slice Bn Mn Dn]] (by kernel_rfl) (by kernel_rfl) (cAdd Q0 Qn.v (by omega)) ?_ ?_
          · rintro e v9x133 ⟨Ao, No, Co, Bo, Mo, Do, rfl, Qo, hB⟩
            refine ⟨_, rfl, joinB hS hB, ?_⟩
            replace hS := joinB hS hB
            replace HB := joinB HB hB
            replace Q0 := Q0.keep hB
            replace Q1 := Q1.keep hB
            replace Qp := Qp.keep hB
            replace Qd := Qd.keep hB
            replace Qn := Qn.keep hB
            replace P0 := P0.keep hB
            replace P1 := P1.keep hB
            replace Xp := Xp.keep hB
            replace Xd := Xd.keep hB
            replace X11 := X11.keep hB
            clear hB
            refine rg_ready [4] (by kernel_rfl) (by simp) ?_
            refine ar_store 4 30 30 11 88 (v9x128.heap.size) [.slice none 0 0, .slice none 0 0] [.slice Ao No Co, .slice Bo Mo Do] (by kernel_rfl) (by kernel_rfl) (by kernel_rfl) (by kernel_rfl) X11 (by kernel_rfl) rfl (by kernel_rfl) ?_ ?_
            · intro v9x134 Y hw hB
              refine ⟨hS.trans (hB.mono hX11), ?_⟩
              replace HB := HB.trans (hB.mono (Nat.le_trans hBu hX11))
              replace hS := hS.trans (hB.mono hX11)
              replace Q0 := Q0.blk X11 (no_ints2 _ _ _ _ _ _) hw
              replace Q1 := Q1.blk X11 (no_ints2 _ _ _ _ _ _) hw
              replace Qp := Qp.blk X11 (no_ints2 _ _ _ _ _ _) hw
              replace Qd := Qd.blk X11 (no_ints2 _ _ _ _ _ _) hw
              replace Qn := Qn.blk X11 (no_ints2 _ _ _ _ _ _) hw
              replace Qo := Qo.blk X11 (no_ints2 _ _ _ _ _ _) hw
              replace P0 := P0.off (by omega) hw
              replace P1 := P1.off (by omega) hw
              replace Xp := Xp.off (by omega) hw
              replace Xd := Xd.off (by omega) hw
              replace X11 := Y
              clear hB hw
              refine rg_done (by kernel_rfl) ?_
              exact ⟨(v9x128.heap.size, An, Nn, Cn, Bn, Mn, Dn, Ao, No, Co, Bo, Mo, Do), by kernel_rfl, X11, hX11, Qn, Qo, P0, P1, Q0, Q1, Xp, Qp, Qd, Xd, HB⟩
            exact ar_nil
          exact ar_nil
        exact ar_nil
      refine ar_alloc 3 (some 11) 30 [.slice none 0 0, .slice none 0 0] (by kernel_rfl) (by kernel_rfl) ?_ ?_
      · intro v9x135 X11 hB
        refine ⟨joinB hS hB, ?_⟩
        have hX11 := hS.size
        replace hS := joinB hS hB
        replace HB := joinB HB hB
        replace Q0 := Q0.keep hB
        replace Q1 := Q1.keep hB
        replace Qp := Qp.keep hB
        replace Qd := Qd.keep hB
        replace P0 := P0.keep hB
        replace P1 := P1.keep hB
        replace Xp := Xp.keep hB
        replace Xd := Xd.keep hB
        clear hB
        refine rg_ready [1] (by kernel_rfl) (by simp) ?_
        refine ar_call 1 (some 87) 21 #[.slice none 0 0] (by kernel_rfl) (by kernel_rfl) (cOfNat (B := 12) (natO_nil _).a (by omega) (by omega) (by omega)) ?_ ?_
        · rintro e v9x136 ⟨An, Nn, Cn, Bn, Mn, Dn, rfl, Qn, hB⟩
          refine ⟨_, rfl, joinB hS hB, ?_⟩
          replace hS := joinB hS hB
          replace HB := joinB HB hB
          replace Q0 := Q0.keep hB
          replace Q1 := Q1.keep hB
          replace Qp := Qp.keep hB
          replace Qd := Qd.keep hB
          replace P0 := P0.keep hB
          replace P1 := P1.keep hB
          replace Xp := Xp.keep hB
          replace Xd := Xd.keep hB
          replace X11 := X11.keep hB
          clear hB
          refine rg_ready [2] (by kernel_rfl) (by simp) ?_
          refine ar_call 2 (some 88) 18 #[.agg #[.slice a0 len0 cap0, .slice b0 ken0 dap0], .agg #[.slice An Nn Cn, .slice Bn Mn Dn]] (by kernel_rfl) (by kernel_rfl) (cAdd Q0 Qn.v (by omega)) ?_ ?_
          · rintro e v9x137 ⟨Ao, No, Co, Bo, Mo, Do, rfl, Qo, hB⟩
            refine ⟨_, rfl, joinB hS hB, ?_⟩
            replace hS := joinB hS hB
            replace HB := joinB HB hB
            replace Q0 := Q0.keep hB
            replace Q1 := Q1.keep hB
            replace Qp := Qp.keep hB
            replace Qd := Qd.keep hB
            replace Qn := Qn.keep hB
            replace P0 := P0.keep hB
            replace P1 := P1.keep hB
            replace Xp := Xp.keep hB
            replace Xd := Xd.keep hB
            replace X11 := X11.keep hB
            clear hB
            refine rg_ready [4] (by kernel_rfl) (by simp) ?_
            refine ar_store 4 30 30 11 88 (y1.drew.heap.size) [.slice none 0 0, .slice none 0 0] [.slice Ao No Co, .slice Bo Mo Do] (by kernel_rfl) (by kernel_rfl) (by kernel_rfl) (by kernel_rfl) X11 (by kernel_rfl) rfl (by kernel_rfl) ?_ ?_
            · intro v9x138 Y hw hB
              refine ⟨hS.trans (hB.mono hX11), ?_⟩
              replace HB := HB.trans (hB.mono (Nat.le_trans hBu hX11))
              replace hS := hS.trans (hB.mono hX11)
              replace Q0 := Q0.blk X11 (no_ints2 _ _ _ _ _ _) hw
              replace Q1 := Q1.blk X11 (no_ints2 _ _ _ _ _ _) hw
              replace Qp := Qp.blk X11 (no_ints2 _ _ _ _ _ _) hw
              replace Qd := Qd.blk X11 (no_ints2 _ _ _ _ _ _) hw
              replace Qn := Qn.blk X11 (no_ints2 _ _ _ _ _ _) hw
              replace Qo := Qo.blk X11 (no_ints2 _ _ _ _ _ _) hw
              replace P0 := P0.off (by omega) hw
              replace P1 := P1.off (by omega) hw
              replace Xp := Xp.off (by omega) hw
              replace Xd := Xd.off (by omega) hw
              replace X11 := Y
              clear hB hw
              refine rg_done (by kernel_rfl) ?_
              exact ⟨(y1.drew.heap.size, An, Nn, Cn, Bn, Mn, Dn, Ao, No, Co, Bo, Mo, Do), by kernel_rfl, X11, hX11, Qn, Qo, P0, P1, Q0, Q1, Xp, Qp, Qd, Xd, HB⟩
            exact ar_nil
          exact ar_nil
        exact ar_nil
      exact ar_nil
    · rintro ⟨g11, An, Nn, Cn, Bn, Mn, Dn, Ao, No, Co, Bo, Mo, Do⟩ x3 ⟨Xo, hnXo, Qn, Qo, P0', P1', Q0', Q1', Xp', Qp', Qd', Xd', HBn⟩
      replace P0 := P0'
      clear P0'
      replace P1 := P1'
      clear P1'
      replace Q0 := Q0'
      clear Q0'
      replace Q1 := Q1'
      clear Q1'
      replace Xp := Xp'
      clear Xp'
      replace Qp := Qp'
      clear Qp'
      replace Qd := Qd'
      clear Qd'
      replace Xd := Xd'
      clear Xd'
      replace HB := HBn
      clear HBn
      try simp only [putAll, Act.put, List.setIfInBounds_toArray, List.set_cons_zero, List.set_cons_succ]
      clear Qn
      obtain ⟨c1P0, c2P0, c3P0, c4P0⟩ := P0.cells2
      obtain ⟨c1P1, c2P1, c3P1, c4P1⟩ := P1.cells2
      obtain ⟨c1Xp, c2Xp, c3Xp, c4Xp⟩ := Xp.cells2
      obtain ⟨c1Xd, c2Xd, c3Xd, c4Xd⟩ := Xd.cells2
      obtain ⟨c1Xo, c2Xo, c3Xo, c4Xo⟩ := Xo.cells2
      go_wp2_with fail
      refine (cSame (Qd.up (C := 100000) (by omega)) (Qo.up (C := 100000) (by omega)) (by omega) true (decide_eq_true (by grind))).mono ?_
      rintro e x4 ⟨rfl, hB⟩
      clear c1P0 c2P0 c3P0 c4P0 c1P1 c2P1 c3P1 c4P1 c1Xp c2Xp c3Xp c4Xp c1Xd c2Xd c3Xd c4Xd c1Xo c2Xo c3Xo c4Xo
      replace P0 := P0.keep hB
      replace P1 := P1.keep hB
      replace Q0 := Q0.keep hB
      replace Q1 := Q1.keep hB
      replace Xp := Xp.keep hB
      replace Qp := Qp.keep hB
      replace Qd := Qd.keep hB
      replace Xd := Xd.keep hB
      replace Xo := Xo.keep hB
      replace Qo := Qo.keep hB
      replace HB := joinB HB hB
      clear hB
      clear Qd Xd
      by_cases hz : p1 = 0
      · obtain ⟨c1P0, c2P0, c3P0, c4P0⟩ := P0.cells2
        obtain ⟨c1P1, c2P1, c3P1, c4P1⟩ := P1.cells2
        obtain ⟨c1Xp, c2Xp, c3Xp, c4Xp⟩ := Xp.cells2
        obtain ⟨c1Xo, c2Xo, c3Xo, c4Xo⟩ := Xo.cells2
        go_wp2_with fail
        refine (cQuoZ rfl Q1 (by omega) hz).mono ?_
        rintro e x5 ⟨rfl, hB⟩
        clear c1P0 c2P0 c3P0 c4P0 c1P1 c2P1 c3P1 c4P1 c1Xp c2Xp c3Xp c4Xp c1Xo c2Xo c3Xo c4Xo
        replace P0 := P0.keep hB
        replace P1 := P1.keep hB
        replace Q0 := Q0.keep hB
        replace Q1 := Q1.keep hB
        replace Xp := Xp.keep hB
        replace Qp := Qp.keep hB
        replace Xo := Xo.keep hB
        replace Qo := Qo.keep hB
        replace HB := joinB HB hB
        clear hB
        have BA := below_alloc x5 (.cells #[.slice none 0 0, .slice none 0 0] 30)
        have Xq := box_new x5 [.slice none 0 0, .slice none 0 0] 30
        replace P0 := P0.keep BA
        replace P1 := P1.keep BA
        replace Q0 := Q0.keep BA
        replace Q1 := Q1.keep BA
        replace Xp := Xp.keep BA
        replace Qp := Qp.keep BA
        replace Xo := Xo.keep BA
        replace Qo := Qo.keep BA
        replace HB := joinB HB BA
        clear BA
        obtain ⟨c1P0, c2P0, c3P0, c4P0⟩ := P0.cells2
        obtain ⟨c1P1, c2P1, c3P1, c4P1⟩ := P1.cells2
        obtain ⟨c1Xp, c2Xp, c3Xp, c4Xp⟩ := Xp.cells2
        obtain ⟨c1Xo, c2Xo, c3Xo, c4Xo⟩ := Xo.cells2
        obtain ⟨c1Xq, c2Xq, c3Xq, c4Xq⟩ := Xq.cells2
        go_wp2_with fail
        generalize x5.alloc (.cells #[.slice none 0 0, .slice none 0 0] 30) = y2 at *
        generalize x5.heap.size = gq at *
        refine (cZero Q1 (by omega) true (decide_eq_true hz)).mono ?_
        rintro e x6 ⟨rfl, hB⟩
        clear c1P0 c2P0 c3P0 c4P0 c1P1 c2P1 c3P1 c4P1 c1Xp c2Xp c3Xp c4Xp c1Xo c2Xo c3Xo c4Xo c1Xq c2Xq c3Xq c4Xq
        replace P0 := P0.keep hB
        replace P1 := P1.keep hB
        replace Q0 := Q0.keep hB
        replace Q1 := Q1.keep hB
        replace Xp := Xp.keep hB
        replace Qp := Qp.keep hB
        replace Xo := Xo.keep hB
        replace Qo := Qo.keep hB
        replace Xq := Xq.keep hB
        replace HB := joinB HB hB
        clear hB
        obtain ⟨c1P0, c2P0, c3P0, c4P0⟩ := P0.cells2
        obtain ⟨c1P1, c2P1, c3P1, c4P1⟩ := P1.cells2
        obtain ⟨c1Xp, c2Xp, c3Xp, c4Xp⟩ := Xp.cells2
        obtain ⟨c1Xo, c2Xo, c3Xo, c4Xo⟩ := Xo.cells2
        obtain ⟨c1Xq, c2Xq, c3Xq, c4Xq⟩ := Xq.cells2
        go_wp2
        go_ret
        exact ⟨rfl, HB⟩
      · obtain ⟨c1P0, c2P0, c3P0, c4P0⟩ := P0.cells2
        obtain ⟨c1P1, c2P1, c3P1, c4P1⟩ := P1.cells2
        obtain ⟨c1Xp, c2Xp, c3Xp, c4Xp⟩ := Xp.cells2
        obtain ⟨c1Xo, c2Xo, c3Xo, c4Xo⟩ := Xo.cells2
        go_wp2_with fail
        refine (cQuo Qp.v (Q1.up (C := 2 * 12 + 2) (by omega)) (by omega) hz).mono ?_
        rintro e x5 ⟨Aq, Nq, Cq, Bq, Mq, Dq, rfl, Qq, hB⟩
        clear c1P0 c2P0 c3P0 c4P0 c1P1 c2P1 c3P1 c4P1 c1Xp c2Xp c3Xp c4Xp c1Xo c2Xo c3Xo c4Xo
        replace P0 := P0.keep hB
        replace P1 := P1.keep hB
        replace Q0 := Q0.keep hB
        replace Q1 := Q1.keep hB
        replace Xp := Xp.keep hB
        replace Qp := Qp.keep hB
        replace Xo := Xo.keep hB
        replace Qo := Qo.keep hB
        replace HB := joinB HB hB
        clear hB
        have BA := below_alloc x5 (.cells #[.slice Aq Nq Cq, .slice Bq Mq Dq] 30)
        have Xq := box_new x5 [.slice Aq Nq Cq, .slice Bq Mq Dq] 30
        replace P0 := P0.keep BA
        replace P1 := P1.keep BA
        replace Q0 := Q0.keep BA
        replace Q1 := Q1.keep BA
        replace Xp := Xp.keep BA
        replace Qp := Qp.keep BA
        replace Xo := Xo.keep BA
        replace Qo := Qo.keep BA
        replace Qq := Qq.keep BA
        replace HB := joinB HB BA
        clear BA
        clear Qp Xp
        obtain ⟨c1P0, c2P0, c3P0, c4P0⟩ := P0.cells2
        obtain ⟨c1P1, c2P1, c3P1, c4P1⟩ := P1.cells2
        obtain ⟨c1Xo, c2Xo, c3Xo, c4Xo⟩ := Xo.cells2
        obtain ⟨c1Xq, c2Xq, c3Xq, c4Xq⟩ := Xq.cells2
        go_wp2_with fail
        generalize x5.alloc (.cells #[.slice Aq Nq Cq, .slice Bq Mq Dq] 30) = y2 at *
        generalize x5.heap.size = gq at *
        refine (cZero Q1 (by omega) false (decide_eq_false hz)).mono ?_
        rintro e x6 ⟨rfl, hB⟩
        clear c1P0 c2P0 c3P0 c4P0 c1P1 c2P1 c3P1 c4P1 c1Xo c2Xo c3Xo c4Xo c1Xq c2Xq c3Xq c4Xq
        replace P0 := P0.keep hB
        replace P1 := P1.keep hB
        replace Q0 := Q0.keep hB
        replace Q1 := Q1.keep hB
        replace Xo := Xo.keep hB
        replace Qo := Qo.keep hB
        replace Qq := Qq.keep hB
        replace Xq := Xq.keep hB
        replace HB := joinB HB hB
        clear hB
        rcases Int.lt_trichotomy (p0 * q1) (p1 * q0) with hc | hc | hc
        · have e1 : sgn (p0 * q1) (p1 * q0) = -1 := sgn_lt hc
          obtain ⟨c1P0, c2P0, c3P0, c4P0⟩ := P0.cells2
          obtain ⟨c1P1, c2P1, c3P1, c4P1⟩ := P1.cells2
          obtain ⟨c1Xo, c2Xo, c3Xo, c4Xo⟩ := Xo.cells2
          obtain ⟨c1Xq, c2Xq, c3Xq, c4Xq⟩ := Xq.cells2
          go_wp2_with fail
          refine (cSubLt Q0 Q1 (by omega) hc).mono ?_
          rintro e x7 ⟨rfl, hB⟩
          clear c1P0 c2P0 c3P0 c4P0 c1P1 c2P1 c3P1 c4P1 c1Xo c2Xo c3Xo c4Xo c1Xq c2Xq c3Xq c4Xq
          replace P0 := P0.keep hB
          replace P1 := P1.keep hB
          replace Q0 := Q0.keep hB
          replace Q1 := Q1.keep hB
          replace Xo := Xo.keep hB
          replace Qo := Qo.keep hB
          replace Qq := Qq.keep hB
          replace Xq := Xq.keep hB
          replace HB := joinB HB hB
          clear hB
          have BA := below_alloc x7 (.cells #[.slice none 0 0, .slice none 0 0] 30)
          have Xx := box_new x7 [.slice none 0 0, .slice none 0 0] 30
          replace P0 := P0.keep BA
          replace P1 := P1.keep BA
          replace Q0 := Q0.keep BA
          replace Q1 := Q1.keep BA
          replace Xo := Xo.keep BA
          replace Qo := Qo.keep BA
          replace Qq := Qq.keep BA
          replace Xq := Xq.keep BA
          replace HB := joinB HB BA
          clear BA
          obtain ⟨c1P0, c2P0, c3P0, c4P0⟩ := P0.cells2
          obtain ⟨c1P1, c2P1, c3P1, c4P1⟩ := P1.cells2
          obtain ⟨c1Xo, c2Xo, c3Xo, c4Xo⟩ := Xo.cells2
          obtain ⟨c1Xq, c2Xq, c3Xq, c4Xq⟩ := Xq.cells2
          obtain ⟨c1Xx, c2Xx, c3Xx, c4Xx⟩ := Xx.cells2
          go_wp2_with fail
          clear c1P0 c2P0 c3P0 c4P0 c1P1 c2P1 c3P1 c4P1 c1Xo c2Xo c3Xo c4Xo c1Xq c2Xq c3Xq c4Xq c1Xx c2Xx c3Xx c4Xx
          generalize x7.alloc (.cells #[.slice none 0 0, .slice none 0 0] 30) = y3 at *
          generalize x7.heap.size = gx at *
          refine rg_start (S := fun w' => Below y3.drew.heap.size y3.drew w') (by kernel_rfl) (Below.refl _ _) ?_
          replace P0 := P0.drew
          replace P1 := P1.drew
          replace Q0 := Q0.drew
          replace Q1 := Q1.drew
          replace Xo := Xo.drew
          replace Qo := Qo.drew
          replace Qq := Qq.drew
          replace Xq := Xq.drew
          replace Xx := Xx.drew
          replace HB := HB.drew
          have UP0 := P0
          have UP1 := P1
          have UXo := Xo
          have UXq := Xq
          have UXx := Xx
          have hS := Below.refl y3.drew.heap.size y3.drew
          clear P0 P1 Xo Xq Xx
          refine rg_take 0 (some 113) (.int .i64 0) (by kernel_rfl) (fun _ _ => by kernel_rfl) (fun _ _ _ h => h) hS ?_
          refine rg_take 1 (some 114) (.bool true) (by kernel_rfl) (fun _ _ => by kernel_rfl) (fun _ _ _ h => h) hS ?_
          refine rg_take 2 (some 115) (.bool true) (by kernel_rfl) (fun _ _ => by kernel_rfl) (fun _ _ _ h => h) hS ?_
          refine rg_load 3 (some 116) (.agg #[.slice Aq Nq Cq, .slice Bq Mq Dq]) 30 12 (gq) 0 (by kernel_rfl) (by kernel_rfl) (by kernel_rfl) (fun _ hb => load_rat (UXq.keep hb)) (fun _ _ _ h => h) hS ?_
          refine rg_load 4 (some 117) (.agg #[.slice Ao No Co, .slice Bo Mo Do]) 30 11 (g11) 0 (by kernel_rfl) (by kernel_rfl) (by kernel_rfl) (fun _ hb => load_rat (UXo.keep hb)) (fun _ _ _ h => h) hS ?_
          refine rg_call 5 (some 118) 16 #[.agg #[.slice Aq Nq Cq, .slice Bq Mq Dq], .agg #[.slice Ao No Co, .slice Bo Mo Do]] (by kernel_rfl) (by kernel_rfl) (cSame (Qq.up (C := 100000) (by omega)) (Qo.up (C := 100000) (by omega)) (by omega) true (decide_eq_true (by grind))) ?_
          rintro e r16x1 ⟨rfl, hB⟩
          refine ⟨_, rfl, joinB hS hB, ?_⟩
          replace hS := joinB hS hB
          replace Q0 := Q0.keep hB
          replace Q1 := Q1.keep hB
          replace Qo := Qo.keep hB
          replace Qq := Qq.keep hB
          replace HB := joinB HB hB
          clear hB
          refine rg_take 6 (some 119) (.bool true) (by kernel_rfl) (fun _ _ => by kernel_rfl) (fun _ _ _ h => h) hS ?_
          refine rg_take 7 (some 120) (.bool true) (by kernel_rfl) (fun _ _ => by kernel_rfl) (fun _ _ _ h => h) hS ?_
          refine rg_load 8 (some 121) (.agg #[.slice a0 len0 cap0, .slice b0 ken0 dap0]) 30 3 (w.heap.size) 0 (by kernel_rfl) (by kernel_rfl) (by kernel_rfl) (fun _ hb => load_rat (UP0.keep hb)) (fun _ _ _ h => h) hS ?_
          refine rg_load 9 (some 122) (.agg #[.slice a1 len1 cap1, .slice b1 ken1 dap1]) 30 4 (w.heap.size + 1) 0 (by kernel_rfl) (by kernel_rfl) (by kernel_rfl) (fun _ hb => load_rat (UP1.keep hb)) (fun _ _ _ h => h) hS ?_
          refine rg_take 12 (some 125) (.int .i64 31) (by kernel_rfl) (fun _ _ => by kernel_rfl) (fun _ _ _ h => h) hS ?_
          refine rg_take 13 (some 126) (.bool false) (by kernel_rfl) (fun _ _ => by kernel_rfl) (fun _ _ _ h => h) hS ?_
          refine rg_call 10 (some 123) 19 #[.agg #[.slice a0 len0 cap0, .slice b0 ken0 dap0], .agg #[.slice a1 len1 cap1, .slice b1 ken1 dap1]] (by kernel_rfl) (by kernel_rfl) (cCmp Q0 Q1 (by omega) (-1) e1) ?_
          rintro e r16x2 ⟨rfl, hB⟩
          refine ⟨_, rfl, joinB hS hB, ?_⟩
          replace hS := joinB hS hB
          replace Q0 := Q0.keep hB
          replace Q1 := Q1.keep hB
          replace Qo := Qo.keep hB
          replace Qq := Qq.keep hB
          replace HB := joinB HB hB
          clear hB
          refine rg_take 11 (some 124) (.bool false) (by kernel_rfl) (fun _ _ => by kernel_rfl) (fun _ _ _ h => h) hS ?_
          refine rg_take 14 (some 127) (.bool false) (by kernel_rfl) (fun _ _ => by kernel_rfl) (fun _ _ _ h => h) hS ?_
          refine rg_skip 15 (some 128) (by kernel_rfl) (fun _ _ _ h => h) hS ?_
          refine rg_skip 16 (some 129) (by kernel_rfl) (fun _ _ _ h => h) hS ?_
          refine rg_skip 17 (some 130) (by kernel_rfl) (fun _ _ _ h => h) hS ?_
          refine rg_take 18 (some 131) (.bool false) (by kernel_rfl) (fun _ _ => by kernel_rfl) (fun _ _ _ h => h) hS ?_
          refine rg_take 19 (some 132) (.bool true) (by kernel_rfl) (fun _ _ => by kernel_rfl) (fun _ _ _ h => h) hS ?_
          refine rg_take 20 (some 133) (.bool true) (by kernel_rfl) (fun _ _ => by kernel_rfl) (fun _ _ _ h => h) hS ?_
          refine rg_take 21 (some 134) (.bool true) (by kernel_rfl) (fun _ _ => by kernel_rfl) (fun _ _ _ h => h) hS ?_
          refine rg_load 22 (some 135) (.agg #[.slice a0 len0 cap0, .slice b0 ken0 dap0]) 30 3 (w.heap.size) 0 (by kernel_rfl) (by kernel_rfl) (by kernel_rfl) (fun _ hb => load_rat (UP0.keep hb)) (fun _ _ _ h => h) hS ?_
          refine rg_load 23 (some 136) (.agg #[.slice a1 len1 cap1, .slice b1 ken1 dap1]) 30 4 (w.heap.size + 1) 0 (by kernel_rfl) (by kernel_rfl) (by kernel_rfl) (fun _ hb => load_rat (UP1.keep hb)) (fun _ _ _ h => h) hS ?_
          refine rg_load 26 (some 139) (.agg #[.slice Ao No Co, .slice Bo Mo Do]) 30 11 (g11) 0 (by kernel_rfl) (by kernel_rfl) (by kernel_rfl) (fun _ hb => load_rat (UXo.keep hb)) (fun _ _ _ h => h) hS ?_
          refine rg_load 27 (some 140) (.agg #[.slice a1 len1 cap1, .slice b1 ken1 dap1]) 30 4 (w.heap.size + 1) 0 (by kernel_rfl) (by kernel_rfl) (by kernel_rfl) (fun _ hb => load_rat (UP1.keep hb)) (fun _ _ _ h => h) hS ?_
          refine rg_call 24 (some 137) 19 #[.agg #[.slice a0 len0 cap0, .slice b0 ken0 dap0], .agg #[.slice a1 len1 cap1, .slice b1 ken1 dap1]] (by kernel_rfl) (by kernel_rfl) (cCmp Q0 Q1 (by omega) (-1) e1) ?_
          rintro e r16x3 ⟨rfl, hB⟩
          refine ⟨_, rfl, joinB hS hB, ?_⟩
          replace hS := joinB hS hB
          replace Q0 := Q0.keep hB
          replace Q1 := Q1.keep hB
          replace Qo := Qo.keep hB
          replace Qq := Qq.keep hB
          replace HB := joinB HB hB
          clear hB
          refine rg_take 25 (some 138) (.bool false) (by kernel_rfl) (fun _ _ => by kernel_rfl) (fun _ _ _ h => h) hS ?_
          refine rg_call 28 (some 141) 21 #[.slice none 0 0] (by kernel_rfl) (by kernel_rfl) (cOfNat (B := 12) (natO_nil _).a (by omega) (by omega) (by omega)) ?_
          rintro e r16x4 ⟨Am, Nm, Cm, Bm, Mm, Dm, rfl, Qm, hB⟩
          refine ⟨_, rfl, joinB hS hB, ?_⟩
          replace hS := joinB hS hB
          replace Q0 := Q0.keep hB
          replace Q1 := Q1.keep hB
          replace Qo := Qo.keep hB
          replace Qq := Qq.keep hB
          replace HB := joinB HB hB
          clear hB
          refine rg_call 29 (some 142) 18 #[.agg #[.slice a1 len1 cap1, .slice b1 ken1 dap1], .agg #[.slice Am Nm Cm, .slice Bm Mm Dm]] (by kernel_rfl) (by kernel_rfl) (cAdd Q1 Qm.v (by omega)) ?_
          rintro e r16x5 ⟨Ak, Nk, Ck, Bk, Mk, Dk, rfl, Qk, hB⟩
          refine ⟨_, rfl, joinB hS hB, ?_⟩
          replace hS := joinB hS hB
          replace Q0 := Q0.keep hB
          replace Q1 := Q1.keep hB
          replace Qo := Qo.keep hB
          replace Qq := Qq.keep hB
          replace Qm := Qm.keep hB
          replace HB := joinB HB hB
          clear hB
          refine rg_call 30 (some 143) 16 #[.agg #[.slice Ao No Co, .slice Bo Mo Do], .agg #[.slice Ak Nk Ck, .slice Bk Mk Dk]] (by kernel_rfl) (by kernel_rfl) (cSame (Qo.up (C := 100000) (by omega)) (Qk.up (C := 100000) (by omega)) (by omega) false (decide_eq_false (by simp only [Int.mul_one, Int.zero_mul, Int.add_zero]; omega))) ?_
          rintro e r16x6 ⟨rfl, hB⟩
          refine ⟨_, rfl, joinB hS hB, ?_⟩
          replace hS := joinB hS hB
          replace Q0 := Q0.keep hB
          replace Q1 := Q1.keep hB
          replace Qo := Qo.keep hB
          replace Qq := Qq.keep hB
          replace Qm := Qm.keep hB
          replace Qk := Qk.keep hB
          replace HB := joinB HB hB
          clear hB
          refine rg_take 31 (some 144) (.bool true) (by kernel_rfl) (fun _ _ => by kernel_rfl) (fun _ _ _ h => h) hS ?_
          refine rg_take 32 (some 145) (.bool true) (by kernel_rfl) (fun _ _ => by kernel_rfl) (fun _ _ _ h => h) hS ?_
          refine rg_take 33 (some 6) (.bool true) (by kernel_rfl) (fun _ _ => by kernel_rfl) (fun _ _ _ h => h) hS ?_
          refine rg_done (by kernel_rfl) ?_
          clear hS UP0 UP1 UXo UXq UXx
          try simp only [Act.put, List.setIfInBounds_toArray, List.set_cons_zero, List.set_cons_succ]
          go_wp2
          go_ret
          exact ⟨rfl, HB⟩
        · have e1 : sgn (p0 * q1) (p1 * q0) = 0 := sgn_eq hc
          obtain ⟨c1P0, c2P0, c3P0, c4P0⟩ := P0.cells2
          obtain ⟨c1P1, c2P1, c3P1, c4P1⟩ := P1.cells2
          obtain ⟨c1Xo, c2Xo, c3Xo, c4Xo⟩ := Xo.cells2
          obtain ⟨c1Xq, c2Xq, c3Xq, c4Xq⟩ := Xq.cells2
          go_wp2_with fail
          refine (cSub Q0 Q1 (by omega) (by omega)).mono ?_
          rintro e x7 ⟨Ax, Nx, Cx, Bx, Mx, Dx, rfl, Qx, hB⟩
          clear c1P0 c2P0 c3P0 c4P0 c1P1 c2P1 c3P1 c4P1 c1Xo c2Xo c3Xo c4Xo c1Xq c2Xq c3Xq c4Xq
          replace P0 := P0.keep hB
          replace P1 := P1.keep hB
          replace Q0 := Q0.keep hB
          replace Q1 := Q1.keep hB
          replace Xo := Xo.keep hB
          replace Qo := Qo.keep hB
          replace Qq := Qq.keep hB
          replace Xq := Xq.keep hB
          replace HB := joinB HB hB
          clear hB
          have BA := below_alloc x7 (.cells #[.slice Ax Nx Cx, .slice Bx Mx Dx] 30)
          have Xx := box_new x7 [.slice Ax Nx Cx, .slice Bx Mx Dx] 30
          replace P0 := P0.keep BA
          replace P1 := P1.keep BA
          replace Q0 := Q0.keep BA
          replace Q1 := Q1.keep BA
          replace Xo := Xo.keep BA
          replace Qo := Qo.keep BA
          replace Qq := Qq.keep BA
          replace Xq := Xq.keep BA
          replace Qx := Qx.keep BA
          replace HB := joinB HB BA
          clear BA
          obtain ⟨c1P0, c2P0, c3P0, c4P0⟩ := P0.cells2
          obtain ⟨c1P1, c2P1, c3P1, c4P1⟩ := P1.cells2
          obtain ⟨c1Xo, c2Xo, c3Xo, c4Xo⟩ := Xo.cells2
          obtain ⟨c1Xq, c2Xq, c3Xq, c4Xq⟩ := Xq.cells2
          obtain ⟨c1Xx, c2Xx, c3Xx, c4Xx⟩ := Xx.cells2
          go_wp2_with fail
          clear c1P0 c2P0 c3P0 c4P0 c1P1 c2P1 c3P1 c4P1 c1Xo c2Xo c3Xo c4Xo c1Xq c2Xq c3Xq c4Xq c1Xx c2Xx c3Xx c4Xx
          generalize x7.alloc (.cells #[.slice Ax Nx Cx, .slice Bx Mx Dx] 30) = y3 at *
          generalize x7.heap.size = gx at *
          refine rg_start (S := fun w' => Below y3.drew.heap.size y3.drew w') (by kernel_rfl) (Below.refl _ _) ?_
          replace P0 := P0.drew
          replace P1 := P1.drew
          replace Q0 := Q0.drew
          replace Q1 := Q1.drew
          replace Xo := Xo.drew
          replace Qo := Qo.drew
          replace Qq := Qq.drew
          replace Xq := Xq.drew
          replace Qx := Qx.drew
          replace Xx := Xx.drew
          replace HB := HB.drew
          have UP0 := P0
          have UP1 := P1
          have UXo := Xo
          have UXq := Xq
          have UXx := Xx
          have hS := Below.refl y3.drew.heap.size y3.drew
          clear P0 P1 Xo Xq Xx
          refine rg_take 0 (some 113) (.int .i64 0) (by kernel_rfl) (fun _ _ => by kernel_rfl) (fun _ _ _ h => h) hS ?_
          refine rg_take 1 (some 114) (.bool true) (by kernel_rfl) (fun _ _ => by kernel_rfl) (fun _ _ _ h => h) hS ?_
          refine rg_take 2 (some 115) (.bool true) (by kernel_rfl) (fun _ _ => by kernel_rfl) (fun _ _ _ h => h) hS ?_
          refine rg_load 3 (some 116) (.agg #[.slice Aq Nq Cq, .slice Bq Mq Dq]) 30 12 (gq) 0 (by kernel_rfl) (by kernel_rfl) (by kernel_rfl) (fun _ hb => load_rat (UXq.keep hb)) (fun _ _ _ h => h) hS ?_
          refine rg_load 4 (some 117) (.agg #[.slice Ao No Co, .slice Bo Mo Do]) 30 11 (g11) 0 (by kernel_rfl) (by kernel_rfl) (by kernel_rfl) (fun _ hb => load_rat (UXo.keep hb)) (fun _ _ _ h => h) hS ?_
          refine rg_call 5 (some 118) 16 #[.agg #[.slice Aq Nq Cq, .slice Bq Mq Dq], .agg #[.slice Ao No Co, .slice Bo Mo Do]] (by kernel_rfl) (by kernel_rfl) (cSame (Qq.up (C := 100000) (by omega)) (Qo.up (C := 100000) (by omega)) (by omega) true (decide_eq_true (by grind))) ?_
          rintro e r16x1 ⟨rfl, hB⟩
          refine ⟨_, rfl, joinB hS hB, ?_⟩
          replace hS := joinB hS hB
          replace Q0 := Q0.keep hB
          replace Q1 := Q1.keep hB
          replace Qo := Qo.keep hB
          replace Qq := Qq.keep hB
          replace Qx := Qx.keep hB
          replace HB := joinB HB hB
          clear hB
          refine rg_take 6 (some 119) (.bool true) (by kernel_rfl) (fun _ _ => by kernel_rfl) (fun _ _ _ h => h) hS ?_
          refine rg_take 7 (some 120) (.bool true) (by kernel_rfl) (fun _ _ => by kernel_rfl) (fun _ _ _ h => h) hS ?_
          refine rg_load 8 (some 121) (.agg #[.slice a0 len0 cap0, .slice b0 ken0 dap0]) 30 3 (w.heap.size) 0 (by kernel_rfl) (by kernel_rfl) (by kernel_rfl) (fun _ hb => load_rat (UP0.keep hb)) (fun _ _ _ h => h) hS ?_
          refine rg_load 9 (some 122) (.agg #[.slice a1 len1 cap1, .slice b1 ken1 dap1]) 30 4 (w.heap.size + 1) 0 (by kernel_rfl) (by kernel_rfl) (by kernel_rfl) (fun _ hb => load_rat (UP1.keep hb)) (fun _ _ _ h => h) hS ?_
          refine rg_take 12 (some 125) (.int .i64 0) (by kernel_rfl) (fun _ _ => by kernel_rfl) (fun _ _ _ h => h) hS ?_
          refine rg_take 13 (some 126) (.bool true) (by kernel_rfl) (fun _ _ => by kernel_rfl) (fun _ _ _ h => h) hS ?_
          refine rg_call 10 (some 123) 19 #[.agg #[.slice a0 len0 cap0, .slice b0 ken0 dap0], .agg #[.slice a1 len1 cap1, .slice b1 ken1 dap1]] (by kernel_rfl) (by kernel_rfl) (cCmp Q0 Q1 (by omega) (0) e1) ?_
          rintro e r16x2 ⟨rfl, hB⟩
          refine ⟨_, rfl, joinB hS hB, ?_⟩
          replace hS := joinB hS hB
          replace Q0 := Q0.keep hB
          replace Q1 := Q1.keep hB
          replace Qo := Qo.keep hB
          replace Qq := Qq.keep hB
          replace Qx := Qx.keep hB
          replace HB := joinB HB hB
          clear hB
          refine rg_take 11 (some 124) (.bool false) (by kernel_rfl) (fun _ _ => by kernel_rfl) (fun _ _ _ h => h) hS ?_
          refine rg_take 14 (some 127) (.bool true) (by kernel_rfl) (fun _ _ => by kernel_rfl) (fun _ _ _ h => h) hS ?_
          refine rg_load 15 (some 128) (.agg #[.slice Ax Nx Cx, .slice Bx Mx Dx]) 30 14 (gx) 0 (by kernel_rfl) (by kernel_rfl) (by kernel_rfl) (fun _ hb => load_rat (UXx.keep hb)) (fun _ _ _ h => h) hS ?_
          refine rg_call 16 (some 129) 24 #[.agg #[.slice Ax Nx Cx, .slice Bx Mx Dx]] (by kernel_rfl) (by kernel_rfl) (cZero Qx.v (by omega) true (decide_eq_true (by omega))) ?_
          rintro e r16x3 ⟨rfl, hB⟩
          refine ⟨_, rfl, joinB hS hB, ?_⟩
          replace hS := joinB hS hB
          replace Q0 := Q0.keep hB
          replace Q1 := Q1.keep hB
          replace Qo := Qo.keep hB
          replace Qq := Qq.keep hB
          replace Qx := Qx.keep hB
          replace HB := joinB HB hB
          clear hB
          refine rg_take 17 (some 130) (.bool false) (by kernel_rfl) (fun _ _ => by kernel_rfl) (fun _ _ _ h => h) hS ?_
          refine rg_take 18 (some 131) (.bool false) (by kernel_rfl) (fun _ _ => by kernel_rfl) (fun _ _ _ h => h) hS ?_
          refine rg_take 19 (some 132) (.bool true) (by kernel_rfl) (fun _ _ => by kernel_rfl) (fun _ _ _ h => h) hS ?_
          refine rg_take 20 (some 133) (.bool true) (by kernel_rfl) (fun _ _ => by kernel_rfl) (fun _ _ _ h => h) hS ?_
          refine rg_take 21 (some 134) (.bool true) (by kernel_rfl) (fun _ _ => by kernel_rfl) (fun _ _ _ h => h) hS ?_
          refine rg_load 22 (some 135) (.agg #[.slice a0 len0 cap0, .slice b0 ken0 dap0]) 30 3 (w.heap.size) 0 (by kernel_rfl) (by kernel_rfl) (by kernel_rfl) (fun _ hb => load_rat (UP0.keep hb)) (fun _ _ _ h => h) hS ?_
          refine rg_load 23 (some 136) (.agg #[.slice a1 len1 cap1, .slice b1 ken1 dap1]) 30 4 (w.heap.size + 1) 0 (by kernel_rfl) (by kernel_rfl) (by kernel_rfl) (fun _ hb => load_rat (UP1.keep hb)) (fun _ _ _ h => h) hS ?_
          refine rg_load 26 (some 139) (.agg #[.slice Ao No Co, .slice Bo Mo Do]) 30 11 (g11) 0 (by kernel_rfl) (by kernel_rfl) (by kernel_rfl) (fun _ hb => load_rat (UXo.keep hb)) (fun _ _ _ h => h) hS ?_
          refine rg_load 27 (some 140) (.agg #[.slice a1 len1 cap1, .slice b1 ken1 dap1]) 30 4 (w.heap.size + 1) 0 (by kernel_rfl) (by kernel_rfl) (by kernel_rfl) (fun _ hb => load_rat (UP1.keep hb)) (fun _ _ _ h => h) hS ?_
          refine rg_call 24 (some 137) 19 #[.agg #[.slice a0 len0 cap0, .slice b0 ken0 dap0], .agg #[.slice a1 len1 cap1, .slice b1 ken1 dap1]] (by kernel_rfl) (by kernel_rfl) (cCmp Q0 Q1 (by omega) (0) e1) ?_
          rintro e r16x4 ⟨rfl, hB⟩
          refine ⟨_, rfl, joinB hS hB, ?_⟩
          replace hS := joinB hS hB
          replace Q0 := Q0.keep hB
          replace Q1 := Q1.keep hB
          replace Qo := Qo.keep hB
          replace Qq := Qq.keep hB
          replace Qx := Qx.keep hB
          replace HB := joinB HB hB
          clear hB
          refine rg_take 25 (some 138) (.bool true) (by kernel_rfl) (fun _ _ => by kernel_rfl) (fun _ _ _ h => h) hS ?_
          refine rg_call 28 (some 141) 21 #[.slice none 0 0] (by kernel_rfl) (by kernel_rfl) (cOfNat (B := 12) (natO_nil _).a (by omega) (by omega) (by omega)) ?_
          rintro e r16x5 ⟨Am, Nm, Cm, Bm, Mm, Dm, rfl, Qm, hB⟩
          refine ⟨_, rfl, joinB hS hB, ?_⟩
          replace hS := joinB hS hB
          replace Q0 := Q0.keep hB
          replace Q1 := Q1.keep hB
          replace Qo := Qo.keep hB
          replace Qq := Qq.keep hB
          replace Qx := Qx.keep hB
          replace HB := joinB HB hB
          clear hB
          refine rg_call 29 (some 142) 18 #[.agg #[.slice a1 len1 cap1, .slice b1 ken1 dap1], .agg #[.slice Am Nm Cm, .slice Bm Mm Dm]] (by kernel_rfl) (by kernel_rfl) (cAdd Q1 Qm.v (by omega)) ?_
          rintro e r16x6 ⟨Ak, Nk, Ck, Bk, Mk, Dk, rfl, Qk, hB⟩
          refine ⟨_, rfl, joinB hS hB, ?_⟩
          replace hS := joinB hS hB
          replace Q0 := Q0.keep hB
          replace Q1 := Q1.keep hB
          replace Qo := Qo.keep hB
          replace Qq := Qq.keep hB
          replace Qx := Qx.keep hB
          replace Qm := Qm.keep hB
          replace HB := joinB HB hB
          clear hB
          refine rg_call 30 (some 143) 16 #[.agg #[.slice Ao No Co, .slice Bo Mo Do], .agg #[.slice Ak Nk Ck, .slice Bk Mk Dk]] (by kernel_rfl) (by kernel_rfl) (cSame (Qo.up (C := 100000) (by omega)) (Qk.up (C := 100000) (by omega)) (by omega) true (decide_eq_true (by simp only [Int.mul_one, Int.zero_mul, Int.add_zero]; omega))) ?_
          rintro e r16x7 ⟨rfl, hB⟩
          refine ⟨_, rfl, joinB hS hB, ?_⟩
          replace hS := joinB hS hB
          replace Q0 := Q0.keep hB
          replace Q1 := Q1.keep hB
          replace Qo := Qo.keep hB
          replace Qq := Qq.keep hB
          replace Qx := Qx.keep hB
          replace Qm := Qm.keep hB
          replace Qk := Qk.keep hB
          replace HB := joinB HB hB
          clear hB
          refine rg_take 31 (some 144) (.bool true) (by kernel_rfl) (fun _ _ => by kernel_rfl) (fun _ _ _ h => h) hS ?_
          refine rg_take 32 (some 145) (.bool true) (by kernel_rfl) (fun _ _ => by kernel_rfl) (fun _ _ _ h => h) hS ?_
          refine rg_take 33 (some 6) (.bool true) (by kernel_rfl) (fun _ _ => by kernel_rfl) (fun _ _ _ h => h) hS ?_
          refine rg_done (by kernel_rfl) ?_
          clear hS UP0 UP1 UXo UXq UXx
          try simp only [Act.put, List.setIfInBounds_toArray, List.set_cons_zero, List.set_cons_succ]
          go_wp2
          go_ret
          exact ⟨rfl, HB⟩
        · have e1 : sgn (p0 * q1) (p1 * q0) = 1 := sgn_gt hc
          obtain ⟨c1P0, c2P0, c3P0, c4P0⟩ := P0.cells2
          obtain ⟨c1P1, c2P1, c3P1, c4P1⟩ := P1.cells2
          obtain ⟨c1Xo, c2Xo, c3Xo, c4Xo⟩ := Xo.cells2
          obtain ⟨c1Xq, c2Xq, c3Xq, c4Xq⟩ := Xq.cells2
          go_wp2_with fail
          refine (cSub Q0 Q1 (by omega) (by omega)).mono ?_
          rintro e x7 ⟨Ax, Nx, Cx, Bx, Mx, Dx, rfl, Qx, hB⟩
          clear c1P0 c2P0 c3P0 c4P0 c1P1 c2P1 c3P1 c4P1 c1Xo c2Xo c3Xo c4Xo c1Xq c2Xq c3Xq c4Xq
          replace P0 := P0.keep hB
          replace P1 := P1.keep hB
          replace Q0 := Q0.keep hB
          replace Q1 := Q1.keep hB
          replace Xo := Xo.keep hB
          replace Qo := Qo.keep hB
          replace Qq := Qq.keep hB
          replace Xq := Xq.keep hB
          replace HB := joinB HB hB
          clear hB
          have BA := below_alloc x7 (.cells #[.slice Ax Nx Cx, .slice Bx Mx Dx] 30)
          have Xx := box_new x7 [.slice Ax Nx Cx, .slice Bx Mx Dx] 30
          replace P0 := P0.keep BA
          replace P1 := P1.keep BA
          replace Q0 := Q0.keep BA
          replace Q1 := Q1.keep BA
          replace Xo := Xo.keep BA
          replace Qo := Qo.keep BA
          replace Qq := Qq.keep BA
          replace Xq := Xq.keep BA
          replace Qx := Qx.keep BA
          replace HB := joinB HB BA
          clear BA
          obtain ⟨c1P0, c2P0, c3P0, c4P0⟩ := P0.cells2
          obtain ⟨c1P1, c2P1, c3P1, c4P1⟩ := P1.cells2
          obtain ⟨c1Xo, c2Xo, c3Xo, c4Xo⟩ := Xo.cells2
          obtain ⟨c1Xq, c2Xq, c3Xq, c4Xq⟩ := Xq.cells2
          obtain ⟨c1Xx, c2Xx, c3Xx, c4Xx⟩ := Xx.cells2
          go_wp2_with fail
          clear c1P0 c2P0 c3P0 c4P0 c1P1 c2P1 c3P1 c4P1 c1Xo c2Xo c3Xo c4Xo c1Xq c2Xq c3Xq c4Xq c1Xx c2Xx c3Xx c4Xx
          generalize x7.alloc (.cells #[.slice Ax Nx Cx, .slice Bx Mx Dx] 30) = y3 at *
          generalize x7.heap.size = gx at *
          refine rg_start (S := fun w' => Below y3.drew.heap.size y3.drew w') (by kernel_rfl) (Below.refl _ _) ?_
          replace P0 := P0.drew
          replace P1 := P1.drew
          replace Q0 := Q0.drew
          replace Q1 := Q1.drew
          replace Xo := Xo.drew
          replace Qo := Qo.drew
          replace Qq := Qq.drew
          replace Xq := Xq.drew
          replace Qx := Qx.drew
          replace Xx := Xx.drew
          replace HB := HB.drew
          have UP0 := P0
          have UP1 := P1
          have UXo := Xo
          have UXq := Xq
          have UXx := Xx
          have hS := Below.refl y3.drew.heap.size y3.drew
          clear P0 P1 Xo Xq Xx
          refine rg_take 0 (some 113) (.int .i64 0) (by kernel_rfl) (fun _ _ => by kernel_rfl) (fun _ _ _ h => h) hS ?_
          refine rg_take 1 (some 114) (.bool true) (by kernel_rfl) (fun _ _ => by kernel_rfl) (fun _ _ _ h => h) hS ?_
          refine rg_take 2 (some 115) (.bool true) (by kernel_rfl) (fun _ _ => by kernel_rfl) (fun _ _ _ h => h) hS ?_
          refine rg_load 3 (some 116) (.agg #[.slice Aq Nq Cq, .slice Bq Mq Dq]) 30 12 (gq) 0 (by kernel_rfl) (by kernel_rfl) (by kernel_rfl) (fun _ hb => load_rat (UXq.keep hb)) (fun _ _ _ h => h) hS ?_
          refine rg_load 4 (some 117) (.agg #[.slice Ao No Co, .slice Bo Mo Do]) 30 11 (g11) 0 (by kernel_rfl) (by kernel_rfl) (by kernel_rfl) (fun _ hb => load_rat (UXo.keep hb)) (fun _ _ _ h => h) hS ?_
          refine rg_call 5 (some 118) 16 #[.agg #[.slice Aq Nq Cq, .slice Bq Mq Dq], .agg #[.slice Ao No Co, .slice Bo Mo Do]] (by kernel_rfl) (by kernel_rfl) (cSame (Qq.up (C := 100000) (by omega)) (Qo.up (C := 100000) (by omega)) (by omega) true (decide_eq_true (by grind))) ?_
          rintro e r16x1 ⟨rfl, hB⟩
          refine ⟨_, rfl, joinB hS hB, ?_⟩
          replace hS := joinB hS hB
          replace Q0 := Q0.keep hB
          replace Q1 := Q1.keep hB
          replace Qo := Qo.keep hB
          replace Qq := Qq.keep hB
          replace Qx := Qx.keep hB
          replace HB := joinB HB hB
          clear hB
          refine rg_take 6 (some 119) (.bool true) (by kernel_rfl) (fun _ _ => by kernel_rfl) (fun _ _ _ h => h) hS ?_
          refine rg_take 7 (some 120) (.bool true) (by kernel_rfl) (fun _ _ => by kernel_rfl) (fun _ _ _ h => h) hS ?_
          refine rg_load 8 (some 121) (.agg #[.slice a0 len0 cap0, .slice b0 ken0 dap0]) 30 3 (w.heap.size) 0 (by kernel_rfl) (by kernel_rfl) (by kernel_rfl) (fun _ hb => load_rat (UP0.keep hb)) (fun _ _ _ h => h) hS ?_
          refine rg_load 9 (some 122) (.agg #[.slice a1 len1 cap1, .slice b1 ken1 dap1]) 30 4 (w.heap.size + 1) 0 (by kernel_rfl) (by kernel_rfl) (by kernel_rfl) (fun _ hb => load_rat (UP1.keep hb)) (fun _ _ _ h => h) hS ?_
          refine rg_take 12 (some 125) (.int .i64 0) (by kernel_rfl) (fun _ _ => by kernel_rfl) (fun _ _ _ h => h) hS ?_
          refine rg_take 13 (some 126) (.bool true) (by kernel_rfl) (fun _ _ => by kernel_rfl) (fun _ _ _ h => h) hS ?_
          refine rg_call 10 (some 123) 19 #[.agg #[.slice a0 len0 cap0, .slice b0 ken0 dap0], .agg #[.slice a1 len1 cap1, .slice b1 ken1 dap1]] (by kernel_rfl) (by kernel_rfl) (cCmp Q0 Q1 (by omega) (1) e1) ?_
          rintro e r16x2 ⟨rfl, hB⟩
          refine ⟨_, rfl, joinB hS hB, ?_⟩
          replace hS := joinB hS hB
          replace Q0 := Q0.keep hB
          replace Q1 := Q1.keep hB
          replace Qo := Qo.keep hB
          replace Qq := Qq.keep hB
          replace Qx := Qx.keep hB
          replace HB := joinB HB hB
          clear hB
          refine rg_take 11 (some 124) (.bool true) (by kernel_rfl) (fun _ _ => by kernel_rfl) (fun _ _ _ h => h) hS ?_
          refine rg_take 14 (some 127) (.bool true) (by kernel_rfl) (fun _ _ => by kernel_rfl) (fun _ _ _ h => h) hS ?_
          refine rg_load 15 (some 128) (.agg #[.slice Ax Nx Cx, .slice Bx Mx Dx]) 30 14 (gx) 0 (by kernel_rfl) (by kernel_rfl) (by kernel_rfl) (fun _ hb => load_rat (UXx.keep hb)) (fun _ _ _ h => h) hS ?_
          refine rg_call 16 (some 129) 24 #[.agg #[.slice Ax Nx Cx, .slice Bx Mx Dx]] (by kernel_rfl) (by kernel_rfl) (cZero Qx.v (by omega) false (decide_eq_false (by omega))) ?_
          rintro e r16x3 ⟨rfl, hB⟩
          refine ⟨_, rfl, joinB hS hB, ?_⟩
          replace hS := joinB hS hB
          replace Q0 := Q0.keep hB
          replace Q1 := Q1.keep hB
          replace Qo := Qo.keep hB
          replace Qq := Qq.keep hB
          replace Qx := Qx.keep hB
          replace HB := joinB HB hB
          clear hB
          refine rg_take 17 (some 130) (.bool true) (by kernel_rfl) (fun _ _ => by kernel_rfl) (fun _ _ _ h => h) hS ?_
          refine rg_take 18 (some 131) (.bool true) (by kernel_rfl) (fun _ _ => by kernel_rfl) (fun _ _ _ h => h) hS ?_
          refine rg_take 19 (some 132) (.bool true) (by kernel_rfl) (fun _ _ => by kernel_rfl) (fun _ _ _ h => h) hS ?_
          refine rg_take 20 (some 133) (.bool true) (by kernel_rfl) (fun _ _ => by kernel_rfl) (fun _ _ _ h => h) hS ?_
          refine rg_take 21 (some 134) (.bool true) (by kernel_rfl) (fun _ _ => by kernel_rfl) (fun _ _ _ h => h) hS ?_
          refine rg_load 22 (some 135) (.agg #[.slice a0 len0 cap0, .slice b0 ken0 dap0]) 30 3 (w.heap.size) 0 (by kernel_rfl) (by kernel_rfl) (by kernel_rfl) (fun _ hb => load_rat (UP0.keep hb)) (fun _ _ _ h => h) hS ?_
          refine rg_load 23 (some 136) (.agg #[.slice a1 len1 cap1, .slice b1 ken1 dap1]) 30 4 (w.heap.size + 1) 0 (by kernel_rfl) (by kernel_rfl) (by kernel_rfl) (fun _ hb => load_rat (UP1.keep hb)) (fun _ _ _ h => h) hS ?_
          refine rg_load 26 (some 139) (.agg #[.slice Ao No Co, .slice Bo Mo Do]) 30 11 (g11) 0 (by kernel_rfl) (by kernel_rfl) (by kernel_rfl) (fun _ hb => load_rat (UXo.keep hb)) (fun _ _ _ h => h) hS ?_
          refine rg_load 27 (some 140) (.agg #[.slice a1 len1 cap1, .slice b1 ken1 dap1]) 30 4 (w.heap.size + 1) 0 (by kernel_rfl) (by kernel_rfl) (by kernel_rfl) (fun _ hb => load_rat (UP1.keep hb)) (fun _ _ _ h => h) hS ?_
          refine rg_call 24 (some 137) 19 #[.agg #[.slice a0 len0 cap0, .slice b0 ken0 dap0], .agg #[.slice a1 len1 cap1, .slice b1 ken1 dap1]] (by kernel_rfl) (by kernel_rfl) (cCmp Q0 Q1 (by omega) (1) e1) ?_
          rintro e r16x4 ⟨rfl, hB⟩
          refine ⟨_, rfl, joinB hS hB, ?_⟩
          replace hS := joinB hS hB
          replace Q0 := Q0.keep hB
          replace Q1 := Q1.keep hB
          replace Qo := Qo.keep hB
          replace Qq := Qq.keep hB
          replace Qx := Qx.keep hB
          replace HB := joinB HB hB
          clear hB
          refine rg_take 25 (some 138) (.bool false) (by kernel_rfl) (fun _ _ => by kernel_rfl) (fun _ _ _ h => h) hS ?_
          refine rg_call 28 (some 141) 21 #[.slice none 0 0] (by kernel_rfl) (by kernel_rfl) (cOfNat (B := 12) (natO_nil _).a (by omega) (by omega) (by omega)) ?_
          rintro e r16x5 ⟨Am, Nm, Cm, Bm, Mm, Dm, rfl, Qm, hB⟩
          refine ⟨_, rfl, joinB hS hB, ?_⟩
          replace hS := joinB hS hB
          replace Q0 := Q0.keep hB
          replace Q1 := Q1.keep hB
          replace Qo := Qo.keep hB
          replace Qq := Qq.keep hB
          replace Qx := Qx.keep hB
          replace HB := joinB HB hB
          clear hB
          refine rg_call 29 (some 142) 18 #[.agg #[.slice a1 len1 cap1, .slice b1 ken1 dap1], .agg #[.slice Am Nm Cm, .slice Bm Mm Dm]] (by kernel_rfl) (by kernel_rfl) (cAdd Q1 Qm.v (by omega)) ?_
          rintro e r16x6 ⟨Ak, Nk, Ck, Bk, Mk, Dk, rfl, Qk, hB⟩
          refine ⟨_, rfl, joinB hS hB, ?_⟩
          replace hS := joinB hS hB
          replace Q0 := Q0.keep hB
          replace Q1 := Q1.keep hB
          replace Qo := Qo.keep hB
          replace Qq := Qq.keep hB
          replace Qx := Qx.keep hB
          replace Qm := Qm.keep hB
          replace HB := joinB HB hB
          clear hB
          refine rg_call 30 (some 143) 16 #[.agg #[.slice Ao No Co, .slice Bo Mo Do], .agg #[.slice Ak Nk Ck, .slice Bk Mk Dk]] (by kernel_rfl) (by kernel_rfl) (cSame (Qo.up (C := 100000) (by omega)) (Qk.up (C := 100000) (by omega)) (by omega) false (decide_eq_false (by simp only [Int.mul_one, Int.zero_mul, Int.add_zero]; omega))) ?_
          rintro e r16x7 ⟨rfl, hB⟩
          refine ⟨_, rfl, joinB hS hB, ?_⟩
          replace hS := joinB hS hB
          replace Q0 := Q0.keep hB
          replace Q1 := Q1.keep hB
          replace Qo := Qo.keep hB
          replace Qq := Qq.keep hB
          replace Qx := Qx.keep hB
          replace Qm := Qm.keep hB
          replace Qk := Qk.keep hB
          replace HB := joinB HB hB
          clear hB
          refine rg_take 31 (some 144) (.bool true) (by kernel_rfl) (fun _ _ => by kernel_rfl) (fun _ _ _ h => h) hS ?_
          refine rg_take 32 (some 145) (.bool true) (by kernel_rfl) (fun _ _ => by kernel_rfl) (fun _ _ _ h => h) hS ?_
          refine rg_take 33 (some 6) (.bool true) (by kernel_rfl) (fun _ _ => by kernel_rfl) (fun _ _ _ h => h) hS ?_
          refine rg_done (by kernel_rfl) ?_
          clear hS UP0 UP1 UXo UXq UXx
          try simp only [Act.put, List.setIfInBounds_toArray, List.set_cons_zero, List.set_cons_succ]
          go_wp2
          go_ret
          exact ⟨rfl, HB⟩
end ratLaws
end Go.Proofs.YtjihgkanbhccpaaGreatDoor
