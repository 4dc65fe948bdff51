/- gleanlaw3.RatSums returns true for all fractions. -/
import Derived.Test.YtjihgkanbhccpaaGreatDoorJrc
import Derived.Test.YtjihgkanbhccpaaGreatDoorJrb
namespace Go.Proofs.YtjihgkanbhccpaaGreatDoor
namespace ratSums
open Go.RowKit Lim

set_option maxHeartbeats 16000000 in
set_option maxRecDepth 100000 in
theorem walk (a0 : Option Addr) (len0 cap0 : Nat) (z0 : List Int) (b0 : Option Addr) (ken0 dap0 : Nat) (y0 : List Int) (a1 : Option Addr) (len1 cap1 : Nat) (z1 : List Int) (b1 : Option Addr) (ken1 dap1 : Nat) (y1 : List Int) (w : World) (w0 : IsRow w a0 len0 cap0 z0) (x0 : IsRow w b0 ken0 dap0 y0) (w1 : IsRow w a1 len1 cap1 z1) (x1 : IsRow w b1 ken1 dap1 y1) :
    Calls Tryz.prog 8 #[.agg #[.slice a0 len0 cap0, .slice b0 ken0 dap0], .agg #[.slice a1 len1 cap1, .slice b1 ken1 dap1]] w fun e w' => e = .returned (.bool true) ∧ Below w.heap.size w w' := by
  obtain ⟨g0, o0, l0, hl0, hc0, hm0, W0, h0⟩ := w0.open
  have N0 : NatA w a0 len0 cap0 (val l0) := ⟨g0, o0, l0, hl0, hc0, W0, h0, rfl⟩
  clear h0 w0 W0 hl0
  obtain ⟨g0, o0, k0, hl0, hd0, hk0, W0, h0⟩ := x0.open
  have M0 : NatA w b0 ken0 dap0 (val k0) := ⟨g0, o0, k0, hl0, hd0, W0, h0, rfl⟩
  clear h0 x0 W0 hl0
  obtain ⟨g1, o1, l1, hl1, hc1, hm1, W1, h1⟩ := w1.open
  have N1 : NatA w a1 len1 cap1 (val l1) := ⟨g1, o1, l1, hl1, hc1, W1, h1, rfl⟩
  clear h1 w1 W1 hl1
  obtain ⟨g1, o1, k1, hl1, hd1, hk1, W1, h1⟩ := x1.open
  have M1 : NatA w b1 ken1 dap1 (val k1) := ⟨g1, o1, k1, hl1, hd1, W1, h1, rfl⟩
  clear h1 x1 W1 hl1
  have HB := Below.refl w.heap.size w
  have P0 := box_new (w) [.slice a0 len0 cap0, .slice b0 ken0 dap0] 30
  have BA := below_alloc (w) (.cells #[.slice a0 len0 cap0, .slice b0 ken0 dap0] 30)
  replace N0 := N0.keep BA
  replace M0 := M0.keep BA
  replace N1 := N1.keep BA
  replace M1 := M1.keep BA
  replace HB := joinB HB BA
  clear BA
  have P1 := box_new ((w).alloc (.cells #[.slice a0 len0 cap0, .slice b0 ken0 dap0] 30)) [.slice a1 len1 cap1, .slice b1 ken1 dap1] 30
  rw [show ((w).alloc (.cells #[.slice a0 len0 cap0, .slice b0 ken0 dap0] 30)).heap.size = w.heap.size + 1 by simp] at P1
  have BA := below_alloc ((w).alloc (.cells #[.slice a0 len0 cap0, .slice b0 ken0 dap0] 30)) (.cells #[.slice a1 len1 cap1, .slice b1 ken1 dap1] 30)
  replace N0 := N0.keep BA
  replace M0 := M0.keep BA
  replace N1 := N1.keep BA
  replace M1 := M1.keep BA
  replace P0 := P0.keep BA
  replace HB := joinB HB BA
  clear BA
  go_enter Tryz.func8, Tryz.ntmps8
  go_wp2_with fail
  generalize (w.alloc (.cells #[.slice a0 len0 cap0, .slice b0 ken0 dap0] 30)).alloc (.cells #[.slice a1 len1 cap1, .slice b1 ken1 dap1] 30) = u0 at *
  refine (knownQ u0).mono ?_
  rintro e u1 ⟨rfl, hB⟩
  replace N0 := N0.keep hB
  replace M0 := M0.keep hB
  replace N1 := N1.keep hB
  replace M1 := M1.keep hB
  replace P0 := P0.keep hB
  replace P1 := P1.keep hB
  replace HB := joinB HB hB
  clear hB
  have bS := below_alloc u1 (.cells #[.slice a0 len0 cap0, .slice b0 ken0 dap0, .slice a1 len1 cap1, .slice b1 ken1 dap1] 30)
  have tS := small2 (box_new u1 [.slice a0 len0 cap0, .slice b0 ken0 dap0, .slice a1 len1 cap1, .slice b1 ken1 dap1] 30) hm0 hk0 hm1 hk1
  obtain ⟨c1P0, c2P0, c3P0, c4P0⟩ := P0.cells2
  obtain ⟨c1P1, c2P1, c3P1, c4P1⟩ := P1.cells2
  go_wp2_with fail
  refine tS.mono ?_
  rintro e u2 ⟨rfl, rfl⟩
  clear tS
  clear c1P0 c2P0 c3P0 c4P0 c1P1 c2P1 c3P1 c4P1
  replace N0 := N0.keep bS
  replace M0 := M0.keep bS
  replace N1 := N1.keep bS
  replace M1 := M1.keep bS
  replace P0 := P0.keep bS
  replace P1 := P1.keep bS
  replace HB := joinB HB bS
  clear bS
  generalize u1.alloc (.cells #[.slice a0 len0 cap0, .slice b0 ken0 dap0, .slice a1 len1 cap1, .slice b1 ken1 dap1] 30) = u2 at *
  generalize u1.heap.size = gs at *
  by_cases hsm : len0 ≤ 12 ∧ ken0 ≤ 12 ∧ len1 ≤ 12 ∧ ken1 ≤ 12
  rotate_left
  · rw [decide_eq_false hsm]
    go_wp2
    go_ret
    exact ⟨rfl, HB⟩
  rw [decide_eq_true hsm]
  obtain ⟨hs0, ht0, hs1, ht1⟩ := hsm
  have Q0 := qv_in N0 M0 hs0 ht0
  clear N0 M0 hs0 ht0 hm0 hk0 hc0 hd0
  generalize cn (val l0) (val k0) = p0 at *
  generalize cd (val k0) = q0 at *
  have hq0 := Q0.q0
  have hp0 := Q0.p0
  have Q1 := qv_in N1 M1 hs1 ht1
  clear N1 M1 hs1 ht1 hm1 hk1 hc1 hd1
  generalize cn (val l1) (val k1) = p1 at *
  generalize cd (val k1) = q1 at *
  have hq1 := Q1.q0
  have hp1 := Q1.p0
  rcases Int.lt_or_le (p0 * q1) (p1 * q0) with hc | hc
  · have e1 : sgn (p0 * q1) (p1 * q0) = -1 := sgn_lt hc
    obtain ⟨c1P0, c2P0, c3P0, c4P0⟩ := P0.cells2
    obtain ⟨c1P1, c2P1, c3P1, c4P1⟩ := P1.cells2
    go_wp2_with fail
    refine (cSubLt Q0 Q1 (by omega) hc).mono ?_
    rintro e x1 ⟨rfl, hB⟩
    clear c1P0 c2P0 c3P0 c4P0 c1P1 c2P1 c3P1 c4P1
    replace P0 := P0.keep hB
    replace P1 := P1.keep hB
    replace Q0 := Q0.keep hB
    replace Q1 := Q1.keep hB
    replace HB := joinB HB hB
    clear hB
    have BA := below_alloc x1 (.cells #[.slice none 0 0, .slice none 0 0] 30)
    have Xd := box_new x1 [.slice none 0 0, .slice none 0 0] 30
    replace P0 := P0.keep BA
    replace P1 := P1.keep BA
    replace Q0 := Q0.keep BA
    replace Q1 := Q1.keep BA
    replace HB := joinB HB BA
    clear BA
    obtain ⟨c1P0, c2P0, c3P0, c4P0⟩ := P0.cells2
    obtain ⟨c1P1, c2P1, c3P1, c4P1⟩ := P1.cells2
    obtain ⟨c1Xd, c2Xd, c3Xd, c4Xd⟩ := Xd.cells2
    go_wp2_with fail
    clear c1P0 c2P0 c3P0 c4P0 c1P1 c2P1 c3P1 c4P1 c1Xd c2Xd c3Xd c4Xd
    generalize x1.alloc (.cells #[.slice none 0 0, .slice none 0 0] 30) = y1 at *
    generalize x1.heap.size = gd at *
    refine (tSubLt Q0 Q1 (by omega) hc).mono ?_
    rintro e n2w ⟨rfl, hB⟩
    replace P0 := P0.keep hB
    replace P1 := P1.keep hB
    replace Q0 := Q0.keep hB
    replace Q1 := Q1.keep hB
    replace Xd := Xd.keep hB
    replace HB := joinB HB hB
    clear hB
    have BA := below_alloc n2w (.cells #[.slice none 0 0, .slice none 0 0] 30)
    have Xw := box_new n2w [.slice none 0 0, .slice none 0 0] 30
    replace P0 := P0.keep BA
    replace P1 := P1.keep BA
    replace Q0 := Q0.keep BA
    replace Q1 := Q1.keep BA
    replace Xd := Xd.keep BA
    replace HB := joinB HB BA
    clear BA
    obtain ⟨c1P0, c2P0, c3P0, c4P0⟩ := P0.cells2
    obtain ⟨c1P1, c2P1, c3P1, c4P1⟩ := P1.cells2
    obtain ⟨c1Xd, c2Xd, c3Xd, c4Xd⟩ := Xd.cells2
    obtain ⟨c1Xw, c2Xw, c3Xw, c4Xw⟩ := Xw.cells2
    go_wp2_with fail
    clear c1P0 c2P0 c3P0 c4P0 c1P1 c2P1 c3P1 c4P1 c1Xd c2Xd c3Xd c4Xd c1Xw c2Xw c3Xw c4Xw
    generalize n2w.alloc (.cells #[.slice none 0 0, .slice none 0 0] 30) = y2 at *
    generalize n2w.heap.size = gw at *
    by_cases hz : p1 = 0
    · refine (cQuoZ rfl Q1 (by omega) hz).mono ?_
      rintro e n3w ⟨rfl, hB⟩
      replace P0 := P0.keep hB
      replace P1 := P1.keep hB
      replace Q0 := Q0.keep hB
      replace Q1 := Q1.keep hB
      replace Xd := Xd.keep hB
      replace Xw := Xw.keep hB
      replace HB := joinB HB hB
      clear hB
      have BA := below_alloc n3w (.cells #[.slice none 0 0, .slice none 0 0] 30)
      have Xq := box_new n3w [.slice none 0 0, .slice none 0 0] 30
      replace P0 := P0.keep BA
      replace P1 := P1.keep BA
      replace Q0 := Q0.keep BA
      replace Q1 := Q1.keep BA
      replace Xd := Xd.keep BA
      replace Xw := Xw.keep BA
      replace HB := joinB HB BA
      clear BA
      obtain ⟨c1P0, c2P0, c3P0, c4P0⟩ := P0.cells2
      obtain ⟨c1P1, c2P1, c3P1, c4P1⟩ := P1.cells2
      obtain ⟨c1Xd, c2Xd, c3Xd, c4Xd⟩ := Xd.cells2
      obtain ⟨c1Xw, c2Xw, c3Xw, c4Xw⟩ := Xw.cells2
      obtain ⟨c1Xq, c2Xq, c3Xq, c4Xq⟩ := Xq.cells2
      go_wp2_with fail
      clear c1P0 c2P0 c3P0 c4P0 c1P1 c2P1 c3P1 c4P1 c1Xd c2Xd c3Xd c4Xd c1Xw c2Xw c3Xw c4Xw c1Xq c2Xq c3Xq c4Xq
      generalize n3w.alloc (.cells #[.slice none 0 0, .slice none 0 0] 30) = y3 at *
      generalize n3w.heap.size = gq at *
      refine (tQuoZ Q0 Q1 (by omega) hz).mono ?_
      rintro e n4w ⟨rfl, hB⟩
      replace P0 := P0.keep hB
      replace P1 := P1.keep hB
      replace Q0 := Q0.keep hB
      replace Q1 := Q1.keep hB
      replace Xd := Xd.keep hB
      replace Xw := Xw.keep hB
      replace Xq := Xq.keep hB
      replace HB := joinB HB hB
      clear hB
      have BA := below_alloc n4w (.cells #[.slice none 0 0, .slice none 0 0] 30)
      have Xr := box_new n4w [.slice none 0 0, .slice none 0 0] 30
      replace P0 := P0.keep BA
      replace P1 := P1.keep BA
      replace Q0 := Q0.keep BA
      replace Q1 := Q1.keep BA
      replace Xd := Xd.keep BA
      replace Xw := Xw.keep BA
      replace Xq := Xq.keep BA
      replace HB := joinB HB BA
      clear BA
      obtain ⟨c1P0, c2P0, c3P0, c4P0⟩ := P0.cells2
      obtain ⟨c1P1, c2P1, c3P1, c4P1⟩ := P1.cells2
      obtain ⟨c1Xd, c2Xd, c3Xd, c4Xd⟩ := Xd.cells2
      obtain ⟨c1Xw, c2Xw, c3Xw, c4Xw⟩ := Xw.cells2
      obtain ⟨c1Xq, c2Xq, c3Xq, c4Xq⟩ := Xq.cells2
      obtain ⟨c1Xr, c2Xr, c3Xr, c4Xr⟩ := Xr.cells2
      go_wp2_with fail
      clear c1P0 c2P0 c3P0 c4P0 c1P1 c2P1 c3P1 c4P1 c1Xd c2Xd c3Xd c4Xd c1Xw c2Xw c3Xw c4Xw c1Xq c2Xq c3Xq c4Xq c1Xr c2Xr c3Xr c4Xr
      generalize n4w.alloc (.cells #[.slice none 0 0, .slice none 0 0] 30) = y4 at *
      generalize n4w.heap.size = gr at *
      refine rg_start (S := fun w' => Below y4.drew.heap.size y4.drew w') (by kernel_rfl) (Below.refl _ _) ?_
      replace P0 := P0.drew
      replace P1 := P1.drew
      replace Q0 := Q0.drew
      replace Q1 := Q1.drew
      replace Xd := Xd.drew
      replace Xw := Xw.drew
      replace Xq := Xq.drew
      replace Xr := Xr.drew
      replace HB := HB.drew
      have UP0 := P0
      have UP1 := P1
      have UXd := Xd
      have UXw := Xw
      have UXq := Xq
      have UXr := Xr
      have hS := Below.refl y4.drew.heap.size y4.drew
      clear P0 P1 Xd Xw Xq Xr
      refine rg_load 0 (some 44) (.agg #[.slice a0 len0 cap0, .slice b0 ken0 dap0]) 30 2 (w.heap.size) 0 (by kernel_rfl) (by kernel_rfl) (by kernel_rfl) (fun _ hb => load_rat (UP0.keep hb)) (fun _ _ _ h => h) hS ?_
      refine rg_load 1 (some 45) (.agg #[.slice a1 len1 cap1, .slice b1 ken1 dap1]) 30 3 (w.heap.size + 1) 0 (by kernel_rfl) (by kernel_rfl) (by kernel_rfl) (fun _ hb => load_rat (UP1.keep hb)) (fun _ _ _ h => h) hS ?_
      refine rg_load 3 (some 47) (.agg #[.slice a0 len0 cap0, .slice b0 ken0 dap0]) 30 2 (w.heap.size) 0 (by kernel_rfl) (by kernel_rfl) (by kernel_rfl) (fun _ hb => load_rat (UP0.keep hb)) (fun _ _ _ h => h) hS ?_
      refine rg_load 4 (some 48) (.agg #[.slice a1 len1 cap1, .slice b1 ken1 dap1]) 30 3 (w.heap.size + 1) 0 (by kernel_rfl) (by kernel_rfl) (by kernel_rfl) (fun _ hb => load_rat (UP1.keep hb)) (fun _ _ _ h => h) hS ?_
      refine rg_call 2 (some 46) 19 #[.agg #[.slice a0 len0 cap0, .slice b0 ken0 dap0], .agg #[.slice a1 len1 cap1, .slice b1 ken1 dap1]] (by kernel_rfl) (by kernel_rfl) (cCmp Q0 Q1 (by omega) (-1) e1) ?_
      rintro e r9x1 ⟨rfl, hB⟩
      refine ⟨_, rfl, joinB hS hB, ?_⟩
      replace hS := joinB hS hB
      replace Q0 := Q0.keep hB
      replace Q1 := Q1.keep hB
      replace HB := joinB HB hB
      clear hB
      refine rg_call 5 (some 49) 49 #[.agg #[.slice a0 len0 cap0, .slice b0 ken0 dap0], .agg #[.slice a1 len1 cap1, .slice b1 ken1 dap1]] (by kernel_rfl) (by kernel_rfl) (tCmp Q0 Q1 (by omega) (-1) e1) ?_
      rintro e r9x2 ⟨rfl, hB⟩
      refine ⟨_, rfl, joinB hS hB, ?_⟩
      replace hS := joinB hS hB
      replace Q0 := Q0.keep hB
      replace Q1 := Q1.keep hB
      replace HB := joinB HB hB
      clear hB
      refine rg_take 6 (some 50) (.bool true) (by kernel_rfl) (fun _ _ => by kernel_rfl) (fun _ _ _ h => h) hS ?_
      refine rg_take 7 (some 51) (.bool true) (by kernel_rfl) (fun _ _ => by kernel_rfl) (fun _ _ _ h => h) hS ?_
      refine rg_load 8 (some 52) (.agg #[.slice a0 len0 cap0, .slice b0 ken0 dap0]) 30 2 (w.heap.size) 0 (by kernel_rfl) (by kernel_rfl) (by kernel_rfl) (fun _ hb => load_rat (UP0.keep hb)) (fun _ _ _ h => h) hS ?_
      refine rg_load 9 (some 53) (.agg #[.slice a1 len1 cap1, .slice b1 ken1 dap1]) 30 3 (w.heap.size + 1) 0 (by kernel_rfl) (by kernel_rfl) (by kernel_rfl) (fun _ hb => load_rat (UP1.keep hb)) (fun _ _ _ h => h) hS ?_
      refine rg_load 11 (some 55) (.agg #[.slice a0 len0 cap0, .slice b0 ken0 dap0]) 30 2 (w.heap.size) 0 (by kernel_rfl) (by kernel_rfl) (by kernel_rfl) (fun _ hb => load_rat (UP0.keep hb)) (fun _ _ _ h => h) hS ?_
      refine rg_load 12 (some 56) (.agg #[.slice a1 len1 cap1, .slice b1 ken1 dap1]) 30 3 (w.heap.size + 1) 0 (by kernel_rfl) (by kernel_rfl) (by kernel_rfl) (fun _ hb => load_rat (UP1.keep hb)) (fun _ _ _ h => h) hS ?_
      refine rg_call 10 (some 54) 18 #[.agg #[.slice a0 len0 cap0, .slice b0 ken0 dap0], .agg #[.slice a1 len1 cap1, .slice b1 ken1 dap1]] (by kernel_rfl) (by kernel_rfl) (cAdd Q0 Q1 (by omega)) ?_
      rintro e r9x3 ⟨As, Ns, Cs, Bs, Ms, Ds, rfl, Qs, hB⟩
      refine ⟨_, rfl, joinB hS hB, ?_⟩
      replace hS := joinB hS hB
      replace Q0 := Q0.keep hB
      replace Q1 := Q1.keep hB
      replace HB := joinB HB hB
      clear hB
      refine rg_call 13 (some 57) 50 #[.agg #[.slice a0 len0 cap0, .slice b0 ken0 dap0], .agg #[.slice a1 len1 cap1, .slice b1 ken1 dap1]] (by kernel_rfl) (by kernel_rfl) (tAdd Q0 Q1 (by omega)) ?_
      rintro e r9x4 ⟨At, Nt, Ct, Bt, Mt, Dt, rfl, Qt, hB⟩
      refine ⟨_, rfl, joinB hS hB, ?_⟩
      replace hS := joinB hS hB
      replace Q0 := Q0.keep hB
      replace Q1 := Q1.keep hB
      replace Qs := Qs.keep hB
      replace HB := joinB HB hB
      clear hB
      refine rg_call 14 (some 58) 16 #[.agg #[.slice As Ns Cs, .slice Bs Ms Ds], .agg #[.slice At Nt Ct, .slice Bt Mt Dt]] (by kernel_rfl) (by kernel_rfl) (cSame (Qs.up (C := 100000) (by omega)) (Qt.up (C := 100000) (by omega)) (by omega) true (decide_eq_true rfl)) ?_
      rintro e r9x5 ⟨rfl, hB⟩
      refine ⟨_, rfl, joinB hS hB, ?_⟩
      replace hS := joinB hS hB
      replace Q0 := Q0.keep hB
      replace Q1 := Q1.keep hB
      replace Qs := Qs.keep hB
      replace Qt := Qt.keep hB
      replace HB := joinB HB hB
      clear hB
      refine rg_take 15 (some 59) (.bool true) (by kernel_rfl) (fun _ _ => by kernel_rfl) (fun _ _ _ h => h) hS ?_
      refine rg_take 16 (some 60) (.bool true) (by kernel_rfl) (fun _ _ => by kernel_rfl) (fun _ _ _ h => h) hS ?_
      refine rg_load 17 (some 61) (.agg #[.slice a0 len0 cap0, .slice b0 ken0 dap0]) 30 2 (w.heap.size) 0 (by kernel_rfl) (by kernel_rfl) (by kernel_rfl) (fun _ hb => load_rat (UP0.keep hb)) (fun _ _ _ h => h) hS ?_
      refine rg_load 18 (some 62) (.agg #[.slice a1 len1 cap1, .slice b1 ken1 dap1]) 30 3 (w.heap.size + 1) 0 (by kernel_rfl) (by kernel_rfl) (by kernel_rfl) (fun _ hb => load_rat (UP1.keep hb)) (fun _ _ _ h => h) hS ?_
      refine rg_load 20 (some 64) (.agg #[.slice a0 len0 cap0, .slice b0 ken0 dap0]) 30 2 (w.heap.size) 0 (by kernel_rfl) (by kernel_rfl) (by kernel_rfl) (fun _ hb => load_rat (UP0.keep hb)) (fun _ _ _ h => h) hS ?_
      refine rg_load 21 (some 65) (.agg #[.slice a1 len1 cap1, .slice b1 ken1 dap1]) 30 3 (w.heap.size + 1) 0 (by kernel_rfl) (by kernel_rfl) (by kernel_rfl) (fun _ hb => load_rat (UP1.keep hb)) (fun _ _ _ h => h) hS ?_
      refine rg_call 19 (some 63) 25 #[.agg #[.slice a0 len0 cap0, .slice b0 ken0 dap0], .agg #[.slice a1 len1 cap1, .slice b1 ken1 dap1]] (by kernel_rfl) (by kernel_rfl) (cMul Q0 Q1 (by omega)) ?_
      rintro e r9x6 ⟨Au, Nu, Cu, Bu, Mu, Du, rfl, Qu, hB⟩
      refine ⟨_, rfl, joinB hS hB, ?_⟩
      replace hS := joinB hS hB
      replace Q0 := Q0.keep hB
      replace Q1 := Q1.keep hB
      replace Qs := Qs.keep hB
      replace Qt := Qt.keep hB
      replace HB := joinB HB hB
      clear hB
      refine rg_call 22 (some 66) 51 #[.agg #[.slice a0 len0 cap0, .slice b0 ken0 dap0], .agg #[.slice a1 len1 cap1, .slice b1 ken1 dap1]] (by kernel_rfl) (by kernel_rfl) (tMul Q0 Q1 (by omega)) ?_
      rintro e r9x7 ⟨Av, Nv, Cv, Bv, Mv, Dv, rfl, Qv, hB⟩
      refine ⟨_, rfl, joinB hS hB, ?_⟩
      replace hS := joinB hS hB
      replace Q0 := Q0.keep hB
      replace Q1 := Q1.keep hB
      replace Qs := Qs.keep hB
      replace Qt := Qt.keep hB
      replace Qu := Qu.keep hB
      replace HB := joinB HB hB
      clear hB
      refine rg_call 23 (some 67) 16 #[.agg #[.slice Au Nu Cu, .slice Bu Mu Du], .agg #[.slice Av Nv Cv, .slice Bv Mv Dv]] (by kernel_rfl) (by kernel_rfl) (cSame (Qu.up (C := 100000) (by omega)) (Qv.up (C := 100000) (by omega)) (by omega) true (decide_eq_true rfl)) ?_
      rintro e r9x8 ⟨rfl, hB⟩
      refine ⟨_, rfl, joinB hS hB, ?_⟩
      replace hS := joinB hS hB
      replace Q0 := Q0.keep hB
      replace Q1 := Q1.keep hB
      replace Qs := Qs.keep hB
      replace Qt := Qt.keep hB
      replace Qu := Qu.keep hB
      replace Qv := Qv.keep hB
      replace HB := joinB HB hB
      clear hB
      refine rg_take 24 (some 68) (.bool true) (by kernel_rfl) (fun _ _ => by kernel_rfl) (fun _ _ _ h => h) hS ?_
      refine rg_take 25 (some 69) (.bool true) (by kernel_rfl) (fun _ _ => by kernel_rfl) (fun _ _ _ h => h) hS ?_
      refine rg_load 26 (some 70) (.agg #[.slice none 0 0, .slice none 0 0]) 30 5 (gd) 0 (by kernel_rfl) (by kernel_rfl) (by kernel_rfl) (fun _ hb => load_rat (UXd.keep hb)) (fun _ _ _ h => h) hS ?_
      refine rg_load 27 (some 71) (.agg #[.slice none 0 0, .slice none 0 0]) 30 7 (gw) 0 (by kernel_rfl) (by kernel_rfl) (by kernel_rfl) (fun _ hb => load_rat (UXw.keep hb)) (fun _ _ _ h => h) hS ?_
      refine rg_call 28 (some 72) 16 #[.agg #[.slice none 0 0, .slice none 0 0], .agg #[.slice none 0 0, .slice none 0 0]] (by kernel_rfl) (by kernel_rfl) (qSameT (natO_nil _) (natO_nil _) (by omega) (by omega) (natO_nil _) (natO_nil _) (by omega) (by omega)) ?_
      rintro e r9x9 ⟨rfl, hB⟩
      refine ⟨_, rfl, joinB hS hB, ?_⟩
      replace hS := joinB hS hB
      replace Q0 := Q0.keep hB
      replace Q1 := Q1.keep hB
      replace Qs := Qs.keep hB
      replace Qt := Qt.keep hB
      replace Qu := Qu.keep hB
      replace Qv := Qv.keep hB
      replace HB := joinB HB hB
      clear hB
      refine rg_take 29 (some 73) (.bool true) (by kernel_rfl) (fun _ _ => by kernel_rfl) (fun _ _ _ h => h) hS ?_
      refine rg_take 30 (some 74) (.bool true) (by kernel_rfl) (fun _ _ => by kernel_rfl) (fun _ _ _ h => h) hS ?_
      refine rg_take 31 (some 75) (.int .i64 31) (by kernel_rfl) (fun _ _ => by kernel_rfl) (fun _ _ _ h => h) hS ?_
      refine rg_take 32 (some 76) (.int .i64 31) (by kernel_rfl) (fun _ _ => by kernel_rfl) (fun _ _ _ h => h) hS ?_
      refine rg_take 33 (some 77) (.bool true) (by kernel_rfl) (fun _ _ => by kernel_rfl) (fun _ _ _ h => h) hS ?_
      refine rg_take 34 (some 78) (.bool true) (by kernel_rfl) (fun _ _ => by kernel_rfl) (fun _ _ _ h => h) hS ?_
      refine rg_take 35 (some 79) (.bool true) (by kernel_rfl) (fun _ _ => by kernel_rfl) (fun _ _ _ h => h) hS ?_
      refine rg_load 36 (some 80) (.agg #[.slice none 0 0, .slice none 0 0]) 30 9 (gq) 0 (by kernel_rfl) (by kernel_rfl) (by kernel_rfl) (fun _ hb => load_rat (UXq.keep hb)) (fun _ _ _ h => h) hS ?_
      refine rg_load 37 (some 81) (.agg #[.slice none 0 0, .slice none 0 0]) 30 11 (gr) 0 (by kernel_rfl) (by kernel_rfl) (by kernel_rfl) (fun _ hb => load_rat (UXr.keep hb)) (fun _ _ _ h => h) hS ?_
      refine rg_call 38 (some 82) 16 #[.agg #[.slice none 0 0, .slice none 0 0], .agg #[.slice none 0 0, .slice none 0 0]] (by kernel_rfl) (by kernel_rfl) (qSameT (natO_nil _) (natO_nil _) (by omega) (by omega) (natO_nil _) (natO_nil _) (by omega) (by omega)) ?_
      rintro e r9x10 ⟨rfl, hB⟩
      refine ⟨_, rfl, joinB hS hB, ?_⟩
      replace hS := joinB hS hB
      replace Q0 := Q0.keep hB
      replace Q1 := Q1.keep hB
      replace Qs := Qs.keep hB
      replace Qt := Qt.keep hB
      replace Qu := Qu.keep hB
      replace Qv := Qv.keep hB
      replace HB := joinB HB hB
      clear hB
      refine rg_take 39 (some 83) (.bool true) (by kernel_rfl) (fun _ _ => by kernel_rfl) (fun _ _ _ h => h) hS ?_
      refine rg_take 40 (some 84) (.bool true) (by kernel_rfl) (fun _ _ => by kernel_rfl) (fun _ _ _ h => h) hS ?_
      refine rg_take 41 (some 85) (.int .i64 30) (by kernel_rfl) (fun _ _ => by kernel_rfl) (fun _ _ _ h => h) hS ?_
      refine rg_take 42 (some 86) (.int .i64 30) (by kernel_rfl) (fun _ _ => by kernel_rfl) (fun _ _ _ h => h) hS ?_
      refine rg_take 43 (some 87) (.bool true) (by kernel_rfl) (fun _ _ => by kernel_rfl) (fun _ _ _ h => h) hS ?_
      refine rg_take 44 (some 88) (.bool true) (by kernel_rfl) (fun _ _ => by kernel_rfl) (fun _ _ _ h => h) hS ?_
      refine rg_take 45 (some 4) (.bool true) (by kernel_rfl) (fun _ _ => by kernel_rfl) (fun _ _ _ h => h) hS ?_
      refine rg_done (by kernel_rfl) ?_
      clear hS UP0 UP1 UXd UXw UXq UXr
      try simp only [Act.put, List.setIfInBounds_toArray, List.set_cons_zero, List.set_cons_succ]
      go_wp2
      go_ret
      exact ⟨rfl, HB⟩
    · refine (cQuo Q0 Q1 (by omega) hz).mono ?_
      rintro e n3w ⟨Aq, Nq, Cq, Bq, Mq, Dq, rfl, Qq, hB⟩
      replace P0 := P0.keep hB
      replace P1 := P1.keep hB
      replace Q0 := Q0.keep hB
      replace Q1 := Q1.keep hB
      replace Xd := Xd.keep hB
      replace Xw := Xw.keep hB
      replace HB := joinB HB hB
      clear hB
      have BA := below_alloc n3w (.cells #[.slice Aq Nq Cq, .slice Bq Mq Dq] 30)
      have Xq := box_new n3w [.slice Aq Nq Cq, .slice Bq Mq Dq] 30
      replace P0 := P0.keep BA
      replace P1 := P1.keep BA
      replace Q0 := Q0.keep BA
      replace Q1 := Q1.keep BA
      replace Xd := Xd.keep BA
      replace Xw := Xw.keep BA
      replace Qq := Qq.keep BA
      replace HB := joinB HB BA
      clear BA
      obtain ⟨c1P0, c2P0, c3P0, c4P0⟩ := P0.cells2
      obtain ⟨c1P1, c2P1, c3P1, c4P1⟩ := P1.cells2
      obtain ⟨c1Xd, c2Xd, c3Xd, c4Xd⟩ := Xd.cells2
      obtain ⟨c1Xw, c2Xw, c3Xw, c4Xw⟩ := Xw.cells2
      obtain ⟨c1Xq, c2Xq, c3Xq, c4Xq⟩ := Xq.cells2
      go_wp2_with fail
      clear c1P0 c2P0 c3P0 c4P0 c1P1 c2P1 c3P1 c4P1 c1Xd c2Xd c3Xd c4Xd c1Xw c2Xw c3Xw c4Xw c1Xq c2Xq c3Xq c4Xq
      generalize n3w.alloc (.cells #[.slice Aq Nq Cq, .slice Bq Mq Dq] 30) = y3 at *
      generalize n3w.heap.size = gq at *
      refine (tQuo Q0 Q1 (by omega) hz).mono ?_
      rintro e n4w ⟨Ar, Nr, Cr, Br, Mr, Dr, rfl, Qr, hB⟩
      replace P0 := P0.keep hB
      replace P1 := P1.keep hB
      replace Q0 := Q0.keep hB
      replace Q1 := Q1.keep hB
      replace Xd := Xd.keep hB
      replace Xw := Xw.keep hB
      replace Qq := Qq.keep hB
      replace Xq := Xq.keep hB
      replace HB := joinB HB hB
      clear hB
      have BA := below_alloc n4w (.cells #[.slice Ar Nr Cr, .slice Br Mr Dr] 30)
      have Xr := box_new n4w [.slice Ar Nr Cr, .slice Br Mr Dr] 30
      replace P0 := P0.keep BA
      replace P1 := P1.keep BA
      replace Q0 := Q0.keep BA
      replace Q1 := Q1.keep BA
      replace Xd := Xd.keep BA
      replace Xw := Xw.keep BA
      replace Qq := Qq.keep BA
      replace Xq := Xq.keep BA
      replace Qr := Qr.keep BA
      replace HB := joinB HB BA
      clear BA
      obtain ⟨c1P0, c2P0, c3P0, c4P0⟩ := P0.cells2
      obtain ⟨c1P1, c2P1, c3P1, c4P1⟩ := P1.cells2
      obtain ⟨c1Xd, c2Xd, c3Xd, c4Xd⟩ := Xd.cells2
      obtain ⟨c1Xw, c2Xw, c3Xw, c4Xw⟩ := Xw.cells2
      obtain ⟨c1Xq, c2Xq, c3Xq, c4Xq⟩ := Xq.cells2
      obtain ⟨c1Xr, c2Xr, c3Xr, c4Xr⟩ := Xr.cells2
      go_wp2_with fail
      clear c1P0 c2P0 c3P0 c4P0 c1P1 c2P1 c3P1 c4P1 c1Xd c2Xd c3Xd c4Xd c1Xw c2Xw c3Xw c4Xw c1Xq c2Xq c3Xq c4Xq c1Xr c2Xr c3Xr c4Xr
      generalize n4w.alloc (.cells #[.slice Ar Nr Cr, .slice Br Mr Dr] 30) = y4 at *
      generalize n4w.heap.size = gr at *
      refine rg_start (S := fun w' => Below y4.drew.heap.size y4.drew w') (by kernel_rfl) (Below.refl _ _) ?_
      replace P0 := P0.drew
      replace P1 := P1.drew
      replace Q0 := Q0.drew
      replace Q1 := Q1.drew
      replace Xd := Xd.drew
      replace Xw := Xw.drew
      replace Qq := Qq.drew
      replace Xq := Xq.drew
      replace Qr := Qr.drew
      replace Xr := Xr.drew
      replace HB := HB.drew
      have UP0 := P0
      have UP1 := P1
      have UXd := Xd
      have UXw := Xw
      have UXq := Xq
      have UXr := Xr
      have hS := Below.refl y4.drew.heap.size y4.drew
      clear P0 P1 Xd Xw Xq Xr
      refine rg_load 0 (some 44) (.agg #[.slice a0 len0 cap0, .slice b0 ken0 dap0]) 30 2 (w.heap.size) 0 (by kernel_rfl) (by kernel_rfl) (by kernel_rfl) (fun _ hb => load_rat (UP0.keep hb)) (fun _ _ _ h => h) hS ?_
      refine rg_load 1 (some 45) (.agg #[.slice a1 len1 cap1, .slice b1 ken1 dap1]) 30 3 (w.heap.size + 1) 0 (by kernel_rfl) (by kernel_rfl) (by kernel_rfl) (fun _ hb => load_rat (UP1.keep hb)) (fun _ _ _ h => h) hS ?_
      refine rg_load 3 (some 47) (.agg #[.slice a0 len0 cap0, .slice b0 ken0 dap0]) 30 2 (w.heap.size) 0 (by kernel_rfl) (by kernel_rfl) (by kernel_rfl) (fun _ hb => load_rat (UP0.keep hb)) (fun _ _ _ h => h) hS ?_
      refine rg_load 4 (some 48) (.agg #[.slice a1 len1 cap1, .slice b1 ken1 dap1]) 30 3 (w.heap.size + 1) 0 (by kernel_rfl) (by kernel_rfl) (by kernel_rfl) (fun _ hb => load_rat (UP1.keep hb)) (fun _ _ _ h => h) hS ?_
      refine rg_call 2 (some 46) 19 #[.agg #[.slice a0 len0 cap0, .slice b0 ken0 dap0], .agg #[.slice a1 len1 cap1, .slice b1 ken1 dap1]] (by kernel_rfl) (by kernel_rfl) (cCmp Q0 Q1 (by omega) (-1) e1) ?_
      rintro e r9x1 ⟨rfl, hB⟩
      refine ⟨_, rfl, joinB hS hB, ?_⟩
      replace hS := joinB hS hB
      replace Q0 := Q0.keep hB
      replace Q1 := Q1.keep hB
      replace Qq := Qq.keep hB
      replace Qr := Qr.keep hB
      replace HB := joinB HB hB
      clear hB
      refine rg_call 5 (some 49) 49 #[.agg #[.slice a0 len0 cap0, .slice b0 ken0 dap0], .agg #[.slice a1 len1 cap1, .slice b1 ken1 dap1]] (by kernel_rfl) (by kernel_rfl) (tCmp Q0 Q1 (by omega) (-1) e1) ?_
      rintro e r9x2 ⟨rfl, hB⟩
      refine ⟨_, rfl, joinB hS hB, ?_⟩
      replace hS := joinB hS hB
      replace Q0 := Q0.keep hB
      replace Q1 := Q1.keep hB
      replace Qq := Qq.keep hB
      replace Qr := Qr.keep hB
      replace HB := joinB HB hB
      clear hB
      refine rg_take 6 (some 50) (.bool true) (by kernel_rfl) (fun _ _ => by kernel_rfl) (fun _ _ _ h => h) hS ?_
      refine rg_take 7 (some 51) (.bool true) (by kernel_rfl) (fun _ _ => by kernel_rfl) (fun _ _ _ h => h) hS ?_
      refine rg_load 8 (some 52) (.agg #[.slice a0 len0 cap0, .slice b0 ken0 dap0]) 30 2 (w.heap.size) 0 (by kernel_rfl) (by kernel_rfl) (by kernel_rfl) (fun _ hb => load_rat (UP0.keep hb)) (fun _ _ _ h => h) hS ?_
      refine rg_load 9 (some 53) (.agg #[.slice a1 len1 cap1, .slice b1 ken1 dap1]) 30 3 (w.heap.size + 1) 0 (by kernel_rfl) (by kernel_rfl) (by kernel_rfl) (fun _ hb => load_rat (UP1.keep hb)) (fun _ _ _ h => h) hS ?_
      refine rg_load 11 (some 55) (.agg #[.slice a0 len0 cap0, .slice b0 ken0 dap0]) 30 2 (w.heap.size) 0 (by kernel_rfl) (by kernel_rfl) (by kernel_rfl) (fun _ hb => load_rat (UP0.keep hb)) (fun _ _ _ h => h) hS ?_
      refine rg_load 12 (some 56) (.agg #[.slice a1 len1 cap1, .slice b1 ken1 dap1]) 30 3 (w.heap.size + 1) 0 (by kernel_rfl) (by kernel_rfl) (by kernel_rfl) (fun _ hb => load_rat (UP1.keep hb)) (fun _ _ _ h => h) hS ?_
      refine rg_call 10 (some 54) 18 #[.agg #[.slice a0 len0 cap0, .slice b0 ken0 dap0], .agg #[.slice a1 len1 cap1, .slice b1 ken1 dap1]] (by kernel_rfl) (by kernel_rfl) (cAdd Q0 Q1 (by omega)) ?_
      rintro e r9x3 ⟨As, Ns, Cs, Bs, Ms, Ds, rfl, Qs, hB⟩
      refine ⟨_, rfl, joinB hS hB, ?_⟩
      replace hS := joinB hS hB
      replace Q0 := Q0.keep hB
      replace Q1 := Q1.keep hB
      replace Qq := Qq.keep hB
      replace Qr := Qr.keep hB
      replace HB := joinB HB hB
      clear hB
      refine rg_call 13 (some 57) 50 #[.agg #[.slice a0 len0 cap0, .slice b0 ken0 dap0], .agg #[.slice a1 len1 cap1, .slice b1 ken1 dap1]] (by kernel_rfl) (by kernel_rfl) (tAdd Q0 Q1 (by omega)) ?_
      rintro e r9x4 ⟨At, Nt, Ct, Bt, Mt, Dt, rfl, Qt, hB⟩
      refine ⟨_, rfl, joinB hS hB, ?_⟩
      replace hS := joinB hS hB
      replace Q0 := Q0.keep hB
      replace Q1 := Q1.keep hB
      replace Qq := Qq.keep hB
      replace Qr := Qr.keep hB
      replace Qs := Qs.keep hB
      replace HB := joinB HB hB
      clear hB
      refine rg_call 14 (some 58) 16 #[.agg #[.slice As Ns Cs, .slice Bs Ms Ds], .agg #[.slice At Nt Ct, .slice Bt Mt Dt]] (by kernel_rfl) (by kernel_rfl) (cSame (Qs.up (C := 100000) (by omega)) (Qt.up (C := 100000) (by omega)) (by omega) true (decide_eq_true rfl)) ?_
      rintro e r9x5 ⟨rfl, hB⟩
      refine ⟨_, rfl, joinB hS hB, ?_⟩
      replace hS := joinB hS hB
      replace Q0 := Q0.keep hB
      replace Q1 := Q1.keep hB
      replace Qq := Qq.keep hB
      replace Qr := Qr.keep hB
      replace Qs := Qs.keep hB
      replace Qt := Qt.keep hB
      replace HB := joinB HB hB
      clear hB
      refine rg_take 15 (some 59) (.bool true) (by kernel_rfl) (fun _ _ => by kernel_rfl) (fun _ _ _ h => h) hS ?_
      refine rg_take 16 (some 60) (.bool true) (by kernel_rfl) (fun _ _ => by kernel_rfl) (fun _ _ _ h => h) hS ?_
      refine rg_load 17 (some 61) (.agg #[.slice a0 len0 cap0, .slice b0 ken0 dap0]) 30 2 (w.heap.size) 0 (by kernel_rfl) (by kernel_rfl) (by kernel_rfl) (fun _ hb => load_rat (UP0.keep hb)) (fun _ _ _ h => h) hS ?_
      refine rg_load 18 (some 62) (.agg #[.slice a1 len1 cap1, .slice b1 ken1 dap1]) 30 3 (w.heap.size + 1) 0 (by kernel_rfl) (by kernel_rfl) (by kernel_rfl) (fun _ hb => load_rat (UP1.keep hb)) (fun _ _ _ h => h) hS ?_
      refine rg_load 20 (some 64) (.agg #[.slice a0 len0 cap0, .slice b0 ken0 dap0]) 30 2 (w.heap.size) 0 (by kernel_rfl) (by kernel_rfl) (by kernel_rfl) (fun _ hb => load_rat (UP0.keep hb)) (fun _ _ _ h => h) hS ?_
      refine rg_load 21 (some 65) (.agg #[.slice a1 len1 cap1, .slice b1 ken1 dap1]) 30 3 (w.heap.size + 1) 0 (by kernel_rfl) (by kernel_rfl) (by kernel_rfl) (fun _ hb => load_rat (UP1.keep hb)) (fun _ _ _ h => h) hS ?_
      refine rg_call 19 (some 63) 25 #[.agg #[.slice a0 len0 cap0, .slice b0 ken0 dap0], .agg #[.slice a1 len1 cap1, .slice b1 ken1 dap1]] (by kernel_rfl) (by kernel_rfl) (cMul Q0 Q1 (by omega)) ?_
      rintro e r9x6 ⟨Au, Nu, Cu, Bu, Mu, Du, rfl, Qu, hB⟩
      refine ⟨_, rfl, joinB hS hB, ?_⟩
      replace hS := joinB hS hB
      replace Q0 := Q0.keep hB
      replace Q1 := Q1.keep hB
      replace Qq := Qq.keep hB
      replace Qr := Qr.keep hB
      replace Qs := Qs.keep hB
      replace Qt := Qt.keep hB
      replace HB := joinB HB hB
      clear hB
      refine rg_call 22 (some 66) 51 #[.agg #[.slice a0 len0 cap0, .slice b0 ken0 dap0], .agg #[.slice a1 len1 cap1, .slice b1 ken1 dap1]] (by kernel_rfl) (by kernel_rfl) (tMul Q0 Q1 (by omega)) ?_
      rintro e r9x7 ⟨Av, Nv, Cv, Bv, Mv, Dv, rfl, Qv, hB⟩
      refine ⟨_, rfl, joinB hS hB, ?_⟩
      replace hS := joinB hS hB
      replace Q0 := Q0.keep hB
      replace Q1 := Q1.keep hB
      replace Qq := Qq.keep hB
      replace Qr := Qr.keep hB
      replace Qs := Qs.keep hB
      replace Qt := Qt.keep hB
      replace Qu := Qu.keep hB
      replace HB := joinB HB hB
      clear hB
      refine rg_call 23 (some 67) 16 #[.agg #[.slice Au Nu Cu, .slice Bu Mu Du], .agg #[.slice Av Nv Cv, .slice Bv Mv Dv]] (by kernel_rfl) (by kernel_rfl) (cSame (Qu.up (C := 100000) (by omega)) (Qv.up (C := 100000) (by omega)) (by omega) true (decide_eq_true rfl)) ?_
      rintro e r9x8 ⟨rfl, hB⟩
      refine ⟨_, rfl, joinB hS hB, ?_⟩
      replace hS := joinB hS hB
      replace Q0 := Q0.keep hB
      replace Q1 := Q1.keep hB
      replace Qq := Qq.keep hB
      replace Qr := Qr.keep hB
      replace Qs := Qs.keep hB
      replace Qt := Qt.keep hB
      replace Qu := Qu.keep hB
      replace Qv := Qv.keep hB
      replace HB := joinB HB hB
      clear hB
      refine rg_take 24 (some 68) (.bool true) (by kernel_rfl) (fun _ _ => by kernel_rfl) (fun _ _ _ h => h) hS ?_
      refine rg_take 25 (some 69) (.bool true) (by kernel_rfl) (fun _ _ => by kernel_rfl) (fun _ _ _ h => h) hS ?_
      refine rg_load 26 (some 70) (.agg #[.slice none 0 0, .slice none 0 0]) 30 5 (gd) 0 (by kernel_rfl) (by kernel_rfl) (by kernel_rfl) (fun _ hb => load_rat (UXd.keep hb)) (fun _ _ _ h => h) hS ?_
      refine rg_load 27 (some 71) (.agg #[.slice none 0 0, .slice none 0 0]) 30 7 (gw) 0 (by kernel_rfl) (by kernel_rfl) (by kernel_rfl) (fun _ hb => load_rat (UXw.keep hb)) (fun _ _ _ h => h) hS ?_
      refine rg_call 28 (some 72) 16 #[.agg #[.slice none 0 0, .slice none 0 0], .agg #[.slice none 0 0, .slice none 0 0]] (by kernel_rfl) (by kernel_rfl) (qSameT (natO_nil _) (natO_nil _) (by omega) (by omega) (natO_nil _) (natO_nil _) (by omega) (by omega)) ?_
      rintro e r9x9 ⟨rfl, hB⟩
      refine ⟨_, rfl, joinB hS hB, ?_⟩
      replace hS := joinB hS hB
      replace Q0 := Q0.keep hB
      replace Q1 := Q1.keep hB
      replace Qq := Qq.keep hB
      replace Qr := Qr.keep hB
      replace Qs := Qs.keep hB
      replace Qt := Qt.keep hB
      replace Qu := Qu.keep hB
      replace Qv := Qv.keep hB
      replace HB := joinB HB hB
      clear hB
      refine rg_take 29 (some 73) (.bool true) (by kernel_rfl) (fun _ _ => by kernel_rfl) (fun _ _ _ h => h) hS ?_
      refine rg_take 30 (some 74) (.bool true) (by kernel_rfl) (fun _ _ => by kernel_rfl) (fun _ _ _ h => h) hS ?_
      refine rg_take 31 (some 75) (.int .i64 31) (by kernel_rfl) (fun _ _ => by kernel_rfl) (fun _ _ _ h => h) hS ?_
      refine rg_take 32 (some 76) (.int .i64 31) (by kernel_rfl) (fun _ _ => by kernel_rfl) (fun _ _ _ h => h) hS ?_
      refine rg_take 33 (some 77) (.bool true) (by kernel_rfl) (fun _ _ => by kernel_rfl) (fun _ _ _ h => h) hS ?_
      refine rg_take 34 (some 78) (.bool true) (by kernel_rfl) (fun _ _ => by kernel_rfl) (fun _ _ _ h => h) hS ?_
      refine rg_take 35 (some 79) (.bool true) (by kernel_rfl) (fun _ _ => by kernel_rfl) (fun _ _ _ h => h) hS ?_
      refine rg_load 36 (some 80) (.agg #[.slice Aq Nq Cq, .slice Bq Mq Dq]) 30 9 (gq) 0 (by kernel_rfl) (by kernel_rfl) (by kernel_rfl) (fun _ hb => load_rat (UXq.keep hb)) (fun _ _ _ h => h) hS ?_
      refine rg_load 37 (some 81) (.agg #[.slice Ar Nr Cr, .slice Br Mr Dr]) 30 11 (gr) 0 (by kernel_rfl) (by kernel_rfl) (by kernel_rfl) (fun _ hb => load_rat (UXr.keep hb)) (fun _ _ _ h => h) hS ?_
      refine rg_call 38 (some 82) 16 #[.agg #[.slice Aq Nq Cq, .slice Bq Mq Dq], .agg #[.slice Ar Nr Cr, .slice Br Mr Dr]] (by kernel_rfl) (by kernel_rfl) (cSame (Qq.up (C := 100000) (by omega)) (Qr.up (C := 100000) (by omega)) (by omega) true (decide_eq_true rfl)) ?_
      rintro e r9x10 ⟨rfl, hB⟩
      refine ⟨_, rfl, joinB hS hB, ?_⟩
      replace hS := joinB hS hB
      replace Q0 := Q0.keep hB
      replace Q1 := Q1.keep hB
      replace Qq := Qq.keep hB
      replace Qr := Qr.keep hB
      replace Qs := Qs.keep hB
      replace Qt := Qt.keep hB
      replace Qu := Qu.keep hB
      replace Qv := Qv.keep hB
      replace HB := joinB HB hB
      clear hB
      refine rg_take 39 (some 83) (.bool true) (by kernel_rfl) (fun _ _ => by kernel_rfl) (fun _ _ _ h => h) hS ?_
      refine rg_take 40 (some 84) (.bool true) (by kernel_rfl) (fun _ _ => by kernel_rfl) (fun _ _ _ h => h) hS ?_
      refine rg_take 41 (some 85) (.int .i64 0) (by kernel_rfl) (fun _ _ => by kernel_rfl) (fun _ _ _ h => h) hS ?_
      refine rg_take 42 (some 86) (.int .i64 0) (by kernel_rfl) (fun _ _ => by kernel_rfl) (fun _ _ _ h => h) hS ?_
      refine rg_take 43 (some 87) (.bool true) (by kernel_rfl) (fun _ _ => by kernel_rfl) (fun _ _ _ h => h) hS ?_
      refine rg_take 44 (some 88) (.bool true) (by kernel_rfl) (fun _ _ => by kernel_rfl) (fun _ _ _ h => h) hS ?_
      refine rg_take 45 (some 4) (.bool true) (by kernel_rfl) (fun _ _ => by kernel_rfl) (fun _ _ _ h => h) hS ?_
      refine rg_done (by kernel_rfl) ?_
      clear hS UP0 UP1 UXd UXw UXq UXr
      try simp only [Act.put, List.setIfInBounds_toArray, List.set_cons_zero, List.set_cons_succ]
      go_wp2
      go_ret
      exact ⟨rfl, HB⟩
  · obtain ⟨sx, e1⟩ : ∃ s, sgn (p0 * q1) (p1 * q0) = s := ⟨_, rfl⟩
    obtain ⟨c1P0, c2P0, c3P0, c4P0⟩ := P0.cells2
    obtain ⟨c1P1, c2P1, c3P1, c4P1⟩ := P1.cells2
    go_wp2_with fail
    refine (cSub Q0 Q1 (by omega) (by omega)).mono ?_
    rintro e x1 ⟨Ad, Nd, Cd, Bd, Md, Dd, rfl, Qd, hB⟩
    clear c1P0 c2P0 c3P0 c4P0 c1P1 c2P1 c3P1 c4P1
    replace P0 := P0.keep hB
    replace P1 := P1.keep hB
    replace Q0 := Q0.keep hB
    replace Q1 := Q1.keep hB
    replace HB := joinB HB hB
    clear hB
    have BA := below_alloc x1 (.cells #[.slice Ad Nd Cd, .slice Bd Md Dd] 30)
    have Xd := box_new x1 [.slice Ad Nd Cd, .slice Bd Md Dd] 30
    replace P0 := P0.keep BA
    replace P1 := P1.keep BA
    replace Q0 := Q0.keep BA
    replace Q1 := Q1.keep BA
    replace Qd := Qd.keep BA
    replace HB := joinB HB BA
    clear BA
    obtain ⟨c1P0, c2P0, c3P0, c4P0⟩ := P0.cells2
    obtain ⟨c1P1, c2P1, c3P1, c4P1⟩ := P1.cells2
    obtain ⟨c1Xd, c2Xd, c3Xd, c4Xd⟩ := Xd.cells2
    go_wp2_with fail
    clear c1P0 c2P0 c3P0 c4P0 c1P1 c2P1 c3P1 c4P1 c1Xd c2Xd c3Xd c4Xd
    generalize x1.alloc (.cells #[.slice Ad Nd Cd, .slice Bd Md Dd] 30) = y1 at *
    generalize x1.heap.size = gd at *
    refine (tSub Q0 Q1 (by omega) (by omega)).mono ?_
    rintro e n2w ⟨Aw, Nw, Cw, Bw, Mw, Dw, rfl, Qw, hB⟩
    replace P0 := P0.keep hB
    replace P1 := P1.keep hB
    replace Q0 := Q0.keep hB
    replace Q1 := Q1.keep hB
    replace Qd := Qd.keep hB
    replace Xd := Xd.keep hB
    replace HB := joinB HB hB
    clear hB
    have BA := below_alloc n2w (.cells #[.slice Aw Nw Cw, .slice Bw Mw Dw] 30)
    have Xw := box_new n2w [.slice Aw Nw Cw, .slice Bw Mw Dw] 30
    replace P0 := P0.keep BA
    replace P1 := P1.keep BA
    replace Q0 := Q0.keep BA
    replace Q1 := Q1.keep BA
    replace Qd := Qd.keep BA
    replace Xd := Xd.keep BA
    replace Qw := Qw.keep BA
    replace HB := joinB HB BA
    clear BA
    obtain ⟨c1P0, c2P0, c3P0, c4P0⟩ := P0.cells2
    obtain ⟨c1P1, c2P1, c3P1, c4P1⟩ := P1.cells2
    obtain ⟨c1Xd, c2Xd, c3Xd, c4Xd⟩ := Xd.cells2
    obtain ⟨c1Xw, c2Xw, c3Xw, c4Xw⟩ := Xw.cells2
    go_wp2_with fail
    clear c1P0 c2P0 c3P0 c4P0 c1P1 c2P1 c3P1 c4P1 c1Xd c2Xd c3Xd c4Xd c1Xw c2Xw c3Xw c4Xw
    generalize n2w.alloc (.cells #[.slice Aw Nw Cw, .slice Bw Mw Dw] 30) = y2 at *
    generalize n2w.heap.size = gw at *
    by_cases hz : p1 = 0
    · refine (cQuoZ rfl Q1 (by omega) hz).mono ?_
      rintro e n3w ⟨rfl, hB⟩
      replace P0 := P0.keep hB
      replace P1 := P1.keep hB
      replace Q0 := Q0.keep hB
      replace Q1 := Q1.keep hB
      replace Qd := Qd.keep hB
      replace Xd := Xd.keep hB
      replace Qw := Qw.keep hB
      replace Xw := Xw.keep hB
      replace HB := joinB HB hB
      clear hB
      have BA := below_alloc n3w (.cells #[.slice none 0 0, .slice none 0 0] 30)
      have Xq := box_new n3w [.slice none 0 0, .slice none 0 0] 30
      replace P0 := P0.keep BA
      replace P1 := P1.keep BA
      replace Q0 := Q0.keep BA
      replace Q1 := Q1.keep BA
      replace Qd := Qd.keep BA
      replace Xd := Xd.keep BA
      replace Qw := Qw.keep BA
      replace Xw := Xw.keep BA
      replace HB := joinB HB BA
      clear BA
      obtain ⟨c1P0, c2P0, c3P0, c4P0⟩ := P0.cells2
      obtain ⟨c1P1, c2P1, c3P1, c4P1⟩ := P1.cells2
      obtain ⟨c1Xd, c2Xd, c3Xd, c4Xd⟩ := Xd.cells2
      obtain ⟨c1Xw, c2Xw, c3Xw, c4Xw⟩ := Xw.cells2
      obtain ⟨c1Xq, c2Xq, c3Xq, c4Xq⟩ := Xq.cells2
      go_wp2_with fail
      clear c1P0 c2P0 c3P0 c4P0 c1P1 c2P1 c3P1 c4P1 c1Xd c2Xd c3Xd c4Xd c1Xw c2Xw c3Xw c4Xw c1Xq c2Xq c3Xq c4Xq
      generalize n3w.alloc (.cells #[.slice none 0 0, .slice none 0 0] 30) = y3 at *
      generalize n3w.heap.size = gq at *
      refine (tQuoZ Q0 Q1 (by omega) hz).mono ?_
      rintro e n4w ⟨rfl, hB⟩
      replace P0 := P0.keep hB
      replace P1 := P1.keep hB
      replace Q0 := Q0.keep hB
      replace Q1 := Q1.keep hB
      replace Qd := Qd.keep hB
      replace Xd := Xd.keep hB
      replace Qw := Qw.keep hB
      replace Xw := Xw.keep hB
      replace Xq := Xq.keep hB
      replace HB := joinB HB hB
      clear hB
      have BA := below_alloc n4w (.cells #[.slice none 0 0, .slice none 0 0] 30)
      have Xr := box_new n4w [.slice none 0 0, .slice none 0 0] 30
      replace P0 := P0.keep BA
      replace P1 := P1.keep BA
      replace Q0 := Q0.keep BA
      replace Q1 := Q1.keep BA
      replace Qd := Qd.keep BA
      replace Xd := Xd.keep BA
      replace Qw := Qw.keep BA
      replace Xw := Xw.keep BA
      replace Xq := Xq.keep BA
      replace HB := joinB HB BA
      clear BA
      obtain ⟨c1P0, c2P0, c3P0, c4P0⟩ := P0.cells2
      obtain ⟨c1P1, c2P1, c3P1, c4P1⟩ := P1.cells2
      obtain ⟨c1Xd, c2Xd, c3Xd, c4Xd⟩ := Xd.cells2
      obtain ⟨c1Xw, c2Xw, c3Xw, c4Xw⟩ := Xw.cells2
      obtain ⟨c1Xq, c2Xq, c3Xq, c4Xq⟩ := Xq.cells2
      obtain ⟨c1Xr, c2Xr, c3Xr, c4Xr⟩ := Xr.cells2
      go_wp2_with fail
      clear c1P0 c2P0 c3P0 c4P0 c1P1 c2P1 c3P1 c4P1 c1Xd c2Xd c3Xd c4Xd c1Xw c2Xw c3Xw c4Xw c1Xq c2Xq c3Xq c4Xq c1Xr c2Xr c3Xr c4Xr
      generalize n4w.alloc (.cells #[.slice none 0 0, .slice none 0 0] 30) = y4 at *
      generalize n4w.heap.size = gr at *
      refine rg_start (S := fun w' => Below y4.drew.heap.size y4.drew w') (by kernel_rfl) (Below.refl _ _) ?_
      replace P0 := P0.drew
      replace P1 := P1.drew
      replace Q0 := Q0.drew
      replace Q1 := Q1.drew
      replace Qd := Qd.drew
      replace Xd := Xd.drew
      replace Qw := Qw.drew
      replace Xw := Xw.drew
      replace Xq := Xq.drew
      replace Xr := Xr.drew
      replace HB := HB.drew
      have UP0 := P0
      have UP1 := P1
      have UXd := Xd
      have UXw := Xw
      have UXq := Xq
      have UXr := Xr
      have hS := Below.refl y4.drew.heap.size y4.drew
      clear P0 P1 Xd Xw Xq Xr
      refine rg_load 0 (some 44) (.agg #[.slice a0 len0 cap0, .slice b0 ken0 dap0]) 30 2 (w.heap.size) 0 (by kernel_rfl) (by kernel_rfl) (by kernel_rfl) (fun _ hb => load_rat (UP0.keep hb)) (fun _ _ _ h => h) hS ?_
      refine rg_load 1 (some 45) (.agg #[.slice a1 len1 cap1, .slice b1 ken1 dap1]) 30 3 (w.heap.size + 1) 0 (by kernel_rfl) (by kernel_rfl) (by kernel_rfl) (fun _ hb => load_rat (UP1.keep hb)) (fun _ _ _ h => h) hS ?_
      refine rg_load 3 (some 47) (.agg #[.slice a0 len0 cap0, .slice b0 ken0 dap0]) 30 2 (w.heap.size) 0 (by kernel_rfl) (by kernel_rfl) (by kernel_rfl) (fun _ hb => load_rat (UP0.keep hb)) (fun _ _ _ h => h) hS ?_
      refine rg_load 4 (some 48) (.agg #[.slice a1 len1 cap1, .slice b1 ken1 dap1]) 30 3 (w.heap.size + 1) 0 (by kernel_rfl) (by kernel_rfl) (by kernel_rfl) (fun _ hb => load_rat (UP1.keep hb)) (fun _ _ _ h => h) hS ?_
      refine rg_call 2 (some 46) 19 #[.agg #[.slice a0 len0 cap0, .slice b0 ken0 dap0], .agg #[.slice a1 len1 cap1, .slice b1 ken1 dap1]] (by kernel_rfl) (by kernel_rfl) (cCmp Q0 Q1 (by omega) sx e1) ?_
      rintro e r9x1 ⟨rfl, hB⟩
      refine ⟨_, rfl, joinB hS hB, ?_⟩
      replace hS := joinB hS hB
      replace Q0 := Q0.keep hB
      replace Q1 := Q1.keep hB
      replace Qd := Qd.keep hB
      replace Qw := Qw.keep hB
      replace HB := joinB HB hB
      clear hB
      refine rg_call 5 (some 49) 49 #[.agg #[.slice a0 len0 cap0, .slice b0 ken0 dap0], .agg #[.slice a1 len1 cap1, .slice b1 ken1 dap1]] (by kernel_rfl) (by kernel_rfl) (tCmp Q0 Q1 (by omega) sx e1) ?_
      rintro e r9x2 ⟨rfl, hB⟩
      refine ⟨_, rfl, joinB hS hB, ?_⟩
      replace hS := joinB hS hB
      replace Q0 := Q0.keep hB
      replace Q1 := Q1.keep hB
      replace Qd := Qd.keep hB
      replace Qw := Qw.keep hB
      replace HB := joinB HB hB
      clear hB
      refine rg_eq 6 (some 50) (.bool ((sx : Int) == sx)) (.bool true) (by rw [beq_self_eq_true]) (by kernel_rfl) (fun _ _ => by kernel_rfl) (fun _ _ _ h => h) hS ?_
      refine rg_take 7 (some 51) (.bool true) (by kernel_rfl) (fun _ _ => by kernel_rfl) (fun _ _ _ h => h) hS ?_
      refine rg_load 8 (some 52) (.agg #[.slice a0 len0 cap0, .slice b0 ken0 dap0]) 30 2 (w.heap.size) 0 (by kernel_rfl) (by kernel_rfl) (by kernel_rfl) (fun _ hb => load_rat (UP0.keep hb)) (fun _ _ _ h => h) hS ?_
      refine rg_load 9 (some 53) (.agg #[.slice a1 len1 cap1, .slice b1 ken1 dap1]) 30 3 (w.heap.size + 1) 0 (by kernel_rfl) (by kernel_rfl) (by kernel_rfl) (fun _ hb => load_rat (UP1.keep hb)) (fun _ _ _ h => h) hS ?_
      refine rg_load 11 (some 55) (.agg #[.slice a0 len0 cap0, .slice b0 ken0 dap0]) 30 2 (w.heap.size) 0 (by kernel_rfl) (by kernel_rfl) (by kernel_rfl) (fun _ hb => load_rat (UP0.keep hb)) (fun _ _ _ h => h) hS ?_
      refine rg_load 12 (some 56) (.agg #[.slice a1 len1 cap1, .slice b1 ken1 dap1]) 30 3 (w.heap.size + 1) 0 (by kernel_rfl) (by kernel_rfl) (by kernel_rfl) (fun _ hb => load_rat (UP1.keep hb)) (fun _ _ _ h => h) hS ?_
      refine rg_call 10 (some 54) 18 #[.agg #[.slice a0 len0 cap0, .slice b0 ken0 dap0], .agg #[.slice a1 len1 cap1, .slice b1 ken1 dap1]] (by kernel_rfl) (by kernel_rfl) (cAdd Q0 Q1 (by omega)) ?_
      rintro e r9x3 ⟨As, Ns, Cs, Bs, Ms, Ds, rfl, Qs, hB⟩
      refine ⟨_, rfl, joinB hS hB, ?_⟩
      replace hS := joinB hS hB
      replace Q0 := Q0.keep hB
      replace Q1 := Q1.keep hB
      replace Qd := Qd.keep hB
      replace Qw := Qw.keep hB
      replace HB := joinB HB hB
      clear hB
      refine rg_call 13 (some 57) 50 #[.agg #[.slice a0 len0 cap0, .slice b0 ken0 dap0], .agg #[.slice a1 len1 cap1, .slice b1 ken1 dap1]] (by kernel_rfl) (by kernel_rfl) (tAdd Q0 Q1 (by omega)) ?_
      rintro e r9x4 ⟨At, Nt, Ct, Bt, Mt, Dt, rfl, Qt, hB⟩
      refine ⟨_, rfl, joinB hS hB, ?_⟩
      replace hS := joinB hS hB
      replace Q0 := Q0.keep hB
      replace Q1 := Q1.keep hB
      replace Qd := Qd.keep hB
      replace Qw := Qw.keep hB
      replace Qs := Qs.keep hB
      replace HB := joinB HB hB
      clear hB
      refine rg_call 14 (some 58) 16 #[.agg #[.slice As Ns Cs, .slice Bs Ms Ds], .agg #[.slice At Nt Ct, .slice Bt Mt Dt]] (by kernel_rfl) (by kernel_rfl) (cSame (Qs.up (C := 100000) (by omega)) (Qt.up (C := 100000) (by omega)) (by omega) true (decide_eq_true rfl)) ?_
      rintro e r9x5 ⟨rfl, hB⟩
      refine ⟨_, rfl, joinB hS hB, ?_⟩
      replace hS := joinB hS hB
      replace Q0 := Q0.keep hB
      replace Q1 := Q1.keep hB
      replace Qd := Qd.keep hB
      replace Qw := Qw.keep hB
      replace Qs := Qs.keep hB
      replace Qt := Qt.keep hB
      replace HB := joinB HB hB
      clear hB
      refine rg_take 15 (some 59) (.bool true) (by kernel_rfl) (fun _ _ => by kernel_rfl) (fun _ _ _ h => h) hS ?_
      refine rg_take 16 (some 60) (.bool true) (by kernel_rfl) (fun _ _ => by kernel_rfl) (fun _ _ _ h => h) hS ?_
      refine rg_load 17 (some 61) (.agg #[.slice a0 len0 cap0, .slice b0 ken0 dap0]) 30 2 (w.heap.size) 0 (by kernel_rfl) (by kernel_rfl) (by kernel_rfl) (fun _ hb => load_rat (UP0.keep hb)) (fun _ _ _ h => h) hS ?_
      refine rg_load 18 (some 62) (.agg #[.slice a1 len1 cap1, .slice b1 ken1 dap1]) 30 3 (w.heap.size + 1) 0 (by kernel_rfl) (by kernel_rfl) (by kernel_rfl) (fun _ hb => load_rat (UP1.keep hb)) (fun _ _ _ h => h) hS ?_
      refine rg_load 20 (some 64) (.agg #[.slice a0 len0 cap0, .slice b0 ken0 dap0]) 30 2 (w.heap.size) 0 (by kernel_rfl) (by kernel_rfl) (by kernel_rfl) (fun _ hb => load_rat (UP0.keep hb)) (fun _ _ _ h => h) hS ?_
      refine rg_load 21 (some 65) (.agg #[.slice a1 len1 cap1, .slice b1 ken1 dap1]) 30 3 (w.heap.size + 1) 0 (by kernel_rfl) (by kernel_rfl) (by kernel_rfl) (fun _ hb => load_rat (UP1.keep hb)) (fun _ _ _ h => h) hS ?_
      refine rg_call 19 (some 63) 25 #[.agg #[.slice a0 len0 cap0, .slice b0 ken0 dap0], .agg #[.slice a1 len1 cap1, .slice b1 ken1 dap1]] (by kernel_rfl) (by kernel_rfl) (cMul Q0 Q1 (by omega)) ?_
      rintro e r9x6 ⟨Au, Nu, Cu, Bu, Mu, Du, rfl, Qu, hB⟩
      refine ⟨_, rfl, joinB hS hB, ?_⟩
      replace hS := joinB hS hB
      replace Q0 := Q0.keep hB
      replace Q1 := Q1.keep hB
      replace Qd := Qd.keep hB
      replace Qw := Qw.keep hB
      replace Qs := Qs.keep hB
      replace Qt := Qt.keep hB
      replace HB := joinB HB hB
      clear hB
      refine rg_call 22 (some 66) 51 #[.agg #[.slice a0 len0 cap0, .slice b0 ken0 dap0], .agg #[.slice a1 len1 cap1, .slice b1 ken1 dap1]] (by kernel_rfl) (by kernel_rfl) (tMul Q0 Q1 (by omega)) ?_
      rintro e r9x7 ⟨Av, Nv, Cv, Bv, Mv, Dv, rfl, Qv, hB⟩
      refine ⟨_, rfl, joinB hS hB, ?_⟩
      replace hS := joinB hS hB
      replace Q0 := Q0.keep hB
      replace Q1 := Q1.keep hB
      replace Qd := Qd.keep hB
      replace Qw := Qw.keep hB
      replace Qs := Qs.keep hB
      replace Qt := Qt.keep hB
      replace Qu := Qu.keep hB
      replace HB := joinB HB hB
      clear hB
      refine rg_call 23 (some 67) 16 #[.agg #[.slice Au Nu Cu, .slice Bu Mu Du], .agg #[.slice Av Nv Cv, .slice Bv Mv Dv]] (by kernel_rfl) (by kernel_rfl) (cSame (Qu.up (C := 100000) (by omega)) (Qv.up (C := 100000) (by omega)) (by omega) true (decide_eq_true rfl)) ?_
      rintro e r9x8 ⟨rfl, hB⟩
      refine ⟨_, rfl, joinB hS hB, ?_⟩
      replace hS := joinB hS hB
      replace Q0 := Q0.keep hB
      replace Q1 := Q1.keep hB
      replace Qd := Qd.keep hB
      replace Qw := Qw.keep hB
      replace Qs := Qs.keep hB
      replace Qt := Qt.keep hB
      replace Qu := Qu.keep hB
      replace Qv := Qv.keep hB
      replace HB := joinB HB hB
      clear hB
      refine rg_take 24 (some 68) (.bool true) (by kernel_rfl) (fun _ _ => by kernel_rfl) (fun _ _ _ h => h) hS ?_
      refine rg_take 25 (some 69) (.bool true) (by kernel_rfl) (fun _ _ => by kernel_rfl) (fun _ _ _ h => h) hS ?_
      refine rg_load 26 (some 70) (.agg #[.slice Ad Nd Cd, .slice Bd Md Dd]) 30 5 (gd) 0 (by kernel_rfl) (by kernel_rfl) (by kernel_rfl) (fun _ hb => load_rat (UXd.keep hb)) (fun _ _ _ h => h) hS ?_
      refine rg_load 27 (some 71) (.agg #[.slice Aw Nw Cw, .slice Bw Mw Dw]) 30 7 (gw) 0 (by kernel_rfl) (by kernel_rfl) (by kernel_rfl) (fun _ hb => load_rat (UXw.keep hb)) (fun _ _ _ h => h) hS ?_
      refine rg_call 28 (some 72) 16 #[.agg #[.slice Ad Nd Cd, .slice Bd Md Dd], .agg #[.slice Aw Nw Cw, .slice Bw Mw Dw]] (by kernel_rfl) (by kernel_rfl) (cSame (Qd.up (C := 100000) (by omega)) (Qw.up (C := 100000) (by omega)) (by omega) true (decide_eq_true rfl)) ?_
      rintro e r9x9 ⟨rfl, hB⟩
      refine ⟨_, rfl, joinB hS hB, ?_⟩
      replace hS := joinB hS hB
      replace Q0 := Q0.keep hB
      replace Q1 := Q1.keep hB
      replace Qd := Qd.keep hB
      replace Qw := Qw.keep hB
      replace Qs := Qs.keep hB
      replace Qt := Qt.keep hB
      replace Qu := Qu.keep hB
      replace Qv := Qv.keep hB
      replace HB := joinB HB hB
      clear hB
      refine rg_take 29 (some 73) (.bool true) (by kernel_rfl) (fun _ _ => by kernel_rfl) (fun _ _ _ h => h) hS ?_
      refine rg_take 30 (some 74) (.bool true) (by kernel_rfl) (fun _ _ => by kernel_rfl) (fun _ _ _ h => h) hS ?_
      refine rg_take 31 (some 75) (.int .i64 0) (by kernel_rfl) (fun _ _ => by kernel_rfl) (fun _ _ _ h => h) hS ?_
      refine rg_take 32 (some 76) (.int .i64 0) (by kernel_rfl) (fun _ _ => by kernel_rfl) (fun _ _ _ h => h) hS ?_
      refine rg_take 33 (some 77) (.bool true) (by kernel_rfl) (fun _ _ => by kernel_rfl) (fun _ _ _ h => h) hS ?_
      refine rg_take 34 (some 78) (.bool true) (by kernel_rfl) (fun _ _ => by kernel_rfl) (fun _ _ _ h => h) hS ?_
      refine rg_take 35 (some 79) (.bool true) (by kernel_rfl) (fun _ _ => by kernel_rfl) (fun _ _ _ h => h) hS ?_
      refine rg_load 36 (some 80) (.agg #[.slice none 0 0, .slice none 0 0]) 30 9 (gq) 0 (by kernel_rfl) (by kernel_rfl) (by kernel_rfl) (fun _ hb => load_rat (UXq.keep hb)) (fun _ _ _ h => h) hS ?_
      refine rg_load 37 (some 81) (.agg #[.slice none 0 0, .slice none 0 0]) 30 11 (gr) 0 (by kernel_rfl) (by kernel_rfl) (by kernel_rfl) (fun _ hb => load_rat (UXr.keep hb)) (fun _ _ _ h => h) hS ?_
      refine rg_call 38 (some 82) 16 #[.agg #[.slice none 0 0, .slice none 0 0], .agg #[.slice none 0 0, .slice none 0 0]] (by kernel_rfl) (by kernel_rfl) (qSameT (natO_nil _) (natO_nil _) (by omega) (by omega) (natO_nil _) (natO_nil _) (by omega) (by omega)) ?_
      rintro e r9x10 ⟨rfl, hB⟩
      refine ⟨_, rfl, joinB hS hB, ?_⟩
      replace hS := joinB hS hB
      replace Q0 := Q0.keep hB
      replace Q1 := Q1.keep hB
      replace Qd := Qd.keep hB
      replace Qw := Qw.keep hB
      replace Qs := Qs.keep hB
      replace Qt := Qt.keep hB
      replace Qu := Qu.keep hB
      replace Qv := Qv.keep hB
      replace HB := joinB HB hB
      clear hB
      refine rg_take 39 (some 83) (.bool true) (by kernel_rfl) (fun _ _ => by kernel_rfl) (fun _ _ _ h => h) hS ?_
      refine rg_take 40 (some 84) (.bool true) (by kernel_rfl) (fun _ _ => by kernel_rfl) (fun _ _ _ h => h) hS ?_
      refine rg_take 41 (some 85) (.int .i64 30) (by kernel_rfl) (fun _ _ => by kernel_rfl) (fun _ _ _ h => h) hS ?_
      refine rg_take 42 (some 86) (.int .i64 30) (by kernel_rfl) (fun _ _ => by kernel_rfl) (fun _ _ _ h => h) hS ?_
      refine rg_take 43 (some 87) (.bool true) (by kernel_rfl) (fun _ _ => by kernel_rfl) (fun _ _ _ h => h) hS ?_
      refine rg_take 44 (some 88) (.bool true) (by kernel_rfl) (fun _ _ => by kernel_rfl) (fun _ _ _ h => h) hS ?_
      refine rg_take 45 (some 4) (.bool true) (by kernel_rfl) (fun _ _ => by kernel_rfl) (fun _ _ _ h => h) hS ?_
      refine rg_done (by kernel_rfl) ?_
      clear hS UP0 UP1 UXd UXw UXq UXr
      try simp only [Act.put, List.setIfInBounds_toArray, List.set_cons_zero, List.set_cons_succ]
      go_wp2
      go_ret
      exact ⟨rfl, HB⟩
    · refine (cQuo Q0 Q1 (by omega) hz).mono ?_
      rintro e n3w ⟨Aq, Nq, Cq, Bq, Mq, Dq, rfl, Qq, hB⟩
      replace P0 := P0.keep hB
      replace P1 := P1.keep hB
      replace Q0 := Q0.keep hB
      replace Q1 := Q1.keep hB
      replace Qd := Qd.keep hB
      replace Xd := Xd.keep hB
      replace Qw := Qw.keep hB
      replace Xw := Xw.keep hB
      replace HB := joinB HB hB
      clear hB
      have BA := below_alloc n3w (.cells #[.slice Aq Nq Cq, .slice Bq Mq Dq] 30)
      have Xq := box_new n3w [.slice Aq Nq Cq, .slice Bq Mq Dq] 30
      replace P0 := P0.keep BA
      replace P1 := P1.keep BA
      replace Q0 := Q0.keep BA
      replace Q1 := Q1.keep BA
      replace Qd := Qd.keep BA
      replace Xd := Xd.keep BA
      replace Qw := Qw.keep BA
      replace Xw := Xw.keep BA
      replace Qq := Qq.keep BA
      replace HB := joinB HB BA
      clear BA
      obtain ⟨c1P0, c2P0, c3P0, c4P0⟩ := P0.cells2
      obtain ⟨c1P1, c2P1, c3P1, c4P1⟩ := P1.cells2
      obtain ⟨c1Xd, c2Xd, c3Xd, c4Xd⟩ := Xd.cells2
      obtain ⟨c1Xw, c2Xw, c3Xw, c4Xw⟩ := Xw.cells2
      obtain ⟨c1Xq, c2Xq, c3Xq, c4Xq⟩ := Xq.cells2
      go_wp2_with fail
      clear c1P0 c2P0 c3P0 c4P0 c1P1 c2P1 c3P1 c4P1 c1Xd c2Xd c3Xd c4Xd c1Xw c2Xw c3Xw c4Xw c1Xq c2Xq c3Xq c4Xq
      generalize n3w.alloc (.cells #[.slice Aq Nq Cq, .slice Bq Mq Dq] 30) = y3 at *
      generalize n3w.heap.size = gq at *
      refine (tQuo Q0 Q1 (by omega) hz).mono ?_
      rintro e n4w ⟨Ar, Nr, Cr, Br, Mr, Dr, rfl, Qr, hB⟩
      replace P0 := P0.keep hB
      replace P1 := P1.keep hB
      replace Q0 := Q0.keep hB
      replace Q1 := Q1.keep hB
      replace Qd := Qd.keep hB
      replace Xd := Xd.keep hB
      replace Qw := Qw.keep hB
      replace Xw := Xw.keep hB
      replace Qq := Qq.keep hB
      replace Xq := Xq.keep hB
      replace HB := joinB HB hB
      clear hB
      have BA := below_alloc n4w (.cells #[.slice Ar Nr Cr, .slice Br Mr Dr] 30)
      have Xr := box_new n4w [.slice Ar Nr Cr, .slice Br Mr Dr] 30
      replace P0 := P0.keep BA
      replace P1 := P1.keep BA
      replace Q0 := Q0.keep BA
      replace Q1 := Q1.keep BA
      replace Qd := Qd.keep BA
      replace Xd := Xd.keep BA
      replace Qw := Qw.keep BA
      replace Xw := Xw.keep BA
      replace Qq := Qq.keep BA
      replace Xq := Xq.keep BA
      replace Qr := Qr.keep BA
      replace HB := joinB HB BA
      clear BA
      obtain ⟨c1P0, c2P0, c3P0, c4P0⟩ := P0.cells2
      obtain ⟨c1P1, c2P1, c3P1, c4P1⟩ := P1.cells2
      obtain ⟨c1Xd, c2Xd, c3Xd, c4Xd⟩ := Xd.cells2
      obtain ⟨c1Xw, c2Xw, c3Xw, c4Xw⟩ := Xw.cells2
      obtain ⟨c1Xq, c2Xq, c3Xq, c4Xq⟩ := Xq.cells2
      obtain ⟨c1Xr, c2Xr, c3Xr, c4Xr⟩ := Xr.cells2
      go_wp2_with fail
      clear c1P0 c2P0 c3P0 c4P0 c1P1 c2P1 c3P1 c4P1 c1Xd c2Xd c3Xd c4Xd c1Xw c2Xw c3Xw c4Xw c1Xq c2Xq c3Xq c4Xq c1Xr c2Xr c3Xr c4Xr
      generalize n4w.alloc (.cells #[.slice Ar Nr Cr, .slice Br Mr Dr] 30) = y4 at *
      generalize n4w.heap.size = gr at *
      refine rg_start (S := fun w' => Below y4.drew.heap.size y4.drew w') (by kernel_rfl) (Below.refl _ _) ?_
      replace P0 := P0.drew
      replace P1 := P1.drew
      replace Q0 := Q0.drew
      replace Q1 := Q1.drew
      replace Qd := Qd.drew
      replace Xd := Xd.drew
      replace Qw := Qw.drew
      replace Xw := Xw.drew
      replace Qq := Qq.drew
      replace Xq := Xq.drew
      replace Qr := Qr.drew
      replace Xr := Xr.drew
      replace HB := HB.drew
      have UP0 := P0
      have UP1 := P1
      have UXd := Xd
      have UXw := Xw
      have UXq := Xq
      have UXr := Xr
      have hS := Below.refl y4.drew.heap.size y4.drew
      clear P0 P1 Xd Xw Xq Xr
      refine rg_load 0 (some 44) (.agg #[.slice a0 len0 cap0, .slice b0 ken0 dap0]) 30 2 (w.heap.size) 0 (by kernel_rfl) (by kernel_rfl) (by kernel_rfl) (fun _ hb => load_rat (UP0.keep hb)) (fun _ _ _ h => h) hS ?_
      refine rg_load 1 (some 45) (.agg #[.slice a1 len1 cap1, .slice b1 ken1 dap1]) 30 3 (w.heap.size + 1) 0 (by kernel_rfl) (by kernel_rfl) (by kernel_rfl) (fun _ hb => load_rat (UP1.keep hb)) (fun _ _ _ h => h) hS ?_
      refine rg_load 3 (some 47) (.agg #[.slice a0 len0 cap0, .slice b0 ken0 dap0]) 30 2 (w.heap.size) 0 (by kernel_rfl) (by kernel_rfl) (by kernel_rfl) (fun _ hb => load_rat (UP0.keep hb)) (fun _ _ _ h => h) hS ?_
      refine rg_load 4 (some 48) (.agg #[.slice a1 len1 cap1, .slice b1 ken1 dap1]) 30 3 (w.heap.size + 1) 0 (by kernel_rfl) (by kernel_rfl) (by kernel_rfl) (fun _ hb => load_rat (UP1.keep hb)) (fun _ _ _ h => h) hS ?_
      refine rg_call 2 (some 46) 19 #[.agg #[.slice a0 len0 cap0, .slice b0 ken0 dap0], .agg #[.slice a1 len1 cap1, .slice b1 ken1 dap1]] (by kernel_rfl) (by kernel_rfl) (cCmp Q0 Q1 (by omega) sx e1) ?_
      rintro e r9x1 ⟨rfl, hB⟩
      refine ⟨_, rfl, joinB hS hB, ?_⟩
      replace hS := joinB hS hB
      replace Q0 := Q0.keep hB
      replace Q1 := Q1.keep hB
      replace Qd := Qd.keep hB
      replace Qw := Qw.keep hB
      replace Qq := Qq.keep hB
      replace Qr := Qr.keep hB
      replace HB := joinB HB hB
      clear hB
      refine rg_call 5 (some 49) 49 #[.agg #[.slice a0 len0 cap0, .slice b0 ken0 dap0], .agg #[.slice a1 len1 cap1, .slice b1 ken1 dap1]] (by kernel_rfl) (by kernel_rfl) (tCmp Q0 Q1 (by omega) sx e1) ?_
      rintro e r9x2 ⟨rfl, hB⟩
      refine ⟨_, rfl, joinB hS hB, ?_⟩
      replace hS := joinB hS hB
      replace Q0 := Q0.keep hB
      replace Q1 := Q1.keep hB
      replace Qd := Qd.keep hB
      replace Qw := Qw.keep hB
      replace Qq := Qq.keep hB
      replace Qr := Qr.keep hB
      replace HB := joinB HB hB
      clear hB
      refine rg_eq 6 (some 50) (.bool ((sx : Int) == sx)) (.bool true) (by rw [beq_self_eq_true]) (by kernel_rfl) (fun _ _ => by kernel_rfl) (fun _ _ _ h => h) hS ?_
      refine rg_take 7 (some 51) (.bool true) (by kernel_rfl) (fun _ _ => by kernel_rfl) (fun _ _ _ h => h) hS ?_
      refine rg_load 8 (some 52) (.agg #[.slice a0 len0 cap0, .slice b0 ken0 dap0]) 30 2 (w.heap.size) 0 (by kernel_rfl) (by kernel_rfl) (by kernel_rfl) (fun _ hb => load_rat (UP0.keep hb)) (fun _ _ _ h => h) hS ?_
      refine rg_load 9 (some 53) (.agg #[.slice a1 len1 cap1, .slice b1 ken1 dap1]) 30 3 (w.heap.size + 1) 0 (by kernel_rfl) (by kernel_rfl) (by kernel_rfl) (fun _ hb => load_rat (UP1.keep hb)) (fun _ _ _ h => h) hS ?_
      refine rg_load 11 (some 55) (.agg #[.slice a0 len0 cap0, .slice b0 ken0 dap0]) 30 2 (w.heap.size) 0 (by kernel_rfl) (by kernel_rfl) (by kernel_rfl) (fun _ hb => load_rat (UP0.keep hb)) (fun _ _ _ h => h) hS ?_
      refine rg_load 12 (some 56) (.agg #[.slice a1 len1 cap1, .slice b1 ken1 dap1]) 30 3 (w.heap.size + 1) 0 (by kernel_rfl) (by kernel_rfl) (by kernel_rfl) (fun _ hb => load_rat (UP1.keep hb)) (fun _ _ _ h => h) hS ?_
      refine rg_call 10 (some 54) 18 #[.agg #[.slice a0 len0 cap0, .slice b0 ken0 dap0], .agg #[.slice a1 len1 cap1, .slice b1 ken1 dap1]] (by kernel_rfl) (by kernel_rfl) (cAdd Q0 Q1 (by omega)) ?_
      rintro e r9x3 ⟨As, Ns, Cs, Bs, Ms, Ds, rfl, Qs, hB⟩
      refine ⟨_, rfl, joinB hS hB, ?_⟩
      replace hS := joinB hS hB
      replace Q0 := Q0.keep hB
      replace Q1 := Q1.keep hB
      replace Qd := Qd.keep hB
      replace Qw := Qw.keep hB
      replace Qq := Qq.keep hB
      replace Qr := Qr.keep hB
      replace HB := joinB HB hB
      clear hB
      refine rg_call 13 (some 57) 50 #[.agg #[.slice a0 len0 cap0, .slice b0 ken0 dap0], .agg #[.slice a1 len1 cap1, .slice b1 ken1 dap1]] (by kernel_rfl) (by kernel_rfl) (tAdd Q0 Q1 (by omega)) ?_
      rintro e r9x4 ⟨At, Nt, Ct, Bt, Mt, Dt, rfl, Qt, hB⟩
      refine ⟨_, rfl, joinB hS hB, ?_⟩
      replace hS := joinB hS hB
      replace Q0 := Q0.keep hB
      replace Q1 := Q1.keep hB
      replace Qd := Qd.keep hB
      replace Qw := Qw.keep hB
      replace Qq := Qq.keep hB
      replace Qr := Qr.keep hB
      replace Qs := Qs.keep hB
      replace HB := joinB HB hB
      clear hB
      refine rg_call 14 (some 58) 16 #[.agg #[.slice As Ns Cs, .slice Bs Ms Ds], .agg #[.slice At Nt Ct, .slice Bt Mt Dt]] (by kernel_rfl) (by kernel_rfl) (cSame (Qs.up (C := 100000) (by omega)) (Qt.up (C := 100000) (by omega)) (by omega) true (decide_eq_true rfl)) ?_
      rintro e r9x5 ⟨rfl, hB⟩
      refine ⟨_, rfl, joinB hS hB, ?_⟩
      replace hS := joinB hS hB
      replace Q0 := Q0.keep hB
      replace Q1 := Q1.keep hB
      replace Qd := Qd.keep hB
      replace Qw := Qw.keep hB
      replace Qq := Qq.keep hB
      replace Qr := Qr.keep hB
      replace Qs := Qs.keep hB
      replace Qt := Qt.keep hB
      replace HB := joinB HB hB
      clear hB
      refine rg_take 15 (some 59) (.bool true) (by kernel_rfl) (fun _ _ => by kernel_rfl) (fun _ _ _ h => h) hS ?_
      refine rg_take 16 (some 60) (.bool true) (by kernel_rfl) (fun _ _ => by kernel_rfl) (fun _ _ _ h => h) hS ?_
      refine rg_load 17 (some 61) (.agg #[.slice a0 len0 cap0, .slice b0 ken0 dap0]) 30 2 (w.heap.size) 0 (by kernel_rfl) (by kernel_rfl) (by kernel_rfl) (fun _ hb => load_rat (UP0.keep hb)) (fun _ _ _ h => h) hS ?_
      refine rg_load 18 (some 62) (.agg #[.slice a1 len1 cap1, .slice b1 ken1 dap1]) 30 3 (w.heap.size + 1) 0 (by kernel_rfl) (by kernel_rfl) (by kernel_rfl) (fun _ hb => load_rat (UP1.keep hb)) (fun _ _ _ h => h) hS ?_
      refine rg_load 20 (some 64) (.agg #[.slice a0 len0 cap0, .slice b0 ken0 dap0]) 30 2 (w.heap.size) 0 (by kernel_rfl) (by kernel_rfl) (by kernel_rfl) (fun _ hb => load_rat (UP0.keep hb)) (fun _ _ _ h => h) hS ?_
      refine rg_load 21 (some 65) (.agg #[.slice a1 len1 cap1, .slice b1 ken1 dap1]) 30 3 (w.heap.size + 1) 0 (by kernel_rfl) (by kernel_rfl) (by kernel_rfl) (fun _ hb => load_rat (UP1.keep hb)) (fun _ _ _ h => h) hS ?_
      refine rg_call 19 (some 63) 25 #[.agg #[.slice a0 len0 cap0, .slice b0 ken0 dap0], .agg #[.slice a1 len1 cap1, .slice b1 ken1 dap1]] (by kernel_rfl) (by kernel_rfl) (cMul Q0 Q1 (by omega)) ?_
      rintro e r9x6 ⟨Au, Nu, Cu, Bu, Mu, Du, rfl, Qu, hB⟩
      refine ⟨_, rfl, joinB hS hB, ?_⟩
      replace hS := joinB hS hB
      replace Q0 := Q0.keep hB
      replace Q1 := Q1.keep hB
      replace Qd := Qd.keep hB
      replace Qw := Qw.keep hB
      replace Qq := Qq.keep hB
      replace Qr := Qr.keep hB
      replace Qs := Qs.keep hB
      replace Qt := Qt.keep hB
      replace HB := joinB HB hB
      clear hB
      refine rg_call 22 (some 66) 51 #[.agg #[.slice a0 len0 cap0, .slice b0 ken0 dap0], .agg #[.slice a1 len1 cap1, .slice b1 ken1 dap1]] (by kernel_rfl) (by kernel_rfl) (tMul Q0 Q1 (by omega)) ?_
      rintro e r9x7 ⟨Av, Nv, Cv, Bv, Mv, Dv, rfl, Qv, hB⟩
      refine ⟨_, rfl, joinB hS hB, ?_⟩
      replace hS := joinB hS hB
      replace Q0 := Q0.keep hB
      replace Q1 := Q1.keep hB
      replace Qd := Qd.keep hB
      replace Qw := Qw.keep hB
      replace Qq := Qq.keep hB
      replace Qr := Qr.keep hB
      replace Qs := Qs.keep hB
      replace Qt := Qt.keep hB
      replace Qu := Qu.keep hB
      replace HB := joinB HB hB
      clear hB
      refine rg_call 23 (some 67) 16 #[.agg #[.slice Au Nu Cu, .slice Bu Mu Du], .agg #[.slice Av Nv Cv, .slice Bv Mv Dv]] (by kernel_rfl) (by kernel_rfl) (cSame (Qu.up (C := 100000) (by omega)) (Qv.up (C := 100000) (by omega)) (by omega) true (decide_eq_true rfl)) ?_
      rintro e r9x8 ⟨rfl, hB⟩
      refine ⟨_, rfl, joinB hS hB, ?_⟩
      replace hS := joinB hS hB
      replace Q0 := Q0.keep hB
      replace Q1 := Q1.keep hB
      replace Qd := Qd.keep hB
      replace Qw := Qw.keep hB
      replace Qq := Qq.keep hB
      replace Qr := Qr.keep hB
      replace Qs := Qs.keep hB
      replace Qt := Qt.keep hB
      replace Qu := Qu.keep hB
      replace Qv := Qv.keep hB
      replace HB := joinB HB hB
      clear hB
      refine rg_take 24 (some 68) (.bool true) (by kernel_rfl) (fun _ _ => by kernel_rfl) (fun _ _ _ h => h) hS ?_
      refine rg_take 25 (some 69) (.bool true) (by kernel_rfl) (fun _ _ => by kernel_rfl) (fun _ _ _ h => h) hS ?_
      refine rg_load 26 (some 70) (.agg #[.slice Ad Nd Cd, .slice Bd Md Dd]) 30 5 (gd) 0 (by kernel_rfl) (by kernel_rfl) (by kernel_rfl) (fun _ hb => load_rat (UXd.keep hb)) (fun _ _ _ h => h) hS ?_
      refine rg_load 27 (some 71) (.agg #[.slice Aw Nw Cw, .slice Bw Mw Dw]) 30 7 (gw) 0 (by kernel_rfl) (by kernel_rfl) (by kernel_rfl) (fun _ hb => load_rat (UXw.keep hb)) (fun _ _ _ h => h) hS ?_
      refine rg_call 28 (some 72) 16 #[.agg #[.slice Ad Nd Cd, .slice Bd Md Dd], .agg #[.slice Aw Nw Cw, .slice Bw Mw Dw]] (by kernel_rfl) (by kernel_rfl) (cSame (Qd.up (C := 100000) (by omega)) (Qw.up (C := 100000) (by omega)) (by omega) true (decide_eq_true rfl)) ?_
      rintro e r9x9 ⟨rfl, hB⟩
      refine ⟨_, rfl, joinB hS hB, ?_⟩
      replace hS := joinB hS hB
      replace Q0 := Q0.keep hB
      replace Q1 := Q1.keep hB
      replace Qd := Qd.keep hB
      replace Qw := Qw.keep hB
      replace Qq := Qq.keep hB
      replace Qr := Qr.keep hB
      replace Qs := Qs.keep hB
      replace Qt := Qt.keep hB
      replace Qu := Qu.keep hB
      replace Qv := Qv.keep hB
      replace HB := joinB HB hB
      clear hB
      refine rg_take 29 (some 73) (.bool true) (by kernel_rfl) (fun _ _ => by kernel_rfl) (fun _ _ _ h => h) hS ?_
      refine rg_take 30 (some 74) (.bool true) (by kernel_rfl) (fun _ _ => by kernel_rfl) (fun _ _ _ h => h) hS ?_
      refine rg_take 31 (some 75) (.int .i64 0) (by kernel_rfl) (fun _ _ => by kernel_rfl) (fun _ _ _ h => h) hS ?_
      refine rg_take 32 (some 76) (.int .i64 0) (by kernel_rfl) (fun _ _ => by kernel_rfl) (fun _ _ _ h => h) hS ?_
      refine rg_take 33 (some 77) (.bool true) (by kernel_rfl) (fun _ _ => by kernel_rfl) (fun _ _ _ h => h) hS ?_
      refine rg_take 34 (some 78) (.bool true) (by kernel_rfl) (fun _ _ => by kernel_rfl) (fun _ _ _ h => h) hS ?_
      refine rg_take 35 (some 79) (.bool true) (by kernel_rfl) (fun _ _ => by kernel_rfl) (fun _ _ _ h => h) hS ?_
      refine rg_load 36 (some 80) (.agg #[.slice Aq Nq Cq, .slice Bq Mq Dq]) 30 9 (gq) 0 (by kernel_rfl) (by kernel_rfl) (by kernel_rfl) (fun _ hb => load_rat (UXq.keep hb)) (fun _ _ _ h => h) hS ?_
      refine rg_load 37 (some 81) (.agg #[.slice Ar Nr Cr, .slice Br Mr Dr]) 30 11 (gr) 0 (by kernel_rfl) (by kernel_rfl) (by kernel_rfl) (fun _ hb => load_rat (UXr.keep hb)) (fun _ _ _ h => h) hS ?_
      refine rg_call 38 (some 82) 16 #[.agg #[.slice Aq Nq Cq, .slice Bq Mq Dq], .agg #[.slice Ar Nr Cr, .slice Br Mr Dr]] (by kernel_rfl) (by kernel_rfl) (cSame (Qq.up (C := 100000) (by omega)) (Qr.up (C := 100000) (by omega)) (by omega) true (decide_eq_true rfl)) ?_
      rintro e r9x10 ⟨rfl, hB⟩
      refine ⟨_, rfl, joinB hS hB, ?_⟩
      replace hS := joinB hS hB
      replace Q0 := Q0.keep hB
      replace Q1 := Q1.keep hB
      replace Qd := Qd.keep hB
      replace Qw := Qw.keep hB
      replace Qq := Qq.keep hB
      replace Qr := Qr.keep hB
      replace Qs := Qs.keep hB
      replace Qt := Qt.keep hB
      replace Qu := Qu.keep hB
      replace Qv := Qv.keep hB
      replace HB := joinB HB hB
      clear hB
      refine rg_take 39 (some 83) (.bool true) (by kernel_rfl) (fun _ _ => by kernel_rfl) (fun _ _ _ h => h) hS ?_
      refine rg_take 40 (some 84) (.bool true) (by kernel_rfl) (fun _ _ => by kernel_rfl) (fun _ _ _ h => h) hS ?_
      refine rg_take 41 (some 85) (.int .i64 0) (by kernel_rfl) (fun _ _ => by kernel_rfl) (fun _ _ _ h => h) hS ?_
      refine rg_take 42 (some 86) (.int .i64 0) (by kernel_rfl) (fun _ _ => by kernel_rfl) (fun _ _ _ h => h) hS ?_
      refine rg_take 43 (some 87) (.bool true) (by kernel_rfl) (fun _ _ => by kernel_rfl) (fun _ _ _ h => h) hS ?_
      refine rg_take 44 (some 88) (.bool true) (by kernel_rfl) (fun _ _ => by kernel_rfl) (fun _ _ _ h => h) hS ?_
      refine rg_take 45 (some 4) (.bool true) (by kernel_rfl) (fun _ _ => by kernel_rfl) (fun _ _ _ h => h) hS ?_
      refine rg_done (by kernel_rfl) ?_
      clear hS UP0 UP1 UXd UXw UXq UXr
      try simp only [Act.put, List.setIfInBounds_toArray, List.set_cons_zero, List.set_cons_succ]
      go_wp2
      go_ret
      exact ⟨rfl, HB⟩
end ratSums
end Go.Proofs.YtjihgkanbhccpaaGreatDoor
