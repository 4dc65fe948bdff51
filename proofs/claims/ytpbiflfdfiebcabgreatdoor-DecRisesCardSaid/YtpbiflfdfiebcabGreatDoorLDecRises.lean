/- gleanlaw2.DecRises returns true for all decimals and all numbers. -/
import Derived.Test.YtpbiflfdfiebcabGreatDoorBitD
import Derived.Test.YtpbiflfdfiebcabGreatDoorSmallD
import Derived.Test.YtpbiflfdfiebcabGreatDoorJDecRises
namespace Go.Proofs.YtpbiflfdfiebcabGreatDoor
namespace decRises
open Go.RowKit Lim

theorem sgn_le {x y : Int} (h : x ≤ y) : sgn x y ≤ 0 := by unfold sgn; split <;> (try split) <;> omega
theorem div_mono {x y z : Int} (h : x ≤ y) (hz : 0 ≤ z) : x / z ≤ y / z := by
  by_cases e : z = 0
  · subst e; simp
  · exact Int.ediv_le_ediv (by omega) h
theorem mul_mono {x y z : Int} (h : x ≤ y) (hz : 0 ≤ z) : x * z ≤ y * z := Int.mul_le_mul_of_nonneg_right h hz
set_option maxHeartbeats 8000000 in
set_option maxRecDepth 100000 in
theorem walk (a0 : Option Addr) (len0 cap0 : Nat) (z0 : List Int) (a1 : Option Addr) (len1 cap1 : Nat) (z1 : List Int) (a2 : Option Addr) (len2 cap2 : Nat) (z2 : List Int) (a3 : Option Addr) (len3 cap3 : Nat) (z3 : List Int) (y4 : Int) (w : World) (w0 : IsRow w a0 len0 cap0 z0) (w1 : IsRow w a1 len1 cap1 z1) (w2 : IsRow w a2 len2 cap2 z2) (w3 : IsRow w a3 len3 cap3 z3) (wy4 : (Lit.int .u64 y4).wf = true) :
    Calls Tryz.prog 7 #[.agg #[.slice a0 len0 cap0], .agg #[.slice a1 len1 cap1], .agg #[.slice a2 len2 cap2], .agg #[.slice a3 len3 cap3], .int .u64 y4] w fun e w' => e = .returned (.bool true) ∧ Below w.heap.size w w' := by
  obtain ⟨b0, o0, l0, hl0, hc0, hm0, W0, h0⟩ := w0.open
  have N0 : NatA w a0 len0 cap0 (val l0) := ⟨b0, o0, l0, hl0, hc0, W0, h0, rfl⟩
  have v0 := val_nonneg W0
  clear h0 w0
  obtain ⟨b1, o1, l1, hl1, hc1, hm1, W1, h1⟩ := w1.open
  have N1 : NatA w a1 len1 cap1 (val l1) := ⟨b1, o1, l1, hl1, hc1, W1, h1, rfl⟩
  have v1 := val_nonneg W1
  clear h1 w1
  obtain ⟨b2, o2, l2, hl2, hc2, hm2, W2, h2⟩ := w2.open
  have N2 : NatA w a2 len2 cap2 (val l2) := ⟨b2, o2, l2, hl2, hc2, W2, h2, rfl⟩
  have v2 := val_nonneg W2
  clear h2 w2
  obtain ⟨b3, o3, l3, hl3, hc3, hm3, W3, h3⟩ := w3.open
  have N3 : NatA w a3 len3 cap3 (val l3) := ⟨b3, o3, l3, hl3, hc3, W3, h3, rfl⟩
  have v3 := val_nonneg W3
  clear h3 w3
  have by4 := bounds_u64 wy4
  clear wy4
  have HB := below4 w (.cells #[.slice a0 len0 cap0] 34) (.cells #[.slice a1 len1 cap1] 34) (.cells #[.slice a2 len2 cap2] 34) (.cells #[.slice a3 len3 cap3] 34)
  have P0 := (((slot_new w (.slice a0 len0 cap0) 34).alloc (.cells #[.slice a1 len1 cap1] 34)).alloc (.cells #[.slice a2 len2 cap2] 34)).alloc (.cells #[.slice a3 len3 cap3] 34)
  replace N0 := N0.keep HB
  have P1 := ((slot_last2 w (.cells #[.slice a0 len0 cap0] 34) (.slice a1 len1 cap1) 34).alloc (.cells #[.slice a2 len2 cap2] 34)).alloc (.cells #[.slice a3 len3 cap3] 34)
  replace N1 := N1.keep HB
  have P2 := (slot_last3 w (.cells #[.slice a0 len0 cap0] 34) (.cells #[.slice a1 len1 cap1] 34) (.slice a2 len2 cap2) 34).alloc (.cells #[.slice a3 len3 cap3] 34)
  replace N2 := N2.keep HB
  have P3 := slot_last4 w (.cells #[.slice a0 len0 cap0] 34) (.cells #[.slice a1 len1 cap1] 34) (.cells #[.slice a2 len2 cap2] 34) (.slice a3 len3 cap3) 34
  replace N3 := N3.keep HB
  go_enter Tryz.func7, Tryz.ntmps7
  go_wp2_with fail
  generalize (((w.alloc (.cells #[.slice a0 len0 cap0] 34)).alloc (.cells #[.slice a1 len1 cap1] 34)).alloc (.cells #[.slice a2 len2 cap2] 34)).alloc (.cells #[.slice a3 len3 cap3] 34) = u0 at *
  refine (knownD u0).mono ?_
  rintro e u1 ⟨rfl, hB⟩
  replace N0 := N0.keep hB
  replace P0 := P0.keep hB
  replace N1 := N1.keep hB
  replace P1 := P1.keep hB
  replace N2 := N2.keep hB
  replace P2 := P2.keep hB
  replace N3 := N3.keep hB
  replace P3 := P3.keep hB
  replace c_P0 := P0.cell
  replace c_P1 := P1.cell
  replace c_P2 := P2.cell
  replace c_P3 := P3.cell
  replace HB := joinB HB hB
  clear hB
  have b1 := below_alloc u1 (.cells #[.slice a0 len0 cap0, .slice a1 len1 cap1, .slice a2 len2 cap2, .slice a3 len3 cap3] 34)
  have tS := smallD_any [(a0, len0, cap0), (a1, len1, cap1), (a2, len2, cap2), (a3, len3, cap3)] u1.heap.size 4 4 (u1.alloc (.cells #[.slice a0 len0 cap0, .slice a1 len1 cap1, .slice a2 len2 cap2, .slice a3 len3 cap3] 34)) rfl (by decide)
    (fun i => by
      match i with
      | 0 => exact hm0
      | 1 => exact hm1
      | 2 => exact hm2
      | 3 => exact hm3
      | _ + 4 => exact Nat.zero_le _)
    (fun i hi => by
      rw [cell_new]
      match i, hi with
      | 0, _ => rfl
      | 1, _ => rfl
      | 2, _ => rfl
      | 3, _ => rfl)
  go_wp2_with fail
  refine tS.mono ?_
  rintro e u2 ⟨rfl, rfl⟩
  clear tS
  replace N0 := N0.keep b1
  replace P0 := P0.keep b1
  replace N1 := N1.keep b1
  replace P1 := P1.keep b1
  replace N2 := N2.keep b1
  replace P2 := P2.keep b1
  replace N3 := N3.keep b1
  replace P3 := P3.keep b1
  replace c_P0 := P0.cell
  replace c_P1 := P1.cell
  replace c_P2 := P2.cell
  replace c_P3 := P3.cell
  replace HB := joinB HB b1
  clear b1
  generalize u1.alloc (.cells #[.slice a0 len0 cap0, .slice a1 len1 cap1, .slice a2 len2 cap2, .slice a3 len3 cap3] 34) = u2 at *
  generalize u1.heap.size = gs at *
  by_cases hsm : smallD [(a0, len0, cap0), (a1, len1, cap1), (a2, len2, cap2), (a3, len3, cap3)] = true
  rotate_left
  · have hsf : smallD [(a0, len0, cap0), (a1, len1, cap1), (a2, len2, cap2), (a3, len3, cap3)] = false := by rw [Bool.not_eq_true] at hsm; exact hsm
    rw [hsf]
    go_wp2
    go_ret
    exact ⟨rfl, HB⟩
  rw [hsm]
  simp only [smallD, List.all_cons, List.all_nil, Bool.and_true, Bool.and_eq_true, decide_eq_true_eq] at hsm
  obtain ⟨hs0, hs1, hs2, hs3⟩ := hsm
  by_cases hle : val l0 ≤ val l1
  · have HLE := (show Hid _ from hle)
    have tC := dCmp N0 N1 (by omega) (by omega)
    have hg := sgn_le hle
    generalize sgn _ _ = sg at tC hg
    clear hle
    go_wp2_with fail
    refine (tC).mono ?_
    rintro e x1 ⟨rfl, hB⟩
    replace N0 := N0.keep hB
    replace P0 := P0.keep hB
    replace N1 := N1.keep hB
    replace P1 := P1.keep hB
    replace N2 := N2.keep hB
    replace P2 := P2.keep hB
    replace N3 := N3.keep hB
    replace P3 := P3.keep hB
    replace c_P0 := P0.cell
    replace c_P1 := P1.cell
    replace c_P2 := P2.cell
    replace c_P3 := P3.cell
    replace HB := joinB HB hB
    clear hB
    clear tC
    go_wp2_with fail
    refine (dQuoV N0 (by omega) N2 (by omega)).mono ?_
    rintro e x2 ⟨Aq1, Kq1, Dq1, rfl, Oq1, hkq1, hB⟩
    replace N0 := N0.keep hB
    replace P0 := P0.keep hB
    replace N1 := N1.keep hB
    replace P1 := P1.keep hB
    replace N2 := N2.keep hB
    replace P2 := P2.keep hB
    replace N3 := N3.keep hB
    replace P3 := P3.keep hB
    replace c_P0 := P0.cell
    replace c_P1 := P1.cell
    replace c_P2 := P2.cell
    replace c_P3 := P3.cell
    replace HB := joinB HB hB
    clear hB
    have BA := below_alloc x2 (.cells #[.slice Aq1 Kq1 Dq1] 34)
    have Pq1 := slot_new x2 (.slice Aq1 Kq1 Dq1) 34
    replace N0 := N0.keep BA
    replace P0 := P0.keep BA
    replace N1 := N1.keep BA
    replace P1 := P1.keep BA
    replace N2 := N2.keep BA
    replace P2 := P2.keep BA
    replace N3 := N3.keep BA
    replace P3 := P3.keep BA
    replace Oq1 := Oq1.keep BA
    replace c_P0 := P0.cell
    replace c_P1 := P1.cell
    replace c_P2 := P2.cell
    replace c_P3 := P3.cell
    replace HB := joinB HB BA
    clear BA
    replace c_Pq1 := Pq1.cell
    go_wp2_with fail
    generalize x2.alloc (.cells #[.slice Aq1 Kq1 Dq1] 34) = xx2 at *
    generalize x2.heap.size = gq1 at *
    go_wp2_with fail
    refine (dQuoV N1 (by omega) N2 (by omega)).mono ?_
    rintro e x3 ⟨Aq2, Kq2, Dq2, rfl, Oq2, hkq2, hB⟩
    replace N0 := N0.keep hB
    replace P0 := P0.keep hB
    replace N1 := N1.keep hB
    replace P1 := P1.keep hB
    replace N2 := N2.keep hB
    replace P2 := P2.keep hB
    replace N3 := N3.keep hB
    replace P3 := P3.keep hB
    replace Oq1 := Oq1.keep hB
    replace Pq1 := Pq1.keep hB
    replace c_P0 := P0.cell
    replace c_P1 := P1.cell
    replace c_P2 := P2.cell
    replace c_P3 := P3.cell
    replace c_Pq1 := Pq1.cell
    replace HB := joinB HB hB
    clear hB
    have BA := below_alloc x3 (.cells #[.slice Aq2 Kq2 Dq2] 34)
    have Pq2 := slot_new x3 (.slice Aq2 Kq2 Dq2) 34
    replace N0 := N0.keep BA
    replace P0 := P0.keep BA
    replace N1 := N1.keep BA
    replace P1 := P1.keep BA
    replace N2 := N2.keep BA
    replace P2 := P2.keep BA
    replace N3 := N3.keep BA
    replace P3 := P3.keep BA
    replace Oq1 := Oq1.keep BA
    replace Pq1 := Pq1.keep BA
    replace Oq2 := Oq2.keep BA
    replace c_P0 := P0.cell
    replace c_P1 := P1.cell
    replace c_P2 := P2.cell
    replace c_P3 := P3.cell
    replace c_Pq1 := Pq1.cell
    replace HB := joinB HB BA
    clear BA
    replace c_Pq2 := Pq2.cell
    go_wp2_with fail
    generalize x3.alloc (.cells #[.slice Aq2 Kq2 Dq2] 34) = xx3 at *
    generalize x3.heap.size = gq2 at *
    go_wp2_with fail
    refine (dMulDivV N0 (by omega) N3 (by omega) N2 (by omega)).mono ?_
    rintro e x4 ⟨Am1, Km1, Dm1, rfl, Om1, hkm1, hB⟩
    replace N0 := N0.keep hB
    replace P0 := P0.keep hB
    replace N1 := N1.keep hB
    replace P1 := P1.keep hB
    replace N2 := N2.keep hB
    replace P2 := P2.keep hB
    replace N3 := N3.keep hB
    replace P3 := P3.keep hB
    replace Oq1 := Oq1.keep hB
    replace Pq1 := Pq1.keep hB
    replace Oq2 := Oq2.keep hB
    replace Pq2 := Pq2.keep hB
    replace c_P0 := P0.cell
    replace c_P1 := P1.cell
    replace c_P2 := P2.cell
    replace c_P3 := P3.cell
    replace c_Pq1 := Pq1.cell
    replace c_Pq2 := Pq2.cell
    replace HB := joinB HB hB
    clear hB
    have BA := below_alloc x4 (.cells #[.slice Am1 Km1 Dm1] 34)
    have Pm1 := slot_new x4 (.slice Am1 Km1 Dm1) 34
    replace N0 := N0.keep BA
    replace P0 := P0.keep BA
    replace N1 := N1.keep BA
    replace P1 := P1.keep BA
    replace N2 := N2.keep BA
    replace P2 := P2.keep BA
    replace N3 := N3.keep BA
    replace P3 := P3.keep BA
    replace Oq1 := Oq1.keep BA
    replace Pq1 := Pq1.keep BA
    replace Oq2 := Oq2.keep BA
    replace Pq2 := Pq2.keep BA
    replace Om1 := Om1.keep BA
    replace c_P0 := P0.cell
    replace c_P1 := P1.cell
    replace c_P2 := P2.cell
    replace c_P3 := P3.cell
    replace c_Pq1 := Pq1.cell
    replace c_Pq2 := Pq2.cell
    replace HB := joinB HB BA
    clear BA
    replace c_Pm1 := Pm1.cell
    go_wp2_with fail
    generalize x4.alloc (.cells #[.slice Am1 Km1 Dm1] 34) = xx4 at *
    generalize x4.heap.size = gm1 at *
    go_wp2_with fail
    refine (dMulDivV N1 (by omega) N3 (by omega) N2 (by omega)).mono ?_
    rintro e x5 ⟨Am2, Km2, Dm2, rfl, Om2, hkm2, hB⟩
    replace N0 := N0.keep hB
    replace P0 := P0.keep hB
    replace N1 := N1.keep hB
    replace P1 := P1.keep hB
    replace N2 := N2.keep hB
    replace P2 := P2.keep hB
    replace N3 := N3.keep hB
    replace P3 := P3.keep hB
    replace Oq1 := Oq1.keep hB
    replace Pq1 := Pq1.keep hB
    replace Oq2 := Oq2.keep hB
    replace Pq2 := Pq2.keep hB
    replace Om1 := Om1.keep hB
    replace Pm1 := Pm1.keep hB
    replace c_P0 := P0.cell
    replace c_P1 := P1.cell
    replace c_P2 := P2.cell
    replace c_P3 := P3.cell
    replace c_Pq1 := Pq1.cell
    replace c_Pq2 := Pq2.cell
    replace c_Pm1 := Pm1.cell
    replace HB := joinB HB hB
    clear hB
    have BA := below_alloc x5 (.cells #[.slice Am2 Km2 Dm2] 34)
    have Pm2 := slot_new x5 (.slice Am2 Km2 Dm2) 34
    replace N0 := N0.keep BA
    replace P0 := P0.keep BA
    replace N1 := N1.keep BA
    replace P1 := P1.keep BA
    replace N2 := N2.keep BA
    replace P2 := P2.keep BA
    replace N3 := N3.keep BA
    replace P3 := P3.keep BA
    replace Oq1 := Oq1.keep BA
    replace Pq1 := Pq1.keep BA
    replace Oq2 := Oq2.keep BA
    replace Pq2 := Pq2.keep BA
    replace Om1 := Om1.keep BA
    replace Pm1 := Pm1.keep BA
    replace Om2 := Om2.keep BA
    replace c_P0 := P0.cell
    replace c_P1 := P1.cell
    replace c_P2 := P2.cell
    replace c_P3 := P3.cell
    replace c_Pq1 := Pq1.cell
    replace c_Pq2 := Pq2.cell
    replace c_Pm1 := Pm1.cell
    replace HB := joinB HB BA
    clear BA
    replace c_Pm2 := Pm2.cell
    go_wp2_with fail
    generalize x5.alloc (.cells #[.slice Am2 Km2 Dm2] 34) = xx5 at *
    generalize x5.heap.size = gm2 at *
    go_wp2_with fail
    refine (dOverV N0 (by omega) (by omega) (by omega)).mono ?_
    rintro e x6 ⟨Av1, Kv1, Dv1, rfl, Ov1, hkv1, hB⟩
    replace N0 := N0.keep hB
    replace P0 := P0.keep hB
    replace N1 := N1.keep hB
    replace P1 := P1.keep hB
    replace N2 := N2.keep hB
    replace P2 := P2.keep hB
    replace N3 := N3.keep hB
    replace P3 := P3.keep hB
    replace Oq1 := Oq1.keep hB
    replace Pq1 := Pq1.keep hB
    replace Oq2 := Oq2.keep hB
    replace Pq2 := Pq2.keep hB
    replace Om1 := Om1.keep hB
    replace Pm1 := Pm1.keep hB
    replace Om2 := Om2.keep hB
    replace Pm2 := Pm2.keep hB
    replace c_P0 := P0.cell
    replace c_P1 := P1.cell
    replace c_P2 := P2.cell
    replace c_P3 := P3.cell
    replace c_Pq1 := Pq1.cell
    replace c_Pq2 := Pq2.cell
    replace c_Pm1 := Pm1.cell
    replace c_Pm2 := Pm2.cell
    replace HB := joinB HB hB
    clear hB
    have BA := below_alloc x6 (.cells #[.slice Av1 Kv1 Dv1] 34)
    have Pv1 := slot_new x6 (.slice Av1 Kv1 Dv1) 34
    replace N0 := N0.keep BA
    replace P0 := P0.keep BA
    replace N1 := N1.keep BA
    replace P1 := P1.keep BA
    replace N2 := N2.keep BA
    replace P2 := P2.keep BA
    replace N3 := N3.keep BA
    replace P3 := P3.keep BA
    replace Oq1 := Oq1.keep BA
    replace Pq1 := Pq1.keep BA
    replace Oq2 := Oq2.keep BA
    replace Pq2 := Pq2.keep BA
    replace Om1 := Om1.keep BA
    replace Pm1 := Pm1.keep BA
    replace Om2 := Om2.keep BA
    replace Pm2 := Pm2.keep BA
    replace Ov1 := Ov1.keep BA
    replace c_P0 := P0.cell
    replace c_P1 := P1.cell
    replace c_P2 := P2.cell
    replace c_P3 := P3.cell
    replace c_Pq1 := Pq1.cell
    replace c_Pq2 := Pq2.cell
    replace c_Pm1 := Pm1.cell
    replace c_Pm2 := Pm2.cell
    replace HB := joinB HB BA
    clear BA
    replace c_Pv1 := Pv1.cell
    go_wp2_with fail
    generalize x6.alloc (.cells #[.slice Av1 Kv1 Dv1] 34) = xx6 at *
    generalize x6.heap.size = gv1 at *
    go_wp2_with fail
    refine (dOverV N1 (by omega) (by omega) (by omega)).mono ?_
    rintro e x7 ⟨Av2, Kv2, Dv2, rfl, Ov2, hkv2, hB⟩
    replace N0 := N0.keep hB
    replace P0 := P0.keep hB
    replace N1 := N1.keep hB
    replace P1 := P1.keep hB
    replace N2 := N2.keep hB
    replace P2 := P2.keep hB
    replace N3 := N3.keep hB
    replace P3 := P3.keep hB
    replace Oq1 := Oq1.keep hB
    replace Pq1 := Pq1.keep hB
    replace Oq2 := Oq2.keep hB
    replace Pq2 := Pq2.keep hB
    replace Om1 := Om1.keep hB
    replace Pm1 := Pm1.keep hB
    replace Om2 := Om2.keep hB
    replace Pm2 := Pm2.keep hB
    replace Ov1 := Ov1.keep hB
    replace Pv1 := Pv1.keep hB
    replace c_P0 := P0.cell
    replace c_P1 := P1.cell
    replace c_P2 := P2.cell
    replace c_P3 := P3.cell
    replace c_Pq1 := Pq1.cell
    replace c_Pq2 := Pq2.cell
    replace c_Pm1 := Pm1.cell
    replace c_Pm2 := Pm2.cell
    replace c_Pv1 := Pv1.cell
    replace HB := joinB HB hB
    clear hB
    have BA := below_alloc x7 (.cells #[.slice Av2 Kv2 Dv2] 34)
    have Pv2 := slot_new x7 (.slice Av2 Kv2 Dv2) 34
    replace N0 := N0.keep BA
    replace P0 := P0.keep BA
    replace N1 := N1.keep BA
    replace P1 := P1.keep BA
    replace N2 := N2.keep BA
    replace P2 := P2.keep BA
    replace N3 := N3.keep BA
    replace P3 := P3.keep BA
    replace Oq1 := Oq1.keep BA
    replace Pq1 := Pq1.keep BA
    replace Oq2 := Oq2.keep BA
    replace Pq2 := Pq2.keep BA
    replace Om1 := Om1.keep BA
    replace Pm1 := Pm1.keep BA
    replace Om2 := Om2.keep BA
    replace Pm2 := Pm2.keep BA
    replace Ov1 := Ov1.keep BA
    replace Pv1 := Pv1.keep BA
    replace Ov2 := Ov2.keep BA
    replace c_P0 := P0.cell
    replace c_P1 := P1.cell
    replace c_P2 := P2.cell
    replace c_P3 := P3.cell
    replace c_Pq1 := Pq1.cell
    replace c_Pq2 := Pq2.cell
    replace c_Pm1 := Pm1.cell
    replace c_Pm2 := Pm2.cell
    replace c_Pv1 := Pv1.cell
    replace HB := joinB HB BA
    clear BA
    replace c_Pv2 := Pv2.cell
    go_wp2_with fail
    generalize x7.alloc (.cells #[.slice Av2 Kv2 Dv2] 34) = xx7 at *
    generalize x7.heap.size = gv2 at *
    generalize decE (val l2) = E2 at *
    generalize decE y4 = E4 at *
    go_wp2_with fail
    refine rg_start (S := fun w' => Below xx7.drew.heap.size xx7.drew w') (by kernel_rfl) (Below.refl _ _) ?_
    replace N0 := N0.drew
    replace P0 := P0.drew
    replace N1 := N1.drew
    replace P1 := P1.drew
    replace N2 := N2.drew
    replace P2 := P2.drew
    replace N3 := N3.drew
    replace P3 := P3.drew
    replace Oq1 := Oq1.drew
    replace Pq1 := Pq1.drew
    replace Oq2 := Oq2.drew
    replace Pq2 := Pq2.drew
    replace Om1 := Om1.drew
    replace Pm1 := Pm1.drew
    replace Om2 := Om2.drew
    replace Pm2 := Pm2.drew
    replace Ov1 := Ov1.drew
    replace Pv1 := Pv1.drew
    replace Ov2 := Ov2.drew
    replace Pv2 := Pv2.drew
    replace HB := HB.drew
    have UP0 := P0
    clear c_P0
    have UP1 := P1
    clear c_P1
    have UP2 := P2
    clear c_P2
    have UP3 := P3
    clear c_P3
    have UPq1 := Pq1
    clear c_Pq1
    have UPq2 := Pq2
    clear c_Pq2
    have UPm1 := Pm1
    clear c_Pm1
    have UPm2 := Pm2
    clear c_Pm2
    have UPv1 := Pv1
    clear c_Pv1
    have UPv2 := Pv2
    clear c_Pv2
    have hS := Below.refl xx7.drew.heap.size xx7.drew
    clear P0 P1 P2 P3 Pq1 Pq2 Pm1 Pm2 Pv1 Pv2
    refine rg_take 0 (some 76) (.int .i64 E2) (by kernel_rfl) (fun _ _ => by kernel_rfl) (fun _ _ _ h => h) hS ?_
    refine rg_take 1 (some 77) (.int .i64 E2) (by kernel_rfl) (fun _ _ => by kernel_rfl) (fun _ _ _ h => h) hS ?_
    refine rg_eq 2 (some 78) (.bool ((E2 : Int) == E2)) (.bool true) (by rw [beq_self_eq_true]) (by kernel_rfl) (fun _ _ => by kernel_rfl) (fun _ _ _ h => h) hS ?_
    refine rg_take 3 (some 79) (.bool true) (by kernel_rfl) (fun _ _ => by kernel_rfl) (fun _ _ _ h => h) hS ?_
    refine rg_take 4 (some 80) (.int .i64 E2) (by kernel_rfl) (fun _ _ => by kernel_rfl) (fun _ _ _ h => h) hS ?_
    refine rg_take 5 (some 81) (.int .i64 E2) (by kernel_rfl) (fun _ _ => by kernel_rfl) (fun _ _ _ h => h) hS ?_
    refine rg_eq 6 (some 82) (.bool ((E2 : Int) == E2)) (.bool true) (by rw [beq_self_eq_true]) (by kernel_rfl) (fun _ _ => by kernel_rfl) (fun _ _ _ h => h) hS ?_
    refine rg_take 7 (some 83) (.bool true) (by kernel_rfl) (fun _ _ => by kernel_rfl) (fun _ _ _ h => h) hS ?_
    refine rg_take 8 (some 84) (.bool true) (by kernel_rfl) (fun _ _ => by kernel_rfl) (fun _ _ _ h => h) hS ?_
    refine rg_take 9 (some 85) (.int .i64 E4) (by kernel_rfl) (fun _ _ => by kernel_rfl) (fun _ _ _ h => h) hS ?_
    refine rg_take 10 (some 86) (.int .i64 E4) (by kernel_rfl) (fun _ _ => by kernel_rfl) (fun _ _ _ h => h) hS ?_
    refine rg_eq 11 (some 87) (.bool ((E4 : Int) == E4)) (.bool true) (by rw [beq_self_eq_true]) (by kernel_rfl) (fun _ _ => by kernel_rfl) (fun _ _ _ h => h) hS ?_
    refine rg_take 12 (some 88) (.bool true) (by kernel_rfl) (fun _ _ => by kernel_rfl) (fun _ _ _ h => h) hS ?_
    refine rg_take 13 (some 89) (.bool true) (by kernel_rfl) (fun _ _ => by kernel_rfl) (fun _ _ _ h => h) hS ?_
    refine rg_load 14 (some 90) (.agg #[.slice Aq1 Kq1 Dq1]) 34 11 (gq1) 0 (by kernel_rfl) (by kernel_rfl) (by kernel_rfl) (fun _ hb => load_dec (UPq1.keep hb)) (fun _ _ _ h => h) hS ?_
    refine rg_load 15 (some 91) (.agg #[.slice Aq2 Kq2 Dq2]) 34 13 (gq2) 0 (by kernel_rfl) (by kernel_rfl) (by kernel_rfl) (fun _ hb => load_dec (UPq2.keep hb)) (fun _ _ _ h => h) hS ?_
    have tD := dCmp Oq1.a Oq2.a (by omega) (by omega)
    have hg1 : sgn (val l0 * U36 / val l2) (val l1 * U36 / val l2) ≤ 0 := sgn_le (div_mono (mul_mono HLE.out (by decide)) v2)
    generalize sgn _ _ = sg1 at tD hg1
    refine rg_call 16 (some 92) 32 #[.agg #[.slice Aq1 Kq1 Dq1], .agg #[.slice Aq2 Kq2 Dq2]] (by kernel_rfl) (by kernel_rfl) (tD) ?_
    rintro e r1 ⟨rfl, hB⟩
    refine ⟨_, rfl, joinB hS hB, ?_⟩
    replace hS := joinB hS hB
    replace N0 := N0.keep hB
    replace N1 := N1.keep hB
    replace N2 := N2.keep hB
    replace N3 := N3.keep hB
    replace Oq1 := Oq1.keep hB
    replace Oq2 := Oq2.keep hB
    replace Om1 := Om1.keep hB
    replace Om2 := Om2.keep hB
    replace Ov1 := Ov1.keep hB
    replace Ov2 := Ov2.keep hB
    replace HB := joinB HB hB
    clear hB
    clear tD
    refine rg_eq 17 (some 93) (.bool (decide ((sg1 : Int) ≤ (0 : Int)))) (.bool true) (by rw [decide_eq_true hg1]) (by kernel_rfl) (fun _ _ => by kernel_rfl) (fun _ _ _ h => h) hS ?_
    refine rg_take 18 (some 94) (.bool true) (by kernel_rfl) (fun _ _ => by kernel_rfl) (fun _ _ _ h => h) hS ?_
    refine rg_take 19 (some 95) (.bool true) (by kernel_rfl) (fun _ _ => by kernel_rfl) (fun _ _ _ h => h) hS ?_
    refine rg_load 20 (some 96) (.agg #[.slice Am1 Km1 Dm1]) 34 15 (gm1) 0 (by kernel_rfl) (by kernel_rfl) (by kernel_rfl) (fun _ hb => load_dec (UPm1.keep hb)) (fun _ _ _ h => h) hS ?_
    refine rg_load 21 (some 97) (.agg #[.slice Am2 Km2 Dm2]) 34 17 (gm2) 0 (by kernel_rfl) (by kernel_rfl) (by kernel_rfl) (fun _ hb => load_dec (UPm2.keep hb)) (fun _ _ _ h => h) hS ?_
    have tD := dCmp Om1.a Om2.a (by omega) (by omega)
    have hg2 : sgn (val l0 * val l3 / val l2) (val l1 * val l3 / val l2) ≤ 0 := sgn_le (div_mono (mul_mono HLE.out v3) v2)
    generalize sgn _ _ = sg2 at tD hg2
    refine rg_call 22 (some 98) 32 #[.agg #[.slice Am1 Km1 Dm1], .agg #[.slice Am2 Km2 Dm2]] (by kernel_rfl) (by kernel_rfl) (tD) ?_
    rintro e r2 ⟨rfl, hB⟩
    refine ⟨_, rfl, joinB hS hB, ?_⟩
    replace hS := joinB hS hB
    replace N0 := N0.keep hB
    replace N1 := N1.keep hB
    replace N2 := N2.keep hB
    replace N3 := N3.keep hB
    replace Oq1 := Oq1.keep hB
    replace Oq2 := Oq2.keep hB
    replace Om1 := Om1.keep hB
    replace Om2 := Om2.keep hB
    replace Ov1 := Ov1.keep hB
    replace Ov2 := Ov2.keep hB
    replace HB := joinB HB hB
    clear hB
    clear tD
    refine rg_eq 23 (some 99) (.bool (decide ((sg2 : Int) ≤ (0 : Int)))) (.bool true) (by rw [decide_eq_true hg2]) (by kernel_rfl) (fun _ _ => by kernel_rfl) (fun _ _ _ h => h) hS ?_
    refine rg_take 24 (some 100) (.bool true) (by kernel_rfl) (fun _ _ => by kernel_rfl) (fun _ _ _ h => h) hS ?_
    refine rg_take 25 (some 101) (.bool true) (by kernel_rfl) (fun _ _ => by kernel_rfl) (fun _ _ _ h => h) hS ?_
    refine rg_load 26 (some 102) (.agg #[.slice Av1 Kv1 Dv1]) 34 19 (gv1) 0 (by kernel_rfl) (by kernel_rfl) (by kernel_rfl) (fun _ hb => load_dec (UPv1.keep hb)) (fun _ _ _ h => h) hS ?_
    refine rg_load 27 (some 103) (.agg #[.slice Av2 Kv2 Dv2]) 34 21 (gv2) 0 (by kernel_rfl) (by kernel_rfl) (by kernel_rfl) (fun _ hb => load_dec (UPv2.keep hb)) (fun _ _ _ h => h) hS ?_
    have tD := dCmp Ov1.a Ov2.a (by omega) (by omega)
    have hg3 : sgn (val l0 / y4) (val l1 / y4) ≤ 0 := sgn_le (div_mono HLE.out (by omega))
    generalize sgn _ _ = sg3 at tD hg3
    refine rg_call 28 (some 104) 32 #[.agg #[.slice Av1 Kv1 Dv1], .agg #[.slice Av2 Kv2 Dv2]] (by kernel_rfl) (by kernel_rfl) (tD) ?_
    rintro e r3 ⟨rfl, hB⟩
    refine ⟨_, rfl, joinB hS hB, ?_⟩
    replace hS := joinB hS hB
    replace N0 := N0.keep hB
    replace N1 := N1.keep hB
    replace N2 := N2.keep hB
    replace N3 := N3.keep hB
    replace Oq1 := Oq1.keep hB
    replace Oq2 := Oq2.keep hB
    replace Om1 := Om1.keep hB
    replace Om2 := Om2.keep hB
    replace Ov1 := Ov1.keep hB
    replace Ov2 := Ov2.keep hB
    replace HB := joinB HB hB
    clear hB
    clear tD
    refine rg_eq 29 (some 105) (.bool (decide ((sg3 : Int) ≤ (0 : Int)))) (.bool true) (by rw [decide_eq_true hg3]) (by kernel_rfl) (fun _ _ => by kernel_rfl) (fun _ _ _ h => h) hS ?_
    refine rg_take 30 (some 106) (.bool true) (by kernel_rfl) (fun _ _ => by kernel_rfl) (fun _ _ _ h => h) hS ?_
    refine rg_take 31 (some 107) (.bool true) (by kernel_rfl) (fun _ _ => by kernel_rfl) (fun _ _ _ h => h) hS ?_
    refine rg_load 32 (some 108) (.agg #[.slice a0 len0 cap0]) 34 5 (w.heap.size) 0 (by kernel_rfl) (by kernel_rfl) (by kernel_rfl) (fun _ hb => load_dec (UP0.keep hb)) (fun _ _ _ h => h) hS ?_
    refine rg_load 33 (some 109) (.agg #[.slice a2 len2 cap2]) 34 7 (w.heap.size + 1 + 1) 0 (by kernel_rfl) (by kernel_rfl) (by kernel_rfl) (fun _ hb => load_dec (UP2.keep hb)) (fun _ _ _ h => h) hS ?_
    refine rg_load 35 (some 111) (.agg #[.slice a1 len1 cap1]) 34 6 (w.heap.size + 1) 0 (by kernel_rfl) (by kernel_rfl) (by kernel_rfl) (fun _ hb => load_dec (UP1.keep hb)) (fun _ _ _ h => h) hS ?_
    refine rg_load 36 (some 112) (.agg #[.slice a2 len2 cap2]) 34 7 (w.heap.size + 1 + 1) 0 (by kernel_rfl) (by kernel_rfl) (by kernel_rfl) (fun _ hb => load_dec (UP2.keep hb)) (fun _ _ _ h => h) hS ?_
    refine rg_call 34 (some 110) 45 #[.agg #[.slice a0 len0 cap0], .agg #[.slice a2 len2 cap2]] (by kernel_rfl) (by kernel_rfl) (dMul N0 (by omega) N2 (by omega)) ?_
    rintro e r4 ⟨Ap1, Kp1, Dp1, rfl, Op1, hkp1, hB⟩
    refine ⟨_, rfl, joinB hS hB, ?_⟩
    replace hS := joinB hS hB
    replace N0 := N0.keep hB
    replace N1 := N1.keep hB
    replace N2 := N2.keep hB
    replace N3 := N3.keep hB
    replace Oq1 := Oq1.keep hB
    replace Oq2 := Oq2.keep hB
    replace Om1 := Om1.keep hB
    replace Om2 := Om2.keep hB
    replace Ov1 := Ov1.keep hB
    replace Ov2 := Ov2.keep hB
    replace HB := joinB HB hB
    clear hB
    refine rg_call 37 (some 113) 45 #[.agg #[.slice a1 len1 cap1], .agg #[.slice a2 len2 cap2]] (by kernel_rfl) (by kernel_rfl) (dMul N1 (by omega) N2 (by omega)) ?_
    rintro e r5 ⟨Ap2, Kp2, Dp2, rfl, Op2, hkp2, hB⟩
    refine ⟨_, rfl, joinB hS hB, ?_⟩
    replace hS := joinB hS hB
    replace N0 := N0.keep hB
    replace N1 := N1.keep hB
    replace N2 := N2.keep hB
    replace N3 := N3.keep hB
    replace Oq1 := Oq1.keep hB
    replace Oq2 := Oq2.keep hB
    replace Om1 := Om1.keep hB
    replace Om2 := Om2.keep hB
    replace Ov1 := Ov1.keep hB
    replace Ov2 := Ov2.keep hB
    replace Op1 := Op1.keep hB
    replace HB := joinB HB hB
    clear hB
    have tD := dCmp Op1.a Op2.a (by omega) (by omega)
    have hg4 : sgn (val l0 * val l2 / U36) (val l1 * val l2 / U36) ≤ 0 := sgn_le (div_mono (mul_mono HLE.out v2) (by decide))
    generalize sgn _ _ = sg4 at tD hg4
    refine rg_call 38 (some 114) 32 #[.agg #[.slice Ap1 Kp1 Dp1], .agg #[.slice Ap2 Kp2 Dp2]] (by kernel_rfl) (by kernel_rfl) (tD) ?_
    rintro e r6 ⟨rfl, hB⟩
    refine ⟨_, rfl, joinB hS hB, ?_⟩
    replace hS := joinB hS hB
    replace N0 := N0.keep hB
    replace N1 := N1.keep hB
    replace N2 := N2.keep hB
    replace N3 := N3.keep hB
    replace Oq1 := Oq1.keep hB
    replace Oq2 := Oq2.keep hB
    replace Om1 := Om1.keep hB
    replace Om2 := Om2.keep hB
    replace Ov1 := Ov1.keep hB
    replace Ov2 := Ov2.keep hB
    replace Op1 := Op1.keep hB
    replace Op2 := Op2.keep hB
    replace HB := joinB HB hB
    clear hB
    clear tD
    refine rg_eq 39 (some 115) (.bool (decide ((sg4 : Int) ≤ (0 : Int)))) (.bool true) (by rw [decide_eq_true hg4]) (by kernel_rfl) (fun _ _ => by kernel_rfl) (fun _ _ _ h => h) hS ?_
    refine rg_take 40 (some 116) (.bool true) (by kernel_rfl) (fun _ _ => by kernel_rfl) (fun _ _ _ h => h) hS ?_
    refine rg_take 41 (some 117) (.bool true) (by kernel_rfl) (fun _ _ => by kernel_rfl) (fun _ _ _ h => h) hS ?_
    refine rg_load 42 (some 118) (.agg #[.slice a0 len0 cap0]) 34 5 (w.heap.size) 0 (by kernel_rfl) (by kernel_rfl) (by kernel_rfl) (fun _ hb => load_dec (UP0.keep hb)) (fun _ _ _ h => h) hS ?_
    refine rg_load 43 (some 119) (.agg #[.slice a2 len2 cap2]) 34 7 (w.heap.size + 1 + 1) 0 (by kernel_rfl) (by kernel_rfl) (by kernel_rfl) (fun _ hb => load_dec (UP2.keep hb)) (fun _ _ _ h => h) hS ?_
    refine rg_load 45 (some 121) (.agg #[.slice a1 len1 cap1]) 34 6 (w.heap.size + 1) 0 (by kernel_rfl) (by kernel_rfl) (by kernel_rfl) (fun _ hb => load_dec (UP1.keep hb)) (fun _ _ _ h => h) hS ?_
    refine rg_load 46 (some 122) (.agg #[.slice a2 len2 cap2]) 34 7 (w.heap.size + 1 + 1) 0 (by kernel_rfl) (by kernel_rfl) (by kernel_rfl) (fun _ hb => load_dec (UP2.keep hb)) (fun _ _ _ h => h) hS ?_
    refine rg_call 44 (some 120) 17 #[.agg #[.slice a0 len0 cap0], .agg #[.slice a2 len2 cap2]] (by kernel_rfl) (by kernel_rfl) (dAdd N0 N2 (by omega) (by omega)) ?_
    rintro e r7 ⟨Ar1, Kr1, Dr1, rfl, Or1, hkr1, hB⟩
    refine ⟨_, rfl, joinB hS hB, ?_⟩
    replace hS := joinB hS hB
    replace N0 := N0.keep hB
    replace N1 := N1.keep hB
    replace N2 := N2.keep hB
    replace N3 := N3.keep hB
    replace Oq1 := Oq1.keep hB
    replace Oq2 := Oq2.keep hB
    replace Om1 := Om1.keep hB
    replace Om2 := Om2.keep hB
    replace Ov1 := Ov1.keep hB
    replace Ov2 := Ov2.keep hB
    replace Op1 := Op1.keep hB
    replace Op2 := Op2.keep hB
    replace HB := joinB HB hB
    clear hB
    refine rg_call 47 (some 123) 17 #[.agg #[.slice a1 len1 cap1], .agg #[.slice a2 len2 cap2]] (by kernel_rfl) (by kernel_rfl) (dAdd N1 N2 (by omega) (by omega)) ?_
    rintro e r8 ⟨Ar2, Kr2, Dr2, rfl, Or2, hkr2, hB⟩
    refine ⟨_, rfl, joinB hS hB, ?_⟩
    replace hS := joinB hS hB
    replace N0 := N0.keep hB
    replace N1 := N1.keep hB
    replace N2 := N2.keep hB
    replace N3 := N3.keep hB
    replace Oq1 := Oq1.keep hB
    replace Oq2 := Oq2.keep hB
    replace Om1 := Om1.keep hB
    replace Om2 := Om2.keep hB
    replace Ov1 := Ov1.keep hB
    replace Ov2 := Ov2.keep hB
    replace Op1 := Op1.keep hB
    replace Op2 := Op2.keep hB
    replace Or1 := Or1.keep hB
    replace HB := joinB HB hB
    clear hB
    have tD := dCmp Or1.a Or2.a (by omega) (by omega)
    have hg5 : sgn (val l0 + val l2) (val l1 + val l2) ≤ 0 := sgn_le (Int.add_le_add_right HLE.out _)
    generalize sgn _ _ = sg5 at tD hg5
    refine rg_call 48 (some 124) 32 #[.agg #[.slice Ar1 Kr1 Dr1], .agg #[.slice Ar2 Kr2 Dr2]] (by kernel_rfl) (by kernel_rfl) (tD) ?_
    rintro e r9 ⟨rfl, hB⟩
    refine ⟨_, rfl, joinB hS hB, ?_⟩
    replace hS := joinB hS hB
    replace N0 := N0.keep hB
    replace N1 := N1.keep hB
    replace N2 := N2.keep hB
    replace N3 := N3.keep hB
    replace Oq1 := Oq1.keep hB
    replace Oq2 := Oq2.keep hB
    replace Om1 := Om1.keep hB
    replace Om2 := Om2.keep hB
    replace Ov1 := Ov1.keep hB
    replace Ov2 := Ov2.keep hB
    replace Op1 := Op1.keep hB
    replace Op2 := Op2.keep hB
    replace Or1 := Or1.keep hB
    replace Or2 := Or2.keep hB
    replace HB := joinB HB hB
    clear hB
    clear tD
    refine rg_eq 49 (some 125) (.bool (decide ((sg5 : Int) ≤ (0 : Int)))) (.bool true) (by rw [decide_eq_true hg5]) (by kernel_rfl) (fun _ _ => by kernel_rfl) (fun _ _ _ h => h) hS ?_
    refine rg_take 50 (some 126) (.bool true) (by kernel_rfl) (fun _ _ => by kernel_rfl) (fun _ _ _ h => h) hS ?_
    refine rg_take 51 (some 10) (.bool true) (by kernel_rfl) (fun _ _ => by kernel_rfl) (fun _ _ _ h => h) hS ?_
    refine rg_done (by kernel_rfl) ?_
    try simp only [Act.put, List.setIfInBounds_toArray, List.set_cons_zero, List.set_cons_succ]
    go_wp2
    go_ret
    exact ⟨rfl, HB⟩
  · have HLE := (show Hid (val l1 ≤ val l0) from (show val l1 ≤ val l0 by omega))
    have tC := dCmp N0 N1 (by omega) (by omega)
    have hg : 0 < sgn (val l0) (val l1) := by rw [sgn_gt (by omega)]; decide
    generalize sgn _ _ = sg at tC hg
    clear hle
    go_wp2_with fail
    refine (tC).mono ?_
    rintro e x1 ⟨rfl, hB⟩
    replace N0 := N0.keep hB
    replace P0 := P0.keep hB
    replace N1 := N1.keep hB
    replace P1 := P1.keep hB
    replace N2 := N2.keep hB
    replace P2 := P2.keep hB
    replace N3 := N3.keep hB
    replace P3 := P3.keep hB
    replace c_P0 := P0.cell
    replace c_P1 := P1.cell
    replace c_P2 := P2.cell
    replace c_P3 := P3.cell
    replace HB := joinB HB hB
    clear hB
    clear tC
    have f0 := P0.free
    have f1 := P1.free
    have hne01 : w.heap.size ≠ w.heap.size + 1 := by omega
    have hne10 : w.heap.size + 1 ≠ w.heap.size := by omega
    have Q0 := (P0.put (.slice a1 len1 cap1)).other hne01 (.slice a0 len0 cap0)
    have Q1 := (P1.other hne10 (.slice a1 len1 cap1)).put (.slice a0 len0 cap0)
    have M0 := (N0.put P0 not_int (.slice a1 len1 cap1)).put (P1.other hne10 (.slice a1 len1 cap1)) not_int (.slice a0 len0 cap0)
    have M1 := (N1.put P0 not_int (.slice a1 len1 cap1)).put (P1.other hne10 (.slice a1 len1 cap1)) not_int (.slice a0 len0 cap0)
    have M2 := (N2.put P0 not_int (.slice a1 len1 cap1)).put (P1.other hne10 (.slice a1 len1 cap1)) not_int (.slice a0 len0 cap0)
    have M3 := (N3.put P0 not_int (.slice a1 len1 cap1)).put (P1.other hne10 (.slice a1 len1 cap1)) not_int (.slice a0 len0 cap0)
    have Q2 := (P2.other (show w.heap.size + 1 + 1 ≠ w.heap.size by omega) (.slice a1 len1 cap1)).other (show w.heap.size + 1 + 1 ≠ w.heap.size + 1 by omega) (.slice a0 len0 cap0)
    have Q3 := (P3.other (show w.heap.size + 1 + 1 + 1 ≠ w.heap.size by omega) (.slice a1 len1 cap1)).other (show w.heap.size + 1 + 1 + 1 ≠ w.heap.size + 1 by omega) (.slice a0 len0 cap0)
    have HB2 := (HB.setCell (p := ⟨w.heap.size, 0, none⟩) (Nat.le_refl _) (.slice a1 len1 cap1)).setCell (p := ⟨w.heap.size + 1, 0, none⟩) (by show w.heap.size ≤ w.heap.size + 1; omega) (.slice a0 len0 cap0)
    clear N0 N1 N2 N3 HB
    go_wp2_with fail
    clear P0 P1 P2 P3 c_P0 c_P1 c_P2 c_P3 f0 f1
    generalize (x1.setCell ⟨w.heap.size, 0, none⟩ (.slice a1 len1 cap1)).setCell ⟨w.heap.size + 1, 0, none⟩ (.slice a0 len0 cap0) = z1 at *
    have N0 := M0
    have P0 := Q0
    clear M0 Q0
    replace c_P0 := P0.cell
    have N1 := M1
    have P1 := Q1
    clear M1 Q1
    replace c_P1 := P1.cell
    have N2 := M2
    have P2 := Q2
    clear M2 Q2
    replace c_P2 := P2.cell
    have N3 := M3
    have P3 := Q3
    clear M3 Q3
    replace c_P3 := P3.cell
    have HB := HB2
    clear HB2
    go_wp2_with fail
    refine (dQuoV N1 (by omega) N2 (by omega)).mono ?_
    rintro e x2 ⟨Aq1, Kq1, Dq1, rfl, Oq1, hkq1, hB⟩
    replace N0 := N0.keep hB
    replace P0 := P0.keep hB
    replace N1 := N1.keep hB
    replace P1 := P1.keep hB
    replace N2 := N2.keep hB
    replace P2 := P2.keep hB
    replace N3 := N3.keep hB
    replace P3 := P3.keep hB
    replace c_P0 := P0.cell
    replace c_P1 := P1.cell
    replace c_P2 := P2.cell
    replace c_P3 := P3.cell
    replace HB := joinB HB hB
    clear hB
    have BA := below_alloc x2 (.cells #[.slice Aq1 Kq1 Dq1] 34)
    have Pq1 := slot_new x2 (.slice Aq1 Kq1 Dq1) 34
    replace N0 := N0.keep BA
    replace P0 := P0.keep BA
    replace N1 := N1.keep BA
    replace P1 := P1.keep BA
    replace N2 := N2.keep BA
    replace P2 := P2.keep BA
    replace N3 := N3.keep BA
    replace P3 := P3.keep BA
    replace Oq1 := Oq1.keep BA
    replace c_P0 := P0.cell
    replace c_P1 := P1.cell
    replace c_P2 := P2.cell
    replace c_P3 := P3.cell
    replace HB := joinB HB BA
    clear BA
    replace c_Pq1 := Pq1.cell
    go_wp2_with fail
    generalize x2.alloc (.cells #[.slice Aq1 Kq1 Dq1] 34) = xx2 at *
    generalize x2.heap.size = gq1 at *
    go_wp2_with fail
    refine (dQuoV N0 (by omega) N2 (by omega)).mono ?_
    rintro e x3 ⟨Aq2, Kq2, Dq2, rfl, Oq2, hkq2, hB⟩
    replace N0 := N0.keep hB
    replace P0 := P0.keep hB
    replace N1 := N1.keep hB
    replace P1 := P1.keep hB
    replace N2 := N2.keep hB
    replace P2 := P2.keep hB
    replace N3 := N3.keep hB
    replace P3 := P3.keep hB
    replace Oq1 := Oq1.keep hB
    replace Pq1 := Pq1.keep hB
    replace c_P0 := P0.cell
    replace c_P1 := P1.cell
    replace c_P2 := P2.cell
    replace c_P3 := P3.cell
    replace c_Pq1 := Pq1.cell
    replace HB := joinB HB hB
    clear hB
    have BA := below_alloc x3 (.cells #[.slice Aq2 Kq2 Dq2] 34)
    have Pq2 := slot_new x3 (.slice Aq2 Kq2 Dq2) 34
    replace N0 := N0.keep BA
    replace P0 := P0.keep BA
    replace N1 := N1.keep BA
    replace P1 := P1.keep BA
    replace N2 := N2.keep BA
    replace P2 := P2.keep BA
    replace N3 := N3.keep BA
    replace P3 := P3.keep BA
    replace Oq1 := Oq1.keep BA
    replace Pq1 := Pq1.keep BA
    replace Oq2 := Oq2.keep BA
    replace c_P0 := P0.cell
    replace c_P1 := P1.cell
    replace c_P2 := P2.cell
    replace c_P3 := P3.cell
    replace c_Pq1 := Pq1.cell
    replace HB := joinB HB BA
    clear BA
    replace c_Pq2 := Pq2.cell
    go_wp2_with fail
    generalize x3.alloc (.cells #[.slice Aq2 Kq2 Dq2] 34) = xx3 at *
    generalize x3.heap.size = gq2 at *
    go_wp2_with fail
    refine (dMulDivV N1 (by omega) N3 (by omega) N2 (by omega)).mono ?_
    rintro e x4 ⟨Am1, Km1, Dm1, rfl, Om1, hkm1, hB⟩
    replace N0 := N0.keep hB
    replace P0 := P0.keep hB
    replace N1 := N1.keep hB
    replace P1 := P1.keep hB
    replace N2 := N2.keep hB
    replace P2 := P2.keep hB
    replace N3 := N3.keep hB
    replace P3 := P3.keep hB
    replace Oq1 := Oq1.keep hB
    replace Pq1 := Pq1.keep hB
    replace Oq2 := Oq2.keep hB
    replace Pq2 := Pq2.keep hB
    replace c_P0 := P0.cell
    replace c_P1 := P1.cell
    replace c_P2 := P2.cell
    replace c_P3 := P3.cell
    replace c_Pq1 := Pq1.cell
    replace c_Pq2 := Pq2.cell
    replace HB := joinB HB hB
    clear hB
    have BA := below_alloc x4 (.cells #[.slice Am1 Km1 Dm1] 34)
    have Pm1 := slot_new x4 (.slice Am1 Km1 Dm1) 34
    replace N0 := N0.keep BA
    replace P0 := P0.keep BA
    replace N1 := N1.keep BA
    replace P1 := P1.keep BA
    replace N2 := N2.keep BA
    replace P2 := P2.keep BA
    replace N3 := N3.keep BA
    replace P3 := P3.keep BA
    replace Oq1 := Oq1.keep BA
    replace Pq1 := Pq1.keep BA
    replace Oq2 := Oq2.keep BA
    replace Pq2 := Pq2.keep BA
    replace Om1 := Om1.keep BA
    replace c_P0 := P0.cell
    replace c_P1 := P1.cell
    replace c_P2 := P2.cell
    replace c_P3 := P3.cell
    replace c_Pq1 := Pq1.cell
    replace c_Pq2 := Pq2.cell
    replace HB := joinB HB BA
    clear BA
    replace c_Pm1 := Pm1.cell
    go_wp2_with fail
    generalize x4.alloc (.cells #[.slice Am1 Km1 Dm1] 34) = xx4 at *
    generalize x4.heap.size = gm1 at *
    go_wp2_with fail
    refine (dMulDivV N0 (by omega) N3 (by omega) N2 (by omega)).mono ?_
    rintro e x5 ⟨Am2, Km2, Dm2, rfl, Om2, hkm2, hB⟩
    replace N0 := N0.keep hB
    replace P0 := P0.keep hB
    replace N1 := N1.keep hB
    replace P1 := P1.keep hB
    replace N2 := N2.keep hB
    replace P2 := P2.keep hB
    replace N3 := N3.keep hB
    replace P3 := P3.keep hB
    replace Oq1 := Oq1.keep hB
    replace Pq1 := Pq1.keep hB
    replace Oq2 := Oq2.keep hB
    replace Pq2 := Pq2.keep hB
    replace Om1 := Om1.keep hB
    replace Pm1 := Pm1.keep hB
    replace c_P0 := P0.cell
    replace c_P1 := P1.cell
    replace c_P2 := P2.cell
    replace c_P3 := P3.cell
    replace c_Pq1 := Pq1.cell
    replace c_Pq2 := Pq2.cell
    replace c_Pm1 := Pm1.cell
    replace HB := joinB HB hB
    clear hB
    have BA := below_alloc x5 (.cells #[.slice Am2 Km2 Dm2] 34)
    have Pm2 := slot_new x5 (.slice Am2 Km2 Dm2) 34
    replace N0 := N0.keep BA
    replace P0 := P0.keep BA
    replace N1 := N1.keep BA
    replace P1 := P1.keep BA
    replace N2 := N2.keep BA
    replace P2 := P2.keep BA
    replace N3 := N3.keep BA
    replace P3 := P3.keep BA
    replace Oq1 := Oq1.keep BA
    replace Pq1 := Pq1.keep BA
    replace Oq2 := Oq2.keep BA
    replace Pq2 := Pq2.keep BA
    replace Om1 := Om1.keep BA
    replace Pm1 := Pm1.keep BA
    replace Om2 := Om2.keep BA
    replace c_P0 := P0.cell
    replace c_P1 := P1.cell
    replace c_P2 := P2.cell
    replace c_P3 := P3.cell
    replace c_Pq1 := Pq1.cell
    replace c_Pq2 := Pq2.cell
    replace c_Pm1 := Pm1.cell
    replace HB := joinB HB BA
    clear BA
    replace c_Pm2 := Pm2.cell
    go_wp2_with fail
    generalize x5.alloc (.cells #[.slice Am2 Km2 Dm2] 34) = xx5 at *
    generalize x5.heap.size = gm2 at *
    go_wp2_with fail
    refine (dOverV N1 (by omega) (by omega) (by omega)).mono ?_
    rintro e x6 ⟨Av1, Kv1, Dv1, rfl, Ov1, hkv1, hB⟩
    replace N0 := N0.keep hB
    replace P0 := P0.keep hB
    replace N1 := N1.keep hB
    replace P1 := P1.keep hB
    replace N2 := N2.keep hB
    replace P2 := P2.keep hB
    replace N3 := N3.keep hB
    replace P3 := P3.keep hB
    replace Oq1 := Oq1.keep hB
    replace Pq1 := Pq1.keep hB
    replace Oq2 := Oq2.keep hB
    replace Pq2 := Pq2.keep hB
    replace Om1 := Om1.keep hB
    replace Pm1 := Pm1.keep hB
    replace Om2 := Om2.keep hB
    replace Pm2 := Pm2.keep hB
    replace c_P0 := P0.cell
    replace c_P1 := P1.cell
    replace c_P2 := P2.cell
    replace c_P3 := P3.cell
    replace c_Pq1 := Pq1.cell
    replace c_Pq2 := Pq2.cell
    replace c_Pm1 := Pm1.cell
    replace c_Pm2 := Pm2.cell
    replace HB := joinB HB hB
    clear hB
    have BA := below_alloc x6 (.cells #[.slice Av1 Kv1 Dv1] 34)
    have Pv1 := slot_new x6 (.slice Av1 Kv1 Dv1) 34
    replace N0 := N0.keep BA
    replace P0 := P0.keep BA
    replace N1 := N1.keep BA
    replace P1 := P1.keep BA
    replace N2 := N2.keep BA
    replace P2 := P2.keep BA
    replace N3 := N3.keep BA
    replace P3 := P3.keep BA
    replace Oq1 := Oq1.keep BA
    replace Pq1 := Pq1.keep BA
    replace Oq2 := Oq2.keep BA
    replace Pq2 := Pq2.keep BA
    replace Om1 := Om1.keep BA
    replace Pm1 := Pm1.keep BA
    replace Om2 := Om2.keep BA
    replace Pm2 := Pm2.keep BA
    replace Ov1 := Ov1.keep BA
    replace c_P0 := P0.cell
    replace c_P1 := P1.cell
    replace c_P2 := P2.cell
    replace c_P3 := P3.cell
    replace c_Pq1 := Pq1.cell
    replace c_Pq2 := Pq2.cell
    replace c_Pm1 := Pm1.cell
    replace c_Pm2 := Pm2.cell
    replace HB := joinB HB BA
    clear BA
    replace c_Pv1 := Pv1.cell
    go_wp2_with fail
    generalize x6.alloc (.cells #[.slice Av1 Kv1 Dv1] 34) = xx6 at *
    generalize x6.heap.size = gv1 at *
    go_wp2_with fail
    refine (dOverV N0 (by omega) (by omega) (by omega)).mono ?_
    rintro e x7 ⟨Av2, Kv2, Dv2, rfl, Ov2, hkv2, hB⟩
    replace N0 := N0.keep hB
    replace P0 := P0.keep hB
    replace N1 := N1.keep hB
    replace P1 := P1.keep hB
    replace N2 := N2.keep hB
    replace P2 := P2.keep hB
    replace N3 := N3.keep hB
    replace P3 := P3.keep hB
    replace Oq1 := Oq1.keep hB
    replace Pq1 := Pq1.keep hB
    replace Oq2 := Oq2.keep hB
    replace Pq2 := Pq2.keep hB
    replace Om1 := Om1.keep hB
    replace Pm1 := Pm1.keep hB
    replace Om2 := Om2.keep hB
    replace Pm2 := Pm2.keep hB
    replace Ov1 := Ov1.keep hB
    replace Pv1 := Pv1.keep hB
    replace c_P0 := P0.cell
    replace c_P1 := P1.cell
    replace c_P2 := P2.cell
    replace c_P3 := P3.cell
    replace c_Pq1 := Pq1.cell
    replace c_Pq2 := Pq2.cell
    replace c_Pm1 := Pm1.cell
    replace c_Pm2 := Pm2.cell
    replace c_Pv1 := Pv1.cell
    replace HB := joinB HB hB
    clear hB
    have BA := below_alloc x7 (.cells #[.slice Av2 Kv2 Dv2] 34)
    have Pv2 := slot_new x7 (.slice Av2 Kv2 Dv2) 34
    replace N0 := N0.keep BA
    replace P0 := P0.keep BA
    replace N1 := N1.keep BA
    replace P1 := P1.keep BA
    replace N2 := N2.keep BA
    replace P2 := P2.keep BA
    replace N3 := N3.keep BA
    replace P3 := P3.keep BA
    replace Oq1 := Oq1.keep BA
    replace Pq1 := Pq1.keep BA
    replace Oq2 := Oq2.keep BA
    replace Pq2 := Pq2.keep BA
    replace Om1 := Om1.keep BA
    replace Pm1 := Pm1.keep BA
    replace Om2 := Om2.keep BA
    replace Pm2 := Pm2.keep BA
    replace Ov1 := Ov1.keep BA
    replace Pv1 := Pv1.keep BA
    replace Ov2 := Ov2.keep BA
    replace c_P0 := P0.cell
    replace c_P1 := P1.cell
    replace c_P2 := P2.cell
    replace c_P3 := P3.cell
    replace c_Pq1 := Pq1.cell
    replace c_Pq2 := Pq2.cell
    replace c_Pm1 := Pm1.cell
    replace c_Pm2 := Pm2.cell
    replace c_Pv1 := Pv1.cell
    replace HB := joinB HB BA
    clear BA
    replace c_Pv2 := Pv2.cell
    go_wp2_with fail
    generalize x7.alloc (.cells #[.slice Av2 Kv2 Dv2] 34) = xx7 at *
    generalize x7.heap.size = gv2 at *
    generalize decE (val l2) = E2 at *
    generalize decE y4 = E4 at *
    go_wp2_with fail
    refine rg_start (S := fun w' => Below xx7.drew.heap.size xx7.drew w') (by kernel_rfl) (Below.refl _ _) ?_
    replace N0 := N0.drew
    replace P0 := P0.drew
    replace N1 := N1.drew
    replace P1 := P1.drew
    replace N2 := N2.drew
    replace P2 := P2.drew
    replace N3 := N3.drew
    replace P3 := P3.drew
    replace Oq1 := Oq1.drew
    replace Pq1 := Pq1.drew
    replace Oq2 := Oq2.drew
    replace Pq2 := Pq2.drew
    replace Om1 := Om1.drew
    replace Pm1 := Pm1.drew
    replace Om2 := Om2.drew
    replace Pm2 := Pm2.drew
    replace Ov1 := Ov1.drew
    replace Pv1 := Pv1.drew
    replace Ov2 := Ov2.drew
    replace Pv2 := Pv2.drew
    replace HB := HB.drew
    have UP0 := P0
    clear c_P0
    have UP1 := P1
    clear c_P1
    have UP2 := P2
    clear c_P2
    have UP3 := P3
    clear c_P3
    have UPq1 := Pq1
    clear c_Pq1
    have UPq2 := Pq2
    clear c_Pq2
    have UPm1 := Pm1
    clear c_Pm1
    have UPm2 := Pm2
    clear c_Pm2
    have UPv1 := Pv1
    clear c_Pv1
    have UPv2 := Pv2
    clear c_Pv2
    have hS := Below.refl xx7.drew.heap.size xx7.drew
    clear P0 P1 P2 P3 Pq1 Pq2 Pm1 Pm2 Pv1 Pv2
    refine rg_take 0 (some 76) (.int .i64 E2) (by kernel_rfl) (fun _ _ => by kernel_rfl) (fun _ _ _ h => h) hS ?_
    refine rg_take 1 (some 77) (.int .i64 E2) (by kernel_rfl) (fun _ _ => by kernel_rfl) (fun _ _ _ h => h) hS ?_
    refine rg_eq 2 (some 78) (.bool ((E2 : Int) == E2)) (.bool true) (by rw [beq_self_eq_true]) (by kernel_rfl) (fun _ _ => by kernel_rfl) (fun _ _ _ h => h) hS ?_
    refine rg_take 3 (some 79) (.bool true) (by kernel_rfl) (fun _ _ => by kernel_rfl) (fun _ _ _ h => h) hS ?_
    refine rg_take 4 (some 80) (.int .i64 E2) (by kernel_rfl) (fun _ _ => by kernel_rfl) (fun _ _ _ h => h) hS ?_
    refine rg_take 5 (some 81) (.int .i64 E2) (by kernel_rfl) (fun _ _ => by kernel_rfl) (fun _ _ _ h => h) hS ?_
    refine rg_eq 6 (some 82) (.bool ((E2 : Int) == E2)) (.bool true) (by rw [beq_self_eq_true]) (by kernel_rfl) (fun _ _ => by kernel_rfl) (fun _ _ _ h => h) hS ?_
    refine rg_take 7 (some 83) (.bool true) (by kernel_rfl) (fun _ _ => by kernel_rfl) (fun _ _ _ h => h) hS ?_
    refine rg_take 8 (some 84) (.bool true) (by kernel_rfl) (fun _ _ => by kernel_rfl) (fun _ _ _ h => h) hS ?_
    refine rg_take 9 (some 85) (.int .i64 E4) (by kernel_rfl) (fun _ _ => by kernel_rfl) (fun _ _ _ h => h) hS ?_
    refine rg_take 10 (some 86) (.int .i64 E4) (by kernel_rfl) (fun _ _ => by kernel_rfl) (fun _ _ _ h => h) hS ?_
    refine rg_eq 11 (some 87) (.bool ((E4 : Int) == E4)) (.bool true) (by rw [beq_self_eq_true]) (by kernel_rfl) (fun _ _ => by kernel_rfl) (fun _ _ _ h => h) hS ?_
    refine rg_take 12 (some 88) (.bool true) (by kernel_rfl) (fun _ _ => by kernel_rfl) (fun _ _ _ h => h) hS ?_
    refine rg_take 13 (some 89) (.bool true) (by kernel_rfl) (fun _ _ => by kernel_rfl) (fun _ _ _ h => h) hS ?_
    refine rg_load 14 (some 90) (.agg #[.slice Aq1 Kq1 Dq1]) 34 11 (gq1) 0 (by kernel_rfl) (by kernel_rfl) (by kernel_rfl) (fun _ hb => load_dec (UPq1.keep hb)) (fun _ _ _ h => h) hS ?_
    refine rg_load 15 (some 91) (.agg #[.slice Aq2 Kq2 Dq2]) 34 13 (gq2) 0 (by kernel_rfl) (by kernel_rfl) (by kernel_rfl) (fun _ hb => load_dec (UPq2.keep hb)) (fun _ _ _ h => h) hS ?_
    have tD := dCmp Oq1.a Oq2.a (by omega) (by omega)
    have hg1 : sgn (val l1 * U36 / val l2) (val l0 * U36 / val l2) ≤ 0 := sgn_le (div_mono (mul_mono HLE.out (by decide)) v2)
    generalize sgn _ _ = sg1 at tD hg1
    refine rg_call 16 (some 92) 32 #[.agg #[.slice Aq1 Kq1 Dq1], .agg #[.slice Aq2 Kq2 Dq2]] (by kernel_rfl) (by kernel_rfl) (tD) ?_
    rintro e r1 ⟨rfl, hB⟩
    refine ⟨_, rfl, joinB hS hB, ?_⟩
    replace hS := joinB hS hB
    replace N0 := N0.keep hB
    replace N1 := N1.keep hB
    replace N2 := N2.keep hB
    replace N3 := N3.keep hB
    replace Oq1 := Oq1.keep hB
    replace Oq2 := Oq2.keep hB
    replace Om1 := Om1.keep hB
    replace Om2 := Om2.keep hB
    replace Ov1 := Ov1.keep hB
    replace Ov2 := Ov2.keep hB
    replace HB := joinB HB hB
    clear hB
    clear tD
    refine rg_eq 17 (some 93) (.bool (decide ((sg1 : Int) ≤ (0 : Int)))) (.bool true) (by rw [decide_eq_true hg1]) (by kernel_rfl) (fun _ _ => by kernel_rfl) (fun _ _ _ h => h) hS ?_
    refine rg_take 18 (some 94) (.bool true) (by kernel_rfl) (fun _ _ => by kernel_rfl) (fun _ _ _ h => h) hS ?_
    refine rg_take 19 (some 95) (.bool true) (by kernel_rfl) (fun _ _ => by kernel_rfl) (fun _ _ _ h => h) hS ?_
    refine rg_load 20 (some 96) (.agg #[.slice Am1 Km1 Dm1]) 34 15 (gm1) 0 (by kernel_rfl) (by kernel_rfl) (by kernel_rfl) (fun _ hb => load_dec (UPm1.keep hb)) (fun _ _ _ h => h) hS ?_
    refine rg_load 21 (some 97) (.agg #[.slice Am2 Km2 Dm2]) 34 17 (gm2) 0 (by kernel_rfl) (by kernel_rfl) (by kernel_rfl) (fun _ hb => load_dec (UPm2.keep hb)) (fun _ _ _ h => h) hS ?_
    have tD := dCmp Om1.a Om2.a (by omega) (by omega)
    have hg2 : sgn (val l1 * val l3 / val l2) (val l0 * val l3 / val l2) ≤ 0 := sgn_le (div_mono (mul_mono HLE.out v3) v2)
    generalize sgn _ _ = sg2 at tD hg2
    refine rg_call 22 (some 98) 32 #[.agg #[.slice Am1 Km1 Dm1], .agg #[.slice Am2 Km2 Dm2]] (by kernel_rfl) (by kernel_rfl) (tD) ?_
    rintro e r2 ⟨rfl, hB⟩
    refine ⟨_, rfl, joinB hS hB, ?_⟩
    replace hS := joinB hS hB
    replace N0 := N0.keep hB
    replace N1 := N1.keep hB
    replace N2 := N2.keep hB
    replace N3 := N3.keep hB
    replace Oq1 := Oq1.keep hB
    replace Oq2 := Oq2.keep hB
    replace Om1 := Om1.keep hB
    replace Om2 := Om2.keep hB
    replace Ov1 := Ov1.keep hB
    replace Ov2 := Ov2.keep hB
    replace HB := joinB HB hB
    clear hB
    clear tD
    refine rg_eq 23 (some 99) (.bool (decide ((sg2 : Int) ≤ (0 : Int)))) (.bool true) (by rw [decide_eq_true hg2]) (by kernel_rfl) (fun _ _ => by kernel_rfl) (fun _ _ _ h => h) hS ?_
    refine rg_take 24 (some 100) (.bool true) (by kernel_rfl) (fun _ _ => by kernel_rfl) (fun _ _ _ h => h) hS ?_
    refine rg_take 25 (some 101) (.bool true) (by kernel_rfl) (fun _ _ => by kernel_rfl) (fun _ _ _ h => h) hS ?_
    refine rg_load 26 (some 102) (.agg #[.slice Av1 Kv1 Dv1]) 34 19 (gv1) 0 (by kernel_rfl) (by kernel_rfl) (by kernel_rfl) (fun _ hb => load_dec (UPv1.keep hb)) (fun _ _ _ h => h) hS ?_
    refine rg_load 27 (some 103) (.agg #[.slice Av2 Kv2 Dv2]) 34 21 (gv2) 0 (by kernel_rfl) (by kernel_rfl) (by kernel_rfl) (fun _ hb => load_dec (UPv2.keep hb)) (fun _ _ _ h => h) hS ?_
    have tD := dCmp Ov1.a Ov2.a (by omega) (by omega)
    have hg3 : sgn (val l1 / y4) (val l0 / y4) ≤ 0 := sgn_le (div_mono HLE.out (by omega))
    generalize sgn _ _ = sg3 at tD hg3
    refine rg_call 28 (some 104) 32 #[.agg #[.slice Av1 Kv1 Dv1], .agg #[.slice Av2 Kv2 Dv2]] (by kernel_rfl) (by kernel_rfl) (tD) ?_
    rintro e r3 ⟨rfl, hB⟩
    refine ⟨_, rfl, joinB hS hB, ?_⟩
    replace hS := joinB hS hB
    replace N0 := N0.keep hB
    replace N1 := N1.keep hB
    replace N2 := N2.keep hB
    replace N3 := N3.keep hB
    replace Oq1 := Oq1.keep hB
    replace Oq2 := Oq2.keep hB
    replace Om1 := Om1.keep hB
    replace Om2 := Om2.keep hB
    replace Ov1 := Ov1.keep hB
    replace Ov2 := Ov2.keep hB
    replace HB := joinB HB hB
    clear hB
    clear tD
    refine rg_eq 29 (some 105) (.bool (decide ((sg3 : Int) ≤ (0 : Int)))) (.bool true) (by rw [decide_eq_true hg3]) (by kernel_rfl) (fun _ _ => by kernel_rfl) (fun _ _ _ h => h) hS ?_
    refine rg_take 30 (some 106) (.bool true) (by kernel_rfl) (fun _ _ => by kernel_rfl) (fun _ _ _ h => h) hS ?_
    refine rg_take 31 (some 107) (.bool true) (by kernel_rfl) (fun _ _ => by kernel_rfl) (fun _ _ _ h => h) hS ?_
    refine rg_load 32 (some 108) (.agg #[.slice a1 len1 cap1]) 34 5 (w.heap.size) 0 (by kernel_rfl) (by kernel_rfl) (by kernel_rfl) (fun _ hb => load_dec (UP0.keep hb)) (fun _ _ _ h => h) hS ?_
    refine rg_load 33 (some 109) (.agg #[.slice a2 len2 cap2]) 34 7 (w.heap.size + 1 + 1) 0 (by kernel_rfl) (by kernel_rfl) (by kernel_rfl) (fun _ hb => load_dec (UP2.keep hb)) (fun _ _ _ h => h) hS ?_
    refine rg_load 35 (some 111) (.agg #[.slice a0 len0 cap0]) 34 6 (w.heap.size + 1) 0 (by kernel_rfl) (by kernel_rfl) (by kernel_rfl) (fun _ hb => load_dec (UP1.keep hb)) (fun _ _ _ h => h) hS ?_
    refine rg_load 36 (some 112) (.agg #[.slice a2 len2 cap2]) 34 7 (w.heap.size + 1 + 1) 0 (by kernel_rfl) (by kernel_rfl) (by kernel_rfl) (fun _ hb => load_dec (UP2.keep hb)) (fun _ _ _ h => h) hS ?_
    refine rg_call 34 (some 110) 45 #[.agg #[.slice a1 len1 cap1], .agg #[.slice a2 len2 cap2]] (by kernel_rfl) (by kernel_rfl) (dMul N1 (by omega) N2 (by omega)) ?_
    rintro e r4 ⟨Ap1, Kp1, Dp1, rfl, Op1, hkp1, hB⟩
    refine ⟨_, rfl, joinB hS hB, ?_⟩
    replace hS := joinB hS hB
    replace N0 := N0.keep hB
    replace N1 := N1.keep hB
    replace N2 := N2.keep hB
    replace N3 := N3.keep hB
    replace Oq1 := Oq1.keep hB
    replace Oq2 := Oq2.keep hB
    replace Om1 := Om1.keep hB
    replace Om2 := Om2.keep hB
    replace Ov1 := Ov1.keep hB
    replace Ov2 := Ov2.keep hB
    replace HB := joinB HB hB
    clear hB
    refine rg_call 37 (some 113) 45 #[.agg #[.slice a0 len0 cap0], .agg #[.slice a2 len2 cap2]] (by kernel_rfl) (by kernel_rfl) (dMul N0 (by omega) N2 (by omega)) ?_
    rintro e r5 ⟨Ap2, Kp2, Dp2, rfl, Op2, hkp2, hB⟩
    refine ⟨_, rfl, joinB hS hB, ?_⟩
    replace hS := joinB hS hB
    replace N0 := N0.keep hB
    replace N1 := N1.keep hB
    replace N2 := N2.keep hB
    replace N3 := N3.keep hB
    replace Oq1 := Oq1.keep hB
    replace Oq2 := Oq2.keep hB
    replace Om1 := Om1.keep hB
    replace Om2 := Om2.keep hB
    replace Ov1 := Ov1.keep hB
    replace Ov2 := Ov2.keep hB
    replace Op1 := Op1.keep hB
    replace HB := joinB HB hB
    clear hB
    have tD := dCmp Op1.a Op2.a (by omega) (by omega)
    have hg4 : sgn (val l1 * val l2 / U36) (val l0 * val l2 / U36) ≤ 0 := sgn_le (div_mono (mul_mono HLE.out v2) (by decide))
    generalize sgn _ _ = sg4 at tD hg4
    refine rg_call 38 (some 114) 32 #[.agg #[.slice Ap1 Kp1 Dp1], .agg #[.slice Ap2 Kp2 Dp2]] (by kernel_rfl) (by kernel_rfl) (tD) ?_
    rintro e r6 ⟨rfl, hB⟩
    refine ⟨_, rfl, joinB hS hB, ?_⟩
    replace hS := joinB hS hB
    replace N0 := N0.keep hB
    replace N1 := N1.keep hB
    replace N2 := N2.keep hB
    replace N3 := N3.keep hB
    replace Oq1 := Oq1.keep hB
    replace Oq2 := Oq2.keep hB
    replace Om1 := Om1.keep hB
    replace Om2 := Om2.keep hB
    replace Ov1 := Ov1.keep hB
    replace Ov2 := Ov2.keep hB
    replace Op1 := Op1.keep hB
    replace Op2 := Op2.keep hB
    replace HB := joinB HB hB
    clear hB
    clear tD
    refine rg_eq 39 (some 115) (.bool (decide ((sg4 : Int) ≤ (0 : Int)))) (.bool true) (by rw [decide_eq_true hg4]) (by kernel_rfl) (fun _ _ => by kernel_rfl) (fun _ _ _ h => h) hS ?_
    refine rg_take 40 (some 116) (.bool true) (by kernel_rfl) (fun _ _ => by kernel_rfl) (fun _ _ _ h => h) hS ?_
    refine rg_take 41 (some 117) (.bool true) (by kernel_rfl) (fun _ _ => by kernel_rfl) (fun _ _ _ h => h) hS ?_
    refine rg_load 42 (some 118) (.agg #[.slice a1 len1 cap1]) 34 5 (w.heap.size) 0 (by kernel_rfl) (by kernel_rfl) (by kernel_rfl) (fun _ hb => load_dec (UP0.keep hb)) (fun _ _ _ h => h) hS ?_
    refine rg_load 43 (some 119) (.agg #[.slice a2 len2 cap2]) 34 7 (w.heap.size + 1 + 1) 0 (by kernel_rfl) (by kernel_rfl) (by kernel_rfl) (fun _ hb => load_dec (UP2.keep hb)) (fun _ _ _ h => h) hS ?_
    refine rg_load 45 (some 121) (.agg #[.slice a0 len0 cap0]) 34 6 (w.heap.size + 1) 0 (by kernel_rfl) (by kernel_rfl) (by kernel_rfl) (fun _ hb => load_dec (UP1.keep hb)) (fun _ _ _ h => h) hS ?_
    refine rg_load 46 (some 122) (.agg #[.slice a2 len2 cap2]) 34 7 (w.heap.size + 1 + 1) 0 (by kernel_rfl) (by kernel_rfl) (by kernel_rfl) (fun _ hb => load_dec (UP2.keep hb)) (fun _ _ _ h => h) hS ?_
    refine rg_call 44 (some 120) 17 #[.agg #[.slice a1 len1 cap1], .agg #[.slice a2 len2 cap2]] (by kernel_rfl) (by kernel_rfl) (dAdd N1 N2 (by omega) (by omega)) ?_
    rintro e r7 ⟨Ar1, Kr1, Dr1, rfl, Or1, hkr1, hB⟩
    refine ⟨_, rfl, joinB hS hB, ?_⟩
    replace hS := joinB hS hB
    replace N0 := N0.keep hB
    replace N1 := N1.keep hB
    replace N2 := N2.keep hB
    replace N3 := N3.keep hB
    replace Oq1 := Oq1.keep hB
    replace Oq2 := Oq2.keep hB
    replace Om1 := Om1.keep hB
    replace Om2 := Om2.keep hB
    replace Ov1 := Ov1.keep hB
    replace Ov2 := Ov2.keep hB
    replace Op1 := Op1.keep hB
    replace Op2 := Op2.keep hB
    replace HB := joinB HB hB
    clear hB
    refine rg_call 47 (some 123) 17 #[.agg #[.slice a0 len0 cap0], .agg #[.slice a2 len2 cap2]] (by kernel_rfl) (by kernel_rfl) (dAdd N0 N2 (by omega) (by omega)) ?_
    rintro e r8 ⟨Ar2, Kr2, Dr2, rfl, Or2, hkr2, hB⟩
    refine ⟨_, rfl, joinB hS hB, ?_⟩
    replace hS := joinB hS hB
    replace N0 := N0.keep hB
    replace N1 := N1.keep hB
    replace N2 := N2.keep hB
    replace N3 := N3.keep hB
    replace Oq1 := Oq1.keep hB
    replace Oq2 := Oq2.keep hB
    replace Om1 := Om1.keep hB
    replace Om2 := Om2.keep hB
    replace Ov1 := Ov1.keep hB
    replace Ov2 := Ov2.keep hB
    replace Op1 := Op1.keep hB
    replace Op2 := Op2.keep hB
    replace Or1 := Or1.keep hB
    replace HB := joinB HB hB
    clear hB
    have tD := dCmp Or1.a Or2.a (by omega) (by omega)
    have hg5 : sgn (val l1 + val l2) (val l0 + val l2) ≤ 0 := sgn_le (Int.add_le_add_right HLE.out _)
    generalize sgn _ _ = sg5 at tD hg5
    refine rg_call 48 (some 124) 32 #[.agg #[.slice Ar1 Kr1 Dr1], .agg #[.slice Ar2 Kr2 Dr2]] (by kernel_rfl) (by kernel_rfl) (tD) ?_
    rintro e r9 ⟨rfl, hB⟩
    refine ⟨_, rfl, joinB hS hB, ?_⟩
    replace hS := joinB hS hB
    replace N0 := N0.keep hB
    replace N1 := N1.keep hB
    replace N2 := N2.keep hB
    replace N3 := N3.keep hB
    replace Oq1 := Oq1.keep hB
    replace Oq2 := Oq2.keep hB
    replace Om1 := Om1.keep hB
    replace Om2 := Om2.keep hB
    replace Ov1 := Ov1.keep hB
    replace Ov2 := Ov2.keep hB
    replace Op1 := Op1.keep hB
    replace Op2 := Op2.keep hB
    replace Or1 := Or1.keep hB
    replace Or2 := Or2.keep hB
    replace HB := joinB HB hB
    clear hB
    clear tD
    refine rg_eq 49 (some 125) (.bool (decide ((sg5 : Int) ≤ (0 : Int)))) (.bool true) (by rw [decide_eq_true hg5]) (by kernel_rfl) (fun _ _ => by kernel_rfl) (fun _ _ _ h => h) hS ?_
    refine rg_take 50 (some 126) (.bool true) (by kernel_rfl) (fun _ _ => by kernel_rfl) (fun _ _ _ h => h) hS ?_
    refine rg_take 51 (some 10) (.bool true) (by kernel_rfl) (fun _ _ => by kernel_rfl) (fun _ _ _ h => h) hS ?_
    refine rg_done (by kernel_rfl) ?_
    try simp only [Act.put, List.setIfInBounds_toArray, List.set_cons_zero, List.set_cons_succ]
    go_wp2
    go_ret
    exact ⟨rfl, HB⟩
end decRises
end Go.Proofs.YtpbiflfdfiebcabGreatDoor
