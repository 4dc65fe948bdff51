/- gleanlaw2.DecProducts returns true for all decimals and all numbers. -/
import Derived.Test.YtpbiflfdfiebcabGreatDoorBitD
import Derived.Test.YtpbiflfdfiebcabGreatDoorSmallD
import Derived.Test.YtpbiflfdfiebcabGreatDoorJDecProducts
namespace Go.Proofs.YtpbiflfdfiebcabGreatDoor
namespace decProducts
open Go.RowKit Lim

set_option maxHeartbeats 8000000 in
set_option maxRecDepth 100000 in
theorem walk (a0 : Option Addr) (len0 cap0 : Nat) (z0 : List Int) (a1 : Option Addr) (len1 cap1 : Nat) (z1 : List Int) (a2 : Option Addr) (len2 cap2 : Nat) (z2 : List Int) (y3 : Int) (w : World) (w0 : IsRow w a0 len0 cap0 z0) (w1 : IsRow w a1 len1 cap1 z1) (w2 : IsRow w a2 len2 cap2 z2) (wy3 : (Lit.int .u64 y3).wf = true) :
    Calls Tryz.prog 5 #[.agg #[.slice a0 len0 cap0], .agg #[.slice a1 len1 cap1], .agg #[.slice a2 len2 cap2], .int .u64 y3] w fun e w' => e = .returned (.bool true) ∧ Below w.heap.size w w' := by
  obtain ⟨b0, o0, l0, hl0, hc0, hm0, W0, h0⟩ := w0.open
  have N0 : NatA w a0 len0 cap0 (val l0) := ⟨b0, o0, l0, hl0, hc0, W0, h0, rfl⟩
  have v0 := val_nonneg W0
  clear h0 w0
  obtain ⟨b1, o1, l1, hl1, hc1, hm1, W1, h1⟩ := w1.open
  have N1 : NatA w a1 len1 cap1 (val l1) := ⟨b1, o1, l1, hl1, hc1, W1, h1, rfl⟩
  have v1 := val_nonneg W1
  clear h1 w1
  obtain ⟨b2, o2, l2, hl2, hc2, hm2, W2, h2⟩ := w2.open
  have N2 : NatA w a2 len2 cap2 (val l2) := ⟨b2, o2, l2, hl2, hc2, W2, h2, rfl⟩
  have v2 := val_nonneg W2
  clear h2 w2
  have by3 := bounds_u64 wy3
  clear wy3
  have HB := below3 w (.cells #[.slice a0 len0 cap0] 34) (.cells #[.slice a1 len1 cap1] 34) (.cells #[.slice a2 len2 cap2] 34)
  have P0 := ((slot_new w (.slice a0 len0 cap0) 34).alloc (.cells #[.slice a1 len1 cap1] 34)).alloc (.cells #[.slice a2 len2 cap2] 34)
  replace N0 := N0.keep HB
  have P1 := (slot_last2 w (.cells #[.slice a0 len0 cap0] 34) (.slice a1 len1 cap1) 34).alloc (.cells #[.slice a2 len2 cap2] 34)
  replace N1 := N1.keep HB
  have P2 := slot_last3 w (.cells #[.slice a0 len0 cap0] 34) (.cells #[.slice a1 len1 cap1] 34) (.slice a2 len2 cap2) 34
  replace N2 := N2.keep HB
  go_enter Tryz.func5, Tryz.ntmps5
  go_wp2_with fail
  generalize ((w.alloc (.cells #[.slice a0 len0 cap0] 34)).alloc (.cells #[.slice a1 len1 cap1] 34)).alloc (.cells #[.slice a2 len2 cap2] 34) = u0 at *
  refine (knownD u0).mono ?_
  rintro e u1 ⟨rfl, hB⟩
  replace N0 := N0.keep hB
  replace P0 := P0.keep hB
  replace N1 := N1.keep hB
  replace P1 := P1.keep hB
  replace N2 := N2.keep hB
  replace P2 := P2.keep hB
  replace c_P0 := P0.cell
  replace c_P1 := P1.cell
  replace c_P2 := P2.cell
  replace HB := joinB HB hB
  clear hB
  have b1 := below_alloc u1 (.cells #[.slice a0 len0 cap0, .slice a1 len1 cap1, .slice a2 len2 cap2] 34)
  have tS := smallD_any [(a0, len0, cap0), (a1, len1, cap1), (a2, len2, cap2)] u1.heap.size 3 3 (u1.alloc (.cells #[.slice a0 len0 cap0, .slice a1 len1 cap1, .slice a2 len2 cap2] 34)) rfl (by decide)
    (fun i => by
      match i with
      | 0 => exact hm0
      | 1 => exact hm1
      | 2 => exact hm2
      | _ + 3 => exact Nat.zero_le _)
    (fun i hi => by
      rw [cell_new]
      match i, hi with
      | 0, _ => rfl
      | 1, _ => rfl
      | 2, _ => rfl)
  go_wp2_with fail
  refine tS.mono ?_
  rintro e u2 ⟨rfl, rfl⟩
  clear tS
  replace N0 := N0.keep b1
  replace P0 := P0.keep b1
  replace N1 := N1.keep b1
  replace P1 := P1.keep b1
  replace N2 := N2.keep b1
  replace P2 := P2.keep b1
  replace c_P0 := P0.cell
  replace c_P1 := P1.cell
  replace c_P2 := P2.cell
  replace HB := joinB HB b1
  clear b1
  generalize u1.alloc (.cells #[.slice a0 len0 cap0, .slice a1 len1 cap1, .slice a2 len2 cap2] 34) = u2 at *
  generalize u1.heap.size = gs at *
  by_cases hsm : smallD [(a0, len0, cap0), (a1, len1, cap1), (a2, len2, cap2)] = true
  rotate_left
  · have hsf : smallD [(a0, len0, cap0), (a1, len1, cap1), (a2, len2, cap2)] = false := by rw [Bool.not_eq_true] at hsm; exact hsm
    rw [hsf]
    go_wp2
    go_ret
    exact ⟨rfl, HB⟩
  rw [hsm]
  simp only [smallD, List.all_cons, List.all_nil, Bool.and_true, Bool.and_eq_true, decide_eq_true_eq] at hsm
  obtain ⟨hs0, hs1, hs2⟩ := hsm
  go_wp2_with fail
  refine (dQuoV N0 (by omega) N1 (by omega)).mono ?_
  rintro e x1 ⟨Aq1, Kq1, Dq1, rfl, Oq1, hkq1, hB⟩
  replace N0 := N0.keep hB
  replace P0 := P0.keep hB
  replace N1 := N1.keep hB
  replace P1 := P1.keep hB
  replace N2 := N2.keep hB
  replace P2 := P2.keep hB
  replace c_P0 := P0.cell
  replace c_P1 := P1.cell
  replace c_P2 := P2.cell
  replace HB := joinB HB hB
  clear hB
  have BA := below_alloc x1 (.cells #[.slice Aq1 Kq1 Dq1] 34)
  have Pq1 := slot_new x1 (.slice Aq1 Kq1 Dq1) 34
  replace N0 := N0.keep BA
  replace P0 := P0.keep BA
  replace N1 := N1.keep BA
  replace P1 := P1.keep BA
  replace N2 := N2.keep BA
  replace P2 := P2.keep BA
  replace Oq1 := Oq1.keep BA
  replace c_P0 := P0.cell
  replace c_P1 := P1.cell
  replace c_P2 := P2.cell
  replace HB := joinB HB BA
  clear BA
  replace c_Pq1 := Pq1.cell
  go_wp2_with fail
  generalize x1.alloc (.cells #[.slice Aq1 Kq1 Dq1] 34) = xx1 at *
  generalize x1.heap.size = gq1 at *
  go_wp2_with fail
  refine (eQuo N0 (by omega) N1 (by omega)).mono ?_
  rintro e x2 ⟨Aq2, Kq2, Dq2, rfl, Oq2, hkq2, hB⟩
  replace N0 := N0.keep hB
  replace P0 := P0.keep hB
  replace N1 := N1.keep hB
  replace P1 := P1.keep hB
  replace N2 := N2.keep hB
  replace P2 := P2.keep hB
  replace Oq1 := Oq1.keep hB
  replace Pq1 := Pq1.keep hB
  replace c_P0 := P0.cell
  replace c_P1 := P1.cell
  replace c_P2 := P2.cell
  replace c_Pq1 := Pq1.cell
  replace HB := joinB HB hB
  clear hB
  have BA := below_alloc x2 (.cells #[.slice Aq2 Kq2 Dq2] 34)
  have Pq2 := slot_new x2 (.slice Aq2 Kq2 Dq2) 34
  replace N0 := N0.keep BA
  replace P0 := P0.keep BA
  replace N1 := N1.keep BA
  replace P1 := P1.keep BA
  replace N2 := N2.keep BA
  replace P2 := P2.keep BA
  replace Oq1 := Oq1.keep BA
  replace Pq1 := Pq1.keep BA
  replace Oq2 := Oq2.keep BA
  replace c_P0 := P0.cell
  replace c_P1 := P1.cell
  replace c_P2 := P2.cell
  replace c_Pq1 := Pq1.cell
  replace HB := joinB HB BA
  clear BA
  replace c_Pq2 := Pq2.cell
  go_wp2_with fail
  generalize x2.alloc (.cells #[.slice Aq2 Kq2 Dq2] 34) = xx2 at *
  generalize x2.heap.size = gq2 at *
  go_wp2_with fail
  refine (dMulDivV N0 (by omega) N1 (by omega) N2 (by omega)).mono ?_
  rintro e x3 ⟨Am1, Km1, Dm1, rfl, Om1, hkm1, hB⟩
  replace N0 := N0.keep hB
  replace P0 := P0.keep hB
  replace N1 := N1.keep hB
  replace P1 := P1.keep hB
  replace N2 := N2.keep hB
  replace P2 := P2.keep hB
  replace Oq1 := Oq1.keep hB
  replace Pq1 := Pq1.keep hB
  replace Oq2 := Oq2.keep hB
  replace Pq2 := Pq2.keep hB
  replace c_P0 := P0.cell
  replace c_P1 := P1.cell
  replace c_P2 := P2.cell
  replace c_Pq1 := Pq1.cell
  replace c_Pq2 := Pq2.cell
  replace HB := joinB HB hB
  clear hB
  have BA := below_alloc x3 (.cells #[.slice Am1 Km1 Dm1] 34)
  have Pm1 := slot_new x3 (.slice Am1 Km1 Dm1) 34
  replace N0 := N0.keep BA
  replace P0 := P0.keep BA
  replace N1 := N1.keep BA
  replace P1 := P1.keep BA
  replace N2 := N2.keep BA
  replace P2 := P2.keep BA
  replace Oq1 := Oq1.keep BA
  replace Pq1 := Pq1.keep BA
  replace Oq2 := Oq2.keep BA
  replace Pq2 := Pq2.keep BA
  replace Om1 := Om1.keep BA
  replace c_P0 := P0.cell
  replace c_P1 := P1.cell
  replace c_P2 := P2.cell
  replace c_Pq1 := Pq1.cell
  replace c_Pq2 := Pq2.cell
  replace HB := joinB HB BA
  clear BA
  replace c_Pm1 := Pm1.cell
  go_wp2_with fail
  generalize x3.alloc (.cells #[.slice Am1 Km1 Dm1] 34) = xx3 at *
  generalize x3.heap.size = gm1 at *
  go_wp2_with fail
  refine (eMulDiv N0 (by omega) N1 (by omega) N2 (by omega)).mono ?_
  rintro e x4 ⟨Am2, Km2, Dm2, rfl, Om2, hkm2, hB⟩
  replace N0 := N0.keep hB
  replace P0 := P0.keep hB
  replace N1 := N1.keep hB
  replace P1 := P1.keep hB
  replace N2 := N2.keep hB
  replace P2 := P2.keep hB
  replace Oq1 := Oq1.keep hB
  replace Pq1 := Pq1.keep hB
  replace Oq2 := Oq2.keep hB
  replace Pq2 := Pq2.keep hB
  replace Om1 := Om1.keep hB
  replace Pm1 := Pm1.keep hB
  replace c_P0 := P0.cell
  replace c_P1 := P1.cell
  replace c_P2 := P2.cell
  replace c_Pq1 := Pq1.cell
  replace c_Pq2 := Pq2.cell
  replace c_Pm1 := Pm1.cell
  replace HB := joinB HB hB
  clear hB
  have BA := below_alloc x4 (.cells #[.slice Am2 Km2 Dm2] 34)
  have Pm2 := slot_new x4 (.slice Am2 Km2 Dm2) 34
  replace N0 := N0.keep BA
  replace P0 := P0.keep BA
  replace N1 := N1.keep BA
  replace P1 := P1.keep BA
  replace N2 := N2.keep BA
  replace P2 := P2.keep BA
  replace Oq1 := Oq1.keep BA
  replace Pq1 := Pq1.keep BA
  replace Oq2 := Oq2.keep BA
  replace Pq2 := Pq2.keep BA
  replace Om1 := Om1.keep BA
  replace Pm1 := Pm1.keep BA
  replace Om2 := Om2.keep BA
  replace c_P0 := P0.cell
  replace c_P1 := P1.cell
  replace c_P2 := P2.cell
  replace c_Pq1 := Pq1.cell
  replace c_Pq2 := Pq2.cell
  replace c_Pm1 := Pm1.cell
  replace HB := joinB HB BA
  clear BA
  replace c_Pm2 := Pm2.cell
  go_wp2_with fail
  generalize x4.alloc (.cells #[.slice Am2 Km2 Dm2] 34) = xx4 at *
  generalize x4.heap.size = gm2 at *
  go_wp2_with fail
  refine (dMulDivUpV N0 (by omega) N1 (by omega) N2 (by omega)).mono ?_
  rintro e x5 ⟨Au1, Ku1, Du1, rfl, Ou1, hku1, hB⟩
  replace N0 := N0.keep hB
  replace P0 := P0.keep hB
  replace N1 := N1.keep hB
  replace P1 := P1.keep hB
  replace N2 := N2.keep hB
  replace P2 := P2.keep hB
  replace Oq1 := Oq1.keep hB
  replace Pq1 := Pq1.keep hB
  replace Oq2 := Oq2.keep hB
  replace Pq2 := Pq2.keep hB
  replace Om1 := Om1.keep hB
  replace Pm1 := Pm1.keep hB
  replace Om2 := Om2.keep hB
  replace Pm2 := Pm2.keep hB
  replace c_P0 := P0.cell
  replace c_P1 := P1.cell
  replace c_P2 := P2.cell
  replace c_Pq1 := Pq1.cell
  replace c_Pq2 := Pq2.cell
  replace c_Pm1 := Pm1.cell
  replace c_Pm2 := Pm2.cell
  replace HB := joinB HB hB
  clear hB
  have BA := below_alloc x5 (.cells #[.slice Au1 Ku1 Du1] 34)
  have Pu1 := slot_new x5 (.slice Au1 Ku1 Du1) 34
  replace N0 := N0.keep BA
  replace P0 := P0.keep BA
  replace N1 := N1.keep BA
  replace P1 := P1.keep BA
  replace N2 := N2.keep BA
  replace P2 := P2.keep BA
  replace Oq1 := Oq1.keep BA
  replace Pq1 := Pq1.keep BA
  replace Oq2 := Oq2.keep BA
  replace Pq2 := Pq2.keep BA
  replace Om1 := Om1.keep BA
  replace Pm1 := Pm1.keep BA
  replace Om2 := Om2.keep BA
  replace Pm2 := Pm2.keep BA
  replace Ou1 := Ou1.keep BA
  replace c_P0 := P0.cell
  replace c_P1 := P1.cell
  replace c_P2 := P2.cell
  replace c_Pq1 := Pq1.cell
  replace c_Pq2 := Pq2.cell
  replace c_Pm1 := Pm1.cell
  replace c_Pm2 := Pm2.cell
  replace HB := joinB HB BA
  clear BA
  replace c_Pu1 := Pu1.cell
  go_wp2_with fail
  generalize x5.alloc (.cells #[.slice Au1 Ku1 Du1] 34) = xx5 at *
  generalize x5.heap.size = gu1 at *
  go_wp2_with fail
  refine (eMulDivUp N0 (by omega) N1 (by omega) N2 (by omega)).mono ?_
  rintro e x6 ⟨Au2, Ku2, Du2, rfl, Ou2, hku2, hB⟩
  replace N0 := N0.keep hB
  replace P0 := P0.keep hB
  replace N1 := N1.keep hB
  replace P1 := P1.keep hB
  replace N2 := N2.keep hB
  replace P2 := P2.keep hB
  replace Oq1 := Oq1.keep hB
  replace Pq1 := Pq1.keep hB
  replace Oq2 := Oq2.keep hB
  replace Pq2 := Pq2.keep hB
  replace Om1 := Om1.keep hB
  replace Pm1 := Pm1.keep hB
  replace Om2 := Om2.keep hB
  replace Pm2 := Pm2.keep hB
  replace Ou1 := Ou1.keep hB
  replace Pu1 := Pu1.keep hB
  replace c_P0 := P0.cell
  replace c_P1 := P1.cell
  replace c_P2 := P2.cell
  replace c_Pq1 := Pq1.cell
  replace c_Pq2 := Pq2.cell
  replace c_Pm1 := Pm1.cell
  replace c_Pm2 := Pm2.cell
  replace c_Pu1 := Pu1.cell
  replace HB := joinB HB hB
  clear hB
  have BA := below_alloc x6 (.cells #[.slice Au2 Ku2 Du2] 34)
  have Pu2 := slot_new x6 (.slice Au2 Ku2 Du2) 34
  replace N0 := N0.keep BA
  replace P0 := P0.keep BA
  replace N1 := N1.keep BA
  replace P1 := P1.keep BA
  replace N2 := N2.keep BA
  replace P2 := P2.keep BA
  replace Oq1 := Oq1.keep BA
  replace Pq1 := Pq1.keep BA
  replace Oq2 := Oq2.keep BA
  replace Pq2 := Pq2.keep BA
  replace Om1 := Om1.keep BA
  replace Pm1 := Pm1.keep BA
  replace Om2 := Om2.keep BA
  replace Pm2 := Pm2.keep BA
  replace Ou1 := Ou1.keep BA
  replace Pu1 := Pu1.keep BA
  replace Ou2 := Ou2.keep BA
  replace c_P0 := P0.cell
  replace c_P1 := P1.cell
  replace c_P2 := P2.cell
  replace c_Pq1 := Pq1.cell
  replace c_Pq2 := Pq2.cell
  replace c_Pm1 := Pm1.cell
  replace c_Pm2 := Pm2.cell
  replace c_Pu1 := Pu1.cell
  replace HB := joinB HB BA
  clear BA
  replace c_Pu2 := Pu2.cell
  go_wp2_with fail
  generalize x6.alloc (.cells #[.slice Au2 Ku2 Du2] 34) = xx6 at *
  generalize x6.heap.size = gu2 at *
  go_wp2_with fail
  refine (dOverV N0 (by omega) (by omega) (by omega)).mono ?_
  rintro e x7 ⟨Av1, Kv1, Dv1, rfl, Ov1, hkv1, hB⟩
  replace N0 := N0.keep hB
  replace P0 := P0.keep hB
  replace N1 := N1.keep hB
  replace P1 := P1.keep hB
  replace N2 := N2.keep hB
  replace P2 := P2.keep hB
  replace Oq1 := Oq1.keep hB
  replace Pq1 := Pq1.keep hB
  replace Oq2 := Oq2.keep hB
  replace Pq2 := Pq2.keep hB
  replace Om1 := Om1.keep hB
  replace Pm1 := Pm1.keep hB
  replace Om2 := Om2.keep hB
  replace Pm2 := Pm2.keep hB
  replace Ou1 := Ou1.keep hB
  replace Pu1 := Pu1.keep hB
  replace Ou2 := Ou2.keep hB
  replace Pu2 := Pu2.keep hB
  replace c_P0 := P0.cell
  replace c_P1 := P1.cell
  replace c_P2 := P2.cell
  replace c_Pq1 := Pq1.cell
  replace c_Pq2 := Pq2.cell
  replace c_Pm1 := Pm1.cell
  replace c_Pm2 := Pm2.cell
  replace c_Pu1 := Pu1.cell
  replace c_Pu2 := Pu2.cell
  replace HB := joinB HB hB
  clear hB
  have BA := below_alloc x7 (.cells #[.slice Av1 Kv1 Dv1] 34)
  have Pv1 := slot_new x7 (.slice Av1 Kv1 Dv1) 34
  replace N0 := N0.keep BA
  replace P0 := P0.keep BA
  replace N1 := N1.keep BA
  replace P1 := P1.keep BA
  replace N2 := N2.keep BA
  replace P2 := P2.keep BA
  replace Oq1 := Oq1.keep BA
  replace Pq1 := Pq1.keep BA
  replace Oq2 := Oq2.keep BA
  replace Pq2 := Pq2.keep BA
  replace Om1 := Om1.keep BA
  replace Pm1 := Pm1.keep BA
  replace Om2 := Om2.keep BA
  replace Pm2 := Pm2.keep BA
  replace Ou1 := Ou1.keep BA
  replace Pu1 := Pu1.keep BA
  replace Ou2 := Ou2.keep BA
  replace Pu2 := Pu2.keep BA
  replace Ov1 := Ov1.keep BA
  replace c_P0 := P0.cell
  replace c_P1 := P1.cell
  replace c_P2 := P2.cell
  replace c_Pq1 := Pq1.cell
  replace c_Pq2 := Pq2.cell
  replace c_Pm1 := Pm1.cell
  replace c_Pm2 := Pm2.cell
  replace c_Pu1 := Pu1.cell
  replace c_Pu2 := Pu2.cell
  replace HB := joinB HB BA
  clear BA
  replace c_Pv1 := Pv1.cell
  go_wp2_with fail
  generalize x7.alloc (.cells #[.slice Av1 Kv1 Dv1] 34) = xx7 at *
  generalize x7.heap.size = gv1 at *
  go_wp2_with fail
  refine (eOver N0 (by omega) (by omega) (by omega)).mono ?_
  rintro e x8 ⟨Av2, Kv2, Dv2, rfl, Ov2, hkv2, hB⟩
  replace N0 := N0.keep hB
  replace P0 := P0.keep hB
  replace N1 := N1.keep hB
  replace P1 := P1.keep hB
  replace N2 := N2.keep hB
  replace P2 := P2.keep hB
  replace Oq1 := Oq1.keep hB
  replace Pq1 := Pq1.keep hB
  replace Oq2 := Oq2.keep hB
  replace Pq2 := Pq2.keep hB
  replace Om1 := Om1.keep hB
  replace Pm1 := Pm1.keep hB
  replace Om2 := Om2.keep hB
  replace Pm2 := Pm2.keep hB
  replace Ou1 := Ou1.keep hB
  replace Pu1 := Pu1.keep hB
  replace Ou2 := Ou2.keep hB
  replace Pu2 := Pu2.keep hB
  replace Ov1 := Ov1.keep hB
  replace Pv1 := Pv1.keep hB
  replace c_P0 := P0.cell
  replace c_P1 := P1.cell
  replace c_P2 := P2.cell
  replace c_Pq1 := Pq1.cell
  replace c_Pq2 := Pq2.cell
  replace c_Pm1 := Pm1.cell
  replace c_Pm2 := Pm2.cell
  replace c_Pu1 := Pu1.cell
  replace c_Pu2 := Pu2.cell
  replace c_Pv1 := Pv1.cell
  replace HB := joinB HB hB
  clear hB
  have BA := below_alloc x8 (.cells #[.slice Av2 Kv2 Dv2] 34)
  have Pv2 := slot_new x8 (.slice Av2 Kv2 Dv2) 34
  replace N0 := N0.keep BA
  replace P0 := P0.keep BA
  replace N1 := N1.keep BA
  replace P1 := P1.keep BA
  replace N2 := N2.keep BA
  replace P2 := P2.keep BA
  replace Oq1 := Oq1.keep BA
  replace Pq1 := Pq1.keep BA
  replace Oq2 := Oq2.keep BA
  replace Pq2 := Pq2.keep BA
  replace Om1 := Om1.keep BA
  replace Pm1 := Pm1.keep BA
  replace Om2 := Om2.keep BA
  replace Pm2 := Pm2.keep BA
  replace Ou1 := Ou1.keep BA
  replace Pu1 := Pu1.keep BA
  replace Ou2 := Ou2.keep BA
  replace Pu2 := Pu2.keep BA
  replace Ov1 := Ov1.keep BA
  replace Pv1 := Pv1.keep BA
  replace Ov2 := Ov2.keep BA
  replace c_P0 := P0.cell
  replace c_P1 := P1.cell
  replace c_P2 := P2.cell
  replace c_Pq1 := Pq1.cell
  replace c_Pq2 := Pq2.cell
  replace c_Pm1 := Pm1.cell
  replace c_Pm2 := Pm2.cell
  replace c_Pu1 := Pu1.cell
  replace c_Pu2 := Pu2.cell
  replace c_Pv1 := Pv1.cell
  replace HB := joinB HB BA
  clear BA
  replace c_Pv2 := Pv2.cell
  go_wp2_with fail
  generalize x8.alloc (.cells #[.slice Av2 Kv2 Dv2] 34) = xx8 at *
  generalize x8.heap.size = gv2 at *
  go_wp2_with fail
  refine (dTrunc N0 (by omega)).mono ?_
  rintro e x9 ⟨As1, Ks1, Ds1, At1, Kt1, Dt1, rfl, Os1, Ot1, hks1, hkt1, hB⟩
  replace N0 := N0.keep hB
  replace P0 := P0.keep hB
  replace N1 := N1.keep hB
  replace P1 := P1.keep hB
  replace N2 := N2.keep hB
  replace P2 := P2.keep hB
  replace Oq1 := Oq1.keep hB
  replace Pq1 := Pq1.keep hB
  replace Oq2 := Oq2.keep hB
  replace Pq2 := Pq2.keep hB
  replace Om1 := Om1.keep hB
  replace Pm1 := Pm1.keep hB
  replace Om2 := Om2.keep hB
  replace Pm2 := Pm2.keep hB
  replace Ou1 := Ou1.keep hB
  replace Pu1 := Pu1.keep hB
  replace Ou2 := Ou2.keep hB
  replace Pu2 := Pu2.keep hB
  replace Ov1 := Ov1.keep hB
  replace Pv1 := Pv1.keep hB
  replace Ov2 := Ov2.keep hB
  replace Pv2 := Pv2.keep hB
  replace c_P0 := P0.cell
  replace c_P1 := P1.cell
  replace c_P2 := P2.cell
  replace c_Pq1 := Pq1.cell
  replace c_Pq2 := Pq2.cell
  replace c_Pm1 := Pm1.cell
  replace c_Pm2 := Pm2.cell
  replace c_Pu1 := Pu1.cell
  replace c_Pu2 := Pu2.cell
  replace c_Pv1 := Pv1.cell
  replace c_Pv2 := Pv2.cell
  replace HB := joinB HB hB
  clear hB
  have BA := below_alloc x9 (.cells #[.slice At1 Kt1 Dt1] 34)
  have Pt1 := slot_new x9 (.slice At1 Kt1 Dt1) 34
  replace N0 := N0.keep BA
  replace P0 := P0.keep BA
  replace N1 := N1.keep BA
  replace P1 := P1.keep BA
  replace N2 := N2.keep BA
  replace P2 := P2.keep BA
  replace Oq1 := Oq1.keep BA
  replace Pq1 := Pq1.keep BA
  replace Oq2 := Oq2.keep BA
  replace Pq2 := Pq2.keep BA
  replace Om1 := Om1.keep BA
  replace Pm1 := Pm1.keep BA
  replace Om2 := Om2.keep BA
  replace Pm2 := Pm2.keep BA
  replace Ou1 := Ou1.keep BA
  replace Pu1 := Pu1.keep BA
  replace Ou2 := Ou2.keep BA
  replace Pu2 := Pu2.keep BA
  replace Ov1 := Ov1.keep BA
  replace Pv1 := Pv1.keep BA
  replace Ov2 := Ov2.keep BA
  replace Pv2 := Pv2.keep BA
  replace Os1 := Os1.keep BA
  replace Ot1 := Ot1.keep BA
  replace c_P0 := P0.cell
  replace c_P1 := P1.cell
  replace c_P2 := P2.cell
  replace c_Pq1 := Pq1.cell
  replace c_Pq2 := Pq2.cell
  replace c_Pm1 := Pm1.cell
  replace c_Pm2 := Pm2.cell
  replace c_Pu1 := Pu1.cell
  replace c_Pu2 := Pu2.cell
  replace c_Pv1 := Pv1.cell
  replace c_Pv2 := Pv2.cell
  replace HB := joinB HB BA
  clear BA
  replace c_Pt1 := Pt1.cell
  go_wp2_with fail
  generalize x9.alloc (.cells #[.slice At1 Kt1 Dt1] 34) = xx9 at *
  generalize x9.heap.size = gt1 at *
  go_wp2_with fail
  refine (eTrunc N0 (by omega)).mono ?_
  rintro e x10 ⟨As2, Ks2, Ds2, At2, Kt2, Dt2, rfl, Os2, Ot2, hks2, hkt2, hB⟩
  replace N0 := N0.keep hB
  replace P0 := P0.keep hB
  replace N1 := N1.keep hB
  replace P1 := P1.keep hB
  replace N2 := N2.keep hB
  replace P2 := P2.keep hB
  replace Oq1 := Oq1.keep hB
  replace Pq1 := Pq1.keep hB
  replace Oq2 := Oq2.keep hB
  replace Pq2 := Pq2.keep hB
  replace Om1 := Om1.keep hB
  replace Pm1 := Pm1.keep hB
  replace Om2 := Om2.keep hB
  replace Pm2 := Pm2.keep hB
  replace Ou1 := Ou1.keep hB
  replace Pu1 := Pu1.keep hB
  replace Ou2 := Ou2.keep hB
  replace Pu2 := Pu2.keep hB
  replace Ov1 := Ov1.keep hB
  replace Pv1 := Pv1.keep hB
  replace Ov2 := Ov2.keep hB
  replace Pv2 := Pv2.keep hB
  replace Os1 := Os1.keep hB
  replace Ot1 := Ot1.keep hB
  replace Pt1 := Pt1.keep hB
  replace c_P0 := P0.cell
  replace c_P1 := P1.cell
  replace c_P2 := P2.cell
  replace c_Pq1 := Pq1.cell
  replace c_Pq2 := Pq2.cell
  replace c_Pm1 := Pm1.cell
  replace c_Pm2 := Pm2.cell
  replace c_Pu1 := Pu1.cell
  replace c_Pu2 := Pu2.cell
  replace c_Pv1 := Pv1.cell
  replace c_Pv2 := Pv2.cell
  replace c_Pt1 := Pt1.cell
  replace HB := joinB HB hB
  clear hB
  have BA := below_alloc x10 (.cells #[.slice At2 Kt2 Dt2] 34)
  have Pt2 := slot_new x10 (.slice At2 Kt2 Dt2) 34
  replace N0 := N0.keep BA
  replace P0 := P0.keep BA
  replace N1 := N1.keep BA
  replace P1 := P1.keep BA
  replace N2 := N2.keep BA
  replace P2 := P2.keep BA
  replace Oq1 := Oq1.keep BA
  replace Pq1 := Pq1.keep BA
  replace Oq2 := Oq2.keep BA
  replace Pq2 := Pq2.keep BA
  replace Om1 := Om1.keep BA
  replace Pm1 := Pm1.keep BA
  replace Om2 := Om2.keep BA
  replace Pm2 := Pm2.keep BA
  replace Ou1 := Ou1.keep BA
  replace Pu1 := Pu1.keep BA
  replace Ou2 := Ou2.keep BA
  replace Pu2 := Pu2.keep BA
  replace Ov1 := Ov1.keep BA
  replace Pv1 := Pv1.keep BA
  replace Ov2 := Ov2.keep BA
  replace Pv2 := Pv2.keep BA
  replace Os1 := Os1.keep BA
  replace Ot1 := Ot1.keep BA
  replace Pt1 := Pt1.keep BA
  replace Os2 := Os2.keep BA
  replace Ot2 := Ot2.keep BA
  replace c_P0 := P0.cell
  replace c_P1 := P1.cell
  replace c_P2 := P2.cell
  replace c_Pq1 := Pq1.cell
  replace c_Pq2 := Pq2.cell
  replace c_Pm1 := Pm1.cell
  replace c_Pm2 := Pm2.cell
  replace c_Pu1 := Pu1.cell
  replace c_Pu2 := Pu2.cell
  replace c_Pv1 := Pv1.cell
  replace c_Pv2 := Pv2.cell
  replace c_Pt1 := Pt1.cell
  replace HB := joinB HB BA
  clear BA
  replace c_Pt2 := Pt2.cell
  go_wp2_with fail
  generalize x10.alloc (.cells #[.slice At2 Kt2 Dt2] 34) = xx10 at *
  generalize x10.heap.size = gt2 at *
  generalize decE (val l1) = E1 at *
  generalize decE (val l2) = E2 at *
  generalize decE y3 = E3 at *
  go_wp2_with fail
  refine rg_start (S := fun w' => Below xx10.drew.heap.size xx10.drew w') (by kernel_rfl) (Below.refl _ _) ?_
  replace N0 := N0.drew
  replace P0 := P0.drew
  replace N1 := N1.drew
  replace P1 := P1.drew
  replace N2 := N2.drew
  replace P2 := P2.drew
  replace Oq1 := Oq1.drew
  replace Pq1 := Pq1.drew
  replace Oq2 := Oq2.drew
  replace Pq2 := Pq2.drew
  replace Om1 := Om1.drew
  replace Pm1 := Pm1.drew
  replace Om2 := Om2.drew
  replace Pm2 := Pm2.drew
  replace Ou1 := Ou1.drew
  replace Pu1 := Pu1.drew
  replace Ou2 := Ou2.drew
  replace Pu2 := Pu2.drew
  replace Ov1 := Ov1.drew
  replace Pv1 := Pv1.drew
  replace Ov2 := Ov2.drew
  replace Pv2 := Pv2.drew
  replace Os1 := Os1.drew
  replace Ot1 := Ot1.drew
  replace Pt1 := Pt1.drew
  replace Os2 := Os2.drew
  replace Ot2 := Ot2.drew
  replace Pt2 := Pt2.drew
  replace HB := HB.drew
  have UP0 := P0
  clear c_P0
  have UP1 := P1
  clear c_P1
  have UP2 := P2
  clear c_P2
  have UPq1 := Pq1
  clear c_Pq1
  have UPq2 := Pq2
  clear c_Pq2
  have UPm1 := Pm1
  clear c_Pm1
  have UPm2 := Pm2
  clear c_Pm2
  have UPu1 := Pu1
  clear c_Pu1
  have UPu2 := Pu2
  clear c_Pu2
  have UPv1 := Pv1
  clear c_Pv1
  have UPv2 := Pv2
  clear c_Pv2
  have UPt1 := Pt1
  clear c_Pt1
  have UPt2 := Pt2
  clear c_Pt2
  have hS := Below.refl xx10.drew.heap.size xx10.drew
  clear P0 P1 P2 Pq1 Pq2 Pm1 Pm2 Pu1 Pu2 Pv1 Pv2 Pt1 Pt2
  refine rg_load 0 (some 99) (.agg #[.slice a0 len0 cap0]) 34 4 (w.heap.size) 0 (by kernel_rfl) (by kernel_rfl) (by kernel_rfl) (fun _ hb => load_dec (UP0.keep hb)) (fun _ _ _ h => h) hS ?_
  refine rg_load 1 (some 100) (.agg #[.slice a1 len1 cap1]) 34 5 (w.heap.size + 1) 0 (by kernel_rfl) (by kernel_rfl) (by kernel_rfl) (fun _ hb => load_dec (UP1.keep hb)) (fun _ _ _ h => h) hS ?_
  refine rg_load 3 (some 102) (.agg #[.slice a0 len0 cap0]) 34 4 (w.heap.size) 0 (by kernel_rfl) (by kernel_rfl) (by kernel_rfl) (fun _ hb => load_dec (UP0.keep hb)) (fun _ _ _ h => h) hS ?_
  refine rg_load 4 (some 103) (.agg #[.slice a1 len1 cap1]) 34 5 (w.heap.size + 1) 0 (by kernel_rfl) (by kernel_rfl) (by kernel_rfl) (fun _ hb => load_dec (UP1.keep hb)) (fun _ _ _ h => h) hS ?_
  refine rg_call 2 (some 101) 45 #[.agg #[.slice a0 len0 cap0], .agg #[.slice a1 len1 cap1]] (by kernel_rfl) (by kernel_rfl) (dMul N0 (by omega) N1 (by omega)) ?_
  rintro e r1 ⟨Ap1, Kp1, Dp1, rfl, Op1, hkp1, hB⟩
  refine ⟨_, rfl, joinB hS hB, ?_⟩
  replace hS := joinB hS hB
  replace N0 := N0.keep hB
  replace N1 := N1.keep hB
  replace N2 := N2.keep hB
  replace Oq1 := Oq1.keep hB
  replace Oq2 := Oq2.keep hB
  replace Om1 := Om1.keep hB
  replace Om2 := Om2.keep hB
  replace Ou1 := Ou1.keep hB
  replace Ou2 := Ou2.keep hB
  replace Ov1 := Ov1.keep hB
  replace Ov2 := Ov2.keep hB
  replace Os1 := Os1.keep hB
  replace Ot1 := Ot1.keep hB
  replace Os2 := Os2.keep hB
  replace Ot2 := Ot2.keep hB
  replace HB := joinB HB hB
  clear hB
  refine rg_call 5 (some 104) 46 #[.agg #[.slice a0 len0 cap0], .agg #[.slice a1 len1 cap1]] (by kernel_rfl) (by kernel_rfl) (eMul N0 (by omega) N1 (by omega)) ?_
  rintro e r2 ⟨Ap2, Kp2, Dp2, rfl, Op2, hkp2, hB⟩
  refine ⟨_, rfl, joinB hS hB, ?_⟩
  replace hS := joinB hS hB
  replace N0 := N0.keep hB
  replace N1 := N1.keep hB
  replace N2 := N2.keep hB
  replace Oq1 := Oq1.keep hB
  replace Oq2 := Oq2.keep hB
  replace Om1 := Om1.keep hB
  replace Om2 := Om2.keep hB
  replace Ou1 := Ou1.keep hB
  replace Ou2 := Ou2.keep hB
  replace Ov1 := Ov1.keep hB
  replace Ov2 := Ov2.keep hB
  replace Os1 := Os1.keep hB
  replace Ot1 := Ot1.keep hB
  replace Os2 := Os2.keep hB
  replace Ot2 := Ot2.keep hB
  replace Op1 := Op1.keep hB
  replace HB := joinB HB hB
  clear hB
  have tD := hDec Op1 Op2 (by omega) (by omega)
  rw [decide_eq_true rfl] at tD
  refine rg_call 6 (some 105) 21 #[.agg #[.slice Ap1 Kp1 Dp1], .agg #[.slice Ap2 Kp2 Dp2]] (by kernel_rfl) (by kernel_rfl) (tD) ?_
  rintro e r3 ⟨rfl, hB⟩
  refine ⟨_, rfl, joinB hS hB, ?_⟩
  replace hS := joinB hS hB
  replace N0 := N0.keep hB
  replace N1 := N1.keep hB
  replace N2 := N2.keep hB
  replace Oq1 := Oq1.keep hB
  replace Oq2 := Oq2.keep hB
  replace Om1 := Om1.keep hB
  replace Om2 := Om2.keep hB
  replace Ou1 := Ou1.keep hB
  replace Ou2 := Ou2.keep hB
  replace Ov1 := Ov1.keep hB
  replace Ov2 := Ov2.keep hB
  replace Os1 := Os1.keep hB
  replace Ot1 := Ot1.keep hB
  replace Os2 := Os2.keep hB
  replace Ot2 := Ot2.keep hB
  replace Op1 := Op1.keep hB
  replace Op2 := Op2.keep hB
  replace HB := joinB HB hB
  clear hB
  clear tD
  refine rg_take 7 (some 106) (.bool true) (by kernel_rfl) (fun _ _ => by kernel_rfl) (fun _ _ _ h => h) hS ?_
  refine rg_load 8 (some 107) (.agg #[.slice Aq1 Kq1 Dq1]) 34 9 (gq1) 0 (by kernel_rfl) (by kernel_rfl) (by kernel_rfl) (fun _ hb => load_dec (UPq1.keep hb)) (fun _ _ _ h => h) hS ?_
  refine rg_load 9 (some 108) (.agg #[.slice Aq2 Kq2 Dq2]) 34 11 (gq2) 0 (by kernel_rfl) (by kernel_rfl) (by kernel_rfl) (fun _ hb => load_dec (UPq2.keep hb)) (fun _ _ _ h => h) hS ?_
  have tD := hDec Oq1 Oq2 (by omega) (by omega)
  rw [decide_eq_true rfl] at tD
  refine rg_call 10 (some 109) 21 #[.agg #[.slice Aq1 Kq1 Dq1], .agg #[.slice Aq2 Kq2 Dq2]] (by kernel_rfl) (by kernel_rfl) (tD) ?_
  rintro e r4 ⟨rfl, hB⟩
  refine ⟨_, rfl, joinB hS hB, ?_⟩
  replace hS := joinB hS hB
  replace N0 := N0.keep hB
  replace N1 := N1.keep hB
  replace N2 := N2.keep hB
  replace Oq1 := Oq1.keep hB
  replace Oq2 := Oq2.keep hB
  replace Om1 := Om1.keep hB
  replace Om2 := Om2.keep hB
  replace Ou1 := Ou1.keep hB
  replace Ou2 := Ou2.keep hB
  replace Ov1 := Ov1.keep hB
  replace Ov2 := Ov2.keep hB
  replace Os1 := Os1.keep hB
  replace Ot1 := Ot1.keep hB
  replace Os2 := Os2.keep hB
  replace Ot2 := Ot2.keep hB
  replace Op1 := Op1.keep hB
  replace Op2 := Op2.keep hB
  replace HB := joinB HB hB
  clear hB
  clear tD
  refine rg_take 11 (some 110) (.bool true) (by kernel_rfl) (fun _ _ => by kernel_rfl) (fun _ _ _ h => h) hS ?_
  refine rg_take 12 (some 111) (.bool true) (by kernel_rfl) (fun _ _ => by kernel_rfl) (fun _ _ _ h => h) hS ?_
  refine rg_take 13 (some 112) (.int .i64 E1) (by kernel_rfl) (fun _ _ => by kernel_rfl) (fun _ _ _ h => h) hS ?_
  refine rg_take 14 (some 113) (.int .i64 E1) (by kernel_rfl) (fun _ _ => by kernel_rfl) (fun _ _ _ h => h) hS ?_
  refine rg_eq 15 (some 114) (.bool ((E1 : Int) == E1)) (.bool true) (by rw [beq_self_eq_true]) (by kernel_rfl) (fun _ _ => by kernel_rfl) (fun _ _ _ h => h) hS ?_
  refine rg_take 16 (some 115) (.bool true) (by kernel_rfl) (fun _ _ => by kernel_rfl) (fun _ _ _ h => h) hS ?_
  refine rg_take 17 (some 116) (.bool true) (by kernel_rfl) (fun _ _ => by kernel_rfl) (fun _ _ _ h => h) hS ?_
  refine rg_load 18 (some 117) (.agg #[.slice Am1 Km1 Dm1]) 34 13 (gm1) 0 (by kernel_rfl) (by kernel_rfl) (by kernel_rfl) (fun _ hb => load_dec (UPm1.keep hb)) (fun _ _ _ h => h) hS ?_
  refine rg_load 19 (some 118) (.agg #[.slice Am2 Km2 Dm2]) 34 15 (gm2) 0 (by kernel_rfl) (by kernel_rfl) (by kernel_rfl) (fun _ hb => load_dec (UPm2.keep hb)) (fun _ _ _ h => h) hS ?_
  have tD := hDec Om1 Om2 (by omega) (by omega)
  rw [decide_eq_true rfl] at tD
  refine rg_call 20 (some 119) 21 #[.agg #[.slice Am1 Km1 Dm1], .agg #[.slice Am2 Km2 Dm2]] (by kernel_rfl) (by kernel_rfl) (tD) ?_
  rintro e r5 ⟨rfl, hB⟩
  refine ⟨_, rfl, joinB hS hB, ?_⟩
  replace hS := joinB hS hB
  replace N0 := N0.keep hB
  replace N1 := N1.keep hB
  replace N2 := N2.keep hB
  replace Oq1 := Oq1.keep hB
  replace Oq2 := Oq2.keep hB
  replace Om1 := Om1.keep hB
  replace Om2 := Om2.keep hB
  replace Ou1 := Ou1.keep hB
  replace Ou2 := Ou2.keep hB
  replace Ov1 := Ov1.keep hB
  replace Ov2 := Ov2.keep hB
  replace Os1 := Os1.keep hB
  replace Ot1 := Ot1.keep hB
  replace Os2 := Os2.keep hB
  replace Ot2 := Ot2.keep hB
  replace Op1 := Op1.keep hB
  replace Op2 := Op2.keep hB
  replace HB := joinB HB hB
  clear hB
  clear tD
  refine rg_take 21 (some 120) (.bool true) (by kernel_rfl) (fun _ _ => by kernel_rfl) (fun _ _ _ h => h) hS ?_
  refine rg_take 22 (some 121) (.bool true) (by kernel_rfl) (fun _ _ => by kernel_rfl) (fun _ _ _ h => h) hS ?_
  refine rg_take 23 (some 122) (.int .i64 E2) (by kernel_rfl) (fun _ _ => by kernel_rfl) (fun _ _ _ h => h) hS ?_
  refine rg_take 24 (some 123) (.int .i64 E2) (by kernel_rfl) (fun _ _ => by kernel_rfl) (fun _ _ _ h => h) hS ?_
  refine rg_eq 25 (some 124) (.bool ((E2 : Int) == E2)) (.bool true) (by rw [beq_self_eq_true]) (by kernel_rfl) (fun _ _ => by kernel_rfl) (fun _ _ _ h => h) hS ?_
  refine rg_take 26 (some 125) (.bool true) (by kernel_rfl) (fun _ _ => by kernel_rfl) (fun _ _ _ h => h) hS ?_
  refine rg_take 27 (some 126) (.bool true) (by kernel_rfl) (fun _ _ => by kernel_rfl) (fun _ _ _ h => h) hS ?_
  refine rg_load 28 (some 127) (.agg #[.slice Au1 Ku1 Du1]) 34 17 (gu1) 0 (by kernel_rfl) (by kernel_rfl) (by kernel_rfl) (fun _ hb => load_dec (UPu1.keep hb)) (fun _ _ _ h => h) hS ?_
  refine rg_load 29 (some 128) (.agg #[.slice Au2 Ku2 Du2]) 34 19 (gu2) 0 (by kernel_rfl) (by kernel_rfl) (by kernel_rfl) (fun _ hb => load_dec (UPu2.keep hb)) (fun _ _ _ h => h) hS ?_
  have tD := hDec Ou1 Ou2 (by omega) (by omega)
  rw [decide_eq_true rfl] at tD
  refine rg_call 30 (some 129) 21 #[.agg #[.slice Au1 Ku1 Du1], .agg #[.slice Au2 Ku2 Du2]] (by kernel_rfl) (by kernel_rfl) (tD) ?_
  rintro e r6 ⟨rfl, hB⟩
  refine ⟨_, rfl, joinB hS hB, ?_⟩
  replace hS := joinB hS hB
  replace N0 := N0.keep hB
  replace N1 := N1.keep hB
  replace N2 := N2.keep hB
  replace Oq1 := Oq1.keep hB
  replace Oq2 := Oq2.keep hB
  replace Om1 := Om1.keep hB
  replace Om2 := Om2.keep hB
  replace Ou1 := Ou1.keep hB
  replace Ou2 := Ou2.keep hB
  replace Ov1 := Ov1.keep hB
  replace Ov2 := Ov2.keep hB
  replace Os1 := Os1.keep hB
  replace Ot1 := Ot1.keep hB
  replace Os2 := Os2.keep hB
  replace Ot2 := Ot2.keep hB
  replace Op1 := Op1.keep hB
  replace Op2 := Op2.keep hB
  replace HB := joinB HB hB
  clear hB
  clear tD
  refine rg_take 31 (some 130) (.bool true) (by kernel_rfl) (fun _ _ => by kernel_rfl) (fun _ _ _ h => h) hS ?_
  refine rg_take 32 (some 131) (.bool true) (by kernel_rfl) (fun _ _ => by kernel_rfl) (fun _ _ _ h => h) hS ?_
  refine rg_take 33 (some 132) (.int .i64 E2) (by kernel_rfl) (fun _ _ => by kernel_rfl) (fun _ _ _ h => h) hS ?_
  refine rg_take 34 (some 133) (.int .i64 E2) (by kernel_rfl) (fun _ _ => by kernel_rfl) (fun _ _ _ h => h) hS ?_
  refine rg_eq 35 (some 134) (.bool ((E2 : Int) == E2)) (.bool true) (by rw [beq_self_eq_true]) (by kernel_rfl) (fun _ _ => by kernel_rfl) (fun _ _ _ h => h) hS ?_
  refine rg_take 36 (some 135) (.bool true) (by kernel_rfl) (fun _ _ => by kernel_rfl) (fun _ _ _ h => h) hS ?_
  refine rg_take 37 (some 136) (.bool true) (by kernel_rfl) (fun _ _ => by kernel_rfl) (fun _ _ _ h => h) hS ?_
  refine rg_load 38 (some 137) (.agg #[.slice Av1 Kv1 Dv1]) 34 21 (gv1) 0 (by kernel_rfl) (by kernel_rfl) (by kernel_rfl) (fun _ hb => load_dec (UPv1.keep hb)) (fun _ _ _ h => h) hS ?_
  refine rg_load 39 (some 138) (.agg #[.slice Av2 Kv2 Dv2]) 34 23 (gv2) 0 (by kernel_rfl) (by kernel_rfl) (by kernel_rfl) (fun _ hb => load_dec (UPv2.keep hb)) (fun _ _ _ h => h) hS ?_
  have tD := hDec Ov1 Ov2 (by omega) (by omega)
  rw [decide_eq_true rfl] at tD
  refine rg_call 40 (some 139) 21 #[.agg #[.slice Av1 Kv1 Dv1], .agg #[.slice Av2 Kv2 Dv2]] (by kernel_rfl) (by kernel_rfl) (tD) ?_
  rintro e r7 ⟨rfl, hB⟩
  refine ⟨_, rfl, joinB hS hB, ?_⟩
  replace hS := joinB hS hB
  replace N0 := N0.keep hB
  replace N1 := N1.keep hB
  replace N2 := N2.keep hB
  replace Oq1 := Oq1.keep hB
  replace Oq2 := Oq2.keep hB
  replace Om1 := Om1.keep hB
  replace Om2 := Om2.keep hB
  replace Ou1 := Ou1.keep hB
  replace Ou2 := Ou2.keep hB
  replace Ov1 := Ov1.keep hB
  replace Ov2 := Ov2.keep hB
  replace Os1 := Os1.keep hB
  replace Ot1 := Ot1.keep hB
  replace Os2 := Os2.keep hB
  replace Ot2 := Ot2.keep hB
  replace Op1 := Op1.keep hB
  replace Op2 := Op2.keep hB
  replace HB := joinB HB hB
  clear hB
  clear tD
  refine rg_take 41 (some 140) (.bool true) (by kernel_rfl) (fun _ _ => by kernel_rfl) (fun _ _ _ h => h) hS ?_
  refine rg_take 42 (some 141) (.bool true) (by kernel_rfl) (fun _ _ => by kernel_rfl) (fun _ _ _ h => h) hS ?_
  refine rg_take 43 (some 142) (.int .i64 E3) (by kernel_rfl) (fun _ _ => by kernel_rfl) (fun _ _ _ h => h) hS ?_
  refine rg_take 44 (some 143) (.int .i64 E3) (by kernel_rfl) (fun _ _ => by kernel_rfl) (fun _ _ _ h => h) hS ?_
  refine rg_eq 45 (some 144) (.bool ((E3 : Int) == E3)) (.bool true) (by rw [beq_self_eq_true]) (by kernel_rfl) (fun _ _ => by kernel_rfl) (fun _ _ _ h => h) hS ?_
  refine rg_take 46 (some 145) (.bool true) (by kernel_rfl) (fun _ _ => by kernel_rfl) (fun _ _ _ h => h) hS ?_
  refine rg_take 47 (some 146) (.bool true) (by kernel_rfl) (fun _ _ => by kernel_rfl) (fun _ _ _ h => h) hS ?_
  refine rg_take 48 (some 147) (.slice As1 Ks1 Ds1) (by kernel_rfl) (fun _ _ => by kernel_rfl) (fun _ _ _ h => h) hS ?_
  refine rg_take 49 (some 148) (.slice As2 Ks2 Ds2) (by kernel_rfl) (fun _ _ => by kernel_rfl) (fun _ _ _ h => h) hS ?_
  have tD := nSame Os1 Os2 (by omega) (by omega)
  rw [decide_eq_true rfl] at tD
  refine rg_call 50 (some 149) 47 #[.slice As1 Ks1 Ds1, .slice As2 Ks2 Ds2] (by kernel_rfl) (by kernel_rfl) (tD) ?_
  rintro e r8 ⟨rfl, hB⟩
  refine ⟨_, rfl, joinB hS hB, ?_⟩
  replace hS := joinB hS hB
  replace N0 := N0.keep hB
  replace N1 := N1.keep hB
  replace N2 := N2.keep hB
  replace Oq1 := Oq1.keep hB
  replace Oq2 := Oq2.keep hB
  replace Om1 := Om1.keep hB
  replace Om2 := Om2.keep hB
  replace Ou1 := Ou1.keep hB
  replace Ou2 := Ou2.keep hB
  replace Ov1 := Ov1.keep hB
  replace Ov2 := Ov2.keep hB
  replace Os1 := Os1.keep hB
  replace Ot1 := Ot1.keep hB
  replace Os2 := Os2.keep hB
  replace Ot2 := Ot2.keep hB
  replace Op1 := Op1.keep hB
  replace Op2 := Op2.keep hB
  replace HB := joinB HB hB
  clear hB
  clear tD
  refine rg_take 51 (some 150) (.bool true) (by kernel_rfl) (fun _ _ => by kernel_rfl) (fun _ _ _ h => h) hS ?_
  refine rg_take 52 (some 151) (.bool true) (by kernel_rfl) (fun _ _ => by kernel_rfl) (fun _ _ _ h => h) hS ?_
  refine rg_load 53 (some 152) (.agg #[.slice At1 Kt1 Dt1]) 34 26 (gt1) 0 (by kernel_rfl) (by kernel_rfl) (by kernel_rfl) (fun _ hb => load_dec (UPt1.keep hb)) (fun _ _ _ h => h) hS ?_
  refine rg_load 54 (some 153) (.agg #[.slice At2 Kt2 Dt2]) 34 28 (gt2) 0 (by kernel_rfl) (by kernel_rfl) (by kernel_rfl) (fun _ hb => load_dec (UPt2.keep hb)) (fun _ _ _ h => h) hS ?_
  have tD := hDec Ot1 Ot2 (by omega) (by omega)
  rw [decide_eq_true rfl] at tD
  refine rg_call 55 (some 154) 21 #[.agg #[.slice At1 Kt1 Dt1], .agg #[.slice At2 Kt2 Dt2]] (by kernel_rfl) (by kernel_rfl) (tD) ?_
  rintro e r9 ⟨rfl, hB⟩
  refine ⟨_, rfl, joinB hS hB, ?_⟩
  replace hS := joinB hS hB
  replace N0 := N0.keep hB
  replace N1 := N1.keep hB
  replace N2 := N2.keep hB
  replace Oq1 := Oq1.keep hB
  replace Oq2 := Oq2.keep hB
  replace Om1 := Om1.keep hB
  replace Om2 := Om2.keep hB
  replace Ou1 := Ou1.keep hB
  replace Ou2 := Ou2.keep hB
  replace Ov1 := Ov1.keep hB
  replace Ov2 := Ov2.keep hB
  replace Os1 := Os1.keep hB
  replace Ot1 := Ot1.keep hB
  replace Os2 := Os2.keep hB
  replace Ot2 := Ot2.keep hB
  replace Op1 := Op1.keep hB
  replace Op2 := Op2.keep hB
  replace HB := joinB HB hB
  clear hB
  clear tD
  refine rg_take 56 (some 155) (.bool true) (by kernel_rfl) (fun _ _ => by kernel_rfl) (fun _ _ _ h => h) hS ?_
  refine rg_take 57 (some 8) (.bool true) (by kernel_rfl) (fun _ _ => by kernel_rfl) (fun _ _ _ h => h) hS ?_
  refine rg_done (by kernel_rfl) ?_
  try simp only [Act.put, List.setIfInBounds_toArray, List.set_cons_zero, List.set_cons_succ]
  go_wp2
  go_ret
  exact ⟨rfl, HB⟩
end decProducts
end Go.Proofs.YtpbiflfdfiebcabGreatDoor
