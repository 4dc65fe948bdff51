/- gleanlaw2.DecRounds returns true for all decimals and all numbers. -/
import Derived.Test.YtpbiflfdfiebcabGreatDoorBitD
import Derived.Test.YtpbiflfdfiebcabGreatDoorSmallD
import Derived.Test.YtpbiflfdfiebcabGreatDoorDec3
import Derived.Test.YtpbiflfdfiebcabGreatDoorDec4
import Derived.Test.YtpbiflfdfiebcabGreatDoorReg
namespace Go.Proofs.YtpbiflfdfiebcabGreatDoor
namespace decRounds
open Go.RowKit Lim

theorem sgn_le {x y : Int} (h : x ≤ y) : sgn x y ≤ 0 := by unfold sgn; split <;> (try split) <;> omega
theorem mul_unit (x y : Int) : x * (y * U36) / U36 = x * y := by rw [← Int.mul_assoc]; exact Int.mul_ediv_cancel _ (by decide)
theorem quo_low (x z : Int) (hz : 0 < z) : x * U36 / z * z ≤ x * (1 * U36) := by rw [Int.one_mul]; exact Int.ediv_mul_le _ (by omega)
theorem quo_high (x z : Int) (hz : 0 < z) : x * (1 * U36) < (x * U36 / z + 1) * z := by
  rw [Int.one_mul]
  have h1 := Int.lt_ediv_add_one_mul_self (x * U36) hz
  exact h1
theorem rnd_yes {p z : Int} (h : p % z = 0) : rnd true p z = p / z := by simp [rnd, h]
theorem rnd_no {p z : Int} (h : p % z ≠ 0) : rnd true p z = p / z + 1 := by simp [rnd, h]
theorem ex_yes {p z : Int} (h : p % z = 0) : p / z * z = p := Int.ediv_mul_cancel (Int.dvd_of_emod_eq_zero h)
theorem ex_no {p z : Int} (h : p % z ≠ 0) : ¬ p / z * z = p := fun e => h (by
  have := Int.mul_ediv_add_emod p z
  rw [Int.mul_comm] at this
  omega)
set_option maxHeartbeats 40000000 in
set_option maxRecDepth 100000 in
theorem walk (a0 : Option Addr) (len0 cap0 : Nat) (z0 : List Int) (a1 : Option Addr) (len1 cap1 : Nat) (z1 : List Int) (a2 : Option Addr) (len2 cap2 : Nat) (z2 : List Int) (y3 : Int) (w : World) (w0 : IsRow w a0 len0 cap0 z0) (w1 : IsRow w a1 len1 cap1 z1) (w2 : IsRow w a2 len2 cap2 z2) (wy3 : (Lit.int .u64 y3).wf = true) :
    Calls Tryz.prog 8 #[.agg #[.slice a0 len0 cap0], .agg #[.slice a1 len1 cap1], .agg #[.slice a2 len2 cap2], .int .u64 y3] w fun e w' => e = .returned (.bool true) ∧ Below w.heap.size w w' := by
  obtain ⟨b0, o0, l0, hl0, hc0, hm0, W0, h0⟩ := w0.open
  have N0 : NatA w a0 len0 cap0 (val l0) := ⟨b0, o0, l0, hl0, hc0, W0, h0, rfl⟩
  have v0 := val_nonneg W0
  clear h0 w0
  obtain ⟨b1, o1, l1, hl1, hc1, hm1, W1, h1⟩ := w1.open
  have N1 : NatA w a1 len1 cap1 (val l1) := ⟨b1, o1, l1, hl1, hc1, W1, h1, rfl⟩
  have v1 := val_nonneg W1
  clear h1 w1
  obtain ⟨b2, o2, l2, hl2, hc2, hm2, W2, h2⟩ := w2.open
  have N2 : NatA w a2 len2 cap2 (val l2) := ⟨b2, o2, l2, hl2, hc2, W2, h2, rfl⟩
  have v2 := val_nonneg W2
  clear h2 w2
  have by3 := bounds_u64 wy3
  clear wy3
  have HB := below3 w (.cells #[.slice a0 len0 cap0] 34) (.cells #[.slice a1 len1 cap1] 34) (.cells #[.slice a2 len2 cap2] 34)
  have P0 := ((slot_new w (.slice a0 len0 cap0) 34).alloc (.cells #[.slice a1 len1 cap1] 34)).alloc (.cells #[.slice a2 len2 cap2] 34)
  replace N0 := N0.keep HB
  have P1 := (slot_last2 w (.cells #[.slice a0 len0 cap0] 34) (.slice a1 len1 cap1) 34).alloc (.cells #[.slice a2 len2 cap2] 34)
  replace N1 := N1.keep HB
  have P2 := slot_last3 w (.cells #[.slice a0 len0 cap0] 34) (.cells #[.slice a1 len1 cap1] 34) (.slice a2 len2 cap2) 34
  replace N2 := N2.keep HB
  go_enter Tryz.func8, Tryz.ntmps8
  go_wp2_with fail
  generalize ((w.alloc (.cells #[.slice a0 len0 cap0] 34)).alloc (.cells #[.slice a1 len1 cap1] 34)).alloc (.cells #[.slice a2 len2 cap2] 34) = u0 at *
  refine (knownD u0).mono ?_
  rintro e u1 ⟨rfl, hB⟩
  replace N0 := N0.keep hB
  replace P0 := P0.keep hB
  replace N1 := N1.keep hB
  replace P1 := P1.keep hB
  replace N2 := N2.keep hB
  replace P2 := P2.keep hB
  replace c_P0 := P0.cell
  replace c_P1 := P1.cell
  replace c_P2 := P2.cell
  replace HB := joinB HB hB
  clear hB
  have b1 := below_alloc u1 (.cells #[.slice a0 len0 cap0, .slice a1 len1 cap1, .slice a2 len2 cap2] 34)
  have tS := smallD_any [(a0, len0, cap0), (a1, len1, cap1), (a2, len2, cap2)] u1.heap.size 3 3 (u1.alloc (.cells #[.slice a0 len0 cap0, .slice a1 len1 cap1, .slice a2 len2 cap2] 34)) rfl (by decide)
    (fun i => by
      match i with
      | 0 => exact hm0
      | 1 => exact hm1
      | 2 => exact hm2
      | _ + 3 => exact Nat.zero_le _)
    (fun i hi => by
      rw [cell_new]
      match i, hi with
      | 0, _ => rfl
      | 1, _ => rfl
      | 2, _ => rfl)
  go_wp2_with fail
  refine tS.mono ?_
  rintro e u2 ⟨rfl, rfl⟩
  clear tS
  replace N0 := N0.keep b1
  replace P0 := P0.keep b1
  replace N1 := N1.keep b1
  replace P1 := P1.keep b1
  replace N2 := N2.keep b1
  replace P2 := P2.keep b1
  replace c_P0 := P0.cell
  replace c_P1 := P1.cell
  replace c_P2 := P2.cell
  replace HB := joinB HB b1
  clear b1
  generalize u1.alloc (.cells #[.slice a0 len0 cap0, .slice a1 len1 cap1, .slice a2 len2 cap2] 34) = u2 at *
  generalize u1.heap.size = gs at *
  by_cases hsm : smallD [(a0, len0, cap0), (a1, len1, cap1), (a2, len2, cap2)] = true
  rotate_left
  · have hsf : smallD [(a0, len0, cap0), (a1, len1, cap1), (a2, len2, cap2)] = false := by rw [Bool.not_eq_true] at hsm; exact hsm
    rw [hsf]
    go_wp2
    go_ret
    exact ⟨rfl, HB⟩
  rw [hsm]
  simp only [smallD, List.all_cons, List.all_nil, Bool.and_true, Bool.and_eq_true, decide_eq_true_eq] at hsm
  obtain ⟨hs0, hs1, hs2⟩ := hsm
  go_wp2_with fail
  refine (dOf (x := 1) (by decide) (by decide)).mono ?_
  rintro e x1 ⟨Aw1, Kw1, Dw1, rfl, Ow1, hkw1, hB⟩
  replace N0 := N0.keep hB
  replace P0 := P0.keep hB
  replace N1 := N1.keep hB
  replace P1 := P1.keep hB
  replace N2 := N2.keep hB
  replace P2 := P2.keep hB
  replace c_P0 := P0.cell
  replace c_P1 := P1.cell
  replace c_P2 := P2.cell
  replace HB := joinB HB hB
  clear hB
  have BA := below_alloc x1 (.cells #[.slice Aw1 Kw1 Dw1] 34)
  have Pw1 := slot_new x1 (.slice Aw1 Kw1 Dw1) 34
  replace N0 := N0.keep BA
  replace P0 := P0.keep BA
  replace N1 := N1.keep BA
  replace P1 := P1.keep BA
  replace N2 := N2.keep BA
  replace P2 := P2.keep BA
  replace Ow1 := Ow1.keep BA
  replace c_P0 := P0.cell
  replace c_P1 := P1.cell
  replace c_P2 := P2.cell
  replace HB := joinB HB BA
  clear BA
  replace c_Pw1 := Pw1.cell
  go_wp2_with fail
  generalize x1.alloc (.cells #[.slice Aw1 Kw1 Dw1] 34) = xx1 at *
  generalize x1.heap.size = gw1 at *
  by_cases hb : val l1 = 0
  · have HBB := (show Hid _ from hb)
    clear hb
    go_wp2_with fail
    refine (dQuoZ N0 (by omega) N1 (by omega) HBB.out).mono ?_
    rintro e x2 ⟨rfl, hB⟩
    replace N0 := N0.keep hB
    replace P0 := P0.keep hB
    replace N1 := N1.keep hB
    replace P1 := P1.keep hB
    replace N2 := N2.keep hB
    replace P2 := P2.keep hB
    replace Ow1 := Ow1.keep hB
    replace Pw1 := Pw1.keep hB
    replace c_P0 := P0.cell
    replace c_P1 := P1.cell
    replace c_P2 := P2.cell
    replace c_Pw1 := Pw1.cell
    replace HB := joinB HB hB
    clear hB
    have BA := below_alloc x2 (.cells #[.slice none 0 0] 34)
    have Pq := slot_new x2 (.slice none 0 0) 34
    replace N0 := N0.keep BA
    replace P0 := P0.keep BA
    replace N1 := N1.keep BA
    replace P1 := P1.keep BA
    replace N2 := N2.keep BA
    replace P2 := P2.keep BA
    replace Ow1 := Ow1.keep BA
    replace Pw1 := Pw1.keep BA
    replace c_P0 := P0.cell
    replace c_P1 := P1.cell
    replace c_P2 := P2.cell
    replace c_Pw1 := Pw1.cell
    replace HB := joinB HB BA
    clear BA
    replace c_Pq := Pq.cell
    go_wp2_with fail
    generalize x2.alloc (.cells #[.slice none 0 0] 34) = xx2 at *
    generalize x2.heap.size = gq at *
    have tZ := dZero N1 (by omega)
    rw [decide_eq_true HBB.out] at tZ
    go_wp2_with fail
    refine (tZ).mono ?_
    rintro e x3 ⟨rfl, hB⟩
    replace N0 := N0.keep hB
    replace P0 := P0.keep hB
    replace N1 := N1.keep hB
    replace P1 := P1.keep hB
    replace N2 := N2.keep hB
    replace P2 := P2.keep hB
    replace Ow1 := Ow1.keep hB
    replace Pw1 := Pw1.keep hB
    replace Pq := Pq.keep hB
    replace c_P0 := P0.cell
    replace c_P1 := P1.cell
    replace c_P2 := P2.cell
    replace c_Pw1 := Pw1.cell
    replace c_Pq := Pq.cell
    replace HB := joinB HB hB
    clear hB
    clear tZ
    clear Pq Pw1 Ow1 c_Pq c_Pw1
    by_cases hc : val l2 = 0
    · have HC := (show Hid _ from hc)
      clear hc
      go_wp2_with fail
      refine (dMulDivZ N0 (by omega) N1 (by omega) N2 (by omega) HC.out).mono ?_
      rintro e x4 ⟨rfl, hB⟩
      replace N0 := N0.keep hB
      replace P0 := P0.keep hB
      replace N1 := N1.keep hB
      replace P1 := P1.keep hB
      replace N2 := N2.keep hB
      replace P2 := P2.keep hB
      replace c_P0 := P0.cell
      replace c_P1 := P1.cell
      replace c_P2 := P2.cell
      replace HB := joinB HB hB
      clear hB
      have BA := below_alloc x4 (.cells #[.slice none 0 0] 34)
      have Pd := slot_new x4 (.slice none 0 0) 34
      replace N0 := N0.keep BA
      replace P0 := P0.keep BA
      replace N1 := N1.keep BA
      replace P1 := P1.keep BA
      replace N2 := N2.keep BA
      replace P2 := P2.keep BA
      replace c_P0 := P0.cell
      replace c_P1 := P1.cell
      replace c_P2 := P2.cell
      replace HB := joinB HB BA
      clear BA
      replace c_Pd := Pd.cell
      go_wp2_with fail
      generalize x4.alloc (.cells #[.slice none 0 0] 34) = xx4 at *
      generalize x4.heap.size = gd at *
      go_wp2_with fail
      refine (dMulDivUpZ N0 (by omega) N1 (by omega) N2 (by omega) HC.out).mono ?_
      rintro e x5 ⟨rfl, hB⟩
      replace N0 := N0.keep hB
      replace P0 := P0.keep hB
      replace N1 := N1.keep hB
      replace P1 := P1.keep hB
      replace N2 := N2.keep hB
      replace P2 := P2.keep hB
      replace Pd := Pd.keep hB
      replace c_P0 := P0.cell
      replace c_P1 := P1.cell
      replace c_P2 := P2.cell
      replace c_Pd := Pd.cell
      replace HB := joinB HB hB
      clear hB
      have BA := below_alloc x5 (.cells #[.slice none 0 0] 34)
      have Pu := slot_new x5 (.slice none 0 0) 34
      replace N0 := N0.keep BA
      replace P0 := P0.keep BA
      replace N1 := N1.keep BA
      replace P1 := P1.keep BA
      replace N2 := N2.keep BA
      replace P2 := P2.keep BA
      replace Pd := Pd.keep BA
      replace c_P0 := P0.cell
      replace c_P1 := P1.cell
      replace c_P2 := P2.cell
      replace c_Pd := Pd.cell
      replace HB := joinB HB BA
      clear BA
      replace c_Pu := Pu.cell
      go_wp2_with fail
      generalize x5.alloc (.cells #[.slice none 0 0] 34) = xx5 at *
      generalize x5.heap.size = gu at *
      have tZ := dZero N2 (by omega)
      rw [decide_eq_true HC.out] at tZ
      go_wp2_with fail
      refine (tZ).mono ?_
      rintro e x6 ⟨rfl, hB⟩
      replace N0 := N0.keep hB
      replace P0 := P0.keep hB
      replace N1 := N1.keep hB
      replace P1 := P1.keep hB
      replace N2 := N2.keep hB
      replace P2 := P2.keep hB
      replace Pd := Pd.keep hB
      replace Pu := Pu.keep hB
      replace c_P0 := P0.cell
      replace c_P1 := P1.cell
      replace c_P2 := P2.cell
      replace c_Pd := Pd.cell
      replace c_Pu := Pu.cell
      replace HB := joinB HB hB
      clear hB
      clear tZ
      go_wp2
      go_ret
      exact ⟨rfl, HB⟩
    · have HC := (show Hid _ from hc)
      clear hc
      by_cases hr : val l0 * val l1 % val l2 = 0
      · have HR := (show Hid _ from hr)
        clear hr
        go_wp2_with fail
        refine (dMulDiv N0 (by omega) N1 (by omega) N2 (by omega) HC.out).mono ?_
        rintro e x4 ⟨Ad, Kd, Dd, rfl, Od, hkd, hB⟩
        replace N0 := N0.keep hB
        replace P0 := P0.keep hB
        replace N1 := N1.keep hB
        replace P1 := P1.keep hB
        replace N2 := N2.keep hB
        replace P2 := P2.keep hB
        replace c_P0 := P0.cell
        replace c_P1 := P1.cell
        replace c_P2 := P2.cell
        replace HB := joinB HB hB
        clear hB
        have BA := below_alloc x4 (.cells #[.slice Ad Kd Dd] 34)
        have Pd := slot_new x4 (.slice Ad Kd Dd) 34
        replace N0 := N0.keep BA
        replace P0 := P0.keep BA
        replace N1 := N1.keep BA
        replace P1 := P1.keep BA
        replace N2 := N2.keep BA
        replace P2 := P2.keep BA
        replace Od := Od.keep BA
        replace c_P0 := P0.cell
        replace c_P1 := P1.cell
        replace c_P2 := P2.cell
        replace HB := joinB HB BA
        clear BA
        replace c_Pd := Pd.cell
        go_wp2_with fail
        generalize x4.alloc (.cells #[.slice Ad Kd Dd] 34) = xx4 at *
        generalize x4.heap.size = gd at *
        go_wp2_with fail
        refine (dMulDivUp N0 (by omega) N1 (by omega) N2 (by omega) HC.out).mono ?_
        rintro e x5 ⟨Au, Ku, Du, rfl, Ou, hku, hB⟩
        replace N0 := N0.keep hB
        replace P0 := P0.keep hB
        replace N1 := N1.keep hB
        replace P1 := P1.keep hB
        replace N2 := N2.keep hB
        replace P2 := P2.keep hB
        replace Od := Od.keep hB
        replace Pd := Pd.keep hB
        replace c_P0 := P0.cell
        replace c_P1 := P1.cell
        replace c_P2 := P2.cell
        replace c_Pd := Pd.cell
        replace HB := joinB HB hB
        clear hB
        replace Ou := Ou.eqv (rnd_yes HR.out)
        have BA := below_alloc x5 (.cells #[.slice Au Ku Du] 34)
        have Pu := slot_new x5 (.slice Au Ku Du) 34
        replace N0 := N0.keep BA
        replace P0 := P0.keep BA
        replace N1 := N1.keep BA
        replace P1 := P1.keep BA
        replace N2 := N2.keep BA
        replace P2 := P2.keep BA
        replace Od := Od.keep BA
        replace Pd := Pd.keep BA
        replace Ou := Ou.keep BA
        replace c_P0 := P0.cell
        replace c_P1 := P1.cell
        replace c_P2 := P2.cell
        replace c_Pd := Pd.cell
        replace HB := joinB HB BA
        clear BA
        replace c_Pu := Pu.cell
        go_wp2_with fail
        generalize x5.alloc (.cells #[.slice Au Ku Du] 34) = xx5 at *
        generalize x5.heap.size = gu at *
        have tZ := dZero N2 (by omega)
        rw [decide_eq_false HC.out] at tZ
        go_wp2_with fail
        refine (tZ).mono ?_
        rintro e x6 ⟨rfl, hB⟩
        replace N0 := N0.keep hB
        replace P0 := P0.keep hB
        replace N1 := N1.keep hB
        replace P1 := P1.keep hB
        replace N2 := N2.keep hB
        replace P2 := P2.keep hB
        replace Od := Od.keep hB
        replace Pd := Pd.keep hB
        replace Ou := Ou.keep hB
        replace Pu := Pu.keep hB
        replace c_P0 := P0.cell
        replace c_P1 := P1.cell
        replace c_P2 := P2.cell
        replace c_Pd := Pd.cell
        replace c_Pu := Pu.cell
        replace HB := joinB HB hB
        clear hB
        clear tZ
        go_wp2_with fail
        refine rg_start (S := fun w' => Below x6.drew.heap.size x6.drew w') (by kernel_rfl) (Below.refl _ _) ?_
        replace N0 := N0.drew
        replace P0 := P0.drew
        replace N1 := N1.drew
        replace P1 := P1.drew
        replace N2 := N2.drew
        replace P2 := P2.drew
        replace Od := Od.drew
        replace Pd := Pd.drew
        replace Ou := Ou.drew
        replace Pu := Pu.drew
        replace HB := HB.drew
        have UPd := Pd
        have UP2 := P2
        have UP0 := P0
        have UP1 := P1
        clear c_P0
        clear c_P1
        clear c_P2
        clear c_Pd
        clear c_Pu
        have hS := Below.refl x6.drew.heap.size x6.drew
        refine rg_take 0 (some 113) (.pointer (some ⟨gd, 0, none⟩)) (by kernel_rfl) (fun _ _ => by kernel_rfl) (fun _ _ _ h => h) hS ?_
        refine rg_load 1 (some 114) (.slice Ad Kd Dd) 27 113 (gd) 0 (by kernel_rfl) (by kernel_rfl) (by kernel_rfl) (fun _ hb => load_raw (UPd.keep hb)) (fun _ _ _ h => h) hS ?_
        refine rg_take 2 (some 115) (.pointer (some ⟨w.heap.size + 1 + 1, 0, none⟩)) (by kernel_rfl) (fun _ _ => by kernel_rfl) (fun _ _ _ h => h) hS ?_
        refine rg_load 3 (some 116) (.slice a2 len2 cap2) 27 115 (w.heap.size + 1 + 1) 0 (by kernel_rfl) (by kernel_rfl) (by kernel_rfl) (fun _ hb => load_raw (UP2.keep hb)) (fun _ _ _ h => h) hS ?_
        refine rg_take 5 (some 118) (.pointer (some ⟨w.heap.size, 0, none⟩)) (by kernel_rfl) (fun _ _ => by kernel_rfl) (fun _ _ _ h => h) hS ?_
        refine rg_load 6 (some 119) (.slice a0 len0 cap0) 27 118 (w.heap.size) 0 (by kernel_rfl) (by kernel_rfl) (by kernel_rfl) (fun _ hb => load_raw (UP0.keep hb)) (fun _ _ _ h => h) hS ?_
        refine rg_take 7 (some 120) (.pointer (some ⟨w.heap.size + 1, 0, none⟩)) (by kernel_rfl) (fun _ _ => by kernel_rfl) (fun _ _ _ h => h) hS ?_
        refine rg_load 8 (some 121) (.slice a1 len1 cap1) 27 120 (w.heap.size + 1) 0 (by kernel_rfl) (by kernel_rfl) (by kernel_rfl) (fun _ hb => load_raw (UP1.keep hb)) (fun _ _ _ h => h) hS ?_
        refine rg_call 4 (some 117) 52 #[.slice Ad Kd Dd, .slice a2 len2 cap2] (by kernel_rfl) (by kernel_rfl) (nMul Od.a N2 (by omega) (by omega)) ?_
        rintro e r18x1 ⟨Ag1, Kg1, Dg1, rfl, Og1, hkg1, hB⟩
        refine ⟨_, rfl, joinB hS hB, ?_⟩
        replace hS := joinB hS hB
        replace N0 := N0.keep hB
        replace P0 := P0.keep hB
        replace N1 := N1.keep hB
        replace P1 := P1.keep hB
        replace N2 := N2.keep hB
        replace P2 := P2.keep hB
        replace Od := Od.keep hB
        replace Pd := Pd.keep hB
        replace Ou := Ou.keep hB
        replace Pu := Pu.keep hB
        replace HB := joinB HB hB
        clear hB
        refine rg_call 9 (some 122) 52 #[.slice a0 len0 cap0, .slice a1 len1 cap1] (by kernel_rfl) (by kernel_rfl) (nMul N0 N1 (by omega) (by omega)) ?_
        rintro e r18x2 ⟨Ag2, Kg2, Dg2, rfl, Og2, hkg2, hB⟩
        refine ⟨_, rfl, joinB hS hB, ?_⟩
        replace hS := joinB hS hB
        replace N0 := N0.keep hB
        replace P0 := P0.keep hB
        replace N1 := N1.keep hB
        replace P1 := P1.keep hB
        replace N2 := N2.keep hB
        replace P2 := P2.keep hB
        replace Od := Od.keep hB
        replace Pd := Pd.keep hB
        replace Ou := Ou.keep hB
        replace Pu := Pu.keep hB
        replace Og1 := Og1.keep hB
        replace HB := joinB HB hB
        clear hB
        have tC := nSame Og1 Og2 (by omega) (by omega)
        rw [decide_eq_true (ex_yes HR.out)] at tC
        refine rg_call 10 (some 123) 47 #[.slice Ag1 Kg1 Dg1, .slice Ag2 Kg2 Dg2] (by kernel_rfl) (by kernel_rfl) (tC) ?_
        rintro e r18x3 ⟨rfl, hB⟩
        refine ⟨_, rfl, joinB hS hB, ?_⟩
        replace hS := joinB hS hB
        replace N0 := N0.keep hB
        replace P0 := P0.keep hB
        replace N1 := N1.keep hB
        replace P1 := P1.keep hB
        replace N2 := N2.keep hB
        replace P2 := P2.keep hB
        replace Od := Od.keep hB
        replace Pd := Pd.keep hB
        replace Ou := Ou.keep hB
        replace Pu := Pu.keep hB
        replace Og1 := Og1.keep hB
        replace Og2 := Og2.keep hB
        replace HB := joinB HB hB
        clear hB
        clear tC
        refine rg_take 11 (some 21) (.bool true) (by kernel_rfl) (fun _ _ => by kernel_rfl) (fun _ _ _ h => h) hS ?_
        refine rg_done (by kernel_rfl) ?_
        clear hS UPd UP2 UP0 UP1
        try simp only [Act.put, List.setIfInBounds_toArray, List.set_cons_zero, List.set_cons_succ]
        replace c_P0 := P0.cell
        replace c_P1 := P1.cell
        replace c_P2 := P2.cell
        replace c_Pd := Pd.cell
        replace c_Pu := Pu.cell
        clear Og1 Og2
        go_wp2_with fail
        refine rg_start (S := fun w' => Below r18x3.drew.heap.size r18x3.drew w') (by kernel_rfl) (Below.refl _ _) ?_
        replace N0 := N0.drew
        replace P0 := P0.drew
        replace N1 := N1.drew
        replace P1 := P1.drew
        replace N2 := N2.drew
        replace P2 := P2.drew
        replace Od := Od.drew
        replace Pd := Pd.drew
        replace Ou := Ou.drew
        replace Pu := Pu.drew
        replace HB := HB.drew
        have UPd := Pd
        have UPu := Pu
        clear c_P0
        clear c_P1
        clear c_P2
        clear c_Pd
        clear c_Pu
        have hS := Below.refl r18x3.drew.heap.size r18x3.drew
        refine rg_take 0 (some 124) (.int .i64 0) (by kernel_rfl) (fun _ _ => by kernel_rfl) (fun _ _ _ h => h) hS ?_
        refine rg_take 1 (some 125) (.int .i64 0) (by kernel_rfl) (fun _ _ => by kernel_rfl) (fun _ _ _ h => h) hS ?_
        refine rg_take 2 (some 126) (.int .i64 0) (by kernel_rfl) (fun _ _ => by kernel_rfl) (fun _ _ _ h => h) hS ?_
        refine rg_take 3 (some 127) (.bool false) (by kernel_rfl) (fun _ _ => by kernel_rfl) (fun _ _ _ h => h) hS ?_
        refine rg_take 4 (some 128) (.bool false) (by kernel_rfl) (fun _ _ => by kernel_rfl) (fun _ _ _ h => h) hS ?_
        refine rg_take 5 (some 129) (.bool true) (by kernel_rfl) (fun _ _ => by kernel_rfl) (fun _ _ _ h => h) hS ?_
        refine rg_load 6 (some 130) (.agg #[.slice Ad Kd Dd]) 34 17 (gd) 0 (by kernel_rfl) (by kernel_rfl) (by kernel_rfl) (fun _ hb => load_dec (UPd.keep hb)) (fun _ _ _ h => h) hS ?_
        refine rg_load 7 (some 131) (.agg #[.slice Au Ku Du]) 34 19 (gu) 0 (by kernel_rfl) (by kernel_rfl) (by kernel_rfl) (fun _ hb => load_dec (UPu.keep hb)) (fun _ _ _ h => h) hS ?_
        have tC := dCmp Od.a Ou.a (by omega) (by omega)
        rw [sgn_eq rfl] at tC
        refine rg_call 8 (some 132) 32 #[.agg #[.slice Ad Kd Dd], .agg #[.slice Au Ku Du]] (by kernel_rfl) (by kernel_rfl) (tC) ?_
        rintro e r19x1 ⟨rfl, hB⟩
        refine ⟨_, rfl, joinB hS hB, ?_⟩
        replace hS := joinB hS hB
        replace N0 := N0.keep hB
        replace P0 := P0.keep hB
        replace N1 := N1.keep hB
        replace P1 := P1.keep hB
        replace N2 := N2.keep hB
        replace P2 := P2.keep hB
        replace Od := Od.keep hB
        replace Pd := Pd.keep hB
        replace Ou := Ou.keep hB
        replace Pu := Pu.keep hB
        replace HB := joinB HB hB
        clear hB
        clear tC
        refine rg_take 9 (some 133) (.bool true) (by kernel_rfl) (fun _ _ => by kernel_rfl) (fun _ _ _ h => h) hS ?_
        refine rg_take 10 (some 134) (.bool false) (by kernel_rfl) (fun _ _ => by kernel_rfl) (fun _ _ _ h => h) hS ?_
        refine rg_take 11 (some 135) (.bool false) (by kernel_rfl) (fun _ _ => by kernel_rfl) (fun _ _ _ h => h) hS ?_
        refine rg_take 12 (some 136) (.bool false) (by kernel_rfl) (fun _ _ => by kernel_rfl) (fun _ _ _ h => h) hS ?_
        refine rg_take 13 (some 137) (.bool true) (by kernel_rfl) (fun _ _ => by kernel_rfl) (fun _ _ _ h => h) hS ?_
        refine rg_take 14 (some 138) (.bool false) (by kernel_rfl) (fun _ _ => by kernel_rfl) (fun _ _ _ h => h) hS ?_
        refine rg_take 15 (some 139) (.bool false) (by kernel_rfl) (fun _ _ => by kernel_rfl) (fun _ _ _ h => h) hS ?_
        refine rg_skip 16 (some 140) (by kernel_rfl) (fun _ _ _ h => h) hS ?_
        refine rg_skip 17 (some 141) (by kernel_rfl) (fun _ _ _ h => h) hS ?_
        refine rg_skip 18 (some 142) (by kernel_rfl) (fun _ _ _ h => h) hS ?_
        refine rg_skip 19 (some 143) (by kernel_rfl) (fun _ _ _ h => h) hS ?_
        refine rg_skip 20 (some 144) (by kernel_rfl) (fun _ _ _ h => h) hS ?_
        refine rg_skip 21 (some 145) (by kernel_rfl) (fun _ _ _ h => h) hS ?_
        refine rg_take 22 (some 146) (.bool false) (by kernel_rfl) (fun _ _ => by kernel_rfl) (fun _ _ _ h => h) hS ?_
        refine rg_take 23 (some 147) (.bool false) (by kernel_rfl) (fun _ _ => by kernel_rfl) (fun _ _ _ h => h) hS ?_
        refine rg_done (by kernel_rfl) ?_
        clear hS UPd UPu
        try simp only [Act.put, List.setIfInBounds_toArray, List.set_cons_zero, List.set_cons_succ]
        replace c_P0 := P0.cell
        replace c_P1 := P1.cell
        replace c_P2 := P2.cell
        replace c_Pd := Pd.cell
        replace c_Pu := Pu.cell
        clear N1 P1 N2 P2 Od Pd Ou Pu c_P1 c_P2 c_Pd c_Pu
        go_wp2_with fail
        refine rg_start (S := fun w' => Below r19x1.drew.heap.size r19x1.drew w') (by kernel_rfl) (Below.refl _ _) ?_
        replace N0 := N0.drew
        replace P0 := P0.drew
        replace HB := HB.drew
        have UP0 := P0
        clear c_P0
        have hS := Below.refl r19x1.drew.heap.size r19x1.drew
        refine rg_load 0 (some 148) (.agg #[.slice a0 len0 cap0]) 34 4 (w.heap.size) 0 (by kernel_rfl) (by kernel_rfl) (by kernel_rfl) (fun _ hb => load_dec (UP0.keep hb)) (fun _ _ _ h => h) hS ?_
        refine rg_take 1 (some 149) (.int .u64 y3) (by kernel_rfl) (fun _ _ => by kernel_rfl) (fun _ _ _ h => h) hS ?_
        refine rg_load 4 (some 152) (.agg #[.slice a0 len0 cap0]) 34 4 (w.heap.size) 0 (by kernel_rfl) (by kernel_rfl) (by kernel_rfl) (fun _ hb => load_dec (UP0.keep hb)) (fun _ _ _ h => h) hS ?_
        refine rg_take 5 (some 153) (.int .u64 y3) (by kernel_rfl) (fun _ _ => by kernel_rfl) (fun _ _ _ h => h) hS ?_
        refine rg_call 2 (some 150) 24 #[.int .u64 y3] (by kernel_rfl) (by kernel_rfl) (dOf (x := y3) (by omega) (by omega)) ?_
        rintro e r21x1 ⟨Af1, Kf1, Df1, rfl, Of1, hkf1, hB⟩
        refine ⟨_, rfl, joinB hS hB, ?_⟩
        replace hS := joinB hS hB
        replace N0 := N0.keep hB
        replace P0 := P0.keep hB
        replace HB := joinB HB hB
        clear hB
        refine rg_call 3 (some 151) 45 #[.agg #[.slice a0 len0 cap0], .agg #[.slice Af1 Kf1 Df1]] (by kernel_rfl) (by kernel_rfl) (dMul N0 (by omega) Of1.a (by omega)) ?_
        rintro e r21x2 ⟨Af2, Kf2, Df2, rfl, Of2, hkf2, hB⟩
        refine ⟨_, rfl, joinB hS hB, ?_⟩
        replace hS := joinB hS hB
        replace N0 := N0.keep hB
        replace P0 := P0.keep hB
        replace Of1 := Of1.keep hB
        replace HB := joinB HB hB
        clear hB
        refine rg_call 6 (some 154) 18 #[.agg #[.slice a0 len0 cap0], .int .u64 y3] (by kernel_rfl) (by kernel_rfl) (dTimes (y := y3) N0 (by omega) (by omega) (by omega)) ?_
        rintro e r21x3 ⟨Af3, Kf3, Df3, rfl, Of3, hkf3, hB⟩
        refine ⟨_, rfl, joinB hS hB, ?_⟩
        replace hS := joinB hS hB
        replace N0 := N0.keep hB
        replace P0 := P0.keep hB
        replace Of1 := Of1.keep hB
        replace Of2 := Of2.keep hB
        replace HB := joinB HB hB
        clear hB
        have tC := dCmp Of2.a Of3.a (by omega) (by omega)
        rw [sgn_eq (mul_unit _ _)] at tC
        refine rg_call 7 (some 155) 32 #[.agg #[.slice Af2 Kf2 Df2], .agg #[.slice Af3 Kf3 Df3]] (by kernel_rfl) (by kernel_rfl) (tC) ?_
        rintro e r21x4 ⟨rfl, hB⟩
        refine ⟨_, rfl, joinB hS hB, ?_⟩
        replace hS := joinB hS hB
        replace N0 := N0.keep hB
        replace P0 := P0.keep hB
        replace Of1 := Of1.keep hB
        replace Of2 := Of2.keep hB
        replace Of3 := Of3.keep hB
        replace HB := joinB HB hB
        clear hB
        clear tC
        refine rg_take 8 (some 156) (.bool false) (by kernel_rfl) (fun _ _ => by kernel_rfl) (fun _ _ _ h => h) hS ?_
        refine rg_done (by kernel_rfl) ?_
        clear hS UP0
        try simp only [Act.put, List.setIfInBounds_toArray, List.set_cons_zero, List.set_cons_succ]
        replace c_P0 := P0.cell
        clear Of1 Of2 Of3
        by_cases hy : y3 = 0
        · skip
          subst hy
          go_wp2_with fail
          refine (dTimes (y := 0) N0 (by omega) (by decide) (by decide)).mono ?_
          rintro e x7 ⟨At9, Kt9, Dt9, rfl, Ot9, hkt9, hB⟩
          replace N0 := N0.keep hB
          replace P0 := P0.keep hB
          replace c_P0 := P0.cell
          replace HB := joinB HB hB
          clear hB
          go_wp2_with fail
          refine (dOverZ Ot9.a (by omega)).mono ?_
          rintro e x8 ⟨rfl, hB⟩
          replace N0 := N0.keep hB
          replace P0 := P0.keep hB
          replace Ot9 := Ot9.keep hB
          replace c_P0 := P0.cell
          replace HB := joinB HB hB
          clear hB
          have BA := below_alloc x8 (.cells #[.slice none 0 0] 34)
          have Po9 := slot_new x8 (.slice none 0 0) 34
          replace N0 := N0.keep BA
          replace P0 := P0.keep BA
          replace Ot9 := Ot9.keep BA
          replace c_P0 := P0.cell
          replace HB := joinB HB BA
          clear BA
          replace c_Po9 := Po9.cell
          go_wp2_with fail
          generalize x8.alloc (.cells #[.slice none 0 0] 34) = xx8 at *
          generalize x8.heap.size = go9 at *
          go_wp2
          go_ret
          exact ⟨rfl, HB⟩
        · have HY := (show Hid _ from hy)
          clear hy
          go_wp2_with fail
          refine (dTimes (y := y3) N0 (by omega) (by omega) (by omega)).mono ?_
          rintro e x7 ⟨At9, Kt9, Dt9, rfl, Ot9, hkt9, hB⟩
          replace N0 := N0.keep hB
          replace P0 := P0.keep hB
          replace c_P0 := P0.cell
          replace HB := joinB HB hB
          clear hB
          go_wp2_with fail
          refine (dOver (y := y3) Ot9.a (by omega) (by omega) (by omega) HY.out).mono ?_
          rintro e x8 ⟨Ao9, Ko9, Do9, rfl, Oo9, hko9, hB⟩
          replace N0 := N0.keep hB
          replace P0 := P0.keep hB
          replace Ot9 := Ot9.keep hB
          replace c_P0 := P0.cell
          replace HB := joinB HB hB
          clear hB
          replace Oo9 := Oo9.eqv (Int.mul_ediv_cancel _ HY.out)
          have BA := below_alloc x8 (.cells #[.slice Ao9 Ko9 Do9] 34)
          have Po9 := slot_new x8 (.slice Ao9 Ko9 Do9) 34
          replace N0 := N0.keep BA
          replace P0 := P0.keep BA
          replace Ot9 := Ot9.keep BA
          replace Oo9 := Oo9.keep BA
          replace c_P0 := P0.cell
          replace HB := joinB HB BA
          clear BA
          replace c_Po9 := Po9.cell
          go_wp2_with fail
          generalize x8.alloc (.cells #[.slice Ao9 Ko9 Do9] 34) = xx8 at *
          generalize x8.heap.size = go9 at *
          have hy0 : ((y3 : Int) == 0) = false := beq_eq_false_iff_ne.2 HY.out
          have tC := dCmp Oo9.a N0 (by omega) (by omega)
          rw [sgn_eq rfl] at tC
          clear Ot9
          go_wp2_with fail
          refine (tC).mono ?_
          rintro e x9 ⟨rfl, hB⟩
          replace N0 := N0.keep hB
          replace P0 := P0.keep hB
          replace Oo9 := Oo9.keep hB
          replace Po9 := Po9.keep hB
          replace c_P0 := P0.cell
          replace c_Po9 := Po9.cell
          replace HB := joinB HB hB
          clear hB
          clear tC
          go_wp2
          go_ret
          exact ⟨rfl, HB⟩
      · have HR := (show Hid _ from hr)
        clear hr
        go_wp2_with fail
        refine (dMulDiv N0 (by omega) N1 (by omega) N2 (by omega) HC.out).mono ?_
        rintro e x4 ⟨Ad, Kd, Dd, rfl, Od, hkd, hB⟩
        replace N0 := N0.keep hB
        replace P0 := P0.keep hB
        replace N1 := N1.keep hB
        replace P1 := P1.keep hB
        replace N2 := N2.keep hB
        replace P2 := P2.keep hB
        replace c_P0 := P0.cell
        replace c_P1 := P1.cell
        replace c_P2 := P2.cell
        replace HB := joinB HB hB
        clear hB
        have BA := below_alloc x4 (.cells #[.slice Ad Kd Dd] 34)
        have Pd := slot_new x4 (.slice Ad Kd Dd) 34
        replace N0 := N0.keep BA
        replace P0 := P0.keep BA
        replace N1 := N1.keep BA
        replace P1 := P1.keep BA
        replace N2 := N2.keep BA
        replace P2 := P2.keep BA
        replace Od := Od.keep BA
        replace c_P0 := P0.cell
        replace c_P1 := P1.cell
        replace c_P2 := P2.cell
        replace HB := joinB HB BA
        clear BA
        replace c_Pd := Pd.cell
        go_wp2_with fail
        generalize x4.alloc (.cells #[.slice Ad Kd Dd] 34) = xx4 at *
        generalize x4.heap.size = gd at *
        go_wp2_with fail
        refine (dMulDivUp N0 (by omega) N1 (by omega) N2 (by omega) HC.out).mono ?_
        rintro e x5 ⟨Au, Ku, Du, rfl, Ou, hku, hB⟩
        replace N0 := N0.keep hB
        replace P0 := P0.keep hB
        replace N1 := N1.keep hB
        replace P1 := P1.keep hB
        replace N2 := N2.keep hB
        replace P2 := P2.keep hB
        replace Od := Od.keep hB
        replace Pd := Pd.keep hB
        replace c_P0 := P0.cell
        replace c_P1 := P1.cell
        replace c_P2 := P2.cell
        replace c_Pd := Pd.cell
        replace HB := joinB HB hB
        clear hB
        replace Ou := Ou.eqv (rnd_no HR.out)
        have BA := below_alloc x5 (.cells #[.slice Au Ku Du] 34)
        have Pu := slot_new x5 (.slice Au Ku Du) 34
        replace N0 := N0.keep BA
        replace P0 := P0.keep BA
        replace N1 := N1.keep BA
        replace P1 := P1.keep BA
        replace N2 := N2.keep BA
        replace P2 := P2.keep BA
        replace Od := Od.keep BA
        replace Pd := Pd.keep BA
        replace Ou := Ou.keep BA
        replace c_P0 := P0.cell
        replace c_P1 := P1.cell
        replace c_P2 := P2.cell
        replace c_Pd := Pd.cell
        replace HB := joinB HB BA
        clear BA
        replace c_Pu := Pu.cell
        go_wp2_with fail
        generalize x5.alloc (.cells #[.slice Au Ku Du] 34) = xx5 at *
        generalize x5.heap.size = gu at *
        have tZ := dZero N2 (by omega)
        rw [decide_eq_false HC.out] at tZ
        go_wp2_with fail
        refine (tZ).mono ?_
        rintro e x6 ⟨rfl, hB⟩
        replace N0 := N0.keep hB
        replace P0 := P0.keep hB
        replace N1 := N1.keep hB
        replace P1 := P1.keep hB
        replace N2 := N2.keep hB
        replace P2 := P2.keep hB
        replace Od := Od.keep hB
        replace Pd := Pd.keep hB
        replace Ou := Ou.keep hB
        replace Pu := Pu.keep hB
        replace c_P0 := P0.cell
        replace c_P1 := P1.cell
        replace c_P2 := P2.cell
        replace c_Pd := Pd.cell
        replace c_Pu := Pu.cell
        replace HB := joinB HB hB
        clear hB
        clear tZ
        go_wp2_with fail
        refine rg_start (S := fun w' => Below x6.drew.heap.size x6.drew w') (by kernel_rfl) (Below.refl _ _) ?_
        replace N0 := N0.drew
        replace P0 := P0.drew
        replace N1 := N1.drew
        replace P1 := P1.drew
        replace N2 := N2.drew
        replace P2 := P2.drew
        replace Od := Od.drew
        replace Pd := Pd.drew
        replace Ou := Ou.drew
        replace Pu := Pu.drew
        replace HB := HB.drew
        have UPd := Pd
        have UP2 := P2
        have UP0 := P0
        have UP1 := P1
        clear c_P0
        clear c_P1
        clear c_P2
        clear c_Pd
        clear c_Pu
        have hS := Below.refl x6.drew.heap.size x6.drew
        refine rg_take 0 (some 113) (.pointer (some ⟨gd, 0, none⟩)) (by kernel_rfl) (fun _ _ => by kernel_rfl) (fun _ _ _ h => h) hS ?_
        refine rg_load 1 (some 114) (.slice Ad Kd Dd) 27 113 (gd) 0 (by kernel_rfl) (by kernel_rfl) (by kernel_rfl) (fun _ hb => load_raw (UPd.keep hb)) (fun _ _ _ h => h) hS ?_
        refine rg_take 2 (some 115) (.pointer (some ⟨w.heap.size + 1 + 1, 0, none⟩)) (by kernel_rfl) (fun _ _ => by kernel_rfl) (fun _ _ _ h => h) hS ?_
        refine rg_load 3 (some 116) (.slice a2 len2 cap2) 27 115 (w.heap.size + 1 + 1) 0 (by kernel_rfl) (by kernel_rfl) (by kernel_rfl) (fun _ hb => load_raw (UP2.keep hb)) (fun _ _ _ h => h) hS ?_
        refine rg_take 5 (some 118) (.pointer (some ⟨w.heap.size, 0, none⟩)) (by kernel_rfl) (fun _ _ => by kernel_rfl) (fun _ _ _ h => h) hS ?_
        refine rg_load 6 (some 119) (.slice a0 len0 cap0) 27 118 (w.heap.size) 0 (by kernel_rfl) (by kernel_rfl) (by kernel_rfl) (fun _ hb => load_raw (UP0.keep hb)) (fun _ _ _ h => h) hS ?_
        refine rg_take 7 (some 120) (.pointer (some ⟨w.heap.size + 1, 0, none⟩)) (by kernel_rfl) (fun _ _ => by kernel_rfl) (fun _ _ _ h => h) hS ?_
        refine rg_load 8 (some 121) (.slice a1 len1 cap1) 27 120 (w.heap.size + 1) 0 (by kernel_rfl) (by kernel_rfl) (by kernel_rfl) (fun _ hb => load_raw (UP1.keep hb)) (fun _ _ _ h => h) hS ?_
        refine rg_call 4 (some 117) 52 #[.slice Ad Kd Dd, .slice a2 len2 cap2] (by kernel_rfl) (by kernel_rfl) (nMul Od.a N2 (by omega) (by omega)) ?_
        rintro e r18x1 ⟨Ag1, Kg1, Dg1, rfl, Og1, hkg1, hB⟩
        refine ⟨_, rfl, joinB hS hB, ?_⟩
        replace hS := joinB hS hB
        replace N0 := N0.keep hB
        replace P0 := P0.keep hB
        replace N1 := N1.keep hB
        replace P1 := P1.keep hB
        replace N2 := N2.keep hB
        replace P2 := P2.keep hB
        replace Od := Od.keep hB
        replace Pd := Pd.keep hB
        replace Ou := Ou.keep hB
        replace Pu := Pu.keep hB
        replace HB := joinB HB hB
        clear hB
        refine rg_call 9 (some 122) 52 #[.slice a0 len0 cap0, .slice a1 len1 cap1] (by kernel_rfl) (by kernel_rfl) (nMul N0 N1 (by omega) (by omega)) ?_
        rintro e r18x2 ⟨Ag2, Kg2, Dg2, rfl, Og2, hkg2, hB⟩
        refine ⟨_, rfl, joinB hS hB, ?_⟩
        replace hS := joinB hS hB
        replace N0 := N0.keep hB
        replace P0 := P0.keep hB
        replace N1 := N1.keep hB
        replace P1 := P1.keep hB
        replace N2 := N2.keep hB
        replace P2 := P2.keep hB
        replace Od := Od.keep hB
        replace Pd := Pd.keep hB
        replace Ou := Ou.keep hB
        replace Pu := Pu.keep hB
        replace Og1 := Og1.keep hB
        replace HB := joinB HB hB
        clear hB
        have tC := nSame Og1 Og2 (by omega) (by omega)
        rw [decide_eq_false (ex_no HR.out)] at tC
        refine rg_call 10 (some 123) 47 #[.slice Ag1 Kg1 Dg1, .slice Ag2 Kg2 Dg2] (by kernel_rfl) (by kernel_rfl) (tC) ?_
        rintro e r18x3 ⟨rfl, hB⟩
        refine ⟨_, rfl, joinB hS hB, ?_⟩
        replace hS := joinB hS hB
        replace N0 := N0.keep hB
        replace P0 := P0.keep hB
        replace N1 := N1.keep hB
        replace P1 := P1.keep hB
        replace N2 := N2.keep hB
        replace P2 := P2.keep hB
        replace Od := Od.keep hB
        replace Pd := Pd.keep hB
        replace Ou := Ou.keep hB
        replace Pu := Pu.keep hB
        replace Og1 := Og1.keep hB
        replace Og2 := Og2.keep hB
        replace HB := joinB HB hB
        clear hB
        clear tC
        refine rg_take 11 (some 21) (.bool false) (by kernel_rfl) (fun _ _ => by kernel_rfl) (fun _ _ _ h => h) hS ?_
        refine rg_done (by kernel_rfl) ?_
        clear hS UPd UP2 UP0 UP1
        try simp only [Act.put, List.setIfInBounds_toArray, List.set_cons_zero, List.set_cons_succ]
        replace c_P0 := P0.cell
        replace c_P1 := P1.cell
        replace c_P2 := P2.cell
        replace c_Pd := Pd.cell
        replace c_Pu := Pu.cell
        clear Og1 Og2
        go_wp2_with fail
        refine rg_start (S := fun w' => Below r18x3.drew.heap.size r18x3.drew w') (by kernel_rfl) (Below.refl _ _) ?_
        replace N0 := N0.drew
        replace P0 := P0.drew
        replace N1 := N1.drew
        replace P1 := P1.drew
        replace N2 := N2.drew
        replace P2 := P2.drew
        replace Od := Od.drew
        replace Pd := Pd.drew
        replace Ou := Ou.drew
        replace Pu := Pu.drew
        replace HB := HB.drew
        have UPd := Pd
        have UPu := Pu
        clear c_P0
        clear c_P1
        clear c_P2
        clear c_Pd
        clear c_Pu
        have hS := Below.refl r18x3.drew.heap.size r18x3.drew
        refine rg_take 0 (some 124) (.int .i64 0) (by kernel_rfl) (fun _ _ => by kernel_rfl) (fun _ _ _ h => h) hS ?_
        refine rg_take 1 (some 125) (.int .i64 0) (by kernel_rfl) (fun _ _ => by kernel_rfl) (fun _ _ _ h => h) hS ?_
        refine rg_take 2 (some 126) (.int .i64 0) (by kernel_rfl) (fun _ _ => by kernel_rfl) (fun _ _ _ h => h) hS ?_
        refine rg_take 3 (some 127) (.bool false) (by kernel_rfl) (fun _ _ => by kernel_rfl) (fun _ _ _ h => h) hS ?_
        refine rg_take 4 (some 128) (.bool false) (by kernel_rfl) (fun _ _ => by kernel_rfl) (fun _ _ _ h => h) hS ?_
        refine rg_take 5 (some 129) (.bool false) (by kernel_rfl) (fun _ _ => by kernel_rfl) (fun _ _ _ h => h) hS ?_
        refine rg_load 6 (some 130) (.agg #[.slice Ad Kd Dd]) 34 17 (gd) 0 (by kernel_rfl) (by kernel_rfl) (by kernel_rfl) (fun _ hb => load_dec (UPd.keep hb)) (fun _ _ _ h => h) hS ?_
        refine rg_load 7 (some 131) (.agg #[.slice Au Ku Du]) 34 19 (gu) 0 (by kernel_rfl) (by kernel_rfl) (by kernel_rfl) (fun _ hb => load_dec (UPu.keep hb)) (fun _ _ _ h => h) hS ?_
        have tC := dCmp Od.a Ou.a (by omega) (by omega)
        rw [sgn_lt (Int.lt_succ _)] at tC
        refine rg_call 8 (some 132) 32 #[.agg #[.slice Ad Kd Dd], .agg #[.slice Au Ku Du]] (by kernel_rfl) (by kernel_rfl) (tC) ?_
        rintro e r19x1 ⟨rfl, hB⟩
        refine ⟨_, rfl, joinB hS hB, ?_⟩
        replace hS := joinB hS hB
        replace N0 := N0.keep hB
        replace P0 := P0.keep hB
        replace N1 := N1.keep hB
        replace P1 := P1.keep hB
        replace N2 := N2.keep hB
        replace P2 := P2.keep hB
        replace Od := Od.keep hB
        replace Pd := Pd.keep hB
        replace Ou := Ou.keep hB
        replace Pu := Pu.keep hB
        replace HB := joinB HB hB
        clear hB
        clear tC
        refine rg_take 9 (some 133) (.bool false) (by kernel_rfl) (fun _ _ => by kernel_rfl) (fun _ _ _ h => h) hS ?_
        refine rg_take 10 (some 134) (.bool false) (by kernel_rfl) (fun _ _ => by kernel_rfl) (fun _ _ _ h => h) hS ?_
        refine rg_take 11 (some 135) (.bool false) (by kernel_rfl) (fun _ _ => by kernel_rfl) (fun _ _ _ h => h) hS ?_
        refine rg_take 12 (some 136) (.bool false) (by kernel_rfl) (fun _ _ => by kernel_rfl) (fun _ _ _ h => h) hS ?_
        refine rg_take 13 (some 137) (.bool false) (by kernel_rfl) (fun _ _ => by kernel_rfl) (fun _ _ _ h => h) hS ?_
        refine rg_take 14 (some 138) (.bool true) (by kernel_rfl) (fun _ _ => by kernel_rfl) (fun _ _ _ h => h) hS ?_
        refine rg_take 15 (some 139) (.bool true) (by kernel_rfl) (fun _ _ => by kernel_rfl) (fun _ _ _ h => h) hS ?_
        refine rg_load 16 (some 140) (.agg #[.slice Ad Kd Dd]) 34 17 (gd) 0 (by kernel_rfl) (by kernel_rfl) (by kernel_rfl) (fun _ hb => load_dec (UPd.keep hb)) (fun _ _ _ h => h) hS ?_
        refine rg_load 19 (some 143) (.agg #[.slice Au Ku Du]) 34 19 (gu) 0 (by kernel_rfl) (by kernel_rfl) (by kernel_rfl) (fun _ hb => load_dec (UPu.keep hb)) (fun _ _ _ h => h) hS ?_
        refine rg_call 17 (some 141) 53 #[] (by kernel_rfl) (by kernel_rfl) (dBit) ?_
        rintro e r19x2 ⟨Ab1, Kb1, Db1, rfl, Ob1, hkb1, hB⟩
        refine ⟨_, rfl, joinB hS hB, ?_⟩
        replace hS := joinB hS hB
        replace N0 := N0.keep hB
        replace P0 := P0.keep hB
        replace N1 := N1.keep hB
        replace P1 := P1.keep hB
        replace N2 := N2.keep hB
        replace P2 := P2.keep hB
        replace Od := Od.keep hB
        replace Pd := Pd.keep hB
        replace Ou := Ou.keep hB
        replace Pu := Pu.keep hB
        replace HB := joinB HB hB
        clear hB
        refine rg_call 18 (some 142) 17 #[.agg #[.slice Ad Kd Dd], .agg #[.slice Ab1 Kb1 Db1]] (by kernel_rfl) (by kernel_rfl) (dAdd Od.a Ob1.a (by omega) (by omega)) ?_
        rintro e r19x3 ⟨Ab2, Kb2, Db2, rfl, Ob2, hkb2, hB⟩
        refine ⟨_, rfl, joinB hS hB, ?_⟩
        replace hS := joinB hS hB
        replace N0 := N0.keep hB
        replace P0 := P0.keep hB
        replace N1 := N1.keep hB
        replace P1 := P1.keep hB
        replace N2 := N2.keep hB
        replace P2 := P2.keep hB
        replace Od := Od.keep hB
        replace Pd := Pd.keep hB
        replace Ou := Ou.keep hB
        replace Pu := Pu.keep hB
        replace Ob1 := Ob1.keep hB
        replace HB := joinB HB hB
        clear hB
        have tC := dCmp Ob2.a Ou.a (by omega) (by omega)
        rw [sgn_eq rfl] at tC
        refine rg_call 20 (some 144) 32 #[.agg #[.slice Ab2 Kb2 Db2], .agg #[.slice Au Ku Du]] (by kernel_rfl) (by kernel_rfl) (tC) ?_
        rintro e r19x4 ⟨rfl, hB⟩
        refine ⟨_, rfl, joinB hS hB, ?_⟩
        replace hS := joinB hS hB
        replace N0 := N0.keep hB
        replace P0 := P0.keep hB
        replace N1 := N1.keep hB
        replace P1 := P1.keep hB
        replace N2 := N2.keep hB
        replace P2 := P2.keep hB
        replace Od := Od.keep hB
        replace Pd := Pd.keep hB
        replace Ou := Ou.keep hB
        replace Pu := Pu.keep hB
        replace Ob1 := Ob1.keep hB
        replace Ob2 := Ob2.keep hB
        replace HB := joinB HB hB
        clear hB
        clear tC
        refine rg_take 21 (some 145) (.bool false) (by kernel_rfl) (fun _ _ => by kernel_rfl) (fun _ _ _ h => h) hS ?_
        refine rg_take 22 (some 146) (.bool false) (by kernel_rfl) (fun _ _ => by kernel_rfl) (fun _ _ _ h => h) hS ?_
        refine rg_take 23 (some 147) (.bool false) (by kernel_rfl) (fun _ _ => by kernel_rfl) (fun _ _ _ h => h) hS ?_
        refine rg_done (by kernel_rfl) ?_
        clear hS UPd UPu
        try simp only [Act.put, List.setIfInBounds_toArray, List.set_cons_zero, List.set_cons_succ]
        replace c_P0 := P0.cell
        replace c_P1 := P1.cell
        replace c_P2 := P2.cell
        replace c_Pd := Pd.cell
        replace c_Pu := Pu.cell
        clear N1 P1 N2 P2 Od Pd Ou Pu Ob1 Ob2 c_P1 c_P2 c_Pd c_Pu
        go_wp2_with fail
        refine rg_start (S := fun w' => Below r19x4.drew.heap.size r19x4.drew w') (by kernel_rfl) (Below.refl _ _) ?_
        replace N0 := N0.drew
        replace P0 := P0.drew
        replace HB := HB.drew
        have UP0 := P0
        clear c_P0
        have hS := Below.refl r19x4.drew.heap.size r19x4.drew
        refine rg_load 0 (some 148) (.agg #[.slice a0 len0 cap0]) 34 4 (w.heap.size) 0 (by kernel_rfl) (by kernel_rfl) (by kernel_rfl) (fun _ hb => load_dec (UP0.keep hb)) (fun _ _ _ h => h) hS ?_
        refine rg_take 1 (some 149) (.int .u64 y3) (by kernel_rfl) (fun _ _ => by kernel_rfl) (fun _ _ _ h => h) hS ?_
        refine rg_load 4 (some 152) (.agg #[.slice a0 len0 cap0]) 34 4 (w.heap.size) 0 (by kernel_rfl) (by kernel_rfl) (by kernel_rfl) (fun _ hb => load_dec (UP0.keep hb)) (fun _ _ _ h => h) hS ?_
        refine rg_take 5 (some 153) (.int .u64 y3) (by kernel_rfl) (fun _ _ => by kernel_rfl) (fun _ _ _ h => h) hS ?_
        refine rg_call 2 (some 150) 24 #[.int .u64 y3] (by kernel_rfl) (by kernel_rfl) (dOf (x := y3) (by omega) (by omega)) ?_
        rintro e r21x1 ⟨Af1, Kf1, Df1, rfl, Of1, hkf1, hB⟩
        refine ⟨_, rfl, joinB hS hB, ?_⟩
        replace hS := joinB hS hB
        replace N0 := N0.keep hB
        replace P0 := P0.keep hB
        replace HB := joinB HB hB
        clear hB
        refine rg_call 3 (some 151) 45 #[.agg #[.slice a0 len0 cap0], .agg #[.slice Af1 Kf1 Df1]] (by kernel_rfl) (by kernel_rfl) (dMul N0 (by omega) Of1.a (by omega)) ?_
        rintro e r21x2 ⟨Af2, Kf2, Df2, rfl, Of2, hkf2, hB⟩
        refine ⟨_, rfl, joinB hS hB, ?_⟩
        replace hS := joinB hS hB
        replace N0 := N0.keep hB
        replace P0 := P0.keep hB
        replace Of1 := Of1.keep hB
        replace HB := joinB HB hB
        clear hB
        refine rg_call 6 (some 154) 18 #[.agg #[.slice a0 len0 cap0], .int .u64 y3] (by kernel_rfl) (by kernel_rfl) (dTimes (y := y3) N0 (by omega) (by omega) (by omega)) ?_
        rintro e r21x3 ⟨Af3, Kf3, Df3, rfl, Of3, hkf3, hB⟩
        refine ⟨_, rfl, joinB hS hB, ?_⟩
        replace hS := joinB hS hB
        replace N0 := N0.keep hB
        replace P0 := P0.keep hB
        replace Of1 := Of1.keep hB
        replace Of2 := Of2.keep hB
        replace HB := joinB HB hB
        clear hB
        have tC := dCmp Of2.a Of3.a (by omega) (by omega)
        rw [sgn_eq (mul_unit _ _)] at tC
        refine rg_call 7 (some 155) 32 #[.agg #[.slice Af2 Kf2 Df2], .agg #[.slice Af3 Kf3 Df3]] (by kernel_rfl) (by kernel_rfl) (tC) ?_
        rintro e r21x4 ⟨rfl, hB⟩
        refine ⟨_, rfl, joinB hS hB, ?_⟩
        replace hS := joinB hS hB
        replace N0 := N0.keep hB
        replace P0 := P0.keep hB
        replace Of1 := Of1.keep hB
        replace Of2 := Of2.keep hB
        replace Of3 := Of3.keep hB
        replace HB := joinB HB hB
        clear hB
        clear tC
        refine rg_take 8 (some 156) (.bool false) (by kernel_rfl) (fun _ _ => by kernel_rfl) (fun _ _ _ h => h) hS ?_
        refine rg_done (by kernel_rfl) ?_
        clear hS UP0
        try simp only [Act.put, List.setIfInBounds_toArray, List.set_cons_zero, List.set_cons_succ]
        replace c_P0 := P0.cell
        clear Of1 Of2 Of3
        by_cases hy : y3 = 0
        · skip
          subst hy
          go_wp2_with fail
          refine (dTimes (y := 0) N0 (by omega) (by decide) (by decide)).mono ?_
          rintro e x7 ⟨At9, Kt9, Dt9, rfl, Ot9, hkt9, hB⟩
          replace N0 := N0.keep hB
          replace P0 := P0.keep hB
          replace c_P0 := P0.cell
          replace HB := joinB HB hB
          clear hB
          go_wp2_with fail
          refine (dOverZ Ot9.a (by omega)).mono ?_
          rintro e x8 ⟨rfl, hB⟩
          replace N0 := N0.keep hB
          replace P0 := P0.keep hB
          replace Ot9 := Ot9.keep hB
          replace c_P0 := P0.cell
          replace HB := joinB HB hB
          clear hB
          have BA := below_alloc x8 (.cells #[.slice none 0 0] 34)
          have Po9 := slot_new x8 (.slice none 0 0) 34
          replace N0 := N0.keep BA
          replace P0 := P0.keep BA
          replace Ot9 := Ot9.keep BA
          replace c_P0 := P0.cell
          replace HB := joinB HB BA
          clear BA
          replace c_Po9 := Po9.cell
          go_wp2_with fail
          generalize x8.alloc (.cells #[.slice none 0 0] 34) = xx8 at *
          generalize x8.heap.size = go9 at *
          go_wp2
          go_ret
          exact ⟨rfl, HB⟩
        · have HY := (show Hid _ from hy)
          clear hy
          go_wp2_with fail
          refine (dTimes (y := y3) N0 (by omega) (by omega) (by omega)).mono ?_
          rintro e x7 ⟨At9, Kt9, Dt9, rfl, Ot9, hkt9, hB⟩
          replace N0 := N0.keep hB
          replace P0 := P0.keep hB
          replace c_P0 := P0.cell
          replace HB := joinB HB hB
          clear hB
          go_wp2_with fail
          refine (dOver (y := y3) Ot9.a (by omega) (by omega) (by omega) HY.out).mono ?_
          rintro e x8 ⟨Ao9, Ko9, Do9, rfl, Oo9, hko9, hB⟩
          replace N0 := N0.keep hB
          replace P0 := P0.keep hB
          replace Ot9 := Ot9.keep hB
          replace c_P0 := P0.cell
          replace HB := joinB HB hB
          clear hB
          replace Oo9 := Oo9.eqv (Int.mul_ediv_cancel _ HY.out)
          have BA := below_alloc x8 (.cells #[.slice Ao9 Ko9 Do9] 34)
          have Po9 := slot_new x8 (.slice Ao9 Ko9 Do9) 34
          replace N0 := N0.keep BA
          replace P0 := P0.keep BA
          replace Ot9 := Ot9.keep BA
          replace Oo9 := Oo9.keep BA
          replace c_P0 := P0.cell
          replace HB := joinB HB BA
          clear BA
          replace c_Po9 := Po9.cell
          go_wp2_with fail
          generalize x8.alloc (.cells #[.slice Ao9 Ko9 Do9] 34) = xx8 at *
          generalize x8.heap.size = go9 at *
          have hy0 : ((y3 : Int) == 0) = false := beq_eq_false_iff_ne.2 HY.out
          have tC := dCmp Oo9.a N0 (by omega) (by omega)
          rw [sgn_eq rfl] at tC
          clear Ot9
          go_wp2_with fail
          refine (tC).mono ?_
          rintro e x9 ⟨rfl, hB⟩
          replace N0 := N0.keep hB
          replace P0 := P0.keep hB
          replace Oo9 := Oo9.keep hB
          replace Po9 := Po9.keep hB
          replace c_P0 := P0.cell
          replace c_Po9 := Po9.cell
          replace HB := joinB HB hB
          clear hB
          clear tC
          go_wp2
          go_ret
          exact ⟨rfl, HB⟩
  · have HBB := (show Hid _ from hb)
    clear hb
    have hbp : 0 < val l1 := by
      have h0 : val l1 ≠ 0 := HBB.out
      omega
    have HBP := (show Hid _ from hbp)
    clear hbp
    go_wp2_with fail
    refine (dQuo N0 (by omega) N1 (by omega) HBB.out).mono ?_
    rintro e x2 ⟨Aq, Kq, Dq, rfl, Oq, hkq, hB⟩
    replace N0 := N0.keep hB
    replace P0 := P0.keep hB
    replace N1 := N1.keep hB
    replace P1 := P1.keep hB
    replace N2 := N2.keep hB
    replace P2 := P2.keep hB
    replace Ow1 := Ow1.keep hB
    replace Pw1 := Pw1.keep hB
    replace c_P0 := P0.cell
    replace c_P1 := P1.cell
    replace c_P2 := P2.cell
    replace c_Pw1 := Pw1.cell
    replace HB := joinB HB hB
    clear hB
    have BA := below_alloc x2 (.cells #[.slice Aq Kq Dq] 34)
    have Pq := slot_new x2 (.slice Aq Kq Dq) 34
    replace N0 := N0.keep BA
    replace P0 := P0.keep BA
    replace N1 := N1.keep BA
    replace P1 := P1.keep BA
    replace N2 := N2.keep BA
    replace P2 := P2.keep BA
    replace Ow1 := Ow1.keep BA
    replace Pw1 := Pw1.keep BA
    replace Oq := Oq.keep BA
    replace c_P0 := P0.cell
    replace c_P1 := P1.cell
    replace c_P2 := P2.cell
    replace c_Pw1 := Pw1.cell
    replace HB := joinB HB BA
    clear BA
    replace c_Pq := Pq.cell
    go_wp2_with fail
    generalize x2.alloc (.cells #[.slice Aq Kq Dq] 34) = xx2 at *
    generalize x2.heap.size = gq at *
    have tZ := dZero N1 (by omega)
    rw [decide_eq_false HBB.out] at tZ
    go_wp2_with fail
    refine (tZ).mono ?_
    rintro e x3 ⟨rfl, hB⟩
    replace N0 := N0.keep hB
    replace P0 := P0.keep hB
    replace N1 := N1.keep hB
    replace P1 := P1.keep hB
    replace N2 := N2.keep hB
    replace P2 := P2.keep hB
    replace Ow1 := Ow1.keep hB
    replace Pw1 := Pw1.keep hB
    replace Oq := Oq.keep hB
    replace Pq := Pq.keep hB
    replace c_P0 := P0.cell
    replace c_P1 := P1.cell
    replace c_P2 := P2.cell
    replace c_Pw1 := Pw1.cell
    replace c_Pq := Pq.cell
    replace HB := joinB HB hB
    clear hB
    clear tZ
    go_wp2_with fail
    refine rg_start (S := fun w' => Below x3.drew.heap.size x3.drew w') (by kernel_rfl) (Below.refl _ _) ?_
    replace N0 := N0.drew
    replace P0 := P0.drew
    replace N1 := N1.drew
    replace P1 := P1.drew
    replace N2 := N2.drew
    replace P2 := P2.drew
    replace Ow1 := Ow1.drew
    replace Pw1 := Pw1.drew
    replace Oq := Oq.drew
    replace Pq := Pq.drew
    replace HB := HB.drew
    have UPq := Pq
    have UP1 := P1
    have UP0 := P0
    have UPw1 := Pw1
    clear c_P0
    clear c_P1
    clear c_P2
    clear c_Pw1
    clear c_Pq
    have hS := Below.refl x3.drew.heap.size x3.drew
    refine rg_take 0 (some 42) (.pointer (some ⟨gq, 0, none⟩)) (by kernel_rfl) (fun _ _ => by kernel_rfl) (fun _ _ _ h => h) hS ?_
    refine rg_load 1 (some 43) (.slice Aq Kq Dq) 27 42 (gq) 0 (by kernel_rfl) (by kernel_rfl) (by kernel_rfl) (fun _ hb => load_raw (UPq.keep hb)) (fun _ _ _ h => h) hS ?_
    refine rg_take 2 (some 44) (.pointer (some ⟨w.heap.size + 1, 0, none⟩)) (by kernel_rfl) (fun _ _ => by kernel_rfl) (fun _ _ _ h => h) hS ?_
    refine rg_load 3 (some 45) (.slice a1 len1 cap1) 27 44 (w.heap.size + 1) 0 (by kernel_rfl) (by kernel_rfl) (by kernel_rfl) (fun _ hb => load_raw (UP1.keep hb)) (fun _ _ _ h => h) hS ?_
    refine rg_load 5 (some 47) (.agg #[.slice Aq Kq Dq]) 34 10 (gq) 0 (by kernel_rfl) (by kernel_rfl) (by kernel_rfl) (fun _ hb => load_dec (UPq.keep hb)) (fun _ _ _ h => h) hS ?_
    refine rg_take 9 (some 51) (.pointer (some ⟨w.heap.size + 1, 0, none⟩)) (by kernel_rfl) (fun _ _ => by kernel_rfl) (fun _ _ _ h => h) hS ?_
    refine rg_load 10 (some 52) (.slice a1 len1 cap1) 27 51 (w.heap.size + 1) 0 (by kernel_rfl) (by kernel_rfl) (by kernel_rfl) (fun _ hb => load_raw (UP1.keep hb)) (fun _ _ _ h => h) hS ?_
    refine rg_take 12 (some 54) (.pointer (some ⟨w.heap.size, 0, none⟩)) (by kernel_rfl) (fun _ _ => by kernel_rfl) (fun _ _ _ h => h) hS ?_
    refine rg_load 13 (some 55) (.slice a0 len0 cap0) 27 54 (w.heap.size) 0 (by kernel_rfl) (by kernel_rfl) (by kernel_rfl) (fun _ hb => load_raw (UP0.keep hb)) (fun _ _ _ h => h) hS ?_
    refine rg_take 14 (some 56) (.pointer (some ⟨gw1, 0, none⟩)) (by kernel_rfl) (fun _ _ => by kernel_rfl) (fun _ _ _ h => h) hS ?_
    refine rg_load 15 (some 57) (.slice Aw1 Kw1 Dw1) 27 56 (gw1) 0 (by kernel_rfl) (by kernel_rfl) (by kernel_rfl) (fun _ hb => load_raw (UPw1.keep hb)) (fun _ _ _ h => h) hS ?_
    refine rg_call 4 (some 46) 52 #[.slice Aq Kq Dq, .slice a1 len1 cap1] (by kernel_rfl) (by kernel_rfl) (nMul Oq.a N1 (by omega) (by omega)) ?_
    rintro e r8x1 ⟨Alo, Klo, Dlo, rfl, Olo, hklo, hB⟩
    refine ⟨_, rfl, joinB hS hB, ?_⟩
    replace hS := joinB hS hB
    replace N0 := N0.keep hB
    replace P0 := P0.keep hB
    replace N1 := N1.keep hB
    replace P1 := P1.keep hB
    replace N2 := N2.keep hB
    replace P2 := P2.keep hB
    replace Ow1 := Ow1.keep hB
    replace Pw1 := Pw1.keep hB
    replace Oq := Oq.keep hB
    replace Pq := Pq.keep hB
    replace HB := joinB HB hB
    clear hB
    refine rg_call 6 (some 48) 53 #[] (by kernel_rfl) (by kernel_rfl) (dBit) ?_
    rintro e r8x2 ⟨Ac1, Kc1, Dc1, rfl, Oc1, hkc1, hB⟩
    refine ⟨_, rfl, joinB hS hB, ?_⟩
    replace hS := joinB hS hB
    replace N0 := N0.keep hB
    replace P0 := P0.keep hB
    replace N1 := N1.keep hB
    replace P1 := P1.keep hB
    replace N2 := N2.keep hB
    replace P2 := P2.keep hB
    replace Ow1 := Ow1.keep hB
    replace Pw1 := Pw1.keep hB
    replace Oq := Oq.keep hB
    replace Pq := Pq.keep hB
    replace Olo := Olo.keep hB
    replace HB := joinB HB hB
    clear hB
    refine rg_call 7 (some 49) 17 #[.agg #[.slice Aq Kq Dq], .agg #[.slice Ac1 Kc1 Dc1]] (by kernel_rfl) (by kernel_rfl) (dAdd Oq.a Oc1.a (by omega) (by omega)) ?_
    rintro e r8x3 ⟨Ac2, Kc2, Dc2, rfl, Oc2, hkc2, hB⟩
    refine ⟨_, rfl, joinB hS hB, ?_⟩
    replace hS := joinB hS hB
    replace N0 := N0.keep hB
    replace P0 := P0.keep hB
    replace N1 := N1.keep hB
    replace P1 := P1.keep hB
    replace N2 := N2.keep hB
    replace P2 := P2.keep hB
    replace Ow1 := Ow1.keep hB
    replace Pw1 := Pw1.keep hB
    replace Oq := Oq.keep hB
    replace Pq := Pq.keep hB
    replace Olo := Olo.keep hB
    replace Oc1 := Oc1.keep hB
    replace HB := joinB HB hB
    clear hB
    refine rg_take 8 (some 50) (.slice Ac2 Kc2 Dc2) (by kernel_rfl) (fun _ _ => by kernel_rfl) (fun _ _ _ h => h) hS ?_
    refine rg_call 11 (some 53) 52 #[.slice Ac2 Kc2 Dc2, .slice a1 len1 cap1] (by kernel_rfl) (by kernel_rfl) (nMul Oc2.a N1 (by omega) (by omega)) ?_
    rintro e r8x4 ⟨Aup, Kup, Dup, rfl, Oup, hkup, hB⟩
    refine ⟨_, rfl, joinB hS hB, ?_⟩
    replace hS := joinB hS hB
    replace N0 := N0.keep hB
    replace P0 := P0.keep hB
    replace N1 := N1.keep hB
    replace P1 := P1.keep hB
    replace N2 := N2.keep hB
    replace P2 := P2.keep hB
    replace Ow1 := Ow1.keep hB
    replace Pw1 := Pw1.keep hB
    replace Oq := Oq.keep hB
    replace Pq := Pq.keep hB
    replace Olo := Olo.keep hB
    replace Oc1 := Oc1.keep hB
    replace Oc2 := Oc2.keep hB
    replace HB := joinB HB hB
    clear hB
    refine rg_call 16 (some 58) 52 #[.slice a0 len0 cap0, .slice Aw1 Kw1 Dw1] (by kernel_rfl) (by kernel_rfl) (nMul N0 Ow1.a (by omega) (by omega)) ?_
    rintro e r8x5 ⟨Awa, Kwa, Dwa, rfl, Owa, hkwa, hB⟩
    refine ⟨_, rfl, joinB hS hB, ?_⟩
    replace hS := joinB hS hB
    replace N0 := N0.keep hB
    replace P0 := P0.keep hB
    replace N1 := N1.keep hB
    replace P1 := P1.keep hB
    replace N2 := N2.keep hB
    replace P2 := P2.keep hB
    replace Ow1 := Ow1.keep hB
    replace Pw1 := Pw1.keep hB
    replace Oq := Oq.keep hB
    replace Pq := Pq.keep hB
    replace Olo := Olo.keep hB
    replace Oc1 := Oc1.keep hB
    replace Oc2 := Oc2.keep hB
    replace Oup := Oup.keep hB
    replace HB := joinB HB hB
    clear hB
    refine rg_take 17 (some 12) (.slice Alo Klo Dlo) (by kernel_rfl) (fun _ _ => by kernel_rfl) (fun _ _ _ h => h) hS ?_
    refine rg_take 18 (some 13) (.slice Aup Kup Dup) (by kernel_rfl) (fun _ _ => by kernel_rfl) (fun _ _ _ h => h) hS ?_
    refine rg_take 19 (some 14) (.slice Awa Kwa Dwa) (by kernel_rfl) (fun _ _ => by kernel_rfl) (fun _ _ _ h => h) hS ?_
    refine rg_done (by kernel_rfl) ?_
    clear hS UPq UP1 UP0 UPw1
    try simp only [Act.put, List.setIfInBounds_toArray, List.set_cons_zero, List.set_cons_succ]
    replace c_P0 := P0.cell
    replace c_P1 := P1.cell
    replace c_P2 := P2.cell
    replace c_Pw1 := Pw1.cell
    replace c_Pq := Pq.cell
    have tC := nCmp Olo.a Owa.a (by omega) (by omega)
    have hg : sgn (val l0 * U36 / val l1 * val l1) (val l0 * (1 * U36)) ≤ 0 := sgn_le (quo_low _ _ HBP.out)
    generalize sgn _ _ = sg at tC hg
    go_wp2_with fail
    refine (tC).mono ?_
    rintro e x4 ⟨rfl, hB⟩
    replace N0 := N0.keep hB
    replace P0 := P0.keep hB
    replace N1 := N1.keep hB
    replace P1 := P1.keep hB
    replace N2 := N2.keep hB
    replace P2 := P2.keep hB
    replace Ow1 := Ow1.keep hB
    replace Pw1 := Pw1.keep hB
    replace Oq := Oq.keep hB
    replace Pq := Pq.keep hB
    replace Olo := Olo.keep hB
    replace Oc1 := Oc1.keep hB
    replace Oc2 := Oc2.keep hB
    replace Oup := Oup.keep hB
    replace Owa := Owa.keep hB
    replace c_P0 := P0.cell
    replace c_P1 := P1.cell
    replace c_P2 := P2.cell
    replace c_Pw1 := Pw1.cell
    replace c_Pq := Pq.cell
    replace HB := joinB HB hB
    clear hB
    clear tC
    have tC := nCmp Oup.a Owa.a (by omega) (by omega)
    have hg2 : 0 < sgn ((val l0 * U36 / val l1 + 1) * val l1) (val l0 * (1 * U36)) := by
      rw [sgn_gt (quo_high _ _ HBP.out)]; decide
    generalize sgn _ _ = sg2 at tC hg2
    go_wp2_with fail
    refine (tC).mono ?_
    rintro e x5 ⟨rfl, hB⟩
    replace N0 := N0.keep hB
    replace P0 := P0.keep hB
    replace N1 := N1.keep hB
    replace P1 := P1.keep hB
    replace N2 := N2.keep hB
    replace P2 := P2.keep hB
    replace Ow1 := Ow1.keep hB
    replace Pw1 := Pw1.keep hB
    replace Oq := Oq.keep hB
    replace Pq := Pq.keep hB
    replace Olo := Olo.keep hB
    replace Oc1 := Oc1.keep hB
    replace Oc2 := Oc2.keep hB
    replace Oup := Oup.keep hB
    replace Owa := Owa.keep hB
    replace c_P0 := P0.cell
    replace c_P1 := P1.cell
    replace c_P2 := P2.cell
    replace c_Pw1 := Pw1.cell
    replace c_Pq := Pq.cell
    replace HB := joinB HB hB
    clear hB
    clear tC
    clear Olo Oc1 Oc2 Oup Owa Pq Oq Pw1 Ow1 c_Pq c_Pw1
    go_wp2_with fail
    refine (dMulDiv N0 (by omega) N1 (by omega) N1 (by omega) HBB.out).mono ?_
    rintro e x6 ⟨Ax, Kx, Dx, rfl, Ox, hkx, hB⟩
    replace N0 := N0.keep hB
    replace P0 := P0.keep hB
    replace N1 := N1.keep hB
    replace P1 := P1.keep hB
    replace N2 := N2.keep hB
    replace P2 := P2.keep hB
    replace c_P0 := P0.cell
    replace c_P1 := P1.cell
    replace c_P2 := P2.cell
    replace HB := joinB HB hB
    clear hB
    replace Ox := Ox.eqv (Int.mul_ediv_cancel _ HBB.out)
    have BA := below_alloc x6 (.cells #[.slice Ax Kx Dx] 34)
    have Px := slot_new x6 (.slice Ax Kx Dx) 34
    replace N0 := N0.keep BA
    replace P0 := P0.keep BA
    replace N1 := N1.keep BA
    replace P1 := P1.keep BA
    replace N2 := N2.keep BA
    replace P2 := P2.keep BA
    replace Ox := Ox.keep BA
    replace c_P0 := P0.cell
    replace c_P1 := P1.cell
    replace c_P2 := P2.cell
    replace HB := joinB HB BA
    clear BA
    replace c_Px := Px.cell
    go_wp2_with fail
    generalize x6.alloc (.cells #[.slice Ax Kx Dx] 34) = xx6 at *
    generalize x6.heap.size = gx at *
    go_wp2_with fail
    refine rg_start (S := fun w' => Below xx6.drew.heap.size xx6.drew w') (by kernel_rfl) (Below.refl _ _) ?_
    replace N0 := N0.drew
    replace P0 := P0.drew
    replace N1 := N1.drew
    replace P1 := P1.drew
    replace N2 := N2.drew
    replace P2 := P2.drew
    replace Ox := Ox.drew
    replace Px := Px.drew
    replace HB := HB.drew
    have UPx := Px
    have UP0 := P0
    clear c_P0
    clear c_P1
    clear c_P2
    clear c_Px
    have hS := Below.refl xx6.drew.heap.size xx6.drew
    refine rg_take 0 (some 80) (.int .i64 0) (by kernel_rfl) (fun _ _ => by kernel_rfl) (fun _ _ _ h => h) hS ?_
    refine rg_take 1 (some 81) (.bool false) (by kernel_rfl) (fun _ _ => by kernel_rfl) (fun _ _ _ h => h) hS ?_
    refine rg_take 2 (some 82) (.bool false) (by kernel_rfl) (fun _ _ => by kernel_rfl) (fun _ _ _ h => h) hS ?_
    refine rg_take 3 (some 83) (.pointer (some ⟨gx, 0, none⟩)) (by kernel_rfl) (fun _ _ => by kernel_rfl) (fun _ _ _ h => h) hS ?_
    refine rg_load 4 (some 84) (.slice Ax Kx Dx) 27 83 (gx) 0 (by kernel_rfl) (by kernel_rfl) (by kernel_rfl) (fun _ hb => load_raw (UPx.keep hb)) (fun _ _ _ h => h) hS ?_
    refine rg_take 5 (some 85) (.pointer (some ⟨w.heap.size, 0, none⟩)) (by kernel_rfl) (fun _ _ => by kernel_rfl) (fun _ _ _ h => h) hS ?_
    refine rg_load 6 (some 86) (.slice a0 len0 cap0) 27 85 (w.heap.size) 0 (by kernel_rfl) (by kernel_rfl) (by kernel_rfl) (fun _ hb => load_raw (UP0.keep hb)) (fun _ _ _ h => h) hS ?_
    refine rg_call 7 (some 87) 55 #[.slice a0 len0 cap0] (by kernel_rfl) (by kernel_rfl) (nNorm N0 (by omega)) ?_
    rintro e r12x1 ⟨Ann, Knn, Dnn, rfl, Onn, hknn, hB⟩
    refine ⟨_, rfl, joinB hS hB, ?_⟩
    replace hS := joinB hS hB
    replace N0 := N0.keep hB
    replace P0 := P0.keep hB
    replace N1 := N1.keep hB
    replace P1 := P1.keep hB
    replace N2 := N2.keep hB
    replace P2 := P2.keep hB
    replace Ox := Ox.keep hB
    replace Px := Px.keep hB
    replace HB := joinB HB hB
    clear hB
    have tC := nSame Ox Onn (by omega) (by omega)
    rw [decide_eq_true rfl] at tC
    refine rg_call 8 (some 88) 47 #[.slice Ax Kx Dx, .slice Ann Knn Dnn] (by kernel_rfl) (by kernel_rfl) (tC) ?_
    rintro e r12x2 ⟨rfl, hB⟩
    refine ⟨_, rfl, joinB hS hB, ?_⟩
    replace hS := joinB hS hB
    replace N0 := N0.keep hB
    replace P0 := P0.keep hB
    replace N1 := N1.keep hB
    replace P1 := P1.keep hB
    replace N2 := N2.keep hB
    replace P2 := P2.keep hB
    replace Ox := Ox.keep hB
    replace Px := Px.keep hB
    replace Onn := Onn.keep hB
    replace HB := joinB HB hB
    clear hB
    clear tC
    refine rg_take 9 (some 89) (.bool false) (by kernel_rfl) (fun _ _ => by kernel_rfl) (fun _ _ _ h => h) hS ?_
    refine rg_take 10 (some 90) (.bool false) (by kernel_rfl) (fun _ _ => by kernel_rfl) (fun _ _ _ h => h) hS ?_
    refine rg_done (by kernel_rfl) ?_
    clear hS UPx UP0
    try simp only [Act.put, List.setIfInBounds_toArray, List.set_cons_zero, List.set_cons_succ]
    replace c_P0 := P0.cell
    replace c_P1 := P1.cell
    replace c_P2 := P2.cell
    replace c_Px := Px.cell
    clear Onn Ox Px c_Px
    by_cases hc : val l2 = 0
    · have HC := (show Hid _ from hc)
      clear hc
      go_wp2_with fail
      refine (dMulDivZ N0 (by omega) N1 (by omega) N2 (by omega) HC.out).mono ?_
      rintro e x7 ⟨rfl, hB⟩
      replace N0 := N0.keep hB
      replace P0 := P0.keep hB
      replace N1 := N1.keep hB
      replace P1 := P1.keep hB
      replace N2 := N2.keep hB
      replace P2 := P2.keep hB
      replace c_P0 := P0.cell
      replace c_P1 := P1.cell
      replace c_P2 := P2.cell
      replace HB := joinB HB hB
      clear hB
      have BA := below_alloc x7 (.cells #[.slice none 0 0] 34)
      have Pd := slot_new x7 (.slice none 0 0) 34
      replace N0 := N0.keep BA
      replace P0 := P0.keep BA
      replace N1 := N1.keep BA
      replace P1 := P1.keep BA
      replace N2 := N2.keep BA
      replace P2 := P2.keep BA
      replace c_P0 := P0.cell
      replace c_P1 := P1.cell
      replace c_P2 := P2.cell
      replace HB := joinB HB BA
      clear BA
      replace c_Pd := Pd.cell
      go_wp2_with fail
      generalize x7.alloc (.cells #[.slice none 0 0] 34) = xx7 at *
      generalize x7.heap.size = gd at *
      go_wp2_with fail
      refine (dMulDivUpZ N0 (by omega) N1 (by omega) N2 (by omega) HC.out).mono ?_
      rintro e x8 ⟨rfl, hB⟩
      replace N0 := N0.keep hB
      replace P0 := P0.keep hB
      replace N1 := N1.keep hB
      replace P1 := P1.keep hB
      replace N2 := N2.keep hB
      replace P2 := P2.keep hB
      replace Pd := Pd.keep hB
      replace c_P0 := P0.cell
      replace c_P1 := P1.cell
      replace c_P2 := P2.cell
      replace c_Pd := Pd.cell
      replace HB := joinB HB hB
      clear hB
      have BA := below_alloc x8 (.cells #[.slice none 0 0] 34)
      have Pu := slot_new x8 (.slice none 0 0) 34
      replace N0 := N0.keep BA
      replace P0 := P0.keep BA
      replace N1 := N1.keep BA
      replace P1 := P1.keep BA
      replace N2 := N2.keep BA
      replace P2 := P2.keep BA
      replace Pd := Pd.keep BA
      replace c_P0 := P0.cell
      replace c_P1 := P1.cell
      replace c_P2 := P2.cell
      replace c_Pd := Pd.cell
      replace HB := joinB HB BA
      clear BA
      replace c_Pu := Pu.cell
      go_wp2_with fail
      generalize x8.alloc (.cells #[.slice none 0 0] 34) = xx8 at *
      generalize x8.heap.size = gu at *
      have tZ := dZero N2 (by omega)
      rw [decide_eq_true HC.out] at tZ
      go_wp2_with fail
      refine (tZ).mono ?_
      rintro e x9 ⟨rfl, hB⟩
      replace N0 := N0.keep hB
      replace P0 := P0.keep hB
      replace N1 := N1.keep hB
      replace P1 := P1.keep hB
      replace N2 := N2.keep hB
      replace P2 := P2.keep hB
      replace Pd := Pd.keep hB
      replace Pu := Pu.keep hB
      replace c_P0 := P0.cell
      replace c_P1 := P1.cell
      replace c_P2 := P2.cell
      replace c_Pd := Pd.cell
      replace c_Pu := Pu.cell
      replace HB := joinB HB hB
      clear hB
      clear tZ
      go_wp2
      go_ret
      exact ⟨rfl, HB⟩
    · have HC := (show Hid _ from hc)
      clear hc
      by_cases hr : val l0 * val l1 % val l2 = 0
      · have HR := (show Hid _ from hr)
        clear hr
        go_wp2_with fail
        refine (dMulDiv N0 (by omega) N1 (by omega) N2 (by omega) HC.out).mono ?_
        rintro e x7 ⟨Ad, Kd, Dd, rfl, Od, hkd, hB⟩
        replace N0 := N0.keep hB
        replace P0 := P0.keep hB
        replace N1 := N1.keep hB
        replace P1 := P1.keep hB
        replace N2 := N2.keep hB
        replace P2 := P2.keep hB
        replace c_P0 := P0.cell
        replace c_P1 := P1.cell
        replace c_P2 := P2.cell
        replace HB := joinB HB hB
        clear hB
        have BA := below_alloc x7 (.cells #[.slice Ad Kd Dd] 34)
        have Pd := slot_new x7 (.slice Ad Kd Dd) 34
        replace N0 := N0.keep BA
        replace P0 := P0.keep BA
        replace N1 := N1.keep BA
        replace P1 := P1.keep BA
        replace N2 := N2.keep BA
        replace P2 := P2.keep BA
        replace Od := Od.keep BA
        replace c_P0 := P0.cell
        replace c_P1 := P1.cell
        replace c_P2 := P2.cell
        replace HB := joinB HB BA
        clear BA
        replace c_Pd := Pd.cell
        go_wp2_with fail
        generalize x7.alloc (.cells #[.slice Ad Kd Dd] 34) = xx7 at *
        generalize x7.heap.size = gd at *
        go_wp2_with fail
        refine (dMulDivUp N0 (by omega) N1 (by omega) N2 (by omega) HC.out).mono ?_
        rintro e x8 ⟨Au, Ku, Du, rfl, Ou, hku, hB⟩
        replace N0 := N0.keep hB
        replace P0 := P0.keep hB
        replace N1 := N1.keep hB
        replace P1 := P1.keep hB
        replace N2 := N2.keep hB
        replace P2 := P2.keep hB
        replace Od := Od.keep hB
        replace Pd := Pd.keep hB
        replace c_P0 := P0.cell
        replace c_P1 := P1.cell
        replace c_P2 := P2.cell
        replace c_Pd := Pd.cell
        replace HB := joinB HB hB
        clear hB
        replace Ou := Ou.eqv (rnd_yes HR.out)
        have BA := below_alloc x8 (.cells #[.slice Au Ku Du] 34)
        have Pu := slot_new x8 (.slice Au Ku Du) 34
        replace N0 := N0.keep BA
        replace P0 := P0.keep BA
        replace N1 := N1.keep BA
        replace P1 := P1.keep BA
        replace N2 := N2.keep BA
        replace P2 := P2.keep BA
        replace Od := Od.keep BA
        replace Pd := Pd.keep BA
        replace Ou := Ou.keep BA
        replace c_P0 := P0.cell
        replace c_P1 := P1.cell
        replace c_P2 := P2.cell
        replace c_Pd := Pd.cell
        replace HB := joinB HB BA
        clear BA
        replace c_Pu := Pu.cell
        go_wp2_with fail
        generalize x8.alloc (.cells #[.slice Au Ku Du] 34) = xx8 at *
        generalize x8.heap.size = gu at *
        have tZ := dZero N2 (by omega)
        rw [decide_eq_false HC.out] at tZ
        go_wp2_with fail
        refine (tZ).mono ?_
        rintro e x9 ⟨rfl, hB⟩
        replace N0 := N0.keep hB
        replace P0 := P0.keep hB
        replace N1 := N1.keep hB
        replace P1 := P1.keep hB
        replace N2 := N2.keep hB
        replace P2 := P2.keep hB
        replace Od := Od.keep hB
        replace Pd := Pd.keep hB
        replace Ou := Ou.keep hB
        replace Pu := Pu.keep hB
        replace c_P0 := P0.cell
        replace c_P1 := P1.cell
        replace c_P2 := P2.cell
        replace c_Pd := Pd.cell
        replace c_Pu := Pu.cell
        replace HB := joinB HB hB
        clear hB
        clear tZ
        go_wp2_with fail
        refine rg_start (S := fun w' => Below x9.drew.heap.size x9.drew w') (by kernel_rfl) (Below.refl _ _) ?_
        replace N0 := N0.drew
        replace P0 := P0.drew
        replace N1 := N1.drew
        replace P1 := P1.drew
        replace N2 := N2.drew
        replace P2 := P2.drew
        replace Od := Od.drew
        replace Pd := Pd.drew
        replace Ou := Ou.drew
        replace Pu := Pu.drew
        replace HB := HB.drew
        have UPd := Pd
        have UP2 := P2
        have UP0 := P0
        have UP1 := P1
        clear c_P0
        clear c_P1
        clear c_P2
        clear c_Pd
        clear c_Pu
        have hS := Below.refl x9.drew.heap.size x9.drew
        refine rg_take 0 (some 113) (.pointer (some ⟨gd, 0, none⟩)) (by kernel_rfl) (fun _ _ => by kernel_rfl) (fun _ _ _ h => h) hS ?_
        refine rg_load 1 (some 114) (.slice Ad Kd Dd) 27 113 (gd) 0 (by kernel_rfl) (by kernel_rfl) (by kernel_rfl) (fun _ hb => load_raw (UPd.keep hb)) (fun _ _ _ h => h) hS ?_
        refine rg_take 2 (some 115) (.pointer (some ⟨w.heap.size + 1 + 1, 0, none⟩)) (by kernel_rfl) (fun _ _ => by kernel_rfl) (fun _ _ _ h => h) hS ?_
        refine rg_load 3 (some 116) (.slice a2 len2 cap2) 27 115 (w.heap.size + 1 + 1) 0 (by kernel_rfl) (by kernel_rfl) (by kernel_rfl) (fun _ hb => load_raw (UP2.keep hb)) (fun _ _ _ h => h) hS ?_
        refine rg_take 5 (some 118) (.pointer (some ⟨w.heap.size, 0, none⟩)) (by kernel_rfl) (fun _ _ => by kernel_rfl) (fun _ _ _ h => h) hS ?_
        refine rg_load 6 (some 119) (.slice a0 len0 cap0) 27 118 (w.heap.size) 0 (by kernel_rfl) (by kernel_rfl) (by kernel_rfl) (fun _ hb => load_raw (UP0.keep hb)) (fun _ _ _ h => h) hS ?_
        refine rg_take 7 (some 120) (.pointer (some ⟨w.heap.size + 1, 0, none⟩)) (by kernel_rfl) (fun _ _ => by kernel_rfl) (fun _ _ _ h => h) hS ?_
        refine rg_load 8 (some 121) (.slice a1 len1 cap1) 27 120 (w.heap.size + 1) 0 (by kernel_rfl) (by kernel_rfl) (by kernel_rfl) (fun _ hb => load_raw (UP1.keep hb)) (fun _ _ _ h => h) hS ?_
        refine rg_call 4 (some 117) 52 #[.slice Ad Kd Dd, .slice a2 len2 cap2] (by kernel_rfl) (by kernel_rfl) (nMul Od.a N2 (by omega) (by omega)) ?_
        rintro e r18x1 ⟨Ag1, Kg1, Dg1, rfl, Og1, hkg1, hB⟩
        refine ⟨_, rfl, joinB hS hB, ?_⟩
        replace hS := joinB hS hB
        replace N0 := N0.keep hB
        replace P0 := P0.keep hB
        replace N1 := N1.keep hB
        replace P1 := P1.keep hB
        replace N2 := N2.keep hB
        replace P2 := P2.keep hB
        replace Od := Od.keep hB
        replace Pd := Pd.keep hB
        replace Ou := Ou.keep hB
        replace Pu := Pu.keep hB
        replace HB := joinB HB hB
        clear hB
        refine rg_call 9 (some 122) 52 #[.slice a0 len0 cap0, .slice a1 len1 cap1] (by kernel_rfl) (by kernel_rfl) (nMul N0 N1 (by omega) (by omega)) ?_
        rintro e r18x2 ⟨Ag2, Kg2, Dg2, rfl, Og2, hkg2, hB⟩
        refine ⟨_, rfl, joinB hS hB, ?_⟩
        replace hS := joinB hS hB
        replace N0 := N0.keep hB
        replace P0 := P0.keep hB
        replace N1 := N1.keep hB
        replace P1 := P1.keep hB
        replace N2 := N2.keep hB
        replace P2 := P2.keep hB
        replace Od := Od.keep hB
        replace Pd := Pd.keep hB
        replace Ou := Ou.keep hB
        replace Pu := Pu.keep hB
        replace Og1 := Og1.keep hB
        replace HB := joinB HB hB
        clear hB
        have tC := nSame Og1 Og2 (by omega) (by omega)
        rw [decide_eq_true (ex_yes HR.out)] at tC
        refine rg_call 10 (some 123) 47 #[.slice Ag1 Kg1 Dg1, .slice Ag2 Kg2 Dg2] (by kernel_rfl) (by kernel_rfl) (tC) ?_
        rintro e r18x3 ⟨rfl, hB⟩
        refine ⟨_, rfl, joinB hS hB, ?_⟩
        replace hS := joinB hS hB
        replace N0 := N0.keep hB
        replace P0 := P0.keep hB
        replace N1 := N1.keep hB
        replace P1 := P1.keep hB
        replace N2 := N2.keep hB
        replace P2 := P2.keep hB
        replace Od := Od.keep hB
        replace Pd := Pd.keep hB
        replace Ou := Ou.keep hB
        replace Pu := Pu.keep hB
        replace Og1 := Og1.keep hB
        replace Og2 := Og2.keep hB
        replace HB := joinB HB hB
        clear hB
        clear tC
        refine rg_take 11 (some 21) (.bool true) (by kernel_rfl) (fun _ _ => by kernel_rfl) (fun _ _ _ h => h) hS ?_
        refine rg_done (by kernel_rfl) ?_
        clear hS UPd UP2 UP0 UP1
        try simp only [Act.put, List.setIfInBounds_toArray, List.set_cons_zero, List.set_cons_succ]
        replace c_P0 := P0.cell
        replace c_P1 := P1.cell
        replace c_P2 := P2.cell
        replace c_Pd := Pd.cell
        replace c_Pu := Pu.cell
        clear Og1 Og2
        go_wp2_with fail
        refine rg_start (S := fun w' => Below r18x3.drew.heap.size r18x3.drew w') (by kernel_rfl) (Below.refl _ _) ?_
        replace N0 := N0.drew
        replace P0 := P0.drew
        replace N1 := N1.drew
        replace P1 := P1.drew
        replace N2 := N2.drew
        replace P2 := P2.drew
        replace Od := Od.drew
        replace Pd := Pd.drew
        replace Ou := Ou.drew
        replace Pu := Pu.drew
        replace HB := HB.drew
        have UPd := Pd
        have UPu := Pu
        clear c_P0
        clear c_P1
        clear c_P2
        clear c_Pd
        clear c_Pu
        have hS := Below.refl r18x3.drew.heap.size r18x3.drew
        refine rg_take 0 (some 124) (.int .i64 0) (by kernel_rfl) (fun _ _ => by kernel_rfl) (fun _ _ _ h => h) hS ?_
        refine rg_take 1 (some 125) (.int .i64 0) (by kernel_rfl) (fun _ _ => by kernel_rfl) (fun _ _ _ h => h) hS ?_
        refine rg_take 2 (some 126) (.int .i64 0) (by kernel_rfl) (fun _ _ => by kernel_rfl) (fun _ _ _ h => h) hS ?_
        refine rg_take 3 (some 127) (.bool false) (by kernel_rfl) (fun _ _ => by kernel_rfl) (fun _ _ _ h => h) hS ?_
        refine rg_take 4 (some 128) (.bool false) (by kernel_rfl) (fun _ _ => by kernel_rfl) (fun _ _ _ h => h) hS ?_
        refine rg_take 5 (some 129) (.bool true) (by kernel_rfl) (fun _ _ => by kernel_rfl) (fun _ _ _ h => h) hS ?_
        refine rg_load 6 (some 130) (.agg #[.slice Ad Kd Dd]) 34 17 (gd) 0 (by kernel_rfl) (by kernel_rfl) (by kernel_rfl) (fun _ hb => load_dec (UPd.keep hb)) (fun _ _ _ h => h) hS ?_
        refine rg_load 7 (some 131) (.agg #[.slice Au Ku Du]) 34 19 (gu) 0 (by kernel_rfl) (by kernel_rfl) (by kernel_rfl) (fun _ hb => load_dec (UPu.keep hb)) (fun _ _ _ h => h) hS ?_
        have tC := dCmp Od.a Ou.a (by omega) (by omega)
        rw [sgn_eq rfl] at tC
        refine rg_call 8 (some 132) 32 #[.agg #[.slice Ad Kd Dd], .agg #[.slice Au Ku Du]] (by kernel_rfl) (by kernel_rfl) (tC) ?_
        rintro e r19x1 ⟨rfl, hB⟩
        refine ⟨_, rfl, joinB hS hB, ?_⟩
        replace hS := joinB hS hB
        replace N0 := N0.keep hB
        replace P0 := P0.keep hB
        replace N1 := N1.keep hB
        replace P1 := P1.keep hB
        replace N2 := N2.keep hB
        replace P2 := P2.keep hB
        replace Od := Od.keep hB
        replace Pd := Pd.keep hB
        replace Ou := Ou.keep hB
        replace Pu := Pu.keep hB
        replace HB := joinB HB hB
        clear hB
        clear tC
        refine rg_take 9 (some 133) (.bool true) (by kernel_rfl) (fun _ _ => by kernel_rfl) (fun _ _ _ h => h) hS ?_
        refine rg_take 10 (some 134) (.bool false) (by kernel_rfl) (fun _ _ => by kernel_rfl) (fun _ _ _ h => h) hS ?_
        refine rg_take 11 (some 135) (.bool false) (by kernel_rfl) (fun _ _ => by kernel_rfl) (fun _ _ _ h => h) hS ?_
        refine rg_take 12 (some 136) (.bool false) (by kernel_rfl) (fun _ _ => by kernel_rfl) (fun _ _ _ h => h) hS ?_
        refine rg_take 13 (some 137) (.bool true) (by kernel_rfl) (fun _ _ => by kernel_rfl) (fun _ _ _ h => h) hS ?_
        refine rg_take 14 (some 138) (.bool false) (by kernel_rfl) (fun _ _ => by kernel_rfl) (fun _ _ _ h => h) hS ?_
        refine rg_take 15 (some 139) (.bool false) (by kernel_rfl) (fun _ _ => by kernel_rfl) (fun _ _ _ h => h) hS ?_
        refine rg_skip 16 (some 140) (by kernel_rfl) (fun _ _ _ h => h) hS ?_
        refine rg_skip 17 (some 141) (by kernel_rfl) (fun _ _ _ h => h) hS ?_
        refine rg_skip 18 (some 142) (by kernel_rfl) (fun _ _ _ h => h) hS ?_
        refine rg_skip 19 (some 143) (by kernel_rfl) (fun _ _ _ h => h) hS ?_
        refine rg_skip 20 (some 144) (by kernel_rfl) (fun _ _ _ h => h) hS ?_
        refine rg_skip 21 (some 145) (by kernel_rfl) (fun _ _ _ h => h) hS ?_
        refine rg_take 22 (some 146) (.bool false) (by kernel_rfl) (fun _ _ => by kernel_rfl) (fun _ _ _ h => h) hS ?_
        refine rg_take 23 (some 147) (.bool false) (by kernel_rfl) (fun _ _ => by kernel_rfl) (fun _ _ _ h => h) hS ?_
        refine rg_done (by kernel_rfl) ?_
        clear hS UPd UPu
        try simp only [Act.put, List.setIfInBounds_toArray, List.set_cons_zero, List.set_cons_succ]
        replace c_P0 := P0.cell
        replace c_P1 := P1.cell
        replace c_P2 := P2.cell
        replace c_Pd := Pd.cell
        replace c_Pu := Pu.cell
        clear N1 P1 N2 P2 Od Pd Ou Pu c_P1 c_P2 c_Pd c_Pu
        go_wp2_with fail
        refine rg_start (S := fun w' => Below r19x1.drew.heap.size r19x1.drew w') (by kernel_rfl) (Below.refl _ _) ?_
        replace N0 := N0.drew
        replace P0 := P0.drew
        replace HB := HB.drew
        have UP0 := P0
        clear c_P0
        have hS := Below.refl r19x1.drew.heap.size r19x1.drew
        refine rg_load 0 (some 148) (.agg #[.slice a0 len0 cap0]) 34 4 (w.heap.size) 0 (by kernel_rfl) (by kernel_rfl) (by kernel_rfl) (fun _ hb => load_dec (UP0.keep hb)) (fun _ _ _ h => h) hS ?_
        refine rg_take 1 (some 149) (.int .u64 y3) (by kernel_rfl) (fun _ _ => by kernel_rfl) (fun _ _ _ h => h) hS ?_
        refine rg_load 4 (some 152) (.agg #[.slice a0 len0 cap0]) 34 4 (w.heap.size) 0 (by kernel_rfl) (by kernel_rfl) (by kernel_rfl) (fun _ hb => load_dec (UP0.keep hb)) (fun _ _ _ h => h) hS ?_
        refine rg_take 5 (some 153) (.int .u64 y3) (by kernel_rfl) (fun _ _ => by kernel_rfl) (fun _ _ _ h => h) hS ?_
        refine rg_call 2 (some 150) 24 #[.int .u64 y3] (by kernel_rfl) (by kernel_rfl) (dOf (x := y3) (by omega) (by omega)) ?_
        rintro e r21x1 ⟨Af1, Kf1, Df1, rfl, Of1, hkf1, hB⟩
        refine ⟨_, rfl, joinB hS hB, ?_⟩
        replace hS := joinB hS hB
        replace N0 := N0.keep hB
        replace P0 := P0.keep hB
        replace HB := joinB HB hB
        clear hB
        refine rg_call 3 (some 151) 45 #[.agg #[.slice a0 len0 cap0], .agg #[.slice Af1 Kf1 Df1]] (by kernel_rfl) (by kernel_rfl) (dMul N0 (by omega) Of1.a (by omega)) ?_
        rintro e r21x2 ⟨Af2, Kf2, Df2, rfl, Of2, hkf2, hB⟩
        refine ⟨_, rfl, joinB hS hB, ?_⟩
        replace hS := joinB hS hB
        replace N0 := N0.keep hB
        replace P0 := P0.keep hB
        replace Of1 := Of1.keep hB
        replace HB := joinB HB hB
        clear hB
        refine rg_call 6 (some 154) 18 #[.agg #[.slice a0 len0 cap0], .int .u64 y3] (by kernel_rfl) (by kernel_rfl) (dTimes (y := y3) N0 (by omega) (by omega) (by omega)) ?_
        rintro e r21x3 ⟨Af3, Kf3, Df3, rfl, Of3, hkf3, hB⟩
        refine ⟨_, rfl, joinB hS hB, ?_⟩
        replace hS := joinB hS hB
        replace N0 := N0.keep hB
        replace P0 := P0.keep hB
        replace Of1 := Of1.keep hB
        replace Of2 := Of2.keep hB
        replace HB := joinB HB hB
        clear hB
        have tC := dCmp Of2.a Of3.a (by omega) (by omega)
        rw [sgn_eq (mul_unit _ _)] at tC
        refine rg_call 7 (some 155) 32 #[.agg #[.slice Af2 Kf2 Df2], .agg #[.slice Af3 Kf3 Df3]] (by kernel_rfl) (by kernel_rfl) (tC) ?_
        rintro e r21x4 ⟨rfl, hB⟩
        refine ⟨_, rfl, joinB hS hB, ?_⟩
        replace hS := joinB hS hB
        replace N0 := N0.keep hB
        replace P0 := P0.keep hB
        replace Of1 := Of1.keep hB
        replace Of2 := Of2.keep hB
        replace Of3 := Of3.keep hB
        replace HB := joinB HB hB
        clear hB
        clear tC
        refine rg_take 8 (some 156) (.bool false) (by kernel_rfl) (fun _ _ => by kernel_rfl) (fun _ _ _ h => h) hS ?_
        refine rg_done (by kernel_rfl) ?_
        clear hS UP0
        try simp only [Act.put, List.setIfInBounds_toArray, List.set_cons_zero, List.set_cons_succ]
        replace c_P0 := P0.cell
        clear Of1 Of2 Of3
        by_cases hy : y3 = 0
        · skip
          subst hy
          go_wp2_with fail
          refine (dTimes (y := 0) N0 (by omega) (by decide) (by decide)).mono ?_
          rintro e x10 ⟨At9, Kt9, Dt9, rfl, Ot9, hkt9, hB⟩
          replace N0 := N0.keep hB
          replace P0 := P0.keep hB
          replace c_P0 := P0.cell
          replace HB := joinB HB hB
          clear hB
          go_wp2_with fail
          refine (dOverZ Ot9.a (by omega)).mono ?_
          rintro e x11 ⟨rfl, hB⟩
          replace N0 := N0.keep hB
          replace P0 := P0.keep hB
          replace Ot9 := Ot9.keep hB
          replace c_P0 := P0.cell
          replace HB := joinB HB hB
          clear hB
          have BA := below_alloc x11 (.cells #[.slice none 0 0] 34)
          have Po9 := slot_new x11 (.slice none 0 0) 34
          replace N0 := N0.keep BA
          replace P0 := P0.keep BA
          replace Ot9 := Ot9.keep BA
          replace c_P0 := P0.cell
          replace HB := joinB HB BA
          clear BA
          replace c_Po9 := Po9.cell
          go_wp2_with fail
          generalize x11.alloc (.cells #[.slice none 0 0] 34) = xx11 at *
          generalize x11.heap.size = go9 at *
          go_wp2
          go_ret
          exact ⟨rfl, HB⟩
        · have HY := (show Hid _ from hy)
          clear hy
          go_wp2_with fail
          refine (dTimes (y := y3) N0 (by omega) (by omega) (by omega)).mono ?_
          rintro e x10 ⟨At9, Kt9, Dt9, rfl, Ot9, hkt9, hB⟩
          replace N0 := N0.keep hB
          replace P0 := P0.keep hB
          replace c_P0 := P0.cell
          replace HB := joinB HB hB
          clear hB
          go_wp2_with fail
          refine (dOver (y := y3) Ot9.a (by omega) (by omega) (by omega) HY.out).mono ?_
          rintro e x11 ⟨Ao9, Ko9, Do9, rfl, Oo9, hko9, hB⟩
          replace N0 := N0.keep hB
          replace P0 := P0.keep hB
          replace Ot9 := Ot9.keep hB
          replace c_P0 := P0.cell
          replace HB := joinB HB hB
          clear hB
          replace Oo9 := Oo9.eqv (Int.mul_ediv_cancel _ HY.out)
          have BA := below_alloc x11 (.cells #[.slice Ao9 Ko9 Do9] 34)
          have Po9 := slot_new x11 (.slice Ao9 Ko9 Do9) 34
          replace N0 := N0.keep BA
          replace P0 := P0.keep BA
          replace Ot9 := Ot9.keep BA
          replace Oo9 := Oo9.keep BA
          replace c_P0 := P0.cell
          replace HB := joinB HB BA
          clear BA
          replace c_Po9 := Po9.cell
          go_wp2_with fail
          generalize x11.alloc (.cells #[.slice Ao9 Ko9 Do9] 34) = xx11 at *
          generalize x11.heap.size = go9 at *
          have hy0 : ((y3 : Int) == 0) = false := beq_eq_false_iff_ne.2 HY.out
          have tC := dCmp Oo9.a N0 (by omega) (by omega)
          rw [sgn_eq rfl] at tC
          clear Ot9
          go_wp2_with fail
          refine (tC).mono ?_
          rintro e x12 ⟨rfl, hB⟩
          replace N0 := N0.keep hB
          replace P0 := P0.keep hB
          replace Oo9 := Oo9.keep hB
          replace Po9 := Po9.keep hB
          replace c_P0 := P0.cell
          replace c_Po9 := Po9.cell
          replace HB := joinB HB hB
          clear hB
          clear tC
          go_wp2
          go_ret
          exact ⟨rfl, HB⟩
      · have HR := (show Hid _ from hr)
        clear hr
        go_wp2_with fail
        refine (dMulDiv N0 (by omega) N1 (by omega) N2 (by omega) HC.out).mono ?_
        rintro e x7 ⟨Ad, Kd, Dd, rfl, Od, hkd, hB⟩
        replace N0 := N0.keep hB
        replace P0 := P0.keep hB
        replace N1 := N1.keep hB
        replace P1 := P1.keep hB
        replace N2 := N2.keep hB
        replace P2 := P2.keep hB
        replace c_P0 := P0.cell
        replace c_P1 := P1.cell
        replace c_P2 := P2.cell
        replace HB := joinB HB hB
        clear hB
        have BA := below_alloc x7 (.cells #[.slice Ad Kd Dd] 34)
        have Pd := slot_new x7 (.slice Ad Kd Dd) 34
        replace N0 := N0.keep BA
        replace P0 := P0.keep BA
        replace N1 := N1.keep BA
        replace P1 := P1.keep BA
        replace N2 := N2.keep BA
        replace P2 := P2.keep BA
        replace Od := Od.keep BA
        replace c_P0 := P0.cell
        replace c_P1 := P1.cell
        replace c_P2 := P2.cell
        replace HB := joinB HB BA
        clear BA
        replace c_Pd := Pd.cell
        go_wp2_with fail
        generalize x7.alloc (.cells #[.slice Ad Kd Dd] 34) = xx7 at *
        generalize x7.heap.size = gd at *
        go_wp2_with fail
        refine (dMulDivUp N0 (by omega) N1 (by omega) N2 (by omega) HC.out).mono ?_
        rintro e x8 ⟨Au, Ku, Du, rfl, Ou, hku, hB⟩
        replace N0 := N0.keep hB
        replace P0 := P0.keep hB
        replace N1 := N1.keep hB
        replace P1 := P1.keep hB
        replace N2 := N2.keep hB
        replace P2 := P2.keep hB
        replace Od := Od.keep hB
        replace Pd := Pd.keep hB
        replace c_P0 := P0.cell
        replace c_P1 := P1.cell
        replace c_P2 := P2.cell
        replace c_Pd := Pd.cell
        replace HB := joinB HB hB
        clear hB
        replace Ou := Ou.eqv (rnd_no HR.out)
        have BA := below_alloc x8 (.cells #[.slice Au Ku Du] 34)
        have Pu := slot_new x8 (.slice Au Ku Du) 34
        replace N0 := N0.keep BA
        replace P0 := P0.keep BA
        replace N1 := N1.keep BA
        replace P1 := P1.keep BA
        replace N2 := N2.keep BA
        replace P2 := P2.keep BA
        replace Od := Od.keep BA
        replace Pd := Pd.keep BA
        replace Ou := Ou.keep BA
        replace c_P0 := P0.cell
        replace c_P1 := P1.cell
        replace c_P2 := P2.cell
        replace c_Pd := Pd.cell
        replace HB := joinB HB BA
        clear BA
        replace c_Pu := Pu.cell
        go_wp2_with fail
        generalize x8.alloc (.cells #[.slice Au Ku Du] 34) = xx8 at *
        generalize x8.heap.size = gu at *
        have tZ := dZero N2 (by omega)
        rw [decide_eq_false HC.out] at tZ
        go_wp2_with fail
        refine (tZ).mono ?_
        rintro e x9 ⟨rfl, hB⟩
        replace N0 := N0.keep hB
        replace P0 := P0.keep hB
        replace N1 := N1.keep hB
        replace P1 := P1.keep hB
        replace N2 := N2.keep hB
        replace P2 := P2.keep hB
        replace Od := Od.keep hB
        replace Pd := Pd.keep hB
        replace Ou := Ou.keep hB
        replace Pu := Pu.keep hB
        replace c_P0 := P0.cell
        replace c_P1 := P1.cell
        replace c_P2 := P2.cell
        replace c_Pd := Pd.cell
        replace c_Pu := Pu.cell
        replace HB := joinB HB hB
        clear hB
        clear tZ
        go_wp2_with fail
        refine rg_start (S := fun w' => Below x9.drew.heap.size x9.drew w') (by kernel_rfl) (Below.refl _ _) ?_
        replace N0 := N0.drew
        replace P0 := P0.drew
        replace N1 := N1.drew
        replace P1 := P1.drew
        replace N2 := N2.drew
        replace P2 := P2.drew
        replace Od := Od.drew
        replace Pd := Pd.drew
        replace Ou := Ou.drew
        replace Pu := Pu.drew
        replace HB := HB.drew
        have UPd := Pd
        have UP2 := P2
        have UP0 := P0
        have UP1 := P1
        clear c_P0
        clear c_P1
        clear c_P2
        clear c_Pd
        clear c_Pu
        have hS := Below.refl x9.drew.heap.size x9.drew
        refine rg_take 0 (some 113) (.pointer (some ⟨gd, 0, none⟩)) (by kernel_rfl) (fun _ _ => by kernel_rfl) (fun _ _ _ h => h) hS ?_
        refine rg_load 1 (some 114) (.slice Ad Kd Dd) 27 113 (gd) 0 (by kernel_rfl) (by kernel_rfl) (by kernel_rfl) (fun _ hb => load_raw (UPd.keep hb)) (fun _ _ _ h => h) hS ?_
        refine rg_take 2 (some 115) (.pointer (some ⟨w.heap.size + 1 + 1, 0, none⟩)) (by kernel_rfl) (fun _ _ => by kernel_rfl) (fun _ _ _ h => h) hS ?_
        refine rg_load 3 (some 116) (.slice a2 len2 cap2) 27 115 (w.heap.size + 1 + 1) 0 (by kernel_rfl) (by kernel_rfl) (by kernel_rfl) (fun _ hb => load_raw (UP2.keep hb)) (fun _ _ _ h => h) hS ?_
        refine rg_take 5 (some 118) (.pointer (some ⟨w.heap.size, 0, none⟩)) (by kernel_rfl) (fun _ _ => by kernel_rfl) (fun _ _ _ h => h) hS ?_
        refine rg_load 6 (some 119) (.slice a0 len0 cap0) 27 118 (w.heap.size) 0 (by kernel_rfl) (by kernel_rfl) (by kernel_rfl) (fun _ hb => load_raw (UP0.keep hb)) (fun _ _ _ h => h) hS ?_
        refine rg_take 7 (some 120) (.pointer (some ⟨w.heap.size + 1, 0, none⟩)) (by kernel_rfl) (fun _ _ => by kernel_rfl) (fun _ _ _ h => h) hS ?_
        refine rg_load 8 (some 121) (.slice a1 len1 cap1) 27 120 (w.heap.size + 1) 0 (by kernel_rfl) (by kernel_rfl) (by kernel_rfl) (fun _ hb => load_raw (UP1.keep hb)) (fun _ _ _ h => h) hS ?_
        refine rg_call 4 (some 117) 52 #[.slice Ad Kd Dd, .slice a2 len2 cap2] (by kernel_rfl) (by kernel_rfl) (nMul Od.a N2 (by omega) (by omega)) ?_
        rintro e r18x1 ⟨Ag1, Kg1, Dg1, rfl, Og1, hkg1, hB⟩
        refine ⟨_, rfl, joinB hS hB, ?_⟩
        replace hS := joinB hS hB
        replace N0 := N0.keep hB
        replace P0 := P0.keep hB
        replace N1 := N1.keep hB
        replace P1 := P1.keep hB
        replace N2 := N2.keep hB
        replace P2 := P2.keep hB
        replace Od := Od.keep hB
        replace Pd := Pd.keep hB
        replace Ou := Ou.keep hB
        replace Pu := Pu.keep hB
        replace HB := joinB HB hB
        clear hB
        refine rg_call 9 (some 122) 52 #[.slice a0 len0 cap0, .slice a1 len1 cap1] (by kernel_rfl) (by kernel_rfl) (nMul N0 N1 (by omega) (by omega)) ?_
        rintro e r18x2 ⟨Ag2, Kg2, Dg2, rfl, Og2, hkg2, hB⟩
        refine ⟨_, rfl, joinB hS hB, ?_⟩
        replace hS := joinB hS hB
        replace N0 := N0.keep hB
        replace P0 := P0.keep hB
        replace N1 := N1.keep hB
        replace P1 := P1.keep hB
        replace N2 := N2.keep hB
        replace P2 := P2.keep hB
        replace Od := Od.keep hB
        replace Pd := Pd.keep hB
        replace Ou := Ou.keep hB
        replace Pu := Pu.keep hB
        replace Og1 := Og1.keep hB
        replace HB := joinB HB hB
        clear hB
        have tC := nSame Og1 Og2 (by omega) (by omega)
        rw [decide_eq_false (ex_no HR.out)] at tC
        refine rg_call 10 (some 123) 47 #[.slice Ag1 Kg1 Dg1, .slice Ag2 Kg2 Dg2] (by kernel_rfl) (by kernel_rfl) (tC) ?_
        rintro e r18x3 ⟨rfl, hB⟩
        refine ⟨_, rfl, joinB hS hB, ?_⟩
        replace hS := joinB hS hB
        replace N0 := N0.keep hB
        replace P0 := P0.keep hB
        replace N1 := N1.keep hB
        replace P1 := P1.keep hB
        replace N2 := N2.keep hB
        replace P2 := P2.keep hB
        replace Od := Od.keep hB
        replace Pd := Pd.keep hB
        replace Ou := Ou.keep hB
        replace Pu := Pu.keep hB
        replace Og1 := Og1.keep hB
        replace Og2 := Og2.keep hB
        replace HB := joinB HB hB
        clear hB
        clear tC
        refine rg_take 11 (some 21) (.bool false) (by kernel_rfl) (fun _ _ => by kernel_rfl) (fun _ _ _ h => h) hS ?_
        refine rg_done (by kernel_rfl) ?_
        clear hS UPd UP2 UP0 UP1
        try simp only [Act.put, List.setIfInBounds_toArray, List.set_cons_zero, List.set_cons_succ]
        replace c_P0 := P0.cell
        replace c_P1 := P1.cell
        replace c_P2 := P2.cell
        replace c_Pd := Pd.cell
        replace c_Pu := Pu.cell
        clear Og1 Og2
        go_wp2_with fail
        refine rg_start (S := fun w' => Below r18x3.drew.heap.size r18x3.drew w') (by kernel_rfl) (Below.refl _ _) ?_
        replace N0 := N0.drew
        replace P0 := P0.drew
        replace N1 := N1.drew
        replace P1 := P1.drew
        replace N2 := N2.drew
        replace P2 := P2.drew
        replace Od := Od.drew
        replace Pd := Pd.drew
        replace Ou := Ou.drew
        replace Pu := Pu.drew
        replace HB := HB.drew
        have UPd := Pd
        have UPu := Pu
        clear c_P0
        clear c_P1
        clear c_P2
        clear c_Pd
        clear c_Pu
        have hS := Below.refl r18x3.drew.heap.size r18x3.drew
        refine rg_take 0 (some 124) (.int .i64 0) (by kernel_rfl) (fun _ _ => by kernel_rfl) (fun _ _ _ h => h) hS ?_
        refine rg_take 1 (some 125) (.int .i64 0) (by kernel_rfl) (fun _ _ => by kernel_rfl) (fun _ _ _ h => h) hS ?_
        refine rg_take 2 (some 126) (.int .i64 0) (by kernel_rfl) (fun _ _ => by kernel_rfl) (fun _ _ _ h => h) hS ?_
        refine rg_take 3 (some 127) (.bool false) (by kernel_rfl) (fun _ _ => by kernel_rfl) (fun _ _ _ h => h) hS ?_
        refine rg_take 4 (some 128) (.bool false) (by kernel_rfl) (fun _ _ => by kernel_rfl) (fun _ _ _ h => h) hS ?_
        refine rg_take 5 (some 129) (.bool false) (by kernel_rfl) (fun _ _ => by kernel_rfl) (fun _ _ _ h => h) hS ?_
        refine rg_load 6 (some 130) (.agg #[.slice Ad Kd Dd]) 34 17 (gd) 0 (by kernel_rfl) (by kernel_rfl) (by kernel_rfl) (fun _ hb => load_dec (UPd.keep hb)) (fun _ _ _ h => h) hS ?_
        refine rg_load 7 (some 131) (.agg #[.slice Au Ku Du]) 34 19 (gu) 0 (by kernel_rfl) (by kernel_rfl) (by kernel_rfl) (fun _ hb => load_dec (UPu.keep hb)) (fun _ _ _ h => h) hS ?_
        have tC := dCmp Od.a Ou.a (by omega) (by omega)
        rw [sgn_lt (Int.lt_succ _)] at tC
        refine rg_call 8 (some 132) 32 #[.agg #[.slice Ad Kd Dd], .agg #[.slice Au Ku Du]] (by kernel_rfl) (by kernel_rfl) (tC) ?_
        rintro e r19x1 ⟨rfl, hB⟩
        refine ⟨_, rfl, joinB hS hB, ?_⟩
        replace hS := joinB hS hB
        replace N0 := N0.keep hB
        replace P0 := P0.keep hB
        replace N1 := N1.keep hB
        replace P1 := P1.keep hB
        replace N2 := N2.keep hB
        replace P2 := P2.keep hB
        replace Od := Od.keep hB
        replace Pd := Pd.keep hB
        replace Ou := Ou.keep hB
        replace Pu := Pu.keep hB
        replace HB := joinB HB hB
        clear hB
        clear tC
        refine rg_take 9 (some 133) (.bool false) (by kernel_rfl) (fun _ _ => by kernel_rfl) (fun _ _ _ h => h) hS ?_
        refine rg_take 10 (some 134) (.bool false) (by kernel_rfl) (fun _ _ => by kernel_rfl) (fun _ _ _ h => h) hS ?_
        refine rg_take 11 (some 135) (.bool false) (by kernel_rfl) (fun _ _ => by kernel_rfl) (fun _ _ _ h => h) hS ?_
        refine rg_take 12 (some 136) (.bool false) (by kernel_rfl) (fun _ _ => by kernel_rfl) (fun _ _ _ h => h) hS ?_
        refine rg_take 13 (some 137) (.bool false) (by kernel_rfl) (fun _ _ => by kernel_rfl) (fun _ _ _ h => h) hS ?_
        refine rg_take 14 (some 138) (.bool true) (by kernel_rfl) (fun _ _ => by kernel_rfl) (fun _ _ _ h => h) hS ?_
        refine rg_take 15 (some 139) (.bool true) (by kernel_rfl) (fun _ _ => by kernel_rfl) (fun _ _ _ h => h) hS ?_
        refine rg_load 16 (some 140) (.agg #[.slice Ad Kd Dd]) 34 17 (gd) 0 (by kernel_rfl) (by kernel_rfl) (by kernel_rfl) (fun _ hb => load_dec (UPd.keep hb)) (fun _ _ _ h => h) hS ?_
        refine rg_load 19 (some 143) (.agg #[.slice Au Ku Du]) 34 19 (gu) 0 (by kernel_rfl) (by kernel_rfl) (by kernel_rfl) (fun _ hb => load_dec (UPu.keep hb)) (fun _ _ _ h => h) hS ?_
        refine rg_call 17 (some 141) 53 #[] (by kernel_rfl) (by kernel_rfl) (dBit) ?_
        rintro e r19x2 ⟨Ab1, Kb1, Db1, rfl, Ob1, hkb1, hB⟩
        refine ⟨_, rfl, joinB hS hB, ?_⟩
        replace hS := joinB hS hB
        replace N0 := N0.keep hB
        replace P0 := P0.keep hB
        replace N1 := N1.keep hB
        replace P1 := P1.keep hB
        replace N2 := N2.keep hB
        replace P2 := P2.keep hB
        replace Od := Od.keep hB
        replace Pd := Pd.keep hB
        replace Ou := Ou.keep hB
        replace Pu := Pu.keep hB
        replace HB := joinB HB hB
        clear hB
        refine rg_call 18 (some 142) 17 #[.agg #[.slice Ad Kd Dd], .agg #[.slice Ab1 Kb1 Db1]] (by kernel_rfl) (by kernel_rfl) (dAdd Od.a Ob1.a (by omega) (by omega)) ?_
        rintro e r19x3 ⟨Ab2, Kb2, Db2, rfl, Ob2, hkb2, hB⟩
        refine ⟨_, rfl, joinB hS hB, ?_⟩
        replace hS := joinB hS hB
        replace N0 := N0.keep hB
        replace P0 := P0.keep hB
        replace N1 := N1.keep hB
        replace P1 := P1.keep hB
        replace N2 := N2.keep hB
        replace P2 := P2.keep hB
        replace Od := Od.keep hB
        replace Pd := Pd.keep hB
        replace Ou := Ou.keep hB
        replace Pu := Pu.keep hB
        replace Ob1 := Ob1.keep hB
        replace HB := joinB HB hB
        clear hB
        have tC := dCmp Ob2.a Ou.a (by omega) (by omega)
        rw [sgn_eq rfl] at tC
        refine rg_call 20 (some 144) 32 #[.agg #[.slice Ab2 Kb2 Db2], .agg #[.slice Au Ku Du]] (by kernel_rfl) (by kernel_rfl) (tC) ?_
        rintro e r19x4 ⟨rfl, hB⟩
        refine ⟨_, rfl, joinB hS hB, ?_⟩
        replace hS := joinB hS hB
        replace N0 := N0.keep hB
        replace P0 := P0.keep hB
        replace N1 := N1.keep hB
        replace P1 := P1.keep hB
        replace N2 := N2.keep hB
        replace P2 := P2.keep hB
        replace Od := Od.keep hB
        replace Pd := Pd.keep hB
        replace Ou := Ou.keep hB
        replace Pu := Pu.keep hB
        replace Ob1 := Ob1.keep hB
        replace Ob2 := Ob2.keep hB
        replace HB := joinB HB hB
        clear hB
        clear tC
        refine rg_take 21 (some 145) (.bool false) (by kernel_rfl) (fun _ _ => by kernel_rfl) (fun _ _ _ h => h) hS ?_
        refine rg_take 22 (some 146) (.bool false) (by kernel_rfl) (fun _ _ => by kernel_rfl) (fun _ _ _ h => h) hS ?_
        refine rg_take 23 (some 147) (.bool false) (by kernel_rfl) (fun _ _ => by kernel_rfl) (fun _ _ _ h => h) hS ?_
        refine rg_done (by kernel_rfl) ?_
        clear hS UPd UPu
        try simp only [Act.put, List.setIfInBounds_toArray, List.set_cons_zero, List.set_cons_succ]
        replace c_P0 := P0.cell
        replace c_P1 := P1.cell
        replace c_P2 := P2.cell
        replace c_Pd := Pd.cell
        replace c_Pu := Pu.cell
        clear N1 P1 N2 P2 Od Pd Ou Pu Ob1 Ob2 c_P1 c_P2 c_Pd c_Pu
        go_wp2_with fail
        refine rg_start (S := fun w' => Below r19x4.drew.heap.size r19x4.drew w') (by kernel_rfl) (Below.refl _ _) ?_
        replace N0 := N0.drew
        replace P0 := P0.drew
        replace HB := HB.drew
        have UP0 := P0
        clear c_P0
        have hS := Below.refl r19x4.drew.heap.size r19x4.drew
        refine rg_load 0 (some 148) (.agg #[.slice a0 len0 cap0]) 34 4 (w.heap.size) 0 (by kernel_rfl) (by kernel_rfl) (by kernel_rfl) (fun _ hb => load_dec (UP0.keep hb)) (fun _ _ _ h => h) hS ?_
        refine rg_take 1 (some 149) (.int .u64 y3) (by kernel_rfl) (fun _ _ => by kernel_rfl) (fun _ _ _ h => h) hS ?_
        refine rg_load 4 (some 152) (.agg #[.slice a0 len0 cap0]) 34 4 (w.heap.size) 0 (by kernel_rfl) (by kernel_rfl) (by kernel_rfl) (fun _ hb => load_dec (UP0.keep hb)) (fun _ _ _ h => h) hS ?_
        refine rg_take 5 (some 153) (.int .u64 y3) (by kernel_rfl) (fun _ _ => by kernel_rfl) (fun _ _ _ h => h) hS ?_
        refine rg_call 2 (some 150) 24 #[.int .u64 y3] (by kernel_rfl) (by kernel_rfl) (dOf (x := y3) (by omega) (by omega)) ?_
        rintro e r21x1 ⟨Af1, Kf1, Df1, rfl, Of1, hkf1, hB⟩
        refine ⟨_, rfl, joinB hS hB, ?_⟩
        replace hS := joinB hS hB
        replace N0 := N0.keep hB
        replace P0 := P0.keep hB
        replace HB := joinB HB hB
        clear hB
        refine rg_call 3 (some 151) 45 #[.agg #[.slice a0 len0 cap0], .agg #[.slice Af1 Kf1 Df1]] (by kernel_rfl) (by kernel_rfl) (dMul N0 (by omega) Of1.a (by omega)) ?_
        rintro e r21x2 ⟨Af2, Kf2, Df2, rfl, Of2, hkf2, hB⟩
        refine ⟨_, rfl, joinB hS hB, ?_⟩
        replace hS := joinB hS hB
        replace N0 := N0.keep hB
        replace P0 := P0.keep hB
        replace Of1 := Of1.keep hB
        replace HB := joinB HB hB
        clear hB
        refine rg_call 6 (some 154) 18 #[.agg #[.slice a0 len0 cap0], .int .u64 y3] (by kernel_rfl) (by kernel_rfl) (dTimes (y := y3) N0 (by omega) (by omega) (by omega)) ?_
        rintro e r21x3 ⟨Af3, Kf3, Df3, rfl, Of3, hkf3, hB⟩
        refine ⟨_, rfl, joinB hS hB, ?_⟩
        replace hS := joinB hS hB
        replace N0 := N0.keep hB
        replace P0 := P0.keep hB
        replace Of1 := Of1.keep hB
        replace Of2 := Of2.keep hB
        replace HB := joinB HB hB
        clear hB
        have tC := dCmp Of2.a Of3.a (by omega) (by omega)
        rw [sgn_eq (mul_unit _ _)] at tC
        refine rg_call 7 (some 155) 32 #[.agg #[.slice Af2 Kf2 Df2], .agg #[.slice Af3 Kf3 Df3]] (by kernel_rfl) (by kernel_rfl) (tC) ?_
        rintro e r21x4 ⟨rfl, hB⟩
        refine ⟨_, rfl, joinB hS hB, ?_⟩
        replace hS := joinB hS hB
        replace N0 := N0.keep hB
        replace P0 := P0.keep hB
        replace Of1 := Of1.keep hB
        replace Of2 := Of2.keep hB
        replace Of3 := Of3.keep hB
        replace HB := joinB HB hB
        clear hB
        clear tC
        refine rg_take 8 (some 156) (.bool false) (by kernel_rfl) (fun _ _ => by kernel_rfl) (fun _ _ _ h => h) hS ?_
        refine rg_done (by kernel_rfl) ?_
        clear hS UP0
        try simp only [Act.put, List.setIfInBounds_toArray, List.set_cons_zero, List.set_cons_succ]
        replace c_P0 := P0.cell
        clear Of1 Of2 Of3
        by_cases hy : y3 = 0
        · skip
          subst hy
          go_wp2_with fail
          refine (dTimes (y := 0) N0 (by omega) (by decide) (by decide)).mono ?_
          rintro e x10 ⟨At9, Kt9, Dt9, rfl, Ot9, hkt9, hB⟩
          replace N0 := N0.keep hB
          replace P0 := P0.keep hB
          replace c_P0 := P0.cell
          replace HB := joinB HB hB
          clear hB
          go_wp2_with fail
          refine (dOverZ Ot9.a (by omega)).mono ?_
          rintro e x11 ⟨rfl, hB⟩
          replace N0 := N0.keep hB
          replace P0 := P0.keep hB
          replace Ot9 := Ot9.keep hB
          replace c_P0 := P0.cell
          replace HB := joinB HB hB
          clear hB
          have BA := below_alloc x11 (.cells #[.slice none 0 0] 34)
          have Po9 := slot_new x11 (.slice none 0 0) 34
          replace N0 := N0.keep BA
          replace P0 := P0.keep BA
          replace Ot9 := Ot9.keep BA
          replace c_P0 := P0.cell
          replace HB := joinB HB BA
          clear BA
          replace c_Po9 := Po9.cell
          go_wp2_with fail
          generalize x11.alloc (.cells #[.slice none 0 0] 34) = xx11 at *
          generalize x11.heap.size = go9 at *
          go_wp2
          go_ret
          exact ⟨rfl, HB⟩
        · have HY := (show Hid _ from hy)
          clear hy
          go_wp2_with fail
          refine (dTimes (y := y3) N0 (by omega) (by omega) (by omega)).mono ?_
          rintro e x10 ⟨At9, Kt9, Dt9, rfl, Ot9, hkt9, hB⟩
          replace N0 := N0.keep hB
          replace P0 := P0.keep hB
          replace c_P0 := P0.cell
          replace HB := joinB HB hB
          clear hB
          go_wp2_with fail
          refine (dOver (y := y3) Ot9.a (by omega) (by omega) (by omega) HY.out).mono ?_
          rintro e x11 ⟨Ao9, Ko9, Do9, rfl, Oo9, hko9, hB⟩
          replace N0 := N0.keep hB
          replace P0 := P0.keep hB
          replace Ot9 := Ot9.keep hB
          replace c_P0 := P0.cell
          replace HB := joinB HB hB
          clear hB
          replace Oo9 := Oo9.eqv (Int.mul_ediv_cancel _ HY.out)
          have BA := below_alloc x11 (.cells #[.slice Ao9 Ko9 Do9] 34)
          have Po9 := slot_new x11 (.slice Ao9 Ko9 Do9) 34
          replace N0 := N0.keep BA
          replace P0 := P0.keep BA
          replace Ot9 := Ot9.keep BA
          replace Oo9 := Oo9.keep BA
          replace c_P0 := P0.cell
          replace HB := joinB HB BA
          clear BA
          replace c_Po9 := Po9.cell
          go_wp2_with fail
          generalize x11.alloc (.cells #[.slice Ao9 Ko9 Do9] 34) = xx11 at *
          generalize x11.heap.size = go9 at *
          have hy0 : ((y3 : Int) == 0) = false := beq_eq_false_iff_ne.2 HY.out
          have tC := dCmp Oo9.a N0 (by omega) (by omega)
          rw [sgn_eq rfl] at tC
          clear Ot9
          go_wp2_with fail
          refine (tC).mono ?_
          rintro e x12 ⟨rfl, hB⟩
          replace N0 := N0.keep hB
          replace P0 := P0.keep hB
          replace Oo9 := Oo9.keep hB
          replace Po9 := Po9.keep hB
          replace c_P0 := P0.cell
          replace c_Po9 := Po9.cell
          replace HB := joinB HB hB
          clear hB
          clear tC
          go_wp2
          go_ret
          exact ⟨rfl, HB⟩
end decRounds
end Go.Proofs.YtpbiflfdfiebcabGreatDoor
