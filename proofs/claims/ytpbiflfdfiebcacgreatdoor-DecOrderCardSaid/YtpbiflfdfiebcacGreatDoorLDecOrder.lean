/- gleanlaw2.DecOrder returns true for all decimals and all numbers. -/
import Derived.Test.YtpbiflfdfiebcacGreatDoorBitD
import Derived.Test.YtpbiflfdfiebcacGreatDoorSmallD
import Derived.Test.YtpbiflfdfiebcacGreatDoorReg
namespace Go.Proofs.YtpbiflfdfiebcacGreatDoor
namespace decOrder
open Go.RowKit Lim

theorem basis_parts (y : Int) : U36 / 10000 * y * 10000 = y * U36 := by
  have : U36 / 10000 * 10000 = U36 := by decide
  rw [Int.mul_right_comm, this, Int.mul_comm]

set_option maxHeartbeats 8000000 in
set_option maxRecDepth 100000 in
theorem walk (a0 : Option Addr) (len0 cap0 : Nat) (z0 : List Int) (a1 : Option Addr) (len1 cap1 : Nat) (z1 : List Int) (a2 : Option Addr) (len2 cap2 : Nat) (z2 : List Int) (y3 : Int) (w : World) (w0 : IsRow w a0 len0 cap0 z0) (w1 : IsRow w a1 len1 cap1 z1) (w2 : IsRow w a2 len2 cap2 z2) (wy3 : (Lit.int .u64 y3).wf = true) :
    Calls Tryz.prog 4 #[.agg #[.slice a0 len0 cap0], .agg #[.slice a1 len1 cap1], .agg #[.slice a2 len2 cap2], .int .u64 y3] w fun e w' => e = .returned (.bool true) ∧ Below w.heap.size w w' := by
  obtain ⟨b0, o0, l0, hl0, hc0, hm0, W0, h0⟩ := w0.open
  have N0 : NatA w a0 len0 cap0 (val l0) := ⟨b0, o0, l0, hl0, hc0, W0, h0, rfl⟩
  have v0 := val_nonneg W0
  clear h0 w0
  obtain ⟨b1, o1, l1, hl1, hc1, hm1, W1, h1⟩ := w1.open
  have N1 : NatA w a1 len1 cap1 (val l1) := ⟨b1, o1, l1, hl1, hc1, W1, h1, rfl⟩
  have v1 := val_nonneg W1
  clear h1 w1
  obtain ⟨b2, o2, l2, hl2, hc2, hm2, W2, h2⟩ := w2.open
  have N2 : NatA w a2 len2 cap2 (val l2) := ⟨b2, o2, l2, hl2, hc2, W2, h2, rfl⟩
  have v2 := val_nonneg W2
  clear h2 w2
  have by3 := bounds_u64 wy3
  clear wy3
  have HB := below3 w (.cells #[.slice a0 len0 cap0] 25) (.cells #[.slice a1 len1 cap1] 25) (.cells #[.slice a2 len2 cap2] 25)
  have P0 := ((slot_new w (.slice a0 len0 cap0) 25).alloc (.cells #[.slice a1 len1 cap1] 25)).alloc (.cells #[.slice a2 len2 cap2] 25)
  replace N0 := N0.keep HB
  have P1 := (slot_last2 w (.cells #[.slice a0 len0 cap0] 25) (.slice a1 len1 cap1) 25).alloc (.cells #[.slice a2 len2 cap2] 25)
  replace N1 := N1.keep HB
  have P2 := slot_last3 w (.cells #[.slice a0 len0 cap0] 25) (.cells #[.slice a1 len1 cap1] 25) (.slice a2 len2 cap2) 25
  replace N2 := N2.keep HB
  go_enter Tryz.func4, Tryz.ntmps4
  go_wp2_with fail
  generalize ((w.alloc (.cells #[.slice a0 len0 cap0] 25)).alloc (.cells #[.slice a1 len1 cap1] 25)).alloc (.cells #[.slice a2 len2 cap2] 25) = u0 at *
  refine (knownD u0).mono ?_
  rintro e u1 ⟨rfl, hB⟩
  replace N0 := N0.keep hB
  replace P0 := P0.keep hB
  replace N1 := N1.keep hB
  replace P1 := P1.keep hB
  replace N2 := N2.keep hB
  replace P2 := P2.keep hB
  replace c_P0 := P0.cell
  replace c_P1 := P1.cell
  replace c_P2 := P2.cell
  replace HB := joinB HB hB
  clear hB
  have b1 := below_alloc u1 (.cells #[.slice a0 len0 cap0, .slice a1 len1 cap1, .slice a2 len2 cap2] 25)
  have tS := smallD_any [(a0, len0, cap0), (a1, len1, cap1), (a2, len2, cap2)] u1.heap.size 3 3 (u1.alloc (.cells #[.slice a0 len0 cap0, .slice a1 len1 cap1, .slice a2 len2 cap2] 25)) rfl (by decide)
    (fun i => by
      match i with
      | 0 => exact hm0
      | 1 => exact hm1
      | 2 => exact hm2
      | _ + 3 => exact Nat.zero_le _)
    (fun i hi => by
      rw [cell_new]
      match i, hi with
      | 0, _ => rfl
      | 1, _ => rfl
      | 2, _ => rfl)
  go_wp2_with fail
  refine tS.mono ?_
  rintro e u2 ⟨rfl, rfl⟩
  clear tS
  replace N0 := N0.keep b1
  replace P0 := P0.keep b1
  replace N1 := N1.keep b1
  replace P1 := P1.keep b1
  replace N2 := N2.keep b1
  replace P2 := P2.keep b1
  replace c_P0 := P0.cell
  replace c_P1 := P1.cell
  replace c_P2 := P2.cell
  replace HB := joinB HB b1
  clear b1
  generalize u1.alloc (.cells #[.slice a0 len0 cap0, .slice a1 len1 cap1, .slice a2 len2 cap2] 25) = u2 at *
  generalize u1.heap.size = gs at *
  by_cases hsm : smallD [(a0, len0, cap0), (a1, len1, cap1), (a2, len2, cap2)] = true
  rotate_left
  · have hsf : smallD [(a0, len0, cap0), (a1, len1, cap1), (a2, len2, cap2)] = false := by rw [Bool.not_eq_true] at hsm; exact hsm
    rw [hsf]
    go_wp2
    go_ret
    exact ⟨rfl, HB⟩
  rw [hsm]
  simp only [smallD, List.all_cons, List.all_nil, Bool.and_true, Bool.and_eq_true, decide_eq_true_eq] at hsm
  obtain ⟨hs0, hs1, hs2⟩ := hsm
  rcases Int.lt_trichotomy (val l0) (val l1) with hc | hc | hc
  · have hc := (show Hid _ from hc)
    have tC := dCmp N0 N1 (by omega) (by omega)
    rw [sgn_lt hc.out] at tC
    go_wp2_with fail
    refine (tC).mono ?_
    rintro e x1 ⟨rfl, hB⟩
    replace N0 := N0.keep hB
    replace P0 := P0.keep hB
    replace N1 := N1.keep hB
    replace P1 := P1.keep hB
    replace N2 := N2.keep hB
    replace P2 := P2.keep hB
    replace c_P0 := P0.cell
    replace c_P1 := P1.cell
    replace c_P2 := P2.cell
    replace HB := joinB HB hB
    clear hB
    clear tC
    go_wp2_with fail
    refine (dSubLt N0 N1 (by omega) (by omega) hc.out).mono ?_
    rintro e x2 ⟨rfl, hB⟩
    replace N0 := N0.keep hB
    replace P0 := P0.keep hB
    replace N1 := N1.keep hB
    replace P1 := P1.keep hB
    replace N2 := N2.keep hB
    replace P2 := P2.keep hB
    replace c_P0 := P0.cell
    replace c_P1 := P1.cell
    replace c_P2 := P2.cell
    replace HB := joinB HB hB
    clear hB
    have BA := below_alloc x2 (.cells #[.slice none 0 0] 25)
    have Pd := slot_new x2 (.slice none 0 0) 25
    replace N0 := N0.keep BA
    replace P0 := P0.keep BA
    replace N1 := N1.keep BA
    replace P1 := P1.keep BA
    replace N2 := N2.keep BA
    replace P2 := P2.keep BA
    replace c_P0 := P0.cell
    replace c_P1 := P1.cell
    replace c_P2 := P2.cell
    replace HB := joinB HB BA
    clear BA
    replace c_Pd := Pd.cell
    go_wp2_with fail
    generalize x2.alloc (.cells #[.slice none 0 0] 25) = xx2 at *
    generalize x2.heap.size = gd at *
    go_wp2_with fail
    refine rg_start (S := fun w' => Below xx2.drew.heap.size xx2.drew w') (by kernel_rfl) (Below.refl _ _) ?_
    replace N0 := N0.drew
    replace P0 := P0.drew
    replace N1 := N1.drew
    replace P1 := P1.drew
    replace N2 := N2.drew
    replace P2 := P2.drew
    replace Pd := Pd.drew
    replace HB := HB.drew
    have UP0 := P0
    have UP1 := P1
    have UP2 := P2
    have UPd := Pd
    clear c_P0
    clear c_P1
    clear c_P2
    clear c_Pd
    have hS := Below.refl xx2.drew.heap.size xx2.drew
    refine rg_take 0 (some 30) (.int .i64 (-1)) (by kernel_rfl) (fun _ _ => by kernel_rfl) (fun _ _ _ h => h) hS ?_
    refine rg_load 1 (some 31) (.agg #[.slice a1 len1 cap1]) 25 5 (w.heap.size + 1) 0 (by kernel_rfl) (by kernel_rfl) (by kernel_rfl) (fun _ hb => load_dec (UP1.keep hb)) (fun _ _ _ h => h) hS ?_
    refine rg_load 2 (some 32) (.agg #[.slice a0 len0 cap0]) 25 4 (w.heap.size) 0 (by kernel_rfl) (by kernel_rfl) (by kernel_rfl) (fun _ hb => load_dec (UP0.keep hb)) (fun _ _ _ h => h) hS ?_
    have tC := dCmp N1 N0 (by omega) (by omega)
    rw [sgn_gt hc.out] at tC
    refine rg_call 3 (some 33) 12 #[.agg #[.slice a1 len1 cap1], .agg #[.slice a0 len0 cap0]] (by kernel_rfl) (by kernel_rfl) (tC) ?_
    rintro e r7x1 ⟨rfl, hB⟩
    refine ⟨_, rfl, joinB hS hB, ?_⟩
    replace hS := joinB hS hB
    replace N0 := N0.keep hB
    replace P0 := P0.keep hB
    replace N1 := N1.keep hB
    replace P1 := P1.keep hB
    replace N2 := N2.keep hB
    replace P2 := P2.keep hB
    replace Pd := Pd.keep hB
    replace HB := joinB HB hB
    clear hB
    clear tC
    refine rg_take 4 (some 34) (.int .i64 (-1)) (by kernel_rfl) (fun _ _ => by kernel_rfl) (fun _ _ _ h => h) hS ?_
    refine rg_take 5 (some 35) (.bool false) (by kernel_rfl) (fun _ _ => by kernel_rfl) (fun _ _ _ h => h) hS ?_
    refine rg_take 6 (some 36) (.bool false) (by kernel_rfl) (fun _ _ => by kernel_rfl) (fun _ _ _ h => h) hS ?_
    refine rg_load 7 (some 37) (.agg #[.slice a0 len0 cap0]) 25 4 (w.heap.size) 0 (by kernel_rfl) (by kernel_rfl) (by kernel_rfl) (fun _ hb => load_dec (UP0.keep hb)) (fun _ _ _ h => h) hS ?_
    refine rg_load 8 (some 38) (.agg #[.slice a2 len2 cap2]) 25 6 (w.heap.size + 1 + 1) 0 (by kernel_rfl) (by kernel_rfl) (by kernel_rfl) (fun _ hb => load_dec (UP2.keep hb)) (fun _ _ _ h => h) hS ?_
    refine rg_load 10 (some 40) (.agg #[.slice a1 len1 cap1]) 25 5 (w.heap.size + 1) 0 (by kernel_rfl) (by kernel_rfl) (by kernel_rfl) (fun _ hb => load_dec (UP1.keep hb)) (fun _ _ _ h => h) hS ?_
    refine rg_load 11 (some 41) (.agg #[.slice a2 len2 cap2]) 25 6 (w.heap.size + 1 + 1) 0 (by kernel_rfl) (by kernel_rfl) (by kernel_rfl) (fun _ hb => load_dec (UP2.keep hb)) (fun _ _ _ h => h) hS ?_
    refine rg_take 14 (some 44) (.int .i64 (-1)) (by kernel_rfl) (fun _ _ => by kernel_rfl) (fun _ _ _ h => h) hS ?_
    refine rg_call 9 (some 39) 11 #[.agg #[.slice a0 len0 cap0], .agg #[.slice a2 len2 cap2]] (by kernel_rfl) (by kernel_rfl) (dAdd N0 N2 (by omega) (by omega)) ?_
    rintro e r7x2 ⟨As1, Ks1, Ds1, rfl, Os1, hks1, hB⟩
    refine ⟨_, rfl, joinB hS hB, ?_⟩
    replace hS := joinB hS hB
    replace N0 := N0.keep hB
    replace P0 := P0.keep hB
    replace N1 := N1.keep hB
    replace P1 := P1.keep hB
    replace N2 := N2.keep hB
    replace P2 := P2.keep hB
    replace Pd := Pd.keep hB
    replace HB := joinB HB hB
    clear hB
    refine rg_call 12 (some 42) 11 #[.agg #[.slice a1 len1 cap1], .agg #[.slice a2 len2 cap2]] (by kernel_rfl) (by kernel_rfl) (dAdd N1 N2 (by omega) (by omega)) ?_
    rintro e r7x3 ⟨As2, Ks2, Ds2, rfl, Os2, hks2, hB⟩
    refine ⟨_, rfl, joinB hS hB, ?_⟩
    replace hS := joinB hS hB
    replace N0 := N0.keep hB
    replace P0 := P0.keep hB
    replace N1 := N1.keep hB
    replace P1 := P1.keep hB
    replace N2 := N2.keep hB
    replace P2 := P2.keep hB
    replace Pd := Pd.keep hB
    replace Os1 := Os1.keep hB
    replace HB := joinB HB hB
    clear hB
    have tC := dCmp Os1.a Os2.a (by omega) (by omega)
    rw [sgn_lt (by have := hc.out; omega)] at tC
    refine rg_call 13 (some 43) 12 #[.agg #[.slice As1 Ks1 Ds1], .agg #[.slice As2 Ks2 Ds2]] (by kernel_rfl) (by kernel_rfl) (tC) ?_
    rintro e r7x4 ⟨rfl, hB⟩
    refine ⟨_, rfl, joinB hS hB, ?_⟩
    replace hS := joinB hS hB
    replace N0 := N0.keep hB
    replace P0 := P0.keep hB
    replace N1 := N1.keep hB
    replace P1 := P1.keep hB
    replace N2 := N2.keep hB
    replace P2 := P2.keep hB
    replace Pd := Pd.keep hB
    replace Os1 := Os1.keep hB
    replace Os2 := Os2.keep hB
    replace HB := joinB HB hB
    clear hB
    clear tC
    refine rg_take 15 (some 45) (.bool false) (by kernel_rfl) (fun _ _ => by kernel_rfl) (fun _ _ _ h => h) hS ?_
    refine rg_take 16 (some 46) (.bool false) (by kernel_rfl) (fun _ _ => by kernel_rfl) (fun _ _ _ h => h) hS ?_
    refine rg_take 17 (some 47) (.bool false) (by kernel_rfl) (fun _ _ => by kernel_rfl) (fun _ _ _ h => h) hS ?_
    refine rg_take 18 (some 48) (.int .i64 (-1)) (by kernel_rfl) (fun _ _ => by kernel_rfl) (fun _ _ _ h => h) hS ?_
    refine rg_take 19 (some 49) (.bool true) (by kernel_rfl) (fun _ _ => by kernel_rfl) (fun _ _ _ h => h) hS ?_
    refine rg_take 20 (some 50) (.int .i64 20) (by kernel_rfl) (fun _ _ => by kernel_rfl) (fun _ _ _ h => h) hS ?_
    refine rg_take 21 (some 51) (.bool true) (by kernel_rfl) (fun _ _ => by kernel_rfl) (fun _ _ _ h => h) hS ?_
    refine rg_take 22 (some 52) (.bool false) (by kernel_rfl) (fun _ _ => by kernel_rfl) (fun _ _ _ h => h) hS ?_
    refine rg_take 23 (some 53) (.bool false) (by kernel_rfl) (fun _ _ => by kernel_rfl) (fun _ _ _ h => h) hS ?_
    refine rg_take 24 (some 54) (.bool false) (by kernel_rfl) (fun _ _ => by kernel_rfl) (fun _ _ _ h => h) hS ?_
    refine rg_take 25 (some 55) (.int .i64 (-1)) (by kernel_rfl) (fun _ _ => by kernel_rfl) (fun _ _ _ h => h) hS ?_
    refine rg_take 26 (some 56) (.bool false) (by kernel_rfl) (fun _ _ => by kernel_rfl) (fun _ _ _ h => h) hS ?_
    refine rg_take 27 (some 57) (.int .i64 20) (by kernel_rfl) (fun _ _ => by kernel_rfl) (fun _ _ _ h => h) hS ?_
    refine rg_take 28 (some 58) (.bool false) (by kernel_rfl) (fun _ _ => by kernel_rfl) (fun _ _ _ h => h) hS ?_
    refine rg_take 29 (some 59) (.bool false) (by kernel_rfl) (fun _ _ => by kernel_rfl) (fun _ _ _ h => h) hS ?_
    refine rg_skip 30 (some 60) (by kernel_rfl) (fun _ _ _ h => h) hS ?_
    refine rg_skip 31 (some 61) (by kernel_rfl) (fun _ _ _ h => h) hS ?_
    refine rg_skip 32 (some 62) (by kernel_rfl) (fun _ _ _ h => h) hS ?_
    refine rg_take 33 (some 63) (.bool false) (by kernel_rfl) (fun _ _ => by kernel_rfl) (fun _ _ _ h => h) hS ?_
    refine rg_take 34 (some 64) (.bool false) (by kernel_rfl) (fun _ _ => by kernel_rfl) (fun _ _ _ h => h) hS ?_
    refine rg_take 35 (some 65) (.bool false) (by kernel_rfl) (fun _ _ => by kernel_rfl) (fun _ _ _ h => h) hS ?_
    refine rg_done (by kernel_rfl) ?_
    clear hS UP0 UP1 UP2 UPd
    try simp only [Act.put, List.setIfInBounds_toArray, List.set_cons_zero, List.set_cons_succ]
    replace c_P0 := P0.cell
    replace c_P1 := P1.cell
    replace c_P2 := P2.cell
    replace c_Pd := Pd.cell
    clear N0 P0 N1 P1 N2 P2 Pd Os1 Os2 c_P0 c_P1 c_P2 c_Pd
    go_wp2_with fail
    refine (dBasis (x := y3) (by omega) (by omega)).mono ?_
    rintro e x3 ⟨Abs, Kbs, Dbs, rfl, Obs, hkbs, hB⟩
    replace HB := joinB HB hB
    clear hB
    go_wp2_with fail
    refine (dTimes (y := 10000) Obs.a (by omega) (by decide) (by decide)).mono ?_
    rintro e x4 ⟨App, Kpp, Dpp, rfl, Opp, hkpp, hB⟩
    replace Obs := Obs.keep hB
    replace HB := joinB HB hB
    clear hB
    replace Opp := Opp.eqv (basis_parts y3)
    clear Obs
    have BA := below_alloc x4 (.cells #[.slice App Kpp Dpp] 25)
    have Ppp := slot_new x4 (.slice App Kpp Dpp) 25
    replace Opp := Opp.keep BA
    replace HB := joinB HB BA
    clear BA
    replace c_Ppp := Ppp.cell
    go_wp2_with fail
    generalize x4.alloc (.cells #[.slice App Kpp Dpp] 25) = xx4 at *
    generalize x4.heap.size = gpp at *
    go_wp2_with fail
    refine rg_start (S := fun w' => Below xx4.drew.heap.size xx4.drew w') (by kernel_rfl) (Below.refl _ _) ?_
    replace Opp := Opp.drew
    replace Ppp := Ppp.drew
    replace HB := HB.drew
    have UPpp := Ppp
    clear c_Ppp
    have hS := Below.refl xx4.drew.heap.size xx4.drew
    clear Ppp
    refine rg_load 0 (some 69) (.agg #[.slice App Kpp Dpp]) 25 12 (gpp) 0 (by kernel_rfl) (by kernel_rfl) (by kernel_rfl) (fun _ hb => load_dec (UPpp.keep hb)) (fun _ _ _ h => h) hS ?_
    refine rg_take 1 (some 70) (.int .u64 y3) (by kernel_rfl) (fun _ _ => by kernel_rfl) (fun _ _ _ h => h) hS ?_
    refine rg_call 2 (some 71) 14 #[.int .u64 y3] (by kernel_rfl) (by kernel_rfl) (dOf (x := y3) (by omega) (by omega)) ?_
    rintro e r10x1 ⟨Aq, Kq, Dq, rfl, Oq, hkq, hB⟩
    refine ⟨_, rfl, joinB hS hB, ?_⟩
    replace hS := joinB hS hB
    replace Opp := Opp.keep hB
    replace HB := joinB HB hB
    clear hB
    have tC := dCmp Opp.a Oq.a (by omega) (by omega)
    rw [sgn_eq rfl] at tC
    refine rg_call 3 (some 72) 12 #[.agg #[.slice App Kpp Dpp], .agg #[.slice Aq Kq Dq]] (by kernel_rfl) (by kernel_rfl) (tC) ?_
    rintro e r10x2 ⟨rfl, hB⟩
    refine ⟨_, rfl, joinB hS hB, ?_⟩
    replace hS := joinB hS hB
    replace Opp := Opp.keep hB
    replace Oq := Oq.keep hB
    replace HB := joinB HB hB
    clear hB
    clear tC
    refine rg_take 4 (some 73) (.bool true) (by kernel_rfl) (fun _ _ => by kernel_rfl) (fun _ _ _ h => h) hS ?_
    refine rg_take 5 (some 74) (.bool true) (by kernel_rfl) (fun _ _ => by kernel_rfl) (fun _ _ _ h => h) hS ?_
    refine rg_call 6 (some 75) 19 #[.int .u64 10000] (by kernel_rfl) (by kernel_rfl) (dBasis (x := 10000) (by decide) (by decide)) ?_
    rintro e r10x3 ⟨Am, Km, Dm, rfl, Om, hkm, hB⟩
    refine ⟨_, rfl, joinB hS hB, ?_⟩
    replace hS := joinB hS hB
    replace Opp := Opp.keep hB
    replace Oq := Oq.keep hB
    replace HB := joinB HB hB
    clear hB
    refine rg_call 7 (some 76) 14 #[.int .u64 1] (by kernel_rfl) (by kernel_rfl) (dOf (x := 1) (by decide) (by decide)) ?_
    rintro e r10x4 ⟨Af, Kf, Df, rfl, Of1, hkf, hB⟩
    refine ⟨_, rfl, joinB hS hB, ?_⟩
    replace hS := joinB hS hB
    replace Opp := Opp.keep hB
    replace Oq := Oq.keep hB
    replace Om := Om.keep hB
    replace HB := joinB HB hB
    clear hB
    have tC := dCmp Om.a Of1.a (by omega) (by omega)
    rw [sgn_eq (by decide)] at tC
    refine rg_call 8 (some 77) 12 #[.agg #[.slice Am Km Dm], .agg #[.slice Af Kf Df]] (by kernel_rfl) (by kernel_rfl) (tC) ?_
    rintro e r10x5 ⟨rfl, hB⟩
    refine ⟨_, rfl, joinB hS hB, ?_⟩
    replace hS := joinB hS hB
    replace Opp := Opp.keep hB
    replace Oq := Oq.keep hB
    replace Om := Om.keep hB
    replace Of1 := Of1.keep hB
    replace HB := joinB HB hB
    clear hB
    clear tC
    refine rg_take 9 (some 78) (.bool true) (by kernel_rfl) (fun _ _ => by kernel_rfl) (fun _ _ _ h => h) hS ?_
    refine rg_take 10 (some 79) (.bool true) (by kernel_rfl) (fun _ _ => by kernel_rfl) (fun _ _ _ h => h) hS ?_
    refine rg_take 11 (some 8) (.bool true) (by kernel_rfl) (fun _ _ => by kernel_rfl) (fun _ _ _ h => h) hS ?_
    refine rg_done (by kernel_rfl) ?_
    clear hS UPpp
    try simp only [Act.put, List.setIfInBounds_toArray, List.set_cons_zero, List.set_cons_succ]
    go_wp2
    go_ret
    exact ⟨rfl, HB⟩
  · have hc := (show Hid _ from hc)
    have tC := dCmp N0 N1 (by omega) (by omega)
    rw [sgn_eq hc.out] at tC
    go_wp2_with fail
    refine (tC).mono ?_
    rintro e x1 ⟨rfl, hB⟩
    replace N0 := N0.keep hB
    replace P0 := P0.keep hB
    replace N1 := N1.keep hB
    replace P1 := P1.keep hB
    replace N2 := N2.keep hB
    replace P2 := P2.keep hB
    replace c_P0 := P0.cell
    replace c_P1 := P1.cell
    replace c_P2 := P2.cell
    replace HB := joinB HB hB
    clear hB
    clear tC
    go_wp2_with fail
    refine (dSub N0 N1 (by omega) (by omega) (by have := hc.out; omega)).mono ?_
    rintro e x2 ⟨Ad, Kd, Dd, rfl, Od, hkd, hB⟩
    replace N0 := N0.keep hB
    replace P0 := P0.keep hB
    replace N1 := N1.keep hB
    replace P1 := P1.keep hB
    replace N2 := N2.keep hB
    replace P2 := P2.keep hB
    replace c_P0 := P0.cell
    replace c_P1 := P1.cell
    replace c_P2 := P2.cell
    replace HB := joinB HB hB
    clear hB
    have BA := below_alloc x2 (.cells #[.slice Ad Kd Dd] 25)
    have Pd := slot_new x2 (.slice Ad Kd Dd) 25
    replace N0 := N0.keep BA
    replace P0 := P0.keep BA
    replace N1 := N1.keep BA
    replace P1 := P1.keep BA
    replace N2 := N2.keep BA
    replace P2 := P2.keep BA
    replace Od := Od.keep BA
    replace c_P0 := P0.cell
    replace c_P1 := P1.cell
    replace c_P2 := P2.cell
    replace HB := joinB HB BA
    clear BA
    replace c_Pd := Pd.cell
    go_wp2_with fail
    generalize x2.alloc (.cells #[.slice Ad Kd Dd] 25) = xx2 at *
    generalize x2.heap.size = gd at *
    go_wp2_with fail
    refine rg_start (S := fun w' => Below xx2.drew.heap.size xx2.drew w') (by kernel_rfl) (Below.refl _ _) ?_
    replace N0 := N0.drew
    replace P0 := P0.drew
    replace N1 := N1.drew
    replace P1 := P1.drew
    replace N2 := N2.drew
    replace P2 := P2.drew
    replace Od := Od.drew
    replace Pd := Pd.drew
    replace HB := HB.drew
    have UP0 := P0
    have UP1 := P1
    have UP2 := P2
    have UPd := Pd
    clear c_P0
    clear c_P1
    clear c_P2
    clear c_Pd
    have hS := Below.refl xx2.drew.heap.size xx2.drew
    refine rg_take 0 (some 30) (.int .i64 0) (by kernel_rfl) (fun _ _ => by kernel_rfl) (fun _ _ _ h => h) hS ?_
    refine rg_load 1 (some 31) (.agg #[.slice a1 len1 cap1]) 25 5 (w.heap.size + 1) 0 (by kernel_rfl) (by kernel_rfl) (by kernel_rfl) (fun _ hb => load_dec (UP1.keep hb)) (fun _ _ _ h => h) hS ?_
    refine rg_load 2 (some 32) (.agg #[.slice a0 len0 cap0]) 25 4 (w.heap.size) 0 (by kernel_rfl) (by kernel_rfl) (by kernel_rfl) (fun _ hb => load_dec (UP0.keep hb)) (fun _ _ _ h => h) hS ?_
    have tC := dCmp N1 N0 (by omega) (by omega)
    rw [sgn_eq hc.out.symm] at tC
    refine rg_call 3 (some 33) 12 #[.agg #[.slice a1 len1 cap1], .agg #[.slice a0 len0 cap0]] (by kernel_rfl) (by kernel_rfl) (tC) ?_
    rintro e r7x1 ⟨rfl, hB⟩
    refine ⟨_, rfl, joinB hS hB, ?_⟩
    replace hS := joinB hS hB
    replace N0 := N0.keep hB
    replace P0 := P0.keep hB
    replace N1 := N1.keep hB
    replace P1 := P1.keep hB
    replace N2 := N2.keep hB
    replace P2 := P2.keep hB
    replace Od := Od.keep hB
    replace Pd := Pd.keep hB
    replace HB := joinB HB hB
    clear hB
    clear tC
    refine rg_take 4 (some 34) (.int .i64 0) (by kernel_rfl) (fun _ _ => by kernel_rfl) (fun _ _ _ h => h) hS ?_
    refine rg_take 5 (some 35) (.bool false) (by kernel_rfl) (fun _ _ => by kernel_rfl) (fun _ _ _ h => h) hS ?_
    refine rg_take 6 (some 36) (.bool false) (by kernel_rfl) (fun _ _ => by kernel_rfl) (fun _ _ _ h => h) hS ?_
    refine rg_load 7 (some 37) (.agg #[.slice a0 len0 cap0]) 25 4 (w.heap.size) 0 (by kernel_rfl) (by kernel_rfl) (by kernel_rfl) (fun _ hb => load_dec (UP0.keep hb)) (fun _ _ _ h => h) hS ?_
    refine rg_load 8 (some 38) (.agg #[.slice a2 len2 cap2]) 25 6 (w.heap.size + 1 + 1) 0 (by kernel_rfl) (by kernel_rfl) (by kernel_rfl) (fun _ hb => load_dec (UP2.keep hb)) (fun _ _ _ h => h) hS ?_
    refine rg_load 10 (some 40) (.agg #[.slice a1 len1 cap1]) 25 5 (w.heap.size + 1) 0 (by kernel_rfl) (by kernel_rfl) (by kernel_rfl) (fun _ hb => load_dec (UP1.keep hb)) (fun _ _ _ h => h) hS ?_
    refine rg_load 11 (some 41) (.agg #[.slice a2 len2 cap2]) 25 6 (w.heap.size + 1 + 1) 0 (by kernel_rfl) (by kernel_rfl) (by kernel_rfl) (fun _ hb => load_dec (UP2.keep hb)) (fun _ _ _ h => h) hS ?_
    refine rg_take 14 (some 44) (.int .i64 0) (by kernel_rfl) (fun _ _ => by kernel_rfl) (fun _ _ _ h => h) hS ?_
    refine rg_call 9 (some 39) 11 #[.agg #[.slice a0 len0 cap0], .agg #[.slice a2 len2 cap2]] (by kernel_rfl) (by kernel_rfl) (dAdd N0 N2 (by omega) (by omega)) ?_
    rintro e r7x2 ⟨As1, Ks1, Ds1, rfl, Os1, hks1, hB⟩
    refine ⟨_, rfl, joinB hS hB, ?_⟩
    replace hS := joinB hS hB
    replace N0 := N0.keep hB
    replace P0 := P0.keep hB
    replace N1 := N1.keep hB
    replace P1 := P1.keep hB
    replace N2 := N2.keep hB
    replace P2 := P2.keep hB
    replace Od := Od.keep hB
    replace Pd := Pd.keep hB
    replace HB := joinB HB hB
    clear hB
    refine rg_call 12 (some 42) 11 #[.agg #[.slice a1 len1 cap1], .agg #[.slice a2 len2 cap2]] (by kernel_rfl) (by kernel_rfl) (dAdd N1 N2 (by omega) (by omega)) ?_
    rintro e r7x3 ⟨As2, Ks2, Ds2, rfl, Os2, hks2, hB⟩
    refine ⟨_, rfl, joinB hS hB, ?_⟩
    replace hS := joinB hS hB
    replace N0 := N0.keep hB
    replace P0 := P0.keep hB
    replace N1 := N1.keep hB
    replace P1 := P1.keep hB
    replace N2 := N2.keep hB
    replace P2 := P2.keep hB
    replace Od := Od.keep hB
    replace Pd := Pd.keep hB
    replace Os1 := Os1.keep hB
    replace HB := joinB HB hB
    clear hB
    have tC := dCmp Os1.a Os2.a (by omega) (by omega)
    rw [sgn_eq (by have := hc.out; omega)] at tC
    refine rg_call 13 (some 43) 12 #[.agg #[.slice As1 Ks1 Ds1], .agg #[.slice As2 Ks2 Ds2]] (by kernel_rfl) (by kernel_rfl) (tC) ?_
    rintro e r7x4 ⟨rfl, hB⟩
    refine ⟨_, rfl, joinB hS hB, ?_⟩
    replace hS := joinB hS hB
    replace N0 := N0.keep hB
    replace P0 := P0.keep hB
    replace N1 := N1.keep hB
    replace P1 := P1.keep hB
    replace N2 := N2.keep hB
    replace P2 := P2.keep hB
    replace Od := Od.keep hB
    replace Pd := Pd.keep hB
    replace Os1 := Os1.keep hB
    replace Os2 := Os2.keep hB
    replace HB := joinB HB hB
    clear hB
    clear tC
    refine rg_take 15 (some 45) (.bool false) (by kernel_rfl) (fun _ _ => by kernel_rfl) (fun _ _ _ h => h) hS ?_
    refine rg_take 16 (some 46) (.bool false) (by kernel_rfl) (fun _ _ => by kernel_rfl) (fun _ _ _ h => h) hS ?_
    refine rg_take 17 (some 47) (.bool false) (by kernel_rfl) (fun _ _ => by kernel_rfl) (fun _ _ _ h => h) hS ?_
    refine rg_take 18 (some 48) (.int .i64 0) (by kernel_rfl) (fun _ _ => by kernel_rfl) (fun _ _ _ h => h) hS ?_
    refine rg_take 19 (some 49) (.bool false) (by kernel_rfl) (fun _ _ => by kernel_rfl) (fun _ _ _ h => h) hS ?_
    refine rg_take 20 (some 50) (.int .i64 0) (by kernel_rfl) (fun _ _ => by kernel_rfl) (fun _ _ _ h => h) hS ?_
    refine rg_take 21 (some 51) (.bool false) (by kernel_rfl) (fun _ _ => by kernel_rfl) (fun _ _ _ h => h) hS ?_
    refine rg_take 22 (some 52) (.bool false) (by kernel_rfl) (fun _ _ => by kernel_rfl) (fun _ _ _ h => h) hS ?_
    refine rg_take 23 (some 53) (.bool false) (by kernel_rfl) (fun _ _ => by kernel_rfl) (fun _ _ _ h => h) hS ?_
    refine rg_take 24 (some 54) (.bool false) (by kernel_rfl) (fun _ _ => by kernel_rfl) (fun _ _ _ h => h) hS ?_
    refine rg_take 25 (some 55) (.int .i64 0) (by kernel_rfl) (fun _ _ => by kernel_rfl) (fun _ _ _ h => h) hS ?_
    refine rg_take 26 (some 56) (.bool false) (by kernel_rfl) (fun _ _ => by kernel_rfl) (fun _ _ _ h => h) hS ?_
    refine rg_take 27 (some 57) (.int .i64 0) (by kernel_rfl) (fun _ _ => by kernel_rfl) (fun _ _ _ h => h) hS ?_
    refine rg_take 28 (some 58) (.bool true) (by kernel_rfl) (fun _ _ => by kernel_rfl) (fun _ _ _ h => h) hS ?_
    refine rg_take 29 (some 59) (.bool true) (by kernel_rfl) (fun _ _ => by kernel_rfl) (fun _ _ _ h => h) hS ?_
    refine rg_load 30 (some 60) (.agg #[.slice Ad Kd Dd]) 25 10 (gd) 0 (by kernel_rfl) (by kernel_rfl) (by kernel_rfl) (fun _ hb => load_dec (UPd.keep hb)) (fun _ _ _ h => h) hS ?_
    have tC := dZero Od.a (by omega)
    rw [decide_eq_true (by have := hc.out; omega)] at tC
    refine rg_call 31 (some 61) 17 #[.agg #[.slice Ad Kd Dd]] (by kernel_rfl) (by kernel_rfl) (tC) ?_
    rintro e r7x5 ⟨rfl, hB⟩
    refine ⟨_, rfl, joinB hS hB, ?_⟩
    replace hS := joinB hS hB
    replace N0 := N0.keep hB
    replace P0 := P0.keep hB
    replace N1 := N1.keep hB
    replace P1 := P1.keep hB
    replace N2 := N2.keep hB
    replace P2 := P2.keep hB
    replace Od := Od.keep hB
    replace Pd := Pd.keep hB
    replace Os1 := Os1.keep hB
    replace Os2 := Os2.keep hB
    replace HB := joinB HB hB
    clear hB
    clear tC
    refine rg_take 32 (some 62) (.bool false) (by kernel_rfl) (fun _ _ => by kernel_rfl) (fun _ _ _ h => h) hS ?_
    refine rg_take 33 (some 63) (.bool false) (by kernel_rfl) (fun _ _ => by kernel_rfl) (fun _ _ _ h => h) hS ?_
    refine rg_take 34 (some 64) (.bool false) (by kernel_rfl) (fun _ _ => by kernel_rfl) (fun _ _ _ h => h) hS ?_
    refine rg_take 35 (some 65) (.bool false) (by kernel_rfl) (fun _ _ => by kernel_rfl) (fun _ _ _ h => h) hS ?_
    refine rg_done (by kernel_rfl) ?_
    clear hS UP0 UP1 UP2 UPd
    try simp only [Act.put, List.setIfInBounds_toArray, List.set_cons_zero, List.set_cons_succ]
    replace c_P0 := P0.cell
    replace c_P1 := P1.cell
    replace c_P2 := P2.cell
    replace c_Pd := Pd.cell
    clear N0 P0 N1 P1 N2 P2 Pd Od Os1 Os2 c_P0 c_P1 c_P2 c_Pd
    go_wp2_with fail
    refine (dBasis (x := y3) (by omega) (by omega)).mono ?_
    rintro e x3 ⟨Abs, Kbs, Dbs, rfl, Obs, hkbs, hB⟩
    replace HB := joinB HB hB
    clear hB
    go_wp2_with fail
    refine (dTimes (y := 10000) Obs.a (by omega) (by decide) (by decide)).mono ?_
    rintro e x4 ⟨App, Kpp, Dpp, rfl, Opp, hkpp, hB⟩
    replace Obs := Obs.keep hB
    replace HB := joinB HB hB
    clear hB
    replace Opp := Opp.eqv (basis_parts y3)
    clear Obs
    have BA := below_alloc x4 (.cells #[.slice App Kpp Dpp] 25)
    have Ppp := slot_new x4 (.slice App Kpp Dpp) 25
    replace Opp := Opp.keep BA
    replace HB := joinB HB BA
    clear BA
    replace c_Ppp := Ppp.cell
    go_wp2_with fail
    generalize x4.alloc (.cells #[.slice App Kpp Dpp] 25) = xx4 at *
    generalize x4.heap.size = gpp at *
    go_wp2_with fail
    refine rg_start (S := fun w' => Below xx4.drew.heap.size xx4.drew w') (by kernel_rfl) (Below.refl _ _) ?_
    replace Opp := Opp.drew
    replace Ppp := Ppp.drew
    replace HB := HB.drew
    have UPpp := Ppp
    clear c_Ppp
    have hS := Below.refl xx4.drew.heap.size xx4.drew
    clear Ppp
    refine rg_load 0 (some 69) (.agg #[.slice App Kpp Dpp]) 25 12 (gpp) 0 (by kernel_rfl) (by kernel_rfl) (by kernel_rfl) (fun _ hb => load_dec (UPpp.keep hb)) (fun _ _ _ h => h) hS ?_
    refine rg_take 1 (some 70) (.int .u64 y3) (by kernel_rfl) (fun _ _ => by kernel_rfl) (fun _ _ _ h => h) hS ?_
    refine rg_call 2 (some 71) 14 #[.int .u64 y3] (by kernel_rfl) (by kernel_rfl) (dOf (x := y3) (by omega) (by omega)) ?_
    rintro e r10x1 ⟨Aq, Kq, Dq, rfl, Oq, hkq, hB⟩
    refine ⟨_, rfl, joinB hS hB, ?_⟩
    replace hS := joinB hS hB
    replace Opp := Opp.keep hB
    replace HB := joinB HB hB
    clear hB
    have tC := dCmp Opp.a Oq.a (by omega) (by omega)
    rw [sgn_eq rfl] at tC
    refine rg_call 3 (some 72) 12 #[.agg #[.slice App Kpp Dpp], .agg #[.slice Aq Kq Dq]] (by kernel_rfl) (by kernel_rfl) (tC) ?_
    rintro e r10x2 ⟨rfl, hB⟩
    refine ⟨_, rfl, joinB hS hB, ?_⟩
    replace hS := joinB hS hB
    replace Opp := Opp.keep hB
    replace Oq := Oq.keep hB
    replace HB := joinB HB hB
    clear hB
    clear tC
    refine rg_take 4 (some 73) (.bool true) (by kernel_rfl) (fun _ _ => by kernel_rfl) (fun _ _ _ h => h) hS ?_
    refine rg_take 5 (some 74) (.bool true) (by kernel_rfl) (fun _ _ => by kernel_rfl) (fun _ _ _ h => h) hS ?_
    refine rg_call 6 (some 75) 19 #[.int .u64 10000] (by kernel_rfl) (by kernel_rfl) (dBasis (x := 10000) (by decide) (by decide)) ?_
    rintro e r10x3 ⟨Am, Km, Dm, rfl, Om, hkm, hB⟩
    refine ⟨_, rfl, joinB hS hB, ?_⟩
    replace hS := joinB hS hB
    replace Opp := Opp.keep hB
    replace Oq := Oq.keep hB
    replace HB := joinB HB hB
    clear hB
    refine rg_call 7 (some 76) 14 #[.int .u64 1] (by kernel_rfl) (by kernel_rfl) (dOf (x := 1) (by decide) (by decide)) ?_
    rintro e r10x4 ⟨Af, Kf, Df, rfl, Of1, hkf, hB⟩
    refine ⟨_, rfl, joinB hS hB, ?_⟩
    replace hS := joinB hS hB
    replace Opp := Opp.keep hB
    replace Oq := Oq.keep hB
    replace Om := Om.keep hB
    replace HB := joinB HB hB
    clear hB
    have tC := dCmp Om.a Of1.a (by omega) (by omega)
    rw [sgn_eq (by decide)] at tC
    refine rg_call 8 (some 77) 12 #[.agg #[.slice Am Km Dm], .agg #[.slice Af Kf Df]] (by kernel_rfl) (by kernel_rfl) (tC) ?_
    rintro e r10x5 ⟨rfl, hB⟩
    refine ⟨_, rfl, joinB hS hB, ?_⟩
    replace hS := joinB hS hB
    replace Opp := Opp.keep hB
    replace Oq := Oq.keep hB
    replace Om := Om.keep hB
    replace Of1 := Of1.keep hB
    replace HB := joinB HB hB
    clear hB
    clear tC
    refine rg_take 9 (some 78) (.bool true) (by kernel_rfl) (fun _ _ => by kernel_rfl) (fun _ _ _ h => h) hS ?_
    refine rg_take 10 (some 79) (.bool true) (by kernel_rfl) (fun _ _ => by kernel_rfl) (fun _ _ _ h => h) hS ?_
    refine rg_take 11 (some 8) (.bool true) (by kernel_rfl) (fun _ _ => by kernel_rfl) (fun _ _ _ h => h) hS ?_
    refine rg_done (by kernel_rfl) ?_
    clear hS UPpp
    try simp only [Act.put, List.setIfInBounds_toArray, List.set_cons_zero, List.set_cons_succ]
    go_wp2
    go_ret
    exact ⟨rfl, HB⟩
  · have hc := (show Hid _ from hc)
    have tC := dCmp N0 N1 (by omega) (by omega)
    rw [sgn_gt hc.out] at tC
    go_wp2_with fail
    refine (tC).mono ?_
    rintro e x1 ⟨rfl, hB⟩
    replace N0 := N0.keep hB
    replace P0 := P0.keep hB
    replace N1 := N1.keep hB
    replace P1 := P1.keep hB
    replace N2 := N2.keep hB
    replace P2 := P2.keep hB
    replace c_P0 := P0.cell
    replace c_P1 := P1.cell
    replace c_P2 := P2.cell
    replace HB := joinB HB hB
    clear hB
    clear tC
    go_wp2_with fail
    refine (dSub N0 N1 (by omega) (by omega) (by have := hc.out; omega)).mono ?_
    rintro e x2 ⟨Ad, Kd, Dd, rfl, Od, hkd, hB⟩
    replace N0 := N0.keep hB
    replace P0 := P0.keep hB
    replace N1 := N1.keep hB
    replace P1 := P1.keep hB
    replace N2 := N2.keep hB
    replace P2 := P2.keep hB
    replace c_P0 := P0.cell
    replace c_P1 := P1.cell
    replace c_P2 := P2.cell
    replace HB := joinB HB hB
    clear hB
    have BA := below_alloc x2 (.cells #[.slice Ad Kd Dd] 25)
    have Pd := slot_new x2 (.slice Ad Kd Dd) 25
    replace N0 := N0.keep BA
    replace P0 := P0.keep BA
    replace N1 := N1.keep BA
    replace P1 := P1.keep BA
    replace N2 := N2.keep BA
    replace P2 := P2.keep BA
    replace Od := Od.keep BA
    replace c_P0 := P0.cell
    replace c_P1 := P1.cell
    replace c_P2 := P2.cell
    replace HB := joinB HB BA
    clear BA
    replace c_Pd := Pd.cell
    go_wp2_with fail
    generalize x2.alloc (.cells #[.slice Ad Kd Dd] 25) = xx2 at *
    generalize x2.heap.size = gd at *
    go_wp2_with fail
    refine rg_start (S := fun w' => Below xx2.drew.heap.size xx2.drew w') (by kernel_rfl) (Below.refl _ _) ?_
    replace N0 := N0.drew
    replace P0 := P0.drew
    replace N1 := N1.drew
    replace P1 := P1.drew
    replace N2 := N2.drew
    replace P2 := P2.drew
    replace Od := Od.drew
    replace Pd := Pd.drew
    replace HB := HB.drew
    have UP0 := P0
    have UP1 := P1
    have UP2 := P2
    have UPd := Pd
    clear c_P0
    clear c_P1
    clear c_P2
    clear c_Pd
    have hS := Below.refl xx2.drew.heap.size xx2.drew
    refine rg_take 0 (some 30) (.int .i64 1) (by kernel_rfl) (fun _ _ => by kernel_rfl) (fun _ _ _ h => h) hS ?_
    refine rg_load 1 (some 31) (.agg #[.slice a1 len1 cap1]) 25 5 (w.heap.size + 1) 0 (by kernel_rfl) (by kernel_rfl) (by kernel_rfl) (fun _ hb => load_dec (UP1.keep hb)) (fun _ _ _ h => h) hS ?_
    refine rg_load 2 (some 32) (.agg #[.slice a0 len0 cap0]) 25 4 (w.heap.size) 0 (by kernel_rfl) (by kernel_rfl) (by kernel_rfl) (fun _ hb => load_dec (UP0.keep hb)) (fun _ _ _ h => h) hS ?_
    have tC := dCmp N1 N0 (by omega) (by omega)
    rw [sgn_lt hc.out] at tC
    refine rg_call 3 (some 33) 12 #[.agg #[.slice a1 len1 cap1], .agg #[.slice a0 len0 cap0]] (by kernel_rfl) (by kernel_rfl) (tC) ?_
    rintro e r7x1 ⟨rfl, hB⟩
    refine ⟨_, rfl, joinB hS hB, ?_⟩
    replace hS := joinB hS hB
    replace N0 := N0.keep hB
    replace P0 := P0.keep hB
    replace N1 := N1.keep hB
    replace P1 := P1.keep hB
    replace N2 := N2.keep hB
    replace P2 := P2.keep hB
    replace Od := Od.keep hB
    replace Pd := Pd.keep hB
    replace HB := joinB HB hB
    clear hB
    clear tC
    refine rg_take 4 (some 34) (.int .i64 (1)) (by kernel_rfl) (fun _ _ => by kernel_rfl) (fun _ _ _ h => h) hS ?_
    refine rg_take 5 (some 35) (.bool false) (by kernel_rfl) (fun _ _ => by kernel_rfl) (fun _ _ _ h => h) hS ?_
    refine rg_take 6 (some 36) (.bool false) (by kernel_rfl) (fun _ _ => by kernel_rfl) (fun _ _ _ h => h) hS ?_
    refine rg_load 7 (some 37) (.agg #[.slice a0 len0 cap0]) 25 4 (w.heap.size) 0 (by kernel_rfl) (by kernel_rfl) (by kernel_rfl) (fun _ hb => load_dec (UP0.keep hb)) (fun _ _ _ h => h) hS ?_
    refine rg_load 8 (some 38) (.agg #[.slice a2 len2 cap2]) 25 6 (w.heap.size + 1 + 1) 0 (by kernel_rfl) (by kernel_rfl) (by kernel_rfl) (fun _ hb => load_dec (UP2.keep hb)) (fun _ _ _ h => h) hS ?_
    refine rg_load 10 (some 40) (.agg #[.slice a1 len1 cap1]) 25 5 (w.heap.size + 1) 0 (by kernel_rfl) (by kernel_rfl) (by kernel_rfl) (fun _ hb => load_dec (UP1.keep hb)) (fun _ _ _ h => h) hS ?_
    refine rg_load 11 (some 41) (.agg #[.slice a2 len2 cap2]) 25 6 (w.heap.size + 1 + 1) 0 (by kernel_rfl) (by kernel_rfl) (by kernel_rfl) (fun _ hb => load_dec (UP2.keep hb)) (fun _ _ _ h => h) hS ?_
    refine rg_take 14 (some 44) (.int .i64 1) (by kernel_rfl) (fun _ _ => by kernel_rfl) (fun _ _ _ h => h) hS ?_
    refine rg_call 9 (some 39) 11 #[.agg #[.slice a0 len0 cap0], .agg #[.slice a2 len2 cap2]] (by kernel_rfl) (by kernel_rfl) (dAdd N0 N2 (by omega) (by omega)) ?_
    rintro e r7x2 ⟨As1, Ks1, Ds1, rfl, Os1, hks1, hB⟩
    refine ⟨_, rfl, joinB hS hB, ?_⟩
    replace hS := joinB hS hB
    replace N0 := N0.keep hB
    replace P0 := P0.keep hB
    replace N1 := N1.keep hB
    replace P1 := P1.keep hB
    replace N2 := N2.keep hB
    replace P2 := P2.keep hB
    replace Od := Od.keep hB
    replace Pd := Pd.keep hB
    replace HB := joinB HB hB
    clear hB
    refine rg_call 12 (some 42) 11 #[.agg #[.slice a1 len1 cap1], .agg #[.slice a2 len2 cap2]] (by kernel_rfl) (by kernel_rfl) (dAdd N1 N2 (by omega) (by omega)) ?_
    rintro e r7x3 ⟨As2, Ks2, Ds2, rfl, Os2, hks2, hB⟩
    refine ⟨_, rfl, joinB hS hB, ?_⟩
    replace hS := joinB hS hB
    replace N0 := N0.keep hB
    replace P0 := P0.keep hB
    replace N1 := N1.keep hB
    replace P1 := P1.keep hB
    replace N2 := N2.keep hB
    replace P2 := P2.keep hB
    replace Od := Od.keep hB
    replace Pd := Pd.keep hB
    replace Os1 := Os1.keep hB
    replace HB := joinB HB hB
    clear hB
    have tC := dCmp Os1.a Os2.a (by omega) (by omega)
    rw [sgn_gt (by have := hc.out; omega)] at tC
    refine rg_call 13 (some 43) 12 #[.agg #[.slice As1 Ks1 Ds1], .agg #[.slice As2 Ks2 Ds2]] (by kernel_rfl) (by kernel_rfl) (tC) ?_
    rintro e r7x4 ⟨rfl, hB⟩
    refine ⟨_, rfl, joinB hS hB, ?_⟩
    replace hS := joinB hS hB
    replace N0 := N0.keep hB
    replace P0 := P0.keep hB
    replace N1 := N1.keep hB
    replace P1 := P1.keep hB
    replace N2 := N2.keep hB
    replace P2 := P2.keep hB
    replace Od := Od.keep hB
    replace Pd := Pd.keep hB
    replace Os1 := Os1.keep hB
    replace Os2 := Os2.keep hB
    replace HB := joinB HB hB
    clear hB
    clear tC
    refine rg_take 15 (some 45) (.bool false) (by kernel_rfl) (fun _ _ => by kernel_rfl) (fun _ _ _ h => h) hS ?_
    refine rg_take 16 (some 46) (.bool false) (by kernel_rfl) (fun _ _ => by kernel_rfl) (fun _ _ _ h => h) hS ?_
    refine rg_take 17 (some 47) (.bool false) (by kernel_rfl) (fun _ _ => by kernel_rfl) (fun _ _ _ h => h) hS ?_
    refine rg_take 18 (some 48) (.int .i64 1) (by kernel_rfl) (fun _ _ => by kernel_rfl) (fun _ _ _ h => h) hS ?_
    refine rg_take 19 (some 49) (.bool false) (by kernel_rfl) (fun _ _ => by kernel_rfl) (fun _ _ _ h => h) hS ?_
    refine rg_take 20 (some 50) (.int .i64 0) (by kernel_rfl) (fun _ _ => by kernel_rfl) (fun _ _ _ h => h) hS ?_
    refine rg_take 21 (some 51) (.bool false) (by kernel_rfl) (fun _ _ => by kernel_rfl) (fun _ _ _ h => h) hS ?_
    refine rg_take 22 (some 52) (.bool false) (by kernel_rfl) (fun _ _ => by kernel_rfl) (fun _ _ _ h => h) hS ?_
    refine rg_take 23 (some 53) (.bool false) (by kernel_rfl) (fun _ _ => by kernel_rfl) (fun _ _ _ h => h) hS ?_
    refine rg_take 24 (some 54) (.bool false) (by kernel_rfl) (fun _ _ => by kernel_rfl) (fun _ _ _ h => h) hS ?_
    refine rg_take 25 (some 55) (.int .i64 1) (by kernel_rfl) (fun _ _ => by kernel_rfl) (fun _ _ _ h => h) hS ?_
    refine rg_take 26 (some 56) (.bool true) (by kernel_rfl) (fun _ _ => by kernel_rfl) (fun _ _ _ h => h) hS ?_
    refine rg_take 27 (some 57) (.int .i64 0) (by kernel_rfl) (fun _ _ => by kernel_rfl) (fun _ _ _ h => h) hS ?_
    refine rg_take 28 (some 58) (.bool true) (by kernel_rfl) (fun _ _ => by kernel_rfl) (fun _ _ _ h => h) hS ?_
    refine rg_take 29 (some 59) (.bool true) (by kernel_rfl) (fun _ _ => by kernel_rfl) (fun _ _ _ h => h) hS ?_
    refine rg_load 30 (some 60) (.agg #[.slice Ad Kd Dd]) 25 10 (gd) 0 (by kernel_rfl) (by kernel_rfl) (by kernel_rfl) (fun _ hb => load_dec (UPd.keep hb)) (fun _ _ _ h => h) hS ?_
    have tC := dZero Od.a (by omega)
    rw [decide_eq_false (by have := hc.out; omega)] at tC
    refine rg_call 31 (some 61) 17 #[.agg #[.slice Ad Kd Dd]] (by kernel_rfl) (by kernel_rfl) (tC) ?_
    rintro e r7x5 ⟨rfl, hB⟩
    refine ⟨_, rfl, joinB hS hB, ?_⟩
    replace hS := joinB hS hB
    replace N0 := N0.keep hB
    replace P0 := P0.keep hB
    replace N1 := N1.keep hB
    replace P1 := P1.keep hB
    replace N2 := N2.keep hB
    replace P2 := P2.keep hB
    replace Od := Od.keep hB
    replace Pd := Pd.keep hB
    replace Os1 := Os1.keep hB
    replace Os2 := Os2.keep hB
    replace HB := joinB HB hB
    clear hB
    clear tC
    refine rg_take 32 (some 62) (.bool true) (by kernel_rfl) (fun _ _ => by kernel_rfl) (fun _ _ _ h => h) hS ?_
    refine rg_take 33 (some 63) (.bool true) (by kernel_rfl) (fun _ _ => by kernel_rfl) (fun _ _ _ h => h) hS ?_
    refine rg_take 34 (some 64) (.bool false) (by kernel_rfl) (fun _ _ => by kernel_rfl) (fun _ _ _ h => h) hS ?_
    refine rg_take 35 (some 65) (.bool false) (by kernel_rfl) (fun _ _ => by kernel_rfl) (fun _ _ _ h => h) hS ?_
    refine rg_done (by kernel_rfl) ?_
    clear hS UP0 UP1 UP2 UPd
    try simp only [Act.put, List.setIfInBounds_toArray, List.set_cons_zero, List.set_cons_succ]
    replace c_P0 := P0.cell
    replace c_P1 := P1.cell
    replace c_P2 := P2.cell
    replace c_Pd := Pd.cell
    clear N0 P0 N1 P1 N2 P2 Pd Od Os1 Os2 c_P0 c_P1 c_P2 c_Pd
    go_wp2_with fail
    refine (dBasis (x := y3) (by omega) (by omega)).mono ?_
    rintro e x3 ⟨Abs, Kbs, Dbs, rfl, Obs, hkbs, hB⟩
    replace HB := joinB HB hB
    clear hB
    go_wp2_with fail
    refine (dTimes (y := 10000) Obs.a (by omega) (by decide) (by decide)).mono ?_
    rintro e x4 ⟨App, Kpp, Dpp, rfl, Opp, hkpp, hB⟩
    replace Obs := Obs.keep hB
    replace HB := joinB HB hB
    clear hB
    replace Opp := Opp.eqv (basis_parts y3)
    clear Obs
    have BA := below_alloc x4 (.cells #[.slice App Kpp Dpp] 25)
    have Ppp := slot_new x4 (.slice App Kpp Dpp) 25
    replace Opp := Opp.keep BA
    replace HB := joinB HB BA
    clear BA
    replace c_Ppp := Ppp.cell
    go_wp2_with fail
    generalize x4.alloc (.cells #[.slice App Kpp Dpp] 25) = xx4 at *
    generalize x4.heap.size = gpp at *
    go_wp2_with fail
    refine rg_start (S := fun w' => Below xx4.drew.heap.size xx4.drew w') (by kernel_rfl) (Below.refl _ _) ?_
    replace Opp := Opp.drew
    replace Ppp := Ppp.drew
    replace HB := HB.drew
    have UPpp := Ppp
    clear c_Ppp
    have hS := Below.refl xx4.drew.heap.size xx4.drew
    clear Ppp
    refine rg_load 0 (some 69) (.agg #[.slice App Kpp Dpp]) 25 12 (gpp) 0 (by kernel_rfl) (by kernel_rfl) (by kernel_rfl) (fun _ hb => load_dec (UPpp.keep hb)) (fun _ _ _ h => h) hS ?_
    refine rg_take 1 (some 70) (.int .u64 y3) (by kernel_rfl) (fun _ _ => by kernel_rfl) (fun _ _ _ h => h) hS ?_
    refine rg_call 2 (some 71) 14 #[.int .u64 y3] (by kernel_rfl) (by kernel_rfl) (dOf (x := y3) (by omega) (by omega)) ?_
    rintro e r10x1 ⟨Aq, Kq, Dq, rfl, Oq, hkq, hB⟩
    refine ⟨_, rfl, joinB hS hB, ?_⟩
    replace hS := joinB hS hB
    replace Opp := Opp.keep hB
    replace HB := joinB HB hB
    clear hB
    have tC := dCmp Opp.a Oq.a (by omega) (by omega)
    rw [sgn_eq rfl] at tC
    refine rg_call 3 (some 72) 12 #[.agg #[.slice App Kpp Dpp], .agg #[.slice Aq Kq Dq]] (by kernel_rfl) (by kernel_rfl) (tC) ?_
    rintro e r10x2 ⟨rfl, hB⟩
    refine ⟨_, rfl, joinB hS hB, ?_⟩
    replace hS := joinB hS hB
    replace Opp := Opp.keep hB
    replace Oq := Oq.keep hB
    replace HB := joinB HB hB
    clear hB
    clear tC
    refine rg_take 4 (some 73) (.bool true) (by kernel_rfl) (fun _ _ => by kernel_rfl) (fun _ _ _ h => h) hS ?_
    refine rg_take 5 (some 74) (.bool true) (by kernel_rfl) (fun _ _ => by kernel_rfl) (fun _ _ _ h => h) hS ?_
    refine rg_call 6 (some 75) 19 #[.int .u64 10000] (by kernel_rfl) (by kernel_rfl) (dBasis (x := 10000) (by decide) (by decide)) ?_
    rintro e r10x3 ⟨Am, Km, Dm, rfl, Om, hkm, hB⟩
    refine ⟨_, rfl, joinB hS hB, ?_⟩
    replace hS := joinB hS hB
    replace Opp := Opp.keep hB
    replace Oq := Oq.keep hB
    replace HB := joinB HB hB
    clear hB
    refine rg_call 7 (some 76) 14 #[.int .u64 1] (by kernel_rfl) (by kernel_rfl) (dOf (x := 1) (by decide) (by decide)) ?_
    rintro e r10x4 ⟨Af, Kf, Df, rfl, Of1, hkf, hB⟩
    refine ⟨_, rfl, joinB hS hB, ?_⟩
    replace hS := joinB hS hB
    replace Opp := Opp.keep hB
    replace Oq := Oq.keep hB
    replace Om := Om.keep hB
    replace HB := joinB HB hB
    clear hB
    have tC := dCmp Om.a Of1.a (by omega) (by omega)
    rw [sgn_eq (by decide)] at tC
    refine rg_call 8 (some 77) 12 #[.agg #[.slice Am Km Dm], .agg #[.slice Af Kf Df]] (by kernel_rfl) (by kernel_rfl) (tC) ?_
    rintro e r10x5 ⟨rfl, hB⟩
    refine ⟨_, rfl, joinB hS hB, ?_⟩
    replace hS := joinB hS hB
    replace Opp := Opp.keep hB
    replace Oq := Oq.keep hB
    replace Om := Om.keep hB
    replace Of1 := Of1.keep hB
    replace HB := joinB HB hB
    clear hB
    clear tC
    refine rg_take 9 (some 78) (.bool true) (by kernel_rfl) (fun _ _ => by kernel_rfl) (fun _ _ _ h => h) hS ?_
    refine rg_take 10 (some 79) (.bool true) (by kernel_rfl) (fun _ _ => by kernel_rfl) (fun _ _ _ h => h) hS ?_
    refine rg_take 11 (some 8) (.bool true) (by kernel_rfl) (fun _ _ => by kernel_rfl) (fun _ _ _ h => h) hS ?_
    refine rg_done (by kernel_rfl) ?_
    clear hS UPpp
    try simp only [Act.put, List.setIfInBounds_toArray, List.set_cons_zero, List.set_cons_succ]
    go_wp2
    go_ret
    exact ⟨rfl, HB⟩
end decOrder
end Go.Proofs.YtpbiflfdfiebcacGreatDoor
