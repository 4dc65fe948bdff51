/- gleanlaw2.DecSteps returns true for all decimals. -/
import Derived.Test.YtiglmhibnenhdaaGreatDoorBitD
import Derived.Test.YtiglmhibnenhdaaGreatDoorSmallD
namespace Go.Proofs.YtiglmhibnenhdaaGreatDoor
namespace decSteps
open Go.RowKit Lim

set_option maxHeartbeats 8000000 in
set_option maxRecDepth 100000 in
theorem walk (a0 : Option Addr) (len0 cap0 : Nat) (z0 : List Int) (a1 : Option Addr) (len1 cap1 : Nat) (z1 : List Int) (a2 : Option Addr) (len2 cap2 : Nat) (z2 : List Int) (w : World) (w0 : IsRow w a0 len0 cap0 z0) (w1 : IsRow w a1 len1 cap1 z1) (w2 : IsRow w a2 len2 cap2 z2) :
    Calls Tryz.prog 4 #[.agg #[.slice a0 len0 cap0], .agg #[.slice a1 len1 cap1], .agg #[.slice a2 len2 cap2]] w fun e w' => e = .returned (.bool true) ∧ Below w.heap.size w w' := by
  obtain ⟨b0, o0, l0, hl0, hc0, hm0, W0, h0⟩ := w0.open
  have N0 : NatA w a0 len0 cap0 (val l0) := ⟨b0, o0, l0, hl0, hc0, W0, h0, rfl⟩
  have v0 := val_nonneg W0
  clear h0 w0
  obtain ⟨b1, o1, l1, hl1, hc1, hm1, W1, h1⟩ := w1.open
  have N1 : NatA w a1 len1 cap1 (val l1) := ⟨b1, o1, l1, hl1, hc1, W1, h1, rfl⟩
  have v1 := val_nonneg W1
  clear h1 w1
  obtain ⟨b2, o2, l2, hl2, hc2, hm2, W2, h2⟩ := w2.open
  have N2 : NatA w a2 len2 cap2 (val l2) := ⟨b2, o2, l2, hl2, hc2, W2, h2, rfl⟩
  have v2 := val_nonneg W2
  clear h2 w2
  have HB := below3 w (.cells #[.slice a0 len0 cap0] 25) (.cells #[.slice a1 len1 cap1] 25) (.cells #[.slice a2 len2 cap2] 25)
  have P0 := ((slot_new w (.slice a0 len0 cap0) 25).alloc (.cells #[.slice a1 len1 cap1] 25)).alloc (.cells #[.slice a2 len2 cap2] 25)
  have N0 := N0.keep HB
  have P1 := (slot_last2 w (.cells #[.slice a0 len0 cap0] 25) (.slice a1 len1 cap1) 25).alloc (.cells #[.slice a2 len2 cap2] 25)
  have N1 := N1.keep HB
  have P2 := slot_last3 w (.cells #[.slice a0 len0 cap0] 25) (.cells #[.slice a1 len1 cap1] 25) (.slice a2 len2 cap2) 25
  have N2 := N2.keep HB
  go_enter Tryz.func4, Tryz.ntmps4
  go_wp2_with fail
  generalize ((w.alloc (.cells #[.slice a0 len0 cap0] 25)).alloc (.cells #[.slice a1 len1 cap1] 25)).alloc (.cells #[.slice a2 len2 cap2] 25) = u0 at *
  refine (knownD u0).mono ?_
  rintro e u1 ⟨rfl, hB⟩
  have N0 := N0.keep hB
  have P0 := P0.keep hB
  have N1 := N1.keep hB
  have P1 := P1.keep hB
  have N2 := N2.keep hB
  have P2 := P2.keep hB
  have c_P0 := P0.cell
  have c_P1 := P1.cell
  have c_P2 := P2.cell
  have HB := joinB HB hB
  clear hB
  have b1 := below_alloc u1 (.cells #[.slice a0 len0 cap0, .slice a1 len1 cap1, .slice a2 len2 cap2] 25)
  have tS := smallD_any [(a0, len0, cap0), (a1, len1, cap1), (a2, len2, cap2)] u1.heap.size 3 3 (u1.alloc (.cells #[.slice a0 len0 cap0, .slice a1 len1 cap1, .slice a2 len2 cap2] 25)) rfl (by decide)
    (fun i => by
      match i with
      | 0 => exact hm0
      | 1 => exact hm1
      | 2 => exact hm2
      | _ + 3 => exact Nat.zero_le _)
    (fun i hi => by
      rw [cell_new]
      match i, hi with
      | 0, _ => rfl
      | 1, _ => rfl
      | 2, _ => rfl)
  go_wp2_with fail
  refine tS.mono ?_
  rintro e u2 ⟨rfl, rfl⟩
  clear tS
  have N0 := N0.keep b1
  have P0 := P0.keep b1
  have N1 := N1.keep b1
  have P1 := P1.keep b1
  have N2 := N2.keep b1
  have P2 := P2.keep b1
  have c_P0 := P0.cell
  have c_P1 := P1.cell
  have c_P2 := P2.cell
  have HB := joinB HB b1
  clear b1
  generalize u1.alloc (.cells #[.slice a0 len0 cap0, .slice a1 len1 cap1, .slice a2 len2 cap2] 25) = u2 at *
  generalize u1.heap.size = gs at *
  by_cases hsm : smallD [(a0, len0, cap0), (a1, len1, cap1), (a2, len2, cap2)] = true
  rotate_left
  · have hsf : smallD [(a0, len0, cap0), (a1, len1, cap1), (a2, len2, cap2)] = false := by rw [Bool.not_eq_true] at hsm; exact hsm
    rw [hsf]
    go_wp2
    go_ret
    exact ⟨rfl, HB⟩
  rw [hsm]
  simp only [smallD, List.all_cons, List.all_nil, Bool.and_true, Bool.and_eq_true, decide_eq_true_eq] at hsm
  obtain ⟨hs0, hs1, hs2⟩ := hsm
  by_cases hz : val l2 = 0
  · have tZ := dZero N2 (by omega)
    rw [decide_eq_true hz] at tZ
    clear hz
    go_wp2_with fail
    refine (tZ).mono ?_
    rintro e x1 ⟨rfl, hB⟩
    have N0 := N0.keep hB
    have P0 := P0.keep hB
    have N1 := N1.keep hB
    have P1 := P1.keep hB
    have N2 := N2.keep hB
    have P2 := P2.keep hB
    have c_P0 := P0.cell
    have c_P1 := P1.cell
    have c_P2 := P2.cell
    have HB := joinB HB hB
    clear hB
    go_wp2
    go_ret
    exact ⟨rfl, HB⟩
  · have tZ := dZero N2 (by omega)
    rw [decide_eq_false hz] at tZ
    have hz := (show Hid _ from hz)
    go_wp2_with fail
    refine (tZ).mono ?_
    rintro e x1 ⟨rfl, hB⟩
    have N0 := N0.keep hB
    have P0 := P0.keep hB
    have N1 := N1.keep hB
    have P1 := P1.keep hB
    have N2 := N2.keep hB
    have P2 := P2.keep hB
    have c_P0 := P0.cell
    have c_P1 := P1.cell
    have c_P2 := P2.cell
    have HB := joinB HB hB
    clear hB
    clear tZ
    go_wp2_with fail
    refine (dMulDiv N0 (by omega) N1 (by omega) N2 (by omega) hz.out).mono ?_
    rintro e x2 ⟨Ao1, Ko1, Do1, rfl, Oo1, hko1, hB⟩
    have N0 := N0.keep hB
    have P0 := P0.keep hB
    have N1 := N1.keep hB
    have P1 := P1.keep hB
    have N2 := N2.keep hB
    have P2 := P2.keep hB
    have c_P0 := P0.cell
    have c_P1 := P1.cell
    have c_P2 := P2.cell
    have HB := joinB HB hB
    clear hB
    have BA := below_alloc x2 (.cells #[.slice Ao1 Ko1 Do1] 25)
    have Po1 := slot_new x2 (.slice Ao1 Ko1 Do1) 25
    have N0 := N0.keep BA
    have P0 := P0.keep BA
    have N1 := N1.keep BA
    have P1 := P1.keep BA
    have N2 := N2.keep BA
    have P2 := P2.keep BA
    have Oo1 := Oo1.keep BA
    have c_P0 := P0.cell
    have c_P1 := P1.cell
    have c_P2 := P2.cell
    have HB := joinB HB BA
    clear BA
    have c_Po1 := Po1.cell
    go_wp2_with fail
    generalize x2.alloc (.cells #[.slice Ao1 Ko1 Do1] 25) = xx2 at *
    generalize x2.heap.size = go1 at *
    go_wp2_with fail
    refine (dQuo N0 (by omega) N2 (by omega) hz.out).mono ?_
    rintro e x3 ⟨Aq, Kq, Dq, rfl, Oq, hkq, hB⟩
    have N0 := N0.keep hB
    have P0 := P0.keep hB
    have N1 := N1.keep hB
    have P1 := P1.keep hB
    have N2 := N2.keep hB
    have P2 := P2.keep hB
    have Oo1 := Oo1.keep hB
    have Po1 := Po1.keep hB
    have c_P0 := P0.cell
    have c_P1 := P1.cell
    have c_P2 := P2.cell
    have c_Po1 := Po1.cell
    have HB := joinB HB hB
    clear hB
    have BA := below_alloc x3 (.cells #[.slice Aq Kq Dq] 25)
    have Pq := slot_new x3 (.slice Aq Kq Dq) 25
    have N0 := N0.keep BA
    have P0 := P0.keep BA
    have N1 := N1.keep BA
    have P1 := P1.keep BA
    have N2 := N2.keep BA
    have P2 := P2.keep BA
    have Oo1 := Oo1.keep BA
    have Po1 := Po1.keep BA
    have Oq := Oq.keep BA
    have c_P0 := P0.cell
    have c_P1 := P1.cell
    have c_P2 := P2.cell
    have c_Po1 := Po1.cell
    have HB := joinB HB BA
    clear BA
    have c_Pq := Pq.cell
    go_wp2_with fail
    generalize x3.alloc (.cells #[.slice Aq Kq Dq] 25) = xx3 at *
    generalize x3.heap.size = gq at *
    go_wp2_with fail
    refine (dMul Oq.a (by omega) N1 (by omega)).mono ?_
    rintro e x4 ⟨At, Kt, Dt, rfl, Ot, hkt, hB⟩
    have N0 := N0.keep hB
    have P0 := P0.keep hB
    have N1 := N1.keep hB
    have P1 := P1.keep hB
    have N2 := N2.keep hB
    have P2 := P2.keep hB
    have Oo1 := Oo1.keep hB
    have Po1 := Po1.keep hB
    have Oq := Oq.keep hB
    have Pq := Pq.keep hB
    have c_P0 := P0.cell
    have c_P1 := P1.cell
    have c_P2 := P2.cell
    have c_Po1 := Po1.cell
    have c_Pq := Pq.cell
    have HB := joinB HB hB
    clear hB
    have BA := below_alloc x4 (.cells #[.slice At Kt Dt] 25)
    have Pt := slot_new x4 (.slice At Kt Dt) 25
    have N0 := N0.keep BA
    have P0 := P0.keep BA
    have N1 := N1.keep BA
    have P1 := P1.keep BA
    have N2 := N2.keep BA
    have P2 := P2.keep BA
    have Oo1 := Oo1.keep BA
    have Po1 := Po1.keep BA
    have Oq := Oq.keep BA
    have Pq := Pq.keep BA
    have Ot := Ot.keep BA
    have c_P0 := P0.cell
    have c_P1 := P1.cell
    have c_P2 := P2.cell
    have c_Po1 := Po1.cell
    have c_Pq := Pq.cell
    have HB := joinB HB BA
    clear BA
    have c_Pt := Pt.cell
    go_wp2_with fail
    generalize x4.alloc (.cells #[.slice At Kt Dt] 25) = xx4 at *
    generalize x4.heap.size = gt at *
    obtain ⟨st1, st2⟩ := steps_le v0 v1 (show 0 < val l2 by have := hz.out; omega)
    have HS2 := (show Hid _ from st2)
    have tC := dCmp Ot.a Oo1.a (by omega) (by omega)
    have hsg : sgn (val l0 * U36 / val l2 * val l1 / U36) (val l0 * val l1 / val l2) ≤ 0 := by unfold sgn; split; decide; rw [if_neg (by omega)]; decide
    clear st1 st2
    generalize sgn (val l0 * U36 / val l2 * val l1 / U36) (val l0 * val l1 / val l2) = sg at *
    go_wp2_with fail
    refine (tC).mono ?_
    rintro e x5 ⟨rfl, hB⟩
    have N0 := N0.keep hB
    have P0 := P0.keep hB
    have N1 := N1.keep hB
    have P1 := P1.keep hB
    have N2 := N2.keep hB
    have P2 := P2.keep hB
    have Oo1 := Oo1.keep hB
    have Po1 := Po1.keep hB
    have Oq := Oq.keep hB
    have Pq := Pq.keep hB
    have Ot := Ot.keep hB
    have Pt := Pt.keep hB
    have c_P0 := P0.cell
    have c_P1 := P1.cell
    have c_P2 := P2.cell
    have c_Po1 := Po1.cell
    have c_Pq := Pq.cell
    have c_Pt := Pt.cell
    have HB := joinB HB hB
    clear hB
    clear tC
    clear Oq Pq c_Pq
    go_wp2_with fail
    apply mid4 (F := fun g ea1 ek1 ed1 ea2 ek2 ed2 ea3 ek3 ed3 ea4 ek4 ed4 w' => Slot w' g (.slice ea4 ek4 ed4) 25 ∧ NatO w' ea4 ek4 ed4 (val l1 / U36 + 2) ∧ ek4 ≤ len1 + 20 ∧ NatA w' a0 len0 cap0 (val l0) ∧ Slot w' (w.heap.size) (.slice a0 len0 cap0) 25 ∧ NatA w' a1 len1 cap1 (val l1) ∧ Slot w' (w.heap.size + 1) (.slice a1 len1 cap1) 25 ∧ NatA w' a2 len2 cap2 (val l2) ∧ Slot w' (w.heap.size + 1 + 1) (.slice a2 len2 cap2) 25 ∧ NatO w' Ao1 Ko1 Do1 (val l0 * val l1 / val l2) ∧ Slot w' go1 (.slice Ao1 Ko1 Do1) 25 ∧ NatO w' At Kt Dt (val l0 * U36 / val l2 * val l1 / U36) ∧ Slot w' gt (.slice At Kt Dt) 25 ∧ Below w.heap.size w w')
    case h1 =>
      go_region_held3 (fun w' => w'.cell? ⟨w.heap.size, 0, none⟩ = some (.slice a0 len0 cap0) ∧ w'.cell? ⟨w.heap.size + 1, 0, none⟩ = some (.slice a1 len1 cap1) ∧ w'.cell? ⟨w.heap.size + 1 + 1, 0, none⟩ = some (.slice a2 len2 cap2) ∧ w'.cell? ⟨go1, 0, none⟩ = some (.slice Ao1 Ko1 Do1) ∧ w'.cell? ⟨gt, 0, none⟩ = some (.slice At Kt Dt)) (first | exact ⟨by assumption, by assumption, by assumption, by assumption, by assumption⟩ | exact ⟨(P0.alloc _).cell, (P1.alloc _).cell, (P2.alloc _).cell, (Po1.alloc _).cell, (Pt.alloc _).cell⟩ | exact ⟨(P0.alloc _).drew.cell, (P1.alloc _).drew.cell, (P2.alloc _).drew.cell, (Po1.alloc _).drew.cell, (Pt.alloc _).drew.cell⟩ | exact ⟨(P0.other (by omega) _).cell, (P1.other (by omega) _).cell, (P2.other (by omega) _).cell, (Po1.other (by omega) _).cell, (Pt.other (by omega) _).cell⟩ | go_keep)
        (first
        | (go_at_call 21; (first | (have N0 := N0.drew; have P0 := P0.drew; have N1 := N1.drew; have P1 := P1.drew; have N2 := N2.drew; have P2 := P2.drew; have Oo1 := Oo1.drew; have Po1 := Po1.drew; have Ot := Ot.drew; have Pt := Pt.drew; have HB := HB.drew; refine (atW N0 (dBit)).mono ?_) | (have Sg := slotA N0 (.slice none 0 0) 25; have l_P0 := P0.lt; have l_P1 := P1.lt; have l_P2 := P2.lt; have l_Po1 := Po1.lt; have l_Pt := Pt.lt; have N0 := N0.keep (below_alloc _ (.cells #[.slice none 0 0] 25)); have P0 := P0.keep (below_alloc _ (.cells #[.slice none 0 0] 25)); have N1 := N1.keep (below_alloc _ (.cells #[.slice none 0 0] 25)); have P1 := P1.keep (below_alloc _ (.cells #[.slice none 0 0] 25)); have N2 := N2.keep (below_alloc _ (.cells #[.slice none 0 0] 25)); have P2 := P2.keep (below_alloc _ (.cells #[.slice none 0 0] 25)); have Oo1 := Oo1.keep (below_alloc _ (.cells #[.slice none 0 0] 25)); have Po1 := Po1.keep (below_alloc _ (.cells #[.slice none 0 0] 25)); have Ot := Ot.keep (below_alloc _ (.cells #[.slice none 0 0] 25)); have Pt := Pt.keep (below_alloc _ (.cells #[.slice none 0 0] 25)); have HB := joinB HB (below_alloc _ (.cells #[.slice none 0 0] 25)); have N0 := N0.drew; have P0 := P0.drew; have N1 := N1.drew; have P1 := P1.drew; have N2 := N2.drew; have P2 := P2.drew; have Oo1 := Oo1.drew; have Po1 := Po1.drew; have Ot := Ot.drew; have Pt := Pt.drew; have HB := HB.drew; have Sg := Sg.drew; refine (atW N0 (dBit)).mono ?_)); rintro e x6 ⟨ab, kb, db, rfl, Ob, hkb, hB⟩; have N0 := N0.keep hB; have P0 := P0.keep hB; have N1 := N1.keep hB; have P1 := P1.keep hB; have N2 := N2.keep hB; have P2 := P2.keep hB; have Oo1 := Oo1.keep hB; have Po1 := Po1.keep hB; have Ot := Ot.keep hB; have Pt := Pt.keep hB; have c_P0 := P0.cell; have c_P1 := P1.cell; have c_P2 := P2.cell; have c_Po1 := Po1.cell; have c_Pt := Pt.cell; have HB := joinB HB hB; try (have Sg := Sg.keep hB); clear hB)
        | (go_at_call 20; (first | (refine (atW N0 (dMul Ob.a (by omega) N1 (by omega))).mono ?_) | (have Sg := slotA N0 (.slice none 0 0) 25; have l_P0 := P0.lt; have l_P1 := P1.lt; have l_P2 := P2.lt; have l_Po1 := Po1.lt; have l_Pt := Pt.lt; have N0 := N0.keep (below_alloc _ (.cells #[.slice none 0 0] 25)); have P0 := P0.keep (below_alloc _ (.cells #[.slice none 0 0] 25)); have N1 := N1.keep (below_alloc _ (.cells #[.slice none 0 0] 25)); have P1 := P1.keep (below_alloc _ (.cells #[.slice none 0 0] 25)); have N2 := N2.keep (below_alloc _ (.cells #[.slice none 0 0] 25)); have P2 := P2.keep (below_alloc _ (.cells #[.slice none 0 0] 25)); have Oo1 := Oo1.keep (below_alloc _ (.cells #[.slice none 0 0] 25)); have Po1 := Po1.keep (below_alloc _ (.cells #[.slice none 0 0] 25)); have Ot := Ot.keep (below_alloc _ (.cells #[.slice none 0 0] 25)); have Pt := Pt.keep (below_alloc _ (.cells #[.slice none 0 0] 25)); have Ob := Ob.keep (below_alloc _ (.cells #[.slice none 0 0] 25)); have HB := joinB HB (below_alloc _ (.cells #[.slice none 0 0] 25)); refine (atW N0 (dMul Ob.a (by omega) N1 (by omega))).mono ?_)); rintro e x7 ⟨am, km, dm, rfl, Om, hkm, hB⟩; have N0 := N0.keep hB; have P0 := P0.keep hB; have N1 := N1.keep hB; have P1 := P1.keep hB; have N2 := N2.keep hB; have P2 := P2.keep hB; have Oo1 := Oo1.keep hB; have Po1 := Po1.keep hB; have Ot := Ot.keep hB; have Pt := Pt.keep hB; have Ob := Ob.keep hB; have c_P0 := P0.cell; have c_P1 := P1.cell; have c_P2 := P2.cell; have c_Po1 := Po1.cell; have c_Pt := Pt.cell; have HB := joinB HB hB; try (have Sg := Sg.keep hB); clear hB)
        | (go_at_call 22; (first | (refine (atW N0 (nOf (x := 2) (by decide) (by decide))).mono ?_) | (have Sg := slotA N0 (.slice none 0 0) 25; have l_P0 := P0.lt; have l_P1 := P1.lt; have l_P2 := P2.lt; have l_Po1 := Po1.lt; have l_Pt := Pt.lt; have N0 := N0.keep (below_alloc _ (.cells #[.slice none 0 0] 25)); have P0 := P0.keep (below_alloc _ (.cells #[.slice none 0 0] 25)); have N1 := N1.keep (below_alloc _ (.cells #[.slice none 0 0] 25)); have P1 := P1.keep (below_alloc _ (.cells #[.slice none 0 0] 25)); have N2 := N2.keep (below_alloc _ (.cells #[.slice none 0 0] 25)); have P2 := P2.keep (below_alloc _ (.cells #[.slice none 0 0] 25)); have Oo1 := Oo1.keep (below_alloc _ (.cells #[.slice none 0 0] 25)); have Po1 := Po1.keep (below_alloc _ (.cells #[.slice none 0 0] 25)); have Ot := Ot.keep (below_alloc _ (.cells #[.slice none 0 0] 25)); have Pt := Pt.keep (below_alloc _ (.cells #[.slice none 0 0] 25)); have Ob := Ob.keep (below_alloc _ (.cells #[.slice none 0 0] 25)); have Om := Om.keep (below_alloc _ (.cells #[.slice none 0 0] 25)); have HB := joinB HB (below_alloc _ (.cells #[.slice none 0 0] 25)); refine (atW N0 (nOf (x := 2) (by decide) (by decide))).mono ?_)); rintro e x8 ⟨af, kf, df, rfl, Of2, hkf, hB⟩; have N0 := N0.keep hB; have P0 := P0.keep hB; have N1 := N1.keep hB; have P1 := P1.keep hB; have N2 := N2.keep hB; have P2 := P2.keep hB; have Oo1 := Oo1.keep hB; have Po1 := Po1.keep hB; have Ot := Ot.keep hB; have Pt := Pt.keep hB; have Ob := Ob.keep hB; have Om := Om.keep hB; have c_P0 := P0.cell; have c_P1 := P1.cell; have c_P2 := P2.cell; have c_Po1 := Po1.cell; have c_Pt := Pt.cell; have HB := joinB HB hB; try (have Sg := Sg.keep hB); clear hB)
        | (go_at_call 13; (first | (refine (atW N0 (dAdd Om.a Of2.a (by omega) (by omega))).mono ?_) | (have Sg := slotA N0 (.slice none 0 0) 25; have l_P0 := P0.lt; have l_P1 := P1.lt; have l_P2 := P2.lt; have l_Po1 := Po1.lt; have l_Pt := Pt.lt; have N0 := N0.keep (below_alloc _ (.cells #[.slice none 0 0] 25)); have P0 := P0.keep (below_alloc _ (.cells #[.slice none 0 0] 25)); have N1 := N1.keep (below_alloc _ (.cells #[.slice none 0 0] 25)); have P1 := P1.keep (below_alloc _ (.cells #[.slice none 0 0] 25)); have N2 := N2.keep (below_alloc _ (.cells #[.slice none 0 0] 25)); have P2 := P2.keep (below_alloc _ (.cells #[.slice none 0 0] 25)); have Oo1 := Oo1.keep (below_alloc _ (.cells #[.slice none 0 0] 25)); have Po1 := Po1.keep (below_alloc _ (.cells #[.slice none 0 0] 25)); have Ot := Ot.keep (below_alloc _ (.cells #[.slice none 0 0] 25)); have Pt := Pt.keep (below_alloc _ (.cells #[.slice none 0 0] 25)); have Ob := Ob.keep (below_alloc _ (.cells #[.slice none 0 0] 25)); have Om := Om.keep (below_alloc _ (.cells #[.slice none 0 0] 25)); have Of2 := Of2.keep (below_alloc _ (.cells #[.slice none 0 0] 25)); have HB := joinB HB (below_alloc _ (.cells #[.slice none 0 0] 25)); refine (atW N0 (dAdd Om.a Of2.a (by omega) (by omega))).mono ?_)); rintro e x9 ⟨aw, kw, dw, rfl, Os, hks, hB⟩; have N0 := N0.keep hB; have P0 := P0.keep hB; have N1 := N1.keep hB; have P1 := P1.keep hB; have N2 := N2.keep hB; have P2 := P2.keep hB; have Oo1 := Oo1.keep hB; have Po1 := Po1.keep hB; have Ot := Ot.keep hB; have Pt := Pt.keep hB; have Ob := Ob.keep hB; have Om := Om.keep hB; have Of2 := Of2.keep hB; have c_P0 := P0.cell; have c_P1 := P1.cell; have c_P2 := P2.cell; have c_Po1 := Po1.cell; have c_Pt := Pt.cell; have HB := joinB HB hB; try (have Sg := Sg.keep hB); clear hB; try (have cg := Sg.cell; have fg := Sg.free)))
      all_goals (
        obtain ⟨ad, _⟩ := someAddr
        obtain ⟨nd, _⟩ := someNat
        obtain ⟨nd2, _⟩ := someNat
        have Os := Os.eqv (show _ = val l1 / U36 + 2 from by rw [Int.one_mul])
        first
        | (obtain ⟨g, hg, Sh⟩ : ∃ g, g = _ ∧ Slot x9 g (.slice none 0 0) 25 := ⟨_, rfl, Sg⟩
           rw [← hg] at l_P0 l_P1 l_P2 l_Po1 l_Pt ⊢
           exact ⟨g, ab, kb, db, am, km, dm, af, kf, df, aw, kw, dw, rfl, Sh.put _, Os.put Sh not_int _, by omega, N0.put Sh not_int _, P0.other (by omega) _, N1.put Sh not_int _, P1.other (by omega) _, N2.put Sh not_int _, P2.other (by omega) _, Oo1.put Sh not_int _, Po1.other (by omega) _, Ot.put Sh not_int _, Pt.other (by omega) _, HB.setCell (p := ⟨g, 0, none⟩) (by show w.heap.size ≤ g; omega) _⟩)
        | (obtain ⟨g, hg⟩ : ∃ g, g = x9.heap.size := ⟨_, rfl⟩
           rw [← hg]
           exact ⟨g, ab, kb, db, am, km, dm, af, kf, df, aw, kw, dw, rfl, hg ▸ slot_new x9 _ _, Os.keep (below_alloc _ _), by omega, N0.keep (below_alloc _ _), P0.keep (below_alloc _ _), N1.keep (below_alloc _ _), P1.keep (below_alloc _ _), N2.keep (below_alloc _ _), P2.keep (below_alloc _ _), Oo1.keep (below_alloc _ _), Po1.keep (below_alloc _ _), Ot.keep (below_alloc _ _), Pt.keep (below_alloc _ _), joinB HB (below_alloc _ _)⟩))
    case h2 =>
      intro gr ea1 ek1 ed1 ea2 ek2 ed2 ea3 ek3 ed3 Ar Kr Dr x10 hF
      obtain ⟨Pr, Or, hkr, N0, P0, N1, P1, N2, P2, Oo1, Po1, Ot, Pt, HB⟩ := hF
      have c_P0 := P0.cell
      have c_P1 := P1.cell
      have c_P2 := P2.cell
      have c_Po1 := Po1.cell
      have c_Pt := Pt.cell
      have c_Pr := Pr.cell
      have mark0 : True := trivial
      have mark1 : True := trivial
      go_wp2_with fail
      go_region_held3 (fun w' => w'.cell? ⟨w.heap.size, 0, none⟩ = some (.slice a0 len0 cap0) ∧ w'.cell? ⟨w.heap.size + 1, 0, none⟩ = some (.slice a1 len1 cap1) ∧ w'.cell? ⟨w.heap.size + 1 + 1, 0, none⟩ = some (.slice a2 len2 cap2) ∧ w'.cell? ⟨go1, 0, none⟩ = some (.slice Ao1 Ko1 Do1) ∧ w'.cell? ⟨gt, 0, none⟩ = some (.slice At Kt Dt) ∧ w'.cell? ⟨gr, 0, none⟩ = some (.slice Ar Kr Dr)) (first | exact ⟨by assumption, by assumption, by assumption, by assumption, by assumption, by assumption⟩ | go_keep)
        (first
        | (go_at_call 13; clear mark0; have N0 := N0.drew; have P0 := P0.drew; have N1 := N1.drew; have P1 := P1.drew; have N2 := N2.drew; have P2 := P2.drew; have Oo1 := Oo1.drew; have Po1 := Po1.drew; have Ot := Ot.drew; have Pt := Pt.drew; have Pr := Pr.drew; have Or := Or.drew; have HB := HB.drew; refine (dAdd Ot.a Or.a (by omega) (by omega)).mono ?_; rintro e x11 ⟨As, Ks, Ds, rfl, Os, hks, hB⟩; have N0 := N0.keep hB; have P0 := P0.keep hB; have N1 := N1.keep hB; have P1 := P1.keep hB; have N2 := N2.keep hB; have P2 := P2.keep hB; have Oo1 := Oo1.keep hB; have Po1 := Po1.keep hB; have Ot := Ot.keep hB; have Pt := Pt.keep hB; have Pr := Pr.keep hB; have Or := Or.keep hB; have c_P0 := P0.cell; have c_P1 := P1.cell; have c_P2 := P2.cell; have c_Po1 := Po1.cell; have c_Pt := Pt.cell; have c_Pr := Pr.cell; have HB := joinB HB hB; clear hB)
        | (go_at_call 11; clear mark1; have tC := dCmp Oo1.a Os.a (by omega) (by omega); have hs2 := sgn_le HS2.out; generalize sgn (val l0 * val l1 / val l2) (val l0 * U36 / val l2 * val l1 / U36 + (val l1 / U36 + 2)) = sg2 at *; refine (tC).mono ?_; rintro e x12 ⟨rfl, hB⟩; have N0 := N0.keep hB; have P0 := P0.keep hB; have N1 := N1.keep hB; have P1 := P1.keep hB; have N2 := N2.keep hB; have P2 := P2.keep hB; have Oo1 := Oo1.keep hB; have Po1 := Po1.keep hB; have Ot := Ot.keep hB; have Pt := Pt.keep hB; have Pr := Pr.keep hB; have Or := Or.keep hB; have Os := Os.keep hB; have c_P0 := P0.cell; have c_P1 := P1.cell; have c_P2 := P2.cell; have c_Po1 := Po1.cell; have c_Pt := Pt.cell; have c_Pr := Pr.cell; have HB := joinB HB hB; clear hB))
      all_goals go_wp2
      all_goals go_ret
      all_goals exact ⟨by first | rfl | exact retB (by simp; omega), HB⟩
end decSteps
end Go.Proofs.YtiglmhibnenhdaaGreatDoor
