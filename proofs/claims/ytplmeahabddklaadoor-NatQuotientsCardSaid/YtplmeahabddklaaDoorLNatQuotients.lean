/- gleanlaw1.NatQuotients returns true for all lists of limbs. -/
import Derived.Test.YtplmeahabddklaaDoorKnown
import Derived.Test.YtplmeahabddklaaDoorSmall
import Derived.Test.YtplmeahabddklaaDoorFreshW
namespace Go.Proofs.YtplmeahabddklaaDoor
namespace natQuotients
open Go.RowKit Lim

set_option maxHeartbeats 8000000 in
set_option maxRecDepth 100000 in
theorem walk (a0 : Option Addr) (len0 cap0 : Nat) (z0 : List Int) (a1 : Option Addr) (len1 cap1 : Nat) (z1 : List Int) (a2 : Option Addr) (len2 cap2 : Nat) (z2 : List Int) (w : World) (w0 : IsRow w a0 len0 cap0 z0) (w1 : IsRow w a1 len1 cap1 z1) (w2 : IsRow w a2 len2 cap2 z2) :
    Calls Tryd.prog 7 #[.slice a0 len0 cap0, .slice a1 len1 cap1, .slice a2 len2 cap2] w fun e w' => e = .returned (.bool true) ∧ Below w.heap.size w w' := by
  obtain ⟨b0, o0, l0, hl0, hc0, hm0, W0, h0⟩ := w0.open
  have hnil0 := (show Hid (a0 = none → cap0 = 0) from isRow_nil w0)
  obtain ⟨b1, o1, l1, hl1, hc1, hm1, W1, h1⟩ := w1.open
  have hnil1 := (show Hid (a1 = none → cap1 = 0) from isRow_nil w1)
  obtain ⟨b2, o2, l2, hl2, hc2, hm2, W2, h2⟩ := w2.open
  have hnil2 := (show Hid (a2 = none → cap2 = 0) from isRow_nil w2)
  clear w0 w1 w2
  go_enter Tryd.func7, Tryd.ntmps7
  go_wp2_with fail
  refine (known_any w).mono ?_
  rintro e u1 ⟨rfl, HB⟩
  have h0 := h0.keep HB
  have h1 := h1.keep HB
  have h2 := h2.keep HB
  have b1 := below_alloc u1 (.cells #[.slice a0 len0 cap0, .slice a1 len1 cap1, .slice a2 len2 cap2] 23)
  have tS := small_any [(a0, len0, cap0), (a1, len1, cap1), (a2, len2, cap2)] u1.heap.size 3 3 (u1.alloc (.cells #[.slice a0 len0 cap0, .slice a1 len1 cap1, .slice a2 len2 cap2] 23)) rfl (by decide)
    (fun i => by
      match i with
      | 0 => exact hm0
      | 1 => exact hm1
      | 2 => exact hm2
      | _ + 3 => exact Nat.zero_le _)
    (fun i hi => by
      rw [cell_new]
      match i, hi with
      | 0, _ => rfl
      | 1, _ => rfl
      | 2, _ => rfl)
  go_wp2_with fail
  refine tS.mono ?_
  rintro e u2 ⟨rfl, rfl⟩
  clear tS
  have h0 := h0.keep b1
  have h1 := h1.keep b1
  have h2 := h2.keep b1
  have HB := join HB b1
  clear b1
  generalize u1.alloc (.cells #[.slice a0 len0 cap0, .slice a1 len1 cap1, .slice a2 len2 cap2] 23) = u2 at *
  by_cases hsm : smallB [(a0, len0, cap0), (a1, len1, cap1), (a2, len2, cap2)] = true
  rotate_left
  · have hsf : smallB [(a0, len0, cap0), (a1, len1, cap1), (a2, len2, cap2)] = false := by rw [Bool.not_eq_true] at hsm; exact hsm
    rw [hsf]
    go_wp2
    go_ret
    exact ⟨rfl, HB⟩
  rw [hsm]
  simp only [smallB, List.all_cons, List.all_nil, Bool.and_true, Bool.and_eq_true, decide_eq_true_eq] at hsm
  obtain ⟨hs0, hs1, hs2⟩ := hsm
  have N0 : LimA _ a0 len0 cap0 l0 := ⟨b0, o0, hl0, hc0, W0, h0⟩
  clear h0
  have N1 : LimA _ a1 len1 cap1 l1 := ⟨b1, o1, hl1, hc1, W1, h1⟩
  clear h1
  have N2 : LimA _ a2 len2 cap2 l2 := ⟨b2, o2, hl2, hc2, W2, h2⟩
  clear h2
  go_wp2_with fail
  refine (lCopy N0 (by omega) hnil0.out).mono ?_
  rintro e x1 ⟨ax, dx, rfl, X0, hB⟩
  replace N0 := N0.keep hB
  replace N1 := N1.keep hB
  replace N2 := N2.keep hB
  have hz1 := hB.size
  replace HB := joinB HB hB
  clear hB
  go_wp2_with fail
  refine (lCopy N1 (by omega) hnil1.out).mono ?_
  rintro e x2 ⟨ay, dy, rfl, X1, hB⟩
  replace N0 := N0.keep hB
  replace N1 := N1.keep hB
  replace N2 := N2.keep hB
  replace X0 := X0.keep hB
  have hz2 := hB.size
  replace HB := joinB HB hB
  clear hB
  go_wp2_with fail
  refine (lCopy N2 (by omega) hnil2.out).mono ?_
  rintro e x3 ⟨az, dz, rfl, X2, hB⟩
  replace N0 := N0.keep hB
  replace N1 := N1.keep hB
  replace N2 := N2.keep hB
  replace X0 := X0.keep hB
  replace X1 := X1.keep hB
  have hz3 := hB.size
  replace HB := joinB HB hB
  clear hB
  clear hnil0 hnil1 hnil2
  go_wp2_with fail
  obtain ⟨u, hu⟩ : ∃ u, u = x3 := ⟨_, rfl⟩
  subst hu
  go_loopw [10] (fun tn wr => ∃ k : Nat, k ≤ 2 ∧ tn = .int .i64 k ∧ Below u.heap.size u wr) (fun tn _ => 2 - (intOf tn).toNat)
  case atStart => exact ⟨0, by omega, rfl, Below.refl _ _⟩
  case round =>
    obtain ⟨k, hk, rfl, HU⟩ := hrel
    replace N0 := N0.keep HU
    replace N1 := N1.keep HU
    replace N2 := N2.keep HU
    replace X0 := X0.keep HU
    replace X1 := X1.keep HU
    replace X2 := X2.keep HU
    have hz0 := HU.size
    by_cases hk2 : k < 2
    rotate_left
    · obtain rfl : k = 2 := by omega
      go_wp2
      go_ret
      exact ⟨rfl, joinB HB HU⟩
    go_wp2_with fail
    refine (fDiv X0.a X1.a (by omega) (by omega)).mono ?_
    rintro e x4 ⟨aQ, kQ, dQ, aR, kR, dR, rfl, OQ, OR, hQ, hR, hB⟩
    replace N0 := N0.keep hB
    replace N1 := N1.keep hB
    replace N2 := N2.keep hB
    replace X0 := X0.keep hB
    replace X1 := X1.keep hB
    replace X2 := X2.keep hB
    have hz4 := hB.size
    replace HU := joinB HU hB
    clear hB
    go_wp2_with fail
    refine (rDivV N0.a N1.a (by omega) (by omega)).mono ?_
    rintro e x5 ⟨aT, kT, dT, aU, kU, dU, rfl, OT, OU, hT, hU, hB⟩
    replace N0 := N0.keep hB
    replace N1 := N1.keep hB
    replace N2 := N2.keep hB
    replace X0 := X0.keep hB
    replace X1 := X1.keep hB
    replace X2 := X2.keep hB
    replace OQ := OQ.keep hB
    replace OR := OR.keep hB
    have hz5 := hB.size
    replace HU := joinB HU hB
    clear hB
    generalize divE (val l1) = eA at *
    have tS6 := nSame OQ.o OT (by omega) (by omega)
    rw [decide_eq_true rfl] at tS6
    go_wp2_with fail
    refine (tS6).mono ?_
    rintro e x7 ⟨rfl, hB⟩
    replace N0 := N0.keep hB
    replace N1 := N1.keep hB
    replace N2 := N2.keep hB
    replace X0 := X0.keep hB
    replace X1 := X1.keep hB
    replace X2 := X2.keep hB
    replace OQ := OQ.keep hB
    replace OR := OR.keep hB
    replace OT := OT.keep hB
    replace OU := OU.keep hB
    have hz7 := hB.size
    replace HU := joinB HU hB
    clear hB
    clear tS6
    have tS8 := nSame OR.o OU (by omega) (by omega)
    rw [decide_eq_true rfl] at tS8
    go_wp2_with fail
    refine (tS8).mono ?_
    rintro e x9 ⟨rfl, hB⟩
    replace N0 := N0.keep hB
    replace N1 := N1.keep hB
    replace N2 := N2.keep hB
    replace X0 := X0.keep hB
    replace X1 := X1.keep hB
    replace X2 := X2.keep hB
    replace OQ := OQ.keep hB
    replace OR := OR.keep hB
    replace OT := OT.keep hB
    replace OU := OU.keep hB
    have hz9 := hB.size
    replace HU := joinB HU hB
    clear hB
    clear tS8
    have WQ := OQ.w
    have WR := OR.w
    clear OQ OR OT OU
    go_wp2_with fail
    refine (fMulDiv X0.a X1.a X2.a (by omega) (by omega) (by omega)).mono ?_
    rintro e x10 ⟨aS, kS, dS, aV, kV, dV, rfl, OS, OV, hS, hV, hB⟩
    replace N0 := N0.keep hB
    replace N1 := N1.keep hB
    replace N2 := N2.keep hB
    replace X0 := X0.keep hB
    replace X1 := X1.keep hB
    replace X2 := X2.keep hB
    replace WQ := WQ.keep hB
    replace WR := WR.keep hB
    have hz10 := hB.size
    replace HU := joinB HU hB
    clear hB
    go_wp2_with fail
    refine (rMulDivV N0.a N1.a N2.a (by omega) (by omega) (by omega)).mono ?_
    rintro e x11 ⟨aT, kT, dT, aU, kU, dU, rfl, OT, OU, hT, hU, hB⟩
    replace N0 := N0.keep hB
    replace N1 := N1.keep hB
    replace N2 := N2.keep hB
    replace X0 := X0.keep hB
    replace X1 := X1.keep hB
    replace X2 := X2.keep hB
    replace WQ := WQ.keep hB
    replace WR := WR.keep hB
    replace OS := OS.keep hB
    replace OV := OV.keep hB
    have hz11 := hB.size
    replace HU := joinB HU hB
    clear hB
    generalize divE (val l2) = eB at *
    have tS12 := nSame OS.o OT (by omega) (by omega)
    rw [decide_eq_true rfl] at tS12
    go_wp2_with fail
    refine (tS12).mono ?_
    rintro e x13 ⟨rfl, hB⟩
    replace N0 := N0.keep hB
    replace N1 := N1.keep hB
    replace N2 := N2.keep hB
    replace X0 := X0.keep hB
    replace X1 := X1.keep hB
    replace X2 := X2.keep hB
    replace WQ := WQ.keep hB
    replace WR := WR.keep hB
    replace OS := OS.keep hB
    replace OV := OV.keep hB
    replace OT := OT.keep hB
    replace OU := OU.keep hB
    have hz13 := hB.size
    replace HU := joinB HU hB
    clear hB
    clear tS12
    have tS14 := nSame OV.o OU (by omega) (by omega)
    rw [decide_eq_true rfl] at tS14
    go_wp2_with fail
    refine (tS14).mono ?_
    rintro e x15 ⟨rfl, hB⟩
    replace N0 := N0.keep hB
    replace N1 := N1.keep hB
    replace N2 := N2.keep hB
    replace X0 := X0.keep hB
    replace X1 := X1.keep hB
    replace X2 := X2.keep hB
    replace WQ := WQ.keep hB
    replace WR := WR.keep hB
    replace OS := OS.keep hB
    replace OV := OV.keep hB
    replace OT := OT.keep hB
    replace OU := OU.keep hB
    have hz15 := hB.size
    replace HU := joinB HU hB
    clear hB
    clear tS14
    have WS := OS.w
    have WV := OV.w
    clear OS OV OT OU
    go_wp2_with fail
    refine (lSame X0 N0 (by omega) (by omega)).mono ?_
    rintro e x16 ⟨rfl, hB⟩
    replace N0 := N0.keep hB
    replace N1 := N1.keep hB
    replace N2 := N2.keep hB
    replace X0 := X0.keep hB
    replace X1 := X1.keep hB
    replace X2 := X2.keep hB
    replace WQ := WQ.keep hB
    replace WR := WR.keep hB
    replace WS := WS.keep hB
    replace WV := WV.keep hB
    have hz16 := hB.size
    replace HU := joinB HU hB
    clear hB
    go_wp2_with fail
    refine (lSame X1 N1 (by omega) (by omega)).mono ?_
    rintro e x17 ⟨rfl, hB⟩
    replace N0 := N0.keep hB
    replace N1 := N1.keep hB
    replace N2 := N2.keep hB
    replace X0 := X0.keep hB
    replace X1 := X1.keep hB
    replace X2 := X2.keep hB
    replace WQ := WQ.keep hB
    replace WR := WR.keep hB
    replace WS := WS.keep hB
    replace WV := WV.keep hB
    have hz17 := hB.size
    replace HU := joinB HU hB
    clear hB
    go_wp2_with fail
    refine (lSame X2 N2 (by omega) (by omega)).mono ?_
    rintro e x18 ⟨rfl, hB⟩
    replace N0 := N0.keep hB
    replace N1 := N1.keep hB
    replace N2 := N2.keep hB
    replace X0 := X0.keep hB
    replace X1 := X1.keep hB
    replace X2 := X2.keep hB
    replace WQ := WQ.keep hB
    replace WR := WR.keep hB
    replace WS := WS.keep hB
    replace WV := WV.keep hB
    have hz18 := hB.size
    replace HU := joinB HU hB
    clear hB
    go_wp2_with fail
    refine (wSpoil WQ (by omega)).mono ?_
    rintro e x19 ⟨rfl, hT⟩
    replace WR := WR.turn hT
    replace WS := WS.turn hT
    replace WV := WV.turn hT
    replace HU := HU.trans (hT.t.below (by omega))
    clear hT WQ
    go_wp2_with fail
    refine (wSpoil WR (by omega)).mono ?_
    rintro e x20 ⟨rfl, hT⟩
    replace WS := WS.turn hT
    replace WV := WV.turn hT
    replace HU := HU.trans (hT.t.below (by omega))
    clear hT WR
    go_wp2_with fail
    refine (wSpoil WS (by omega)).mono ?_
    rintro e x21 ⟨rfl, hT⟩
    replace WV := WV.turn hT
    replace HU := HU.trans (hT.t.below (by omega))
    clear hT WS
    go_wp2_with fail
    refine (wSpoil WV (by omega)).mono ?_
    rintro e x22 ⟨rfl, hT⟩
    replace HU := HU.trans (hT.t.below (by omega))
    clear hT WV
    go_wp2
    go_roundw
    case rel => exact ⟨k + 1, by omega, by go_num, HU⟩
    case measure => simp [intOf]; omega
end natQuotients
end Go.Proofs.YtplmeahabddklaaDoor
