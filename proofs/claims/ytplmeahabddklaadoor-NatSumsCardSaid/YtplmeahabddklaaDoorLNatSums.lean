/- gleanlaw1.NatSums returns true for all lists of limbs. -/
import Derived.Test.YtplmeahabddklaaDoorKnown
import Derived.Test.YtplmeahabddklaaDoorSmall
import Derived.Test.YtplmeahabddklaaDoorFresh
import Derived.Test.YtplmeahabddklaaDoorRefP
import Derived.Test.YtplmeahabddklaaDoorRefBt
namespace Go.Proofs.YtplmeahabddklaaDoor
namespace natSums
open Go.RowKit Lim

set_option maxHeartbeats 8000000 in
set_option maxRecDepth 100000 in
theorem walk (a0 : Option Addr) (len0 cap0 : Nat) (z0 : List Int) (a1 : Option Addr) (len1 cap1 : Nat) (z1 : List Int) (w : World) (w0 : IsRow w a0 len0 cap0 z0) (w1 : IsRow w a1 len1 cap1 z1) :
    Calls Tryd.prog 3 #[.slice a0 len0 cap0, .slice a1 len1 cap1] w fun e w' => e = .returned (.bool true) ∧ Below w.heap.size w w' := by
  obtain ⟨b0, o0, l0, hl0, hc0, hm0, W0, h0⟩ := w0.open
  have hnil0 := (show Hid (a0 = none → cap0 = 0) from isRow_nil w0)
  obtain ⟨b1, o1, l1, hl1, hc1, hm1, W1, h1⟩ := w1.open
  have hnil1 := (show Hid (a1 = none → cap1 = 0) from isRow_nil w1)
  clear w0 w1
  go_enter Tryd.func3, Tryd.ntmps3
  go_wp2_with fail
  refine (known_any w).mono ?_
  rintro e u1 ⟨rfl, HB⟩
  have h0 := h0.keep HB
  have h1 := h1.keep HB
  have b1 := below_alloc u1 (.cells #[.slice a0 len0 cap0, .slice a1 len1 cap1] 23)
  have tS := small_any [(a0, len0, cap0), (a1, len1, cap1)] u1.heap.size 2 2 (u1.alloc (.cells #[.slice a0 len0 cap0, .slice a1 len1 cap1] 23)) rfl (by decide)
    (fun i => by
      match i with
      | 0 => exact hm0
      | 1 => exact hm1
      | _ + 2 => exact Nat.zero_le _)
    (fun i hi => by
      rw [cell_new]
      match i, hi with
      | 0, _ => rfl
      | 1, _ => rfl)
  go_wp2_with fail
  refine tS.mono ?_
  rintro e u2 ⟨rfl, rfl⟩
  clear tS
  have h0 := h0.keep b1
  have h1 := h1.keep b1
  have HB := join HB b1
  clear b1
  generalize u1.alloc (.cells #[.slice a0 len0 cap0, .slice a1 len1 cap1] 23) = u2 at *
  by_cases hsm : smallB [(a0, len0, cap0), (a1, len1, cap1)] = true
  rotate_left
  · have hsf : smallB [(a0, len0, cap0), (a1, len1, cap1)] = false := by rw [Bool.not_eq_true] at hsm; exact hsm
    rw [hsf]
    go_wp2
    go_ret
    exact ⟨rfl, HB⟩
  rw [hsm]
  simp only [smallB, List.all_cons, List.all_nil, Bool.and_true, Bool.and_eq_true, decide_eq_true_eq] at hsm
  obtain ⟨hs0, hs1⟩ := hsm
  have N0 : LimA _ a0 len0 cap0 l0 := ⟨b0, o0, hl0, hc0, W0, h0⟩
  clear h0
  have N1 : LimA _ a1 len1 cap1 l1 := ⟨b1, o1, hl1, hc1, W1, h1⟩
  clear h1
  go_wp2_with fail
  refine (lCopy N0 (by omega) hnil0.out).mono ?_
  rintro e x1 ⟨ax, dx, rfl, X0, hB⟩
  replace N0 := N0.keep hB
  replace N1 := N1.keep hB
  have hz1 := hB.size
  replace HB := joinB HB hB
  clear hB
  go_wp2_with fail
  refine (lCopy N1 (by omega) hnil1.out).mono ?_
  rintro e x2 ⟨ay, dy, rfl, X1, hB⟩
  replace N0 := N0.keep hB
  replace N1 := N1.keep hB
  replace X0 := X0.keep hB
  have hz2 := hB.size
  replace HB := joinB HB hB
  clear hB
  clear hnil0 hnil1
  go_wp2_with fail
  obtain ⟨u, hu⟩ : ∃ u, u = x2 := ⟨_, rfl⟩
  subst hu
  go_loopw [7] (fun tn wr => ∃ k : Nat, k ≤ 2 ∧ tn = .int .i64 k ∧ Below u.heap.size u wr) (fun tn _ => 2 - (intOf tn).toNat)
  case atStart => exact ⟨0, by omega, rfl, Below.refl _ _⟩
  case round =>
    obtain ⟨k, hk, rfl, HU⟩ := hrel
    replace N0 := N0.keep HU
    replace N1 := N1.keep HU
    replace X0 := X0.keep HU
    replace X1 := X1.keep HU
    have hz0 := HU.size
    by_cases hk2 : k < 2
    rotate_left
    · obtain rfl : k = 2 := by omega
      go_wp2_with fail
      refine (lSame X0 N0 (by omega) (by omega)).mono ?_
      rintro e x3 ⟨rfl, hB⟩
      replace N0 := N0.keep hB
      replace N1 := N1.keep hB
      replace X0 := X0.keep hB
      replace X1 := X1.keep hB
      have hz3 := hB.size
      replace HU := joinB HU hB
      clear hB
      go_wp2_with fail
      refine (lSame X1 N1 (by omega) (by omega)).mono ?_
      rintro e x4 ⟨rfl, hB⟩
      replace N0 := N0.keep hB
      replace N1 := N1.keep hB
      replace X0 := X0.keep hB
      replace X1 := X1.keep hB
      have hz4 := hB.size
      replace HU := joinB HU hB
      clear hB
      go_wp2
      go_ret
      exact ⟨rfl, joinB HB HU⟩
    go_wp2_with fail
    refine (fAdd X0.a X1.a (by omega) (by omega)).mono ?_
    rintro e x5 ⟨aS, kS, dS, rfl, OS, hS, hB⟩
    replace N0 := N0.keep hB
    replace N1 := N1.keep hB
    replace X0 := X0.keep hB
    replace X1 := X1.keep hB
    have hz5 := hB.size
    replace HU := joinB HU hB
    clear hB
    go_wp2_with fail
    refine (fMul X0.a X1.a (by omega) (by omega)).mono ?_
    rintro e x6 ⟨aP, kP, dP, rfl, OP, hP, hB⟩
    replace N0 := N0.keep hB
    replace N1 := N1.keep hB
    replace X0 := X0.keep hB
    replace X1 := X1.keep hB
    replace OS := OS.keep hB
    have hz6 := hB.size
    replace HU := joinB HU hB
    clear hB
    go_wp2_with fail
    refine (fNorm X0.a (by omega)).mono ?_
    rintro e x7 ⟨aM, kM, dM, rfl, OM, hM, hB⟩
    replace N0 := N0.keep hB
    replace N1 := N1.keep hB
    replace X0 := X0.keep hB
    replace X1 := X1.keep hB
    replace OS := OS.keep hB
    replace OP := OP.keep hB
    have hz7 := hB.size
    replace HU := joinB HU hB
    clear hB
    go_wp2_with fail
    refine (fSub X0.a X1.a (by omega) (by omega)).mono ?_
    rintro e x8 ⟨aD, kD, dD, rfl, OD, hD, hB⟩
    replace N0 := N0.keep hB
    replace N1 := N1.keep hB
    replace X0 := X0.keep hB
    replace X1 := X1.keep hB
    replace OS := OS.keep hB
    replace OP := OP.keep hB
    replace OM := OM.keep hB
    have hz8 := hB.size
    replace HU := joinB HU hB
    clear hB
    go_wp2_with fail
    refine (rSubV N0.a N1.a (by omega) (by omega)).mono ?_
    rintro e x9 ⟨aW, kW, dW, rfl, OW, hW, hB⟩
    replace N0 := N0.keep hB
    replace N1 := N1.keep hB
    replace X0 := X0.keep hB
    replace X1 := X1.keep hB
    replace OS := OS.keep hB
    replace OP := OP.keep hB
    replace OM := OM.keep hB
    replace OD := OD.keep hB
    have hz9 := hB.size
    replace HU := joinB HU hB
    clear hB
    go_wp2_with fail
    refine (fSmall X0.a (by omega)).mono ?_
    rintro e x10 ⟨rfl, hB⟩
    replace N0 := N0.keep hB
    replace N1 := N1.keep hB
    replace X0 := X0.keep hB
    replace X1 := X1.keep hB
    replace OS := OS.keep hB
    replace OP := OP.keep hB
    replace OM := OM.keep hB
    replace OD := OD.keep hB
    replace OW := OW.keep hB
    have hz10 := hB.size
    replace HU := joinB HU hB
    clear hB
    go_wp2_with fail
    refine (rSmallV N0.a (by omega)).mono ?_
    rintro e x11 ⟨rfl, hB⟩
    replace N0 := N0.keep hB
    replace N1 := N1.keep hB
    replace X0 := X0.keep hB
    replace X1 := X1.keep hB
    replace OS := OS.keep hB
    replace OP := OP.keep hB
    replace OM := OM.keep hB
    replace OD := OD.keep hB
    replace OW := OW.keep hB
    have hz11 := hB.size
    replace HU := joinB HU hB
    clear hB
    go_wp2_with fail
    refine (rAdd N0.a N1.a (by omega) (by omega)).mono ?_
    rintro e x12 ⟨aQ, kQ, dQ, rfl, OQ, hQ, hB⟩
    replace N0 := N0.keep hB
    replace N1 := N1.keep hB
    replace X0 := X0.keep hB
    replace X1 := X1.keep hB
    replace OS := OS.keep hB
    replace OP := OP.keep hB
    replace OM := OM.keep hB
    replace OD := OD.keep hB
    replace OW := OW.keep hB
    have hz12 := hB.size
    replace HU := joinB HU hB
    clear hB
    have tS13 := nSame OS.o OQ (by omega) (by omega)
    rw [decide_eq_true rfl] at tS13
    go_wp2_with fail
    refine (tS13).mono ?_
    rintro e x14 ⟨rfl, hB⟩
    replace N0 := N0.keep hB
    replace N1 := N1.keep hB
    replace X0 := X0.keep hB
    replace X1 := X1.keep hB
    replace OS := OS.keep hB
    replace OP := OP.keep hB
    replace OM := OM.keep hB
    replace OD := OD.keep hB
    replace OW := OW.keep hB
    replace OQ := OQ.keep hB
    have hz14 := hB.size
    replace HU := joinB HU hB
    clear hB
    clear tS13
    clear OQ
    go_wp2_with fail
    refine (rMul N0.a N1.a (by omega) (by omega)).mono ?_
    rintro e x15 ⟨aQ, kQ, dQ, rfl, OQ, hQ, hB⟩
    replace N0 := N0.keep hB
    replace N1 := N1.keep hB
    replace X0 := X0.keep hB
    replace X1 := X1.keep hB
    replace OS := OS.keep hB
    replace OP := OP.keep hB
    replace OM := OM.keep hB
    replace OD := OD.keep hB
    replace OW := OW.keep hB
    have hz15 := hB.size
    replace HU := joinB HU hB
    clear hB
    have tS16 := nSame OP.o OQ (by omega) (by omega)
    rw [decide_eq_true rfl] at tS16
    go_wp2_with fail
    refine (tS16).mono ?_
    rintro e x17 ⟨rfl, hB⟩
    replace N0 := N0.keep hB
    replace N1 := N1.keep hB
    replace X0 := X0.keep hB
    replace X1 := X1.keep hB
    replace OS := OS.keep hB
    replace OP := OP.keep hB
    replace OM := OM.keep hB
    replace OD := OD.keep hB
    replace OW := OW.keep hB
    replace OQ := OQ.keep hB
    have hz17 := hB.size
    replace HU := joinB HU hB
    clear hB
    clear tS16
    clear OQ
    go_wp2_with fail
    refine (rNorm N0.a (by omega)).mono ?_
    rintro e x18 ⟨aQ, kQ, dQ, rfl, OQ, hQ, hB⟩
    replace N0 := N0.keep hB
    replace N1 := N1.keep hB
    replace X0 := X0.keep hB
    replace X1 := X1.keep hB
    replace OS := OS.keep hB
    replace OP := OP.keep hB
    replace OM := OM.keep hB
    replace OD := OD.keep hB
    replace OW := OW.keep hB
    have hz18 := hB.size
    replace HU := joinB HU hB
    clear hB
    have tS19 := nSame OM.o OQ (by omega) (by omega)
    rw [decide_eq_true rfl] at tS19
    go_wp2_with fail
    refine (tS19).mono ?_
    rintro e x20 ⟨rfl, hB⟩
    replace N0 := N0.keep hB
    replace N1 := N1.keep hB
    replace X0 := X0.keep hB
    replace X1 := X1.keep hB
    replace OS := OS.keep hB
    replace OP := OP.keep hB
    replace OM := OM.keep hB
    replace OD := OD.keep hB
    replace OW := OW.keep hB
    replace OQ := OQ.keep hB
    have hz20 := hB.size
    replace HU := joinB HU hB
    clear hB
    clear tS19
    clear OQ
    generalize hsE : subE (val l0) (val l1) = sE at *
    generalize hsV : smV (val l0) = sV at *
    generalize hsB : smB (val l0) = sB at *
    clear hsE hsV hsB
    have tS21 := nSame OD.o OW (by omega) (by omega)
    rw [decide_eq_true rfl] at tS21
    go_wp2_with fail
    refine (tS21).mono ?_
    rintro e x22 ⟨rfl, hB⟩
    replace N0 := N0.keep hB
    replace N1 := N1.keep hB
    replace X0 := X0.keep hB
    replace X1 := X1.keep hB
    replace OS := OS.keep hB
    replace OP := OP.keep hB
    replace OM := OM.keep hB
    replace OD := OD.keep hB
    replace OW := OW.keep hB
    have hz22 := hB.size
    replace HU := joinB HU hB
    clear hB
    clear tS21
    clear OW
    have tC1 := nCmp X0.a X1.a (by omega) (by omega)
    have hsg : Hid True := trivial
    go_wp2_with fail
    refine (tC1).mono ?_
    rintro e x23 ⟨rfl, hB⟩
    replace N0 := N0.keep hB
    replace N1 := N1.keep hB
    replace X0 := X0.keep hB
    replace X1 := X1.keep hB
    replace OS := OS.keep hB
    replace OP := OP.keep hB
    replace OM := OM.keep hB
    replace OD := OD.keep hB
    have hz23 := hB.size
    replace HU := joinB HU hB
    clear hB
    clear tC1
    go_wp2_with fail
    refine (rCmp N0.a N1.a (by omega) (by omega)).mono ?_
    rintro e x24 ⟨rfl, hB⟩
    replace N0 := N0.keep hB
    replace N1 := N1.keep hB
    replace X0 := X0.keep hB
    replace X1 := X1.keep hB
    replace OS := OS.keep hB
    replace OP := OP.keep hB
    replace OM := OM.keep hB
    replace OD := OD.keep hB
    have hz24 := hB.size
    replace HU := joinB HU hB
    clear hB
    generalize sgn (val l0) (val l1) = sg at *
    go_wp2_with fail
    refine (nBits X0.a (by omega)).mono ?_
    rintro e x25 ⟨rfl, hB⟩
    replace N0 := N0.keep hB
    replace N1 := N1.keep hB
    replace X0 := X0.keep hB
    replace X1 := X1.keep hB
    replace OS := OS.keep hB
    replace OP := OP.keep hB
    replace OM := OM.keep hB
    replace OD := OD.keep hB
    have hz25 := hB.size
    replace HU := joinB HU hB
    clear hB
    go_wp2_with fail
    refine (rBits N0.a (by omega)).mono ?_
    rintro e x26 ⟨rfl, hB⟩
    replace N0 := N0.keep hB
    replace N1 := N1.keep hB
    replace X0 := X0.keep hB
    replace X1 := X1.keep hB
    replace OS := OS.keep hB
    replace OP := OP.keep hB
    replace OM := OM.keep hB
    replace OD := OD.keep hB
    have hz26 := hB.size
    replace HU := joinB HU hB
    clear hB
    generalize bitLen (val l0).toNat = bl at *
    go_wp2_with fail
    refine (lSame X0 N0 (by omega) (by omega)).mono ?_
    rintro e x27 ⟨rfl, hB⟩
    replace N0 := N0.keep hB
    replace N1 := N1.keep hB
    replace X0 := X0.keep hB
    replace X1 := X1.keep hB
    replace OS := OS.keep hB
    replace OP := OP.keep hB
    replace OM := OM.keep hB
    replace OD := OD.keep hB
    have hz27 := hB.size
    replace HU := joinB HU hB
    clear hB
    go_wp2_with fail
    refine (lSame X1 N1 (by omega) (by omega)).mono ?_
    rintro e x28 ⟨rfl, hB⟩
    replace N0 := N0.keep hB
    replace N1 := N1.keep hB
    replace X0 := X0.keep hB
    replace X1 := X1.keep hB
    replace OS := OS.keep hB
    replace OP := OP.keep hB
    replace OM := OM.keep hB
    replace OD := OD.keep hB
    have hz28 := hB.size
    replace HU := joinB HU hB
    clear hB
    go_wp2_with fail
    refine (nSpoil OS (by omega)).mono ?_
    rintro e x29 ⟨rfl, hT⟩
    replace OP := OP.turn hT (by omega)
    replace OM := OM.turn hT (by omega)
    replace OD := OD.turn hT (by omega)
    replace HU := HU.trans (hT.below (by omega))
    have hz29 := hT.size
    clear hT OS
    go_wp2_with fail
    refine (nSpoil OP (by omega)).mono ?_
    rintro e x30 ⟨rfl, hT⟩
    replace OM := OM.turn hT (by omega)
    replace OD := OD.turn hT (by omega)
    replace HU := HU.trans (hT.below (by omega))
    have hz30 := hT.size
    clear hT OP
    go_wp2_with fail
    refine (nSpoil OM (by omega)).mono ?_
    rintro e x31 ⟨rfl, hT⟩
    replace OD := OD.turn hT (by omega)
    replace HU := HU.trans (hT.below (by omega))
    have hz31 := hT.size
    clear hT OM
    go_wp2_with fail
    refine (nSpoil OD (by omega)).mono ?_
    rintro e x32 ⟨rfl, hT⟩
    replace HU := HU.trans (hT.below (by omega))
    have hz32 := hT.size
    clear hT OD
    go_wp2
    go_roundw
    case rel => exact ⟨k + 1, by omega, by go_num, HU⟩
    case measure => simp [intOf]; omega
end natSums
end Go.Proofs.YtplmeahabddklaaDoor
