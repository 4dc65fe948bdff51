/- gleanlaw1.NatScaled returns true for all lists of limbs. -/
import Derived.Test.YtplmeahabddklaaDoorKnown
import Derived.Test.YtplmeahabddklaaDoorSmall
import Derived.Test.YtplmeahabddklaaDoorGcdV
namespace Go.Proofs.YtplmeahabddklaaDoor
namespace natScaled
open Go.RowKit Lim

set_option maxHeartbeats 8000000 in
set_option maxRecDepth 100000 in
theorem walk (a0 : Option Addr) (len0 cap0 : Nat) (z0 : List Int) (a1 : Option Addr) (len1 cap1 : Nat) (z1 : List Int) (a2 : Option Addr) (len2 cap2 : Nat) (z2 : List Int) (w : World) (w0 : IsRow w a0 len0 cap0 z0) (w1 : IsRow w a1 len1 cap1 z1) (w2 : IsRow w a2 len2 cap2 z2) :
    Calls Tryd.prog 5 #[.slice a0 len0 cap0, .slice a1 len1 cap1, .slice a2 len2 cap2] w fun e w' => e = .returned (.bool true) ∧ Below w.heap.size w w' := by
  obtain ⟨b0, o0, l0, hl0, hc0, hm0, W0, h0⟩ := w0.open
  obtain ⟨b1, o1, l1, hl1, hc1, hm1, W1, h1⟩ := w1.open
  obtain ⟨b2, o2, l2, hl2, hc2, hm2, W2, h2⟩ := w2.open
  clear w0 w1 w2
  go_enter Tryd.func5, Tryd.ntmps5
  go_wp2_with fail
  refine (known_any w).mono ?_
  rintro e u1 ⟨rfl, HB⟩
  have h0 := h0.keep HB
  have h1 := h1.keep HB
  have h2 := h2.keep HB
  have b1 := below_alloc u1 (.cells #[.slice a0 len0 cap0, .slice a1 len1 cap1, .slice a2 len2 cap2] 23)
  have tS := small_any [(a0, len0, cap0), (a1, len1, cap1), (a2, len2, cap2)] u1.heap.size 3 3 (u1.alloc (.cells #[.slice a0 len0 cap0, .slice a1 len1 cap1, .slice a2 len2 cap2] 23)) rfl (by decide)
    (fun i => by
      match i with
      | 0 => exact hm0
      | 1 => exact hm1
      | 2 => exact hm2
      | _ + 3 => exact Nat.zero_le _)
    (fun i hi => by
      rw [cell_new]
      match i, hi with
      | 0, _ => rfl
      | 1, _ => rfl
      | 2, _ => rfl)
  go_wp2_with fail
  refine tS.mono ?_
  rintro e u2 ⟨rfl, rfl⟩
  clear tS
  have h0 := h0.keep b1
  have h1 := h1.keep b1
  have h2 := h2.keep b1
  have HB := join HB b1
  clear b1
  generalize u1.alloc (.cells #[.slice a0 len0 cap0, .slice a1 len1 cap1, .slice a2 len2 cap2] 23) = u2 at *
  by_cases hsm : smallB [(a0, len0, cap0), (a1, len1, cap1), (a2, len2, cap2)] = true
  rotate_left
  · have hsf : smallB [(a0, len0, cap0), (a1, len1, cap1), (a2, len2, cap2)] = false := by rw [Bool.not_eq_true] at hsm; exact hsm
    rw [hsf]
    go_wp2
    go_ret
    exact ⟨rfl, HB⟩
  rw [hsm]
  simp only [smallB, List.all_cons, List.all_nil, Bool.and_true, Bool.and_eq_true, decide_eq_true_eq] at hsm
  obtain ⟨hs0, hs1, hs2⟩ := hsm
  have N0 : NatA _ a0 len0 cap0 (val l0) := ⟨b0, o0, l0, hl0, hc0, W0, h0, rfl⟩
  clear h0
  have N1 : NatA _ a1 len1 cap1 (val l1) := ⟨b1, o1, l1, hl1, hc1, W1, h1, rfl⟩
  clear h1
  have N2 : NatA _ a2 len2 cap2 (val l2) := ⟨b2, o2, l2, hl2, hc2, W2, h2, rfl⟩
  clear h2
  have V0 := N0.nonneg
  have V1 := N1.nonneg
  have V2 := N2.nonneg
  go_wp2_with fail
  refine (nNorm N1 (by omega)).mono ?_
  rintro e x1 ⟨au, ku, du, rfl, Ou, hu, hB⟩
  replace N0 := N0.keep hB
  replace N1 := N1.keep hB
  replace N2 := N2.keep hB
  replace HB := join HB hB
  clear hB
  by_cases hu0 : ku = 0
  · subst hu0
    go_wp2
    go_ret
    exact ⟨rfl, HB⟩
  have hz1 := fun h => hu0 (Ou.zero_iff.2 h)
  have HZ1 := (show Hid _ from hz1)
  clear hz1
  have hu0' : ((ku : Int) == 0) = false := beq_eq_false_iff_ne.2 (by omega)
  go_wp2_with fail
  refine (nNorm N2 (by omega)).mono ?_
  rintro e x2 ⟨av, kv, dv, rfl, Ov, hv, hB⟩
  clear Ou
  replace N0 := N0.keep hB
  replace N1 := N1.keep hB
  replace N2 := N2.keep hB
  replace HB := join HB hB
  clear hB
  by_cases hv0 : kv = 0
  · subst hv0
    go_wp2
    go_ret
    exact ⟨rfl, HB⟩
  have hz2 := fun h => hv0 (Ov.zero_iff.2 h)
  have HZ2 := (show Hid _ from hz2)
  clear hz2
  have hv0' : ((kv : Int) == 0) = false := beq_eq_false_iff_ne.2 (by omega)
  go_wp2_with fail
  refine (nDiv N0 N1 (by omega) (by omega) HZ1.out).mono ?_
  rintro e x3 ⟨aq, kq, dq, ar, kr, dr, rfl, Oq, Or', hq, hr, hB⟩
  clear Ov
  replace N0 := N0.keep hB
  replace N1 := N1.keep hB
  replace N2 := N2.keep hB
  replace HB := join HB hB
  clear hB
  go_wp2_with fail
  refine (nMul N0 N2 (by omega) (by omega)).mono ?_
  rintro e x4 ⟨aS, kS, dS, rfl, OS, hS, hB⟩
  replace N0 := N0.keep hB
  replace N1 := N1.keep hB
  replace N2 := N2.keep hB
  replace Oq := Oq.keep hB
  replace Or' := Or'.keep hB
  replace HB := join HB hB
  clear hB
  go_wp2_with fail
  refine (nMul N1 N2 (by omega) (by omega)).mono ?_
  rintro e x5 ⟨aT, kT, dT, rfl, OT, hT, hB⟩
  replace N0 := N0.keep hB
  replace N1 := N1.keep hB
  replace N2 := N2.keep hB
  replace Oq := Oq.keep hB
  replace Or' := Or'.keep hB
  replace OS := OS.keep hB
  replace HB := join HB hB
  clear hB
  have hp : 0 < val l2 := by
    have h : val l2 ≠ 0 := HZ2.out
    omega
  have HP := (show Hid _ from hp)
  clear hp
  go_wp2_with fail
  refine (nDiv OS.a OT.a (by omega) (by omega) (Int.mul_ne_zero HZ1.out HZ2.out)).mono ?_
  rintro e x6 ⟨ax, kx, dx, ay, ky, dy, rfl, Ox, Oy, hx, hy, hB⟩
  clear OS OT
  replace N0 := N0.keep hB
  replace N1 := N1.keep hB
  replace N2 := N2.keep hB
  replace Oq := Oq.keep hB
  replace Or' := Or'.keep hB
  replace HB := join HB hB
  clear hB
  have tS7 := nSame Oq Ox (by omega) (by omega)
  rw [decide_eq_true ((Int.mul_ediv_mul_of_pos_left _ _ HP.out).symm)] at tS7
  go_wp2_with fail
  refine (tS7).mono ?_
  rintro e x8 ⟨rfl, hB⟩
  replace N0 := N0.keep hB
  replace N1 := N1.keep hB
  replace N2 := N2.keep hB
  replace Oq := Oq.keep hB
  replace Or' := Or'.keep hB
  replace Ox := Ox.keep hB
  replace Oy := Oy.keep hB
  replace HB := join HB hB
  clear hB
  clear tS7
  go_wp2_with fail
  refine (nMul Or'.a N2 (by omega) (by omega)).mono ?_
  rintro e x9 ⟨am, km, dm, rfl, Om, hm, hB⟩
  clear Oq Ox
  replace N0 := N0.keep hB
  replace N1 := N1.keep hB
  replace N2 := N2.keep hB
  replace Or' := Or'.keep hB
  replace Oy := Oy.keep hB
  replace HB := join HB hB
  clear hB
  have tS10 := nSame Om Oy (by omega) (by omega)
  rw [decide_eq_true (by rw [Int.mul_comm (val l0), Int.mul_comm (val l1), Int.mul_emod_mul_of_pos _ _ HP.out, Int.mul_comm])] at tS10
  go_wp2_with fail
  refine (tS10).mono ?_
  rintro e x11 ⟨rfl, hB⟩
  replace N0 := N0.keep hB
  replace N1 := N1.keep hB
  replace N2 := N2.keep hB
  replace Or' := Or'.keep hB
  replace Oy := Oy.keep hB
  replace Om := Om.keep hB
  replace HB := join HB hB
  clear hB
  clear tS10
  go_wp2_with fail
  refine (nMul N0 N2 (by omega) (by omega)).mono ?_
  rintro e x12 ⟨ai, ki, di, rfl, Oi, hi, hB⟩
  clear Om Oy
  replace N0 := N0.keep hB
  replace N1 := N1.keep hB
  replace N2 := N2.keep hB
  replace Or' := Or'.keep hB
  replace HB := join HB hB
  clear hB
  go_wp2_with fail
  refine (nMul N1 N2 (by omega) (by omega)).mono ?_
  rintro e x13 ⟨aj, kj, dj, rfl, Oj, hj, hB⟩
  clear Or'
  replace N0 := N0.keep hB
  replace N1 := N1.keep hB
  replace N2 := N2.keep hB
  replace Oi := Oi.keep hB
  replace HB := join HB hB
  clear hB
  go_wp2_with fail
  refine (nGcd Oi.a Oj.a (by omega) (by omega)).mono ?_
  rintro e x14 ⟨ag, kg, dg, rfl, Og, hg, hB⟩
  replace N0 := N0.keep hB
  replace N1 := N1.keep hB
  replace N2 := N2.keep hB
  replace Oi := Oi.keep hB
  replace Oj := Oj.keep hB
  replace HB := join HB hB
  clear hB
  go_wp2_with fail
  refine (nGcd N0 N1 (by omega) (by omega)).mono ?_
  rintro e x15 ⟨ah, kh, dh, rfl, Oh, hh, hB⟩
  clear Oi Oj
  replace N0 := N0.keep hB
  replace N1 := N1.keep hB
  replace N2 := N2.keep hB
  replace Og := Og.keep hB
  replace HB := join HB hB
  clear hB
  go_wp2_with fail
  refine (nMul Oh.a N2 (by omega) (by omega)).mono ?_
  rintro e x16 ⟨az, kz, dz, rfl, Oz, hz, hB⟩
  replace N0 := N0.keep hB
  replace N1 := N1.keep hB
  replace N2 := N2.keep hB
  replace Og := Og.keep hB
  replace Oh := Oh.keep hB
  replace HB := join HB hB
  clear hB
  have tS17 := nSame Og Oz (by omega) (by omega)
  rw [decide_eq_true (gcd_scaled V2)] at tS17
  go_wp2_with fail
  refine (tS17).mono ?_
  rintro e x18 ⟨rfl, hB⟩
  replace N0 := N0.keep hB
  replace N1 := N1.keep hB
  replace N2 := N2.keep hB
  replace Og := Og.keep hB
  replace Oh := Oh.keep hB
  replace Oz := Oz.keep hB
  replace HB := join HB hB
  clear hB
  clear tS17
  go_wp2
  go_ret
  exact ⟨rfl, HB⟩
end natScaled
end Go.Proofs.YtplmeahabddklaaDoor
