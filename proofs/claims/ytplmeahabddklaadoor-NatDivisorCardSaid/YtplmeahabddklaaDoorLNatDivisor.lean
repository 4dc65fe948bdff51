/- gleanlaw1.NatDivisor returns true for all lists of limbs. -/
import Derived.Test.YtplmeahabddklaaDoorKnown
import Derived.Test.YtplmeahabddklaaDoorSmall
import Derived.Test.YtplmeahabddklaaDoorGcdV
namespace Go.Proofs.YtplmeahabddklaaDoor
namespace natDivisor
open Go.RowKit Lim

set_option maxHeartbeats 8000000 in
set_option maxRecDepth 100000 in
theorem walk (a0 : Option Addr) (len0 cap0 : Nat) (z0 : List Int) (a1 : Option Addr) (len1 cap1 : Nat) (z1 : List Int) (w : World) (w0 : IsRow w a0 len0 cap0 z0) (w1 : IsRow w a1 len1 cap1 z1) :
    Calls Tryd.prog 4 #[.slice a0 len0 cap0, .slice a1 len1 cap1] w fun e w' => e = .returned (.bool true) ∧ Below w.heap.size w w' := by
  obtain ⟨b0, o0, l0, hl0, hc0, hm0, W0, h0⟩ := w0.open
  obtain ⟨b1, o1, l1, hl1, hc1, hm1, W1, h1⟩ := w1.open
  clear w0 w1
  go_enter Tryd.func4, Tryd.ntmps4
  go_wp2_with fail
  refine (known_any w).mono ?_
  rintro e u1 ⟨rfl, HB⟩
  have h0 := h0.keep HB
  have h1 := h1.keep HB
  have b1 := below_alloc u1 (.cells #[.slice a0 len0 cap0, .slice a1 len1 cap1] 23)
  have tS := small_any [(a0, len0, cap0), (a1, len1, cap1)] u1.heap.size 2 2 (u1.alloc (.cells #[.slice a0 len0 cap0, .slice a1 len1 cap1] 23)) rfl (by decide)
    (fun i => by
      match i with
      | 0 => exact hm0
      | 1 => exact hm1
      | _ + 2 => exact Nat.zero_le _)
    (fun i hi => by
      rw [cell_new]
      match i, hi with
      | 0, _ => rfl
      | 1, _ => rfl)
  go_wp2_with fail
  refine tS.mono ?_
  rintro e u2 ⟨rfl, rfl⟩
  clear tS
  have h0 := h0.keep b1
  have h1 := h1.keep b1
  have HB := join HB b1
  clear b1
  generalize u1.alloc (.cells #[.slice a0 len0 cap0, .slice a1 len1 cap1] 23) = u2 at *
  by_cases hsm : smallB [(a0, len0, cap0), (a1, len1, cap1)] = true
  rotate_left
  · have hsf : smallB [(a0, len0, cap0), (a1, len1, cap1)] = false := by rw [Bool.not_eq_true] at hsm; exact hsm
    rw [hsf]
    go_wp2
    go_ret
    exact ⟨rfl, HB⟩
  rw [hsm]
  simp only [smallB, List.all_cons, List.all_nil, Bool.and_true, Bool.and_eq_true, decide_eq_true_eq] at hsm
  obtain ⟨hs0, hs1⟩ := hsm
  have N0 : NatA _ a0 len0 cap0 (val l0) := ⟨b0, o0, l0, hl0, hc0, W0, h0, rfl⟩
  clear h0
  have N1 : NatA _ a1 len1 cap1 (val l1) := ⟨b1, o1, l1, hl1, hc1, W1, h1, rfl⟩
  clear h1
  go_wp2_with fail
  refine (nGcd N0 N1 (by omega) (by omega)).mono ?_
  rintro e x1 ⟨ag, kg, dg, rfl, Og, hg, hB⟩
  replace N0 := N0.keep hB
  replace N1 := N1.keep hB
  replace HB := join HB hB
  clear hB
  by_cases hg0 : kg = 0
  · have hz := gcd_zero_both (Og.zero_iff.1 hg0)
    have HZ := (show Hid _ from hz)
    clear hz
    subst hg0
    go_wp2_with fail
    refine (nNorm N0 (by omega)).mono ?_
    rintro e x2 ⟨au, ku, du, rfl, Ou, hu, hB⟩
    clear Og
    replace N0 := N0.keep hB
    replace N1 := N1.keep hB
    replace HB := join HB hB
    clear hB
    have hp0 := Ou.zero_iff.2 HZ.out.1
    subst hp0
    go_wp2_with fail
    refine (nNorm N1 (by omega)).mono ?_
    rintro e x3 ⟨aq, kq, dq, rfl, Oq, hq, hB⟩
    clear Ou
    replace N0 := N0.keep hB
    replace N1 := N1.keep hB
    replace HB := join HB hB
    clear hB
    have hq0 := Oq.zero_iff.2 HZ.out.2
    subst hq0
    go_wp2
    go_ret
    exact ⟨rfl, HB⟩
  · have hgz := fun h => hg0 (Og.zero_iff.2 h)
    have HGZ := (show Hid _ from hgz)
    clear hgz
    have hg0' : ((kg : Int) == 0) = false := beq_eq_false_iff_ne.2 (by omega)
    go_wp2_with fail
    refine (nDiv N0 Og.a (by omega) (by omega) HGZ.out).mono ?_
    rintro e x4 ⟨ax, kx, dx, ar, kr, dr, rfl, Ox, Or', hx, hr, hB⟩
    replace N0 := N0.keep hB
    replace N1 := N1.keep hB
    replace Og := Og.keep hB
    replace HB := join HB hB
    clear hB
    have hr0 := Or'.zero_iff.2 gcd_left
    subst hr0
    clear Or'
    go_wp2_with fail
    refine (nDiv N1 Og.a (by omega) (by omega) HGZ.out).mono ?_
    rintro e x5 ⟨ay, ky, dy, at', kt, dt, rfl, Oy, Ot, hy, ht, hB⟩
    clear N0
    replace N1 := N1.keep hB
    replace Og := Og.keep hB
    replace Ox := Ox.keep hB
    replace HB := join HB hB
    clear hB
    have ht0 := Ot.zero_iff.2 gcd_right
    subst ht0
    clear Ot
    go_wp2_with fail
    refine (nGcd Ox.a Oy.a (by omega) (by omega)).mono ?_
    rintro e x6 ⟨ah, kh, dh, rfl, Oh, hh, hB⟩
    clear N1
    replace Og := Og.keep hB
    replace Ox := Ox.keep hB
    replace Oy := Oy.keep hB
    replace HB := join HB hB
    clear hB
    go_wp2_with fail
    refine (nOf (x := 1) (by decide) (by decide)).mono ?_
    rintro e x7 ⟨ao, ko, do', rfl, Oo, ho, hB⟩
    clear Ox Oy
    replace Og := Og.keep hB
    replace Oh := Oh.keep hB
    replace HB := join HB hB
    clear hB
    have tS8 := nSame Oh Oo (by omega) (by omega)
    rw [decide_eq_true (gcd_parts HGZ.out)] at tS8
    go_wp2_with fail
    refine (tS8).mono ?_
    rintro e x9 ⟨rfl, hB⟩
    replace Og := Og.keep hB
    replace Oh := Oh.keep hB
    replace Oo := Oo.keep hB
    replace HB := join HB hB
    clear hB
    clear tS8
    go_wp2
    go_ret
    exact ⟨rfl, HB⟩
end natDivisor
end Go.Proofs.YtplmeahabddklaaDoor
