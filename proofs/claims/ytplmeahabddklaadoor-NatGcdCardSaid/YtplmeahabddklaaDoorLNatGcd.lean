/- gleanlaw1.NatGcd returns true for all lists of limbs and every number. -/
import Derived.Test.YtplmeahabddklaaDoorKnown
import Derived.Test.YtplmeahabddklaaDoorSmall
import Derived.Test.YtplmeahabddklaaDoorJNatGcd
namespace Go.Proofs.YtplmeahabddklaaDoor
namespace natGcd
open Go.RowKit Lim

set_option maxHeartbeats 8000000 in
set_option maxRecDepth 100000 in
theorem walk (a0 : Option Addr) (len0 cap0 : Nat) (z0 : List Int) (a1 : Option Addr) (len1 cap1 : Nat) (z1 : List Int) (n : Int) (w : World) (w0 : IsRow w a0 len0 cap0 z0) (w1 : IsRow w a1 len1 cap1 z1) (_wn : (Lit.int .i64 n).wf = true) :
    Calls Tryd.prog 6 #[.slice a0 len0 cap0, .slice a1 len1 cap1, .int .i64 n] w fun e w' => e = .returned (.bool true) ∧ Below w.heap.size w w' := by
  obtain ⟨b0, o0, l0, hl0, hc0, hm0, W0, h0⟩ := w0.open
  obtain ⟨b1, o1, l1, hl1, hc1, hm1, W1, h1⟩ := w1.open
  clear w0 w1 _wn
  go_enter Tryd.func6, Tryd.ntmps6
  go_wp2_with fail
  refine (known_any w).mono ?_
  rintro e u1 ⟨rfl, HB⟩
  have h0 := h0.keep HB
  have h1 := h1.keep HB
  have b1 := below_alloc u1 (.cells #[.slice a0 len0 cap0, .slice a1 len1 cap1] 23)
  have tS := small_any [(a0, len0, cap0), (a1, len1, cap1)] u1.heap.size 2 2 (u1.alloc (.cells #[.slice a0 len0 cap0, .slice a1 len1 cap1] 23)) rfl (by decide)
    (fun i => by
      match i with
      | 0 => exact hm0
      | 1 => exact hm1
      | _ + 2 => exact Nat.zero_le _)
    (fun i hi => by
      rw [cell_new]
      match i, hi with
      | 0, _ => rfl
      | 1, _ => rfl)
  go_wp2_with fail
  refine tS.mono ?_
  rintro e u2 ⟨rfl, rfl⟩
  clear tS
  have h0 := h0.keep b1
  have h1 := h1.keep b1
  have HB := join HB b1
  clear b1
  generalize u1.alloc (.cells #[.slice a0 len0 cap0, .slice a1 len1 cap1] 23) = u2 at *
  by_cases hsm : smallB [(a0, len0, cap0), (a1, len1, cap1)] = true
  rotate_left
  · have hsf : smallB [(a0, len0, cap0), (a1, len1, cap1)] = false := by rw [Bool.not_eq_true] at hsm; exact hsm
    rw [hsf]
    go_wp2
    go_ret
    exact ⟨rfl, HB⟩
  rw [hsm]
  simp only [smallB, List.all_cons, List.all_nil, Bool.and_true, Bool.and_eq_true, decide_eq_true_eq] at hsm
  obtain ⟨hs0, hs1⟩ := hsm
  have N0 : NatA _ a0 len0 cap0 (val l0) := ⟨b0, o0, l0, hl0, hc0, W0, h0, rfl⟩
  clear h0
  have N1 : NatA _ a1 len1 cap1 (val l1) := ⟨b1, o1, l1, hl1, hc1, W1, h1, rfl⟩
  clear h1
  go_wp2_with fail
  refine (nPowV n).mono ?_
  rintro e x1 ⟨aP, kP, dP, rfl, OP, hP, hB⟩
  replace N0 := N0.keep hB
  replace N1 := N1.keep hB
  replace HB := join HB hB
  clear hB
  go_wp2_with fail
  refine (rPowV n).mono ?_
  rintro e x2 ⟨aQ, kQ, dQ, rfl, OQ, hQ, hB⟩
  replace N0 := N0.keep hB
  replace N1 := N1.keep hB
  replace OP := OP.keep hB
  replace HB := join HB hB
  clear hB
  generalize powE n = pE at *
  generalize powV n = pV at *
  go_wp2_with fail
  refine (nGcd N0 N1 (by omega) (by omega)).mono ?_
  rintro e x3 ⟨aG, kG, dG, rfl, OG, hG, hB⟩
  replace N0 := N0.keep hB
  replace N1 := N1.keep hB
  replace OP := OP.keep hB
  replace OQ := OQ.keep hB
  replace HB := join HB hB
  clear hB
  go_wp2_with fail
  refine (rGcd N0 N1 (by omega) (by omega)).mono ?_
  rintro e x4 ⟨aH, kH, dH, rfl, OH, hH, hB⟩
  replace N0 := N0.keep hB
  replace N1 := N1.keep hB
  replace OP := OP.keep hB
  replace OQ := OQ.keep hB
  replace OG := OG.keep hB
  replace HB := join HB hB
  clear hB
  have tS5 := nSame OG OH (by omega) (by omega)
  rw [decide_eq_true (rfl)] at tS5
  go_wp2_with fail
  refine (tS5).mono ?_
  rintro e x6 ⟨rfl, hB⟩
  replace N0 := N0.keep hB
  replace N1 := N1.keep hB
  replace OP := OP.keep hB
  replace OQ := OQ.keep hB
  replace OG := OG.keep hB
  replace OH := OH.keep hB
  replace HB := join HB hB
  clear hB
  clear tS5
  have tS7 := nSame OP OQ (by omega) (by omega)
  rw [decide_eq_true (rfl)] at tS7
  go_wp2_with fail
  refine (tS7).mono ?_
  rintro e x8 ⟨rfl, hB⟩
  replace N0 := N0.keep hB
  replace N1 := N1.keep hB
  replace OP := OP.keep hB
  replace OQ := OQ.keep hB
  replace OG := OG.keep hB
  replace OH := OH.keep hB
  replace HB := join HB hB
  clear hB
  clear tS7
  go_wp2
  go_ret
  exact ⟨rfl, HB⟩
end natGcd
end Go.Proofs.YtplmeahabddklaaDoor
