/- gleanref1.Small. -/
import Derived.Test.YtplmeahabddklaaDoorRefC
import Derived.Test.YtplmeahabddklaaDoorSmallN
namespace Go.Proofs.YtplmeahabddklaaDoor
open Go.RowKit Lim

theorem rNumber {w : World} {ao : Option Addr} {n c : Nat} {x : Int} (h : DigO w ao n c x) (hn : n ≤ 1099511627776) :
    Calls Tryd.prog 49 #[.slice ao n c] w fun e w' => ∃ a k d, e = .returned (.slice a k d) ∧ NatO w' a k d x ∧ k ≤ n ∧ Below w.heap.size w w' := by
  obtain ⟨b, o, d, h1, h2, h3, h4, h5, rfl⟩ := h.ex
  refine (number_any ao n c b o d w h1 h2 hn h3 h5).mono ?_
  rintro e w' ⟨v, r, rfl, hnw, hI, hlen, hB⟩
  obtain ⟨a, d', rfl, hO⟩ := hnw.o hI
  exact ⟨a, _, d', rfl, hO, hlen, hB⟩
set_option maxHeartbeats 1000000 in
set_option maxRecDepth 100000 in
theorem rNorm {w : World} {ao : Option Addr} {n c : Nat} {x : Int} (h : NatA w ao n c x) (hn : n ≤ 274877906944) :
    Calls Tryd.prog 22 #[.slice ao n c] w fun e w' => ∃ a k d, e = .returned (.slice a k d) ∧ NatO w' a k d x ∧ k ≤ 2 * n ∧ Below w.heap.size w w' := by
  go_enter Tryd.func22, Tryd.ntmps22
  go_wp2_with fail
  refine (rDigits h hn).mono ?_
  rintro e w1 ⟨a1, k1, d1, rfl, O1, hk1, hB⟩
  have HB := hB
  clear hB
  go_wp2_with fail
  refine (rNumber O1 (by omega)).mono ?_
  rintro e w2 ⟨a2, k2, d2, rfl, O2, hk2, hB⟩
  go_wp2
  go_ret
  exact ⟨a2, k2, d2, rfl, O2, by omega, joinB HB hB⟩
set_option maxHeartbeats 1000000 in
set_option maxRecDepth 100000 in
theorem rSmall_aux {w : World} {ao : Option Addr} {n c : Nat} {x : Int} (h : NatA w ao n c x) (hn : n ≤ 274877906944) (v : Int) (bb : Bool) (H1 : Hid (x < 18446744073709551616 → v = x ∧ bb = true)) (H2 : Hid (¬ x < 18446744073709551616 → v = 0 ∧ bb = false)) :
    Calls Tryd.prog 18 #[.slice ao n c] w fun e w' => e = .returned (.tuple #[.int .u64 v, .bool bb]) ∧ Below w.heap.size w w' := by
  go_enter Tryd.func18, Tryd.ntmps18
  go_wp2_with fail
  refine (rNorm h hn).mono ?_
  rintro e w1 ⟨a1, k1, d1, rfl, O1, hk1, hB⟩
  obtain ⟨b, o, l, h1, h2, h3, h4⟩ := O1.ex
  have hf := fits_iff h3.1
  rw [h3.2.1, h3.2.2, h1] at hf
  have hv := h3.2.2
  clear O1 h
  rcases (show k1 = 0 ∨ k1 = 1 ∨ 2 ≤ k1 by omega) with e | e | e
  · subst e
    obtain rfl : l = [] := List.eq_nil_of_length_eq_zero h1
    have hx0 : x = 0 := by rw [← hv]; rfl
    subst hx0
    obtain ⟨rfl, rfl⟩ := H1.out (by decide)
    clear hv hf H1 H2
    go_wp2
    go_ret2
    exact ⟨rfl, hB⟩
  · subst e
    obtain ⟨y, rfl⟩ : ∃ y, l = [y] := by
      match l, h1 with
      | [y], _ => exact ⟨y, rfl⟩
    have hy : y = x := by rw [← hv]; simp [val]
    subst hy
    have hx := hf.2 (by omega)
    have hc := h4.cell 0 (by simp)
    obtain rfl : a1 = some ⟨b, o, none⟩ := by
      rcases h4.loc with e | e
      · simp at e
      · exact e
    rw [nth_zero, Nat.add_zero] at hc
    obtain ⟨rfl, rfl⟩ := H1.out hx
    clear hv hf h4 h3 hx H1 H2
    go_wp2
    go_ret2
    exact ⟨rfl, hB⟩
  · obtain ⟨m, rfl⟩ : ∃ m, k1 = m + 2 := ⟨k1 - 2, by omega⟩
    have hx : ¬ x < 18446744073709551616 := fun hx => by have := hf.1 hx; omega
    obtain ⟨rfl, rfl⟩ := H2.out (by omega)
    clear hf hv hx H1 H2
    go_wp2
    all_goals go_ret2
    all_goals exact ⟨rfl, hB⟩
theorem rSmall {w : World} {ao : Option Addr} {n c : Nat} {x : Int} (h : NatA w ao n c x) (hn : n ≤ 274877906944) :
    Calls Tryd.prog 18 #[.slice ao n c] w fun e w' => e = .returned (.tuple #[.int .u64 (if x < 18446744073709551616 then x else 0), .bool (decide (x < 18446744073709551616))]) ∧ Below w.heap.size w w' :=
  rSmall_aux h hn _ _ (fun hx => ⟨if_pos hx, decide_eq_true hx⟩) (fun hx => ⟨if_neg hx, decide_eq_false hx⟩)
end Go.Proofs.YtplmeahabddklaaDoor
