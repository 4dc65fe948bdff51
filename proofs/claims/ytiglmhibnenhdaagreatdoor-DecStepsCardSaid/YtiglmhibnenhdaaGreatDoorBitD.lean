/- gleanlaw2.bit; what two steps lose. -/
import Derived.Test.YtiglmhibnenhdaaGreatDoorKnownD
namespace Go.Proofs.YtiglmhibnenhdaaGreatDoor
open Go.RowKit Lim

theorem sgn_le {x y : Int} (h : x ≤ y) : sgn x y ≤ 0 := by
  unfold sgn; split
  · decide
  · rw [if_neg (by omega)]; decide
theorem steps_le {a b c : Int} (ha : 0 ≤ a) (hb : 0 ≤ b) (hc : 0 < c) : a * U36 / c * b / U36 ≤ a * b / c ∧ a * b / c ≤ a * U36 / c * b / U36 + (b / U36 + 2) := by
  have hU := U36_pos
  generalize U36 = U at *
  have q1 : a * U / c * c ≤ a * U := Int.ediv_mul_le _ (by omega)
  have q2 : a * U < (a * U / c + 1) * c := Int.lt_ediv_add_one_mul_self _ hc
  have o1 : a * b / c * c ≤ a * b := Int.ediv_mul_le _ (by omega)
  have q0 : 0 ≤ a * U / c := Int.ediv_nonneg (Int.mul_nonneg ha (by omega)) (by omega)
  generalize a * U / c = q at *
  have t1 : q * b / U * U ≤ q * b := Int.ediv_mul_le _ (by omega)
  have t2 : q * b < (q * b / U + 1) * U := Int.lt_ediv_add_one_mul_self _ hU
  have r2 : b < (b / U + 1) * U := Int.lt_ediv_add_one_mul_self _ hU
  constructor
  · refine Int.le_ediv_of_mul_le hc ?_
    have h1 : q * b / U * U * c ≤ q * b * c := Int.mul_le_mul_of_nonneg_right t1 (by omega)
    have h2 : q * c * b ≤ a * U * b := Int.mul_le_mul_of_nonneg_right q1 hb
    have h3 : q * b / U * c * U ≤ a * b * U := by
      have e1 : q * b / U * c * U = q * b / U * U * c := by rw [Int.mul_right_comm]
      have e2 : q * b * c = q * c * b := by rw [Int.mul_right_comm]
      have e3 : a * U * b = a * b * U := by rw [Int.mul_right_comm]
      omega
    exact Int.le_of_mul_le_mul_right h3 hU
  · generalize a * b / c = o at *
    have h1 : o * c * U ≤ a * b * U := Int.mul_le_mul_of_nonneg_right o1 (by omega)
    have h2 : a * U * b ≤ (q + 1) * c * b := Int.mul_le_mul_of_nonneg_right (by omega) hb
    have h3 : o * U * c ≤ (q * b + b) * c := by
      have e1 : o * U * c = o * c * U := by rw [Int.mul_right_comm]
      have e2 : a * U * b = a * b * U := by rw [Int.mul_right_comm]
      have e3 : (q + 1) * c * b = (q * b + b) * c := by rw [Int.mul_right_comm, Int.add_mul, Int.one_mul]
      omega
    have h4 : o * U ≤ q * b + b := Int.le_of_mul_le_mul_right h3 hc
    generalize q * b / U = t at *
    generalize b / U = r at *
    have h5 : o * U < (t + 1 + (r + 1)) * U := by rw [Int.add_mul]; omega
    have := Int.lt_of_mul_lt_mul_right h5 (by omega)
    omega
set_option maxHeartbeats 1000000 in
set_option maxRecDepth 100000 in
theorem dBit {w : World} : Calls Tryz.prog 21 #[] w fun e w' => ∃ a k d, e = .returned (.agg #[.slice a k d]) ∧ NatO w' a k d 1 ∧ k ≤ 1 ∧ Below w.heap.size w w' := by
  have B0 := below_alloc w (.cells #[.slice none 0 0] 25)
  have S0 := slot_new w (.slice none 0 0) 25
  go_enter Tryz.func21, Tryz.ntmps21
  go_wp2_with fail
  refine (nOf (by decide) (by decide)).mono ?_
  rintro e w2 ⟨a', k', d', rfl, hO', hk', hB⟩
  have S1 := S0.keep hB
  have c1 := S1.cell
  have f1 := S1.free
  have S2 := S1.put (.slice a' k' d')
  have hO1 := hO'.put S1 not_int (.slice a' k' d')
  have HB := belowPut B0 hB (g := w.heap.size) (Nat.le_refl _) (.slice a' k' d')
  clear hO' hB S0 S1 B0
  go_wp2
  refine bodyPost_ret (ret_dec rfl rfl S2) rfl ?_
  exact ⟨a', k', d', rfl, hO1, hk', HB⟩

end Go.Proofs.YtiglmhibnenhdaaGreatDoor
