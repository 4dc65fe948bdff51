/- gleanlaw2.bit; what two steps lose. -/
import Derived.Test.YtpbiflfdfiebcabGreatDoorKnownD
namespace Go.Proofs.YtpbiflfdfiebcabGreatDoor
open Go.RowKit Lim

theorem cellY {w : World} {ao : Option Addr} {b o k : Nat} {l : List Int} {y : Int} (h : At w ao b o l) (e : nth l k = y) (hk : k < l.length) : w.cell? ⟨b, o + k, none⟩ = some (.int .u64 y) := e ▸ h.cell k hk
/-- the sum of the first k -/
def psum (l : List Int) : Nat → Int
  | 0 => 0
  | k + 1 => psum l k + nth l k
theorem psum_nonneg {l : List Int} (h : Words l) (k : Nat) : 0 ≤ psum l k := by
  induction k with
  | zero => exact Int.le_refl _
  | succ k ih => have := (h.nth k).1; simp only [psum]; omega
theorem sgn_le {x y : Int} (h : x ≤ y) : sgn x y ≤ 0 := by
  unfold sgn; split
  · decide
  · rw [if_neg (by omega)]; decide
theorem steps_le {a b c : Int} (ha : 0 ≤ a) (hb : 0 ≤ b) (hc : 0 < c) : a * U36 / c * b / U36 ≤ a * b / c ∧ a * b / c ≤ a * U36 / c * b / U36 + (b / U36 + 2) := by
  have hU := U36_pos
  generalize U36 = U at *
  have q1 : a * U / c * c ≤ a * U := Int.ediv_mul_le _ (by omega)
  have q2 : a * U < (a * U / c + 1) * c := Int.lt_ediv_add_one_mul_self _ hc
  have o1 : a * b / c * c ≤ a * b := Int.ediv_mul_le _ (by omega)
  have q0 : 0 ≤ a * U / c := Int.ediv_nonneg (Int.mul_nonneg ha (by omega)) (by omega)
  generalize a * U / c = q at *
  have t1 : q * b / U * U ≤ q * b := Int.ediv_mul_le _ (by omega)
  have t2 : q * b < (q * b / U + 1) * U := Int.lt_ediv_add_one_mul_self _ hU
  have r2 : b < (b / U + 1) * U := Int.lt_ediv_add_one_mul_self _ hU
  constructor
  · refine Int.le_ediv_of_mul_le hc ?_
    have h1 : q * b / U * U * c ≤ q * b * c := Int.mul_le_mul_of_nonneg_right t1 (by omega)
    have h2 : q * c * b ≤ a * U * b := Int.mul_le_mul_of_nonneg_right q1 hb
    have h3 : q * b / U * c * U ≤ a * b * U := by
      have e1 : q * b / U * c * U = q * b / U * U * c := by rw [Int.mul_right_comm]
      have e2 : q * b * c = q * c * b := by rw [Int.mul_right_comm]
      have e3 : a * U * b = a * b * U := by rw [Int.mul_right_comm]
      omega
    exact Int.le_of_mul_le_mul_right h3 hU
  · generalize a * b / c = o at *
    have h1 : o * c * U ≤ a * b * U := Int.mul_le_mul_of_nonneg_right o1 (by omega)
    have h2 : a * U * b ≤ (q + 1) * c * b := Int.mul_le_mul_of_nonneg_right (by omega) hb
    have h3 : o * U * c ≤ (q * b + b) * c := by
      have e1 : o * U * c = o * c * U := by rw [Int.mul_right_comm]
      have e2 : a * U * b = a * b * U := by rw [Int.mul_right_comm]
      have e3 : (q + 1) * c * b = (q * b + b) * c := by rw [Int.mul_right_comm, Int.add_mul, Int.one_mul]
      omega
    have h4 : o * U ≤ q * b + b := Int.le_of_mul_le_mul_right h3 hc
    generalize q * b / U = t at *
    generalize b / U = r at *
    have h5 : o * U < (t + 1 + (r + 1)) * U := by rw [Int.add_mul]; omega
    have := Int.lt_of_mul_lt_mul_right h5 (by omega)
    omega
theorem part_one {a y t : Int} (ht : 0 < t) : a * (y * U36) / (t * U36) * t ≤ a * y ∧ a * y ≤ a * (y * U36) / (t * U36) * t + (t - 1) := by
  have hU := U36_pos
  generalize U36 = U at *
  have htU : 0 < t * U := Int.mul_pos ht hU
  have p1 : a * (y * U) / (t * U) * (t * U) ≤ a * (y * U) := Int.ediv_mul_le _ (by omega)
  have p2 : a * (y * U) < (a * (y * U) / (t * U) + 1) * (t * U) := Int.lt_ediv_add_one_mul_self _ htU
  generalize a * (y * U) / (t * U) = p at *
  have e1 : p * (t * U) = p * t * U := by rw [Int.mul_assoc]
  have e2 : a * (y * U) = a * y * U := by rw [Int.mul_assoc]
  have e3 : (p + 1) * (t * U) = (p * t + t) * U := by rw [← Int.mul_assoc, Int.add_mul, Int.one_mul]
  rw [e1, e2] at p1
  rw [e2, e3] at p2
  have q1 := Int.le_of_mul_le_mul_right p1 hU
  have q2 := Int.lt_of_mul_lt_mul_right p2 (by omega)
  omega
theorem parts_step {Q t : Int} {k : Nat} (ht : 0 < t) {a s : Int} (h1 : Q * t ≤ a * s) (h2 : a * s ≤ Q * t + k * (t - 1)) (a' y s' : Int) {s1 : Int} (e : s1 = s + y) : a' = a → s' = s → (Q + a * (y * U36) / (t * U36)) * t ≤ a * s1 ∧ a * s1 ≤ (Q + a * (y * U36) / (t * U36)) * t + ((k + 1 : Nat) : Int) * (t - 1) := by
  intro _ _
  have hp := part_one (a := a) (y := y) ht
  generalize a * (y * U36) / (t * U36) = p at *
  subst e
  rw [Int.mul_add, Int.add_mul, Int.natCast_add, Int.add_mul]
  omega
set_option maxHeartbeats 1000000 in
set_option maxRecDepth 100000 in
theorem dBit {w : World} : Calls Tryz.prog 53 #[] w fun e w' => ∃ a k d, e = .returned (.agg #[.slice a k d]) ∧ NatO w' a k d 1 ∧ k ≤ 1 ∧ Below w.heap.size w w' := by
  have B0 := below_alloc w (.cells #[.slice none 0 0] 34)
  have S0 := slot_new w (.slice none 0 0) 34
  go_enter Tryz.func53, Tryz.ntmps53
  go_wp2_with fail
  refine (nOf (by decide) (by decide)).mono ?_
  rintro e w2 ⟨a', k', d', rfl, hO', hk', hB⟩
  have S1 := S0.keep hB
  have c1 := S1.cell
  have f1 := S1.free
  have S2 := S1.put (.slice a' k' d')
  have hO1 := hO'.put S1 not_int (.slice a' k' d')
  have HB := belowPut B0 hB (g := w.heap.size) (Nat.le_refl _) (.slice a' k' d')
  clear hO' hB S0 S1 B0
  go_wp2
  refine bodyPost_ret (ret_dec rfl rfl S2) rfl ?_
  exact ⟨a', k', d', rfl, hO1, hk', HB⟩

end Go.Proofs.YtpbiflfdfiebcabGreatDoor
