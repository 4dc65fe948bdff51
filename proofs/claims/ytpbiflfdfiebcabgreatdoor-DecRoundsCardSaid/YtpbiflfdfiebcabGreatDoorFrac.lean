/- Decimal places: 36 digits, as a text. -/
import Derived.Test.YtpbiflfdfiebcabGreatDoorApp
namespace Go.Proofs.YtpbiflfdfiebcabGreatDoor
open Go.RowKit Lim

/-- the last k decimal digits of x, as bytes -/
def digL : Nat → Int → List Int
  | 0, _ => []
  | k + 1, x => digL k (x / 10) ++ [48 + x % 10]
theorem digL_length (k : Nat) (x : Int) : (digL k x).length = k := by
  induction k generalizing x with
  | zero => rfl
  | succ k ih => simp [digL, ih]
theorem digL_dig {k : Nat} {x : Int} (h : 0 ≤ x) : DigI (digL k x) := by
  induction k generalizing x with
  | zero => intro c hc; simp [digL] at hc
  | succ k ih => exact (ih (by omega)).snoc (by omega) (by omega)
theorem digL_val {k : Nat} {x : Int} (h : 0 ≤ x) : dvI (digL k x) = x % 10 ^ k := by
  induction k generalizing x with
  | zero => simp [digL, dvI]
  | succ k ih =>
    rw [digL, dvI_snoc, ih (by omega), Int.pow_succ]
    have hp : (0 : Int) < 10 ^ k := Int.pow_pos (by decide)
    have e1 := Int.mul_ediv_add_emod (x / 10) (10 ^ k)
    have e2 := Int.mul_ediv_add_emod x 10
    have e3 := Int.emod_nonneg (x / 10) (show (10 : Int) ^ k ≠ 0 by omega)
    have e4 := Int.emod_lt_of_pos (x / 10) hp
    generalize x / 10 % 10 ^ k = r at *
    generalize hq : x / 10 / 10 ^ k = q at *
    generalize (10 : Int) ^ k = P at *
    have h5 : x = (10 * r + x % 10) + (P * 10) * q := by
      have : 10 * (P * q + r) + x % 10 = x := by rw [e1]; omega
      rw [← this]; rw [Int.mul_add]; have : 10 * (P * q) = P * 10 * q := by rw [← Int.mul_assoc, Int.mul_comm 10 P]
      omega
    conv => rhs; rw [h5]
    rw [Int.add_mul_emod_self_left, Int.emod_eq_of_lt (a := 10 * r + x % 10) (b := P * 10) (by omega) (by omega)]
    omega
theorem digL_split (k m : Nat) (x : Int) (h : 0 ≤ x) : digL (k + m) x = digL k (x / 10 ^ m) ++ digL m x := by
  induction m generalizing x with
  | zero => simp [digL]
  | succ m ih =>
    rw [Nat.add_succ, digL, ih _ (by omega), digL, List.append_assoc]
    congr 2
    rw [Int.pow_succ, Int.mul_comm, ← Int.ediv_ediv_of_nonneg (by decide)]
/-- two digits at once -/
theorem digL_two (k : Nat) (x : Int) : digL (k + 2) x = digL k (x / 100) ++ [48 + x % 100 / 10, 48 + x % 100 % 10] := by
  rw [digL, digL, List.append_assoc]
  have e1 : x / 10 / 10 = x / 100 := by omega
  have e2 : x / 10 % 10 = x % 100 / 10 := by omega
  have e3 : x % 10 = x % 100 % 10 := by omega
  rw [e1, e2, e3]; rfl
end Go.Proofs.YtpbiflfdfiebcabGreatDoor
