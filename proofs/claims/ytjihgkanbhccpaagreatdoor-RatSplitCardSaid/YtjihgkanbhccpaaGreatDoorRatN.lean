/- Reduced fractions: what rat.together returns, as a reduced fraction; the sum of a list. -/
import Derived.Test.YtjihgkanbhccpaaGreatDoorRatM
import Derived.Test.YtjihgkanbhccpaaGreatDoorRat7
namespace Go.Proofs.YtjihgkanbhccpaaGreatDoor
open Go.RowKit Lim

theorem Red.cross {N D p q x y : Int} (h : Red N D p q) (hq : 0 < q) (e : p * y = x * q) : Red N D x y := by
  refine ⟨h.n0, h.d0, h.co, ?_⟩
  have h1 := h.eq
  refine Int.eq_of_mul_eq_mul_right (a := q) (by omega) ?_
  calc N * y * q = N * q * y := by grind
    _ = p * D * y := by rw [h1]
    _ = p * y * D := by grind
    _ = x * q * D := by rw [e]
    _ = x * D * q := by grind
theorem cd_pos {y : Int} (h : 0 ≤ y) : 0 < cd y := by unfold cd; split <;> omega
theorem cn_nonneg {x : Int} (y : Int) (h : 0 ≤ x) : 0 ≤ cn x y := by unfold cn; split <;> omega
theorem tog_red {p0 q0 p1 q1 V : Int} (h0 : 0 ≤ p0) (hq0 : 0 < q0) (c0 : Int.gcd p0 q0 = 1) (h1 : 0 ≤ p1) (hq1 : 0 < q1) (c1 : Int.gcd p1 q1 = 1)
    (hV : 0 ≤ V) (hn : V = p0 * (q1 / (Int.gcd q0 q1 : Nat)) + p1 * (q0 / (Int.gcd q0 q1 : Nat)) ∨ V = p0 * (q1 / (Int.gcd q0 q1 : Nat)) - p1 * (q0 / (Int.gcd q0 q1 : Nat))) :
    Int.gcd (V / (Int.gcd V (Int.gcd q0 q1 : Nat) : Nat)) (q0 / (Int.gcd q0 q1 : Nat) * (q1 / (Int.gcd V (Int.gcd q0 q1 : Nat) : Nat))) = 1 ∧
    0 ≤ V / (Int.gcd V (Int.gcd q0 q1 : Nat) : Nat) ∧ 0 < q0 / (Int.gcd q0 q1 : Nat) * (q1 / (Int.gcd V (Int.gcd q0 q1 : Nat) : Nat)) ∧
    V / (Int.gcd V (Int.gcd q0 q1 : Nat) : Nat) * (q0 * q1) = V * (Int.gcd q0 q1 : Nat) * (q0 / (Int.gcd q0 q1 : Nat) * (q1 / (Int.gcd V (Int.gcd q0 q1 : Nat) : Nat))) := by
  obtain ⟨p0, rfl⟩ : ∃ a : Nat, p0 = a := ⟨p0.toNat, by omega⟩
  obtain ⟨q0, rfl⟩ : ∃ a : Nat, q0 = a := ⟨q0.toNat, by omega⟩
  obtain ⟨p1, rfl⟩ : ∃ a : Nat, p1 = a := ⟨p1.toNat, by omega⟩
  obtain ⟨q1, rfl⟩ : ∃ a : Nat, q1 = a := ⟨q1.toNat, by omega⟩
  obtain ⟨v, rfl⟩ : ∃ a : Nat, V = a := ⟨V.toNat, by omega⟩
  have g1 : Int.gcd (q0 : Int) q1 = q0.gcd q1 := rfl
  rw [g1] at hn ⊢
  have g2 : Int.gcd (v : Int) ((q0.gcd q1 : Nat) : Int) = v.gcd (q0.gcd q1) := rfl
  rw [g2]
  have hq0' : 0 < q0 := by omega
  have hq1' : 0 < q1 := by omega
  have hg : 0 < q0.gcd q1 := Nat.gcd_pos_of_pos_left _ hq0'
  have hh : 0 < v.gcd (q0.gcd q1) := Nat.gcd_pos_of_pos_right _ hg
  have hn' : v = p0 * (q1 / q0.gcd q1) + p1 * (q0 / q0.gcd q1) ∨ v + p1 * (q0 / q0.gcd q1) = p0 * (q1 / q0.gcd q1) := by
    rw [← Int.natCast_ediv, ← Int.natCast_ediv, ← Int.natCast_mul, ← Int.natCast_mul] at hn
    rcases hn with e | e
    · left; omega
    · right; omega
  have co := tog_nat (num := v) (p0 := p0) (p1 := p1) (q0 := q0) (q1 := q1) c0 c1 hq0' hq1' hn'
  rw [← Int.natCast_ediv, ← Int.natCast_ediv, ← Int.natCast_ediv, ← Int.natCast_mul, ← Int.natCast_mul, ← Int.natCast_mul, ← Int.natCast_mul, ← Int.natCast_mul]
  have dv : v / v.gcd (q0.gcd q1) * v.gcd (q0.gcd q1) = v := Nat.div_mul_cancel (Nat.gcd_dvd_left _ _)
  have d0 : q0 / q0.gcd q1 * q0.gcd q1 = q0 := Nat.div_mul_cancel (Nat.gcd_dvd_left _ _)
  have d1 : q1 / v.gcd (q0.gcd q1) * v.gcd (q0.gcd q1) = q1 := Nat.div_mul_cancel (Nat.dvd_trans (Nat.gcd_dvd_right _ _) (Nat.gcd_dvd_right _ _))
  have l1 : q0.gcd q1 ≤ q0 := Nat.gcd_le_left _ hq0'
  have l2 : v.gcd (q0.gcd q1) ≤ q1 := Nat.le_trans (Nat.gcd_le_right _ hg) (Nat.gcd_le_right _ hq1')
  refine ⟨co, Int.natCast_nonneg _, Int.natCast_pos.2 (Nat.mul_pos (Nat.div_pos l1 hg) (Nat.div_pos l2 hh)), ?_⟩
  congr 1
  generalize q0 / q0.gcd q1 = a at *
  generalize q1 / v.gcd (q0.gcd q1) = b at *
  generalize v / v.gcd (q0.gcd q1) = c at *
  generalize v.gcd (q0.gcd q1) = h at *
  generalize q0.gcd q1 = g at *
  subst d1 dv d0
  grind
/-- the sum of a list, not reduced -/
def rstep (s v : Int × Int) : Int × Int := (s.1 * cd v.2 + cn v.1 v.2 * s.2, s.2 * cd v.2)
def rsum (l : List (Int × Int)) : Int × Int := l.foldl rstep (0, 1)
theorem rsum_step (l : List (Int × Int)) (k : Nat) (h : k < l.length) : rsum (l.take (k + 1)) = rstep (rsum (l.take k)) l[k] := by
  unfold rsum
  rw [List.take_succ_eq_append_getElem h, List.foldl_append]
  rfl
end Go.Proofs.YtjihgkanbhccpaaGreatDoor
