/- Package rat: sums and differences as reduced fractions. -/
import Derived.Test.YtjihgkanbhccpaaGreatDoorRatN
namespace Go.Proofs.YtjihgkanbhccpaaGreatDoor
open Go.RowKit Lim

theorem tog_back (p0 p1 q0 q1 : Int) : p0 * (q1 / (Int.gcd q0 q1 : Nat)) * (Int.gcd q0 q1 : Nat) = p0 * q1 ∧ p1 * (q0 / (Int.gcd q0 q1 : Nat)) * (Int.gcd q0 q1 : Nat) = p1 * q0 := by
  rw [Int.mul_assoc, Int.ediv_mul_cancel (Int.gcd_dvd_right q0 q1), Int.mul_assoc, Int.ediv_mul_cancel (Int.gcd_dvd_left q0 q1)]
  exact ⟨rfl, rfl⟩
theorem tog_le {p0 q0 x0 y0 p1 q1 x1 y1 : Int} (R0 : Red p0 q0 x0 y0) (R1 : Red p1 q1 x1 y1) (hy0 : 0 < y0) (hy1 : 0 < y1) :
    p1 * (q0 / (Int.gcd q0 q1 : Nat)) ≤ p0 * (q1 / (Int.gcd q0 q1 : Nat)) ↔ x1 * y0 ≤ x0 * y1 := by
  have hq0 := R0.d0
  have hq1 := R1.d0
  have e0 := R0.eq
  have e1 := R1.eq
  have hg : 0 < ((Int.gcd q0 q1 : Nat) : Int) := by
    have : 0 < Int.gcd q0 q1 := Int.gcd_pos_of_ne_zero_left _ (by omega)
    omega
  obtain ⟨b0, b1⟩ := tog_back p0 p1 q0 q1
  have hq : 0 < q0 * q1 := Int.mul_pos hq0 hq1
  have hy : 0 < y0 * y1 := Int.mul_pos hy0 hy1
  have f0 : p0 * q1 * (y0 * y1) = x0 * y1 * (q0 * q1) := by
    calc p0 * q1 * (y0 * y1) = p0 * y0 * (q1 * y1) := by grind
      _ = x0 * q0 * (q1 * y1) := by rw [e0]
      _ = _ := by grind
  have f1 : p1 * q0 * (y0 * y1) = x1 * y0 * (q0 * q1) := by
    calc p1 * q0 * (y0 * y1) = p1 * y1 * (q0 * y0) := by grind
      _ = x1 * q1 * (q0 * y0) := by rw [e1]
      _ = _ := by grind
  constructor
  · intro h
    have h1 := Int.mul_le_mul_of_nonneg_right h (Int.le_of_lt hg)
    rw [b0, b1] at h1
    have h2 := Int.mul_le_mul_of_nonneg_right h1 (Int.le_of_lt hy)
    rw [f0, f1] at h2
    exact Int.le_of_mul_le_mul_right h2 hq
  · intro h
    have h2 := Int.mul_le_mul_of_nonneg_right h (Int.le_of_lt hq)
    rw [← f0, ← f1] at h2
    have h1 := Int.le_of_mul_le_mul_right h2 hy
    rw [← b0, ← b1] at h1
    exact Int.le_of_mul_le_mul_right h1 hg
theorem tog_sum {p0 q0 x0 y0 p1 q1 x1 y1 : Int} (R0 : Red p0 q0 x0 y0) (R1 : Red p1 q1 x1 y1) :
    Red ((p0 * (q1 / (Int.gcd q0 q1 : Nat)) + p1 * (q0 / (Int.gcd q0 q1 : Nat))) / (Int.gcd (p0 * (q1 / (Int.gcd q0 q1 : Nat)) + p1 * (q0 / (Int.gcd q0 q1 : Nat))) (Int.gcd q0 q1 : Nat) : Nat))
      (q0 / (Int.gcd q0 q1 : Nat) * (q1 / (Int.gcd (p0 * (q1 / (Int.gcd q0 q1 : Nat)) + p1 * (q0 / (Int.gcd q0 q1 : Nat))) (Int.gcd q0 q1 : Nat) : Nat))) (x0 * y1 + x1 * y0) (y0 * y1) := by
  have hq0 := R0.d0
  have hq1 := R1.d0
  have e0 := R0.eq
  have e1 := R1.eq
  have hV : 0 ≤ p0 * (q1 / (Int.gcd q0 q1 : Nat)) + p1 * (q0 / (Int.gcd q0 q1 : Nat)) :=
    Int.add_nonneg (Int.mul_nonneg R0.n0 (Int.ediv_nonneg (by omega) (Int.natCast_nonneg _))) (Int.mul_nonneg R1.n0 (Int.ediv_nonneg (by omega) (Int.natCast_nonneg _)))
  obtain ⟨c, n, d, e⟩ := tog_red R0.n0 hq0 R0.co R1.n0 hq1 R1.co hV (.inl rfl)
  obtain ⟨b0, b1⟩ := tog_back p0 p1 q0 q1
  refine Red.cross (q := q0 * q1) ⟨n, d, c, e⟩ (Int.mul_pos hq0 hq1) ?_
  rw [Int.add_mul, b0, b1]
  calc (p0 * q1 + p1 * q0) * (y0 * y1) = p0 * y0 * (q1 * y1) + p1 * y1 * (q0 * y0) := by grind
    _ = x0 * q0 * (q1 * y1) + x1 * q1 * (q0 * y0) := by rw [e0, e1]
    _ = _ := by grind
theorem tog_diff {p0 q0 x0 y0 p1 q1 x1 y1 : Int} (R0 : Red p0 q0 x0 y0) (R1 : Red p1 q1 x1 y1) (h : p1 * (q0 / (Int.gcd q0 q1 : Nat)) ≤ p0 * (q1 / (Int.gcd q0 q1 : Nat))) :
    Red ((p0 * (q1 / (Int.gcd q0 q1 : Nat)) - p1 * (q0 / (Int.gcd q0 q1 : Nat))) / (Int.gcd (p0 * (q1 / (Int.gcd q0 q1 : Nat)) - p1 * (q0 / (Int.gcd q0 q1 : Nat))) (Int.gcd q0 q1 : Nat) : Nat))
      (q0 / (Int.gcd q0 q1 : Nat) * (q1 / (Int.gcd (p0 * (q1 / (Int.gcd q0 q1 : Nat)) - p1 * (q0 / (Int.gcd q0 q1 : Nat))) (Int.gcd q0 q1 : Nat) : Nat))) (x0 * y1 - x1 * y0) (y0 * y1) := by
  have hq0 := R0.d0
  have hq1 := R1.d0
  have e0 := R0.eq
  have e1 := R1.eq
  have hV : 0 ≤ p0 * (q1 / (Int.gcd q0 q1 : Nat)) - p1 * (q0 / (Int.gcd q0 q1 : Nat)) := Int.sub_nonneg.2 h
  obtain ⟨c, n, d, e⟩ := tog_red R0.n0 hq0 R0.co R1.n0 hq1 R1.co hV (.inr rfl)
  obtain ⟨b0, b1⟩ := tog_back p0 p1 q0 q1
  refine Red.cross (q := q0 * q1) ⟨n, d, c, e⟩ (Int.mul_pos hq0 hq1) ?_
  rw [Int.sub_mul, b0, b1]
  calc (p0 * q1 - p1 * q0) * (y0 * y1) = p0 * y0 * (q1 * y1) - p1 * y1 * (q0 * y0) := by grind
    _ = x0 * q0 * (q1 * y1) - x1 * q1 * (q0 * y0) := by rw [e0, e1]
    _ = _ := by grind
theorem qStepR {w : World} {a0 b0 : Option Addr} {n0 c0 m0 d0 : Nat} {x0 y0 : Int} {a1 b1 : Option Addr} {n1 c1 m1 d1 : Nat} {x1 y1 X Y : Int} (h0 : NatA w a0 n0 c0 x0) (e0 : NatA w b0 m0 d0 y0) (hn0 : n0 ≤ 8589934592) (hm0 : m0 ≤ 8589934592) (h1 : NatA w a1 n1 c1 x1) (e1 : NatA w b1 m1 d1 y1) (hn1 : n1 ≤ 8589934592) (hm1 : m1 ≤ 8589934592) (R : Red x0 y0 X Y) :
    Calls Tryz.prog 76 #[.agg #[.slice a0 n0 c0, .slice b0 m0 d0], .agg #[.slice a1 n1 c1, .slice b1 m1 d1]] w fun e w' => ∃ a k d a' k' d' N D, e = .returned (.agg #[.slice a k d, .slice a' k' d']) ∧ NatO w' a k d N ∧ NatO w' a' k' d' D ∧ Red N D (rstep (X, Y) (x1, y1)).1 (rstep (X, Y) (x1, y1)).2 ∧ k ≤ n0 + n1 + m0 + m1 + 3 ∧ k' ≤ m0 + m1 + 2 ∧ Below w.heap.size w w' := by
  have R1 := red_of (cn_nonneg y1 h1.nonneg) (cd_pos e1.nonneg)
  have hd := R.d0
  refine (qStep h0 e0 hn0 hm0 h1 e1 hn1 hm1 (by omega)).mono ?_
  rintro e w1 ⟨a, k, d, a', k', d', rfl, O1, O2, hk, hk', hB⟩
  exact ⟨a, k, d, a', k', d', _, _, rfl, O1, O2, tog_sum R R1, hk, hk', hB⟩
/-- rat.Sub: a - b in lowest terms where it is not below 0 -/
theorem qSubR {w : World} {a0 b0 : Option Addr} {n0 c0 m0 d0 : Nat} {x0 y0 : Int} {a1 b1 : Option Addr} {n1 c1 m1 d1 : Nat} {x1 y1 : Int} (h0 : NatA w a0 n0 c0 x0) (e0 : NatA w b0 m0 d0 y0) (hn0 : n0 ≤ 8589934592) (hm0 : m0 ≤ 8589934592) (h1 : NatA w a1 n1 c1 x1) (e1 : NatA w b1 m1 d1 y1) (hn1 : n1 ≤ 8589934592) (hm1 : m1 ≤ 8589934592) (hge : cn x1 y1 * cd y0 ≤ cn x0 y0 * cd y1) :
    Calls Tryz.prog 27 #[.agg #[.slice a0 n0 c0, .slice b0 m0 d0], .agg #[.slice a1 n1 c1, .slice b1 m1 d1]] w fun e w' => ∃ a k d a' k' d' N D, e = .returned (.tuple #[.agg #[.slice a k d, .slice a' k' d'], .int .i64 0]) ∧ NatO w' a k d N ∧ NatO w' a' k' d' D ∧ Red N D (cn x0 y0 * cd y1 - cn x1 y1 * cd y0) (cd y0 * cd y1) ∧ k ≤ n0 + n1 + m0 + m1 + 3 ∧ k' ≤ m0 + m1 + 2 ∧ Below w.heap.size w w' := by
  have R0 := red_of (cn_nonneg y0 h0.nonneg) (cd_pos e0.nonneg)
  have R1 := red_of (cn_nonneg y1 h1.nonneg) (cd_pos e1.nonneg)
  have hh := (tog_le R0 R1 (cd_pos e0.nonneg) (cd_pos e1.nonneg)).2 hge
  refine (qSub h0 e0 hn0 hm0 h1 e1 hn1 hm1 hh).mono ?_
  rintro e w1 ⟨a, k, d, a', k', d', rfl, O1, O2, hk, hk', hB⟩
  exact ⟨a, k, d, a', k', d', _, _, rfl, O1, O2, tog_diff R0 R1 hh, hk, hk', hB⟩
theorem qSubRLt {w : World} {a0 b0 : Option Addr} {n0 c0 m0 d0 : Nat} {x0 y0 : Int} {a1 b1 : Option Addr} {n1 c1 m1 d1 : Nat} {x1 y1 : Int} (h0 : NatA w a0 n0 c0 x0) (e0 : NatA w b0 m0 d0 y0) (hn0 : n0 ≤ 8589934592) (hm0 : m0 ≤ 8589934592) (h1 : NatA w a1 n1 c1 x1) (e1 : NatA w b1 m1 d1 y1) (hn1 : n1 ≤ 8589934592) (hm1 : m1 ≤ 8589934592) (hlt : cn x0 y0 * cd y1 < cn x1 y1 * cd y0) :
    Calls Tryz.prog 27 #[.agg #[.slice a0 n0 c0, .slice b0 m0 d0], .agg #[.slice a1 n1 c1, .slice b1 m1 d1]] w fun e w' => e = .returned (.tuple #[.agg #[.slice none 0 0, .slice none 0 0], .int .i64 31]) ∧ Below w.heap.size w w' := by
  have R0 := red_of (cn_nonneg y0 h0.nonneg) (cd_pos e0.nonneg)
  have R1 := red_of (cn_nonneg y1 h1.nonneg) (cd_pos e1.nonneg)
  refine qSubLt h0 e0 hn0 hm0 h1 e1 hn1 hm1 (Int.not_le.1 fun h => ?_)
  have := (tog_le R0 R1 (cd_pos e0.nonneg) (cd_pos e1.nonneg)).1 h
  omega
end Go.Proofs.YtjihgkanbhccpaaGreatDoor
