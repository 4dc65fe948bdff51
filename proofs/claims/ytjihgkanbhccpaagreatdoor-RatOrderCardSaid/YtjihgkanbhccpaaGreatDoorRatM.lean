/- Reduced fractions (mathematics alone): one a value; sums and differences over the least common denominator. -/
import Derived.Test.YtjihgkanbhccpaaGreatDoorRat2
namespace Go.Proofs.YtjihgkanbhccpaaGreatDoor
open Go.RowKit Lim

/-- N / D is the reduced fraction of p / q -/
structure Red (N D p q : Int) : Prop where
  n0 : 0 ≤ N
  d0 : 0 < D
  co : Int.gcd N D = 1
  eq : N * q = p * D
theorem red_unique_nat {a b c d : Nat} (h : a.Coprime b) (k : c.Coprime d) (e : a * d = c * b) : a = c ∧ b = d := by
  have h1 : b ∣ d := h.symm.dvd_of_dvd_mul_left (by rw [e]; exact Nat.dvd_mul_left _ _)
  have h2 : d ∣ b := k.symm.dvd_of_dvd_mul_left (by rw [← e]; exact Nat.dvd_mul_left _ _)
  have h3 := Nat.dvd_antisymm h1 h2
  have h4 : a ∣ c := h.dvd_of_dvd_mul_right (by rw [← e]; exact Nat.dvd_mul_right _ _)
  have h5 : c ∣ a := k.dvd_of_dvd_mul_right (by rw [e]; exact Nat.dvd_mul_right _ _)
  exact ⟨Nat.dvd_antisymm h4 h5, h3⟩
theorem Red.unique {N D p q N' D' p' q' : Int} (h : Red N D p q) (k : Red N' D' p' q') (hq : 0 < q) (hq' : 0 < q') (e : p * q' = p' * q) : N = N' ∧ D = D' := by
  have h0 := h.n0
  have h1 := h.d0
  have k0 := k.n0
  have k1 := k.d0
  obtain ⟨a, rfl⟩ : ∃ a : Nat, N = a := ⟨N.toNat, by omega⟩
  obtain ⟨b, rfl⟩ : ∃ b : Nat, D = b := ⟨D.toNat, by omega⟩
  obtain ⟨c, rfl⟩ : ∃ c : Nat, N' = c := ⟨N'.toNat, by omega⟩
  obtain ⟨d, rfl⟩ : ∃ d : Nat, D' = d := ⟨D'.toNat, by omega⟩
  have e1 : (a : Int) * d = c * b := by
    have hh := h.eq
    have kk := k.eq
    have hqq : q * q' ≠ 0 := Int.mul_ne_zero (by omega) (by omega)
    apply Int.eq_of_mul_eq_mul_right hqq
    have s1 : (a : Int) * d * (q * q') = (a * q) * (d * q') := by grind
    have s2 : (c : Int) * b * (q * q') = (c * q') * (b * q) := by grind
    rw [s1, s2, hh, kk]
    have s3 : p * ↑b * (↑d * q') = (p * q') * (b * d) := by grind
    have s4 : p' * ↑d * (↑b * q) = (p' * q) * (b * d) := by grind
    rw [s3, s4, e]
  have e2 : a * d = c * b := by
    have : ((a * d : Nat) : Int) = ((c * b : Nat) : Int) := by rw [Int.natCast_mul, Int.natCast_mul]; exact e1
    exact Int.ofNat.inj this
  have hc : a.Coprime b := h.co
  have kc : c.Coprime d := k.co
  obtain ⟨r1, r2⟩ := red_unique_nat hc kc e2
  exact ⟨by rw [r1], by rw [r2]⟩
theorem red_of {x y : Int} (hx : 0 ≤ x) (hy : 0 < y) : Red (rn x y) (rd x y) x y := by
  obtain ⟨a, rfl⟩ : ∃ a : Nat, x = a := ⟨x.toNat, by omega⟩
  obtain ⟨b, rfl⟩ : ∃ b : Nat, y = b := ⟨y.toNat, by omega⟩
  have hb : 0 < b := by omega
  have hg : 0 < a.gcd b := Nat.gcd_pos_of_pos_right _ hb
  have e1 : rn a b = ((a / a.gcd b : Nat) : Int) := by unfold rn; rw [Int.natCast_ediv]; rfl
  have e2 : rd a b = ((b / a.gcd b : Nat) : Int) := by unfold rd; rw [Int.natCast_ediv]; rfl
  rw [e1, e2]
  refine ⟨Int.natCast_nonneg _, ?_, Nat.coprime_div_gcd_div_gcd hg, ?_⟩
  · have : 0 < b / a.gcd b := Nat.div_pos (Nat.gcd_le_right _ hb) hg
    exact Int.natCast_pos.2 this
  · have h1 : a / a.gcd b * a.gcd b = a := Nat.div_mul_cancel (Nat.gcd_dvd_left _ _)
    have h2 : b / a.gcd b * a.gcd b = b := Nat.div_mul_cancel (Nat.gcd_dvd_right _ _)
    have h3 : a / a.gcd b * b = a * (b / a.gcd b) := by
      conv => lhs; rw [← h2]
      conv => rhs; rw [← h1]
      grind
    rw [← Int.natCast_mul, ← Int.natCast_mul, h3]
/-- num over l q1, where l q1 is the least common denominator -/
theorem tog_nat {p0 p1 q0 q1 num : Nat} (h0 : p0.Coprime q0) (h1 : p1.Coprime q1) (hq0 : 0 < q0) (hq1 : 0 < q1)
    (hn : num = p0 * (q1 / q0.gcd q1) + p1 * (q0 / q0.gcd q1) ∨ num + p1 * (q0 / q0.gcd q1) = p0 * (q1 / q0.gcd q1)) :
    (num / num.gcd (q0.gcd q1)).Coprime (q0 / q0.gcd q1 * (q1 / num.gcd (q0.gcd q1))) := by
  have hg : 0 < q0.gcd q1 := Nat.gcd_pos_of_pos_left _ hq0
  obtain ⟨l, hl⟩ : ∃ l, q0 / q0.gcd q1 = l := ⟨_, rfl⟩
  obtain ⟨r, hr⟩ : ∃ r, q1 / q0.gcd q1 = r := ⟨_, rfl⟩
  have cl : l.Coprime r := by rw [← hl, ← hr]; exact Nat.coprime_div_gcd_div_gcd hg
  have el : l * q0.gcd q1 = q0 := by rw [← hl]; exact Nat.div_mul_cancel (Nat.gcd_dvd_left _ _)
  have er : r * q0.gcd q1 = q1 := by rw [← hr]; exact Nat.div_mul_cancel (Nat.gcd_dvd_right _ _)
  rw [hl, hr] at hn
  rw [hl]
  have d1 : num.gcd (q0.gcd q1) ∣ q1 := Nat.dvd_trans (Nat.gcd_dvd_right _ _) (Nat.gcd_dvd_right _ _)
  generalize hG : q0.gcd q1 = g at *
  have c0l : p0.Coprime l := Nat.Coprime.coprime_mul_right_right (k := g) (by rw [el]; exact h0)
  have c1r : p1.Coprime r := Nat.Coprime.coprime_mul_right_right (k := g) (by rw [er]; exact h1)
  have nl : l.Coprime num := by
    have a1 : (p0 * r).gcd l = 1 := Nat.Coprime.mul_left c0l cl.symm
    rcases hn with e | e
    · have : num.gcd l = 1 := by rw [e, Nat.gcd_add_mul_right_left]; exact a1
      exact Nat.Coprime.symm this
    · have : num.gcd l = 1 := by rw [← Nat.gcd_add_mul_right_left l num p1, e]; exact a1
      exact Nat.Coprime.symm this
  have nr : r.Coprime num := by
    have a1 : (p1 * l).gcd r = 1 := Nat.Coprime.mul_left c1r cl
    rcases hn with e | e
    · have : num.gcd r = 1 := by rw [e, Nat.add_comm, Nat.gcd_add_mul_right_left]; exact a1
      exact Nat.Coprime.symm this
    · have h2 : (num + p1 * l).gcd r = r := by rw [e]; exact Nat.gcd_eq_right (Nat.dvd_mul_left _ _)
      have h3 : num.gcd r ∣ p1 * l := by
        have s1 : num.gcd r ∣ num + p1 * l := Nat.dvd_trans (Nat.gcd_dvd_right _ _) (by rw [e]; exact Nat.dvd_mul_left _ _)
        exact (Nat.dvd_add_right (Nat.gcd_dvd_left _ _)).1 s1
      have h4 : num.gcd r ∣ (p1 * l).gcd r := Nat.dvd_gcd h3 (Nat.gcd_dvd_right _ _)
      rw [a1] at h4
      exact Nat.Coprime.symm (Nat.dvd_one.1 h4)
  have e1 : num.gcd (l * q1) = num.gcd g := by
    rw [Nat.Coprime.gcd_mul_left_cancel_right q1 nl, ← er, Nat.Coprime.gcd_mul_left_cancel_right g nr]
  have e2 : l * (q1 / num.gcd g) = l * q1 / num.gcd g := (Nat.mul_div_assoc l d1).symm
  rw [e2, ← e1]
  have hlp : 0 < l := by
    rcases Nat.eq_zero_or_pos l with e | e
    · subst e; simp at el; omega
    · exact e
  exact Nat.coprime_div_gcd_div_gcd (Nat.gcd_pos_of_pos_right _ (Nat.mul_pos hlp hq1))
end Go.Proofs.YtjihgkanbhccpaaGreatDoor
