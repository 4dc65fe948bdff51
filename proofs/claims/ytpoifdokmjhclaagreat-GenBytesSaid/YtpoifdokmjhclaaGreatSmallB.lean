/- an argument's bytes. -/
import Derived.Test.YtpoifdokmjhclaaGreatJyb
import Derived.Test.YtpoifdokmjhclaaGreatJya
namespace Go.Proofs.YtpoifdokmjhclaaGreat
open Go.RowKit Lim

/-- what the row says of a slice of bytes that came in -/
def IsRowB (w : World) (a : Option Addr) (len cap : Nat) (zs : List Int) : Prop :=
  (a = none ∧ len = 0 ∧ cap = 0 ∧ zs = []) ∨
  ∃ x, a = some x ∧ len ≤ cap ∧ cap ≤ maxLen ∧ zs.length = cap ∧ (∀ i, i < zs.length → w.cell? (x.add i) = some (.int .u8 (zs.getD i 0))) ∧ ∀ n ∈ zs, (Lit.int .u8 n).wf = true
theorem IsRowB.open {w : World} {a : Option Addr} {len cap : Nat} {zs : List Int} (h : IsRowB w a len cap zs) : ∃ b o l, l.length = len ∧ len ≤ cap ∧ len ≤ 9223372036854775807 ∧ Octets l ∧ AtB w a b o l := by
  rcases h with ⟨rfl, rfl, rfl, rfl⟩ | ⟨x, rfl, h1, h2, h3, h4, h5⟩
  · exact ⟨0, 0, [], rfl, Nat.le_refl _, by decide, fun x hx => by simp at hx, .inl rfl, fun i hi => by simp at hi⟩
  · have hw : Octets (zs.take len) := fun y hy => by
      have := h5 y (List.mem_of_mem_take hy)
      have := bounds_u8 this
      omega
    have hl : (zs.take len).length = len := by simp; omega
    have hmx : len ≤ 9223372036854775807 := by unfold maxLen at h2; omega
    by_cases h0 : len = 0
    · refine ⟨0, 0, zs.take len, hl, h1, hmx, hw, .inl (List.eq_nil_of_length_eq_zero (by omega)), fun i hi => by omega⟩
    · have hx := h4 0 (by omega)
      have hsp : x.spot = none := by
        rw [show x.add 0 = x from rfl] at hx
        simp only [World.cell?] at hx
        cases hh : w.heap[x.block]? with
        | none => rw [hh] at hx; simp at hx
        | some ob =>
          rw [hh] at hx
          cases ob with
          | cells c e f =>
            simp at hx
            cases hs : x.spot with
            | none => rfl
            | some s => rw [hs] at hx; simp at hx
          | _ => simp at hx
      obtain ⟨b, o, sp⟩ := x
      simp at hsp
      subst hsp
      refine ⟨b, o, zs.take len, hl, h1, hmx, hw, .inr rfl, fun i hi => ?_⟩
      have h6 := h4 i (by omega)
      rw [nth_take (by omega)]
      have e : (⟨b, o, none⟩ : Addr).add i = ⟨b, o + i, none⟩ := by
        by_cases hi0 : i = 0
        · subst hi0; rfl
        · simp [Addr.add, hi0]
      rw [e] at h6
      exact h6
end Go.Proofs.YtpoifdokmjhclaaGreat
