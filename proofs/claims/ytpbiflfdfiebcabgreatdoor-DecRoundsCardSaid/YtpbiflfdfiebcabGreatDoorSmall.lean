/- gleanlaw1.small; gleanhelp.Normal; an argument's limbs. -/
import Derived.Test.YtpbiflfdfiebcabGreatDoorHelp
import Derived.Test.YtpbiflfdfiebcabGreatDoorAdd
import Derived.OpenShut
namespace Go.Proofs.YtpbiflfdfiebcabGreatDoor
open Go.RowKit Lim

/-- the list's values are slices of these lengths -/
def smallB (vs : List (Option Addr × Nat × Nat)) : Bool := vs.all fun v => decide (v.2.1 ≤ 60)
def theNth (vs : List (Option Addr × Nat × Nat)) (i : Nat) : Option Addr × Nat × Nat := vs.getD i (none, 0, 0)

theorem cell_new (w : World) (cs : Array Value) (t : TypeId) (i : Nat) : (w.alloc (.cells cs t)).cell? ⟨w.heap.size, i, none⟩ = cs[i]? := by
  have h : (w.alloc (.cells cs t)).heap[w.heap.size]? = some (.cells cs t (0, 0)) := by
    show (w.heap.push _)[w.heap.size]? = _
    rw [Array.getElem?_push_size]
  simp only [World.cell?, h]
  simp
/-- what the row says of a slice of limbs that came in -/
def IsRow (w : World) (a : Option Addr) (len cap : Nat) (zs : List Int) : Prop :=
  (a = none ∧ len = 0 ∧ cap = 0 ∧ zs = []) ∨
  ∃ x, a = some x ∧ len ≤ cap ∧ cap ≤ maxLen ∧ zs.length = cap ∧ (∀ i, i < zs.length → w.cell? (x.add i) = some (.int .u64 (zs.getD i 0))) ∧ ∀ n ∈ zs, (Lit.int .u64 n).wf = true
theorem IsRow.open {w : World} {a : Option Addr} {len cap : Nat} {zs : List Int} (h : IsRow w a len cap zs) : ∃ b o l, l.length = len ∧ len ≤ cap ∧ len ≤ 9223372036854775807 ∧ Words l ∧ At w a b o l := by
  rcases h with ⟨rfl, rfl, rfl, rfl⟩ | ⟨x, rfl, h1, h2, h3, h4, h5⟩
  · exact ⟨0, 0, [], rfl, Nat.le_refl _, by decide, Words.nil, .inl rfl, fun i hi => by simp at hi⟩
  · have hw : Words (zs.take len) := fun y hy => by
      have := h5 y (List.mem_of_mem_take hy)
      have := bounds_u64 this
      omega
    have hl : (zs.take len).length = len := by simp; omega
    have hmx : len ≤ 9223372036854775807 := by unfold maxLen at h2; omega
    by_cases h0 : len = 0
    · refine ⟨0, 0, zs.take len, hl, h1, hmx, hw, .inl (List.eq_nil_of_length_eq_zero (by omega)), fun i hi => by omega⟩
    · have hx := h4 0 (by omega)
      have hsp : x.spot = none := by
        rw [show x.add 0 = x from rfl] at hx
        simp only [World.cell?] at hx
        cases hh : w.heap[x.block]? with
        | none => rw [hh] at hx; simp at hx
        | some ob =>
          rw [hh] at hx
          cases ob with
          | cells c e f =>
            simp at hx
            cases hs : x.spot with
            | none => rfl
            | some s => rw [hs] at hx; simp at hx
          | _ => simp at hx
      obtain ⟨b, o, sp⟩ := x
      simp at hsp
      subst hsp
      refine ⟨b, o, zs.take len, hl, h1, hmx, hw, .inr rfl, fun i hi => ?_⟩
      have h6 := h4 i (by omega)
      rw [nth_take (by omega)]
      have e : (⟨b, o, none⟩ : Addr).add i = ⟨b, o + i, none⟩ := by
        by_cases hi0 : i = 0
        · subst hi0; rfl
        · simp [Addr.add, hi0]
      rw [e] at h6
      exact h6
end Go.Proofs.YtpbiflfdfiebcabGreatDoor
