/- A list of numbers as an argument, wherever it lies. -/
import Derived.Test.YtemkjdanemddpaaGreatJag
import Derived.Test.YtemkjdanemddpaaGreatJar
import Derived.Deep.Slices
import Derived.ChangeSlices
import Derived.OpenShut
namespace Go.Proofs.YtemkjdanemddpaaGreat
namespace Pt
open Go.RowKit Lim Go.ChangeShapes Go.WideShapes
theorem addr_add (b o j : Nat) : (⟨b, o, none⟩ : Addr).add j = ⟨b, o + j, none⟩ := by
  by_cases e : j = 0
  · subst e; rfl
  · simp [Addr.add, e]
theorem spot_n {w : World} {x : Addr} {v : Value} (hx : w.cell? x = some v) : x.spot = none := by
  simp only [World.cell?] at hx
  cases hh : w.heap[x.block]? with
  | none => rw [hh] at hx; simp at hx
  | some ob =>
    rw [hh] at hx
    cases ob with
    | cells c e f =>
      simp at hx
      cases hs : x.spot with
      | none => rfl
      | some s => rw [hs] at hx; simp at hx
    | _ => simp at hx
theorem tok_in {H : Type} {enc : TypeId × Value → H} {W : World} {base fuel : Nat} {spare : Nat → Bool} {held : Bool} {A : Addr} {cs : List Value} {x : DataW H × List MemPlace}
    (hc : W.cells? base A 1 = some cs) (h : DataW.trod enc Tryz.prog W base spare held fuel 31 cs = some x) : ∃ v, A.spot = none ∧ W.cell? ⟨A.block, A.off, none⟩ = some (.int .u64 v) := by
  obtain ⟨_, hlen, hcell⟩ := World.cells?_some hc
  obtain ⟨n0, e0, _, w0⟩ := DataW.trod_int Tryz.underlying31 h
  subst e0
  have c0 := hcell 0 (by decide)
  have hsp : A.spot = none := by
    rw [show A.add 0 = A from rfl] at c0
    exact spot_n c0
  obtain ⟨b, o, sp⟩ := A
  obtain rfl : sp = none := hsp
  rw [addr_add] at c0
  simp at c0
  exact ⟨n0, rfl, c0⟩
theorem toks_in {H : Type} {enc : TypeId × Value → H} {W : World} {base fuel : Nat} {spare : Nat → Bool} {held : Bool} {a : Option Addr} {len cap : Nat} {x : DataW H × List MemPlace} (hs : ∀ b, spare b = true)
    (h : DataW.trod enc Tryz.prog W base spare held fuel 40 [.slice a len cap] = some x) : ∃ b o tk, Nu W a len b o tk ∧ len ≤ 9223372036854775807 ∧ (len = 0 → a = none → cap = 0) := by
  have q5 : Tryz.prog.cellsOf 31 = 1 := by kernel_rfl
  rcases Go.Deep.open_slice Tryz.underlying40 h with ⟨hcs, _⟩ | ⟨A, l, c, m, n, D, Pl, hcs, _, hl, hm, hmm, rfl, hx⟩
  · simp at hcs
    obtain ⟨rfl, rfl, rfl⟩ := hcs
    exact ⟨0, 0, fun _ => 0, ⟨fun h => absurd h (by decide), fun i h => absurd h (by omega)⟩, by decide, fun _ _ => rfl⟩
  · simp at hcs
    obtain ⟨rfl, rfl, rfl⟩ := hcs
    have hmc : m = cap := by rw [hmm, hs]; rfl
    have each0 : ∀ i, i < len → ∃ v, (A.add (i * 1)).spot = none ∧ W.cell? ⟨(A.add (i * 1)).block, (A.add (i * 1)).off, none⟩ = some (.int .u64 v) := fun i hi => by
      obtain ⟨cs', h1, h2⟩ := hx i (by omega)
      rw [q5] at h1
      exact tok_in h1 h2
    have hsp : 0 < len → A.spot = none := fun h0 => by
      obtain ⟨s, k1, _⟩ := each0 0 h0
      exact k1
    have each : ∀ i, i < len → ∃ v, A = ⟨A.block, A.off, none⟩ ∧ W.cell? ⟨A.block, A.off + i * 1, none⟩ = some (.int .u64 v) := fun i hi => by
      obtain ⟨s, k1, k2⟩ := each0 i hi
      have e := hsp (by omega)
      obtain ⟨b, o, sp⟩ := A
      obtain rfl : sp = none := e
      rw [addr_add] at k2
      exact ⟨s, rfl, k2⟩
    obtain ⟨f, hf⟩ := Go.Deep.choose_lt each
    exact ⟨A.block, A.off, f, ⟨fun h0 => congrArg some (hf 0 h0).1, fun i hi => (hf i hi).2⟩, by unfold maxLen at hm; omega, fun _ h => by cases h⟩
end Pt
end Go.Proofs.YtemkjdanemddpaaGreat
