/- A script of power's as an argument: its steps in memory. -/
import Derived.Test.YtidnifmehnjipaaGreatJav
import Derived.Test.YtidnifmehnjipaaGreatJaj
import Derived.Deep.Slices
import Derived.ChangeSlices
import Derived.OpenShut
namespace Go.Proofs.YtidnifmehnjipaaGreat
namespace Pw
open Go.RowKit Lim Go.ChangeShapes Go.WideShapes
theorem spot_n {w : World} {x : Addr} {v : Value} (hx : w.cell? x = some v) : x.spot = none := by
  simp only [World.cell?] at hx
  cases hh : w.heap[x.block]? with
  | none => rw [hh] at hx; simp at hx
  | some ob =>
    rw [hh] at hx
    cases ob with
    | cells c e f =>
      simp at hx
      cases hs : x.spot with
      | none => rfl
      | some s => rw [hs] at hx; simp at hx
    | _ => simp at hx
theorem four_list {α : Type} {l : List α} (h : l.length = 4) : ∃ a b c d, l = [a, b, c, d] := by
  match l, h with
  | [a, b, c, d], _ => exact ⟨a, b, c, d, rfl⟩
structure Stq (W : World) (b o : Nat) (s : Int × Int × Int × Int) : Prop where
  cell : W.cell? ⟨b, o, none⟩ = some (.int .i64 s.1) ∧ W.cell? ⟨b, o + 1, none⟩ = some (.int .i64 s.2.1) ∧ W.cell? ⟨b, o + 2, none⟩ = some (.int .u64 s.2.2.1) ∧ W.cell? ⟨b, o + 3, none⟩ = some (.int .u64 s.2.2.2)
  rng : (0 ≤ s.2.2.1 ∧ s.2.2.1 < 18446744073709551616) ∧ (0 ≤ s.2.2.2 ∧ s.2.2.2 < 18446744073709551616)
theorem u64w {v : Int} (b : (Lit.int .u64 v).wf = true) : 0 ≤ v ∧ v < 18446744073709551616 := by
  have := bounds_u64 b
  omega
end Pw
end Go.Proofs.YtidnifmehnjipaaGreat
