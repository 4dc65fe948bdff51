/- shaped: pages that keep the rules are found to. -/
import Derived.Test.YtplminnejheceaaPgHl
namespace Go.Proofs.Ytplminnejheceaa
namespace Pg
open Go.RowKit Go.Lib
attribute [local go_sem] Oper.semAt_some
/-- the rules of pages -/
structure Shp (P : List (List En)) : Prop where
  one : ∀ es ∈ P, 1 ≤ es.length ∧ es.length ≤ 32
  two : ∀ i x y, P[i]? = some x → P[i + 1]? = some y → 17 ≤ x.length + y.length
theorem IntV.keep {w w' : World} {B : Nat} {v : Value} {l : List Int} (h : IntV w B v l) (hb : Below w.heap.size w w') : IntV w' B v l := by
  obtain ⟨b, c, e, hl, hR⟩ := h.ex
  exact ⟨b, c, e, hl, hR.keep hb⟩
theorem sum_take_le {Z : List Int} (h : ∀ z ∈ Z, 0 ≤ z ∧ z ≤ 32) : ∀ k, 0 ≤ (Z.take k).sum ∧ (Z.take k).sum ≤ 32 * (k : Int)
  | 0 => by simp
  | k + 1 => by
    have ih := sum_take_le h k
    rw [List.take_add_one, List.sum_append]
    cases hz : Z[k]? with
    | none => simp; omega
    | some z =>
      have := h z (List.mem_of_getElem? hz)
      simp; omega
theorem sum_lens (P : List (List En)) : (P.map fun es => (es.length : Int)).sum = (P.flatten.length : Int) := by
  induction P with
  | nil => rfl
  | cons a P ih => simp only [List.map_cons, List.sum_cons, ih, List.flatten_cons, List.length_append]; omega
theorem ld_i {w : World} {g o : Nat} {v : Int} (c : w.cell? ⟨g, o, none⟩ = some (.int .i64 v)) : (loadVar 3 ⟨g, o, none⟩).run Try.prog w = .ok (.int .i64 v) w := by go_simp
end Pg
end Go.Proofs.Ytplminnejheceaa
