/- falling: the iterator over a map's entries, from the last one on. -/
import Derived.Test.YtplminnejheceaaPgIc
namespace Go.Proofs.Ytplminnejheceaa
namespace Pg
open Go.RowKit Go.Lib
attribute [local go_sem] Oper.semAt_some
theorem rev_at {α : Type} {l : List α} {i j : Nat} {x : α} (h : l[j]? = some x) (hij : j + 1 + i = l.length) : l.reverse[i]? = some x := by
  rw [List.getElem?_reverse (by omega), show l.length - 1 - i = j by omega]; exact h
theorem rev_flatMap {α β : Type} (l : List α) (f : α → List β) : (l.flatMap f).reverse = l.reverse.flatMap fun x => (f x).reverse := by
  induction l with
  | nil => rfl
  | cons a l ih => simp [List.flatMap_cons, ih]
end Pg
end Go.Proofs.Ytplminnejheceaa
