/- Several texts, joined: KvCb, KvLi, KvCc, KvCd, KvCe, KvCg. -/
import Derived.Test.YtagnmdejdeeenaaGreatJae
import Derived.Lib.SlBytesConst
namespace Go.Proofs.YtagnmdejdeeenaaGreat
namespace Kv
open Go.RowKit Go.Lib Pg
attribute [local go_sem] Oper.semAt_some
theorem size_al (w : World) (o : Obj) : (w.alloc o).heap.size = w.heap.size + 1 := by
  show (w.heap.push o).size = _
  rw [Array.size_push]
end Kv
end Go.Proofs.YtagnmdejdeeenaaGreat

namespace Go.Proofs.YtagnmdejdeeenaaGreat
namespace Kv
open Go.RowKit Go.Lib Pg
attribute [local go_sem] Oper.semAt_some
/-- a step of a script: its four cells, and what lies behind its two lists -/
structure Ste where
  what : Int
  num : Int
  ka : Option Addr
  kc : Nat
  kl : List Int
  va : Option Addr
  vc : Nat
  vl : List Int
end Kv
end Go.Proofs.YtagnmdejdeeenaaGreat

namespace Go.Proofs.YtagnmdejdeeenaaGreat
namespace Kv
open Go.RowKit Go.Lib Pg
attribute [local go_sem] Oper.semAt_some
theorem belowD' (w : World) : Below w.heap.size w w.drew := ⟨rfl, rfl, rfl, Nat.le_refl _, fun _ _ => rfl⟩
def setd (E : Ents) (k v : List Int) : Ents := if setE k v = 0 then put E k v else E
/-- set or deleted -/
def chgd (E : Ents) (what : Int) (k v : List Int) : Ents := if what.tmod 2 = 0 then setd E k v else rem E k
end Kv
end Go.Proofs.YtagnmdejdeeenaaGreat

namespace Go.Proofs.YtagnmdejdeeenaaGreat
namespace Kv
open Go.RowKit Go.Lib Pg
end Kv
end Go.Proofs.YtagnmdejdeeenaaGreat

namespace Go.Proofs.YtagnmdejdeeenaaGreat
namespace Kv
open Go.RowKit Go.Lib Pg
end Kv
end Go.Proofs.YtagnmdejdeeenaaGreat

namespace Go.Proofs.YtagnmdejdeeenaaGreat
namespace Kv
open Go.RowKit Go.Lib Pg
theorem look_skip {X Y : Ents} {k v x : List Int} (h : ¬ k = x) : look (X ++ (k, v) :: Y) x = look (X ++ Y) x := by
  unfold look
  rw [List.find?_append, List.find?_append, List.find?_cons]
  simp [h]
theorem look_put {E : Ents} (h : Rise E) (k v x : List Int) : look (put E k v) x = if k = x then some v else look E x := by
  obtain ⟨X, Y, c, ⟨rfl, _⟩ | ⟨y, rfl, _⟩⟩ := h.cut k
  · rw [c.put0]
    split
    · rename_i e; subst e; exact c.look1
    · rename_i e; exact look_skip e
  · rw [c.put1]
    split
    · rename_i e; subst e; exact c.look1
    · rename_i e; rw [look_skip e, look_skip e]
theorem look_rem {E : Ents} (h : Rise E) (k x : List Int) : look (rem E k) x = if k = x then none else look E x := by
  obtain ⟨X, Y, c, ⟨rfl, _⟩ | ⟨y, rfl, _⟩⟩ := h.cut k
  · rw [c.rem0]
    split
    · rename_i e; subst e; exact c.look0
    · rfl
  · rw [c.rem1]
    split
    · rename_i e; subst e; exact c.look0
    · rename_i e; rw [look_skip e]
abbrev good (s : Ste) : Prop := ¬ s.what.tmod 2 = 0 ∨ (1 ≤ s.kl.length ∧ s.kl.length ≤ 64 ∧ s.vl.length ≤ 4096)
/-- the entries behind the first j steps -/
def run (ss : List Ste) : Nat → Ents
  | 0 => []
  | j + 1 => match ss[j]? with
    | some s => chgd (run ss j) s.what s.kl s.vl
    | none => run ss j
end Kv
end Go.Proofs.YtagnmdejdeeenaaGreat
