/- Several texts, joined: BkD. -/
import Derived.Test.YtjejmkcjflhoiaaGreatDoorJas
namespace Go.Proofs.YtjejmkcjflhoiaaGreatDoor
namespace Bk
open Go.RowKit Go.Lib Pg Kv
attribute [local go_sem] Oper.semAt_some
def TpN (_ : TypeId) : Prop := False
def RdS (W0 : World) (X K D : Nat → Prop) (g : Nat) (E : Ents) (Wn : List Ents) (N : Nat) (V : World) : Prop := Chg X W0 V ∧ (∀ b, X b → ∀ cs, ¬ Blk V b cs 5) ∧ ∃ x, SA V K D g E Wn x N
/-- what was laid between two worlds stays -/
def Ext (a : Nat) (w2 V : World) : Prop := (∀ b, a ≤ b → b < w2.heap.size → V.heap[b]? = w2.heap[b]?) ∧ w2.heap.size ≤ V.heap.size
theorem Ext.rcd {a : Nat} {w2 V V' : World} (h : Ext a w2 V) (hr : Rec w2.heap.size V V') : Ext a w2 V' :=
  ⟨fun b h1 h2 => by
    have e := h.1 b h1 h2
    have h3 : w2.heap[b]? = some w2.heap[b] := Array.getElem?_eq_getElem h2
    rw [h3] at e ⊢
    exact hr.same b _ e (.inl h2), Nat.le_trans h.2 hr.size⟩
theorem Ext.keep {a : Nat} {w2 V V' : World} (h : Ext a w2 V) (hb : Below V.heap.size V V') : Ext a w2 V' :=
  ⟨fun b h1 h2 => (hb.block b (Nat.lt_of_lt_of_le h2 h.2)).trans (h.1 b h1 h2), Nat.le_trans h.2 hb.size⟩
theorem Ext.tick {a g x : Nat} {w2 V : World} (h : Ext a w2 V) (hg : g < a) : Ext a w2 (tick g V x) :=
  ⟨fun b h1 h2 => (tick_other (by omega)).trans (h.1 b h1 h2), by rw [tick_size]; exact h.2⟩
theorem Ext.keepsT {a : Nat} {w2 V V' : World} (h : Ext a w2 V) (hk : KeepsT TpN a V V') : Ext a w2 V' :=
  ⟨fun b h1 h2 => by
    have e := h.1 b h1 h2
    have h3 : w2.heap[b]? = some w2.heap[b] := Array.getElem?_eq_getElem h2
    rw [h3] at e ⊢
    exact hk.same b _ h1 e (fun _ _ _ _ h => h), Nat.le_trans h.2 hk.size⟩
theorem Ext.blk {a b : Nat} {w2 V : World} {cs : List Value} {t : TypeId} (h : Ext a w2 V) (k : Blk w2 b cs t) (hb : a ≤ b) : Blk V b cs t := k.same (h.1 b hb k.lt)
end Bk
end Go.Proofs.YtjejmkcjflhoiaaGreatDoor
