import Derived.Test.YtjejmkcjflhoiaaGreatDoorJas
set_option maxRecDepth 100000
set_option maxHeartbeats 8000000
namespace Go.Proofs.YtjejmkcjflhoiaaGreatDoor
namespace Bk
open Go.RowKit Go.Lib Pg Kv
attribute [local go_sem] Oper.semAt_some
section
variable {a:Nat}{w2 V V':World}{cs:List Value}
def TpN(_:TypeId):Prop:=False
def RdS(W0:World)(X K D:Nat->Prop)(g:Nat)(E:aI)(Wn:List aI)(N:Nat)(V:World):Prop:=Chg X W0 V/\(∀ b,X b->∀ cs,¬ Blk V b cs 5)/\∃ x,SA V K D g E Wn x N
def Ext(a:Nat)(w2 V:World):Prop:=(∀ b,a<=b->b < w2.heap.size->V.heap[b]?=w2.heap[b]?)/\w2.heap.size<=V.heap.size
theorem Ext.rcd(h:Ext a w2 V)(d:Rec w2.heap.size V V'):Ext a w2 V' :=
 ⟨fun b g c=>by
  have e:=h.1 b g c
  have f:w2.heap[b]?=some w2.heap[b]:=Array.getElem?_eq_getElem c;rw[f] at e ⊢
  exact d.same b _ e (.inl c),Nat.le_trans h.2 d.size⟩
theorem Ext.keep(h:Ext a w2 V)(hb:Below V.heap.size V V'):Ext a w2 V' :=
 ⟨fun b h1 h2=>(hb.block b (Nat.lt_of_lt_of_le h2 h.2)).trans (h.1 b h1 h2),Nat.le_trans h.2 hb.size⟩
theorem Ext.tick{g x:Nat}(h:Ext a w2 V)(hg:g < a):Ext a w2 (tick g V x) :=
 ⟨fun b h1 h2=>(fT (by omega)).trans (h.1 b h1 h2),by rw[fJ];exact h.2⟩
theorem Ext.keepsT(h:Ext a w2 V)(d:bL TpN a V V'):Ext a w2 V' :=
 ⟨fun b f c=>by
  have e:=h.1 b f c
  have g:w2.heap[b]?=some w2.heap[b]:=Array.getElem?_eq_getElem c;rw[g] at e ⊢
  exact d.same b _ f e (fun _ _ _ _ h=>h),Nat.le_trans h.2 d.size⟩
theorem Ext.blk{b:Nat}{t:TypeId}(h:Ext a w2 V)(k:Blk w2 b cs t)(hb:a<=b):Blk V b cs t:=k.same (h.1 b hb k.lt)
end
end Bk
end Go.Proofs.YtjejmkcjflhoiaaGreatDoor
