/- walked: the first n entries of a walk, as pairs of their own. -/
import Derived.Test.YtplminnejheceaaPgPr
namespace Go.Proofs.Ytplminnejheceaa
namespace Pg
open Go.RowKit Go.Lib
attribute [local go_sem] Oper.semAt_some
theorem Chg.rcd {X : Nat → Prop} {W V V' : World} (h : Chg X W V) (hr : Rec W.heap.size V V') : Chg X W V' := by
  refine ⟨hr.os.trans h.os, hr.tape.trans h.tape, hr.output.trans h.output, Nat.le_trans h.size hr.size, fun b hb hx => ?_⟩
  have e := h.same b hb hx
  rw [← e]
  have hb' : b < V.heap.size := Nat.lt_of_lt_of_le hb h.size
  rw [Array.getElem?_eq_getElem hb'] at e ⊢
  exact hr.same b _ (Array.getElem?_eq_getElem hb') (.inl hb)
theorem PrA.cel {w w' : World} {B : Nat} {v : Value} {es : List En} (h : PrA w B v es) (hc : Cel w w') : PrA w' B v es := by
  refine ⟨h.ex.imp id ?_, fun e he => ⟨(h.ents e he).k.cel hc, (h.ents e he).v.cel hc⟩⟩
  rintro ⟨b, c, e, hl, hR⟩
  obtain ⟨cs, k⟩ := hR.kind
  exact ⟨b, c, e, hl, hR.same ((hc.same b _ k.blk rfl).trans k.blk.symm)⟩
/-- an entry's bytes -/
def En.kl2 (e : En) : List Int × List Int := (e.kl, e.vl)
/-- while a walk is gone through: so many pairs, and nothing but their variable is changed -/
structure Gone (W V : World) (bo : Nat) (E : List En) (i : Nat) : Prop where
  chg : Chg (· = bo) W V
  out : ∃ ov es, Blk V bo [ov] 28 ∧ PrA V W.heap.size ov es ∧ es.map En.kl2 = (E.take i).map En.kl2
theorem Gone.rcd {W V V' : World} {bo : Nat} {E : List En} {i : Nat} (h : Gone W V bo E i) (hr : Rec W.heap.size V V') : Gone W V' bo E i := by
  obtain ⟨ov, es, h1, h2, h3⟩ := h.out
  exact ⟨h.chg.rcd hr, ov, es, rec_cel h1 hr, h2.cel hr.cel, h3⟩
theorem PrA.low {w : World} {B B' : Nat} {v : Value} {es : List En} (h : PrA w B v es) (hB : B' ≤ B) : PrA w B' v es :=
  ⟨h.ex.imp id (fun ⟨b, c, e, hl, hR⟩ => ⟨b, c, e, by omega, hR⟩), fun e he => (h.ents e he).mono (fun b _ hb => by omega)⟩
theorem gone_below {W Wa w1 W' : World} {bo : Nat} (h1 : Below W.heap.size W Wa) (h2 : Below Wa.heap.size Wa w1) (h3 : Chg (· = bo) w1 W') (hb : W.heap.size ≤ bo) : Below W.heap.size W W' := by
  have h12 := joinB h1 h2
  exact h12.trans (h3.below (fun b e => by omega) h12.size)
theorem Wm.keep {W W' : World} {X F D : Nat → Prop} {g : Nat} {L : List Pg} (K : Wm W X F D g L) (hB : Below W.heap.size W W') : Wm W' X F D g L :=
  ⟨K.map.keep hB, K.ord, K.few, K.big, K.small, K.xF, fun b hb cs k => K.xU b hb cs (k.same (hB.block b (K.xl b hb)).symm), fun b hb => Nat.lt_of_lt_of_le (K.xl b hb) hB.size⟩
def TpW (t : TypeId) : Prop := t = 5 ∨ t = 45
end Pg
end Go.Proofs.Ytplminnejheceaa
