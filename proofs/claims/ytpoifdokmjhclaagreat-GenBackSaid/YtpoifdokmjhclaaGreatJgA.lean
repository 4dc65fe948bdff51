/- Several texts, joined: DiD. -/
import Derived.Test.YtpoifdokmjhclaaGreatJgt
import Derived.Test.YtpoifdokmjhclaaGreatJgz
namespace Go.Proofs.YtpoifdokmjhclaaGreat
namespace Fo
open Go.RowKit Go.Lib Pg Lim Gl Kv Bk Pw Sd Di
set_option maxRecDepth 100000
set_option linter.unusedVariables false
set_option maxHeartbeats 1000000
section
variable {w0 w w' w1 : World} {B g0 n N n' N' g i C : Nat} {K0 K K' : Nat → Prop} {W : List Ents} {E E' : Ents} {bs : List Bx} {qs : List Nx} {cs cs' : List Value} {t : TypeId}
theorem Ut.opnew (h : Ut w0 K0 B g0 W w K E n N bs qs) (S : Sx B w' K' g0 E' W n' N') (hK : ∀ b, K' b → K b ∨ w.heap.size ≤ b) (hC : Chg K w w') (X : Blk w' g cs t) (hb : w.heap.size ≤ g) (nk : ¬ K' g) : Ut w0 K0 B g0 W w' K' E' n' N' ((g, cs, t) :: bs) qs := by
  have u := h.op S hK hC
  exact ⟨u.ta, List.forall_mem_cons.2 ⟨⟨X, nk, Nat.le_trans h.ta.size hb⟩, u.b⟩, u.q, List.forall_mem_cons.2 ⟨fun r hr => ne1 (h.q r hr).lt hb, u.e⟩, List.pairwise_cons.2 ⟨fun p hp e => by have := h.lt p hp; have e' : g = p.1 := e; omega, u.d⟩⟩
end
end Fo
end Go.Proofs.YtpoifdokmjhclaaGreat
