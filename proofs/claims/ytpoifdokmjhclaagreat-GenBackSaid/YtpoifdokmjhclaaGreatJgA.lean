import Derived.Test.YtpoifdokmjhclaaGreatJgt
import Derived.Test.YtpoifdokmjhclaaGreatJgz
set_option maxRecDepth 100000
set_option maxHeartbeats 8000000
namespace Go.Proofs.YtpoifdokmjhclaaGreat
namespace Fo
open Go.RowKit Go.Lib Pg Lim Gl Kv Bk Pw Sd Di
set_option linter.unusedVariables false
section
variable {w0 w w' w1:World} {B g0 n N n' N' g i C:Nat} {K0 K K':Nat->Prop} {W:List aA} {E E':aA} {bs:List Bx} {qs:List Nx} {cs cs':List Value} {t:TypeId}
theorem Ut.opnew (h:Ut w0 K0 B g0 W w K E n N bs qs) (S:Sx B w' K' g0 E' W n' N') (i:∀ b,K' b->K b\/w.heap.size<=b) (c:Chg K w w') (X:Blk w' g cs t) (hb:w.heap.size<=g) (nk:¬ K' g):Ut w0 K0 B g0 W w' K' E' n' N' ((g,cs,t) :: bs) qs:=by
 have u:=h.op S i c;exact⟨u.ta,List.forall_mem_cons.2 ⟨⟨X,nk,Nat.le_trans h.ta.size hb⟩,u.b⟩,u.q,List.forall_mem_cons.2 ⟨fun r f=>ne1 (h.q r f).lt hb,u.e⟩,List.pairwise_cons.2 ⟨fun p a e=>by have:=h.lt p a;have j:g=p.1:=e;omega,u.d⟩⟩
end
end Fo
end Go.Proofs.YtpoifdokmjhclaaGreat
