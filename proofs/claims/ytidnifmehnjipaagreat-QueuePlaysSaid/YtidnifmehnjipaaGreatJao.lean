import Derived.Test.YtidnifmehnjipaaGreatJam
import Derived.Test.YtidnifmehnjipaaGreatJan
set_option maxRecDepth 100000
set_option maxHeartbeats 8000000
namespace Go.Proofs.YtidnifmehnjipaaGreat
namespace Pw
open Go.RowKit Go.Lib Pg Lim Gl Kv Bk
attribute [local go_sem] Oper.semAt_some
set_option linter.unusedVariables false
theorem AE {w:World} {k a b:Int} (d:0<=a/\a < 18446744073709551616) (c:Ky.mkE k a b=false):Calls Tryz.prog 32 #[.agg #[.int .i64 k,.int .u64 a,.int .u64 b]] w fun e w'=>∃ v,e=.returned (.tuple #[v,.int .i64 0])/\ByU w' v (Ky.mk k a b)/\Below w.heap.size w w':=by
 refine(Ks.mk_g d c).mono ?_
 rintro e w' ⟨v,rfl,O,B⟩;exact⟨v,rfl,ByU.of O,B⟩
theorem mk_pos {k a b:Int} (_hE:Ky.mkE k a b=false):0 < (Ky.mk k a b).length:=by
 rw[Ky.mk_eq (k:=k) (n:=(Ky.frm k).1) (m0:=(Ky.frm k).2.1) (m1:=(Ky.frm k).2.2) rfl];simp
end Pw
end Go.Proofs.YtidnifmehnjipaaGreat
