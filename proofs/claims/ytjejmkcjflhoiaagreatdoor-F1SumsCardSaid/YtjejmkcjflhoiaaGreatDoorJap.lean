import Derived.Test.YtjejmkcjflhoiaaGreatDoorJao
set_option maxRecDepth 100000
set_option maxHeartbeats 8000000
namespace Go.Proofs.YtjejmkcjflhoiaaGreatDoor
namespace Pw
open Go.RowKit Go.Lib Pg Lim Gl Kv Bk
attribute [local go_sem] Oper.semAt_some
set_option linter.unusedVariables false
theorem mk_pos {k a b:Int} (_hE:Ky.mkE k a b=false):0 < (Ky.mk k a b).length:=by
 rw[Ky.mk_eq (k:=k) (n:=(Ky.frm k).1) (m0:=(Ky.frm k).2.1) (m1:=(Ky.frm k).2.2) rfl];simp
end Pw
end Go.Proofs.YtjejmkcjflhoiaaGreatDoor
