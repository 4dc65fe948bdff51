/- Several texts, joined: QuH, QuI, QuJ, PwJ. -/
import Derived.Test.YtcpnipcgedfgdaaGreatJao
import Derived.Test.YtcpnipcgedfgdaaGreatJas
import Derived.Test.YtcpnipcgedfgdaaGreatJag
set_option maxRecDepth 100000
set_option maxHeartbeats 8000000
namespace Go.Proofs.YtcpnipcgedfgdaaGreat
section
namespace Qu
open Go.RowKit Go.Lib Pg Lim Gl Kv Bk Pw
attribute [local go_sem] Oper.semAt_some
set_option linter.unusedVariables false
set_option linter.unusedSimpArgs false
theorem numB_nil:numB []=0:=by decide
def rputE (E:Ents) (k i a b d:Int):Ents :=
 let E1:=put (put E (Ky.mk 14 d i) (nv k)) (Ky.mk 15 b i) (nv k)
 put E1 (Ky.mk 17 a b) (nv ((cntQ E1 a b + 1) % 18446744073709551616))
end Qu
end
section
namespace Qu
open Go.RowKit Go.Lib Pg Lim Gl Kv Bk Pw
attribute [local go_sem] Oper.semAt_some
set_option linter.unusedVariables false
set_option linter.unusedSimpArgs false
end Qu
end
section
namespace Qu
open Go.RowKit Go.Lib Pg Lim Gl Kv Bk Pw
attribute [local go_sem] Oper.semAt_some
set_option linter.unusedVariables false
set_option linter.unusedSimpArgs false
end Qu
end
section
namespace Pw
open Go.RowKit Go.Lib Pg Lim Gl Kv Bk
attribute [local go_sem] Oper.semAt_some
set_option linter.unusedSimpArgs false
set_option linter.unusedVariables false
theorem mem_put {E:Ents} {k v:List Int} {x:KV} (h:x∈put E k v):x∈E\/x=(k,v):=by
 unfold put at h
 rcases List.mem_append.1 h with h | h
 ·exact .inl (List.mem_filter.1 h).1
 ·rcases List.mem_cons.1 h with h | h
  ·exact .inr h
  ·exact .inl (List.mem_filter.1 h).1
section
variable {E:Ents} {v tk:Int}
end
section
variable {B:Nat} {w w':World} {K K' X X':Nat->Prop} {g q:Nat} {E E2:Ents} {W:List Ents} {n N n2:Nat}
end
end Pw
end
end Go.Proofs.YtcpnipcgedfgdaaGreat
