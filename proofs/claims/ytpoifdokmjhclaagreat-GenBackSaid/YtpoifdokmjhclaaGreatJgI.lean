import Derived.Test.YtpoifdokmjhclaaGreatJgH
set_option maxRecDepth 100000
set_option maxHeartbeats 8000000
namespace Go.Proofs.YtpoifdokmjhclaaGreat
section
namespace Sd
open Go.RowKit Go.Lib Pg Lim Gl Kv Bk Pw
attribute [local go_sem] Oper.semAt_some
set_option linter.unusedSimpArgs false
set_option linter.unusedVariables false
section
variable {B:Nat} {w:World} {K:Nat->Prop} {g:Nat} {E:aA} {W:List aA} {n N:Nat} {kv:Value} {k l:List Int}
end
end Sd
end
section
namespace Sd
open Go.RowKit Go.Lib Pg Lim Gl Kv Bk Pw
attribute [local go_sem] Oper.semAt_some
set_option linter.unusedSimpArgs false
set_option linter.unusedVariables false
section
variable {w w':World} {g:Nat} {o:Obj}
end
end Sd
end
end Go.Proofs.YtpoifdokmjhclaaGreat
