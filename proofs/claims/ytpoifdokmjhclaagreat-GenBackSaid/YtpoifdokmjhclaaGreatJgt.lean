import Derived.Test.YtpoifdokmjhclaaGreatJgs
set_option maxRecDepth 100000
set_option maxHeartbeats 8000000
namespace Go.Proofs.YtpoifdokmjhclaaGreat
namespace Di
open Go.RowKit Go.Lib Pg Lim Gl Kv Bk Pw Sd
set_option linter.unusedVariables false
section
variable {P:Program} {ops:Array Oper} {Q:Exit->Act->World->Prop} {r:Option Nat}
end
section
variable {lo n:Nat} {ds:List Deferred} {Q Q':Exit->Act->World->Prop} {l:Fr} {w:World}
end
section
variable {n:Nat} {ds:List Deferred} {ops:Array Oper} {rest:List Oper} {o:Oper} {Q Q':Exit->Act->World->Prop} {l:Fr} {w:World}
end
end Di
end Go.Proofs.YtpoifdokmjhclaaGreat
