import Derived.Test.YtpoifdokmjhclaaGreatJgr
set_option maxRecDepth 100000
set_option maxHeartbeats 8000000
namespace Go.Proofs.YtpoifdokmjhclaaGreat
namespace Sd
open Go.RowKit Go.Lib Pg Lim Gl Kv Bk Pw
section
variable {B:Nat} {K:Nat->Prop} {g:Nat} {E:aA} {Wn:List aA} {x N c:Nat} {w w':World} {v:Value}
end
section
variable {b:Nat} {Ds:List Nat} {w w':World}
end
section
variable {n:Nat} {l:Fr} {fn:Func} {R:Ending->World->Prop} {w:World} {b:Nat}
end
section
variable {n:Nat} {ds:List Deferred} {l:Fr} {Q:Exit->Act->World->Prop} {w:World} {B:Nat} {K:Nat->Prop} {g:Nat} {E:aA} {Wn:List aA} {x N c:Nat} {v:Value}
end
end Sd
end Go.Proofs.YtpoifdokmjhclaaGreat
