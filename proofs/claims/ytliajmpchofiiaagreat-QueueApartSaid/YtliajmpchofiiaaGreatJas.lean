/- Several texts, joined: PwG, PwH, RcU. -/
import Derived.Test.YtliajmpchofiiaaGreatJap
import Derived.Test.YtliajmpchofiiaaGreatJaq
import Derived.Test.YtliajmpchofiiaaGreatJar
import Derived.Test.YtliajmpchofiiaaGreatJaj
import Derived.Test.YtliajmpchofiiaaGreatJak
set_option maxRecDepth 100000
set_option maxHeartbeats 8000000
namespace Go.Proofs.YtliajmpchofiiaaGreat
section
namespace Pw
open Go.RowKit Go.Lib Pg Lim Gl Kv Bk
section
variable {B:Nat} {w0 w w':World} {X0 X X':Nat->Prop} {q:Nat} {E E':ay} {n n':Nat}
end
end Pw
end
section
namespace Pw
open Go.RowKit Go.Lib Pg Lim Gl Kv Bk
attribute [local go_sem] Oper.semAt_some
set_option linter.unusedSimpArgs false
set_option linter.unusedVariables false
section
variable {B:Nat} {w:World} {X:Nat->Prop} {q:Nat} {E:ay} {n:Nat}
end
end Pw
end
section
namespace Rc
open Go.RowKit Go.Lib Pg Lim Gl
end Rc
end
end Go.Proofs.YtliajmpchofiiaaGreat
