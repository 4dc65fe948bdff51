/- Several texts, joined: PwG, PwH, RcU. -/
import Derived.Test.YtcpnipcgedfgdaaGreatJap
import Derived.Test.YtcpnipcgedfgdaaGreatJaq
import Derived.Test.YtcpnipcgedfgdaaGreatJar
import Derived.Test.YtcpnipcgedfgdaaGreatJaj
import Derived.Test.YtcpnipcgedfgdaaGreatJak
set_option maxRecDepth 100000
set_option maxHeartbeats 8000000
namespace Go.Proofs.YtcpnipcgedfgdaaGreat
section
namespace Pw
open Go.RowKit Go.Lib Pg Lim Gl Kv Bk
section
variable {B:Nat} {w0 w w':World} {X0 X X':Nat->Prop} {q:Nat} {E E':Ents} {n n':Nat}
end
end Pw
end
section
namespace Pw
open Go.RowKit Go.Lib Pg Lim Gl Kv Bk
attribute [local go_sem] Oper.semAt_some
set_option linter.unusedSimpArgs false
set_option linter.unusedVariables false
section
variable {B:Nat} {w:World} {X:Nat->Prop} {q:Nat} {E:Ents} {n:Nat}
end
end Pw
end
section
namespace Rc
open Go.RowKit Go.Lib Pg Lim Gl
end Rc
end
end Go.Proofs.YtcpnipcgedfgdaaGreat
