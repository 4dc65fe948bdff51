/- Several texts, joined: SdB, SdT. -/
import Derived.Test.YtpoifdokmjhclaaGreatJgs
import Derived.Test.YtpoifdokmjhclaaGreatJgH
import Derived.Test.YtpoifdokmjhclaaGreatJgF
import Derived.Test.YtpoifdokmjhclaaGreatJgi
import Derived.Test.YtpoifdokmjhclaaGreatJgk
namespace Go.Proofs.YtpoifdokmjhclaaGreat
namespace Sd
open Go.RowKit Go.Lib Pg Lim Gl Kv Bk Pw
attribute [local go_sem] Oper.semAt_some
set_option maxRecDepth 100000
set_option linter.unusedSimpArgs false
set_option linter.unusedVariables false
set_option maxHeartbeats 2000000
section
variable {B : Nat} {w : World} {K : Nat → Prop} {g : Nat} {E : Ents} {W : List Ents} {n N : Nat} {kv : Value} {k l : List Int}
end
end Sd
end Go.Proofs.YtpoifdokmjhclaaGreat

namespace Go.Proofs.YtpoifdokmjhclaaGreat
namespace Sd
open Go.RowKit Go.Lib Pg Lim Gl Kv Bk Pw
attribute [local go_sem] Oper.semAt_some
set_option maxRecDepth 100000
set_option linter.unusedSimpArgs false
set_option linter.unusedVariables false
set_option maxHeartbeats 2000000
section
variable {w w' : World} {g : Nat} {o : Obj}
end
end Sd
end Go.Proofs.YtpoifdokmjhclaaGreat
