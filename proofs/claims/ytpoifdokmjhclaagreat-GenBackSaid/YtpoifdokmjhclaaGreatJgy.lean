/- Several texts, joined: DiB. -/
import Derived.Test.YtpoifdokmjhclaaGreatJgw
namespace Go.Proofs.YtpoifdokmjhclaaGreat
namespace Fo
open Go.RowKit Go.Lib Pg Lim Gl
attribute [local go_sem] Oper.semAt_some
set_option maxRecDepth 100000
set_option linter.unusedVariables false
set_option linter.unusedSimpArgs false
set_option maxHeartbeats 2000000
end Fo
end Go.Proofs.YtpoifdokmjhclaaGreat
