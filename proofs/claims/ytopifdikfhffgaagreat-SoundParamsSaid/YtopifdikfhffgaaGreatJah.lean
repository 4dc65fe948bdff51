/- Several texts, joined: KyX. -/
import Derived.Test.YtopifdikfhffgaaGreatJag
set_option maxRecDepth 100000
set_option maxHeartbeats 8000000
namespace Go.Proofs.YtopifdikfhffgaaGreat
namespace Ky
open Go.RowKit Go.Lib Pg
attribute [local go_sem] Oper.semAt_some
end Ky
end Go.Proofs.YtopifdikfhffgaaGreat
