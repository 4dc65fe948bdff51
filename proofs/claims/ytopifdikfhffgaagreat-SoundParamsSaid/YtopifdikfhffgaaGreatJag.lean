/- Several texts, joined: KyO, KyP, KyQ, KyR, KyS, KyU, KyV, KyW. -/
import Derived.Test.YtopifdikfhffgaaGreatJae
import Derived.Test.YtopifdikfhffgaaGreatJaf
import Derived.Shelf.Abstract
import Derived.Shelf.RegionOpen
import Derived.OwnWalkIn
import Derived.TacticsInMore
import Derived.LoopNIn
import Derived.LoopIn
set_option maxRecDepth 100000
set_option maxHeartbeats 8000000
namespace Go.Proofs.YtopifdikfhffgaaGreat
section
namespace Ky
open Go.RowKit Go.Lib Pg
attribute [local go_sem] Oper.semAt_some
end Ky
end
section
namespace Ky
open Go.RowKit Go.Lib Pg
attribute [local go_sem] Oper.semAt_some
end Ky
end
section
namespace Ky
open Go.RowKit Go.Lib Pg
attribute [local go_sem] Oper.semAt_some
end Ky
end
section
namespace Ky
open Go.RowKit Go.Lib Pg
end Ky
end
section
namespace Ky
open Go.RowKit Go.Lib Pg
attribute [local go_sem] Oper.semAt_some eq50
end Ky
end
section
namespace Ky
open Go.RowKit Go.Lib Pg
attribute [local go_sem] Oper.semAt_some eq50
end Ky
end
section
namespace Ky
open Go.RowKit Go.Lib Pg
attribute [local go_sem] Oper.semAt_some eq50
end Ky
end
section
namespace Ky
open Go.RowKit Go.Lib Pg
attribute [local go_sem] Oper.semAt_some eq50
end Ky
end
end Go.Proofs.YtopifdikfhffgaaGreat
