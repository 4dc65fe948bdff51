/- Several texts, joined: KyRa, KyRb, KyY, KyRc. -/
import Derived.Test.YtliajmpchofiiaaGreatJaf
import Derived.Test.YtliajmpchofiiaaGreatJag
set_option maxRecDepth 100000
set_option maxHeartbeats 8000000
namespace Go.Proofs.YtliajmpchofiiaaGreat
section
namespace Ky
open Go.RowKit Go.Lib Pg
attribute [local go_sem] Oper.semAt_some jS
end Ky
end
section
namespace Ky
open Go.RowKit Go.Lib Pg
attribute [local go_sem] Oper.semAt_some jS
end Ky
end
section
namespace Ky
open Go.RowKit Go.Lib Pg
attribute [local go_sem] Oper.semAt_some
end Ky
end
section
namespace Ky
open Go.RowKit Go.Lib Pg
attribute [local go_sem] Oper.semAt_some jS
end Ky
end
end Go.Proofs.YtliajmpchofiiaaGreat
