/- Several texts, joined: LgD. -/
import Derived.Test.YtlbndpkdkdgggaaGreatDoorJrj
import Derived.Test.YtlbndpkdkdgggaaGreatDoorJrm
import Derived.Test.YtlbndpkdkdgggaaGreatDoorJne
import Derived.Test.YtlbndpkdkdgggaaGreatDoorJrn
set_option maxRecDepth 100000
set_option maxHeartbeats 8000000
namespace Go.Proofs.YtlbndpkdkdgggaaGreatDoor
namespace Lg
open Go.RowKit Go.Lib Lim Pg Gl
end Lg
end Go.Proofs.YtlbndpkdkdgggaaGreatDoor
