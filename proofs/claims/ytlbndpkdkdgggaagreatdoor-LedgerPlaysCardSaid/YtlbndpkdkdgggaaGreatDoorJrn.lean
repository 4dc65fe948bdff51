/- Several texts, joined: Ref2b. -/
import Derived.Test.YtlbndpkdkdgggaaGreatDoorJrl
import Derived.Test.YtlbndpkdkdgggaaGreatDoorJrm
import Derived.Test.YtlbndpkdkdgggaaGreatDoorJrb
set_option maxRecDepth 100000
set_option maxHeartbeats 8000000
namespace Go.Proofs.YtlbndpkdkdgggaaGreatDoor
open Go.RowKit Lim
end Go.Proofs.YtlbndpkdkdgggaaGreatDoor
