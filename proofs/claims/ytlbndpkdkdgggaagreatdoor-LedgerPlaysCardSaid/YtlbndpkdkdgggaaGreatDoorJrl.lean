/- Several texts, joined: Ref2. -/
import Derived.Test.YtlbndpkdkdgggaaGreatDoorJre
import Derived.Test.YtlbndpkdkdgggaaGreatDoorJne
set_option maxRecDepth 100000
set_option maxHeartbeats 8000000
namespace Go.Proofs.YtlbndpkdkdgggaaGreatDoor
open Go.RowKit Lim
theorem eOne {w:World}:Calls Tryz.prog 95 #[] w fun e w'=>∃ a k d,e=.returned (.slice a k d)/\NatO w' a k d U36/\k<=38/\Below w.heap.size w w':=by
 go_enter Tryz.func95,Tryz.ntmps95
 go_wp2_with fail
 refine (rPow 36 (by decide)).mono ?_
 rintro e w1 ⟨a,k,d,rfl,hO,hk,hB⟩
 go_wp2
 go_ret
 exact ⟨a,k,d,rfl,hO,by omega,hB⟩
end Go.Proofs.YtlbndpkdkdgggaaGreatDoor
