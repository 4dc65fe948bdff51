/- Several texts, joined: Ref2. -/
import Derived.Test.YtlbndpkdkdgggaaGreatDoorJre
import Derived.Test.YtlbndpkdkdgggaaGreatDoorJne
namespace Go.Proofs.YtlbndpkdkdgggaaGreatDoor
open Go.RowKit Lim

set_option maxHeartbeats 1000000 in
set_option maxRecDepth 100000 in
theorem eOne {w : World} : Calls Tryz.prog 95 #[] w fun e w' => ∃ a k d, e = .returned (.slice a k d) ∧ NatO w' a k d U36 ∧ k ≤ 38 ∧ Below w.heap.size w w' := by
  go_enter Tryz.func95, Tryz.ntmps95
  go_wp2_with fail
  refine (rPow 36 (by decide)).mono ?_
  rintro e w1 ⟨a, k, d, rfl, hO, hk, hB⟩
  go_wp2
  go_ret
  exact ⟨a, k, d, rfl, hO, by omega, hB⟩
def decE (x : Int) : Int := if x = 0 then 21 else 0
def upV (p z : Int) : Int := if z = 0 then 0 else if p % z = 0 then p / z else p / z + 1
end Go.Proofs.YtlbndpkdkdgggaaGreatDoor
