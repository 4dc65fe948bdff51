/- What the row of DistGive asks of the program. -/
import Derived.Test.YtgdohcdlkonhiaaGreatDoorRows
import Derived.WalkKit
import Derived.ProofKit
import Derived.OpenShut
import Derived.ShutString
import Derived.Lib.LaidTab
import Derived.Deep.DeepHandedRow
set_option maxRecDepth 100000
set_option maxHeartbeats 8000000
namespace Go.Proofs.YtgdohcdlkonhiaaGreatDoor
namespace distGive
theorem closed:joinedFacts Tryz.prog 3 Tryz.f3 (OpenSpec.ofChange Rows.distGiveSpec).bare Rows.distGiveRow=true:=by
 unfold joinedFacts;simp only[Bool.and_eq_true]
 repeat' refine And.intro ?_ ?_
 all_goals (as_aux_lemma=>kernel_rfl)
end distGive
end Go.Proofs.YtgdohcdlkonhiaaGreatDoor
