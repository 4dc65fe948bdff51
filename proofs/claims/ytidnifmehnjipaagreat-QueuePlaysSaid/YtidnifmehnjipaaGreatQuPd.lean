/- QueuePlays: what its row asks of the program, one thing after another. -/
import Derived.Test.YtidnifmehnjipaaGreatRows
import Derived.JoinedOf
import Derived.WalkKit
import Derived.ProofKit
set_option maxRecDepth 100000
set_option maxHeartbeats 8000000
namespace Go.Proofs.YtidnifmehnjipaaGreat
open Go.RowKit
theorem jQ:joinedFacts Tryz.prog 3 Tryz.f3 Rows.queuePlaysSpec Rows.queuePlaysRow=true:=by
 unfold joinedFacts;simp only[Bool.and_eq_true]
 repeat' refine And.intro ?_ ?_
 all_goals (as_aux_lemma=>kernel_rfl)
end Go.Proofs.YtidnifmehnjipaaGreat
