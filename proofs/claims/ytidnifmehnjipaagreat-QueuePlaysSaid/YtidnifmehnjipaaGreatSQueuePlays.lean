/- gleanlaw12.QueuePlays returns true for every input, and leaves its arguments as they are. Conditions: none but the form's own. -/
import Derived.Test.YtidnifmehnjipaaGreatQuPc
import Derived.Test.YtidnifmehnjipaaGreatQuPd
set_option maxRecDepth 100000
set_option maxHeartbeats 8000000
namespace Go.Proofs.YtidnifmehnjipaaGreat
open Go.ChangeShapes Go.WideShapes Go.ChangeAt Go.RowKit Qu
theorem queuePlays_said:Rows.QueuePlaysSaid :=
  OpenClaim.holds_of_wide 3 Tryz.f3 rfl rfl rfl rfl rfl rfl rfl ⟨rfl,rfl,rfl,rfl,rfl⟩ rfl rfl rfl rfl rfl (by kernel_rfl) Tryz.func3 jQ
    (of_decide_eq_true (by kernel_rfl)) (by unfold Func.isWrapper;first | (rw[if_pos (by decide +kernel)];kernel_rfl) | (rw[if_neg (by decide +kernel)];exact⟨rfl,rfl⟩))
    (fun os started H enc _=>queuePlays.lifted os started H enc)
end Go.Proofs.YtidnifmehnjipaaGreat
