/- What the rows' proofs take. -/
import Derived.Test.YtanlnmmeinmceabWw
import Derived.ProofKit
import Derived.OpenShut
import Derived.ChangeOld
import Derived.Stop.Joined
namespace Go.Proofs.Ytanlnmmeinmceab
open Go.ChangeShapes Go.WideShapes Go.ChangeAt Go.RowKit Num
theorem own : ownKnob Try.prog.godebug = none := by kernel_rfl
theorem laidOut : laidOutB Try.prog = true := by kernel_rfl
end Go.Proofs.Ytanlnmmeinmceab
