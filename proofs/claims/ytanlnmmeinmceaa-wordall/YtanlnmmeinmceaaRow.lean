/- What the rows' proofs take. -/
import Derived.Test.YtanlnmmeinmceaaWw
import Derived.ProofKit
import Derived.OpenShut
import Derived.ChangeOld
import Derived.Stop.Joined
namespace Go.Proofs.Ytanlnmmeinmceaa
open Go.ChangeShapes Go.WideShapes Go.ChangeAt Go.RowKit Num
theorem own : ownKnob Try.prog.godebug = none := by kernel_rfl
theorem laidOut : laidOutB Try.prog = true := by kernel_rfl
end Go.Proofs.Ytanlnmmeinmceaa
