/- What the reference of layer 3 answers: sums, products, powers. -/
import Derived.Test.YtbecdlibckbbcabDoorWb
namespace Go.Proofs.YtbecdlibckbbcabDoor
open Go.RowKit Num
end Go.Proofs.YtbecdlibckbbcabDoor
