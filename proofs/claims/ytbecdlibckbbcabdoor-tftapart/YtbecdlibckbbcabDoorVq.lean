/- The reference's powers, in plain numbers. -/
import Derived.Test.YtbecdlibckbbcabDoorPa
import Derived.Test.YtbecdlibckbbcabDoorVr
namespace Go.Proofs.YtbecdlibckbbcabDoor
open Go.RowKit Num Nmb

end Go.Proofs.YtbecdlibckbbcabDoor
