/- Whole numbers: the number without its sign. -/
import Derived.Test.YtocfenjampmdlaaGreatDoorBBld
namespace Go.Proofs.YtocfenjampmdlaaGreatDoor.B
open Go.RowKit NumB

end Go.Proofs.YtocfenjampmdlaaGreatDoor.B
