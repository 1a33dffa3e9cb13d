/- Whole numbers: the number without its sign. -/
import Derived.Test.YtocfenjampmdlabGreatDoorBBld
namespace Go.Proofs.YtocfenjampmdlabGreatDoor.B
open Go.RowKit NumB

end Go.Proofs.YtocfenjampmdlabGreatDoor.B
