/- 'byHalves' and 'Karatsuba': the product, whatever the cut is. -/
import Derived.Test.YtocfenjampmdlabGreatDoorBKar
namespace Go.Proofs.YtocfenjampmdlabGreatDoor.B
open Go.RowKit NumB

end Go.Proofs.YtocfenjampmdlabGreatDoor.B
