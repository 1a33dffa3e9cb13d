/- The reference's Place (chapter 8). -/
import Derived.Test.YtocfenjampmdlabGreatDoorCa
namespace Go.Proofs.YtocfenjampmdlabGreatDoor
open Go.RowKit Num Nmb

end Go.Proofs.YtocfenjampmdlabGreatDoor
