/- What 'Cmp' answers: -1, 0 or 1, as the first number is below the second, is it, is above it; it only reads. -/
import Derived.Test.YtocfenjampmdlaaGreatDoorBBase
import Derived.Deep.QuietTactic
import Derived.BigQuiet
namespace Go.Proofs.YtocfenjampmdlaaGreatDoor.B
open Go.RowKit NumB

theorem ret_int {k : IntKind} {a b : Int} (h : a = b) : Ending.returned (.int k a) = .returned (.int k b) := by rw [h]

end Go.Proofs.YtocfenjampmdlaaGreatDoor.B
