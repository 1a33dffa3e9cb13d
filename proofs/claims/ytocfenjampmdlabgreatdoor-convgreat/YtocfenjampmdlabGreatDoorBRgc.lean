/- "Gcd" of the reference. -/
import Derived.Test.YtocfenjampmdlabGreatDoorBRefq
namespace Go.Proofs.YtocfenjampmdlabGreatDoor.B
open Go.RowKit NumB
open Go.Lib (decDigits)
/-- the number of a text of digits. -/
def strNum : Value → Nat
  | .string s => dval s.data.toList
  | _ => 0
theorem strNum_dt (q : Nat) : strNum (.string (dt q)) = q := dval_dt q
end Go.Proofs.YtocfenjampmdlabGreatDoor.B
