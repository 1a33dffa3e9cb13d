/- The reference's New, and the law's own Sized and great. -/
import Derived.Test.YtbecdlibckbbcabDoorQu
import Derived.Test.YtbecdlibckbbcabDoorPo
namespace Go.Proofs.YtbecdlibckbbcabDoor
open Go.RowKit Num Nmb

/-- numbers, cut or 0 behind them. -/
def szd (a : Nat → Int) (n : Nat) (j : Nat) : Int := if j < n then a j else 0
end Go.Proofs.YtbecdlibckbbcabDoor
