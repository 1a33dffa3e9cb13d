/- 'byHalves' and 'Karatsuba': the product, whatever the cut is. -/
import Derived.Test.YtnaiahjgdakneaaGreatDoorKar
namespace Go.Proofs.YtnaiahjgdakneaaGreatDoor
open Go.RowKit Num

end Go.Proofs.YtnaiahjgdakneaaGreatDoor
