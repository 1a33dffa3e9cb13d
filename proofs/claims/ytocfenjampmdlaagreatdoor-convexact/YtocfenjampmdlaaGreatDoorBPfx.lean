/- The library's contracts of strings.HasPrefix and strings.TrimPrefix, laid at this program. -/
import Derived.Shelf.Strings.Prefix
import Derived.Test.YtocfenjampmdlaaGreatDoorProg
namespace Go.Proofs.YtocfenjampmdlaaGreatDoor.B
open Go.Shelf
def Tryz.laysp99_ren : Go.Shelf.Ren := ⟨fun | 99 => 78 | 206 => 104 | n => n, fun | n => n, fun | n => n⟩
theorem Tryz.laysp99 : Go.Proofs.Lays.n99 Tryz.prog Tryz.laysp99_ren := {
  mixed := by kernel_rfl
  f99 := Tryz.func78.trans (congrArg some (by kernel_rfl))
  f206 := Tryz.func104.trans (congrArg some (by kernel_rfl))
  t3 := Tryz.underlying3
  a3 := Tryz.isAgg3
  z3 := Tryz.sizeOf3
  v3 := Tryz.zeroValue3
  t4 := Tryz.underlying4
  a4 := Tryz.isAgg4
  z4 := Tryz.sizeOf4
  v4 := Tryz.zeroValue4
  t9 := Tryz.underlying9
  a9 := Tryz.isAgg9
  z9 := Tryz.sizeOf9
  v9 := Tryz.zeroValue9 }
open Go.RowKit Go.Lib in
theorem Tryz.strings_HasPrefix (s p : ByteArray) (w : World) :
    Calls Tryz.prog 78 #[.string s, .string p] w fun e w' => e = .returned (.bool (Lib.hasPrefix s.data.toList p.data.toList)) ∧ w' = w := Any.strings_HasPrefix Tryz.laysp99 s p w
end Go.Proofs.YtocfenjampmdlaaGreatDoor.B
