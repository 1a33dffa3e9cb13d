/- What Of of a field answers. -/
import Derived.Test.YtbecdlibckbbcabDoorVw
namespace Go.Proofs.YtbecdlibckbbcabDoor
open Go.RowKit Num
set_option maxHeartbeats 400000 in
theorem of_any (g : Nat) (m f s x : Int) (w : World) (h : Fld w g m f s) (hm : 0 < m) (hx : 0 ≤ x) :
    Calls Tryd.prog 41 #[.pointer (some ⟨g, 0, none⟩), .int .u64 x] w fun e w' => e = .returned (.int .u64 (x % m)) ∧ w' = w := by
  have H := hid h
  clear h
  go_enter Tryd.func41, Tryd.ntmps41
  go_wp2_with fail
  refine (left_any g m f s x w H.out hm hx).mono ?_
  rintro e w' ⟨rfl, rfl⟩
  go_wp2
  go_ret
  exact ⟨rfl, rfl⟩
end Go.Proofs.YtbecdlibckbbcabDoor
