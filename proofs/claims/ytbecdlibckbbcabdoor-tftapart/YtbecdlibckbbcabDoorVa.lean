/- What the field's Add and Sub answer. -/
import Derived.Test.YtbecdlibckbbcabDoorVw
namespace Go.Proofs.YtbecdlibckbbcabDoor
open Go.RowKit Num
set_option maxHeartbeats 800000 in
theorem add_any (g : Nat) (m f s x y : Int) (w : World) (h : Fld w g m f s) (hm : Ok m f s) (hx : 0 ≤ x) (hy : 0 ≤ y) :
    Calls Tryd.prog 44 #[.pointer (some ⟨g, 0, none⟩), .int .u64 x, .int .u64 y] w fun e w' => e = .returned (.int .u64 ((x + y) % m)) ∧ w' = w := by
  have H := hid h
  have c0 := h.cell0
  have h2 := hm.h2
  have h63 := hm.h63
  have E : Hid ((x + y) % m = if m ≤ x % m + y % m then x % m + y % m - m else x % m + y % m) := by
    show _ = _
    have a := md_lt x (show 0 < m by omega)
    have b := md_lt y (show 0 < m by omega)
    rw [Int.add_emod]
    generalize x % m = u at *
    generalize y % m = v at *
    split
    · rw [← Int.sub_emod_right]; exact Int.emod_eq_of_lt (by omega) (by omega)
    · exact Int.emod_eq_of_lt (by omega) (by omega)
  have a := md_lt x (show 0 < m by omega)
  have b := md_lt y (show 0 < m by omega)
  clear h
  go_enter Tryd.func44, Tryd.ntmps44
  go_wp2_with fail
  refine (left_any g m f s x w H.out (by omega) hx).mono ?_
  rintro e w' ⟨rfl, rfl⟩
  go_wp2_with fail
  refine (left_any g m f s y _ H.out (by omega) hy).mono ?_
  rintro e w' ⟨rfl, rfl⟩
  generalize x % m = u at *
  generalize y % m = v at *
  by_cases hc : m ≤ u + v
  · go_wp2
    go_ret
    exact ⟨ret_int (by rw [E.out, if_pos hc]), rfl⟩
  · go_wp2
    go_ret
    exact ⟨ret_int (by rw [E.out, if_neg (by omega)]), rfl⟩
set_option maxHeartbeats 800000 in
theorem sub_any (g : Nat) (m f s x y : Int) (w : World) (h : Fld w g m f s) (hm : Ok m f s) (hx : 0 ≤ x) (hy : 0 ≤ y) :
    Calls Tryd.prog 45 #[.pointer (some ⟨g, 0, none⟩), .int .u64 x, .int .u64 y] w fun e w' => e = .returned (.int .u64 ((x - y) % m)) ∧ w' = w := by
  have H := hid h
  have c0 := h.cell0
  have h2 := hm.h2
  have h63 := hm.h63
  have E : Hid ((x - y) % m = if x % m < y % m then x % m + m - y % m else x % m - y % m) := by
    show _ = _
    have a := md_lt x (show 0 < m by omega)
    have b := md_lt y (show 0 < m by omega)
    rw [Int.sub_emod]
    generalize x % m = u at *
    generalize y % m = v at *
    split
    · rw [← Int.add_emod_right, show u - v + m = u + m - v by omega]; exact Int.emod_eq_of_lt (by omega) (by omega)
    · exact Int.emod_eq_of_lt (by omega) (by omega)
  have a := md_lt x (show 0 < m by omega)
  have b := md_lt y (show 0 < m by omega)
  clear h
  go_enter Tryd.func45, Tryd.ntmps45
  go_wp2_with fail
  refine (left_any g m f s x w H.out (by omega) hx).mono ?_
  rintro e w' ⟨rfl, rfl⟩
  go_wp2_with fail
  refine (left_any g m f s y _ H.out (by omega) hy).mono ?_
  rintro e w' ⟨rfl, rfl⟩
  generalize x % m = u at *
  generalize y % m = v at *
  by_cases hc : u < v
  · go_wp2
    go_ret
    exact ⟨ret_int (by rw [E.out, if_pos hc]), rfl⟩
  · go_wp2
    go_ret
    exact ⟨ret_int (by rw [E.out, if_neg (by omega)]), rfl⟩
end Go.Proofs.YtbecdlibckbbcabDoor
