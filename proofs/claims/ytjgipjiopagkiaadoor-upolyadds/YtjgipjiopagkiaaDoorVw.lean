/- What New answers. -/
import Derived.Test.YtjgipjiopagkiaaDoorVa
import Derived.Deep.RegionWith
namespace Go.Proofs.YtjgipjiopagkiaaDoor
open Go.RowKit Num
theorem fld_new (w : World) (m f s : Int) : Fld (w.alloc (.cells #[.int .u64 m, .int .u64 f, .int .u64 s] 65)) w.heap.size m f s := heap_alloc_new w _
theorem Fld.set1 {w : World} {g : Nat} {m f s : Int} (h : Fld w g m f s) (v : Int) : Fld (w.setCell ⟨g, 1, none⟩ (.int .u64 v)) g m v s := by
  unfold Fld at *; rw [heap_setCell_same w g 1 _ _ _ h]; rfl
theorem Fld.set2 {w : World} {g : Nat} {m f s : Int} (h : Fld w g m f s) (v : Int) : Fld (w.setCell ⟨g, 2, none⟩ (.int .u64 v)) g m f v := by
  unfold Fld at *; rw [heap_setCell_same w g 2 _ _ _ h]; rfl
theorem below_set {B g : Nat} {w w' : World} (h : Below B w w') (hg : B ≤ g) (i : Nat) (v : Value) : Below B w (w'.setCell ⟨g, i, none⟩ v) :=
  ⟨h.os, h.tape, h.output, by simpa [World.setCell] using h.size, fun k hk => (heap_setCell_other w' ⟨g, i, none⟩ k v (by show k ≠ g; omega)).trans (h.block k hk)⟩
theorem filler_ok {m y : Int} (h2 : 2 ≤ m) (h63 : m ≤ 9223372036854775807) (hd : (18446744073709551616 : Int) ∣ 1 - m * y) : Mont m (IntKind.u64.wrap (-y)) := by
  rw [IntKind.wrap_u64]
  refine ⟨h2, h63, by omega, by omega, ?_⟩
  obtain ⟨u, hu⟩ := hd
  have e := Int.emod_add_mul_ediv (-y) 18446744073709551616
  generalize -y / 18446744073709551616 = q at *
  generalize hr : -y % 18446744073709551616 = r at *
  have : r * m + 1 = 18446744073709551616 * (u - q * m) := by grind
  rw [this, Int.mul_emod_right]
set_option maxHeartbeats 400000 in
theorem new_no (m : Int) (w : World) (h : m < 2 ∨ 9223372036854775808 ≤ m) :
    Calls Tryd.prog 42 #[.int .u64 m] w fun e w' => e = .returned (.tuple #[.pointer none, .int .i64 1]) ∧ w' = w := by
  by_cases h1 : m < 2
  · clear h
    go_enter Tryd.func42, Tryd.ntmps42
    go_wp2
    go_ret2
    exact ⟨rfl, rfl⟩
  · have h2 : 9223372036854775808 ≤ m := by omega
    clear h
    go_enter Tryd.func42, Tryd.ntmps42
    go_wp2
    go_ret2
    exact ⟨rfl, rfl⟩
set_option maxHeartbeats 800000 in
theorem new_any (m : Int) (w : World) (h2 : 2 ≤ m) (h63 : m ≤ 9223372036854775807) :
    Calls Tryd.prog 42 #[.int .u64 m] w fun e w' => e = .returned (.tuple #[.pointer (some ⟨w.heap.size, 0, none⟩), .int .i64 0]) ∧ Below w.heap.size w w' ∧ ∃ f s, Fld w' w.heap.size m f s ∧ Ok m f s := by
  have F0 := hid (fld_new w m 0 0)
  have B0 : Hid (Below w.heap.size w (w.alloc (.cells #[.int .u64 m, .int .u64 0, .int .u64 0] 65))) := (Below.refl _ _).alloc (Nat.le_refl _) _
  have FE := hid (formError_any w.heap.size m 0 0 _ F0.out (by omega))
  by_cases h1 : m % 2 = 0
  · rw [if_pos h1] at FE
    have O : Hid (Ok m 0 0) := ⟨h2, h63, fun h => absurd h (by omega)⟩
    go_enter Tryd.func42, Tryd.ntmps42
    go_wp2_with fail
    refine FE.out.mono ?_
    rintro e w2 ⟨rfl, rfl⟩
    go_wp2
    go_ret2
    exact ⟨rfl, B0.out, 0, 0, F0.out, O.out⟩
  · rw [if_neg h1] at FE
    have ho : m % 2 = 1 := by omega
    go_enter Tryd.func42, Tryd.ntmps42
    go_wp2_with fail
    refine FE.out.mono ?_
    rintro e w2 ⟨rfl, rfl⟩
    generalize w.alloc (.cells #[.int .u64 m, .int .u64 0, .int .u64 0] 65) = w1 at *
    have c1 := F0.out.cell1
    have c2 := F0.out.cell2
    have z1 := F0.out.frozen 1
    have z2 := F0.out.frozen 2
    go_wp2_with fail
    refine (inverseWord_any m w1 h2 h63 ho).mono ?_
    rintro e w2 ⟨⟨y, rfl, y0, y1, yd⟩, rfl⟩
    have MO := hid (filler_ok h2 h63 yd)
    clear yd
    go_wp2_with fail
    refine (square_any m _ h2 h63).mono ?_
    rintro e w3 ⟨rfl, k, rfl⟩
    have O : Hid (Ok m (IntKind.u64.wrap (-y)) (18446744073709551616 * 18446744073709551616 % m)) := ⟨h2, h63, fun _ => ⟨MO.out, rfl⟩⟩
    generalize 18446744073709551616 * 18446744073709551616 % m = sq at *
    generalize hz : IntKind.u64.wrap (-y) = z at *
    go_wp2
    go_ret2
    exact ⟨rfl, below_set (below_set (below_drewN B0.out k) (Nat.le_refl _) 1 _) (Nat.le_refl _) 2 _, z, sq, ((F0.out.drew k).set1 z).set2 sq, O.out⟩
end Go.Proofs.YtjgipjiopagkiaaDoor
