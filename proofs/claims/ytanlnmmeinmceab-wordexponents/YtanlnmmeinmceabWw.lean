/- What New answers. -/
import Derived.Test.YtanlnmmeinmceabWm
import Derived.Test.YtanlnmmeinmceabWrb
import Derived.Deep.RegionWith
namespace Go.Proofs.Ytanlnmmeinmceab
open Go.RowKit Num

theorem fld_new (w : World) (m f s : Int) : Fld (w.alloc (.cells #[.int .u64 m, .int .u64 f, .int .u64 s] 48)) w.heap.size m f s := heap_alloc_new w _
theorem Fld.set1 {w : World} {g : Nat} {m f s : Int} (h : Fld w g m f s) (v : Int) : Fld (w.setCell ⟨g, 1, none⟩ (.int .u64 v)) g m v s := by
  unfold Fld at *; rw [heap_setCell_same w g 1 _ _ _ h]; rfl
theorem Fld.set2 {w : World} {g : Nat} {m f s : Int} (h : Fld w g m f s) (v : Int) : Fld (w.setCell ⟨g, 2, none⟩ (.int .u64 v)) g m f v := by
  unfold Fld at *; rw [heap_setCell_same w g 2 _ _ _ h]; rfl
theorem below_set {B g : Nat} {w w' : World} (h : Below B w w') (hg : B ≤ g) (i : Nat) (v : Value) : Below B w (w'.setCell ⟨g, i, none⟩ v) :=
  ⟨h.os, h.tape, h.output, by simpa [World.setCell] using h.size, fun k hk => (heap_setCell_other w' ⟨g, i, none⟩ k v (by show k ≠ g; omega)).trans (h.block k hk)⟩
theorem filler_ok {m y : Int} (h2 : 2 ≤ m) (h63 : m ≤ 9223372036854775807) (hd : (18446744073709551616 : Int) ∣ 1 - m * y) : Mont m (IntKind.u64.wrap (-y)) := by
  rw [IntKind.wrap_u64]
  refine ⟨h2, h63, by omega, by omega, ?_⟩
  obtain ⟨u, hu⟩ := hd
  have e := Int.emod_add_mul_ediv (-y) 18446744073709551616
  generalize -y / 18446744073709551616 = q at *
  generalize hr : -y % 18446744073709551616 = r at *
  have : r * m + 1 = 18446744073709551616 * (u - q * m) := by grind
  rw [this, Int.mul_emod_right]
set_option maxHeartbeats 400000 in
theorem new_no (m : Int) (w : World) (h : m < 2 ∨ 9223372036854775808 ≤ m) :
    Calls Try.prog 18 #[.int .u64 m] w fun e w' => e = .returned (.tuple #[.pointer none, .int .i64 1]) ∧ w' = w := by
  by_cases h1 : m < 2
  · clear h
    go_enter Try.func18, Try.ntmps18
    go_wp2
    go_ret2
    exact ⟨rfl, rfl⟩
  · have h2 : 9223372036854775808 ≤ m := by omega
    clear h
    go_enter Try.func18, Try.ntmps18
    go_wp2
    go_ret2
    exact ⟨rfl, rfl⟩
set_option maxHeartbeats 800000 in
theorem new_any (m : Int) (w : World) (h2 : 2 ≤ m) (h63 : m ≤ 9223372036854775807) :
    Calls Try.prog 18 #[.int .u64 m] w fun e w' => e = .returned (.tuple #[.pointer (some ⟨w.heap.size, 0, none⟩), .int .i64 0]) ∧ Below w.heap.size w w' ∧ ∃ f s, Fld w' w.heap.size m f s ∧ Ok m f s := by
  have F0 := hid (fld_new w m 0 0)
  have B0 : Hid (Below w.heap.size w (w.alloc (.cells #[.int .u64 m, .int .u64 0, .int .u64 0] 48))) := (Below.refl _ _).alloc (Nat.le_refl _) _
  have FE := hid (formError_any w.heap.size m 0 0 _ F0.out (by omega))
  by_cases h1 : m % 2 = 0
  · rw [if_pos h1] at FE
    have O : Hid (Ok m 0 0) := ⟨h2, h63, fun h => absurd h (by omega)⟩
    go_enter Try.func18, Try.ntmps18
    go_wp2_with fail
    refine FE.out.mono ?_
    rintro e w2 ⟨rfl, rfl⟩
    go_wp2
    go_ret2
    exact ⟨rfl, B0.out, 0, 0, F0.out, O.out⟩
  · rw [if_neg h1] at FE
    have ho : m % 2 = 1 := by omega
    go_enter Try.func18, Try.ntmps18
    go_wp2_with fail
    refine FE.out.mono ?_
    rintro e w2 ⟨rfl, rfl⟩
    generalize w.alloc (.cells #[.int .u64 m, .int .u64 0, .int .u64 0] 48) = w1 at *
    have c1 := F0.out.cell1
    have c2 := F0.out.cell2
    have z1 := F0.out.frozen 1
    have z2 := F0.out.frozen 2
    go_wp2_with fail
    refine (inverseWord_any m w1 h2 h63 ho).mono ?_
    rintro e w2 ⟨⟨y, rfl, y0, y1, yd⟩, rfl⟩
    have MO := hid (filler_ok h2 h63 yd)
    clear yd
    go_wp2_with fail
    refine (square_any m _ h2 h63).mono ?_
    rintro e w3 ⟨rfl, k, rfl⟩
    have O : Hid (Ok m (IntKind.u64.wrap (-y)) (18446744073709551616 * 18446744073709551616 % m)) := ⟨h2, h63, fun _ => ⟨MO.out, rfl⟩⟩
    generalize 18446744073709551616 * 18446744073709551616 % m = sq at *
    generalize hz : IntKind.u64.wrap (-y) = z at *
    go_wp2
    go_ret2
    exact ⟨rfl, below_set (below_set (below_drewN B0.out k) (Nat.le_refl _) 1 _) (Nat.le_refl _) 2 _, z, sq, ((F0.out.drew k).set1 z).set2 sq, O.out⟩
set_option maxHeartbeats 400000 in
theorem field_no (m : Int) (w : World) (h : m < 2 ∨ 9223372036854775808 ≤ m) :
    Calls Try.prog 5 #[.int .u64 m] w fun e w' => e = .returned (.tuple #[.pointer none, .bool true]) ∧ w' = w := by
  have N := hid (new_no m w h)
  have M := rmay_any m w
  have e : (decide (2 ≤ m) && decide (m < 9223372036854775808)) = false := by simp; omega
  rw [e] at M
  have MM := hid M
  clear M e h
  go_enter Try.func5, Try.ntmps5
  go_wp2_with fail
  refine N.out.mono ?_
  rintro e w2 ⟨rfl, rfl⟩
  go_wp2_with fail
  refine MM.out.mono ?_
  rintro e w2 ⟨rfl, rfl⟩
  go_wp2
  go_ret2
  exact ⟨rfl, rfl⟩
set_option maxHeartbeats 400000 in
theorem field_any (m : Int) (w : World) (h2 : 2 ≤ m) (h63 : m ≤ 9223372036854775807) :
    Calls Try.prog 5 #[.int .u64 m] w fun e w' => e = .returned (.tuple #[.pointer (some ⟨w.heap.size, 0, none⟩), .bool true]) ∧ Below w.heap.size w w' ∧ ∃ f s, Fld w' w.heap.size m f s ∧ Ok m f s := by
  have N := hid (new_any m w h2 h63)
  have M := hid (rmay_any m)
  have e : (decide (2 ≤ m) && decide (m < 9223372036854775808)) = true := by simp; omega
  rw [e] at M
  clear e
  go_enter Try.func5, Try.ntmps5
  go_wp2_with fail
  refine N.out.mono ?_
  rintro e w2 ⟨rfl, B, f, s, F, O⟩
  have FF := hid F
  have OO := hid O
  have BB := hid B
  clear F O B
  go_wp2_with fail
  refine (M.out w2).mono ?_
  rintro e w3 ⟨rfl, rfl⟩
  go_wp2_with fail
  refine (m_any _ m f s _ FF.out).mono ?_
  rintro e w3 ⟨rfl, rfl⟩
  go_wp2
  go_ret2
  exact ⟨rfl, BB.out, f, s, FF.out, OO.out⟩
theorem ec37 : ec 3 7 = 0 := by decide +kernel
theorem ec77 : ec 7 7 = 10 := by decide +kernel
theorem ec68 : ec 6 8 = 11 := by decide +kernel
theorem fe8 : fe 8 = 1 := by decide +kernel
set_option maxHeartbeats 800000 in
theorem awake_any (w : World) :
    Calls Try.prog 6 #[] w fun e w' => e = .returned (.bool true) ∧ Below w.heap.size w w' := by
  go_enter Try.func6, Try.ntmps6
  go_wp2_with fail
  refine (new_any 7 w (by decide) (by decide)).mono ?_
  rintro e w1 ⟨rfl, B1, f1, s1, F1, O1⟩
  go_wp2_with fail
  refine (new_any 8 w1 (by decide) (by decide)).mono ?_
  rintro e w2 ⟨rfl, B2, f2, s2, F2, O2⟩
  have F1' := hid (F1.below B2 F1.lt)
  have F2' := hid F2
  have O1' := hid O1
  have O2' := hid O2
  have BB := hid (B1.trans (B2.mono B1.size))
  clear B1 B2 F1 F2 O1 O2
  go_wp2_with fail
  refine (inv_any _ 7 f1 s1 3 w2 F1'.out O1'.out (by decide)).mono ?_
  rintro e w3 ⟨⟨y, rfl, I⟩, rfl⟩
  rw [ec37]
  have hy : y = 5 := by
    have := I.good ec37
    omega
  subst hy
  clear I
  go_wp2_with fail
  refine (inv_any _ 7 f1 s1 7 _ F1'.out O1'.out (by decide)).mono ?_
  rintro e w3 ⟨⟨y, rfl, I⟩, rfl⟩
  rw [ec77]
  clear I
  go_wp2_with fail
  refine (inv_any _ 8 f2 s2 6 _ F2'.out O2'.out (by decide)).mono ?_
  rintro e w3 ⟨⟨y, rfl, I⟩, rfl⟩
  rw [ec68]
  clear I
  go_wp2_with fail
  refine (in_any _ 8 f2 s2 1 _ F2'.out O2'.out (by decide)).mono ?_
  rintro e w4 ⟨⟨r, rfl, I⟩, k, rfl⟩
  rw [fe8]
  clear I
  go_wp2_with fail
  refine (mul_any _ 7 f1 s1 5 6 _ (F1'.out.drew k) O1'.out (by decide) (by decide)).mono ?_
  rintro e w5 ⟨rfl, k2, rfl⟩
  go_wp2
  go_ret
  exact ⟨rfl, below_drewN BB.out _⟩
end Go.Proofs.Ytanlnmmeinmceab
