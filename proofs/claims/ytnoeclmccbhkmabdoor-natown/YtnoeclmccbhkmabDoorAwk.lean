/- 'awake', with which every law ends, answers true, and writes into nothing that was there. -/
import Derived.Test.YtnoeclmccbhkmabDoorPrs
namespace Go.Proofs.YtnoeclmccbhkmabDoor
open Go.RowKit Num

theorem Nt.two (w : World) (a b : Int) (ha : 0 ≤ a ∧ a ≤ 18446744073709551615) (hb : 0 ≤ b ∧ b ≤ 18446744073709551615) :
    Nt (w.alloc (.cells #[.int .u64 a, .int .u64 b] 39)) (.slice (some ⟨w.heap.size, 0, none⟩) 2 2) 2 (a + b * 18446744073709551616) := by
  refine ⟨fun j => if j = 0 then a else b, 0, ?_, by simp [V, P]⟩
  have hr : Row (w.alloc (.cells #[.int .u64 a, .int .u64 b] 39)) w.heap.size 2 (fun j => if j = 0 then a else b) :=
    ⟨#[.int .u64 a, .int .u64 b], heap_alloc_new w _, rfl, fun j hj => by
      have : j = 0 ∨ j = 1 := by omega
      rcases this with rfl | rfl <;> rfl⟩
  refine hr.sl 0 2 2 (Nat.le_refl _) (Nat.le_refl _) (by omega) (fun j _ => ?_)
  show 0 ≤ (if 0 + j = 0 then a else b) ∧ (if 0 + j = 0 then a else b) ≤ _
  split
  · exact ha
  · exact hb
theorem sevens : ¬ IsNum (ByteArray.mk #[48, 48, 55]) := by
  rintro ⟨-, h | ⟨_, h⟩⟩
  · rw [toList_eq] at h; simp at h
  · exact h rfl
theorem big_dec : Lib.decDigits 18446744073709551616 = [49, 56, 52, 52, 54, 55, 52, 52, 48, 55, 51, 55, 48, 57, 53, 53, 49, 54, 49, 54] := by decide +kernel

set_option maxHeartbeats 1600000 in
set_option maxRecDepth 100000 in
theorem awake_any (w : World) (ht : Tab w) :
    Calls Tryd.prog 7 #[] w fun e w' => e = .returned (.bool true) ∧ Below w.heap.size w w' := by
  have HT := hid ht
  clear ht
  have A1 := hid (((Nt.one w 100 (by decide) (by decide))).below ((Below.refl _ _).alloc (Nat.le_refl _) (.cells #[.int .u64 7] 39)))
  have A2 := Nt.one (w.alloc (.cells #[.int .u64 100] 39)) 7 (by decide) (by decide)
  rw [World.size_alloc] at A2
  have HA2 := hid A2
  clear A2
  go_enter Tryd.func7, Tryd.ntmps7
  go_wp2_with fail
  refine (divMod_any _ _ 1 1 100 7 _ A1.out HA2.out (by decide) (by decide) (by decide) (fun h => absurd h (by decide))).mono ?_
  rintro e w1 ⟨v1, v2, k1, k2, q, r, rfl, s1, s2, e3, r0, r1, l1, l2, B1⟩
  have hq : q = 14 := by omega
  have hr : r = 2 := by omega
  subst hq; subst hr
  have B1' : Below w.heap.size w w1 := (((Below.refl _ _).alloc (Nat.le_refl _) _).alloc (by simp) _).trans (B1.mono (by simp; omega))
  have S1 := hid s1
  have S2 := hid s2
  clear s1 s2 e3 r0 r1 A1 HA2 B1
  go_wp2_with fail
  refine (parse_no _ w1 (by decide) sevens).mono ?_
  rintro e w2 ⟨rfl, rfl⟩
  have A3 := hid (Nt.one w2 14 (by decide) (by decide))
  have B2 : Below w2.heap.size w2 (w2.alloc (.cells #[.int .u64 14] 39)) := (Below.refl _ _).alloc (Nat.le_refl _) _
  have S1' := hid (S1.out.nt.below B2)
  have c14 : cmpI 14 14 = 0 := by decide
  have c2 : cmpI 2 2 = 0 := by decide
  go_wp2_with fail
  refine (cmp_nt _ _ k1 1 14 14 _ S1'.out A3.out).mono ?_
  rintro e w3 ⟨rfl, i, hw3⟩
  rw [c14]
  have B3 : Below w2.heap.size w2 w3 := by rw [hw3]; exact below_drewN B2 i
  clear hw3 B2 A3 S1'
  have A4 := hid (Nt.one w3 2 (by decide) (by decide))
  have B4 : Below w3.heap.size w3 (w3.alloc (.cells #[.int .u64 2] 39)) := (Below.refl _ _).alloc (Nat.le_refl _) _
  have S2' := hid (S2.out.nt.below (B3.trans (B4.mono B3.size)))
  go_wp2_with fail
  refine (cmp_nt _ _ k2 1 2 2 _ S2'.out A4.out).mono ?_
  rintro e w4 ⟨rfl, i', hw4⟩
  rw [c2]
  have B5 : Below w2.heap.size w2 w4 := by rw [hw4]; exact below_drewN (B3.trans (B4.mono B3.size)) i'
  have B6 : Below w.heap.size w w4 := B1'.trans (B5.mono B1'.size)
  clear hw4 B4 A4 S2' B3 B5 S1 S2
  have A5 := Nt.two w4 0 1 (by decide) (by decide)
  have HA5 := hid A5
  have B7 : Below w4.heap.size w4 (w4.alloc (.cells #[.int .u64 0, .int .u64 1] 39)) := (Below.refl _ _).alloc (Nat.le_refl _) _
  have B8 : Below w.heap.size w (w4.alloc (.cells #[.int .u64 0, .int .u64 1] 39)) := B6.trans (B7.mono B6.size)
  have T2 := hid (HT.out.below B8 HT.out.lt)
  clear A5
  go_wp2_with fail
  refine (print_any _ 2 18446744073709551616 _ HA5.out (by decide) T2.out).mono ?_
  rintro e w5 ⟨rfl, B9⟩
  rw [big_dec]
  have B10 := B8.trans (B9.mono B8.size)
  go_wp2
  go_ret
  exact ⟨rfl, B10⟩
end Go.Proofs.YtnoeclmccbhkmabDoor
