/- The law's examples (chapter 7). -/
import Derived.Test.YtbecdlibckbbcabDoorTm
namespace Go.Proofs.YtbecdlibckbbcabDoor
open Go.RowKit Num Nmb

theorem tw17 : tw 17 = 4 := by decide
theorem pts17 : 13 ^ rv 2 1 % 17 = 16 ∧ 13 ^ rv 2 2 % 17 = 13 := by decide
theorem tgo17 : ∀ j, j < 3 → ev (lw [1, 2, 3]) 3 ((13 : Nat) ^ rv 2 j : Int) % 17 = lw [6, 2, 7] j := by decide
theorem tback17 : ∀ j, j < 3 → ev (lw [1, 2, 3]) 3 ((13 : Nat) ^ rv 2 j : Int) % 17 = lw [6, 2, 7] j % 17 := by decide
theorem lw17 : ∀ j, j < 3 → lw [1, 2, 3] j % 17 = lw [1, 2, 3] j := by decide
theorem same_yes (u v : Value) (n : Nat) (a b : Nat → Int) (w : World) (hu : Wl w u n a) (hv : Wl w v n b) (h : ∀ j, j < n → a j = b j) :
    Calls Tryd.prog 11 #[u, v] w fun e w' => e = .returned (.bool true) ∧ ∃ c, w' = w.drewN c :=
  rsame_any u v n n a b w hu hv true ⟨fun _ => ⟨rfl, h⟩, fun _ => rfl⟩
set_option maxHeartbeats 3200000 in
set_option maxRecDepth 100000 in
theorem awake7 (w : World) (L : Lay w) : Calls Tryd.prog 9 #[] w fun e w' => e = .returned (.bool true) ∧ Below w.heap.size w w' := by
  have NW := hid (tnew_yes 17 2 w pri17 (by decide) (by decide) (by rw [tw17]; decide) L)
  clear L
  go_enter Tryd.func9, Tryd.ntmps9
  go_wp2_with fail
  refine NW.out.mono ?_
  rintro e w1 ⟨⟨g, r, rfl, T⟩, B1⟩
  obtain rfl : r = 13 := T.ok.root.uniq root17
  have T1 := hid T
  have BB1 := hid B1
  clear T B1 NW
  have P1 := hid (tpoint_any g 17 2 13 1 w1 T1.out (by decide))
  rw [pts17.1] at P1
  go_wp2_with fail
  refine P1.out.mono ?_
  rintro e w2 ⟨rfl, B2⟩
  have T2 := hid (T1.out.below B2)
  have BB2 := hid (BB1.out.trans (B2.mono BB1.out.size))
  clear B2 T1 BB1 P1
  have P2 := hid (tpoint_any g 17 2 13 2 w2 T2.out (by decide))
  rw [pts17.2] at P2
  go_wp2_with fail
  refine P2.out.mono ?_
  rintro e w3 ⟨rfl, B3⟩
  have T3 := hid (T2.out.below B3)
  have BB3 := hid (BB2.out.trans (B3.mono BB2.out.size))
  clear B3 T2 BB2 P2
  have A1 := hid (Wl.lit w3 [1, 2, 3] (.cells #[.int .u64 1, .int .u64 2, .int .u64 3] 28 (0, 0)) rfl (by decide) (by decide))
  go_wp2_with fail
  refine (tgo_any g 17 2 13 _ 3 3 _ _ (T3.out.below ((Below.refl _ _).alloc (Nat.le_refl _) _)) A1.out (by decide) (by decide)).mono ?_
  rintro e w4 ⟨⟨ao, cap, rfl, G⟩, B4⟩
  have G4 := hid (G.eq tgo17)
  have B34 : Hid (Below w3.heap.size w3 w4) := ((Below.refl _ _).alloc (Nat.le_refl _) _).trans (B4.mono (by simp))
  have T4 := hid (T3.out.below B34.out)
  have BB4 := hid (BB3.out.trans (B34.out.mono BB3.out.size))
  clear G B4 A1 T3 B34 BB3
  have A1 := hid (Wl.lit w4 [6, 2, 7] (.cells #[.int .u64 6, .int .u64 2, .int .u64 7] 28 (0, 0)) rfl (by decide) (by decide))
  go_wp2_with fail
  refine (tback_any g 17 2 13 _ 3 _ _ (T4.out.below ((Below.refl _ _).alloc (Nat.le_refl _) _)) A1.out (by decide)).mono ?_
  rintro e w5 ⟨⟨bo, bap, b, rfl, G, FB⟩, B5⟩
  have D5 := hid (G.eq (fun j hj => (FB.is T4.out.ok (by decide) tback17 j hj).trans (lw17 j hj)))
  have B45 : Hid (Below w4.heap.size w4 w5) := ((Below.refl _ _).alloc (Nat.le_refl _) _).trans (B5.mono (by simp))
  have T5 := hid (T4.out.below B45.out)
  have G5 := hid (G4.out.below B45.out)
  have BB5 := hid (BB4.out.trans (B45.out.mono BB4.out.size))
  clear G FB B5 A1 T4 G4 B45 BB4
  go_wp2_with fail
  refine (tmost_any g 17 2 13 _ T5.out).mono ?_
  rintro e w6 ⟨rfl, hw⟩
  obtain rfl := hw.symm
  have A1 := hid (Wl.lit w5 [6, 2, 7] (.cells #[.int .u64 6, .int .u64 2, .int .u64 7] 28 (0, 0)) rfl (by decide) (by decide))
  go_wp2_with fail
  refine (same_yes _ _ 3 _ _ _ (G5.out.below ((Below.refl _ _).alloc (Nat.le_refl _) _)) A1.out (fun j hj => rfl)).mono ?_
  rintro e w6 ⟨rfl, c, rfl⟩
  have D6 := hid ((D5.out.below ((Below.refl _ _).alloc (Nat.le_refl _) (.cells #[.int .u64 6, .int .u64 2, .int .u64 7] 28 (0, 0)))).drew c)
  have BB6 : Hid (Below w.heap.size w ((w5.alloc (.cells #[.int .u64 6, .int .u64 2, .int .u64 7] 28 (0, 0))).drewN c)) := below_drewN (BB5.out.alloc BB5.out.size _) c
  clear A1 T5 G5 D5 BB5
  generalize (w5.alloc (.cells #[.int .u64 6, .int .u64 2, .int .u64 7] 28 (0, 0))).drewN c = w6 at *
  have A1 := hid (Wl.lit w6 [1, 2, 3] (.cells #[.int .u64 1, .int .u64 2, .int .u64 3] 28 (0, 0)) rfl (by decide) (by decide))
  go_wp2_with fail
  refine (same_yes _ _ 3 _ _ _ (D6.out.below ((Below.refl _ _).alloc (Nat.le_refl _) _)) A1.out (fun j hj => rfl)).mono ?_
  rintro e w7 ⟨rfl, c7, rfl⟩
  have BB7 := hid (below_drewN (BB6.out.alloc BB6.out.size (.cells #[.int .u64 1, .int .u64 2, .int .u64 3] 28 (0, 0))) c7)
  clear A1 D6 BB6
  go_wp2
  go_ret
  exact ⟨rfl, BB7.out⟩
end Go.Proofs.YtbecdlibckbbcabDoor
