/- The law's examples. -/
import Derived.Test.YtcclkahoonlieaaDoorQc
namespace Go.Proofs.YtcclkahoonlieaaDoor
open Go.RowKit Num Nmb

theorem tw17 : tw 17 = 4 := by decide
theorem go17 : ∀ j, j < 4 → dft (lw [1, 2, 0, 0]) 13 4 j % 17 = lw [3, 10, 16, 9] j := by decide
theorem rnd17 : ∀ j, j < 4 → rnd (lw [0, 1, 0, 0]) (lw [0, 0, 0, 1]) 4 j % 17 = lw [1, 0, 0, 0] j := by decide
theorem same_yes (u v : Value) (n : Nat) (a b : Nat → Int) (w : World) (hu : Wl w u n a) (hv : Wl w v n b) (h : ∀ j, j < n → a j = b j) :
    Calls Tryd.prog 18 #[u, v] w fun e w' => e = .returned (.bool true) ∧ ∃ c, w' = w.drewN c :=
  rsame_any u v n n a b w hu hv true ⟨fun _ => ⟨rfl, h⟩, fun _ => rfl⟩
set_option maxHeartbeats 400000 in
set_option maxRecDepth 100000 in
theorem awake_yes (w : World) (L : Lay w) : Calls Tryd.prog 9 #[] w fun e w' => e = .returned (.bool true) ∧ Below w.heap.size w w' := by
  have NW := hid (nnew_yes 17 2 w pri17 (by decide) (by decide) (by rw [tw17]; decide) L)
  clear L
  go_enter Tryd.func9, Tryd.ntmps9
  go_wp2_with fail
  refine NW.out.mono ?_
  rintro e w1 ⟨⟨g, r, rfl, T⟩, B1⟩
  obtain rfl : r = 13 := T.ok.root.uniq root17
  have T1 := hid T
  have BB1 := hid B1
  have A1 := hid (Wl.lit w1 [1, 2, 0, 0] (.cells #[.int .u64 1, .int .u64 2, .int .u64 0, .int .u64 0] 22 (0, 0)) rfl (by decide) (by decide))
  clear T B1 NW
  go_wp2_with fail
  refine (ngo_any g 17 2 13 _ 4 _ _ (T1.out.below ((Below.refl _ _).alloc (Nat.le_refl _) _)) A1.out (by decide)).mono ?_
  rintro e w2 ⟨⟨ao, cap, rfl, G⟩, B2⟩
  have G2 := hid (G.eq go17)
  have B12 : Hid (Below w1.heap.size w1 w2) := ((Below.refl _ _).alloc (Nat.le_refl _) _).trans (B2.mono (by simp))
  have T2 := hid (T1.out.below B12.out)
  have BB2 := hid (BB1.out.trans (B12.out.mono BB1.out.size))
  clear G B2 A1 T1 B12 BB1
  have A1 := hid (Wl.lit w2 [0, 1, 0, 0] (.cells #[.int .u64 0, .int .u64 1, .int .u64 0, .int .u64 0] 22 (0, 0)) rfl (by decide) (by decide))
  have A2' := Wl.lit (w2.alloc (.cells #[.int .u64 0, .int .u64 1, .int .u64 0, .int .u64 0] 22 (0, 0))) [0, 0, 0, 1] (.cells #[.int .u64 0, .int .u64 0, .int .u64 0, .int .u64 1] 22 (0, 0)) rfl (by decide) (by decide)
  rw [show (w2.alloc (.cells #[.int .u64 0, .int .u64 1, .int .u64 0, .int .u64 0] 22 (0, 0))).heap.size = w2.heap.size + 1 by simp] at A2'
  have A2 := hid A2'
  have BA : Hid (Below w2.heap.size w2 ((w2.alloc (.cells #[.int .u64 0, .int .u64 1, .int .u64 0, .int .u64 0] 22 (0, 0))).alloc (.cells #[.int .u64 0, .int .u64 0, .int .u64 0, .int .u64 1] 22 (0, 0)))) := ((Below.refl _ _).alloc (Nat.le_refl _) _).alloc (by simp) _
  have A1' : Hid (Wl ((w2.alloc (.cells #[.int .u64 0, .int .u64 1, .int .u64 0, .int .u64 0] 22 (0, 0))).alloc (.cells #[.int .u64 0, .int .u64 0, .int .u64 0, .int .u64 1] 22 (0, 0))) (.slice (some ⟨w2.heap.size, 0, none⟩) 4 4) 4 (lw [0, 1, 0, 0])) := A1.out.below ((Below.refl _ _).alloc (Nat.le_refl _) _)
  have T2' := hid (T2.out.below BA.out)
  clear A2' A1
  go_wp2_with fail
  refine (nround_any g 17 2 13 _ _ 4 _ _ _ T2'.out A1'.out A2.out (by decide)).mono ?_
  rintro e w3 ⟨⟨bo, bap, rfl, R⟩, B3⟩
  have R3 := hid (R.eq rnd17)
  have B23 : Hid (Below w2.heap.size w2 w3) := BA.out.trans (B3.mono BA.out.size)
  have T3 := hid (T2.out.below B23.out)
  have G3 := hid (G2.out.below B23.out)
  have BB3 := hid (BB2.out.trans (B23.out.mono BB2.out.size))
  clear R B3 A1' A2 T2 T2' G2 B23 BB2 BA
  go_wp2_with fail
  refine (nroot_any g 17 2 13 _ T3.out).mono ?_
  rintro e w4 ⟨rfl, hw⟩
  obtain rfl := hw.symm
  have A1 := hid (Wl.lit w3 [3, 10, 16, 9] (.cells #[.int .u64 3, .int .u64 10, .int .u64 16, .int .u64 9] 22 (0, 0)) rfl (by decide) (by decide))
  go_wp2_with fail
  refine (same_yes _ _ 4 _ _ _ (G3.out.below ((Below.refl _ _).alloc (Nat.le_refl _) _)) A1.out (fun j hj => rfl)).mono ?_
  rintro e w4 ⟨rfl, c, rfl⟩
  have R4 := hid ((R3.out.below ((Below.refl _ _).alloc (Nat.le_refl _) (.cells #[.int .u64 3, .int .u64 10, .int .u64 16, .int .u64 9] 22 (0, 0)))).drew c)
  have B34 : Hid (Below w.heap.size w ((w3.alloc (.cells #[.int .u64 3, .int .u64 10, .int .u64 16, .int .u64 9] 22 (0, 0))).drewN c)) := below_drewN (BB3.out.alloc BB3.out.size _) c
  clear A1 T3 G3 R3 BB3
  generalize (w3.alloc (.cells #[.int .u64 3, .int .u64 10, .int .u64 16, .int .u64 9] 22 (0, 0))).drewN c = w4 at *
  have A1 := hid (Wl.lit w4 [1, 0, 0, 0] (.cells #[.int .u64 1, .int .u64 0, .int .u64 0, .int .u64 0] 22 (0, 0)) rfl (by decide) (by decide))
  go_wp2_with fail
  refine (same_yes _ _ 4 _ _ _ (R4.out.below ((Below.refl _ _).alloc (Nat.le_refl _) _)) A1.out (fun j hj => rfl)).mono ?_
  rintro e w5 ⟨rfl, c5, rfl⟩
  have B5 := hid (below_drewN (B34.out.alloc B34.out.size (.cells #[.int .u64 1, .int .u64 0, .int .u64 0, .int .u64 0] 22 (0, 0))) c5)
  clear A1 R4 B34
  go_wp2
  go_ret
  exact ⟨rfl, B5.out⟩
end Go.Proofs.YtcclkahoonlieaaDoor
