/- The law ConvGreat, walked. -/
import Derived.Test.YtocfenjampmdlabGreatDoorCe
import Derived.OwnWalk
namespace Go.Proofs.YtocfenjampmdlabGreatDoor
open Go.RowKit Num Nmb

set_option maxHeartbeats 1600000 in
set_option maxRecDepth 100000 in
theorem cgreat_law (t : Int) (w : World) (L : LayB w) :
    Calls Tryz.prog 4 #[.int .i64 t] w fun e w' => e = .returned (.bool true) ∧ Below w.heap.size w w' := by
  have AWA : Hid (∀ w', Below w.heap.size w w' → Calls Tryz.prog 5 #[] w' fun e w'' => e = .returned (.bool true) ∧ Below w'.heap.size w' w'') := fun w' B => awake8 w' (L.below B)
  have LL := hid L
  have B0 := hid (Below.refl w.heap.size w)
  clear L
  by_cases h1 : t < 0
  · go_enter Tryz.func4, Tryz.ntmps4
    go_wp2_with fail
    refine (AWA.out _ B0.out).mono ?_
    rintro e w9 ⟨rfl, B9⟩
    have BB9 := hid (B0.out.trans (B9.mono B0.out.size))
    clear B9
    go_wp2
    go_ret
    exact ⟨rfl, BB9.out⟩
  by_cases h2 : 100 < t
  · go_enter Tryz.func4, Tryz.ntmps4
    go_wp2_with fail
    refine (AWA.out _ B0.out).mono ?_
    rintro e w9 ⟨rfl, B9⟩
    have BB9 := hid (B0.out.trans (B9.mono B0.out.size))
    clear B9
    go_wp2
    go_ret
    exact ⟨rfl, BB9.out⟩
  obtain ⟨N, hN⟩ : ∃ N : Nat, (1048576 : Int) + t = N := ⟨(1048576 + t).toNat, by omega⟩
  have nl : N ≤ 1048676 := by omega
  have nl2 : 1048576 ≤ N := by omega
  have wN : IntKind.i64.wrap (N : Int) = (N : Int) := by rw [IntKind.wrap_i64]; omega
  go_enter Tryz.func4, Tryz.ntmps4
  go_wp2_with (at_make; refine wp_make _ rfl _ _ rfl _ _ N rfl rfl (by omega) (by omega) (by omega) ?_; intro w1 R1 C1 Z1; have HR := hid R1; have HC := hid C1; clear R1 C1 Z1)
  have W1 : Hid (Wl w1 (.slice (some ⟨w.heap.size, 0, none⟩) N N) N (fun _ => 0)) := HR.out.wl (fun j _ => by omega) (by omega)
  clear HR
  obtain ⟨g, hg⟩ : ∃ g, g = w.heap.size := ⟨_, rfl⟩
  have HG := hid hg
  rw [← hg] at W1 ⊢
  clear hg
  have A1 := hid (Wl.lit w1 [1] (.cells #[.int .u64 1] 22 (0, 0)) rfl (by decide) (by decide))
  have BA : Hid (Below w1.heap.size w1 (w1.alloc (.cells #[.int .u64 1] 22 (0, 0)))) := (Below.refl _ _).alloc (Nat.le_refl _) _
  have C1 := hid (conv_limit _ _ N 1 _ _ 7 _ (W1.out.below BA.out) A1.out (by decide) (by decide) (by omega) (by decide) (by omega) (by omega))
  go_wp2_with fail
  refine C1.out.mono ?_
  rintro e2 w2 ⟨⟨o2, c2, rfl⟩, B2⟩
  have S2 := hid (BA.out.trans (B2.mono BA.out.size))
  have W2 := hid (W1.out.below S2.out)
  have BB2 := hid (HC.out.trans (S2.out.mono HC.out.size))
  clear A1 BA C1 B2 S2 W1 HC
  have A1 := hid (Wl.lit w2 [1] (.cells #[.int .u64 1] 22 (0, 0)) rfl (by decide) (by decide))
  have BA : Hid (Below w2.heap.size w2 (w2.alloc (.cells #[.int .u64 1] 22 (0, 0)))) := (Below.refl _ _).alloc (Nat.le_refl _) _
  have C1 := hid (exact_limit _ _ N 1 _ _ _ (W2.out.below BA.out) A1.out (by omega) (by decide) (by omega) (by omega))
  go_wp2_with fail
  refine C1.out.mono ?_
  rintro e3 w3 ⟨⟨o3, c3, rfl⟩, B3⟩
  have S3 := hid (BA.out.trans (B3.mono BA.out.size))
  have W3 := hid (W2.out.below S3.out)
  have BB3 := hid (BB2.out.trans (S3.out.mono BB2.out.size))
  clear A1 BA C1 B3 S3 W2 BB2
  have C1 := hid (conv_none _ _ N 0 _ (fun _ => 0) 7 w3 W3.out (Wl.nil _ _) (by decide) (by decide) (Or.inr rfl))
  go_wp2_with fail
  refine C1.out.mono ?_
  rintro e4 w4 ⟨⟨o4, c4, rfl, -⟩, B4⟩
  have W4 := hid (W3.out.below B4)
  have BB4 := hid (BB3.out.trans (B4.mono BB3.out.size))
  clear C1 B4 W3 BB3
  have C1 := hid (exact_none _ _ 0 N (fun _ => 0) _ w4 (Wl.nil _ _) W4.out (Or.inl rfl))
  go_wp2_with fail
  refine C1.out.mono ?_
  rintro e5 w5 ⟨⟨o5, c5, rfl, -⟩, B5⟩
  have BB5 := hid (BB4.out.trans (B5.mono BB4.out.size))
  clear C1 B5 W4 BB4
  go_wp2_with fail
  refine (AWA.out _ BB5.out).mono ?_
  rintro e w9 ⟨rfl, B9⟩
  have BB9 := hid (BB5.out.trans (B9.mono BB5.out.size))
  clear B9
  go_wp2
  go_ret
  exact ⟨rfl, BB9.out⟩
end Go.Proofs.YtocfenjampmdlabGreatDoor
