/- The law TftNil. -/
import Derived.Test.YtbecdlibckbbcabDoorTe
namespace Go.Proofs.YtbecdlibckbbcabDoor
open Go.RowKit Num Nmb

set_option maxHeartbeats 3200000 in
set_option maxRecDepth 100000 in
theorem tnil_law (u : Value) (n : Nat) (a : Nat → Int) (m : Int) (w : World) (U : Wl w u n a) (L : Lay w) :
    Calls Tryd.prog 4 #[u, .int .i64 m] w fun e w' => e = .returned (.bool true) ∧ Below w.heap.size w w' := by
  have AWA : Hid (∀ w', Below w.heap.size w w' → Calls Tryd.prog 9 #[] w' fun e w'' => e = .returned (.bool true) ∧ Below w'.heap.size w' w'') := fun w' B => awake7 w' (L.below B L.size)
  have UU := hid U
  obtain ⟨ao, cap, rfl, -⟩ := U
  clear L
  by_cases hb : 10 < n
  · have hb' : (10 : Int) < (n : Int) := by omega
    have B0 := hid (Below.refl w.heap.size w)
    go_enter Tryd.func4, Tryd.ntmps4
    go_wp2_with fail
    refine (AWA.out _ B0.out).mono ?_
    rintro e w9 ⟨rfl, B9⟩
    have BB9 := hid (B0.out.trans (B9.mono B0.out.size))
    clear B9
    go_wp2
    go_ret
    exact ⟨rfl, BB9.out⟩
  · have hb' : ¬ (10 : Int) < (n : Int) := by omega
    go_enter Tryd.func4, Tryd.ntmps4
    go_wp2_with fail
    refine (tpoint_nil m _).mono ?_
    rintro e w1 ⟨⟨v1, rfl⟩, B1⟩
    have U1 := hid (UU.out.below B1)
    have BB1 := hid B1
    clear B1
    go_wp2_with fail
    refine (tgo_nil _ n a m _ U1.out).mono ?_
    rintro e w2 ⟨⟨v2, rfl⟩, B2⟩
    have U2 := hid (U1.out.below B2)
    have BB2 := hid (BB1.out.trans (B2.mono BB1.out.size))
    clear B2 BB1 U1
    go_wp2_with fail
    refine (tback_nil _ n a _ U2.out).mono ?_
    rintro e w3 ⟨⟨v3, rfl⟩, B3⟩
    have U3 := hid (U2.out.below B3)
    have BB3 := hid (BB2.out.trans (B3.mono BB2.out.size))
    clear B3 BB2 U2
    go_wp2_with fail
    refine (tmul_nil _ _ n n a a _ U3.out U3.out).mono ?_
    rintro e w4 ⟨⟨v4, rfl⟩, B4⟩
    have U4 := hid (U3.out.below B4)
    have BB4 := hid (BB3.out.trans (B4.mono BB3.out.size))
    clear B4 BB3 U3
    go_wp2_with fail
    refine (tmost_nil _).mono ?_
    rintro e w5 ⟨rfl, hw⟩
    obtain rfl := hw.symm
    go_wp2_with fail
    refine (AWA.out _ BB4.out).mono ?_
    rintro e w9 ⟨rfl, B9⟩
    have BB9 := hid (BB4.out.trans (B9.mono BB4.out.size))
    clear B9
    go_wp2
    go_ret
    exact ⟨rfl, BB9.out⟩
end Go.Proofs.YtbecdlibckbbcabDoor
