/- The law TftTurns. -/
import Derived.Test.YtbecdlibckbbcaaDoorTe
namespace Go.Proofs.YtbecdlibckbbcaaDoor
open Go.RowKit Num Nmb

set_option maxHeartbeats 3200000 in
set_option maxRecDepth 100000 in
theorem turns_law (i k : Int) (w : World) (hi : -9223372036854775808 ≤ i ∧ i ≤ 9223372036854775807) (hk : -9223372036854775808 ≤ k ∧ k ≤ 9223372036854775807) (L : Lay w) :
    Calls Tryd.prog 3 #[.int .i64 i, .int .i64 k] w fun e w' => e = .returned (.bool true) ∧ Below w.heap.size w w' := by
  have AWA : Hid (∀ w', Below w.heap.size w w' → Calls Tryd.prog 11 #[] w' fun e w'' => e = .returned (.bool true) ∧ Below w'.heap.size w' w'') := fun w' B => awake7 w' (L.below B L.size)
  have T1 := hid (tturned_any i k w hi hk)
  have T2 := hid (fun w => rturned_any i k w hi)
  clear L
  go_enter Tryd.func3, Tryd.ntmps3
  go_wp2_with fail
  refine T1.out.mono ?_
  rintro e w1 ⟨⟨r, er, rfl, A⟩, B1⟩
  have BB1 := hid B1
  have AA := hid A
  clear B1 A
  go_wp2_with fail
  refine (T2.out _).mono ?_
  rintro e w2 ⟨⟨r', er', rfl, A'⟩, hw⟩
  obtain rfl := hw.symm
  obtain ⟨rfl, rfl⟩ := A'.uniq AA.out
  clear AA A' T1 T2
  go_wp2_with fail
  refine (AWA.out _ BB1.out).mono ?_
  rintro e w9 ⟨rfl, B9⟩
  have BB9 := hid (BB1.out.trans (B9.mono BB1.out.size))
  clear B9
  go_wp2
  go_ret
  exact ⟨rfl, BB9.out⟩
end Go.Proofs.YtbecdlibckbbcaaDoor
