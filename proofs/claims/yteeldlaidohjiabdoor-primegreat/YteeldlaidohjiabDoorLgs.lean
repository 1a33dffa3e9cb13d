/- The law PrimeGreat, whole. -/
import Derived.Test.YteeldlaidohjiabDoorLgr
namespace Go.Proofs.YteeldlaidohjiabDoor
open Go.RowKit Num Nmb

set_option maxHeartbeats 1600000 in
set_option maxRecDepth 100000 in
theorem great_law (k many : Int) (below : Nat) (w : World) (L : Lay w) :
    Calls Tryd.prog 3 #[.int .i64 k, .int .i64 many, .int .u64 below] w fun e w' => e = .returned (.bool true) ∧ Below w.heap.size w w' := by
  have AW := hid (awake_any w L)
  by_cases h1 : k < 1
  · clear L
    go_enter Tryd.func3, Tryd.ntmps3
    go_wp2_with fail
    refine AW.out.mono ?_
    rintro e w2 ⟨rfl, B⟩
    go_wp2
    go_ret
    exact ⟨rfl, B⟩
  by_cases h2 : 40 < k
  · clear L
    go_enter Tryd.func3, Tryd.ntmps3
    go_wp2_with fail
    refine AW.out.mono ?_
    rintro e w2 ⟨rfl, B⟩
    go_wp2
    go_ret
    exact ⟨rfl, B⟩
  by_cases h3 : many < 1
  · clear L
    go_enter Tryd.func3, Tryd.ntmps3
    go_wp2_with fail
    refine AW.out.mono ?_
    rintro e w2 ⟨rfl, B⟩
    go_wp2
    go_ret
    exact ⟨rfl, B⟩
  by_cases h4 : 8 < many
  · clear L
    go_enter Tryd.func3, Tryd.ntmps3
    go_wp2_with fail
    refine AW.out.mono ?_
    rintro e w2 ⟨rfl, B⟩
    go_wp2
    go_ret
    exact ⟨rfl, B⟩
  by_cases h5 : below < 1000000
  · have c5 : decide ((below : Int) < 1000000) = true := by simp; omega
    clear h5 L
    go_enter Tryd.func3, Tryd.ntmps3
    go_wp2_with fail
    refine AW.out.mono ?_
    rintro e w2 ⟨rfl, B⟩
    go_wp2
    go_ret
    exact ⟨rfl, B⟩
  by_cases h6 : 9223372036854775808 < below
  · have c5 : decide ((below : Int) < 1000000) = false := by simp; omega
    have c6 : decide ((9223372036854775808 : Int) < (below : Int)) = true := by simp; omega
    clear h5 h6 L
    go_enter Tryd.func3, Tryd.ntmps3
    go_wp2_with fail
    refine AW.out.mono ?_
    rintro e w2 ⟨rfl, B⟩
    go_wp2
    go_ret
    exact ⟨rfl, B⟩
  obtain ⟨k, rfl⟩ : ∃ j : Nat, k = j := ⟨k.toNat, by omega⟩
  obtain ⟨many, rfl⟩ : ∃ j : Nat, many = j := ⟨many.toNat, by omega⟩
  exact great_good k many below _ w ⟨by omega, by omega⟩ ⟨by omega, by omega⟩ ⟨by omega, by omega⟩ rfl L
end Go.Proofs.YteeldlaidohjiabDoor
