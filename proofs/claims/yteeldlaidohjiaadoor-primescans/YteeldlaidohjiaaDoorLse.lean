/- The law PrimeScans, whole. -/
import Derived.Test.YteeldlaidohjiaaDoorLsd
namespace Go.Proofs.YteeldlaidohjiaaDoor
open Go.RowKit Num Nmb

set_option maxHeartbeats 1600000 in
set_option maxRecDepth 100000 in
theorem scans_law (k many : Int) (below : Nat) (w : World) (L : Lay w) :
    Calls Tryd.prog 8 #[.int .i64 k, .int .i64 many, .int .u64 below] w fun e w' => e = .returned (.bool true) ∧ Below w.heap.size w w' := by
  by_cases h1 : 30000 < below
  · by_cases h2 : below ≤ 9223372036854775808
    · have c1 : decide ((30000 : Int) < (below : Int)) = true := by simp; omega
      have c2 : decide ((below : Int) ≤ 9223372036854775808) = true := by simp; omega
      have AW := hid (awake_any w L)
      clear h1 h2 L
      go_enter Tryd.func8, Tryd.ntmps8
      go_wp2_with fail
      refine AW.out.mono ?_
      rintro e w2 ⟨rfl, B⟩
      go_wp2
      go_ret
      exact ⟨rfl, B⟩
    · exact scans_bad2 k many below w (by omega) (by omega) L
  · by_cases h : k < 1 ∨ 40 < k ∨ many < 1 ∨ 64 < many
    · exact scans_bad1 k many below w (by omega) (by omega) L
    · obtain ⟨k, rfl⟩ : ∃ j : Nat, k = j := ⟨k.toNat, by omega⟩
      obtain ⟨many, rfl⟩ : ∃ j : Nat, many = j := ⟨many.toNat, by omega⟩
      exact scans_good k many below _ w ⟨by omega, by omega⟩ ⟨by omega, by omega⟩ (by omega) rfl L
end Go.Proofs.YteeldlaidohjiaaDoor
