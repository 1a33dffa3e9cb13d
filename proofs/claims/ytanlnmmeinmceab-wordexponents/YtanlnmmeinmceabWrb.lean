/- What the reference answers: which moduli may be. -/
import Derived.Test.YtanlnmmeinmceabWb
namespace Go.Proofs.Ytanlnmmeinmceab
open Go.RowKit Num

set_option maxHeartbeats 400000 in
theorem rmay_any (m : Int) (w : World) :
    Calls Try.prog 19 #[.int .u64 m] w fun e w' => e = .returned (.bool (decide (2 ≤ m) && decide (m < 9223372036854775808))) ∧ w' = w := by
  go_enter Try.func19, Try.ntmps19
  by_cases h : 2 ≤ m
  · by_cases h' : m < 9223372036854775808
    · go_wp2
      go_ret
      exact ⟨by simp [h, h'], rfl⟩
    · go_wp2
      go_ret
      exact ⟨by simp [h'], rfl⟩
  · go_wp2
    go_ret
    exact ⟨by simp; omega, rfl⟩
end Go.Proofs.Ytanlnmmeinmceab
