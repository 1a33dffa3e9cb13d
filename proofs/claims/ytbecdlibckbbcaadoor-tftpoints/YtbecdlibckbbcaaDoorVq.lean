/- The reference's powers, in plain numbers. -/
import Derived.Test.YtbecdlibckbbcaaDoorPa
import Derived.Test.YtbecdlibckbbcaaDoorVr
namespace Go.Proofs.YtbecdlibckbbcaaDoor
open Go.RowKit Num Nmb

theorem rpow_nat (x n m : Nat) (w : World) (hm : 2 ≤ m) (hm' : m ≤ 9223372036854775807) (hn : n ≤ 18446744073709551615) :
    Calls Tryd.prog 32 #[.int .u64 x, .int .u64 n, .int .u64 m] w fun e w' => e = .returned (.int .u64 (x ^ n % m : Nat)) ∧ ∃ k, w' = w.drewN k := by
  have h := rpow_any x m n w (by omega) (by omega) (by omega) hn
  rw [← Int.natCast_pow, ← Int.natCast_emod] at h
  exact h
theorem rpow_two (k u : Nat) (w : World) (hk : k ≤ 40) (hu : 2 ^ k = u) :
    Calls Tryd.prog 32 #[.int .u64 2, .int .u64 k, .int .u64 4611686018427387904] w fun e w' => e = .returned (.int .u64 u) ∧ ∃ k, w' = w.drewN k := by
  have h := rpow_nat 2 k 4611686018427387904 w (by decide) (by decide) (by omega)
  have hl : 2 ^ k ≤ 2 ^ 40 := Nat.pow_le_pow_right (by decide) hk
  rw [Nat.mod_eq_of_lt (by omega), hu] at h
  exact h
end Go.Proofs.YtbecdlibckbbcaaDoor
