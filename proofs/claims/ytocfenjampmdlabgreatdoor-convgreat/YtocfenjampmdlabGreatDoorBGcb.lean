/- What 'heads' and 'leapOf' answer. -/
import Derived.Test.YtocfenjampmdlabGreatDoorBGca
import Derived.Test.YtocfenjampmdlabGreatDoorBLong
namespace Go.Proofs.YtocfenjampmdlabGreatDoor.B
open Go.RowKit NumB

theorem head_or (t1 t0 : Int) (s : Nat) (hs : s ≤ 63) (h1 : 0 ≤ t1) (h2 : (t1 + 1) * 2 ^ s ≤ 18446744073709551616) (h3 : 0 ≤ t0) (h4 : t0 ≤ 18446744073709551615) :
    bits .or .u64 (IntKind.u64.wrap (t1 * 2 ^ s)) (t0 / 2 ^ (64 - s)) = t1 * 2 ^ s + t0 / 2 ^ (64 - s) := by
  obtain ⟨t1, rfl⟩ := Int.eq_ofNat_of_zero_le h1
  obtain ⟨t0, rfl⟩ := Int.eq_ofNat_of_zero_le h3
  have hMK : 2 ^ (64 - s) * 2 ^ s = 18446744073709551616 := by rw [← Nat.pow_add, show 64 - s + s = 64 by omega]
  have pK : (2 : Int) ^ s = ((2 ^ s : Nat) : Int) := by simp
  have pM : (2 : Int) ^ (64 - s) = ((2 ^ (64 - s) : Nat) : Int) := by simp
  have hKpos : 0 < 2 ^ s := Nat.two_pow_pos s
  have hMpos : 0 < 2 ^ (64 - s) := Nat.two_pow_pos _
  have hb : t0 / 2 ^ (64 - s) < 2 ^ s := by rw [Nat.div_lt_iff_lt_mul hMpos, Nat.mul_comm, hMK]; omega
  have hor := or_add t1 (t0 / 2 ^ (64 - s)) s hb
  rw [pK] at h2
  rw [pK, pM]
  generalize 2 ^ s = K at *
  generalize 2 ^ (64 - s) = M at *
  have h5 : t1 * K + K ≤ 18446744073709551616 := by
    have e : ((t1 : Int) + 1) * (K : Int) = ((t1 * K + K : Nat) : Int) := by rw [Int.natCast_add, Int.natCast_mul]; grind
    omega
  rw [← Int.natCast_mul, ← Int.natCast_ediv, IntKind.wrap_u64, show ((t1 * K : Nat) : Int) % 18446744073709551616 = ((t1 * K : Nat) : Int) by omega, bits_or_u64_nat _ _ (by omega) (by omega), hor]
  simp
theorem wy_bd {y : Nat → Int} {p m : Nat} (h : Wd y p m) (j : Nat) : 0 ≤ wy y p m j ∧ wy y p m j ≤ 18446744073709551615 := by
  unfold wy; split
  · exact h j (by assumption)
  · decide
end Go.Proofs.YtocfenjampmdlabGreatDoor.B
