/- What 'moveUp', 'moveDown', 'takeTimes' and 'addBack' do to words. -/
import Derived.Test.YtocfenjampmdlabGreatDoorBSub
namespace Go.Proofs.YtocfenjampmdlabGreatDoor.B
open Go.RowKit NumB

theorem pow_split (s : Nat) (hs : s ≤ 63) : (2 : Int) ^ (64 - s) * 2 ^ s = 18446744073709551616 := by
  rw [← Int.pow_add, show 64 - s + s = 64 by omega]; rfl
theorem shr_hi (b : Int) (s : Nat) (hs : s ≤ 63) : b / 2 ^ (64 - s) = hi (b * 2 ^ s) := by
  unfold hi
  rw [← pow_split s hs, Int.mul_ediv_mul_of_pos_left _ _ (Int.pow_pos (by decide))]
/-- a word moved up, and what comes from below. -/
theorem or_words (x b : Int) (s : Nat) (hs : s ≤ 63) (hx : 0 ≤ x) (hb : 0 ≤ b) (hb' : b ≤ 18446744073709551615) :
    bits .or .u64 (IntKind.u64.wrap (x * 2 ^ s)) (b / 2 ^ (64 - s)) = lo (x * 2 ^ s) + hi (b * 2 ^ s) ∧ 0 ≤ lo (x * 2 ^ s) + hi (b * 2 ^ s) ∧ lo (x * 2 ^ s) + hi (b * 2 ^ s) ≤ 18446744073709551615 := by
  obtain ⟨x, rfl⟩ := Int.eq_ofNat_of_zero_le hx
  obtain ⟨b, rfl⟩ := Int.eq_ofNat_of_zero_le hb
  have hKpos : 0 < 2 ^ s := Nat.two_pow_pos s
  have hMpos : 0 < 2 ^ (64 - s) := Nat.two_pow_pos _
  have hMK : 2 ^ (64 - s) * 2 ^ s = 18446744073709551616 := by rw [← Nat.pow_add, show 64 - s + s = 64 by omega]
  have pK : (2 : Int) ^ s = ((2 ^ s : Nat) : Int) := by simp
  have pM : (2 : Int) ^ (64 - s) = ((2 ^ (64 - s) : Nat) : Int) := by simp
  have hlt : b / 2 ^ (64 - s) < 2 ^ s := by rw [Nat.div_lt_iff_lt_mul hMpos, Nat.mul_comm, hMK]; omega
  rw [← shr_hi _ s hs]
  have e1 : lo ((x : Int) * 2 ^ s) = ((x * 2 ^ s % 18446744073709551616 : Nat) : Int) := by unfold lo; rw [pK, ← Int.natCast_mul]; omega
  have e2 : (b : Int) / 2 ^ (64 - s) = ((b / 2 ^ (64 - s) : Nat) : Int) := by rw [pM, Int.natCast_ediv]
  have e3 : x * 2 ^ s % 18446744073709551616 = x % 2 ^ (64 - s) * 2 ^ s := by rw [← hMK, Nat.mul_mod_mul_right]
  rw [e1, e2, IntKind.wrap_u64, pK, ← Int.natCast_mul, show ((x * 2 ^ s : Nat) : Int) % 18446744073709551616 = ((x * 2 ^ s % 18446744073709551616 : Nat) : Int) by omega]
  have hx1 : x % 2 ^ (64 - s) < 2 ^ (64 - s) := Nat.mod_lt _ hMpos
  have hsum : x % 2 ^ (64 - s) * 2 ^ s + b / 2 ^ (64 - s) < 18446744073709551616 := by
    have : (x % 2 ^ (64 - s) + 1) * 2 ^ s ≤ 2 ^ (64 - s) * 2 ^ s := Nat.mul_le_mul_right _ hx1
    rw [Nat.add_mul, hMK] at this
    omega
  rw [e3, bits_or_u64_nat _ _ (by omega) (by omega)]
  have hor : x % 2 ^ (64 - s) * 2 ^ s ||| b / 2 ^ (64 - s) = x % 2 ^ (64 - s) * 2 ^ s + b / 2 ^ (64 - s) := or_add _ _ s hlt
  rw [hor]
  omega

theorem up_step (x' : Nat → Int) (oz k : Nat) (a c t K : Int) (h : V x' oz k + hi (c * K) * P k = t) :
    V (upd x' (oz + k) (lo (a * K) + hi (c * K))) oz (k + 1) + hi (a * K) * P (k + 1) = t + a * K * P k := by
  rw [V_upd_top]
  have e := lo_hi (a * K)
  generalize lo (a * K) = l at *
  generalize hi (a * K) = m at *
  generalize hi (c * K) = q at *
  simp only [P]
  generalize P k = p at *
  rw [← h, ← e]
  grind

end Go.Proofs.YtocfenjampmdlabGreatDoor.B
