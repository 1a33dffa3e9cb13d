/- What 'moveDown', 'takeTimes' and 'addBack' do to words. -/
import Derived.Test.YtocfenjampmdlabGreatDoorBMov
namespace Go.Proofs.YtocfenjampmdlabGreatDoor.B
open Go.RowKit NumB

theorem lo_mul (c : Int) (s : Nat) (hs : s ≤ 63) : lo (c * 2 ^ (64 - s)) = 2 ^ (64 - s) * (c % 2 ^ s) := by
  unfold lo
  rw [← pow_split s hs, Int.mul_comm c, Int.mul_emod_mul_of_pos _ _ (Int.pow_pos (by decide))]
/-- a word moved down, and what comes from above. -/
theorem or_down (x c : Int) (s : Nat) (hs : s ≤ 63) (hx : 0 ≤ x) (hx' : x ≤ 18446744073709551615) (hc : 0 ≤ c) :
    bits .or .u64 (x / 2 ^ s) (IntKind.u64.wrap (c * 2 ^ (64 - s))) = x / 2 ^ s + lo (c * 2 ^ (64 - s)) ∧ 0 ≤ x / 2 ^ s + lo (c * 2 ^ (64 - s)) ∧ x / 2 ^ s + lo (c * 2 ^ (64 - s)) ≤ 18446744073709551615 := by
  obtain ⟨x, rfl⟩ := Int.eq_ofNat_of_zero_le hx
  obtain ⟨c, rfl⟩ := Int.eq_ofNat_of_zero_le hc
  have hKpos : 0 < 2 ^ s := Nat.two_pow_pos s
  have hMpos : 0 < 2 ^ (64 - s) := Nat.two_pow_pos _
  have hMK : 2 ^ (64 - s) * 2 ^ s = 18446744073709551616 := by rw [← Nat.pow_add, show 64 - s + s = 64 by omega]
  have pK : (2 : Int) ^ s = ((2 ^ s : Nat) : Int) := by simp
  have pM : (2 : Int) ^ (64 - s) = ((2 ^ (64 - s) : Nat) : Int) := by simp
  have hlt : x / 2 ^ s < 2 ^ (64 - s) := by rw [Nat.div_lt_iff_lt_mul hKpos, hMK]; omega
  have e1 : lo ((c : Int) * 2 ^ (64 - s)) = ((c % 2 ^ s * 2 ^ (64 - s) : Nat) : Int) := by
    rw [lo_mul _ s hs, pK, pM, Int.natCast_mul, Int.natCast_emod, Int.mul_comm]
  have e0 : IntKind.u64.wrap ((c : Int) * 2 ^ (64 - s)) = lo ((c : Int) * 2 ^ (64 - s)) := by rw [IntKind.wrap_u64]; rfl
  have e2 : (x : Int) / 2 ^ s = ((x / 2 ^ s : Nat) : Int) := by rw [pK, Int.natCast_ediv]
  rw [e0, e1, e2]
  have hc1 : c % 2 ^ s < 2 ^ s := Nat.mod_lt _ hKpos
  have hsum : c % 2 ^ s * 2 ^ (64 - s) + x / 2 ^ s < 18446744073709551616 := by
    have : (c % 2 ^ s + 1) * 2 ^ (64 - s) ≤ 2 ^ s * 2 ^ (64 - s) := Nat.mul_le_mul_right _ hc1
    rw [Nat.add_mul, Nat.mul_comm (2 ^ s), hMK] at this
    omega
  have hor := or_add (c % 2 ^ s) (x / 2 ^ s) (64 - s) hlt
  clear e0 e1 e2
  generalize c % 2 ^ s * 2 ^ (64 - s) = Q at *
  generalize x / 2 ^ s = R at *
  rw [bits_or_u64_nat _ _ (by omega) (by omega), Nat.or_comm, hor]
  omega
theorem down_step {y c T T2 B K M : Int} (hK : 0 < K) (hB : M * K = B) (hT : T = c + B * T2) : y / K + M * (c % K) + B * (T / K) = (y + B * T) / K := by
  have e1 : T % K = c % K := by
    rw [hT, ← hB, show c + M * K * T2 = c + K * (M * T2) by grind, Int.add_mul_emod_self_left]
  have e2 := Int.emod_add_mul_ediv T K
  have e3 : M * T = M * (c % K) + B * (T / K) := by
    rw [← e1, ← hB]
    generalize T / K = q at *
    generalize T % K = r at *
    rw [← e2]; grind
  rw [show y + B * T = y + K * (M * T) by rw [← hB]; grind, Int.add_mul_ediv_left _ _ (by omega), e3]
  omega

/-- how 'takeTimes' reckons a word. -/
theorem take_word (m o x : Int) (hm : 0 ≤ m) (hm' : m ≤ 340282366920938463426481119284349108225) (ho : 0 ≤ o ∧ o ≤ 18446744073709551615) (hx : 0 ≤ x ∧ x ≤ 18446744073709551615) :
    hi m + hi (lo m + o) ≤ 18446744073709551615 ∧ hi m + hi (lo m + o) + db x (lo (lo m + o)) 0 ≤ 18446744073709551615 ∧ dl x (lo (lo m + o)) 0 - (hi m + hi (lo m + o) + db x (lo (lo m + o)) 0) * 18446744073709551616 = x - m - o ∧ 0 ≤ hi m ∧ 0 ≤ hi (lo m + o) ∧ 0 ≤ db x (lo (lo m + o)) 0 ∧ 0 ≤ dl x (lo (lo m + o)) 0 ∧ dl x (lo (lo m + o)) 0 ≤ 18446744073709551615 := by
  unfold dl db hi lo; split <;> omega
theorem take_step (x : Nat → Int) (o k : Nat) (d q m c t : Int) (he : d - q * 18446744073709551616 = x (o + k) - m - c) (h : V x o k - c * P k = t) :
    V (upd x (o + k) d) o (k + 1) - q * P (k + 1) = t + x (o + k) * P k - m * P k := by
  rw [V_upd_top]
  simp only [P]
  generalize P k = p at *
  generalize x (o + k) = u at *
  have : d = u - m - c + q * 18446744073709551616 := by omega
  rw [← h, this]; grind
theorem word_sq {a b : Int} (ha : 0 ≤ a ∧ a ≤ 18446744073709551615) (hb : 0 ≤ b ∧ b ≤ 18446744073709551615) : 0 ≤ a * b ∧ a * b ≤ 340282366920938463426481119284349108225 := by
  refine ⟨Int.mul_nonneg ha.1 hb.1, ?_⟩
  have : a * b ≤ 18446744073709551615 * b := Int.mul_le_mul_of_nonneg_right ha.2 hb.1
  omega
end Go.Proofs.YtocfenjampmdlabGreatDoor.B
