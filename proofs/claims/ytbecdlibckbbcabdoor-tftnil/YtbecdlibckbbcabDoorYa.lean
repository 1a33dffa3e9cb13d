/- Bits turned about: what math/bits' Reverse64 does, in plain numbers. -/
import Derived.Test.YtbecdlibckbbcabDoorUa
namespace Nmb
theorem rv_bit : ∀ k b i, (rv k b).testBit i = (decide (i < k) && b.testBit (k - 1 - i))
  | 0, b, i => by rw [show rv 0 b = 0 from rfl]; simp
  | k + 1, b, i => by
    show (b % 2 * 2 ^ k + rv k (b / 2)).testBit i = _
    rw [Nat.mul_comm, Nat.testBit_two_pow_mul_add _ (rv_lt k _)]
    by_cases h : i < k
    · rw [if_pos h, rv_bit k, show k + 1 - 1 - i = (k - 1 - i) + 1 by omega, Nat.testBit_succ]
      simp [h, show i < k + 1 by omega]
    · rw [if_neg h]
      by_cases e : i = k
      · subst e
        simp [Nat.testBit_zero]
      · have : (b % 2).testBit (i - k) = false := by
          apply Nat.testBit_lt_two_pow
          have h1 : b % 2 < 2 := Nat.mod_lt _ (by omega)
          have h2 : 2 ^ 1 ≤ 2 ^ (i - k) := Nat.pow_le_pow_right (by omega) (by omega)
          omega
        rw [this]
        simp [show ¬ i < k + 1 by omega]
/-- the bits are taken apart by a mask, and each part moved past the other. -/
def sw (m s x : Nat) : Nat := (x / 2 ^ s &&& m) ||| ((x &&& m) * 2 ^ s % 18446744073709551616)
theorem sw_bit (m s x i : Nat) (hi : i < 64) (h : ∀ j, j < 64 → m.testBit j = decide (j / s % 2 = 0)) (hs : 0 < s) : (sw m s x).testBit i = x.testBit (if i / s % 2 = 0 then i + s else i - s) := by
  unfold sw
  rw [Nat.testBit_or, Nat.testBit_and, Nat.testBit_div_two_pow, h i hi, show (18446744073709551616 : Nat) = 2 ^ 64 from rfl, Nat.testBit_mod_two_pow, ← Nat.shiftLeft_eq, Nat.testBit_shiftLeft]
  by_cases e : i / s % 2 = 0
  · rw [if_pos e]
    by_cases g : s ≤ i
    · have : ((i - s) / s) % 2 = 1 := by
        have := Nat.div_eq_sub_div hs g
        omega
      simp [Nat.testBit_and, h (i - s) (by omega), this, e]
    · simp [g, e]
  · rw [if_neg e]
    have g : s ≤ i := by
      apply Nat.le_of_not_lt
      intro g
      rw [Nat.div_eq_of_lt g] at e
      omega
    have : ((i - s) / s) % 2 = 0 := by
      have := Nat.div_eq_sub_div hs g
      omega
    simp [Nat.testBit_and, h (i - s) (by omega), this, e, g, hi]
theorem sw_lt (m s x : Nat) (hm : m < 18446744073709551616) : sw m s x < 18446744073709551616 := by
  unfold sw
  refine Nat.or_lt_two_pow (n := 64) (Nat.lt_of_le_of_lt Nat.and_le_right hm) (Nat.mod_lt _ (by decide))
/-- both halves change their places. -/
def sh (x : Nat) : Nat := x / 2 ^ 32 ||| (x * 2 ^ 32 % 18446744073709551616)
theorem sh_lt (x : Nat) (h : x < 18446744073709551616) : sh x < 18446744073709551616 :=
  Nat.or_lt_two_pow (n := 64) (Nat.lt_of_le_of_lt (Nat.div_le_self _ _) h) (Nat.mod_lt _ (by decide))
theorem sh_bit (x i : Nat) (hx : x < 18446744073709551616) (hi : i < 64) : (sh x).testBit i = x.testBit (if i / 32 % 2 = 0 then i + 32 else i - 32) := by
  unfold sh
  rw [Nat.testBit_or, Nat.testBit_div_two_pow, show (18446744073709551616 : Nat) = 2 ^ 64 from rfl, Nat.testBit_mod_two_pow, ← Nat.shiftLeft_eq, Nat.testBit_shiftLeft]
  by_cases e : i < 32
  · rw [if_pos (by omega)]
    simp [show ¬ 32 ≤ i by omega]
  · rw [if_neg (by omega)]
    have : x.testBit (i + 32) = false := Nat.testBit_lt_two_pow (Nat.lt_of_lt_of_le hx (Nat.pow_le_pow_right (n := 2) (i := 64) (by omega) (by omega)))
    rw [this]
    simp [hi, show 32 ≤ i by omega]
def rev64 (x : Nat) : Nat := sh (sw 281470681808895 16 (sw 71777214294589695 8 (sw 1085102592571150095 4 (sw 3689348814741910323 2 (sw 6148914691236517205 1 x)))))
theorem sw_m0 : ∀ j, j < 64 → Nat.testBit 6148914691236517205 j = decide (j / 1 % 2 = 0) := by decide
theorem sw_m1 : ∀ j, j < 64 → Nat.testBit 3689348814741910323 j = decide (j / 2 % 2 = 0) := by decide
theorem sw_m2 : ∀ j, j < 64 → Nat.testBit 1085102592571150095 j = decide (j / 4 % 2 = 0) := by decide
theorem sw_m3 : ∀ j, j < 64 → Nat.testBit 71777214294589695 j = decide (j / 8 % 2 = 0) := by decide
theorem sw_m4 : ∀ j, j < 64 → Nat.testBit 281470681808895 j = decide (j / 16 % 2 = 0) := by decide
/-- the place to which a bit is moved by one step. -/
def swi (s i : Nat) : Nat := if i / s % 2 = 0 then i + s else i - s
theorem swi_all : ∀ i, i < 64 → swi 32 i < 64 ∧ swi 16 (swi 32 i) < 64 ∧ swi 8 (swi 16 (swi 32 i)) < 64 ∧ swi 4 (swi 8 (swi 16 (swi 32 i))) < 64 ∧ swi 2 (swi 4 (swi 8 (swi 16 (swi 32 i)))) < 64 ∧ swi 1 (swi 2 (swi 4 (swi 8 (swi 16 (swi 32 i))))) = 63 - i := by decide
theorem rev64_lt (x : Nat) : rev64 x < 18446744073709551616 := sh_lt _ (sw_lt _ _ _ (by decide))
theorem rev64_bit (x i : Nat) (hi : i < 64) : (rev64 x).testBit i = x.testBit (63 - i) := by
  obtain ⟨a1, a2, a3, a4, a5, a6⟩ := swi_all i hi
  unfold rev64
  rw [sh_bit _ i (sw_lt _ _ _ (by decide)) hi]
  show Nat.testBit _ (swi 32 i) = _
  rw [sw_bit _ _ _ _ a1 sw_m4 (by decide)]
  show Nat.testBit _ (swi 16 (swi 32 i)) = _
  rw [sw_bit _ _ _ _ a2 sw_m3 (by decide)]
  show Nat.testBit _ (swi 8 (swi 16 (swi 32 i))) = _
  rw [sw_bit _ _ _ _ a3 sw_m2 (by decide)]
  show Nat.testBit _ (swi 4 _) = _
  rw [sw_bit _ _ _ _ a4 sw_m1 (by decide)]
  show Nat.testBit _ (swi 2 _) = _
  rw [sw_bit _ _ _ _ a5 sw_m0 (by decide)]
  show Nat.testBit _ (swi 1 _) = _
  rw [a6]
/-- the first k bits, the other way about. -/
theorem rev64_rv (x k : Nat) (hk : k ≤ 64) : rev64 x / 2 ^ (64 - k) = rv k x := by
  apply Nat.eq_of_testBit_eq
  intro i
  rw [Nat.testBit_div_two_pow, rv_bit]
  by_cases h : i < k
  · rw [rev64_bit _ _ (by omega), show 63 - (i + (64 - k)) = k - 1 - i by omega]
    simp [h]
  · rw [Nat.testBit_lt_two_pow (Nat.lt_of_lt_of_le (rev64_lt x) (Nat.pow_le_pow_right (n := 2) (i := 64) (by omega) (by omega)))]
    simp [h]
end Nmb
