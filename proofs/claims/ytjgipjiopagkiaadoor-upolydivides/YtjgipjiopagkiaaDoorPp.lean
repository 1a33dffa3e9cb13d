/- What the strong test to the first twelve primes tells: plain numbers alone. -/
import Derived.Test.YtjgipjiopagkiaaDoorEn
import Derived.Lib.TrailingZeros
namespace Nmb

/-- how often 2 goes into n less 1, and what is left of it. -/
def tw (n : Nat) : Nat := Go.Lib.ctz 64 (n - 1)
def od (n : Nat) : Nat := (n - 1) / 2 ^ tw n
theorem tw_said {n : Nat} (h1 : 1 < n) (h : n ≤ 18446744073709551615) : n - 1 = od n * 2 ^ tw n ∧ od n % 2 = 1 ∧ tw n < 64 := by
  obtain ⟨m, hm, hk⟩ := Go.Lib.ctzFrom_spec 64 (n - 1) (by omega) (by omega)
  have e : tw n = Go.Lib.ctzFrom 64 (n - 1) := by unfold tw Go.Lib.ctz; rw [if_neg (by omega)]
  rw [← e] at hm hk
  have ho : od n = 2 * m + 1 := by
    unfold od
    rw [hm, Nat.mul_div_cancel_left _ (Nat.pow_pos (by decide))]
  refine ⟨?_, by omega, hk⟩
  rw [ho, Nat.mul_comm]
  exact hm
def Pass (n a : Nat) : Prop := a ^ od n % n = 1 ∨ ∃ r, r < tw n ∧ (a ^ od n) ^ 2 ^ r % n = n - 1
def bse (k : Nat) : Nat := [2, 3, 5, 7, 11, 13, 17, 19, 23, 29, 31, 37].getD k 0
theorem bse_lt : ∀ k, k < 12 → 2 ≤ bse k ∧ bse k ≤ 37 := by decide
theorem bse_one : ∀ j, j < 12 → ∀ k, k < 12 → bse j % bse k = 0 → bse j = bse k := by decide
theorem none_low : ∀ n, n < 41 → 2 ≤ n → ∃ k, k < 12 ∧ n % bse k = 0 := by decide
/-- what the test tells. -/
def IsP (n : Nat) : Prop := 2 ≤ n ∧ ((∃ k, k < 12 ∧ n = bse k) ∨ ((∀ k, k < 12 → n % bse k ≠ 0) ∧ ∀ k, k < 12 → Pass n (bse k)))
noncomputable def isB (n : Nat) : Bool := @decide (IsP n) (Classical.propDecidable _)
theorem isB_true {n : Nat} (h : IsP n) : isB n = true := by unfold isB; exact @decide_eq_true _ (Classical.propDecidable _) h
theorem isB_false {n : Nat} (h : ¬ IsP n) : isB n = false := by unfold isB; exact @decide_eq_false _ (Classical.propDecidable _) h
theorem of_isB {n : Nat} (h : isB n = true) : IsP n := by unfold isB at h; exact @of_decide_eq_true _ (Classical.propDecidable _) h
theorem isP_div {n k : Nat} (h2 : 2 ≤ n) (hk : k < 12) (hd : n % bse k = 0) : isB n = decide (n = bse k) := by
  by_cases h : n = bse k
  · rw [isB_true ⟨h2, Or.inl ⟨k, hk, h⟩⟩]; simp [h]
  · rw [isB_false]
    · simp [h]
    · rintro ⟨_, ⟨j, hj, e⟩ | ⟨c, _⟩⟩
      · exact h (by rw [e]; exact bse_one j hj k hk (by rw [← e]; exact hd))
      · exact c k hk hd
theorem isP_low {n : Nat} (h2 : n < 2) : isB n = false := isB_false fun h => by have := h.1; omega
theorem big_of {n : Nat} (h2 : 2 ≤ n) (h : ∀ k, k < 12 → n % bse k ≠ 0) : 41 ≤ n := by
  apply Nat.le_of_not_lt
  intro hn
  obtain ⟨k, hk, e⟩ := none_low n hn h2
  exact h k hk e
theorem isP_pass {n : Nat} (h2 : 2 ≤ n) (h : ∀ k, k < 12 → n % bse k ≠ 0) (hp : ∀ k, k < 12 → Pass n (bse k)) : isB n = true := isB_true ⟨h2, Or.inr ⟨h, hp⟩⟩
theorem isP_fail {n k : Nat} (hk : k < 12) (h : ∀ k, k < 12 → n % bse k ≠ 0) (hp : ¬ Pass n (bse k)) : isB n = false := isB_false fun ⟨_, hc⟩ => by
  rcases hc with ⟨j, hj, e⟩ | ⟨_, c⟩
  · exact h j hj (by rw [e, Nat.mod_self])
  · exact hp (c k hk)
/-- a prime is told. -/
theorem isB_of_pri {n : Nat} (h : Pri n) (hn : n ≤ 18446744073709551615) : isB n = true := by
  by_cases hd : ∃ k, k < 12 ∧ n % bse k = 0
  · obtain ⟨k, hk, e⟩ := hd
    rcases h.2 (bse k) (Nat.dvd_of_mod_eq_zero e) with h1 | h1
    · have := (bse_lt k hk).1; omega
    · exact isB_true ⟨h.1, Or.inl ⟨k, hk, h1.symm⟩⟩
  · have hc : ∀ k, k < 12 → n % bse k ≠ 0 := fun k hk e => hd ⟨k, hk, e⟩
    have hb := big_of h.1 hc
    refine isP_pass h.1 hc fun k hk => ?_
    have hl := bse_lt k hk
    exact h.strong (by rw [Nat.mod_eq_of_lt (by omega)]; omega) (tw_said (by omega) hn).1
theorem small_pri {n : Nat} (h2 : 2 ≤ n) (h : n < 121) (hd : ∀ d, d < 11 → 2 ≤ d → d * d ≤ n → ¬ d ∣ n) : Pri n := by
  refine pri_of_root h2 fun d h3 h4 => hd d ?_ h3 h4
  apply Nat.lt_of_not_le
  intro h5
  have := Nat.mul_le_mul h5 h5
  omega
theorem low_pri : ∀ n, n < 121 → 2 ≤ n → (∀ d, d < 11 → 2 ≤ d → d * d ≤ n → n % d ≠ 0) → Pri n := fun _ h h2 hd =>
  small_pri h2 h fun d a b c e => hd d a b c (Nat.mod_eq_zero_of_dvd e)
theorem bse_pri : ∀ k, k < 12 → Pri (bse k) := fun k hk => by
  refine low_pri _ (by have := bse_lt k hk; omega) (bse_lt k hk).1 ?_
  revert k
  decide
theorem pri17 : Pri 17 := low_pri 17 (by decide) (by decide) (by decide)
theorem pri97 : Pri 97 := low_pri 97 (by decide) (by decide) (by decide)
theorem Pri.cop {n q : Nat} (h : Pri q) (hn : n % q ≠ 0) : Nat.Coprime n q := by
  rcases h.2 (Nat.gcd n q) (Nat.gcd_dvd_right n q) with h1 | h1
  · exact h1
  · exact absurd (Nat.mod_eq_zero_of_dvd (h1 ▸ Nat.gcd_dvd_left n q)) hn
theorem cop37 {n : Nat} (h : ∀ k, k < 12 → n % bse k ≠ 0) : Nat.gcd n P37 = 1 := by
  have c : ∀ k, k < 12 → Nat.Coprime n (bse k) := fun k hk => (bse_pri k hk).cop (h k hk)
  have e : P37 = bse 1 * bse 2 * bse 3 * bse 4 * bse 5 * bse 6 * bse 7 * bse 8 * bse 9 * bse 10 * bse 11 := by decide
  rw [e]
  exact ((((((((((c 1 (by decide)).mul_right (c 2 (by decide))).mul_right (c 3 (by decide))).mul_right (c 4 (by decide))).mul_right (c 5 (by decide))).mul_right (c 6 (by decide))).mul_right (c 7 (by decide))).mul_right (c 8 (by decide))).mul_right (c 9 (by decide))).mul_right (c 10 (by decide))).mul_right (c 11 (by decide))
theorem pri_of_isB {n : Nat} (h : isB n = true) (hn : n ≤ 1002000) : Pri n := by
  obtain ⟨h2, ⟨k, hk, rfl⟩ | ⟨hc, hp⟩⟩ := of_isB h
  · exact bse_pri k hk
  · have hb := big_of h2 hc
    obtain ⟨e1, e2, _⟩ := tw_said (n := n) (by omega) (by omega)
    have ho : n % 2 = 1 := by have := hc 0 (by decide); have e : bse 0 = 2 := rfl; rw [e] at this; omega
    have conv : ∀ a, Pass n a → a ^ od n % n = 1 ∨ ∃ r, r ≤ tw n ∧ a ^ (od n * 2 ^ r) % n = n - 1 := fun a ha => by
      rcases ha with h1 | ⟨r, h1, h3⟩
      · exact Or.inl h1
      · exact Or.inr ⟨r, by omega, by rw [Nat.pow_mul]; exact h3⟩
    exact pri_of_pass (by omega) hn ho (cop37 hc) e2 e1 (conv 2 (hp 0 (by decide))) (conv 3 (hp 1 (by decide)))
theorem isB_iff {n : Nat} (hn : n ≤ 1002000) : isB n = true ↔ Pri n := ⟨fun h => pri_of_isB h hn, fun h => isB_of_pri h (by omega)⟩

/-- squares, one behind the other. -/
def sqm (n : Nat) : Nat → Nat → Nat
  | 0, y => y
  | i + 1, y => sqm n i (y * y % n)
theorem sqm_said (n : Nat) : ∀ i x, sqm n i (x % n) = x ^ 2 ^ i % n
  | 0, x => by simp [sqm]
  | i + 1, x => by
    have e : x ^ 2 ^ (i + 1) = (x * x) ^ 2 ^ i := by rw [Nat.pow_succ, Nat.mul_comm (2 ^ i), Nat.pow_mul, Nat.pow_two]
    rw [e, ← sqm_said n i]
    show sqm n i (x % n * (x % n) % n) = _
    rw [← Nat.mul_mod]
theorem half_pow (a c i n : Nat) : a ^ (c * 2 ^ i) % n = sqm n i (a ^ c % n) := by rw [sqm_said, Nat.pow_mul]
theorem proth2 {c k a n i : Nat} (hk : 1 ≤ k) (hc0 : c % 2 = 1) (hc : c < 2 ^ k) (hn : n = c * 2 ^ k + 1) (hm : (n - 1) / 2 = c * 2 ^ i) (h : sqm n i (a ^ c % n) = n - 1) : Pri n :=
  proth hk hc0 hc hn (a := a) (by rw [hm, half_pow]; exact h)
theorem pri998 : Pri 998244353 := proth2 (c := 119) (k := 23) (a := 3) (i := 22) (by decide) (by decide) (by decide) (by decide) (by decide) (by decide +kernel)
theorem is91 : isB 91 = false := by rw [isP_div (k := 3) (by decide) (by decide) (by decide)]; decide
theorem is93 : isB 93 = false := by rw [isP_div (k := 1) (by decide) (by decide) (by decide)]; decide
theorem is95 : isB 95 = false := by rw [isP_div (k := 2) (by decide) (by decide) (by decide)]; decide
theorem is97 : isB 97 = true := isB_of_pri pri97 (by decide)
theorem is999 : isB 999292929 = false := by rw [isP_div (k := 1) (by decide) (by decide) (by decide)]; decide
theorem is998 : isB 998244353 = true := isB_of_pri pri998 (by decide)
theorem is17 : isB 17 = true := isB_of_pri pri17 (by decide)
end Nmb
