/- Which numbers up to a million the strong test to the bases 2 and 3 tells apart. -/
/- Modulo a prime a polynomial has no more roots than its degree; so there is a number that is no square. -/
/- What the strong test to the first twelve primes tells: plain numbers alone. -/
import Derived.Lib.TrailingZeros
/- Primes: Euclid, Fermat, Proth; plain numbers alone. -/
namespace Nmb

/-- a prime number. -/
def Pri (p : Nat) : Prop := 2 ≤ p ∧ ∀ d, d ∣ p → d = 1 ∨ d = p

theorem Pri.euclid {p a b : Nat} (h : Pri p) (hd : p ∣ a * b) : p ∣ a ∨ p ∣ b := by
  rcases h.2 (Nat.gcd p a) (Nat.gcd_dvd_left p a) with h1 | h1
  · exact Or.inr (Nat.Coprime.dvd_of_dvd_mul_left h1 hd)
  · exact Or.inl (h1 ▸ Nat.gcd_dvd_right p a)
theorem Pri.pow {p a : Nat} (h : Pri p) : ∀ n, p ∣ a ^ n → p ∣ a
  | 0, hd => by
    have h2 := h.1
    have h3 := Nat.le_of_dvd (by simp) hd
    simp at h3
    omega
  | n + 1, hd => by
    rw [Nat.pow_succ] at hd
    rcases h.euclid hd with h1 | h1
    · exact h.pow n h1
    · exact h1

/-- n over k. -/
def ch : Nat → Nat → Nat
  | _, 0 => 1
  | 0, _ + 1 => 0
  | n + 1, k + 1 => ch n k + ch n (k + 1)
theorem ch_mul : ∀ n k, (k + 1) * ch (n + 1) (k + 1) = (n + 1) * ch n k
  | 0, 0 => rfl
  | 0, k + 1 => by simp [ch]
  | n + 1, 0 => by
    have h := ch_mul n 0
    simp only [ch] at *
    omega
  | n + 1, k + 1 => by
    have h1 := ch_mul n k
    have h2 := ch_mul n (k + 1)
    have e1 : ch (n + 1 + 1) (k + 1 + 1) = ch (n + 1) (k + 1) + ch (n + 1) (k + 1 + 1) := rfl
    have e2 : ch (n + 1) (k + 1) = ch n k + ch n (k + 1) := rfl
    rw [e1, Nat.mul_add, h2, Nat.add_mul (k + 1) 1, h1, Nat.one_mul]
    rw [Nat.add_mul (n + 1) 1, Nat.one_mul]
    conv => rhs; rw [e2, Nat.mul_add]
    rw [e2]
    omega
theorem ch_top : ∀ n k, n < k → ch n k = 0
  | _, 0, h => by omega
  | 0, _ + 1, _ => rfl
  | n + 1, k + 1, h => by
    have e : ch (n + 1) (k + 1) = ch n k + ch n (k + 1) := rfl
    rw [e, ch_top n k (by omega), ch_top n (k + 1) (by omega)]
theorem ch_self : ∀ n, ch n n = 1
  | 0 => rfl
  | n + 1 => by
    have e : ch (n + 1) (n + 1) = ch n n + ch n (n + 1) := rfl
    rw [e, ch_self n, ch_top n (n + 1) (by omega)]
/-- the first m + 1 terms of (x + 1) to the nth. -/
def bs (x n : Nat) : Nat → Nat
  | 0 => 1
  | m + 1 => bs x n m + ch n (m + 1) * x ^ (m + 1)
theorem bs_step (x n : Nat) : ∀ m, bs x (n + 1) (m + 1) = bs x n (m + 1) + x * bs x n m
  | 0 => by
    have h0 : ch n 0 = 1 := by cases n <;> rfl
    have e : ch (n + 1) 1 = ch n 0 + ch n 1 := rfl
    simp only [bs]
    rw [e, h0, Nat.add_mul]
    simp
    omega
  | m + 1 => by
    have h := bs_step x n m
    have e : ch (n + 1) (m + 1 + 1) = ch n (m + 1) + ch n (m + 1 + 1) := rfl
    have e1 : bs x (n + 1) (m + 1 + 1) = bs x (n + 1) (m + 1) + ch (n + 1) (m + 1 + 1) * x ^ (m + 1 + 1) := rfl
    have e2 : bs x n (m + 1 + 1) = bs x n (m + 1) + ch n (m + 1 + 1) * x ^ (m + 1 + 1) := rfl
    have e3 : bs x n (m + 1) = bs x n m + ch n (m + 1) * x ^ (m + 1) := rfl
    have e4 : x * (ch n (m + 1) * x ^ (m + 1)) = ch n (m + 1) * x ^ (m + 1 + 1) := by
      rw [Nat.pow_succ x (m + 1), Nat.mul_left_comm, Nat.mul_comm x]
    rw [e1, h, e, e2, Nat.add_mul]
    conv => rhs; rw [e3, Nat.mul_add, e4]
    conv => lhs; rw [e3]
    omega
theorem bs_all (x : Nat) : ∀ n, (x + 1) ^ n = bs x n n
  | 0 => rfl
  | n + 1 => by
    have e3 : bs x n (n + 1) = bs x n n + ch n (n + 1) * x ^ (n + 1) := rfl
    rw [bs_step, e3, ch_top n (n + 1) (by omega), Nat.pow_succ, bs_all x n, Nat.mul_add]
    rw [Nat.mul_comm x]
    omega
theorem Pri.ch {p k : Nat} (h : Pri p) (h0 : 0 < k) (hk : k < p) : p ∣ ch p k := by
  obtain ⟨k, rfl⟩ : ∃ j, k = j + 1 := ⟨k - 1, by omega⟩
  obtain ⟨n, rfl⟩ : ∃ j, p = j + 1 := ⟨p - 1, by have := h.1; omega⟩
  have hm := ch_mul n k
  have hd : n + 1 ∣ (k + 1) * Nmb.ch (n + 1) (k + 1) := ⟨_, hm⟩
  rcases h.euclid hd with h1 | h1
  · have := Nat.le_of_dvd (by omega) h1
    omega
  · exact h1
theorem Pri.bs {p x : Nat} (h : Pri p) : ∀ m, m < p → bs x p m % p = 1 % p
  | 0, _ => rfl
  | m + 1, hm => by
    obtain ⟨c, hc⟩ := h.ch (k := m + 1) (by omega) hm
    have e : Nmb.bs x p (m + 1) = Nmb.bs x p m + Nmb.ch p (m + 1) * x ^ (m + 1) := rfl
    rw [e, hc, Nat.mul_assoc, Nat.add_mul_mod_self_left, h.bs m (by omega)]
theorem Pri.succ {p x : Nat} (h : Pri p) : (x + 1) ^ p % p = (x ^ p + 1) % p := by
  rw [bs_all]
  obtain ⟨n, rfl⟩ : ∃ j, p = j + 1 := ⟨p - 1, by have := h.1; omega⟩
  have e : Nmb.bs x (n + 1) (n + 1) = Nmb.bs x (n + 1) n + Nmb.ch (n + 1) (n + 1) * x ^ (n + 1) := rfl
  rw [e, ch_self, Nat.one_mul, Nat.add_mod, h.bs n (by omega), ← Nat.add_mod, Nat.add_comm]
/-- Fermat. -/
theorem Pri.fermat {p : Nat} (h : Pri p) : ∀ a, a ^ p % p = a % p
  | 0 => by
    have := h.1
    rw [Nat.zero_pow (by omega)]
  | a + 1 => by rw [h.succ, Nat.add_mod, h.fermat a, ← Nat.add_mod]
theorem Pri.fermat1 {p a : Nat} (h : Pri p) (ha : a % p ≠ 0) : a ^ (p - 1) % p = 1 := by
  have h2 := h.1
  have hf := h.fermat a
  obtain ⟨n, rfl⟩ : ∃ j, p = j + 1 := ⟨p - 1, by omega⟩
  have hpos : 1 ≤ a ^ n := Nat.pos_of_ne_zero (fun h0 => by
    have : a = 0 := by
      apply Nat.eq_zero_of_not_pos
      intro hp
      have := Nat.pow_pos (n := n) hp
      omega
    subst this
    simp at ha)
  have hd : n + 1 ∣ a * (a ^ n - 1) := by
    rw [Nat.mul_sub, Nat.mul_one, ← Nat.pow_succ']
    exact Nat.dvd_of_mod_eq_zero (Nat.sub_mod_eq_zero_of_mod_eq hf)
  rcases h.euclid hd with h1 | h1
  · exact absurd (Nat.mod_eq_zero_of_dvd h1) ha
  · show a ^ n % (n + 1) = 1
    obtain ⟨c, hc⟩ := h1
    have : a ^ n = 1 + (n + 1) * c := by omega
    rw [this, Nat.add_mul_mod_self_left, Nat.mod_eq_of_lt (by omega)]

/-- a root of 1 modulo a prime. -/
theorem Pri.sqrt1 {p x : Nat} (h : Pri p) (hx : x * x % p = 1) : x % p = 1 ∨ x % p = p - 1 := by
  have h2 := h.1
  have hpos : 1 ≤ x := Nat.pos_of_ne_zero (fun h0 => by subst h0; simp at hx)
  have e : (x + 1) * (x - 1) = x * x - 1 := by
    obtain ⟨y, rfl⟩ : ∃ j, x = j + 1 := ⟨x - 1, by omega⟩
    simp only [Nat.add_sub_cancel, Nat.add_mul, Nat.mul_add, Nat.one_mul, Nat.mul_one]
    omega
  have hd : p ∣ (x + 1) * (x - 1) := by
    rw [e]
    exact Nat.dvd_of_mod_eq_zero (Nat.sub_mod_eq_zero_of_mod_eq (by rw [hx, Nat.mod_eq_of_lt (by omega)]))
  rcases h.euclid hd with ⟨c, hc⟩ | ⟨c, hc⟩
  · right
    have hlt := Nat.mod_lt x (y := p) (by omega)
    have hdm := Nat.div_add_mod x p
    have h3 : (x % p + 1) % p = 0 := by
      have := congrArg (· % p) hc
      simp only [Nat.mul_mod_right] at this
      rw [Nat.add_mod] at this
      rw [Nat.mod_eq_of_lt (show 1 < p by omega)] at this
      exact this
    rcases Nat.lt_or_ge (x % p + 1) p with h4 | h4
    · rw [Nat.mod_eq_of_lt h4] at h3; omega
    · omega
  · left
    have : x = 1 + p * c := by omega
    rw [this, Nat.add_mul_mod_self_left, Nat.mod_eq_of_lt (by omega)]

/-- a chain of squares that comes to 1 modulo a prime begins with 1, or is less 1 somewhere. -/
theorem Pri.chain {p y : Nat} (h : Pri p) : ∀ s, y ^ 2 ^ s % p = 1 → y % p = 1 ∨ ∃ r, r < s ∧ y ^ 2 ^ r % p = p - 1
  | 0, hy => by
    left
    simpa using hy
  | s + 1, hy => by
    have e : y ^ 2 ^ (s + 1) = y ^ 2 ^ s * y ^ 2 ^ s := by rw [← Nat.pow_add]; congr 1; rw [Nat.pow_succ]; omega
    rw [e] at hy
    rcases h.sqrt1 hy with h1 | h1
    · rcases h.chain s h1 with h3 | ⟨r, h3, h4⟩
      · exact Or.inl h3
      · exact Or.inr ⟨r, by omega, h4⟩
    · exact Or.inr ⟨s, by omega, h1⟩
/-- a prime passes the strong test. -/
theorem Pri.strong {p a d s : Nat} (h : Pri p) (ha : a % p ≠ 0) (hd : p - 1 = d * 2 ^ s) : a ^ d % p = 1 ∨ ∃ r, r < s ∧ (a ^ d) ^ 2 ^ r % p = p - 1 := by
  apply h.chain s
  rw [← Nat.pow_mul, ← hd]
  exact h.fermat1 ha

/-- the least divisor above 1 of a number is a prime. -/
theorem least_factor (n : Nat) (hn : 2 ≤ n) : ∃ q, Pri q ∧ q ∣ n ∧ ∀ d, 2 ≤ d → d ∣ n → q ≤ d := by
  suffices H : ∀ k q, q + k = n → 2 ≤ q → (∀ d, 2 ≤ d → d < q → ¬ d ∣ n) → ∃ q, 2 ≤ q ∧ q ∣ n ∧ ∀ d, 2 ≤ d → d ∣ n → q ≤ d by
    obtain ⟨q, h2, hq, hl⟩ := H (n - 2) 2 (by omega) (by omega) (fun d h1 h2 => by omega)
    refine ⟨q, ⟨h2, fun d hd => ?_⟩, hq, hl⟩
    have hpos : 0 < d := Nat.pos_of_dvd_of_pos hd (by omega)
    have hle := Nat.le_of_dvd (by omega) hd
    rcases Nat.lt_or_ge d 2 with h3 | h3
    · left; omega
    · right
      have := hl d h3 (Nat.dvd_trans hd hq)
      omega
  intro k
  induction k with
  | zero =>
    intro q hk h2 hno
    refine ⟨n, hn, Nat.dvd_refl n, fun d h1 hd => ?_⟩
    apply Nat.le_of_not_lt
    intro hlt
    exact hno d h1 (by omega) hd
  | succ k ih =>
    intro q hk h2 hno
    by_cases hq : q ∣ n
    · refine ⟨q, h2, hq, fun d h1 hd => ?_⟩
      apply Nat.le_of_not_lt
      intro hlt
      exact hno d h1 hlt hd
    · refine ih (q + 1) (by omega) (by omega) (fun d h1 h3 hd => ?_)
      rcases Nat.lt_or_ge d q with h4 | h4
      · exact hno d h1 h4 hd
      · have : d = q := by omega
        subst this
        exact hq hd
/-- no divisor up to the root: a prime. -/
theorem pri_of_root {n : Nat} (hn : 2 ≤ n) (h : ∀ d, 2 ≤ d → d * d ≤ n → ¬ d ∣ n) : Pri n := by
  obtain ⟨q, hq, hd, hl⟩ := least_factor n hn
  obtain ⟨c, rfl⟩ := hd
  have h2 := hq.1
  have hc : c = 1 := by
    apply Classical.byContradiction
    intro hne
    have hc0 : c ≠ 0 := fun h0 => by subst h0; simp at hn
    have h3 := hl c (by omega) ⟨q, Nat.mul_comm q c⟩
    exact h q h2 (Nat.mul_le_mul_left q h3) ⟨c, rfl⟩
  subst hc
  rw [Nat.mul_one]
  exact hq
theorem Pri.no_div {n d : Nat} (h : Pri n) (h2 : 2 ≤ d) (hd : d * d ≤ n) : ¬ d ∣ n := by
  intro hdv
  rcases h.2 d hdv with h1 | h1
  · omega
  · subst h1
    have : d * 2 ≤ d * d := Nat.mul_le_mul_left d h2
    have := h.1
    omega

/-- powers of less 1. -/
theorem neg_pow {q b : Nat} (hq : 2 < q) (hb : b % q = q - 1) : ∀ t, b ^ (2 * t + 1) % q = q - 1 := by
  have h1 : b * b % q = 1 := by
    rw [Nat.mul_mod, hb]
    obtain ⟨m, rfl⟩ : ∃ j, q = j + 2 := ⟨q - 2, by omega⟩
    have : (m + 2 - 1) * (m + 2 - 1) = 1 + (m + 2) * m := by
      show (m + 1) * (m + 1) = _
      simp only [Nat.add_mul, Nat.mul_add, Nat.one_mul, Nat.mul_one]
      omega
    rw [this, Nat.add_mul_mod_self_left, Nat.mod_eq_of_lt (by omega)]
  intro t
  induction t with
  | zero => simpa using hb
  | succ t ih =>
    have e : b ^ (2 * (t + 1) + 1) = b ^ (2 * t + 1) * (b * b) := by
      rw [show 2 * (t + 1) + 1 = (2 * t + 1) + 1 + 1 by omega, Nat.pow_succ, Nat.pow_succ, Nat.mul_assoc]
    rw [e, Nat.mul_mod, ih, h1, Nat.mul_one, Nat.mod_eq_of_lt (by omega)]
/-- a number above 0 is a power of 2 times an odd one. -/
theorem two_part (n : Nat) (hn : 0 < n) : ∃ j t, n = 2 ^ j * (2 * t + 1) := by
  induction n using Nat.strongRecOn with
  | ind n ih =>
    rcases Nat.mod_two_eq_zero_or_one n with h | h
    · obtain ⟨j, t, e⟩ := ih (n / 2) (by omega) (by omega)
      refine ⟨j + 1, t, ?_⟩
      have : n = 2 * (n / 2) := by omega
      rw [this, e, Nat.pow_succ, Nat.mul_comm (2 ^ j) 2, Nat.mul_assoc]
    · exact ⟨0, n / 2, by rw [Nat.pow_zero, Nat.one_mul]; omega⟩
/-- Proth. -/
theorem proth {c k a n : Nat} (hk : 1 ≤ k) (hc0 : c % 2 = 1) (hc : c < 2 ^ k) (hn : n = c * 2 ^ k + 1) (ha : a ^ ((n - 1) / 2) % n = n - 1) : Pri n := by
  have hk2 : 2 ≤ 2 ^ k := by
    have := Nat.pow_le_pow_right (n := 2) (by decide) hk
    simpa using this
  have hcp : 2 ^ k ≤ c * 2 ^ k := Nat.le_mul_of_pos_left _ (by omega)
  obtain ⟨q, hq, hd, hl⟩ := least_factor n (by omega)
  have hq2 := hq.1
  have hev : 2 ^ k = 2 * 2 ^ (k - 1) := by
    obtain ⟨j, rfl⟩ : ∃ j, k = j + 1 := ⟨k - 1, by omega⟩
    rw [Nat.pow_succ, Nat.add_sub_cancel, Nat.mul_comm]
  have hce : c * 2 ^ k = 2 * (c * 2 ^ (k - 1)) := by rw [hev]; exact Nat.mul_left_comm c 2 _
  have hodd : q ≠ 2 := fun h2 => by
    subst h2
    have := Nat.mod_eq_zero_of_dvd hd
    omega
  have hhalf : (n - 1) / 2 = c * 2 ^ (k - 1) := by omega
  -- modulo q the power leaves q - 1 too
  have hb : (a ^ c) ^ 2 ^ (k - 1) % q = q - 1 := by
    rw [← Nat.pow_mul, ← hhalf]
    obtain ⟨m, rfl⟩ := hd
    have h3 : a ^ ((q * m - 1) / 2) % (q * m) % q = (q * m - 1) % q := by rw [ha]
    rw [Nat.mod_mul_right_mod] at h3
    rw [h3]
    have hm0 : m ≠ 0 := fun h0 => by subst h0; omega
    obtain ⟨m', rfl⟩ : ∃ j, m = j + 1 := ⟨m - 1, by omega⟩
    have : q * (m' + 1) - 1 = (q - 1) + q * m' := by rw [Nat.mul_add]; omega
    rw [this, Nat.add_mul_mod_self_left, Nat.mod_eq_of_lt (by omega)]
  have ha0 : (a ^ c) % q ≠ 0 := by
    intro h0
    have h1 : (a ^ c) ^ 2 ^ (k - 1) % q = 0 := by
      rw [Nat.pow_mod, h0, Nat.zero_pow (Nat.pow_pos (by decide)), Nat.zero_mod]
    omega
  have hf := hq.fermat1 ha0
  obtain ⟨j, t, e⟩ := two_part (q - 1) (by omega)
  have hjk : k ≤ j := by
    apply Nat.le_of_not_lt
    intro hlt
    rw [e] at hf
    have h1 := neg_pow (by omega) hb t
    have h3 : ∀ b : Nat, (b ^ 2 ^ (k - 1)) ^ (2 * t + 1) = (b ^ (2 ^ j * (2 * t + 1))) ^ 2 ^ (k - 1 - j) := by
      intro b
      rw [← Nat.pow_mul, ← Nat.pow_mul]
      congr 1
      rw [show 2 ^ (k - 1) = 2 ^ j * 2 ^ (k - 1 - j) by rw [← Nat.pow_add]; congr 1; omega]
      rw [Nat.mul_assoc, Nat.mul_assoc, Nat.mul_comm (2 ^ (k - 1 - j))]
    rw [h3, Nat.pow_mod, hf, Nat.one_pow, Nat.mod_eq_of_lt (by omega)] at h1
    omega
  have hge : 2 ^ k ≤ q - 1 := by
    rw [e]
    exact Nat.le_trans (Nat.pow_le_pow_right (by decide) hjk) (Nat.le_mul_of_pos_right _ (by omega))
  apply pri_of_root (by omega)
  intro d h2 hdd hdn
  have h3 := hl d h2 hdn
  have h4 : (2 ^ k + 1) * (2 ^ k + 1) ≤ d * d := Nat.mul_le_mul (by omega) (by omega)
  have h5 : c * 2 ^ k ≤ 2 ^ k * 2 ^ k := Nat.mul_le_mul_right _ (by omega)
  simp only [Nat.add_mul, Nat.mul_add, Nat.one_mul, Nat.mul_one] at h4
  omega
end Nmb
namespace Nmb

/-- does n pass the strong test to base a, from the power e downwards? -/
def down (a n : Nat) : Nat → Nat → Bool
  | 0, _ => true
  | f + 1, e =>
    let x := a ^ e % n
    cond (Nat.beq x (n - 1)) true (cond (Nat.beq x 1) (cond (Nat.beq (e % 2) 1) true (down a n f (e / 2))) false)
/-- bases 2 and 3 tell that n is none. -/
def wit (n : Nat) : Bool := cond (down 2 n 20 (n - 1)) (cond (down 3 n 20 (n - 1)) false true) true
def upto (t : Nat → Bool) : Nat → Bool
  | 0 => true
  | f + 1 => cond (t f) (upto t f) false
theorem upto_said {t : Nat → Bool} : ∀ {n}, upto t n = true → ∀ i, i < n → t i = true
  | 0, _, i, hi => by omega
  | n + 1, h, i, hi => by
    unfold upto at h
    cases ht : t n with
    | false => rw [ht] at h; exact Bool.noConfusion h
    | true =>
      rw [ht] at h
      rcases Nat.lt_or_ge i n with h1 | h1
      · exact upto_said (n := n) h i h1
      · have : i = n := by omega
        subst this
        exact ht
/-- the odd primes up to 37, multiplied. -/
def P37 : Nat := 3710369067405
def cof (q i : Nat) : Bool := cond (Nat.beq (Nat.gcd (q + 2 * i) P37) 1) (wit (q * (q + 2 * i))) true
def row (j : Nat) : Bool := cond (Nat.beq (Nat.gcd (41 + 2 * j) P37) 1) (upto (cof (41 + 2 * j)) ((1002000 / (41 + 2 * j) - (41 + 2 * j)) / 2 + 1)) true
theorem rows : upto row 481 = true := by decide +kernel

theorem sq_neg {n y : Nat} (hn : 2 < n) (hy : y % n = n - 1) : y * y % n = 1 := by
  have h := neg_pow hn hy 0
  rw [Nat.mul_mod, hy]
  obtain ⟨m, rfl⟩ : ∃ j, n = j + 2 := ⟨n - 2, by omega⟩
  have : (m + 2 - 1) * (m + 2 - 1) = 1 + (m + 2) * m := by
    show (m + 1) * (m + 1) = _
    simp only [Nat.add_mul, Nat.mul_add, Nat.one_mul, Nat.mul_one]
    omega
  rw [this, Nat.add_mul_mod_self_left, Nat.mod_eq_of_lt (by omega)]
theorem twice (a d s : Nat) : a ^ (d * 2 ^ (s + 1)) = a ^ (d * 2 ^ s) * a ^ (d * 2 ^ s) := by
  rw [← Nat.pow_add]
  congr 1
  rw [Nat.pow_succ, ← Nat.mul_assoc]
  omega
theorem after_neg {n a d r : Nat} (hn : 2 < n) (hr : a ^ (d * 2 ^ r) % n = n - 1) : ∀ k, a ^ (d * 2 ^ (r + k + 1)) % n = 1
  | 0 => by rw [twice]; exact sq_neg hn hr
  | k + 1 => by
    rw [show r + (k + 1) + 1 = (r + k + 1) + 1 by omega, twice, Nat.mul_mod, after_neg hn hr k]
    exact Nat.mod_eq_of_lt (by omega)
theorem after_one {n a d : Nat} (hn : 2 < n) (hr : a ^ d % n = 1) : ∀ k, a ^ (d * 2 ^ k) % n = 1
  | 0 => by rw [Nat.pow_zero, Nat.mul_one]; exact hr
  | k + 1 => by
    rw [twice, Nat.mul_mod, after_one hn hr k]
    exact Nat.mod_eq_of_lt (by omega)
/-- what passes the strong test goes down. -/
theorem down_of {a n d : Nat} (hn : 2 < n) (hd : d % 2 = 1) : ∀ s, (a ^ d % n = 1 ∨ ∃ r, r ≤ s ∧ a ^ (d * 2 ^ r) % n = n - 1) → ∀ f, down a n f (d * 2 ^ s) = true
  | _, _, 0 => rfl
  | s, h, f + 1 => by
    show cond (Nat.beq (a ^ (d * 2 ^ s) % n) (n - 1)) true (cond (Nat.beq (a ^ (d * 2 ^ s) % n) 1) (cond (Nat.beq (d * 2 ^ s % 2) 1) true (down a n f (d * 2 ^ s / 2))) false) = true
    cases hb : Nat.beq (a ^ (d * 2 ^ s) % n) (n - 1) with
    | true => rfl
    | false =>
      have hne : a ^ (d * 2 ^ s) % n ≠ n - 1 := Nat.ne_of_beq_eq_false hb
      have h1 : a ^ (d * 2 ^ s) % n = 1 := by
        rcases h with h | ⟨r, hr, h⟩
        · exact after_one hn h s
        · have hlt : r < s := Nat.lt_of_le_of_ne hr (fun e => hne (e ▸ h))
          have := after_neg hn h (s - r - 1)
          rw [show r + (s - r - 1) + 1 = s by omega] at this
          exact this
      rw [h1]
      show cond (Nat.beq (d * 2 ^ s % 2) 1) true (down a n f (d * 2 ^ s / 2)) = true
      cases hc : Nat.beq (d * 2 ^ s % 2) 1 with
      | true => rfl
      | false =>
        cases s with
        | zero =>
          have := Nat.ne_of_beq_eq_false hc
          rw [Nat.pow_zero, Nat.mul_one] at this
          exact absurd hd this
        | succ s =>
          have e : d * 2 ^ (s + 1) / 2 = d * 2 ^ s := by
            rw [Nat.pow_succ, ← Nat.mul_assoc, Nat.mul_div_cancel _ (by decide)]
          show down a n f (d * 2 ^ (s + 1) / 2) = true
          rw [e]
          refine down_of hn hd s ?_ f
          rcases h with h | ⟨r, hr, h⟩
          · exact Or.inl h
          · refine Or.inr ⟨r, ?_, h⟩
            have : r ≠ s + 1 := fun e => hne (e ▸ h)
            omega
theorem low_odd : ∀ q, q < 41 → (2 ≤ q ∧ q % 2 = 1 ∧ Nat.gcd q P37 = 1) → False := by decide
theorem gcd_part {a b : Nat} (h : Nat.gcd (a * b) P37 = 1) : Nat.gcd a P37 = 1 :=
  Nat.Coprime.coprime_dvd_left ⟨b, rfl⟩ h
/-- no number up to 1002000 without a factor up to 37 passes to bases 2 and 3 but the primes. -/
theorem wit_of {n : Nat} (h2 : 2 ≤ n) (hn : n ≤ 1002000) (ho : n % 2 = 1) (hg : Nat.gcd n P37 = 1) (hp : ¬ Pri n) : wit n = true := by
  obtain ⟨q, hq, ⟨c, rfl⟩, hl⟩ := least_factor n h2
  have hq2 := hq.1
  have hc0 : c ≠ 0 := fun h0 => by subst h0; simp at h2
  have hc1 : c ≠ 1 := fun h0 => by subst h0; rw [Nat.mul_one] at hp; exact hp hq
  have hqc := hl c (by omega) ⟨q, Nat.mul_comm q c⟩
  have hoq : q % 2 = 1 := by
    rcases Nat.mod_two_eq_zero_or_one q with h | h
    · rw [Nat.mul_mod, h] at ho; simp at ho
    · exact h
  have hoc : c % 2 = 1 := by
    rcases Nat.mod_two_eq_zero_or_one c with h | h
    · rw [Nat.mul_mod, h] at ho; simp at ho
    · exact h
  have hgq := gcd_part hg
  have hgc : Nat.gcd c P37 = 1 := gcd_part (by rw [Nat.mul_comm]; exact hg)
  have h41 : 41 ≤ q := Nat.le_of_not_lt (fun hlt => low_odd q hlt ⟨hq2, hoq, hgq⟩)
  have h1k : q < 1002 := by
    apply Nat.lt_of_not_le
    intro hge
    have := Nat.mul_le_mul hge (Nat.le_trans hge hqc)
    omega
  have hr := upto_said rows ((q - 41) / 2) (by omega)
  have ej : 41 + 2 * ((q - 41) / 2) = q := by omega
  unfold row at hr
  rw [ej, hgq] at hr
  have hle : c ≤ 1002000 / q := (Nat.le_div_iff_mul_le (by omega)).2 (by rw [Nat.mul_comm]; exact hn)
  have hi := upto_said (t := cof q) (n := (1002000 / q - q) / 2 + 1) hr ((c - q) / 2) (by omega)
  have ei : q + 2 * ((c - q) / 2) = c := by omega
  unfold cof at hi
  rw [ei, hgc] at hi
  exact hi
/-- a number up to 1002000 without a factor up to 37 that passes to bases 2 and 3 is a prime. -/
theorem pri_of_pass {n d s : Nat} (h2 : 2 < n) (hn : n ≤ 1002000) (ho : n % 2 = 1) (hg : Nat.gcd n P37 = 1) (hd : d % 2 = 1) (hs : n - 1 = d * 2 ^ s)
    (p2 : 2 ^ d % n = 1 ∨ ∃ r, r ≤ s ∧ 2 ^ (d * 2 ^ r) % n = n - 1) (p3 : 3 ^ d % n = 1 ∨ ∃ r, r ≤ s ∧ 3 ^ (d * 2 ^ r) % n = n - 1) : Pri n := by
  apply Classical.byContradiction
  intro hp
  have hw := wit_of (by omega) hn ho hg hp
  unfold wit at hw
  rw [hs, down_of h2 hd s p2 20, down_of h2 hd s p3 20] at hw
  exact Bool.noConfusion hw
end Nmb
namespace Nmb

theorem Pri.euclidI {p : Nat} {a b : Int} (h : Pri p) (hd : (p : Int) ∣ a * b) : (p : Int) ∣ a ∨ (p : Int) ∣ b := by
  have h1 := Int.natAbs_dvd_natAbs.2 hd
  rw [Int.natAbs_mul, Int.natAbs_natCast] at h1
  rcases h.euclid h1 with h2 | h2
  · left; apply Int.natAbs_dvd_natAbs.1; rw [Int.natAbs_natCast]; exact h2
  · right; apply Int.natAbs_dvd_natAbs.1; rw [Int.natAbs_natCast]; exact h2

/-- the value of a polynomial whose greatest coefficient, which is 1, isn't written. -/
def evm (x : Int) : List Int → Int
  | [] => 1
  | c :: cs => c + x * evm x cs
/-- a polynomial and a times one of a degree less. -/
def pad (a : Int) : List Int → List Int → List Int
  | [], _ => []
  | d :: _, [] => [d + a]
  | d :: ds, r :: rs => (d + a * r) :: pad a ds rs
theorem pad_len (a : Int) : ∀ ds rs, rs.length + 1 = ds.length → (pad a ds rs).length = ds.length
  | [], _, h => by simp at h
  | [_], [], _ => rfl
  | _ :: _ :: _, [], h => by simp at h
  | d :: ds, r :: rs, h => by
    simp only [List.length_cons] at h
    simp only [pad, List.length_cons]
    rw [pad_len a ds rs (by omega)]
theorem pad_ev (x a : Int) : ∀ ds rs, rs.length + 1 = ds.length → evm x (pad a ds rs) = evm x ds + a * evm x rs
  | [], _, h => by simp at h
  | [d], [], _ => by simp only [pad, evm]; omega
  | _ :: _ :: _, [], h => by simp at h
  | d :: ds, r :: rs, h => by
    simp only [List.length_cons] at h
    simp only [pad, evm]
    rw [pad_ev x a ds rs (by omega)]
    simp only [Int.mul_add, Int.mul_left_comm x a]
    omega
/-- the quotient by what is 0 at a. -/
def qt (a : Int) : List Int → List Int
  | [] => []
  | [_] => []
  | _ :: d :: ds => pad a (d :: ds) (qt a (d :: ds))
theorem qt_len (a : Int) : ∀ cs, (qt a cs).length = cs.length - 1
  | [] => rfl
  | [_] => rfl
  | _ :: d :: ds => by
    have h := qt_len a (d :: ds)
    simp only [qt]
    rw [pad_len a _ _ (by rw [h]; simp)]
    simp
theorem qt_ev (x a : Int) : ∀ cs, cs ≠ [] → evm x cs - evm a cs = (x - a) * evm x (qt a cs)
  | [], h => absurd rfl h
  | [_], _ => by simp only [evm, qt]; omega
  | c :: d :: ds, _ => by
    have h := qt_ev x a (d :: ds) (by simp)
    have e1 : ∀ y, evm y (c :: d :: ds) = c + y * evm y (d :: ds) := fun _ => rfl
    rw [e1, e1]
    have e2 : qt a (c :: d :: ds) = pad a (d :: ds) (qt a (d :: ds)) := rfl
    rw [e2, pad_ev x a _ _ (by rw [qt_len]; simp), Int.mul_add, Int.mul_left_comm (x - a) a, ← h, Int.sub_mul, Int.mul_sub]
    omega
/-- no more roots than the degree. -/
theorem Pri.roots {p : Nat} (h : Pri p) : ∀ (n : Nat) (cs : List Int) (xs : List Int), cs.length = n → xs.Pairwise (fun a b => ¬ (p : Int) ∣ b - a) → (∀ x, x ∈ xs → (p : Int) ∣ evm x cs) → xs.length ≤ n
  | _, _, [], _, _, _ => Nat.zero_le _
  | 0, [], a :: ys, _, _, hr => by
    have h1 := hr a (by simp)
    have h2 := h.1
    have h3 : (p : Int) ∣ 1 := h1
    have := Int.le_of_dvd (by decide) h3
    omega
  | n + 1, cs, a :: ys, hl, hp, hr => by
    have hne : cs ≠ [] := fun e => by subst e; simp at hl
    rw [List.pairwise_cons] at hp
    have hle : ys.length ≤ n := by
      refine h.roots n (qt a cs) ys (by rw [qt_len, hl]; rfl) hp.2 (fun y hy => ?_)
      have h1 := hr y (by simp [hy])
      have h2 := hr a (by simp)
      have h3 : (p : Int) ∣ (y - a) * evm y (qt a cs) := by
        rw [← qt_ev y a cs hne]
        exact Int.dvd_sub h1 h2
      rcases h.euclidI h3 with h4 | h4
      · exact absurd h4 (hp.1 y hy)
      · exact h4
    simp only [List.length_cons]
    omega
theorem evm_pow (x : Int) : ∀ m, evm x (List.replicate m 0) = x ^ m
  | 0 => by rw [Int.pow_zero]; rfl
  | m + 1 => by
    rw [List.replicate_succ]
    simp only [evm]
    rw [evm_pow x m, Int.pow_succ, Int.mul_comm]
    omega
/-- a power of a number modulo an odd prime is less 1. -/
theorem Pri.nonsquare {p : Nat} (h : Pri p) (ho : p % 2 = 1) : ∃ x, 1 ≤ x ∧ x < p ∧ x ^ ((p - 1) / 2) % p = p - 1 := by
  have h2 := h.1
  obtain ⟨m, hm⟩ : ∃ m, (p - 1) / 2 = m + 1 := ⟨(p - 1) / 2 - 1, by omega⟩
  apply Classical.byContradiction
  intro hno
  have hall : ∀ x, 1 ≤ x → x < p → x ^ (m + 1) % p = 1 := by
    intro x h1 hx
    have hf := h.fermat1 (a := x) (by rw [Nat.mod_eq_of_lt hx]; omega)
    have e : x ^ (p - 1) = x ^ (m + 1) * x ^ (m + 1) := by rw [← Nat.pow_add]; congr 1; omega
    rw [e] at hf
    rcases h.sqrt1 hf with h3 | h3
    · exact h3
    · exact absurd ⟨x, h1, hx, by rw [hm]; exact h3⟩ hno
  have hr := h.roots (m + 1) ((-1) :: List.replicate m 0) ((List.range (p - 1)).map (fun i => ((i + 1 : Nat) : Int))) (by simp) ?_ ?_
  · simp at hr
    omega
  · rw [List.pairwise_map]
    refine List.Pairwise.imp_of_mem ?_ (List.pairwise_lt_range (n := p - 1))
    intro a b ha hb hlt hd
    rw [List.mem_range] at ha hb
    have := Int.le_of_dvd (by omega) hd
    omega
  · intro x hx
    rw [List.mem_map] at hx
    obtain ⟨i, hi, rfl⟩ := hx
    rw [List.mem_range] at hi
    have h3 := hall (i + 1) (by omega) (by omega)
    have e : evm ((i + 1 : Nat) : Int) ((-1) :: List.replicate m 0) = (((i + 1) ^ (m + 1) : Nat) : Int) - 1 := by
      simp only [evm]
      rw [evm_pow, Int.natCast_pow, Int.pow_succ, Int.mul_comm]
      omega
    rw [e]
    have hdm := Nat.div_add_mod ((i + 1) ^ (m + 1)) p
    rw [h3] at hdm
    refine ⟨(((i + 1) ^ (m + 1) / p : Nat) : Int), ?_⟩
    have hc := congrArg (fun (z : Nat) => (z : Int)) hdm
    simp only [Int.natCast_add, Int.natCast_mul] at hc
    rw [← hc]
    simp

/-- where a power of 2's power is less 1, the next power of 2 goes into p less 1. -/
theorem Pri.deep {q b k : Nat} (h : Pri q) (hq : q ≠ 2) (hb : b ^ 2 ^ k % q = q - 1) : 2 ^ (k + 1) ∣ q - 1 := by
  have hq2 := h.1
  have ha0 : b % q ≠ 0 := by
    intro h0
    have h1 : b ^ 2 ^ k % q = 0 := by
      rw [Nat.pow_mod, h0, Nat.zero_pow (Nat.pow_pos (by decide)), Nat.zero_mod]
    omega
  have hf := h.fermat1 ha0
  obtain ⟨j, t, e⟩ := two_part (q - 1) (by omega)
  have hjk : k + 1 ≤ j := by
    apply Nat.le_of_not_lt
    intro hlt
    rw [e] at hf
    have h1 := neg_pow (by omega) hb t
    have h3 : (b ^ 2 ^ k) ^ (2 * t + 1) = (b ^ (2 ^ j * (2 * t + 1))) ^ 2 ^ (k - j) := by
      rw [← Nat.pow_mul, ← Nat.pow_mul]
      congr 1
      rw [show 2 ^ k = 2 ^ j * 2 ^ (k - j) by rw [← Nat.pow_add]; congr 1; omega]
      rw [Nat.mul_assoc, Nat.mul_assoc, Nat.mul_comm (2 ^ (k - j))]
    rw [h3, Nat.pow_mod, hf, Nat.one_pow, Nat.mod_eq_of_lt (by omega)] at h1
    omega
  rw [e]
  exact Nat.dvd_trans (Nat.pow_dvd_pow 2 hjk) (Nat.dvd_mul_right _ _)
theorem two_twice (x k : Nat) : x ^ 2 ^ (k + 1) = x ^ 2 ^ k * x ^ 2 ^ k := by
  rw [← Nat.pow_add]; congr 1; rw [Nat.pow_succ]; omega
theorem one_on {q x : Nat} (hq : 1 < q) {k : Nat} (h : x ^ 2 ^ k % q = 1) : ∀ j, x ^ 2 ^ (k + j) % q = 1
  | 0 => h
  | j + 1 => by
    rw [show k + (j + 1) = (k + j) + 1 by omega, two_twice, Nat.mul_mod, one_on hq h j]
    exact Nat.mod_eq_of_lt hq
/-- the first power of 2 whose power is 1 goes into p less 1. -/
theorem Pri.order_le {q x k : Nat} (h : Pri q) (hq : q ≠ 2) (h1 : x ^ 2 ^ (k + 1) % q = 1) (h0 : x ^ 2 ^ k % q ≠ 1) : 2 ^ (k + 1) ∣ q - 1 := by
  rw [two_twice] at h1
  rcases h.sqrt1 h1 with h2 | h2
  · exact absurd h2 h0
  · exact h.deep hq h2
/-- there is a number whose power has the order 2 to the kth, where that goes into p less 1. -/
theorem Pri.root {p k : Nat} (h : Pri p) (ho : p % 2 = 1) (hk : 2 ^ k ∣ p - 1) : ∃ x, 1 ≤ x ∧ x < p ∧ (x ^ ((p - 1) / 2 ^ k)) ^ 2 ^ k % p = 1 ∧ ∀ i, i < k → (x ^ ((p - 1) / 2 ^ k)) ^ 2 ^ i % p ≠ 1 := by
  have h2 := h.1
  obtain ⟨x, h1, hx, hn⟩ := h.nonsquare ho
  refine ⟨x, h1, hx, ?_, ?_⟩
  · rw [← Nat.pow_mul, Nat.div_mul_cancel hk]
    exact h.fermat1 (by rw [Nat.mod_eq_of_lt hx]; omega)
  · intro i hi hc
    obtain ⟨j, rfl⟩ : ∃ j, k = i + j + 1 := ⟨k - i - 1, by omega⟩
    have h3 := one_on (by omega) hc j
    have e : (x ^ ((p - 1) / 2 ^ (i + j + 1))) ^ 2 ^ (i + j) = x ^ ((p - 1) / 2) := by
      rw [← Nat.pow_mul]
      congr 1
      obtain ⟨c, hc⟩ := hk
      rw [hc, Nat.mul_div_cancel_left _ (Nat.pow_pos (by decide)), Nat.pow_succ, Nat.mul_comm (2 ^ (i + j)) 2, Nat.mul_assoc, Nat.mul_div_cancel_left _ (by decide), Nat.mul_comm]
    rw [e, hn] at h3
    omega
end Nmb
namespace Nmb

/-- how often 2 goes into n less 1, and what is left of it. -/
def tw (n : Nat) : Nat := Go.Lib.ctz 64 (n - 1)
def od (n : Nat) : Nat := (n - 1) / 2 ^ tw n
theorem tw_said {n : Nat} (h1 : 1 < n) (h : n ≤ 18446744073709551615) : n - 1 = od n * 2 ^ tw n ∧ od n % 2 = 1 ∧ tw n < 64 := by
  obtain ⟨m, hm, hk⟩ := Go.Lib.ctzFrom_spec 64 (n - 1) (by omega) (by omega)
  have e : tw n = Go.Lib.ctzFrom 64 (n - 1) := by unfold tw Go.Lib.ctz; rw [if_neg (by omega)]
  rw [← e] at hm hk
  have ho : od n = 2 * m + 1 := by
    unfold od
    rw [hm, Nat.mul_div_cancel_left _ (Nat.pow_pos (by decide))]
  refine ⟨?_, by omega, hk⟩
  rw [ho, Nat.mul_comm]
  exact hm
def Pass (n a : Nat) : Prop := a ^ od n % n = 1 ∨ ∃ r, r < tw n ∧ (a ^ od n) ^ 2 ^ r % n = n - 1
def bse (k : Nat) : Nat := [2, 3, 5, 7, 11, 13, 17, 19, 23, 29, 31, 37].getD k 0
theorem bse_lt : ∀ k, k < 12 → 2 ≤ bse k ∧ bse k ≤ 37 := by decide
theorem bse_one : ∀ j, j < 12 → ∀ k, k < 12 → bse j % bse k = 0 → bse j = bse k := by decide
theorem none_low : ∀ n, n < 41 → 2 ≤ n → ∃ k, k < 12 ∧ n % bse k = 0 := by decide
/-- what the test tells. -/
def IsP (n : Nat) : Prop := 2 ≤ n ∧ ((∃ k, k < 12 ∧ n = bse k) ∨ ((∀ k, k < 12 → n % bse k ≠ 0) ∧ ∀ k, k < 12 → Pass n (bse k)))
noncomputable def isB (n : Nat) : Bool := @decide (IsP n) (Classical.propDecidable _)
theorem isB_true {n : Nat} (h : IsP n) : isB n = true := by unfold isB; exact @decide_eq_true _ (Classical.propDecidable _) h
theorem isB_false {n : Nat} (h : ¬ IsP n) : isB n = false := by unfold isB; exact @decide_eq_false _ (Classical.propDecidable _) h
theorem of_isB {n : Nat} (h : isB n = true) : IsP n := by unfold isB at h; exact @of_decide_eq_true _ (Classical.propDecidable _) h
theorem isP_div {n k : Nat} (h2 : 2 ≤ n) (hk : k < 12) (hd : n % bse k = 0) : isB n = decide (n = bse k) := by
  by_cases h : n = bse k
  · rw [isB_true ⟨h2, Or.inl ⟨k, hk, h⟩⟩]; simp [h]
  · rw [isB_false]
    · simp [h]
    · rintro ⟨_, ⟨j, hj, e⟩ | ⟨c, _⟩⟩
      · exact h (by rw [e]; exact bse_one j hj k hk (by rw [← e]; exact hd))
      · exact c k hk hd
theorem isP_low {n : Nat} (h2 : n < 2) : isB n = false := isB_false fun h => by have := h.1; omega
theorem big_of {n : Nat} (h2 : 2 ≤ n) (h : ∀ k, k < 12 → n % bse k ≠ 0) : 41 ≤ n := by
  apply Nat.le_of_not_lt
  intro hn
  obtain ⟨k, hk, e⟩ := none_low n hn h2
  exact h k hk e
theorem isP_pass {n : Nat} (h2 : 2 ≤ n) (h : ∀ k, k < 12 → n % bse k ≠ 0) (hp : ∀ k, k < 12 → Pass n (bse k)) : isB n = true := isB_true ⟨h2, Or.inr ⟨h, hp⟩⟩
theorem isP_fail {n k : Nat} (hk : k < 12) (h : ∀ k, k < 12 → n % bse k ≠ 0) (hp : ¬ Pass n (bse k)) : isB n = false := isB_false fun ⟨_, hc⟩ => by
  rcases hc with ⟨j, hj, e⟩ | ⟨_, c⟩
  · exact h j hj (by rw [e, Nat.mod_self])
  · exact hp (c k hk)
/-- a prime is told. -/
theorem isB_of_pri {n : Nat} (h : Pri n) (hn : n ≤ 18446744073709551615) : isB n = true := by
  by_cases hd : ∃ k, k < 12 ∧ n % bse k = 0
  · obtain ⟨k, hk, e⟩ := hd
    rcases h.2 (bse k) (Nat.dvd_of_mod_eq_zero e) with h1 | h1
    · have := (bse_lt k hk).1; omega
    · exact isB_true ⟨h.1, Or.inl ⟨k, hk, h1.symm⟩⟩
  · have hc : ∀ k, k < 12 → n % bse k ≠ 0 := fun k hk e => hd ⟨k, hk, e⟩
    have hb := big_of h.1 hc
    refine isP_pass h.1 hc fun k hk => ?_
    have hl := bse_lt k hk
    exact h.strong (by rw [Nat.mod_eq_of_lt (by omega)]; omega) (tw_said (by omega) hn).1
theorem small_pri {n : Nat} (h2 : 2 ≤ n) (h : n < 121) (hd : ∀ d, d < 11 → 2 ≤ d → d * d ≤ n → ¬ d ∣ n) : Pri n := by
  refine pri_of_root h2 fun d h3 h4 => hd d ?_ h3 h4
  apply Nat.lt_of_not_le
  intro h5
  have := Nat.mul_le_mul h5 h5
  omega
theorem low_pri : ∀ n, n < 121 → 2 ≤ n → (∀ d, d < 11 → 2 ≤ d → d * d ≤ n → n % d ≠ 0) → Pri n := fun _ h h2 hd =>
  small_pri h2 h fun d a b c e => hd d a b c (Nat.mod_eq_zero_of_dvd e)
theorem bse_pri : ∀ k, k < 12 → Pri (bse k) := fun k hk => by
  refine low_pri _ (by have := bse_lt k hk; omega) (bse_lt k hk).1 ?_
  revert k
  decide
theorem pri17 : Pri 17 := low_pri 17 (by decide) (by decide) (by decide)
theorem pri97 : Pri 97 := low_pri 97 (by decide) (by decide) (by decide)
theorem Pri.cop {n q : Nat} (h : Pri q) (hn : n % q ≠ 0) : Nat.Coprime n q := by
  rcases h.2 (Nat.gcd n q) (Nat.gcd_dvd_right n q) with h1 | h1
  · exact h1
  · exact absurd (Nat.mod_eq_zero_of_dvd (h1 ▸ Nat.gcd_dvd_left n q)) hn
theorem cop37 {n : Nat} (h : ∀ k, k < 12 → n % bse k ≠ 0) : Nat.gcd n P37 = 1 := by
  have c : ∀ k, k < 12 → Nat.Coprime n (bse k) := fun k hk => (bse_pri k hk).cop (h k hk)
  have e : P37 = bse 1 * bse 2 * bse 3 * bse 4 * bse 5 * bse 6 * bse 7 * bse 8 * bse 9 * bse 10 * bse 11 := by decide
  rw [e]
  exact ((((((((((c 1 (by decide)).mul_right (c 2 (by decide))).mul_right (c 3 (by decide))).mul_right (c 4 (by decide))).mul_right (c 5 (by decide))).mul_right (c 6 (by decide))).mul_right (c 7 (by decide))).mul_right (c 8 (by decide))).mul_right (c 9 (by decide))).mul_right (c 10 (by decide))).mul_right (c 11 (by decide))
theorem pri_of_isB {n : Nat} (h : isB n = true) (hn : n ≤ 1002000) : Pri n := by
  obtain ⟨h2, ⟨k, hk, rfl⟩ | ⟨hc, hp⟩⟩ := of_isB h
  · exact bse_pri k hk
  · have hb := big_of h2 hc
    obtain ⟨e1, e2, _⟩ := tw_said (n := n) (by omega) (by omega)
    have ho : n % 2 = 1 := by have := hc 0 (by decide); have e : bse 0 = 2 := rfl; rw [e] at this; omega
    have conv : ∀ a, Pass n a → a ^ od n % n = 1 ∨ ∃ r, r ≤ tw n ∧ a ^ (od n * 2 ^ r) % n = n - 1 := fun a ha => by
      rcases ha with h1 | ⟨r, h1, h3⟩
      · exact Or.inl h1
      · exact Or.inr ⟨r, by omega, by rw [Nat.pow_mul]; exact h3⟩
    exact pri_of_pass (by omega) hn ho (cop37 hc) e2 e1 (conv 2 (hp 0 (by decide))) (conv 3 (hp 1 (by decide)))
theorem isB_iff {n : Nat} (hn : n ≤ 1002000) : isB n = true ↔ Pri n := ⟨fun h => pri_of_isB h hn, fun h => isB_of_pri h (by omega)⟩

/-- squares, one behind the other. -/
def sqm (n : Nat) : Nat → Nat → Nat
  | 0, y => y
  | i + 1, y => sqm n i (y * y % n)
theorem sqm_said (n : Nat) : ∀ i x, sqm n i (x % n) = x ^ 2 ^ i % n
  | 0, x => by simp [sqm]
  | i + 1, x => by
    have e : x ^ 2 ^ (i + 1) = (x * x) ^ 2 ^ i := by rw [Nat.pow_succ, Nat.mul_comm (2 ^ i), Nat.pow_mul, Nat.pow_two]
    rw [e, ← sqm_said n i]
    show sqm n i (x % n * (x % n) % n) = _
    rw [← Nat.mul_mod]
theorem half_pow (a c i n : Nat) : a ^ (c * 2 ^ i) % n = sqm n i (a ^ c % n) := by rw [sqm_said, Nat.pow_mul]
theorem proth2 {c k a n i : Nat} (hk : 1 ≤ k) (hc0 : c % 2 = 1) (hc : c < 2 ^ k) (hn : n = c * 2 ^ k + 1) (hm : (n - 1) / 2 = c * 2 ^ i) (h : sqm n i (a ^ c % n) = n - 1) : Pri n :=
  proth hk hc0 hc hn (a := a) (by rw [hm, half_pow]; exact h)
theorem pri998 : Pri 998244353 := proth2 (c := 119) (k := 23) (a := 3) (i := 22) (by decide) (by decide) (by decide) (by decide) (by decide) (by decide +kernel)
theorem is91 : isB 91 = false := by rw [isP_div (k := 3) (by decide) (by decide) (by decide)]; decide
theorem is93 : isB 93 = false := by rw [isP_div (k := 1) (by decide) (by decide) (by decide)]; decide
theorem is95 : isB 95 = false := by rw [isP_div (k := 2) (by decide) (by decide) (by decide)]; decide
theorem is97 : isB 97 = true := isB_of_pri pri97 (by decide)
theorem is999 : isB 999292929 = false := by rw [isP_div (k := 1) (by decide) (by decide) (by decide)]; decide
theorem is998 : isB 998244353 = true := isB_of_pri pri998 (by decide)
theorem is17 : isB 17 = true := isB_of_pri pri17 (by decide)
end Nmb
