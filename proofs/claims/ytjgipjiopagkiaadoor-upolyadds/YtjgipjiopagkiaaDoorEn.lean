/- Which numbers up to a million the strong test to the bases 2 and 3 tells apart. -/
/- Modulo a prime a polynomial has no more roots than its degree; so there is a number that is no square. -/
/- Great primes told by their divisors less one (after Pocklington); plain numbers alone. -/
/- The three greatest primes below 2 to the 63rd that leave 1 divided by 2 to the 20th. -/
/- The two great primes of chapter 9. -/
/- Plain sums and congruences of integers. -/
/- Values at the powers of a root, modulo a prime: there and back, products, and the values by halves. -/
/- Values of polynomials at points apart, modulo a prime: they tell the polynomial; and values by what is left at each half. -/
/- Polynomials as rows of numbers: products (each coefficient a sum), and that they are a ring; plain numbers alone. -/
/- Polynomials modulo a prime: how long they are, quotients and what is left are one; plain numbers alone. -/
/- Divisors of polynomials modulo a prime: the greatest common one is one, and so are the polynomials by which it comes of both; plain numbers alone. -/
/- A polynomial in its one form: coefficients below p, none that is 0 at its end; plain numbers alone. -/
/- The values of a polynomial at the points whose exponents' bits are turned about, by halves: what each half leaves (chapter 7). -/
/- The way back by halves, of some values and the coefficients behind them (after van der Hoeven). -/
/- Plain mathematics for the landed tft: bits turned about of two places; points; halves. -/
/- Derivatives and values of polynomials; powers; plain numbers alone. -/
/- How the greatest common divisor is found (Euclid), and by which polynomials it comes of both; plain numbers alone. -/
/- How Ext goes: plain numbers alone. -/
/- Primes: Euclid, Fermat, Proth; plain numbers alone. -/
namespace Nmb

/-- a prime number. -/
def Pri (p : Nat) : Prop := 2 ≤ p ∧ ∀ d, d ∣ p → d = 1 ∨ d = p

theorem Pri.euclid {p a b : Nat} (h : Pri p) (hd : p ∣ a * b) : p ∣ a ∨ p ∣ b := by
  rcases h.2 (Nat.gcd p a) (Nat.gcd_dvd_left p a) with h1 | h1
  · exact Or.inr (Nat.Coprime.dvd_of_dvd_mul_left h1 hd)
  · exact Or.inl (h1 ▸ Nat.gcd_dvd_right p a)
theorem Pri.pow {p a : Nat} (h : Pri p) : ∀ n, p ∣ a ^ n → p ∣ a
  | 0, hd => by
    have h2 := h.1
    have h3 := Nat.le_of_dvd (by simp) hd
    simp at h3
    omega
  | n + 1, hd => by
    rw [Nat.pow_succ] at hd
    rcases h.euclid hd with h1 | h1
    · exact h.pow n h1
    · exact h1

/-- n over k. -/
def ch : Nat → Nat → Nat
  | _, 0 => 1
  | 0, _ + 1 => 0
  | n + 1, k + 1 => ch n k + ch n (k + 1)
theorem ch_mul : ∀ n k, (k + 1) * ch (n + 1) (k + 1) = (n + 1) * ch n k
  | 0, 0 => rfl
  | 0, k + 1 => by simp [ch]
  | n + 1, 0 => by
    have h := ch_mul n 0
    simp only [ch] at *
    omega
  | n + 1, k + 1 => by
    have h1 := ch_mul n k
    have h2 := ch_mul n (k + 1)
    have e1 : ch (n + 1 + 1) (k + 1 + 1) = ch (n + 1) (k + 1) + ch (n + 1) (k + 1 + 1) := rfl
    have e2 : ch (n + 1) (k + 1) = ch n k + ch n (k + 1) := rfl
    rw [e1, Nat.mul_add, h2, Nat.add_mul (k + 1) 1, h1, Nat.one_mul]
    rw [Nat.add_mul (n + 1) 1, Nat.one_mul]
    conv => rhs; rw [e2, Nat.mul_add]
    rw [e2]
    omega
theorem ch_top : ∀ n k, n < k → ch n k = 0
  | _, 0, h => by omega
  | 0, _ + 1, _ => rfl
  | n + 1, k + 1, h => by
    have e : ch (n + 1) (k + 1) = ch n k + ch n (k + 1) := rfl
    rw [e, ch_top n k (by omega), ch_top n (k + 1) (by omega)]
theorem ch_self : ∀ n, ch n n = 1
  | 0 => rfl
  | n + 1 => by
    have e : ch (n + 1) (n + 1) = ch n n + ch n (n + 1) := rfl
    rw [e, ch_self n, ch_top n (n + 1) (by omega)]
/-- the first m + 1 terms of (x + 1) to the nth. -/
def bs (x n : Nat) : Nat → Nat
  | 0 => 1
  | m + 1 => bs x n m + ch n (m + 1) * x ^ (m + 1)
theorem bs_step (x n : Nat) : ∀ m, bs x (n + 1) (m + 1) = bs x n (m + 1) + x * bs x n m
  | 0 => by
    have h0 : ch n 0 = 1 := by cases n <;> rfl
    have e : ch (n + 1) 1 = ch n 0 + ch n 1 := rfl
    simp only [bs]
    rw [e, h0, Nat.add_mul]
    simp
    omega
  | m + 1 => by
    have h := bs_step x n m
    have e : ch (n + 1) (m + 1 + 1) = ch n (m + 1) + ch n (m + 1 + 1) := rfl
    have e1 : bs x (n + 1) (m + 1 + 1) = bs x (n + 1) (m + 1) + ch (n + 1) (m + 1 + 1) * x ^ (m + 1 + 1) := rfl
    have e2 : bs x n (m + 1 + 1) = bs x n (m + 1) + ch n (m + 1 + 1) * x ^ (m + 1 + 1) := rfl
    have e3 : bs x n (m + 1) = bs x n m + ch n (m + 1) * x ^ (m + 1) := rfl
    have e4 : x * (ch n (m + 1) * x ^ (m + 1)) = ch n (m + 1) * x ^ (m + 1 + 1) := by
      rw [Nat.pow_succ x (m + 1), Nat.mul_left_comm, Nat.mul_comm x]
    rw [e1, h, e, e2, Nat.add_mul]
    conv => rhs; rw [e3, Nat.mul_add, e4]
    conv => lhs; rw [e3]
    omega
theorem bs_all (x : Nat) : ∀ n, (x + 1) ^ n = bs x n n
  | 0 => rfl
  | n + 1 => by
    have e3 : bs x n (n + 1) = bs x n n + ch n (n + 1) * x ^ (n + 1) := rfl
    rw [bs_step, e3, ch_top n (n + 1) (by omega), Nat.pow_succ, bs_all x n, Nat.mul_add]
    rw [Nat.mul_comm x]
    omega
theorem Pri.ch {p k : Nat} (h : Pri p) (h0 : 0 < k) (hk : k < p) : p ∣ ch p k := by
  obtain ⟨k, rfl⟩ : ∃ j, k = j + 1 := ⟨k - 1, by omega⟩
  obtain ⟨n, rfl⟩ : ∃ j, p = j + 1 := ⟨p - 1, by have := h.1; omega⟩
  have hm := ch_mul n k
  have hd : n + 1 ∣ (k + 1) * Nmb.ch (n + 1) (k + 1) := ⟨_, hm⟩
  rcases h.euclid hd with h1 | h1
  · have := Nat.le_of_dvd (by omega) h1
    omega
  · exact h1
theorem Pri.bs {p x : Nat} (h : Pri p) : ∀ m, m < p → bs x p m % p = 1 % p
  | 0, _ => rfl
  | m + 1, hm => by
    obtain ⟨c, hc⟩ := h.ch (k := m + 1) (by omega) hm
    have e : Nmb.bs x p (m + 1) = Nmb.bs x p m + Nmb.ch p (m + 1) * x ^ (m + 1) := rfl
    rw [e, hc, Nat.mul_assoc, Nat.add_mul_mod_self_left, h.bs m (by omega)]
theorem Pri.succ {p x : Nat} (h : Pri p) : (x + 1) ^ p % p = (x ^ p + 1) % p := by
  rw [bs_all]
  obtain ⟨n, rfl⟩ : ∃ j, p = j + 1 := ⟨p - 1, by have := h.1; omega⟩
  have e : Nmb.bs x (n + 1) (n + 1) = Nmb.bs x (n + 1) n + Nmb.ch (n + 1) (n + 1) * x ^ (n + 1) := rfl
  rw [e, ch_self, Nat.one_mul, Nat.add_mod, h.bs n (by omega), ← Nat.add_mod, Nat.add_comm]
/-- Fermat. -/
theorem Pri.fermat {p : Nat} (h : Pri p) : ∀ a, a ^ p % p = a % p
  | 0 => by
    have := h.1
    rw [Nat.zero_pow (by omega)]
  | a + 1 => by rw [h.succ, Nat.add_mod, h.fermat a, ← Nat.add_mod]
theorem Pri.fermat1 {p a : Nat} (h : Pri p) (ha : a % p ≠ 0) : a ^ (p - 1) % p = 1 := by
  have h2 := h.1
  have hf := h.fermat a
  obtain ⟨n, rfl⟩ : ∃ j, p = j + 1 := ⟨p - 1, by omega⟩
  have hpos : 1 ≤ a ^ n := Nat.pos_of_ne_zero (fun h0 => by
    have : a = 0 := by
      apply Nat.eq_zero_of_not_pos
      intro hp
      have := Nat.pow_pos (n := n) hp
      omega
    subst this
    simp at ha)
  have hd : n + 1 ∣ a * (a ^ n - 1) := by
    rw [Nat.mul_sub, Nat.mul_one, ← Nat.pow_succ']
    exact Nat.dvd_of_mod_eq_zero (Nat.sub_mod_eq_zero_of_mod_eq hf)
  rcases h.euclid hd with h1 | h1
  · exact absurd (Nat.mod_eq_zero_of_dvd h1) ha
  · show a ^ n % (n + 1) = 1
    obtain ⟨c, hc⟩ := h1
    have : a ^ n = 1 + (n + 1) * c := by omega
    rw [this, Nat.add_mul_mod_self_left, Nat.mod_eq_of_lt (by omega)]

/-- a root of 1 modulo a prime. -/
theorem Pri.sqrt1 {p x : Nat} (h : Pri p) (hx : x * x % p = 1) : x % p = 1 ∨ x % p = p - 1 := by
  have h2 := h.1
  have hpos : 1 ≤ x := Nat.pos_of_ne_zero (fun h0 => by subst h0; simp at hx)
  have e : (x + 1) * (x - 1) = x * x - 1 := by
    obtain ⟨y, rfl⟩ : ∃ j, x = j + 1 := ⟨x - 1, by omega⟩
    simp only [Nat.add_sub_cancel, Nat.add_mul, Nat.mul_add, Nat.one_mul, Nat.mul_one]
    omega
  have hd : p ∣ (x + 1) * (x - 1) := by
    rw [e]
    exact Nat.dvd_of_mod_eq_zero (Nat.sub_mod_eq_zero_of_mod_eq (by rw [hx, Nat.mod_eq_of_lt (by omega)]))
  rcases h.euclid hd with ⟨c, hc⟩ | ⟨c, hc⟩
  · right
    have hlt := Nat.mod_lt x (y := p) (by omega)
    have hdm := Nat.div_add_mod x p
    have h3 : (x % p + 1) % p = 0 := by
      have := congrArg (· % p) hc
      simp only [Nat.mul_mod_right] at this
      rw [Nat.add_mod] at this
      rw [Nat.mod_eq_of_lt (show 1 < p by omega)] at this
      exact this
    rcases Nat.lt_or_ge (x % p + 1) p with h4 | h4
    · rw [Nat.mod_eq_of_lt h4] at h3; omega
    · omega
  · left
    have : x = 1 + p * c := by omega
    rw [this, Nat.add_mul_mod_self_left, Nat.mod_eq_of_lt (by omega)]

/-- a chain of squares that comes to 1 modulo a prime begins with 1, or is less 1 somewhere. -/
theorem Pri.chain {p y : Nat} (h : Pri p) : ∀ s, y ^ 2 ^ s % p = 1 → y % p = 1 ∨ ∃ r, r < s ∧ y ^ 2 ^ r % p = p - 1
  | 0, hy => by
    left
    simpa using hy
  | s + 1, hy => by
    have e : y ^ 2 ^ (s + 1) = y ^ 2 ^ s * y ^ 2 ^ s := by rw [← Nat.pow_add]; congr 1; rw [Nat.pow_succ]; omega
    rw [e] at hy
    rcases h.sqrt1 hy with h1 | h1
    · rcases h.chain s h1 with h3 | ⟨r, h3, h4⟩
      · exact Or.inl h3
      · exact Or.inr ⟨r, by omega, h4⟩
    · exact Or.inr ⟨s, by omega, h1⟩
/-- a prime passes the strong test. -/
theorem Pri.strong {p a d s : Nat} (h : Pri p) (ha : a % p ≠ 0) (hd : p - 1 = d * 2 ^ s) : a ^ d % p = 1 ∨ ∃ r, r < s ∧ (a ^ d) ^ 2 ^ r % p = p - 1 := by
  apply h.chain s
  rw [← Nat.pow_mul, ← hd]
  exact h.fermat1 ha

/-- the least divisor above 1 of a number is a prime. -/
theorem least_factor (n : Nat) (hn : 2 ≤ n) : ∃ q, Pri q ∧ q ∣ n ∧ ∀ d, 2 ≤ d → d ∣ n → q ≤ d := by
  suffices H : ∀ k q, q + k = n → 2 ≤ q → (∀ d, 2 ≤ d → d < q → ¬ d ∣ n) → ∃ q, 2 ≤ q ∧ q ∣ n ∧ ∀ d, 2 ≤ d → d ∣ n → q ≤ d by
    obtain ⟨q, h2, hq, hl⟩ := H (n - 2) 2 (by omega) (by omega) (fun d h1 h2 => by omega)
    refine ⟨q, ⟨h2, fun d hd => ?_⟩, hq, hl⟩
    have hpos : 0 < d := Nat.pos_of_dvd_of_pos hd (by omega)
    have hle := Nat.le_of_dvd (by omega) hd
    rcases Nat.lt_or_ge d 2 with h3 | h3
    · left; omega
    · right
      have := hl d h3 (Nat.dvd_trans hd hq)
      omega
  intro k
  induction k with
  | zero =>
    intro q hk h2 hno
    refine ⟨n, hn, Nat.dvd_refl n, fun d h1 hd => ?_⟩
    apply Nat.le_of_not_lt
    intro hlt
    exact hno d h1 (by omega) hd
  | succ k ih =>
    intro q hk h2 hno
    by_cases hq : q ∣ n
    · refine ⟨q, h2, hq, fun d h1 hd => ?_⟩
      apply Nat.le_of_not_lt
      intro hlt
      exact hno d h1 hlt hd
    · refine ih (q + 1) (by omega) (by omega) (fun d h1 h3 hd => ?_)
      rcases Nat.lt_or_ge d q with h4 | h4
      · exact hno d h1 h4 hd
      · have : d = q := by omega
        subst this
        exact hq hd
/-- no divisor up to the root: a prime. -/
theorem pri_of_root {n : Nat} (hn : 2 ≤ n) (h : ∀ d, 2 ≤ d → d * d ≤ n → ¬ d ∣ n) : Pri n := by
  obtain ⟨q, hq, hd, hl⟩ := least_factor n hn
  obtain ⟨c, rfl⟩ := hd
  have h2 := hq.1
  have hc : c = 1 := by
    apply Classical.byContradiction
    intro hne
    have hc0 : c ≠ 0 := fun h0 => by subst h0; simp at hn
    have h3 := hl c (by omega) ⟨q, Nat.mul_comm q c⟩
    exact h q h2 (Nat.mul_le_mul_left q h3) ⟨c, rfl⟩
  subst hc
  rw [Nat.mul_one]
  exact hq
theorem Pri.no_div {n d : Nat} (h : Pri n) (h2 : 2 ≤ d) (hd : d * d ≤ n) : ¬ d ∣ n := by
  intro hdv
  rcases h.2 d hdv with h1 | h1
  · omega
  · subst h1
    have : d * 2 ≤ d * d := Nat.mul_le_mul_left d h2
    have := h.1
    omega

/-- powers of less 1. -/
theorem neg_pow {q b : Nat} (hq : 2 < q) (hb : b % q = q - 1) : ∀ t, b ^ (2 * t + 1) % q = q - 1 := by
  have h1 : b * b % q = 1 := by
    rw [Nat.mul_mod, hb]
    obtain ⟨m, rfl⟩ : ∃ j, q = j + 2 := ⟨q - 2, by omega⟩
    have : (m + 2 - 1) * (m + 2 - 1) = 1 + (m + 2) * m := by
      show (m + 1) * (m + 1) = _
      simp only [Nat.add_mul, Nat.mul_add, Nat.one_mul, Nat.mul_one]
      omega
    rw [this, Nat.add_mul_mod_self_left, Nat.mod_eq_of_lt (by omega)]
  intro t
  induction t with
  | zero => simpa using hb
  | succ t ih =>
    have e : b ^ (2 * (t + 1) + 1) = b ^ (2 * t + 1) * (b * b) := by
      rw [show 2 * (t + 1) + 1 = (2 * t + 1) + 1 + 1 by omega, Nat.pow_succ, Nat.pow_succ, Nat.mul_assoc]
    rw [e, Nat.mul_mod, ih, h1, Nat.mul_one, Nat.mod_eq_of_lt (by omega)]
/-- a number above 0 is a power of 2 times an odd one. -/
theorem two_part (n : Nat) (hn : 0 < n) : ∃ j t, n = 2 ^ j * (2 * t + 1) := by
  induction n using Nat.strongRecOn with
  | ind n ih =>
    rcases Nat.mod_two_eq_zero_or_one n with h | h
    · obtain ⟨j, t, e⟩ := ih (n / 2) (by omega) (by omega)
      refine ⟨j + 1, t, ?_⟩
      have : n = 2 * (n / 2) := by omega
      rw [this, e, Nat.pow_succ, Nat.mul_comm (2 ^ j) 2, Nat.mul_assoc]
    · exact ⟨0, n / 2, by rw [Nat.pow_zero, Nat.one_mul]; omega⟩
/-- Proth. -/
theorem proth {c k a n : Nat} (hk : 1 ≤ k) (hc0 : c % 2 = 1) (hc : c < 2 ^ k) (hn : n = c * 2 ^ k + 1) (ha : a ^ ((n - 1) / 2) % n = n - 1) : Pri n := by
  have hk2 : 2 ≤ 2 ^ k := by
    have := Nat.pow_le_pow_right (n := 2) (by decide) hk
    simpa using this
  have hcp : 2 ^ k ≤ c * 2 ^ k := Nat.le_mul_of_pos_left _ (by omega)
  obtain ⟨q, hq, hd, hl⟩ := least_factor n (by omega)
  have hq2 := hq.1
  have hev : 2 ^ k = 2 * 2 ^ (k - 1) := by
    obtain ⟨j, rfl⟩ : ∃ j, k = j + 1 := ⟨k - 1, by omega⟩
    rw [Nat.pow_succ, Nat.add_sub_cancel, Nat.mul_comm]
  have hce : c * 2 ^ k = 2 * (c * 2 ^ (k - 1)) := by rw [hev]; exact Nat.mul_left_comm c 2 _
  have hodd : q ≠ 2 := fun h2 => by
    subst h2
    have := Nat.mod_eq_zero_of_dvd hd
    omega
  have hhalf : (n - 1) / 2 = c * 2 ^ (k - 1) := by omega
  -- modulo q the power leaves q - 1 too
  have hb : (a ^ c) ^ 2 ^ (k - 1) % q = q - 1 := by
    rw [← Nat.pow_mul, ← hhalf]
    obtain ⟨m, rfl⟩ := hd
    have h3 : a ^ ((q * m - 1) / 2) % (q * m) % q = (q * m - 1) % q := by rw [ha]
    rw [Nat.mod_mul_right_mod] at h3
    rw [h3]
    have hm0 : m ≠ 0 := fun h0 => by subst h0; omega
    obtain ⟨m', rfl⟩ : ∃ j, m = j + 1 := ⟨m - 1, by omega⟩
    have : q * (m' + 1) - 1 = (q - 1) + q * m' := by rw [Nat.mul_add]; omega
    rw [this, Nat.add_mul_mod_self_left, Nat.mod_eq_of_lt (by omega)]
  have ha0 : (a ^ c) % q ≠ 0 := by
    intro h0
    have h1 : (a ^ c) ^ 2 ^ (k - 1) % q = 0 := by
      rw [Nat.pow_mod, h0, Nat.zero_pow (Nat.pow_pos (by decide)), Nat.zero_mod]
    omega
  have hf := hq.fermat1 ha0
  obtain ⟨j, t, e⟩ := two_part (q - 1) (by omega)
  have hjk : k ≤ j := by
    apply Nat.le_of_not_lt
    intro hlt
    rw [e] at hf
    have h1 := neg_pow (by omega) hb t
    have h3 : ∀ b : Nat, (b ^ 2 ^ (k - 1)) ^ (2 * t + 1) = (b ^ (2 ^ j * (2 * t + 1))) ^ 2 ^ (k - 1 - j) := by
      intro b
      rw [← Nat.pow_mul, ← Nat.pow_mul]
      congr 1
      rw [show 2 ^ (k - 1) = 2 ^ j * 2 ^ (k - 1 - j) by rw [← Nat.pow_add]; congr 1; omega]
      rw [Nat.mul_assoc, Nat.mul_assoc, Nat.mul_comm (2 ^ (k - 1 - j))]
    rw [h3, Nat.pow_mod, hf, Nat.one_pow, Nat.mod_eq_of_lt (by omega)] at h1
    omega
  have hge : 2 ^ k ≤ q - 1 := by
    rw [e]
    exact Nat.le_trans (Nat.pow_le_pow_right (by decide) hjk) (Nat.le_mul_of_pos_right _ (by omega))
  apply pri_of_root (by omega)
  intro d h2 hdd hdn
  have h3 := hl d h2 hdn
  have h4 : (2 ^ k + 1) * (2 ^ k + 1) ≤ d * d := Nat.mul_le_mul (by omega) (by omega)
  have h5 : c * 2 ^ k ≤ 2 ^ k * 2 ^ k := Nat.mul_le_mul_right _ (by omega)
  simp only [Nat.add_mul, Nat.mul_add, Nat.one_mul, Nat.mul_one] at h4
  omega
end Nmb
namespace Nmb

/-- does n pass the strong test to base a, from the power e downwards? -/
def down (a n : Nat) : Nat → Nat → Bool
  | 0, _ => true
  | f + 1, e =>
    let x := a ^ e % n
    cond (Nat.beq x (n - 1)) true (cond (Nat.beq x 1) (cond (Nat.beq (e % 2) 1) true (down a n f (e / 2))) false)
/-- bases 2 and 3 tell that n is none. -/
def wit (n : Nat) : Bool := cond (down 2 n 20 (n - 1)) (cond (down 3 n 20 (n - 1)) false true) true
def upto (t : Nat → Bool) : Nat → Bool
  | 0 => true
  | f + 1 => cond (t f) (upto t f) false
theorem upto_said {t : Nat → Bool} : ∀ {n}, upto t n = true → ∀ i, i < n → t i = true
  | 0, _, i, hi => by omega
  | n + 1, h, i, hi => by
    unfold upto at h
    cases ht : t n with
    | false => rw [ht] at h; exact Bool.noConfusion h
    | true =>
      rw [ht] at h
      rcases Nat.lt_or_ge i n with h1 | h1
      · exact upto_said (n := n) h i h1
      · have : i = n := by omega
        subst this
        exact ht
/-- the odd primes up to 37, multiplied. -/
def P37 : Nat := 3710369067405
def cof (q i : Nat) : Bool := cond (Nat.beq (Nat.gcd (q + 2 * i) P37) 1) (wit (q * (q + 2 * i))) true
def row (j : Nat) : Bool := cond (Nat.beq (Nat.gcd (41 + 2 * j) P37) 1) (upto (cof (41 + 2 * j)) ((1002000 / (41 + 2 * j) - (41 + 2 * j)) / 2 + 1)) true
theorem rows : upto row 481 = true := by decide +kernel

theorem sq_neg {n y : Nat} (hn : 2 < n) (hy : y % n = n - 1) : y * y % n = 1 := by
  have h := neg_pow hn hy 0
  rw [Nat.mul_mod, hy]
  obtain ⟨m, rfl⟩ : ∃ j, n = j + 2 := ⟨n - 2, by omega⟩
  have : (m + 2 - 1) * (m + 2 - 1) = 1 + (m + 2) * m := by
    show (m + 1) * (m + 1) = _
    simp only [Nat.add_mul, Nat.mul_add, Nat.one_mul, Nat.mul_one]
    omega
  rw [this, Nat.add_mul_mod_self_left, Nat.mod_eq_of_lt (by omega)]
theorem twice (a d s : Nat) : a ^ (d * 2 ^ (s + 1)) = a ^ (d * 2 ^ s) * a ^ (d * 2 ^ s) := by
  rw [← Nat.pow_add]
  congr 1
  rw [Nat.pow_succ, ← Nat.mul_assoc]
  omega
theorem after_neg {n a d r : Nat} (hn : 2 < n) (hr : a ^ (d * 2 ^ r) % n = n - 1) : ∀ k, a ^ (d * 2 ^ (r + k + 1)) % n = 1
  | 0 => by rw [twice]; exact sq_neg hn hr
  | k + 1 => by
    rw [show r + (k + 1) + 1 = (r + k + 1) + 1 by omega, twice, Nat.mul_mod, after_neg hn hr k]
    exact Nat.mod_eq_of_lt (by omega)
theorem after_one {n a d : Nat} (hn : 2 < n) (hr : a ^ d % n = 1) : ∀ k, a ^ (d * 2 ^ k) % n = 1
  | 0 => by rw [Nat.pow_zero, Nat.mul_one]; exact hr
  | k + 1 => by
    rw [twice, Nat.mul_mod, after_one hn hr k]
    exact Nat.mod_eq_of_lt (by omega)
/-- what passes the strong test goes down. -/
theorem down_of {a n d : Nat} (hn : 2 < n) (hd : d % 2 = 1) : ∀ s, (a ^ d % n = 1 ∨ ∃ r, r ≤ s ∧ a ^ (d * 2 ^ r) % n = n - 1) → ∀ f, down a n f (d * 2 ^ s) = true
  | _, _, 0 => rfl
  | s, h, f + 1 => by
    show cond (Nat.beq (a ^ (d * 2 ^ s) % n) (n - 1)) true (cond (Nat.beq (a ^ (d * 2 ^ s) % n) 1) (cond (Nat.beq (d * 2 ^ s % 2) 1) true (down a n f (d * 2 ^ s / 2))) false) = true
    cases hb : Nat.beq (a ^ (d * 2 ^ s) % n) (n - 1) with
    | true => rfl
    | false =>
      have hne : a ^ (d * 2 ^ s) % n ≠ n - 1 := Nat.ne_of_beq_eq_false hb
      have h1 : a ^ (d * 2 ^ s) % n = 1 := by
        rcases h with h | ⟨r, hr, h⟩
        · exact after_one hn h s
        · have hlt : r < s := Nat.lt_of_le_of_ne hr (fun e => hne (e ▸ h))
          have := after_neg hn h (s - r - 1)
          rw [show r + (s - r - 1) + 1 = s by omega] at this
          exact this
      rw [h1]
      show cond (Nat.beq (d * 2 ^ s % 2) 1) true (down a n f (d * 2 ^ s / 2)) = true
      cases hc : Nat.beq (d * 2 ^ s % 2) 1 with
      | true => rfl
      | false =>
        cases s with
        | zero =>
          have := Nat.ne_of_beq_eq_false hc
          rw [Nat.pow_zero, Nat.mul_one] at this
          exact absurd hd this
        | succ s =>
          have e : d * 2 ^ (s + 1) / 2 = d * 2 ^ s := by
            rw [Nat.pow_succ, ← Nat.mul_assoc, Nat.mul_div_cancel _ (by decide)]
          show down a n f (d * 2 ^ (s + 1) / 2) = true
          rw [e]
          refine down_of hn hd s ?_ f
          rcases h with h | ⟨r, hr, h⟩
          · exact Or.inl h
          · refine Or.inr ⟨r, ?_, h⟩
            have : r ≠ s + 1 := fun e => hne (e ▸ h)
            omega
theorem low_odd : ∀ q, q < 41 → (2 ≤ q ∧ q % 2 = 1 ∧ Nat.gcd q P37 = 1) → False := by decide
theorem gcd_part {a b : Nat} (h : Nat.gcd (a * b) P37 = 1) : Nat.gcd a P37 = 1 :=
  Nat.Coprime.coprime_dvd_left ⟨b, rfl⟩ h
/-- no number up to 1002000 without a factor up to 37 passes to bases 2 and 3 but the primes. -/
theorem wit_of {n : Nat} (h2 : 2 ≤ n) (hn : n ≤ 1002000) (ho : n % 2 = 1) (hg : Nat.gcd n P37 = 1) (hp : ¬ Pri n) : wit n = true := by
  obtain ⟨q, hq, ⟨c, rfl⟩, hl⟩ := least_factor n h2
  have hq2 := hq.1
  have hc0 : c ≠ 0 := fun h0 => by subst h0; simp at h2
  have hc1 : c ≠ 1 := fun h0 => by subst h0; rw [Nat.mul_one] at hp; exact hp hq
  have hqc := hl c (by omega) ⟨q, Nat.mul_comm q c⟩
  have hoq : q % 2 = 1 := by
    rcases Nat.mod_two_eq_zero_or_one q with h | h
    · rw [Nat.mul_mod, h] at ho; simp at ho
    · exact h
  have hoc : c % 2 = 1 := by
    rcases Nat.mod_two_eq_zero_or_one c with h | h
    · rw [Nat.mul_mod, h] at ho; simp at ho
    · exact h
  have hgq := gcd_part hg
  have hgc : Nat.gcd c P37 = 1 := gcd_part (by rw [Nat.mul_comm]; exact hg)
  have h41 : 41 ≤ q := Nat.le_of_not_lt (fun hlt => low_odd q hlt ⟨hq2, hoq, hgq⟩)
  have h1k : q < 1002 := by
    apply Nat.lt_of_not_le
    intro hge
    have := Nat.mul_le_mul hge (Nat.le_trans hge hqc)
    omega
  have hr := upto_said rows ((q - 41) / 2) (by omega)
  have ej : 41 + 2 * ((q - 41) / 2) = q := by omega
  unfold row at hr
  rw [ej, hgq] at hr
  have hle : c ≤ 1002000 / q := (Nat.le_div_iff_mul_le (by omega)).2 (by rw [Nat.mul_comm]; exact hn)
  have hi := upto_said (t := cof q) (n := (1002000 / q - q) / 2 + 1) hr ((c - q) / 2) (by omega)
  have ei : q + 2 * ((c - q) / 2) = c := by omega
  unfold cof at hi
  rw [ei, hgc] at hi
  exact hi
/-- a number up to 1002000 without a factor up to 37 that passes to bases 2 and 3 is a prime. -/
theorem pri_of_pass {n d s : Nat} (h2 : 2 < n) (hn : n ≤ 1002000) (ho : n % 2 = 1) (hg : Nat.gcd n P37 = 1) (hd : d % 2 = 1) (hs : n - 1 = d * 2 ^ s)
    (p2 : 2 ^ d % n = 1 ∨ ∃ r, r ≤ s ∧ 2 ^ (d * 2 ^ r) % n = n - 1) (p3 : 3 ^ d % n = 1 ∨ ∃ r, r ≤ s ∧ 3 ^ (d * 2 ^ r) % n = n - 1) : Pri n := by
  apply Classical.byContradiction
  intro hp
  have hw := wit_of (by omega) hn ho hg hp
  unfold wit at hw
  rw [hs, down_of h2 hd s p2 20, down_of h2 hd s p3 20] at hw
  exact Bool.noConfusion hw
end Nmb
namespace Nmb

theorem Pri.euclidI {p : Nat} {a b : Int} (h : Pri p) (hd : (p : Int) ∣ a * b) : (p : Int) ∣ a ∨ (p : Int) ∣ b := by
  have h1 := Int.natAbs_dvd_natAbs.2 hd
  rw [Int.natAbs_mul, Int.natAbs_natCast] at h1
  rcases h.euclid h1 with h2 | h2
  · left; apply Int.natAbs_dvd_natAbs.1; rw [Int.natAbs_natCast]; exact h2
  · right; apply Int.natAbs_dvd_natAbs.1; rw [Int.natAbs_natCast]; exact h2

/-- the value of a polynomial whose greatest coefficient, which is 1, isn't written. -/
def evm (x : Int) : List Int → Int
  | [] => 1
  | c :: cs => c + x * evm x cs
/-- a polynomial and a times one of a degree less. -/
def pad (a : Int) : List Int → List Int → List Int
  | [], _ => []
  | d :: _, [] => [d + a]
  | d :: ds, r :: rs => (d + a * r) :: pad a ds rs
theorem pad_len (a : Int) : ∀ ds rs, rs.length + 1 = ds.length → (pad a ds rs).length = ds.length
  | [], _, h => by simp at h
  | [_], [], _ => rfl
  | _ :: _ :: _, [], h => by simp at h
  | d :: ds, r :: rs, h => by
    simp only [List.length_cons] at h
    simp only [pad, List.length_cons]
    rw [pad_len a ds rs (by omega)]
theorem pad_ev (x a : Int) : ∀ ds rs, rs.length + 1 = ds.length → evm x (pad a ds rs) = evm x ds + a * evm x rs
  | [], _, h => by simp at h
  | [d], [], _ => by simp only [pad, evm]; omega
  | _ :: _ :: _, [], h => by simp at h
  | d :: ds, r :: rs, h => by
    simp only [List.length_cons] at h
    simp only [pad, evm]
    rw [pad_ev x a ds rs (by omega)]
    simp only [Int.mul_add, Int.mul_left_comm x a]
    omega
/-- the quotient by what is 0 at a. -/
def qt (a : Int) : List Int → List Int
  | [] => []
  | [_] => []
  | _ :: d :: ds => pad a (d :: ds) (qt a (d :: ds))
theorem qt_len (a : Int) : ∀ cs, (qt a cs).length = cs.length - 1
  | [] => rfl
  | [_] => rfl
  | _ :: d :: ds => by
    have h := qt_len a (d :: ds)
    simp only [qt]
    rw [pad_len a _ _ (by rw [h]; simp)]
    simp
theorem qt_ev (x a : Int) : ∀ cs, cs ≠ [] → evm x cs - evm a cs = (x - a) * evm x (qt a cs)
  | [], h => absurd rfl h
  | [_], _ => by simp only [evm, qt]; omega
  | c :: d :: ds, _ => by
    have h := qt_ev x a (d :: ds) (by simp)
    have e1 : ∀ y, evm y (c :: d :: ds) = c + y * evm y (d :: ds) := fun _ => rfl
    rw [e1, e1]
    have e2 : qt a (c :: d :: ds) = pad a (d :: ds) (qt a (d :: ds)) := rfl
    rw [e2, pad_ev x a _ _ (by rw [qt_len]; simp), Int.mul_add, Int.mul_left_comm (x - a) a, ← h, Int.sub_mul, Int.mul_sub]
    omega
/-- no more roots than the degree. -/
theorem Pri.roots {p : Nat} (h : Pri p) : ∀ (n : Nat) (cs : List Int) (xs : List Int), cs.length = n → xs.Pairwise (fun a b => ¬ (p : Int) ∣ b - a) → (∀ x, x ∈ xs → (p : Int) ∣ evm x cs) → xs.length ≤ n
  | _, _, [], _, _, _ => Nat.zero_le _
  | 0, [], a :: ys, _, _, hr => by
    have h1 := hr a (by simp)
    have h2 := h.1
    have h3 : (p : Int) ∣ 1 := h1
    have := Int.le_of_dvd (by decide) h3
    omega
  | n + 1, cs, a :: ys, hl, hp, hr => by
    have hne : cs ≠ [] := fun e => by subst e; simp at hl
    rw [List.pairwise_cons] at hp
    have hle : ys.length ≤ n := by
      refine h.roots n (qt a cs) ys (by rw [qt_len, hl]; rfl) hp.2 (fun y hy => ?_)
      have h1 := hr y (by simp [hy])
      have h2 := hr a (by simp)
      have h3 : (p : Int) ∣ (y - a) * evm y (qt a cs) := by
        rw [← qt_ev y a cs hne]
        exact Int.dvd_sub h1 h2
      rcases h.euclidI h3 with h4 | h4
      · exact absurd h4 (hp.1 y hy)
      · exact h4
    simp only [List.length_cons]
    omega
theorem evm_pow (x : Int) : ∀ m, evm x (List.replicate m 0) = x ^ m
  | 0 => by rw [Int.pow_zero]; rfl
  | m + 1 => by
    rw [List.replicate_succ]
    simp only [evm]
    rw [evm_pow x m, Int.pow_succ, Int.mul_comm]
    omega
/-- a power of a number modulo an odd prime is less 1. -/
theorem Pri.nonsquare {p : Nat} (h : Pri p) (ho : p % 2 = 1) : ∃ x, 1 ≤ x ∧ x < p ∧ x ^ ((p - 1) / 2) % p = p - 1 := by
  have h2 := h.1
  obtain ⟨m, hm⟩ : ∃ m, (p - 1) / 2 = m + 1 := ⟨(p - 1) / 2 - 1, by omega⟩
  apply Classical.byContradiction
  intro hno
  have hall : ∀ x, 1 ≤ x → x < p → x ^ (m + 1) % p = 1 := by
    intro x h1 hx
    have hf := h.fermat1 (a := x) (by rw [Nat.mod_eq_of_lt hx]; omega)
    have e : x ^ (p - 1) = x ^ (m + 1) * x ^ (m + 1) := by rw [← Nat.pow_add]; congr 1; omega
    rw [e] at hf
    rcases h.sqrt1 hf with h3 | h3
    · exact h3
    · exact absurd ⟨x, h1, hx, by rw [hm]; exact h3⟩ hno
  have hr := h.roots (m + 1) ((-1) :: List.replicate m 0) ((List.range (p - 1)).map (fun i => ((i + 1 : Nat) : Int))) (by simp) ?_ ?_
  · simp at hr
    omega
  · rw [List.pairwise_map]
    refine List.Pairwise.imp_of_mem ?_ (List.pairwise_lt_range (n := p - 1))
    intro a b ha hb hlt hd
    rw [List.mem_range] at ha hb
    have := Int.le_of_dvd (by omega) hd
    omega
  · intro x hx
    rw [List.mem_map] at hx
    obtain ⟨i, hi, rfl⟩ := hx
    rw [List.mem_range] at hi
    have h3 := hall (i + 1) (by omega) (by omega)
    have e : evm ((i + 1 : Nat) : Int) ((-1) :: List.replicate m 0) = (((i + 1) ^ (m + 1) : Nat) : Int) - 1 := by
      simp only [evm]
      rw [evm_pow, Int.natCast_pow, Int.pow_succ, Int.mul_comm]
      omega
    rw [e]
    have hdm := Nat.div_add_mod ((i + 1) ^ (m + 1)) p
    rw [h3] at hdm
    refine ⟨(((i + 1) ^ (m + 1) / p : Nat) : Int), ?_⟩
    have hc := congrArg (fun (z : Nat) => (z : Int)) hdm
    simp only [Int.natCast_add, Int.natCast_mul] at hc
    rw [← hc]
    simp

/-- where a power of 2's power is less 1, the next power of 2 goes into p less 1. -/
theorem Pri.deep {q b k : Nat} (h : Pri q) (hq : q ≠ 2) (hb : b ^ 2 ^ k % q = q - 1) : 2 ^ (k + 1) ∣ q - 1 := by
  have hq2 := h.1
  have ha0 : b % q ≠ 0 := by
    intro h0
    have h1 : b ^ 2 ^ k % q = 0 := by
      rw [Nat.pow_mod, h0, Nat.zero_pow (Nat.pow_pos (by decide)), Nat.zero_mod]
    omega
  have hf := h.fermat1 ha0
  obtain ⟨j, t, e⟩ := two_part (q - 1) (by omega)
  have hjk : k + 1 ≤ j := by
    apply Nat.le_of_not_lt
    intro hlt
    rw [e] at hf
    have h1 := neg_pow (by omega) hb t
    have h3 : (b ^ 2 ^ k) ^ (2 * t + 1) = (b ^ (2 ^ j * (2 * t + 1))) ^ 2 ^ (k - j) := by
      rw [← Nat.pow_mul, ← Nat.pow_mul]
      congr 1
      rw [show 2 ^ k = 2 ^ j * 2 ^ (k - j) by rw [← Nat.pow_add]; congr 1; omega]
      rw [Nat.mul_assoc, Nat.mul_assoc, Nat.mul_comm (2 ^ (k - j))]
    rw [h3, Nat.pow_mod, hf, Nat.one_pow, Nat.mod_eq_of_lt (by omega)] at h1
    omega
  rw [e]
  exact Nat.dvd_trans (Nat.pow_dvd_pow 2 hjk) (Nat.dvd_mul_right _ _)
theorem two_twice (x k : Nat) : x ^ 2 ^ (k + 1) = x ^ 2 ^ k * x ^ 2 ^ k := by
  rw [← Nat.pow_add]; congr 1; rw [Nat.pow_succ]; omega
theorem one_on {q x : Nat} (hq : 1 < q) {k : Nat} (h : x ^ 2 ^ k % q = 1) : ∀ j, x ^ 2 ^ (k + j) % q = 1
  | 0 => h
  | j + 1 => by
    rw [show k + (j + 1) = (k + j) + 1 by omega, two_twice, Nat.mul_mod, one_on hq h j]
    exact Nat.mod_eq_of_lt hq
/-- the first power of 2 whose power is 1 goes into p less 1. -/
theorem Pri.order_le {q x k : Nat} (h : Pri q) (hq : q ≠ 2) (h1 : x ^ 2 ^ (k + 1) % q = 1) (h0 : x ^ 2 ^ k % q ≠ 1) : 2 ^ (k + 1) ∣ q - 1 := by
  rw [two_twice] at h1
  rcases h.sqrt1 h1 with h2 | h2
  · exact absurd h2 h0
  · exact h.deep hq h2
/-- there is a number whose power has the order 2 to the kth, where that goes into p less 1. -/
theorem Pri.root {p k : Nat} (h : Pri p) (ho : p % 2 = 1) (hk : 2 ^ k ∣ p - 1) : ∃ x, 1 ≤ x ∧ x < p ∧ (x ^ ((p - 1) / 2 ^ k)) ^ 2 ^ k % p = 1 ∧ ∀ i, i < k → (x ^ ((p - 1) / 2 ^ k)) ^ 2 ^ i % p ≠ 1 := by
  have h2 := h.1
  obtain ⟨x, h1, hx, hn⟩ := h.nonsquare ho
  refine ⟨x, h1, hx, ?_, ?_⟩
  · rw [← Nat.pow_mul, Nat.div_mul_cancel hk]
    exact h.fermat1 (by rw [Nat.mod_eq_of_lt hx]; omega)
  · intro i hi hc
    obtain ⟨j, rfl⟩ : ∃ j, k = i + j + 1 := ⟨k - i - 1, by omega⟩
    have h3 := one_on (by omega) hc j
    have e : (x ^ ((p - 1) / 2 ^ (i + j + 1))) ^ 2 ^ (i + j) = x ^ ((p - 1) / 2) := by
      rw [← Nat.pow_mul]
      congr 1
      obtain ⟨c, hc⟩ := hk
      rw [hc, Nat.mul_div_cancel_left _ (Nat.pow_pos (by decide)), Nat.pow_succ, Nat.mul_comm (2 ^ (i + j)) 2, Nat.mul_assoc, Nat.mul_div_cancel_left _ (by decide), Nat.mul_comm]
    rw [e, hn] at h3
    omega
end Nmb
namespace Nmb

/-- a to the eth modulo n, by squares; e has at most f bits. -/
def pmd (n : Nat) : Nat → Nat → Nat → Nat
  | 0, _, _ => 1 % n
  | f + 1, a, e => if e % 2 = 1 then a * pmd n f (a * a % n) (e / 2) % n else pmd n f (a * a % n) (e / 2)
theorem pmd_said (n : Nat) : ∀ f a e, e < 2 ^ f → pmd n f a e = a ^ e % n
  | 0, a, e, h => by
    obtain rfl : e = 0 := by rw [Nat.pow_zero] at h; omega
    rw [Nat.pow_zero]
    rfl
  | f + 1, a, e, h => by
    rw [Nat.pow_succ] at h
    have ih := pmd_said n f (a * a % n) (e / 2) (by omega)
    have h1 : (a * a % n) ^ (e / 2) % n = a ^ (2 * (e / 2)) % n := by
      rw [← Nat.pow_mod, Nat.pow_mul, Nat.pow_two]
    show (if e % 2 = 1 then a * pmd n f (a * a % n) (e / 2) % n else pmd n f (a * a % n) (e / 2)) = a ^ e % n
    rw [ih, h1]
    by_cases ho : e % 2 = 1
    · rw [if_pos ho, Nat.mul_mod, Nat.mod_mod, ← Nat.mul_mod, ← Nat.pow_succ']
      congr 2
      omega
    · rw [if_neg ho]
      congr 2
      omega
theorem pow_gcd {r b : Nat} (hr : 1 < r) (m n : Nat) : b ^ m % r = 1 → b ^ n % r = 1 → b ^ Nat.gcd m n % r = 1 := by
  induction m, n using Nat.gcd.induction with
  | H0 n => intro _ h; rwa [Nat.gcd_zero_left]
  | H1 m n hm ih =>
    intro h1 h2
    rw [Nat.gcd_rec]
    refine ih ?_ h1
    have e : b ^ n = (b ^ m) ^ (n / m) * b ^ (n % m) := by rw [← Nat.pow_mul, ← Nat.pow_add, Nat.div_add_mod]
    rw [e, Nat.mul_mod, Nat.pow_mod, h1, Nat.one_pow, Nat.mod_eq_of_lt hr, Nat.one_mul, Nat.mod_mod] at h2
    exact h2
/-- a prime q of n - 1 divides r - 1 of each prime r of n. -/
theorem pock {n q k a r : Nat} (hq : Pri q) (hn : n = q * k + 1) (h1 : a ^ (q * k) % n = 1) (h2 : Nat.gcd (a ^ k % n + (n - 1)) n = 1) (hr : Pri r) (hd : r ∣ n) : q ∣ r - 1 := by
  have r2 := hr.1
  have n0 : 0 < n := by omega
  have a1 : a ^ (q * k) % r = 1 := by
    rw [← Nat.mod_mod_of_dvd _ hd, h1, Nat.mod_eq_of_lt (by omega)]
  have qk : q * k ≠ 0 := by
    intro e
    rw [e, Nat.pow_zero] at a1
    rw [e] at hn
    have := Nat.le_of_dvd n0 hd
    omega
  have ha : a ^ k % r ≠ 0 := fun e => by
    have e2 : a ^ (q * k) % r = 0 := by
      have q2 := hq.1
      rw [Nat.mul_comm q k, Nat.pow_mul, Nat.pow_mod, e, Nat.zero_pow (by omega), Nat.zero_mod]
    omega
  have b1 : (a ^ k) ^ q % r = 1 := by rw [← Nat.pow_mul, Nat.mul_comm]; exact a1
  have b2 : (a ^ k) ^ (r - 1) % r = 1 := hr.fermat1 ha
  have g := pow_gcd (by omega) q (r - 1) b1 b2
  rcases hq.2 (Nat.gcd q (r - 1)) (Nat.gcd_dvd_left _ _) with e | e
  · exfalso
    rw [e, Nat.pow_one] at g
    have d1 : r ∣ a ^ k % n + (n - 1) := by
      apply Nat.dvd_of_mod_eq_zero
      rw [Nat.add_mod, Nat.mod_mod_of_dvd _ hd, g]
      obtain ⟨c, hc⟩ := hd
      have c0 : c ≠ 0 := by rintro rfl; omega
      obtain ⟨c, rfl⟩ : ∃ t, c = t + 1 := ⟨c - 1, by omega⟩
      have : n - 1 = r * c + (r - 1) := by rw [hc, Nat.mul_add]; omega
      rw [this, Nat.mul_add_mod, Nat.mod_eq_of_lt (by omega : r - 1 < r), show 1 + (r - 1) = r by omega, Nat.mod_self]
    have d2 := Nat.dvd_gcd d1 hd
    rw [h2] at d2
    have := Nat.le_of_dvd (by omega) d2
    omega
  · exact e ▸ Nat.gcd_dvd_right q (r - 1)
/-- what divides r - 1 of each prime r is great enough. -/
theorem pock_all {n F : Nat} (hn : 2 ≤ n) (hF : n ≤ F * F) (h : ∀ r, Pri r → r ∣ n → F ∣ r - 1) : Pri n := by
  refine pri_of_root hn fun d h2 hdd hd => ?_
  obtain ⟨r, hr, hrd, _⟩ := least_factor d h2
  have h3 := h r hr (Nat.dvd_trans hrd hd)
  have r2 := hr.1
  have h4 := Nat.le_of_dvd (by omega) h3
  have h5 := Nat.le_of_dvd (by omega) hrd
  have h6 : F * F < d * d := Nat.mul_lt_mul_of_lt_of_le (by omega) (by omega) (by omega)
  omega
/-- no odd number from d on, of so many, 2 to the kth, divides n. -/
def nod (n : Nat) : Nat → Nat → Bool
  | 0, d => n % d != 0
  | k + 1, d => nod n k d && nod n k (d + 2 * 2 ^ k)
theorem nod_said (n : Nat) : ∀ k d, nod n k d = true → ∀ i, i < 2 ^ k → ¬ (d + 2 * i) ∣ n
  | 0, d, h, i, hi => by
    obtain rfl : i = 0 := by rw [Nat.pow_zero] at hi; omega
    intro hd
    have := Nat.mod_eq_zero_of_dvd hd
    rw [Nat.mul_zero, Nat.add_zero] at this
    have h' : (n % d != 0) = true := h
    rw [this] at h'
    cases h'
  | k + 1, d, h, i, hi => by
    have h' : (nod n k d && nod n k (d + 2 * 2 ^ k)) = true := h
    rw [Bool.and_eq_true] at h'
    rw [Nat.pow_succ] at hi
    by_cases hl : i < 2 ^ k
    · exact nod_said n k d h'.1 i hl
    · have := nod_said n k _ h'.2 (i - 2 ^ k) (by omega)
      rwa [show d + 2 * 2 ^ k + 2 * (i - 2 ^ k) = d + 2 * i by omega] at this
theorem pri_nod {n k : Nat} (h2 : 2 < n) (ho : n % 2 = 1) (h : nod n k 3 = true) (hk : n < (3 + 2 * 2 ^ k) * (3 + 2 * 2 ^ k)) : Pri n := by
  refine pri_of_root (by omega) fun d d2 hdd hd => ?_
  have od : d % 2 = 1 := by
    rcases Nat.mod_two_eq_zero_or_one d with e | e
    · exfalso
      obtain ⟨c, rfl⟩ := hd
      rw [Nat.mul_mod, e, Nat.zero_mul] at ho
      simp at ho
    · exact e
  have dl : d < 3 + 2 * 2 ^ k := by
    apply Nat.lt_of_not_le
    intro hle
    have := Nat.mul_le_mul hle hle
    omega
  have := nod_said n k 3 h ((d - 3) / 2) (by omega)
  rw [show 3 + 2 * ((d - 3) / 2) = d by omega] at this
  exact this hd
end Nmb
namespace Nmb

theorem pock_by {n q k a r : Nat} (f : Nat) (hf : q * k < 2 ^ f) (hf2 : k < 2 ^ f) (hq : Pri q) (hn : n = q * k + 1) (h1 : pmd n f a (q * k) = 1) (h2 : Nat.gcd (pmd n f a k + (n - 1)) n = 1) (hr : Pri r) (hd : r ∣ n) : q ∣ r - 1 := by
  rw [pmd_said n f a _ hf] at h1
  rw [pmd_said n f a _ hf2] at h2
  exact pock hq hn h1 h2 hr hd
theorem pri604916651 : Pri 604916651 := pri_nod (k := 14) (by decide) (by decide) (by decide +kernel) (by decide)
theorem pri261228707 : Pri 261228707 := pri_nod (k := 13) (by decide) (by decide) (by decide +kernel) (by decide)
theorem pri120494424961 : Pri 120494424961 := pri_nod (k := 18) (by decide) (by decide) (by decide +kernel) (by decide)
theorem pri127479609017 : Pri 127479609017 := pock_all (F := 261228707) (by decide) (by decide) fun _ hr hd => pock_by (k := 488) (a := 2) 40 (by decide) (by decide) pri261228707 (by decide) (by decide +kernel) (by decide +kernel) hr hd
theorem priP2 : Pri 9223372036818075649 := pock_all (F := 127479609017) (by decide) (by decide) fun _ hr hd => pock_by (k := 72351744) (a := 2) 63 (by decide) (by decide) pri127479609017 (by decide) (by decide +kernel) (by decide +kernel) hr hd
theorem priP3 : Pri 9223372036797104129 := pock_all (F := 120494424961) (by decide) (by decide) fun _ hr hd => pock_by (k := 76546048) (a := 2) 63 (by decide) (by decide) pri120494424961 (by decide) (by decide +kernel) (by decide +kernel) hr hd
theorem half_neg {n r a e : Nat} (hr : Pri r) (hd : r ∣ n) (hn : 2 ≤ n) (h : a ^ e % n = n - 1) : a ^ e % r = r - 1 := by
  have r2 := hr.1
  rw [← Nat.mod_mod_of_dvd _ hd, h]
  obtain ⟨c, hc⟩ := hd
  have c0 : c ≠ 0 := by rintro rfl; omega
  obtain ⟨c, rfl⟩ : ∃ t, c = t + 1 := ⟨c - 1, by omega⟩
  have : n - 1 = r * c + (r - 1) := by rw [hc, Nat.mul_add]; omega
  rw [this, Nat.mul_add_mod, Nat.mod_eq_of_lt (by omega : r - 1 < r)]
theorem deep_by {n r a e t : Nat} (f : Nat) (hf : e * 2 ^ t < 2 ^ f) (h : pmd n f a (e * 2 ^ t) = n - 1) (hn : 2 ≤ n) (ho : n % 2 = 1) (hr : Pri r) (hd : r ∣ n) : 2 ^ (t + 1) ∣ r - 1 := by
  rw [pmd_said n f a _ hf, Nat.pow_mul] at h
  have r2 : r ≠ 2 := by
    rintro rfl
    have := Nat.mod_eq_zero_of_dvd hd
    omega
  exact hr.deep r2 (half_neg hr hd hn h)
theorem priP1 : Pri 9223372036836950017 := by
  refine pock_all (F := 604916651 * 2 ^ 20) (by decide) (by decide) fun r hr hd => ?_
  have h1 := pock_by (k := 15247343616) (a := 2) 63 (by decide) (by decide) pri604916651 (by decide) (by decide +kernel) (by decide +kernel) hr hd
  have h2 := deep_by (a := 5) (e := 8796093022191) (t := 19) 63 (by decide) (by decide +kernel) (by decide) (by decide) hr hd
  exact Nat.Coprime.mul_dvd_of_dvd_of_dvd (by decide +kernel) h1 h2
end Nmb
namespace Nmb

theorem pri456065899a : Pri 456065899 := pri_nod (k := 14) (by decide) (by decide) (by decide +kernel) (by decide)
theorem pri17a : Pri 17 := pri_nod (k := 2) (by decide) (by decide) (by decide +kernel) (by decide)
theorem pri61a : Pri 61 := pri_nod (k := 3) (by decide) (by decide) (by decide +kernel) (by decide)
theorem pri151a : Pri 151 := pri_nod (k := 3) (by decide) (by decide) (by decide +kernel) (by decide)
theorem pri331a : Pri 331 := pri_nod (k := 4) (by decide) (by decide) (by decide +kernel) (by decide)
theorem pri1321a : Pri 1321 := pri_nod (k := 5) (by decide) (by decide) (by decide +kernel) (by decide)
theorem priQ1 : Pri 9223372036854775783 := by
  refine pock_all (F := 456065899 * 17) (by decide) (by decide) fun r hr hd => ?_
  exact Nat.Coprime.mul_dvd_of_dvd_of_dvd (by decide +kernel) (pock_by (k := 20223770418) (a := 2) 63 (by decide) (by decide) pri456065899a (by decide) (by decide +kernel) (by decide +kernel) hr hd) (pock_by (k := 542551296285575046) (a := 2) 63 (by decide) (by decide) pri17a (by decide) (by decide +kernel) (by decide +kernel) hr hd)
theorem priQ2 : Pri 2305843009213693951 := by
  refine pock_all (F := 61 * 151 * 331 * 1321) (by decide) (by decide) fun r hr hd => ?_
  have h0 := pock_by (k := 37800705069076950) (a := 2) 61 (by decide) (by decide) pri61a (by decide) (by decide +kernel) (by decide +kernel) hr hd
  have h1 := pock_by (k := 15270483504726450) (a := 3) 61 (by decide) (by decide) pri151a (by decide) (by decide +kernel) (by decide +kernel) hr hd
  have h2 := pock_by (k := 6966293079195450) (a := 3) 61 (by decide) (by decide) pri331a (by decide) (by decide +kernel) (by decide +kernel) hr hd
  have h3 := pock_by (k := 1745528394559950) (a := 3) 61 (by decide) (by decide) pri1321a (by decide) (by decide +kernel) (by decide +kernel) hr hd
  exact Nat.Coprime.mul_dvd_of_dvd_of_dvd (by decide +kernel) (Nat.Coprime.mul_dvd_of_dvd_of_dvd (by decide +kernel) (Nat.Coprime.mul_dvd_of_dvd_of_dvd (by decide +kernel) h0 h1) h2) h3
end Nmb
namespace Nmb

/-- two numbers leave the same, divided by p. -/
def Cg (p : Nat) (a b : Int) : Prop := a % p = b % p
theorem Cg.rfl {p : Nat} {a : Int} : Cg p a a := Eq.refl _
theorem Cg.of_eq {p : Nat} {a b : Int} (h : a = b) : Cg p a b := by rw [h]; exact Cg.rfl
theorem Cg.symm {p : Nat} {a b : Int} (h : Cg p a b) : Cg p b a := Eq.symm h
theorem Cg.trans {p : Nat} {a b c : Int} (h : Cg p a b) (h' : Cg p b c) : Cg p a c := Eq.trans h h'
theorem Cg.add {p : Nat} {a b c d : Int} (h : Cg p a b) (h' : Cg p c d) : Cg p (a + c) (b + d) := by
  unfold Cg at *
  rw [Int.add_emod, h, h', ← Int.add_emod]
theorem Cg.sub {p : Nat} {a b c d : Int} (h : Cg p a b) (h' : Cg p c d) : Cg p (a - c) (b - d) := by
  unfold Cg at *
  rw [Int.sub_emod, h, h', ← Int.sub_emod]
theorem Cg.mul {p : Nat} {a b c d : Int} (h : Cg p a b) (h' : Cg p c d) : Cg p (a * c) (b * d) := by
  unfold Cg at *
  rw [Int.mul_emod, h, h', ← Int.mul_emod]
theorem Cg.pow {p : Nat} {a b : Int} (h : Cg p a b) : ∀ n : Nat, Cg p (a ^ n) (b ^ n)
  | 0 => Cg.of_eq (by rw [Int.pow_zero, Int.pow_zero])
  | n + 1 => by rw [Int.pow_succ, Int.pow_succ]; exact (Cg.pow h n).mul h
theorem Cg.mod {p : Nat} {a : Int} : Cg p (a % p) a := Int.emod_emod_of_dvd a (Int.dvd_refl _)
theorem Cg.dvd {p : Nat} {a b : Int} : Cg p a b ↔ (p : Int) ∣ a - b := Int.emod_eq_emod_iff_emod_sub_eq_zero.trans ⟨Int.dvd_of_emod_eq_zero, Int.emod_eq_zero_of_dvd⟩
theorem Cg.nat {p : Nat} {a b : Nat} : Cg p a b ↔ a % p = b % p := by
  unfold Cg
  rw [← Int.natCast_emod, ← Int.natCast_emod]
  omega
theorem Pri.cancel {p : Nat} (h : Pri p) {a b c : Int} (hc : ¬ Cg p c 0) (he : Cg p (a * c) (b * c)) : Cg p a b := by
  rw [Cg.dvd] at *
  rw [← Int.sub_mul] at he
  rcases h.euclidI he with h1 | h1
  · exact h1
  · rw [Int.sub_zero] at hc
    exact absurd h1 hc

/-- the sum of the first n. -/
def sm (f : Nat → Int) : Nat → Int
  | 0 => 0
  | n + 1 => sm f n + f n
theorem sm_succ (f : Nat → Int) (n : Nat) : sm f (n + 1) = sm f n + f n := rfl
theorem sm_eq {f g : Nat → Int} : ∀ n, (∀ i, i < n → f i = g i) → sm f n = sm g n
  | 0, _ => rfl
  | n + 1, h => by rw [sm_succ, sm_succ, sm_eq n (fun i hi => h i (by omega)), h n (by omega)]
theorem sm_cg {p : Nat} {f g : Nat → Int} : ∀ n, (∀ i, i < n → Cg p (f i) (g i)) → Cg p (sm f n) (sm g n)
  | 0, _ => Cg.rfl
  | n + 1, h => (sm_cg n (fun i hi => h i (by omega))).add (h n (by omega))
theorem sm_zero (n : Nat) : sm (fun _ => 0) n = 0 := by
  induction n with
  | zero => rfl
  | succ n h => rw [sm_succ, h]; rfl
theorem sm_add (f g : Nat → Int) (n : Nat) : sm (fun i => f i + g i) n = sm f n + sm g n := by
  induction n with
  | zero => rfl
  | succ n h => rw [sm_succ, sm_succ, sm_succ, h]; omega
theorem sm_sub (f g : Nat → Int) (n : Nat) : sm (fun i => f i - g i) n = sm f n - sm g n := by
  induction n with
  | zero => rfl
  | succ n h => rw [sm_succ, sm_succ, sm_succ, h]; omega
theorem sm_mul (f : Nat → Int) (c : Int) (n : Nat) : sm (fun i => c * f i) n = c * sm f n := by
  induction n with
  | zero => exact (Int.mul_zero c).symm
  | succ n h => rw [sm_succ, sm_succ, h, Int.mul_add]
theorem sm_mulr (f : Nat → Int) (c : Int) (n : Nat) : sm (fun i => f i * c) n = sm f n * c := by
  rw [Int.mul_comm (sm f n) c, ← sm_mul]
  exact sm_eq n fun i _ => Int.mul_comm _ _
theorem sm_swap (f : Nat → Nat → Int) (n m : Nat) : sm (fun i => sm (fun j => f i j) m) n = sm (fun j => sm (fun i => f i j) n) m := by
  induction n with
  | zero => exact (sm_zero m).symm
  | succ n h => rw [sm_succ, h, ← sm_add]; rfl
theorem sm_app (f : Nat → Int) (m n : Nat) : sm f (m + n) = sm f m + sm (fun i => f (m + i)) n := by
  induction n with
  | zero => exact (Int.add_zero _).symm
  | succ n h => rw [show m + (n + 1) = (m + n) + 1 from rfl, sm_succ, sm_succ, h]; omega
theorem sm_two (f : Nat → Int) (n : Nat) : sm f (2 * n) = sm (fun i => f (2 * i)) n + sm (fun i => f (2 * i + 1)) n := by
  induction n with
  | zero => rfl
  | succ n h => rw [show 2 * (n + 1) = (2 * n + 1) + 1 by omega, sm_succ, sm_succ, sm_succ, sm_succ, h]; omega
theorem sm_one (f : Nat → Int) (c : Nat) : ∀ n, c < n → sm (fun m => if c = m then f m else 0) n = f c
  | 0, h => absurd h (by omega)
  | n + 1, h => by
    rw [sm_succ]
    by_cases e : c = n
    · rw [sm_eq (g := fun _ => 0) n (fun i hi => if_neg (by omega)), sm_zero, if_pos e, e, Int.zero_add]
    · rw [sm_one f c n (by omega), if_neg e, Int.add_zero]
theorem sm_none (f : Nat → Int) (c : Nat) (n : Nat) (h : n ≤ c) : sm (fun m => if c = m then f m else 0) n = 0 := by
  rw [sm_eq (g := fun _ => 0) n (fun i hi => if_neg (by omega)), sm_zero]
theorem sm_const (c : Int) (n : Nat) : sm (fun _ => c) n = n * c := by
  induction n with
  | zero => exact (Int.zero_mul c).symm
  | succ n h => rw [sm_succ, h, Int.natCast_succ, Int.add_mul, Int.one_mul]
end Nmb
namespace Nmb

/-- the value of the polynomial a of n coefficients at w to the jth. -/
def dft (a : Nat → Int) (w : Int) (n j : Nat) : Int := sm (fun i => a i * w ^ (i * j)) n
/-- the order of w is 2 to the kth, and if that is not 1, half of it leads to -1. -/
structure Rt (p : Nat) (w : Int) (k : Nat) : Prop where
  pri : Pri p
  one : Cg p (w ^ 2 ^ k) 1
  half : 0 < k → Cg p (w ^ 2 ^ (k - 1)) (-1)
  odd : 0 < k → p ≠ 2
theorem Rt.two {p : Nat} {w : Int} {k : Nat} (h : Rt p w k) (hk : 0 < k) : ¬ Cg p (-1) 1 := by
  intro e
  rw [Cg.dvd] at e
  have h1 := Int.natAbs_dvd_natAbs.2 e
  rw [Int.natAbs_natCast] at h1
  have h2 : p ∣ 2 := h1
  have h3 := Nat.le_of_dvd (by omega) h2
  have h4 := h.pri.1
  exact h.odd hk (by omega)
theorem neg_one_odd (t : Nat) : (-1 : Int) ^ (2 * t + 1) = -1 := by
  induction t with
  | zero => rfl
  | succ t h => rw [show 2 * (t + 1) + 1 = (2 * t + 1) + 1 + 1 by omega, Int.pow_succ, Int.pow_succ, h]; rfl
theorem Cg.pow_one {p : Nat} {a : Int} (h : Cg p a 1) (n : Nat) : Cg p (a ^ n) 1 := by
  have h1 := h.pow n
  rw [Int.one_pow] at h1
  exact h1
theorem Rt.ne {p : Nat} {w : Int} {k d : Nat} (h : Rt p w k) (h0 : 0 < d) (hd : d < 2 ^ k) : ¬ Cg p (w ^ d) 1 := by
  intro e
  obtain ⟨j, t, rfl⟩ := two_part d h0
  have hj : j < k := by
    apply Nat.lt_of_not_le
    intro hkj
    have h1 : 2 ^ k ≤ 2 ^ j := Nat.pow_le_pow_right (by omega) hkj
    have h2 : 2 ^ j * 1 ≤ 2 ^ j * (2 * t + 1) := Nat.mul_le_mul_left _ (by omega)
    omega
  have h1 : Cg p ((w ^ (2 ^ j * (2 * t + 1))) ^ 2 ^ (k - 1 - j)) 1 := e.pow_one _
  have e2 : (w ^ (2 ^ j * (2 * t + 1))) ^ 2 ^ (k - 1 - j) = (w ^ 2 ^ (k - 1)) ^ (2 * t + 1) := by
    rw [← Int.pow_mul, ← Int.pow_mul]
    congr 1
    rw [Nat.mul_right_comm, ← Nat.pow_add, show j + (k - 1 - j) = k - 1 by omega]
  rw [e2] at h1
  have h2 := (h.half (by omega)).pow (2 * t + 1)
  rw [neg_one_odd] at h2
  exact h.two (by omega) (h2.symm.trans h1)
/-- the sum of powers. -/
theorem geo (x : Int) (n : Nat) : sm (fun i => x ^ i) n * (x - 1) = x ^ n - 1 := by
  induction n with
  | zero => rw [Int.pow_zero]; exact Int.zero_mul _
  | succ n h =>
    rw [sm_succ, Int.add_mul, h, Int.mul_sub, Int.mul_one, ← Int.pow_succ]
    show x ^ n - 1 + (x ^ (n + 1) - x ^ n) = x ^ (n + 1) - 1
    omega
theorem Rt.geo0 {p : Nat} {w : Int} {k d : Nat} (h : Rt p w k) (h0 : 0 < d) (hd : d < 2 ^ k) : Cg p (sm (fun i => w ^ (d * i)) (2 ^ k)) 0 := by
  have e : sm (fun i => w ^ (d * i)) (2 ^ k) = sm (fun i => (w ^ d) ^ i) (2 ^ k) := sm_eq _ fun i _ => Int.pow_mul ..
  rw [e]
  refine h.pri.cancel (c := w ^ d - 1) ?_ ?_
  · intro hc
    have := hc.add (Cg.rfl (a := 1))
    rw [Int.sub_add_cancel, Int.zero_add] at this
    exact h.ne h0 hd this
  · rw [geo, Int.zero_mul, ← Int.pow_mul, Nat.mul_comm, Int.pow_mul]
    have := (h.one.pow_one d).sub (Cg.rfl (a := 1))
    exact this
theorem Rt.inv {p : Nat} {w v : Int} {k : Nat} (h : Rt p w k) (hv : Cg p (v * w) 1) : Rt p v k := by
  refine ⟨h.pri, ?_, fun hk => ?_, h.odd⟩
  · have h1 := hv.pow_one (2 ^ k)
    rw [Int.mul_pow] at h1
    have h2 := (Cg.rfl (p := p) (a := v ^ 2 ^ k)).mul h.one
    rw [Int.mul_one] at h2
    exact h2.symm.trans h1
  · have h1 := hv.pow_one (2 ^ (k - 1))
    rw [Int.mul_pow] at h1
    have h2 := (Cg.rfl (p := p) (a := v ^ 2 ^ (k - 1))).mul (h.half hk)
    have h3 := h2.symm.trans h1
    have h4 := h3.mul (Cg.rfl (p := p) (a := -1))
    rw [Int.mul_assoc] at h4
    have e1 : (-1 : Int) * -1 = 1 := rfl
    rw [e1, Int.mul_one, Int.one_mul] at h4
    exact h4
/-- powers of a root and of its inverse. -/
theorem both {p : Nat} {w v : Int} (hv : Cg p (v * w) 1) (l j i : Nat) : Cg p (w ^ (l * i) * v ^ (i * j)) (if j ≤ l then w ^ ((l - j) * i) else v ^ ((j - l) * i)) := by
  have one : ∀ m, Cg p (w ^ m * v ^ m) 1 := fun m => by
    rw [← Int.mul_pow, Int.mul_comm w v]
    exact hv.pow_one m
  by_cases h : j ≤ l
  · rw [if_pos h]
    have e : w ^ (l * i) * v ^ (i * j) = w ^ ((l - j) * i) * (w ^ (i * j) * v ^ (i * j)) := by
      rw [← Int.mul_assoc, ← Int.pow_add]
      congr 2
      rw [Nat.mul_comm i j, ← Nat.add_mul, Nat.sub_add_cancel h]
    rw [e]
    have := (Cg.rfl (p := p) (a := w ^ ((l - j) * i))).mul (one (i * j))
    rw [Int.mul_one] at this
    exact this
  · rw [if_neg h]
    have e : w ^ (l * i) * v ^ (i * j) = (w ^ (l * i) * v ^ (l * i)) * v ^ ((j - l) * i) := by
      rw [Int.mul_assoc, ← Int.pow_add]
      congr 2
      rw [← Nat.add_mul, Nat.mul_comm i j]
      congr 1
      omega
    rw [e]
    have := (one (l * i)).mul (Cg.rfl (p := p) (a := v ^ ((j - l) * i)))
    rw [Int.one_mul] at this
    exact this
/-- the values of the values at the powers of the inverse: the coefficients, so many times. -/
theorem Rt.back {p : Nat} {w v : Int} {k : Nat} (h : Rt p w k) (hv : Cg p (v * w) 1) (a : Nat → Int) (j : Nat) (hj : j < 2 ^ k) :
    Cg p (dft (fun i => dft a w (2 ^ k) i) v (2 ^ k) j) ((2 ^ k : Nat) * a j) := by
  unfold dft
  have e1 : sm (fun i => sm (fun l => a l * w ^ (l * i)) (2 ^ k) * v ^ (i * j)) (2 ^ k) = sm (fun l => a l * sm (fun i => w ^ (l * i) * v ^ (i * j)) (2 ^ k)) (2 ^ k) := by
    rw [sm_eq (g := fun i => sm (fun l => a l * (w ^ (l * i) * v ^ (i * j))) (2 ^ k)) _ (fun i _ => by rw [← sm_mulr]; exact sm_eq _ fun l _ => Int.mul_assoc ..), sm_swap]
    exact sm_eq _ fun l _ => sm_mul ..
  rw [e1]
  have e2 : ((2 ^ k : Nat) : Int) * a j = sm (fun l => if j = l then a l * (2 ^ k : Nat) else 0) (2 ^ k) := by rw [sm_one _ _ _ hj, Int.mul_comm]
  rw [e2]
  refine sm_cg _ fun l hl => ?_
  have e3 : Cg p (sm (fun i => w ^ (l * i) * v ^ (i * j)) (2 ^ k)) (sm (fun i => if j ≤ l then w ^ ((l - j) * i) else v ^ ((j - l) * i)) (2 ^ k)) := sm_cg _ fun i _ => both hv l j i
  by_cases e : j = l
  · rw [if_pos e]
    refine Cg.rfl.mul (e3.trans ?_)
    subst e
    rw [sm_eq (g := fun _ => 1) _ (fun i _ => by rw [if_pos (Nat.le_refl _), Nat.sub_self, Nat.zero_mul, Int.pow_zero]), sm_const, Int.mul_one]
    exact Cg.rfl
  · rw [if_neg e]
    have : Cg p (a l * sm (fun i => w ^ (l * i) * v ^ (i * j)) (2 ^ k)) (a l * 0) := by
      refine Cg.rfl.mul (e3.trans ?_)
      by_cases hl' : j ≤ l
      · rw [sm_eq (g := fun i => w ^ ((l - j) * i)) _ (fun i _ => if_pos hl')]
        exact h.geo0 (by omega) (by omega)
      · rw [sm_eq (g := fun i => v ^ ((j - l) * i)) _ (fun i _ => if_neg hl')]
        exact (h.inv hv).geo0 (by omega) (by omega)
    rw [Int.mul_zero] at this
    exact this
theorem dft_cg {p : Nat} {a b : Nat → Int} {w : Int} {n : Nat} (h : ∀ i, i < n → Cg p (a i) (b i)) (j : Nat) : Cg p (dft a w n j) (dft b w n j) := sm_cg _ fun i hi => (h i hi).mul Cg.rfl
theorem dft_cgw {p : Nat} {a : Nat → Int} {w v : Int} {n : Nat} (h : Cg p w v) (j : Nat) : Cg p (dft a w n j) (dft a v n j) := sm_cg _ fun _ _ => Cg.rfl.mul (h.pow _)
theorem dft_mul (a : Nat → Int) (c w : Int) (n j : Nat) : dft (fun i => c * a i) w n j = c * dft a w n j := by
  unfold dft
  rw [← sm_mul]
  exact sm_eq _ fun i _ => Int.mul_assoc ..
theorem dft_add (a b : Nat → Int) (w : Int) (n j : Nat) : dft (fun i => a i + b i) w n j = dft a w n j + dft b w n j := by
  unfold dft
  rw [← sm_add]
  exact sm_eq _ fun i _ => Int.add_mul ..
theorem dft_zero (a : Nat → Int) (w : Int) (n : Nat) : dft a w n 0 = sm a n := sm_eq _ fun i _ => by rw [Nat.mul_zero, Int.pow_zero, Int.mul_one]
/-- the way back, with the inverse of how many there are. -/
theorem Rt.there {p : Nat} {w v c : Int} {k : Nat} (h : Rt p w k) (hv : Cg p (v * w) 1) (hc : Cg p (c * (2 ^ k : Nat)) 1) (a : Nat → Int) (j : Nat) (hj : j < 2 ^ k) :
    Cg p (c * dft (fun i => dft a w (2 ^ k) i) v (2 ^ k) j) (a j) := by
  have h1 := (Cg.rfl (p := p) (a := c)).mul (h.back hv a j hj)
  rw [← Int.mul_assoc] at h1
  have h2 := hc.mul (Cg.rfl (p := p) (a := a j))
  rw [Int.one_mul] at h2
  exact h1.trans h2
/-- the values of what was found of values. -/
theorem Rt.again {p : Nat} {w v c : Int} {k : Nat} (h : Rt p w k) (hv : Cg p (v * w) 1) (hc : Cg p (c * (2 ^ k : Nat)) 1) (a : Nat → Int) (j : Nat) (hj : j < 2 ^ k) :
    Cg p (dft (fun i => c * dft a v (2 ^ k) i) w (2 ^ k) j) (a j) := by
  rw [dft_mul]
  exact (h.inv hv).there (by rw [Int.mul_comm]; exact hv) hc a j hj
/-- the round product. -/
def rnd (a b : Nat → Int) (n m : Nat) : Int := sm (fun i => sm (fun l => if (i + l) % n = m then a i * b l else 0) n) n
theorem Rt.wrap {p : Nat} {w : Int} {k : Nat} (h : Rt p w k) (m j : Nat) : Cg p (w ^ (m % 2 ^ k * j)) (w ^ (m * j)) := by
  have e : m * j = 2 ^ k * (m / 2 ^ k * j) + m % 2 ^ k * j := by
    rw [← Nat.mul_assoc, ← Nat.add_mul]
    congr 1
    exact (Nat.div_add_mod m (2 ^ k)).symm
  rw [e, Int.pow_add, show w ^ (2 ^ k * (m / 2 ^ k * j)) = (w ^ 2 ^ k) ^ (m / 2 ^ k * j) from Int.pow_mul]
  have := (h.one.pow_one (m / 2 ^ k * j)).mul (Cg.rfl (p := p) (a := w ^ (m % 2 ^ k * j)))
  rw [Int.one_mul] at this
  exact this.symm
/-- the values of the round product are the products. -/
theorem Rt.round {p : Nat} {w : Int} {k : Nat} (h : Rt p w k) (a b : Nat → Int) (j : Nat) :
    Cg p (dft (fun m => rnd a b (2 ^ k) m) w (2 ^ k) j) (dft a w (2 ^ k) j * dft b w (2 ^ k) j) := by
  have pos : 0 < 2 ^ k := Nat.two_pow_pos k
  unfold dft rnd
  have e1 : sm (fun m => sm (fun i => sm (fun l => if (i + l) % 2 ^ k = m then a i * b l else 0) (2 ^ k)) (2 ^ k) * w ^ (m * j)) (2 ^ k) = sm (fun i => sm (fun l => a i * b l * w ^ ((i + l) % 2 ^ k * j)) (2 ^ k)) (2 ^ k) := by
    rw [sm_eq (g := fun m => sm (fun i => sm (fun l => if (i + l) % 2 ^ k = m then a i * b l * w ^ (m * j) else 0) (2 ^ k)) (2 ^ k)) _ (fun m _ => by
      rw [← sm_mulr]
      refine sm_eq _ fun i _ => ?_
      rw [← sm_mulr]
      refine sm_eq _ fun l _ => ?_
      by_cases e : (i + l) % 2 ^ k = m
      · rw [if_pos e, if_pos e]
      · rw [if_neg e, if_neg e, Int.zero_mul])]
    rw [sm_swap]
    refine sm_eq _ fun i _ => ?_
    rw [sm_swap]
    refine sm_eq _ fun l _ => ?_
    rw [sm_one (fun m => a i * b l * w ^ (m * j)) _ _ (Nat.mod_lt _ pos)]
  rw [e1, ← sm_mulr]
  refine sm_cg _ fun i _ => ?_
  rw [← sm_mul]
  refine sm_cg _ fun l _ => ?_
  have e2 : a i * w ^ (i * j) * (b l * w ^ (l * j)) = a i * b l * w ^ ((i + l) * j) := by
    rw [Nat.add_mul, Int.pow_add]
    simp only [Int.mul_assoc, Int.mul_left_comm]
  rw [e2]
  exact Cg.rfl.mul (h.wrap _ _)
/-- the round product, by values and back. -/
theorem Rt.rounds {p : Nat} {w v c : Int} {k : Nat} (h : Rt p w k) (hv : Cg p (v * w) 1) (hc : Cg p (c * (2 ^ k : Nat)) 1) (a b : Nat → Int) (j : Nat) (hj : j < 2 ^ k) :
    Cg p (c * dft (fun i => dft a w (2 ^ k) i * dft b w (2 ^ k) i) v (2 ^ k) j) (rnd a b (2 ^ k) j) := by
  refine Cg.trans ?_ (h.there hv hc (fun m => rnd a b (2 ^ k) m) j hj)
  exact Cg.rfl.mul (dft_cg (fun i _ => (h.round a b i).symm) j)
/-- the product. -/
def prd (a b : Nat → Int) (la lb m : Nat) : Int := sm (fun i => sm (fun l => if i + l = m then a i * b l else 0) lb) la
theorem sm_long {f : Nat → Int} {m n : Nat} (hm : m ≤ n) (h : ∀ i, m ≤ i → i < n → f i = 0) : sm f n = sm f m := by
  obtain ⟨d, rfl⟩ := Nat.le.dest hm
  rw [sm_app, sm_eq (g := fun _ => 0) d (fun i hi => h _ (by omega) (by omega)), sm_zero, Int.add_zero]
theorem rnd_prd {a b : Nat → Int} {la lb n : Nat} (hab : la + lb ≤ n + 1) (h1 : 0 < lb) (ha : ∀ i, la ≤ i → i < n → a i = 0) (hb : ∀ i, lb ≤ i → i < n → b i = 0) (m : Nat) :
    rnd a b n m = prd a b la lb m := by
  unfold rnd prd
  rw [sm_long (m := la) (by omega) (fun i hi hn => by
    rw [sm_eq (g := fun _ => 0) _ (fun l _ => by rw [ha i hi hn, Int.zero_mul, ite_self]), sm_zero])]
  refine sm_eq _ fun i hi => ?_
  rw [sm_long (m := lb) (by omega) (fun l hl hn => by rw [hb l hl hn, Int.mul_zero, ite_self])]
  refine sm_eq _ fun l hl => ?_
  rw [Nat.mod_eq_of_lt (by omega)]

/- the values by halves. -/
/-- the numbers whose bits are turned about. -/
def rv : Nat → Nat → Nat
  | 0, _ => 0
  | m + 1, b => b % 2 * 2 ^ m + rv m (b / 2)
theorem rv_lt : ∀ m b, rv m b < 2 ^ m
  | 0, _ => Nat.one_pos
  | m + 1, b => by
    have h := rv_lt m (b / 2)
    have h2 : b % 2 * 2 ^ m ≤ 1 * 2 ^ m := Nat.mul_le_mul_right _ (by omega)
    rw [Nat.pow_succ]
    show b % 2 * 2 ^ m + rv m (b / 2) < _
    omega
theorem rv_up : ∀ m b, rv (m + 1) b = 2 * rv m (b % 2 ^ m) + b / 2 ^ m % 2
  | 0, b => by
    show b % 2 * 2 ^ 0 + 0 = 2 * 0 + b / 2 ^ 0 % 2
    rw [Nat.pow_zero, Nat.div_one]
    omega
  | m + 1, b => by
    have h := rv_up m (b / 2)
    have e1 : b / 2 % 2 ^ m = b % 2 ^ (m + 1) / 2 := by
      rw [Nat.pow_succ, Nat.mul_comm, Nat.mod_mul_right_div_self]
    have e2 : b / 2 / 2 ^ m = b / 2 ^ (m + 1) := by rw [Nat.div_div_eq_div_mul, Nat.pow_succ, Nat.mul_comm]
    have e3 : b % 2 ^ (m + 1) % 2 = b % 2 := Nat.mod_mod_of_dvd _ (by rw [Nat.pow_succ]; exact Nat.dvd_mul_left _ _)
    have e4 : rv (m + 1) (b % 2 ^ (m + 1)) = b % 2 * 2 ^ m + rv m (b / 2 % 2 ^ m) := by
      show b % 2 ^ (m + 1) % 2 * 2 ^ m + rv m (b % 2 ^ (m + 1) / 2) = _
      rw [e3, e1]
    show b % 2 * 2 ^ (m + 1) + rv (m + 1) (b / 2) = _
    rw [h, e4, e2, Nat.pow_succ, Nat.mul_add, ← Nat.mul_assoc]
    have e5 : 2 * (b % 2) * 2 ^ m = b % 2 * (2 ^ m * 2) := by rw [Nat.mul_comm 2 (b % 2), Nat.mul_assoc, Nat.mul_comm 2]
    omega
theorem rv_rv : ∀ m b, b < 2 ^ m → rv m (rv m b) = b
  | 0, b, h => by
    have : b = 0 := by rw [Nat.pow_zero] at h; omega
    rw [this]; rfl
  | m + 1, b, h => by
    have h1 := rv_lt m (b / 2)
    have h2 : b / 2 < 2 ^ m := by rw [Nat.pow_succ] at h; omega
    rw [rv_up]
    have e1 : rv (m + 1) b = 2 ^ m * (b % 2) + rv m (b / 2) := by rw [Nat.mul_comm]; rfl
    rw [e1, Nat.mul_add_mod, Nat.mod_eq_of_lt h1, rv_rv m _ h2, Nat.mul_add_div (Nat.two_pow_pos m), Nat.div_eq_of_lt h1]
    omega
theorem rv_even (m b : Nat) : rv (m + 1) (2 * b) = rv m b := by
  show 2 * b % 2 * 2 ^ m + rv m (2 * b / 2) = _
  rw [show 2 * b % 2 = 0 by omega, show 2 * b / 2 = b by omega, Nat.zero_mul, Nat.zero_add]
theorem rv_odd (m b : Nat) : rv (m + 1) (2 * b + 1) = rv m b + 2 ^ m := by
  show (2 * b + 1) % 2 * 2 ^ m + rv m ((2 * b + 1) / 2) = _
  rw [show (2 * b + 1) % 2 = 1 by omega, show (2 * b + 1) / 2 = b by omega, Nat.one_mul, Nat.add_comm]
/-- the values of each (2 to the (k - s)th) number from o on. -/
def prt (a : Nat → Int) (w : Int) (k s o j : Nat) : Int := sm (fun i => a (o + 2 ^ (k - s) * i) * w ^ (2 ^ (k - s) * i * j)) (2 ^ s)
theorem prt_zero (a : Nat → Int) (w : Int) (k o : Nat) : prt a w k 0 o 0 = a o := by
  unfold prt
  rw [Nat.pow_zero, sm_succ]
  simp only [sm, Nat.mul_zero, Nat.add_zero, Int.pow_zero, Int.mul_one, Int.zero_add]
theorem prt_all (a : Nat → Int) (w : Int) (k j : Nat) : prt a w k k 0 j = dft a w (2 ^ k) j := by
  unfold prt dft
  refine sm_eq _ fun i _ => ?_
  rw [Nat.sub_self, Nat.pow_zero, Nat.one_mul, Nat.zero_add]
theorem prt_split (a : Nat → Int) (w : Int) {k s : Nat} (hs : s < k) (o j : Nat) :
    prt a w k (s + 1) o j = sm (fun i => a (o + 2 ^ (k - s) * i) * w ^ (2 ^ (k - s) * i * j)) (2 ^ s) + w ^ (2 ^ (k - (s + 1)) * j) * sm (fun i => a (o + 2 ^ (k - (s + 1)) + 2 ^ (k - s) * i) * w ^ (2 ^ (k - s) * i * j)) (2 ^ s) := by
  have e : 2 ^ (k - s) = 2 * 2 ^ (k - (s + 1)) := by rw [show k - s = (k - (s + 1)) + 1 by omega, Nat.pow_succ, Nat.mul_comm]
  unfold prt
  rw [e]
  generalize 2 ^ (k - (s + 1)) = D
  rw [Nat.pow_succ, Nat.mul_comm (2 ^ s) 2, sm_two, ← sm_mul]
  congr 1
  · refine sm_eq _ fun i _ => ?_
    rw [show D * (2 * i) = 2 * D * i by rw [Nat.mul_left_comm, Nat.mul_assoc]]
  · refine sm_eq _ fun i _ => ?_
    have e1 : D * (2 * i + 1) = D + 2 * D * i := by rw [Nat.mul_add, Nat.mul_one, Nat.mul_left_comm, Nat.mul_assoc, Nat.add_comm]
    rw [e1, ← Nat.add_assoc, Nat.add_mul, Int.pow_add, Int.mul_left_comm]
/-- a pair. -/
theorem prt_low (a : Nat → Int) (w : Int) {k s : Nat} (hs : s < k) (o j : Nat) :
    prt a w k (s + 1) o j = prt a w k s o j + w ^ (2 ^ (k - (s + 1)) * j) * prt a w k s (o + 2 ^ (k - (s + 1))) j := prt_split a w hs o j
theorem Rt.high {p : Nat} {w : Int} {k s : Nat} (h : Rt p w k) (a : Nat → Int) (hs : s < k) (o j : Nat) :
    Cg p (prt a w k (s + 1) o (j + 2 ^ s)) (prt a w k s o j - w ^ (2 ^ (k - (s + 1)) * j) * prt a w k s (o + 2 ^ (k - (s + 1))) j) := by
  have e0 : ∀ i, 2 ^ (k - s) * i * (j + 2 ^ s) = 2 ^ (k - s) * i * j + 2 ^ k * i := fun i => by
    rw [Nat.mul_add]
    congr 1
    rw [Nat.mul_right_comm, ← Nat.pow_add, Nat.sub_add_cancel (by omega)]
  have one : ∀ i, Cg p (w ^ (2 ^ (k - s) * i * (j + 2 ^ s))) (w ^ (2 ^ (k - s) * i * j)) := fun i => by
    rw [e0, Int.pow_add, show w ^ (2 ^ k * i) = (w ^ 2 ^ k) ^ i from Int.pow_mul]
    have := (Cg.rfl (p := p) (a := w ^ (2 ^ (k - s) * i * j))).mul (h.one.pow_one i)
    rw [Int.mul_one] at this
    exact this
  have half : Cg p (w ^ (2 ^ (k - (s + 1)) * (j + 2 ^ s))) (w ^ (2 ^ (k - (s + 1)) * j) * -1) := by
    rw [Nat.mul_add, Int.pow_add, ← Nat.pow_add, show k - (s + 1) + s = k - 1 by omega]
    exact Cg.rfl.mul (h.half (by omega))
  rw [prt_split a w hs]
  unfold prt
  have r1 := sm_cg (p := p) (f := fun i => a (o + 2 ^ (k - s) * i) * w ^ (2 ^ (k - s) * i * (j + 2 ^ s))) (g := fun i => a (o + 2 ^ (k - s) * i) * w ^ (2 ^ (k - s) * i * j)) (2 ^ s) (fun i _ => Cg.rfl.mul (one i))
  have r2 := half.mul (sm_cg (p := p) (f := fun i => a (o + 2 ^ (k - (s + 1)) + 2 ^ (k - s) * i) * w ^ (2 ^ (k - s) * i * (j + 2 ^ s))) (g := fun i => a (o + 2 ^ (k - (s + 1)) + 2 ^ (k - s) * i) * w ^ (2 ^ (k - s) * i * j)) (2 ^ s) (fun i _ => Cg.rfl.mul (one i)))
  refine (r1.add r2).trans (Cg.of_eq ?_)
  rw [Int.mul_neg, Int.mul_one, Int.neg_mul]
  omega
end Nmb
namespace Nmb

/-- the value of a polynomial of n coefficients. -/
def ev (a : Nat → Int) (n : Nat) (x : Int) : Int := sm (fun i => a i * x ^ i) n
theorem dft_ev (a : Nat → Int) (w : Int) (n j : Nat) : dft a w n j = ev a n (w ^ j) := sm_eq _ fun i _ => by rw [← Int.pow_mul, Nat.mul_comm j i]
theorem sm_front (f : Nat → Int) (n : Nat) : sm f (n + 1) = f 0 + sm (fun i => f (i + 1)) n := by
  rw [Nat.add_comm n 1, sm_app]
  simp only [sm, Int.zero_add, Nat.add_comm 1]
theorem ev_front (a : Nat → Int) (n : Nat) (x : Int) : ev a (n + 1) x = a 0 + x * ev (fun i => a (i + 1)) n x := by
  unfold ev
  rw [sm_front, Int.pow_zero, Int.mul_one, ← sm_mul]
  congr 1
  exact sm_eq _ fun i _ => by rw [Int.pow_succ, ← Int.mul_assoc, Int.mul_comm]
theorem ev_cg {p : Nat} {a b : Nat → Int} {n : Nat} {x y : Int} (h : ∀ i, i < n → Cg p (a i) (b i)) (hx : Cg p x y) : Cg p (ev a n x) (ev b n y) := sm_cg _ fun i hi => (h i hi).mul (hx.pow i)
theorem ev_sub (a b : Nat → Int) (n : Nat) (x : Int) : ev (fun i => a i - b i) n x = ev a n x - ev b n x := by
  unfold ev
  rw [← sm_sub]
  exact sm_eq _ fun i _ => Int.sub_mul ..
theorem ev_add (a b : Nat → Int) (n : Nat) (x : Int) : ev (fun i => a i + b i) n x = ev a n x + ev b n x := by
  unfold ev
  rw [← sm_add]
  exact sm_eq _ fun i _ => Int.add_mul ..
theorem ev_long {a : Nat → Int} {m n : Nat} (hm : m ≤ n) (h : ∀ i, m ≤ i → i < n → a i = 0) (x : Int) : ev a n x = ev a m x := sm_long hm fun i h1 h2 => by rw [h i h1 h2, Int.zero_mul]
/-- the quotient by x less t, and what is left. -/
def qo (a : Nat → Int) (t : Int) (n m : Nat) : Int := ev (fun r => a (m + 1 + r)) (n - m) t
theorem qo_said (y t : Int) : ∀ n a, ev a (n + 1) y - ev a (n + 1) t = (y - t) * ev (qo a t n) n y
  | 0, a => by
    rw [ev_front, ev_front]
    show a 0 + y * 0 - (a 0 + t * 0) = (y - t) * 0
    simp only [Int.mul_zero]
    omega
  | n + 1, a => by
    have h := qo_said y t n (fun i => a (i + 1))
    rw [ev_front a (n + 1) y, ev_front a (n + 1) t, ev_front (qo a t (n + 1)) n y]
    have e0 : qo a t (n + 1) 0 = ev (fun i => a (i + 1)) (n + 1) t := by
      unfold qo
      congr 1
      funext r
      rw [Nat.zero_add, Nat.add_comm]
    have e1 : ev (fun i => qo a t (n + 1) (i + 1)) n y = ev (qo (fun i => a (i + 1)) t n) n y := by
      congr 1
      funext m
      unfold qo
      rw [Nat.add_sub_add_right]
      congr 1
      funext r
      congr 1
      omega
    rw [e0, e1]
    grind
theorem qo_step (a : Nat → Int) (t : Int) {n m : Nat} (h : m < n) : qo a t n m = a (m + 1) + t * qo a t n (m + 1) := by
  unfold qo
  rw [show n - m = (n - (m + 1)) + 1 by omega, ev_front]
  congr 3
  funext r
  congr 1
  omega
/-- a polynomial of n coefficients that is 0 at n points apart is 0. -/
theorem Pri.none {p : Nat} (h : Pri p) : ∀ n (a x : Nat → Int), (∀ i j, i < j → j < n → ¬ Cg p (x i) (x j)) → (∀ i, i < n → Cg p (ev a n (x i)) 0) → ∀ m, m < n → Cg p (a m) 0
  | 0, _, _, _, _, _, hm => absurd hm (by omega)
  | n + 1, a, x, hx, ha, m, hm => by
    have hn := ha n (by omega)
    have h0 : ∀ m, m < n → Cg p (qo a (x n) n m) 0 := h.none n (qo a (x n) n) x (fun i j hij hj => hx i j hij (by omega)) fun i hi => by
      have h1 := (ha i (by omega)).sub hn
      rw [qo_said, Int.mul_comm] at h1
      refine h.cancel (c := x i - x n) (fun hc => ?_) ?_
      · have h2 := hc.add (Cg.rfl (p := p) (a := x n))
        rw [Int.sub_add_cancel, Int.zero_add] at h2
        exact hx i n hi (by omega) h2
      · rw [Int.zero_mul]
        exact h1
    have h1 : ∀ m, m ≤ n → Cg p (qo a (x n) n m) 0 := fun m hm => by
      by_cases e : m = n
      · rw [e]; unfold qo; rw [Nat.sub_self]; exact Cg.rfl
      · exact h0 m (by omega)
    have up : ∀ m, m < n → Cg p (a (m + 1)) 0 := fun m hm => by
      have e := qo_step a (x n) hm
      have e2 : a (m + 1) = qo a (x n) n m - x n * qo a (x n) n (m + 1) := by omega
      rw [e2]
      have := (h1 m (by omega)).sub ((Cg.rfl (p := p) (a := x n)).mul (h1 (m + 1) (by omega)))
      rw [Int.mul_zero] at this
      exact this
    cases m with
    | succ m => exact up m (by omega)
    | zero =>
      rw [ev_front] at hn
      have h2 : Cg p (ev (fun i => a (i + 1)) n (x n)) 0 := by
        have := ev_cg (p := p) (b := fun _ => 0) (n := n) (x := x n) (fun i hi => up i hi) Cg.rfl
        refine this.trans (Cg.of_eq ?_)
        unfold ev
        rw [sm_eq (g := fun _ => 0) _ (fun i _ => Int.zero_mul _), sm_zero]
      have h3 := hn.sub ((Cg.rfl (p := p) (a := x n)).mul h2)
      rw [Int.mul_zero, Int.sub_zero, Int.add_sub_cancel] at h3
      exact h3
/-- values at n points apart tell a polynomial of n coefficients. -/
theorem Pri.tell {p : Nat} (h : Pri p) {n : Nat} {a b x : Nat → Int} (hx : ∀ i j, i < j → j < n → ¬ Cg p (x i) (x j)) (hv : ∀ i, i < n → Cg p (ev a n (x i)) (ev b n (x i))) (m : Nat) (hm : m < n) : Cg p (a m) (b m) := by
  have h1 := h.none n (fun i => a i - b i) x hx (fun i hi => by
    rw [ev_sub]
    have := (hv i hi).sub (Cg.rfl (p := p) (a := ev b n (x i)))
    rw [Int.sub_self] at this
    exact this) m hm
  have h2 := h1.add (Cg.rfl (p := p) (a := b m))
  rw [Int.zero_add] at h2
  exact (Cg.of_eq (by omega)).trans h2
/-- powers of a root are apart. -/
theorem Rt.apart {p : Nat} {w : Int} {k i j : Nat} (h : Rt p w k) (hi : i < 2 ^ k) (hj : j < 2 ^ k) (e : Cg p (w ^ i) (w ^ j)) : i = j := by
  have gen : ∀ i j, i < j → j < 2 ^ k → ¬ Cg p (w ^ i) (w ^ j) := fun i j hij hj e => by
    have e1 : w ^ j = w ^ (j - i) * w ^ i := by rw [← Int.pow_add, Nat.sub_add_cancel (by omega)]
    have e2 : Cg p (1 * w ^ i) (w ^ (j - i) * w ^ i) := by rw [Int.one_mul, ← e1]; exact e
    refine h.ne (d := j - i) (by omega) (by omega) (h.pri.cancel (c := w ^ i) (fun hc => ?_) e2).symm
    have h1 := hc.mul (Cg.rfl (p := p) (a := w ^ (2 ^ k - i)))
    rw [← Int.pow_add, show i + (2 ^ k - i) = 2 ^ k by omega, Int.zero_mul] at h1
    have h2 := h.one.symm.trans h1
    have h3 := Cg.nat (p := p) (a := 1) (b := 0) |>.1 h2
    have h4 := h.pri.1
    rw [Nat.mod_eq_of_lt (by omega), Nat.zero_mod] at h3
    omega
  rcases Nat.lt_trichotomy i j with hl | hl | hl
  · exact absurd e (gen i j hl hj)
  · exact hl
  · exact absurd e.symm (gen j i hl hi)
theorem rv_inj {k i j : Nat} (hi : i < 2 ^ k) (hj : j < 2 ^ k) (h : rv k i = rv k j) : i = j := by rw [← rv_rv k i hi, h, rv_rv k j hj]
/-- the points, whose exponents' bits are turned about, are apart. -/
theorem Rt.points {p : Nat} {w : Int} {k : Nat} (h : Rt p w k) (i j : Nat) (hij : i < j) (hj : j < 2 ^ k) : ¬ Cg p (w ^ rv k i) (w ^ rv k j) := fun e => by
  have := rv_inj (by omega) hj (h.apart (rv_lt k i) (rv_lt k j) e)
  omega
/-- what is left of a polynomial of H times N coefficients, divided by x to the Hth less c. -/
def red (l : Nat → Int) (c : Int) (H N j : Nat) : Int := sm (fun q => l (j + H * q) * c ^ q) N
theorem red_top (l : Nat → Int) (c : Int) (H j : Nat) : red l c H 1 j = l j := by
  unfold red
  simp only [sm, Nat.mul_zero, Nat.add_zero, Int.pow_zero, Int.mul_one, Int.zero_add]
theorem red_leaf (l : Nat → Int) (x : Int) (N : Nat) : red l x 1 N 0 = ev l N x := sm_eq _ fun q _ => by rw [Nat.zero_add, Nat.one_mul]
theorem red_cg {p : Nat} {l : Nat → Int} {c d : Int} (h : Cg p c d) (H N j : Nat) : Cg p (red l c H N j) (red l d H N j) := sm_cg _ fun q _ => Cg.rfl.mul (h.pow q)
theorem red_low (l : Nat → Int) (e : Int) (h N j : Nat) : red l e h (2 * N) j = red l (e * e) (2 * h) N j + e * red l (e * e) (2 * h) N (j + h) := by
  unfold red
  rw [sm_two, ← sm_mul]
  have e2 : ∀ q : Nat, e ^ (2 * q) = (e * e) ^ q := fun q => by rw [Int.pow_mul, Int.pow_succ, Int.pow_succ, Int.pow_zero, Int.one_mul]
  congr 1
  · exact sm_eq _ fun q _ => by rw [e2, Nat.mul_left_comm, Nat.mul_assoc]
  · exact sm_eq _ fun q _ => by
      rw [Int.pow_succ, e2, show j + h * (2 * q + 1) = j + h + 2 * h * q by rw [Nat.mul_add, Nat.mul_one, Nat.mul_left_comm, Nat.mul_assoc]; omega]
      rw [Int.mul_comm ((e * e) ^ q) e, Int.mul_left_comm]
theorem red_high (l : Nat → Int) (e : Int) (h N j : Nat) : red l (-e) h (2 * N) j = red l (e * e) (2 * h) N j - e * red l (e * e) (2 * h) N (j + h) := by
  rw [red_low, Int.neg_mul_neg, Int.neg_mul]
  omega
/-- the number whose root the polynomial is divided by at the place b of the depth d. -/
def nd (w : Int) (k d b : Nat) : Int := w ^ (rv d b * 2 ^ (k - d))
theorem nd_top (w : Int) (k : Nat) : nd w k 0 0 = 1 := by
  unfold nd
  show w ^ (0 * 2 ^ (k - 0)) = 1
  rw [Nat.zero_mul, Int.pow_zero]
theorem nd_leaf (w : Int) (k i : Nat) : nd w k k i = w ^ rv k i := by
  unfold nd
  rw [Nat.sub_self, Nat.pow_zero, Nat.mul_one]
theorem nd_low (w : Int) {k d : Nat} (hd : d < k) (b : Nat) : nd w k (d + 1) (2 * b) * nd w k (d + 1) (2 * b) = nd w k d b := by
  unfold nd
  rw [rv_even, ← Int.pow_add, ← Nat.mul_add, ← Nat.two_mul, show k - d = (k - (d + 1)) + 1 by omega, Nat.pow_succ, Nat.mul_comm 2]
theorem Rt.nd_high {p : Nat} {w : Int} {k d : Nat} (h : Rt p w k) (hd : d < k) (b : Nat) : Cg p (nd w k (d + 1) (2 * b + 1)) (-nd w k (d + 1) (2 * b)) := by
  unfold nd
  rw [rv_even, rv_odd, Nat.add_mul, Int.pow_add, ← Nat.pow_add, show d + (k - (d + 1)) = k - 1 by omega]
  have := (Cg.rfl (p := p) (a := w ^ (rv d b * 2 ^ (k - (d + 1))))).mul (h.half (by omega))
  rw [Int.mul_neg, Int.mul_one] at this
  exact this
end Nmb
namespace Nmb

theorem sm_rev (f : Nat → Int) : ∀ n, sm f (n + 1) = sm (fun i => f (n - i)) (n + 1) := by
  have gen : ∀ n m, m ≤ n + 1 → sm (fun i => f (n - i)) m = sm f (n + 1) - sm f (n + 1 - m) := by
    intro n m
    induction m with
    | zero => intro _; show (0 : Int) = sm f (n + 1) - sm f (n + 1); omega
    | succ m ih =>
      intro h
      rw [sm_succ, ih (by omega), show n + 1 - m = (n - m) + 1 by omega, sm_succ f (n - m), show n + 1 - (m + 1) = n - m by omega]
      omega
  intro n
  rw [gen n (n + 1) (Nat.le_refl _), Nat.sub_self]
  show _ = sm f (n + 1) - 0
  omega
/-- sums over a triangle, by rows and by columns. -/
theorem sm_tri (F : Nat → Nat → Int) : ∀ n, sm (fun i => sm (fun k => F k i) (i + 1)) n = sm (fun k => sm (fun l => F k (k + l)) (n - k)) n
  | 0 => rfl
  | n + 1 => by
    rw [sm_succ, sm_tri F n, sm_succ (fun k => sm (fun l => F k (k + l)) (n + 1 - k)) n]
    have e1 : sm (fun k => sm (fun l => F k (k + l)) (n + 1 - k)) n = sm (fun k => sm (fun l => F k (k + l)) (n - k) + F k n) n := sm_eq n fun k hk => by
      rw [show n + 1 - k = (n - k) + 1 by omega, sm_succ, show k + (n - k) = n by omega]
    rw [e1, sm_add, sm_succ (fun k => F k n) n, show n + 1 - n = 0 + 1 by omega, sm_succ (fun l => F n (n + l)) 0]
    show _ = _ + _ + (0 + F n (n + 0))
    rw [Nat.add_zero]
    omega
/-- the product. -/
def cv (A B : Nat → Int) (j : Nat) : Int := sm (fun i => A i * B (j - i)) (j + 1)
theorem cv_eq {A A' B B' : Nat → Int} {j : Nat} (hA : ∀ i, i ≤ j → A i = A' i) (hB : ∀ i, i ≤ j → B i = B' i) : cv A B j = cv A' B' j :=
  sm_eq _ fun i hi => by rw [hA i (by omega), hB (j - i) (by omega)]
theorem cv_comm (A B : Nat → Int) (j : Nat) : cv A B j = cv B A j := by
  unfold cv
  rw [sm_rev]
  exact sm_eq _ fun i hi => by rw [show j - (j - i) = i by omega, Int.mul_comm]
theorem cv_assoc (A B C : Nat → Int) (j : Nat) : cv (cv A B) C j = cv A (cv B C) j := by
  unfold cv
  rw [sm_eq (g := fun i => sm (fun k => A k * B (i - k) * C (j - i)) (i + 1)) (j + 1) (fun i _ => by rw [← sm_mulr]), sm_tri (fun k i => A k * B (i - k) * C (j - i)) (j + 1)]
  refine sm_eq _ fun k hk => ?_
  rw [← sm_mul, show j + 1 - k = j - k + 1 by omega]
  exact sm_eq _ fun l hl => by rw [show k + l - k = l by omega, show j - (k + l) = j - k - l by omega, Int.mul_assoc]
theorem cv_add (A B C : Nat → Int) (j : Nat) : cv A (fun i => B i + C i) j = cv A B j + cv A C j := by
  unfold cv
  rw [← sm_add]
  exact sm_eq _ fun i _ => Int.mul_add _ _ _
theorem cv_sub (A B C : Nat → Int) (j : Nat) : cv A (fun i => B i - C i) j = cv A B j - cv A C j := by
  unfold cv
  rw [← sm_sub]
  exact sm_eq _ fun i _ => Int.mul_sub _ _ _
theorem add_cv (A B C : Nat → Int) (j : Nat) : cv (fun i => B i + C i) A j = cv B A j + cv C A j := by
  rw [cv_comm, cv_add, cv_comm A B, cv_comm A C]
theorem sub_cv (A B C : Nat → Int) (j : Nat) : cv (fun i => B i - C i) A j = cv B A j - cv C A j := by
  rw [cv_comm, cv_sub, cv_comm A B, cv_comm A C]
theorem cv_mul (c : Int) (A B : Nat → Int) (j : Nat) : cv A (fun i => c * B i) j = c * cv A B j := by
  unfold cv
  rw [← sm_mul]
  exact sm_eq _ fun i _ => by rw [Int.mul_left_comm]
theorem mul_cv (c : Int) (A B : Nat → Int) (j : Nat) : cv (fun i => c * A i) B j = c * cv A B j := by
  rw [cv_comm, cv_mul, cv_comm]
theorem cv_zero (A : Nat → Int) (j : Nat) : cv A (fun _ => 0) j = 0 := by
  unfold cv
  rw [sm_eq (g := fun _ => 0) (j + 1) (fun i _ => Int.mul_zero _), sm_zero]
/-- one coefficient alone. -/
def mono (c : Int) (n j : Nat) : Int := if n = j then c else 0
theorem cv_mono (c : Int) (n : Nat) (B : Nat → Int) (j : Nat) : cv (mono c n) B j = if n ≤ j then c * B (j - n) else 0 := by
  unfold cv mono
  rw [sm_eq (g := fun i => if n = i then c * B (j - i) else 0) (j + 1) (fun i _ => by
    by_cases e : n = i
    · rw [if_pos e, if_pos e]
    · rw [if_neg e, if_neg e, Int.zero_mul])]
  by_cases h : n ≤ j
  · rw [if_pos h]; exact sm_one (fun i => c * B (j - i)) n (j + 1) (by omega)
  · rw [if_neg h]; exact sm_none (fun i => c * B (j - i)) n (j + 1) (by omega)
theorem cv_one (B : Nat → Int) (j : Nat) : cv (mono 1 0) B j = B j := by
  rw [cv_mono, if_pos (Nat.zero_le _), Int.one_mul, Nat.sub_zero]
/-- products of lists are these. -/
theorem prd_cv {a b : Nat → Int} {n m : Nat} (ha : ∀ i, n ≤ i → a i = 0) (hb : ∀ i, m ≤ i → b i = 0) (j : Nat) : prd a b n m j = cv a b j := by
  unfold prd cv
  have e1 : sm (fun i => sm (fun l => if i + l = j then a i * b l else 0) m) n = sm (fun i => if i < j + 1 then a i * b (j - i) else 0) n := sm_eq n fun i _ => by
    by_cases h : i < j + 1
    · rw [if_pos h, sm_eq (g := fun l => if j - i = l then a i * b l else 0) m (fun l _ => by
        by_cases e : i + l = j
        · rw [if_pos e, if_pos (by omega)]
        · rw [if_neg e, if_neg (by omega)])]
      by_cases h2 : j - i < m
      · exact sm_one (fun l => a i * b l) (j - i) m h2
      · rw [sm_none (fun l => a i * b l) (j - i) m (by omega), hb (j - i) (by omega), Int.mul_zero]
    · rw [if_neg h, sm_eq (g := fun _ => 0) m (fun l _ => if_neg (by omega)), sm_zero]
  rw [e1]
  by_cases h : n ≤ j + 1
  · rw [sm_long (f := fun i => a i * b (j - i)) h (fun i hi _ => by rw [ha i hi, Int.zero_mul])]
    exact sm_eq n fun i hi => if_pos (by omega)
  · rw [sm_long (f := fun i => if i < j + 1 then a i * b (j - i) else 0) (m := j + 1) (n := n) (by omega) (fun i hi _ => if_neg (by omega))]
    exact sm_eq _ fun i hi => if_pos hi
end Nmb
namespace Nmb

/-- the same polynomial modulo p. -/
def Ct (p : Nat) (A B : Nat → Int) : Prop := ∀ j, Cg p (A j) (B j)
theorem Ct.refl (p : Nat) (A : Nat → Int) : Ct p A A := fun _ => Cg.rfl
theorem Ct.symm {p : Nat} {A B : Nat → Int} (h : Ct p A B) : Ct p B A := fun j => (h j).symm
theorem Ct.trans {p : Nat} {A B C : Nat → Int} (h : Ct p A B) (g : Ct p B C) : Ct p A C := fun j => (h j).trans (g j)
theorem Ct.of_eq {p : Nat} {A B : Nat → Int} (h : ∀ j, A j = B j) : Ct p A B := fun j => Cg.of_eq (h j)
theorem Ct.add {p : Nat} {A B C D : Nat → Int} (h : Ct p A B) (g : Ct p C D) : Ct p (fun j => A j + C j) (fun j => B j + D j) := fun j => (h j).add (g j)
theorem Ct.sub {p : Nat} {A B C D : Nat → Int} (h : Ct p A B) (g : Ct p C D) : Ct p (fun j => A j - C j) (fun j => B j - D j) := fun j => (h j).sub (g j)
theorem Ct.cv {p : Nat} {A B C D : Nat → Int} (h : Ct p A B) (g : Ct p C D) : Ct p (Nmb.cv A C) (Nmb.cv B D) := fun j => sm_cg _ fun i _ => (h i).mul (g (j - i))
/-- at most n coefficients. -/
def Ln (p n : Nat) (A : Nat → Int) : Prop := ∀ j, n ≤ j → Cg p (A j) 0
theorem Ln.mono {p n m : Nat} {A : Nat → Int} (h : Ln p n A) (hm : n ≤ m) : Ln p m A := fun j hj => h j (by omega)
theorem Ln.ct {p n : Nat} {A B : Nat → Int} (h : Ln p n A) (c : Ct p A B) : Ln p n B := fun j hj => (c j).symm.trans (h j hj)
theorem Ln.add {p n : Nat} {A B : Nat → Int} (h : Ln p n A) (g : Ln p n B) : Ln p n (fun j => A j + B j) := fun j hj => ((h j hj).add (g j hj)).trans (Cg.of_eq (by omega))
theorem Ln.sub {p n : Nat} {A B : Nat → Int} (h : Ln p n A) (g : Ln p n B) : Ln p n (fun j => A j - B j) := fun j hj => ((h j hj).sub (g j hj)).trans (Cg.of_eq (by omega))
theorem sm_cg0 {p : Nat} {f : Nat → Int} (n : Nat) (h : ∀ i, i < n → Cg p (f i) 0) : Cg p (sm f n) 0 := by
  have := sm_cg (g := fun _ => 0) n h
  rw [sm_zero] at this
  exact this
theorem Cg.mul0 {p : Nat} {a b : Int} (h : Cg p a 0) : Cg p (a * b) 0 := (h.mul Cg.rfl).trans (Cg.of_eq (Int.zero_mul b))
theorem Cg.zmul {p : Nat} {a b : Int} (h : Cg p b 0) : Cg p (a * b) 0 := ((Cg.rfl (a := a)).mul h).trans (Cg.of_eq (Int.mul_zero a))
theorem Ln.cv {p n m : Nat} {A B : Nat → Int} (h : Ln p n A) (g : Ln p m B) : Ln p (n + m - 1) (Nmb.cv A B) := fun j hj => sm_cg0 _ fun i _ => by
  by_cases e : n ≤ i
  · exact (h i e).mul0
  · exact (g (j - i) (by omega)).zmul
theorem cv_lead {p n m : Nat} {A B : Nat → Int} (h : Ln p (n + 1) A) (g : Ln p (m + 1) B) : Cg p (cv A B (n + m)) (A n * B m) := by
  have h1 : Cg p (cv A B (n + m)) (sm (fun i => if n = i then A i * B (n + m - i) else 0) (n + m + 1)) := sm_cg _ fun i _ => by
    by_cases e : n = i
    · rw [if_pos e]; exact Cg.rfl
    · rw [if_neg e]
      by_cases e2 : n < i
      · exact (h i (by omega)).mul0
      · exact (g (n + m - i) (by omega)).zmul
  refine h1.trans (Cg.of_eq ?_)
  rw [sm_one (fun i => A i * B (n + m - i)) n (n + m + 1) (by omega), show n + m - n = m by omega]
/-- the degree is n. -/
def Top (p n : Nat) (A : Nat → Int) : Prop := Ln p (n + 1) A ∧ ¬ Cg p (A n) 0
theorem top_or {p : Nat} {A : Nat → Int} : ∀ N, Ln p N A → (∀ j, Cg p (A j) 0) ∨ ∃ n, n < N ∧ Top p n A
  | 0, h => Or.inl fun j => h j (Nat.zero_le _)
  | N + 1, h => by
    by_cases e : Cg p (A N) 0
    · have h2 : Ln p N A := fun j hj => by
        by_cases q : j = N
        · rw [q]; exact e
        · exact h j (by omega)
      rcases top_or N h2 with h3 | ⟨n, hn, ht⟩
      · exact Or.inl h3
      · exact Or.inr ⟨n, by omega, ht⟩
    · exact Or.inr ⟨N, by omega, h, e⟩
theorem Top.uniq {p n m : Nat} {A : Nat → Int} (h : Top p n A) (g : Top p m A) : n = m := by
  apply Nat.le_antisymm
  · apply Nat.le_of_not_lt; intro hl; exact h.2 (g.1 n (by omega))
  · apply Nat.le_of_not_lt; intro hl; exact g.2 (h.1 m (by omega))
theorem Top.ct {p n : Nat} {A B : Nat → Int} (h : Top p n A) (c : Ct p A B) : Top p n B := ⟨h.1.ct c, fun e => h.2 ((c n).trans e)⟩
theorem Pri.nz {p : Nat} (hp : Pri p) {a b : Int} (ha : ¬ Cg p a 0) (hb : ¬ Cg p b 0) : ¬ Cg p (a * b) 0 := fun h => ha (hp.cancel hb (h.trans (Cg.of_eq (Int.zero_mul b).symm)))
theorem Top.cv {p n m : Nat} (hp : Pri p) {A B : Nat → Int} (h : Top p n A) (g : Top p m B) : Top p (n + m) (Nmb.cv A B) :=
  ⟨(h.1.cv g.1).mono (by omega), fun e => hp.nz h.2 g.2 ((cv_lead h.1 g.1).symm.trans e)⟩
/-- no two polynomials that are not 0 have the product 0. -/
theorem cv_nz {p : Nat} (hp : Pri p) {A B : Nat → Int} {N m : Nat} (hA : Ln p N A) (hB : Top p m B) (h : ∀ j, Cg p (cv A B j) 0) : ∀ j, Cg p (A j) 0 := by
  rcases top_or N hA with h1 | ⟨n, _, h2⟩
  · exact h1
  · exact absurd (h (n + m)) (h2.cv hp hB).2
theorem cv_cancel {p : Nat} (hp : Pri p) {A A' B : Nat → Int} {N m : Nat} (hA : Ln p N A) (hA' : Ln p N A') (hB : Top p m B) (h : Ct p (cv A B) (cv A' B)) : Ct p A A' := by
  have h1 := cv_nz hp (hA.sub hA') hB (fun j => by
    rw [sub_cv]
    exact ((h j).sub Cg.rfl).trans (Cg.of_eq (by omega)))
  exact fun j => ((h1 j).add (Cg.rfl (a := A' j))).trans (Cg.of_eq (by omega)) |> fun e => (Cg.of_eq (by omega : A j = A j - A' j + A' j)).trans e
/-- a quotient, and what is left, are one. -/
theorem div_uniq {p : Nat} (hp : Pri p) {A B Q Q' R R' : Nat → Int} {N m : Nat} (hB : Top p m B) (hQ : Ln p N Q) (hQ' : Ln p N Q') (hR : Ln p m R) (hR' : Ln p m R')
    (h : Ct p A (fun j => cv Q B j + R j)) (h' : Ct p A (fun j => cv Q' B j + R' j)) : Ct p Q Q' ∧ Ct p R R' := by
  have e : ∀ j, Cg p (cv (fun i => Q i - Q' i) B j) (R' j - R j) := fun j => by
    rw [sub_cv]
    have h1 : Cg p (cv Q B j + R j) (cv Q' B j + R' j) := (h j).symm.trans (h' j)
    have h2 := h1.sub (Cg.rfl (a := cv Q' B j + R j))
    exact (Cg.of_eq (by omega)).trans (h2.trans (Cg.of_eq (by omega)))
  have hD := hQ.sub hQ'
  have z : ∀ j, Cg p (Q j - Q' j) 0 := by
    rcases top_or N hD with h1 | ⟨n, _, h2⟩
    · exact h1
    · have h3 := (h2.cv hp hB).2
      exact absurd ((e (n + m)).trans (((hR' (n + m) (by omega)).sub (hR (n + m) (by omega))).trans (Cg.of_eq (by omega)))) h3
  have q : Ct p Q Q' := fun j => (Cg.of_eq (by omega : Q j = Q j - Q' j + Q' j)).trans (((z j).add Cg.rfl).trans (Cg.of_eq (by omega)))
  refine ⟨q, fun j => ?_⟩
  have h1 : Cg p (cv Q B j + R j) (cv Q' B j + R' j) := (h j).symm.trans (h' j)
  have h2 := (Ct.cv q (Ct.refl p B)) j
  have h3 := h1.sub h2
  exact (Cg.of_eq (by omega)).trans (h3.trans (Cg.of_eq (by omega)))
end Nmb
namespace Nmb

/-- the sum of two polynomials. -/
def pls (A B : Nat → Int) : Nat → Int := fun j => A j + B j
theorem cvC (A B : Nat → Int) : cv A B = cv B A := funext (cv_comm A B)
theorem cvA (A B C : Nat → Int) : cv (cv A B) C = cv A (cv B C) := funext (cv_assoc A B C)
theorem cvP (A B C : Nat → Int) : cv A (pls B C) = pls (cv A B) (cv A C) := funext (cv_add A B C)
theorem Pcv (A B C : Nat → Int) : cv (pls A B) C = pls (cv A C) (cv B C) := funext (add_cv C A B)
theorem cv1 (A : Nat → Int) : cv (mono 1 0) A = A := funext (cv_one A)
theorem Ct.pls {p : Nat} {A B C D : Nat → Int} (h : Ct p A B) (g : Ct p C D) : Ct p (Nmb.pls A C) (Nmb.pls B D) := h.add g
theorem Ln.pls {p n m : Nat} {A B : Nat → Int} (h : Ln p n A) (g : Ln p m B) : Ln p (n + m) (Nmb.pls A B) := (h.mono (by omega)).add (g.mono (by omega))
theorem Ln.mono1 (p : Nat) (c : Int) (n : Nat) : Ln p (n + 1) (Nmb.mono c n) := fun j hj => Cg.of_eq (if_neg (by omega))
/-- G divides A. -/
def Dvs (p : Nat) (G A : Nat → Int) : Prop := ∃ U N, Ln p N U ∧ Ct p A (cv U G)
theorem Dvs.refl (p : Nat) (G : Nat → Int) : Dvs p G G := ⟨mono 1 0, 1, Ln.mono1 p 1 0, by rw [cv1]; exact Ct.refl p G⟩
theorem Dvs.trans {p : Nat} {A B C : Nat → Int} (h : Dvs p A B) (g : Dvs p B C) : Dvs p A C := by
  obtain ⟨U, N, hU, eU⟩ := h
  obtain ⟨V, M, hV, eV⟩ := g
  exact ⟨cv V U, _, hV.cv hU, eV.trans (((Ct.refl p V).cv eU).trans (Ct.of_eq fun j => by rw [cvA]))⟩
theorem Dvs.cv {p : Nat} {D A S : Nat → Int} {N : Nat} (h : Dvs p D A) (hS : Ln p N S) : Dvs p D (Nmb.cv S A) := by
  obtain ⟨U, M, hU, eU⟩ := h
  exact ⟨Nmb.cv S U, _, hS.cv hU, ((Ct.refl p S).cv eU).trans (Ct.of_eq fun j => by rw [cvA])⟩
theorem Dvs.pls {p : Nat} {D A B : Nat → Int} (h : Dvs p D A) (g : Dvs p D B) : Dvs p D (Nmb.pls A B) := by
  obtain ⟨U, N, hU, eU⟩ := h
  obtain ⟨V, M, hV, eV⟩ := g
  exact ⟨Nmb.pls U V, _, hU.pls hV, (eU.pls eV).trans (Ct.of_eq fun j => by rw [Pcv])⟩
theorem Dvs.ct {p : Nat} {D A B : Nat → Int} (h : Dvs p D A) (c : Ct p A B) : Dvs p D B := by
  obtain ⟨U, N, hU, eU⟩ := h
  exact ⟨U, N, hU, c.symm.trans eU⟩
/-- G is the greatest that divides both, but for a number. -/
structure IsG (p : Nat) (G A B : Nat → Int) : Prop where
  left : Dvs p G A
  right : Dvs p G B
  lin : ∃ S T N, Ln p N S ∧ Ln p N T ∧ Ct p G (pls (cv S A) (cv T B))
theorem IsG.great {p : Nat} {G A B D : Nat → Int} (h : IsG p G A B) (h1 : Dvs p D A) (h2 : Dvs p D B) : Dvs p D G := by
  obtain ⟨S, T, N, hS, hT, e⟩ := h.lin
  exact ((h1.cv hS).pls (h2.cv hT)).ct e.symm
theorem cv_const {p : Nat} {U G : Nat → Int} (h : Ln p 1 U) (j : Nat) : Cg p (cv U G j) (U 0 * G j) := by
  have h1 : Cg p (cv U G j) (sm (fun i => if 0 = i then U i * G (j - i) else 0) (j + 1)) := sm_cg _ fun i _ => by
    by_cases e : 0 = i
    · rw [if_pos e]; exact Cg.rfl
    · rw [if_neg e]; exact (h i (by omega)).mul0
  refine h1.trans (Cg.of_eq ?_)
  rw [sm_one (fun i => U i * G (j - i)) 0 (j + 1) (by omega), Nat.sub_zero]
theorem Top.dvs {p n m : Nat} (hp : Pri p) {G A : Nat → Int} (hG : Top p n G) (hA : Top p m A) (h : Dvs p G A) : ∃ u U, m = u + n ∧ Top p u U ∧ Ct p A (Nmb.cv U G) := by
  obtain ⟨U, N, hU, eU⟩ := h
  rcases top_or N hU with z | ⟨u, _, tu⟩
  · exfalso
    refine hA.2 ((eU m).trans (sm_cg0 _ fun i _ => (z i).mul0))
  · exact ⟨u, U, (hA.ct eU).uniq (tu.cv hp hG), tu, eU⟩
/-- two that divide one another, with 1 as their highest coefficient, are the same. -/
theorem monic_uniq {p n m : Nat} (hp : Pri p) {G H : Nat → Int} (hG : Top p n G) (hH : Top p m H) (g1 : Cg p (G n) 1) (h1 : Cg p (H m) 1) (h : Dvs p G H) (g : Dvs p H G) : Ct p G H := by
  obtain ⟨u, U, e1, tU, eU⟩ := hG.dvs hp hH h
  obtain ⟨v, _, e2, _, _⟩ := hH.dvs hp hG g
  obtain rfl : u = 0 := by omega
  obtain rfl : m = n := by omega
  have c1 := cv_const (G := G) tU.1
  have k : Cg p (U 0) 1 := by
    have h3 := ((eU m).trans (c1 m)).symm.trans h1
    exact ((Cg.of_eq (Int.mul_one (U 0)).symm).trans ((Cg.rfl (a := U 0)).mul g1.symm)).trans h3
  exact fun j => ((Cg.of_eq (Int.one_mul (G j)).symm).trans (k.symm.mul Cg.rfl)).trans (((eU j).trans (c1 j)).symm)
theorem IsG.uniq {p n m : Nat} (hp : Pri p) {G H A B : Nat → Int} (hG : Top p n G) (hH : Top p m H) (g1 : Cg p (G n) 1) (h1 : Cg p (H m) 1) (a : IsG p G A B) (b : IsG p H A B) : Ct p G H :=
  monic_uniq hp hG hH g1 h1 (b.great a.left a.right) (a.great b.left b.right)
theorem dvs_low {p v : Nat} (hp : Pri p) {V D : Nat → Int} (hV : Top p v V) (hD : Ln p v D) (h : Dvs p V D) : ∀ j, Cg p (D j) 0 := by
  rcases top_or v hD with z | ⟨n, hn, t⟩
  · exact z
  · obtain ⟨u, _, e, _, _⟩ := hV.dvs hp t h
    omega
/-- the polynomials by which the divisor comes of both are one, if that of A is short. -/
theorem ext_uniq {p n v : Nat} (hp : Pri p) {G A B U V S T S' T' : Nat → Int} {N : Nat} (hG : Top p n G) (hV : Top p v V) (hU : Ln p N U) (hS : Ln p v S) (hS' : Ln p v S') (hT : Ln p N T) (hT' : Ln p N T')
    (eA : Ct p A (cv U G)) (eB : Ct p B (cv V G)) (e : Ct p G (pls (cv S A) (cv T B))) (e' : Ct p G (pls (cv S' A) (cv T' B))) : Ct p S S' ∧ Ct p T T' := by
  have one : ∀ S T : Nat → Int, Ln p v S → Ln p N T → Ct p G (pls (cv S A) (cv T B)) → Ct p (pls (cv S U) (cv T V)) (mono 1 0) := fun S T hS hT e => by
    have l1 : Ln p (v + N - 1 + (N + (v + 1) - 1) + 1) (pls (cv S U) (cv T V)) := ((hS.cv hU).pls (hT.cv hV.1)).mono (by omega)
    refine cv_cancel hp l1 ((Ln.mono1 p 1 0).mono (by omega)) hG ?_
    rw [cv1, Pcv, cvA, cvA]
    exact ((((Ct.refl p S).cv eA).pls ((Ct.refl p T).cv eB)).symm).trans e.symm
  have o1 := one S T hS hT e
  have o2 := one S' T' hS' hT' e'
  obtain ⟨D, hD⟩ : ∃ D : Nat → Int, D = fun j => S j - S' j := ⟨_, rfl⟩
  obtain ⟨E, hE⟩ : ∃ E : Nat → Int, E = fun j => T' j - T j := ⟨_, rfl⟩
  have lD : Ln p v D := by rw [hD]; exact hS.sub hS'
  have lE : Ln p N E := by rw [hE]; exact hT'.sub hT
  have du : Ct p (cv D U) (cv E V) := fun j => by
    have h1 : Cg p (cv S U j + cv T V j) (cv S' U j + cv T' V j) := (o1 j).trans (o2 j).symm
    rw [hD, hE, sub_cv, sub_cv]
    have h2 := h1.sub (Cg.rfl (a := cv S' U j + cv T V j))
    exact (Cg.of_eq (by omega)).trans (h2.trans (Cg.of_eq (by omega)))
  have dv : Dvs p V D := by
    refine ⟨pls (cv S E) (cv T D), _, (hS.cv lE).pls (hT.cv lD), ?_⟩
    have h1 : Ct p D (cv (pls (cv S U) (cv T V)) D) := by
      have := (o1.cv (Ct.refl p D)).symm
      rw [cv1] at this
      exact this
    refine h1.trans ?_
    rw [Pcv, Pcv, cvA, cvA, cvA, cvA, cvC U D, cvC V D]
    exact ((Ct.refl p S).cv du).pls (Ct.refl p _)
  have z := dvs_low hp hV lD dv
  have s : Ct p S S' := fun j => by
    have := z j
    rw [hD] at this
    exact (Cg.of_eq (by omega : S j = S j - S' j + S' j)).trans ((this.add Cg.rfl).trans (Cg.of_eq (by omega)))
  refine ⟨s, ?_⟩
  have z2 : ∀ j, Cg p (cv E V j) 0 := fun j => (du j).symm.trans (sm_cg0 _ fun i _ => (z i).mul0)
  have z3 := cv_nz hp lE hV z2
  exact fun j => by
    have := z3 j
    rw [hE] at this
    have h3 : Cg p (T' j - T j) 0 := this
    have h2 := (Cg.rfl (p := p) (a := T' j)).sub h3
    exact (Cg.of_eq (by omega : T j = T' j - (T' j - T j))).trans (h2.trans (Cg.of_eq (by omega)))
end Nmb
namespace Nmb

/-- the polynomial A, of n coefficients, in its one form. -/
structure NP (p n : Nat) (A : Nat → Int) : Prop where
  bd : ∀ j, 0 ≤ A j ∧ A j < p
  out : ∀ j, n ≤ j → A j = 0
  top : n = 0 ∨ A (n - 1) ≠ 0
theorem Cg.small {p : Nat} {a b : Int} (h : Cg p a b) (ha : 0 ≤ a ∧ a < p) (hb : 0 ≤ b ∧ b < p) : a = b := by
  unfold Cg at h
  rwa [Int.emod_eq_of_lt ha.1 ha.2, Int.emod_eq_of_lt hb.1 hb.2] at h
theorem NP.ln {p n : Nat} {A : Nat → Int} (h : NP p n A) : Ln p n A := fun j hj => Cg.of_eq (h.out j hj)
theorem NP.nz {p n : Nat} {A : Nat → Int} (h : NP p n A) {j : Nat} (hj : A j ≠ 0) : ¬ Cg p (A j) 0 := fun e => hj (by
  have := h.bd j
  exact e.small (h.bd j) ⟨Int.le_refl _, by omega⟩)
theorem NP.tp {p n : Nat} {A : Nat → Int} (h : NP p (n + 1) A) : Top p n A := ⟨h.ln, h.nz (by
  rcases h.top with h1 | h1
  · omega
  · exact h1)⟩
/-- two forms of one polynomial are the same. -/
theorem NP.eq {p n m : Nat} {A B : Nat → Int} (h : NP p n A) (g : NP p m B) (e : Ct p A B) : A = B ∧ n = m := by
  have ab : A = B := funext fun j => (e j).small (h.bd j) (g.bd j)
  refine ⟨ab, ?_⟩
  subst ab
  apply Nat.le_antisymm
  · apply Nat.le_of_not_lt; intro hl
    rcases h.top with h1 | h1
    · omega
    · exact h1 (g.out (n - 1) (by omega))
  · apply Nat.le_of_not_lt; intro hl
    rcases g.top with h1 | h1
    · omega
    · exact h1 (h.out (m - 1) (by omega))
theorem NP.le {p k N : Nat} {A : Nat → Int} (h : NP p k A) (ho : ∀ j, N ≤ j → A j = 0) : k ≤ N := by
  apply Nat.le_of_not_lt
  intro hl
  rcases h.top with h1 | h1
  · omega
  · exact h1 (ho (k - 1) (by omega))
theorem NP.zero {p : Nat} (hp : 0 < p) : NP p 0 (fun _ => 0) := ⟨fun _ => by omega, fun _ _ => rfl, Or.inl rfl⟩
theorem NP.nil {p : Nat} {A : Nat → Int} (h : NP p 0 A) : A = fun _ => 0 := funext fun j => h.out j (Nat.zero_le _)
/-- every row of numbers has one: how long it is. -/
theorem np_ex {p : Nat} (hp : 0 < p) (x : Nat → Int) : ∀ n, (∀ j, n ≤ j → Cg p (x j) 0) → ∃ m, m ≤ n ∧ NP p m (fun j => x j % p)
  | 0, h => ⟨0, Nat.le_refl _, fun j => ⟨Int.emod_nonneg _ (by omega), Int.emod_lt_of_pos _ (by omega)⟩, fun j hj => by
      have := h j (Nat.zero_le _)
      unfold Cg at this
      rw [Int.zero_emod] at this
      exact this, Or.inl rfl⟩
  | n + 1, h => by
    by_cases e : x n % p = 0
    · obtain ⟨m, hm, M⟩ := np_ex hp x n (fun j hj => by
        by_cases q : j = n
        · rw [q]; unfold Cg; rw [e, Int.zero_emod]
        · exact h j (by omega))
      exact ⟨m, by omega, M⟩
    · refine ⟨n + 1, Nat.le_refl _, fun j => ⟨Int.emod_nonneg _ (by omega), Int.emod_lt_of_pos _ (by omega)⟩, fun j hj => ?_, Or.inr e⟩
      have := h j hj
      unfold Cg at this
      rw [Int.zero_emod] at this
      exact this
/-- a list as a row: 0 behind its end. -/
def ax (a : Nat → Int) (n j : Nat) : Int := if j < n then a j else 0
theorem ax_out (a : Nat → Int) {n j : Nat} (h : n ≤ j) : ax a n j = 0 := if_neg (by omega)
theorem ax_in (a : Nat → Int) {n j : Nat} (h : j < n) : ax a n j = a j := if_pos h
theorem NP.ax {p n : Nat} {A : Nat → Int} (h : NP p n A) : Nmb.ax A n = A := funext fun j => by
  by_cases e : j < n
  · exact ax_in A e
  · rw [ax_out A (by omega), h.out j (by omega)]
theorem mod_ct {p : Nat} (x : Nat → Int) : Ct p (fun j => x j % p) x := fun _ => Cg.mod
end Nmb
namespace Nmb

theorem rv_cat : ∀ m d B i, i < 2 ^ m → rv (d + m) (B * 2 ^ m + i) = rv d B + 2 ^ d * rv m i
  | 0, d, B, i, h => by
    obtain rfl : i = 0 := by rw [Nat.pow_zero] at h; omega
    rw [Nat.pow_zero, Nat.mul_one, Nat.add_zero, Nat.add_zero]
    show _ = _ + 2 ^ d * 0
    omega
  | m + 1, d, B, i, h => by
    have e1 : (B * 2 ^ (m + 1) + i) % 2 = i % 2 := by
      rw [Nat.pow_succ, ← Nat.mul_assoc]
      omega
    have e2 : (B * 2 ^ (m + 1) + i) / 2 = B * 2 ^ m + i / 2 := by
      rw [Nat.pow_succ, ← Nat.mul_assoc]
      omega
    have h' : i / 2 < 2 ^ m := by rw [Nat.pow_succ] at h; omega
    show (B * 2 ^ (m + 1) + i) % 2 * 2 ^ (d + m) + rv (d + m) ((B * 2 ^ (m + 1) + i) / 2) = rv d B + 2 ^ d * (i % 2 * 2 ^ m + rv m (i / 2))
    rw [e1, e2, rv_cat m d B (i / 2) h', Nat.mul_add, Nat.pow_add, Nat.mul_left_comm (2 ^ d)]
    omega
/-- the values at the points below the place b of the depth k - m, of what is left there. -/
def lf (w : Int) (k : Nat) : Nat → Nat → (Nat → Int) → Nat → Int
  | 0, _, A, _ => A 0
  | m + 1, b, A, i => if i < 2 ^ m then lf w k m (2 * b) (fun j => A j + nd w k (k - m) (2 * b) * A (j + 2 ^ m)) i
      else lf w k m (2 * b + 1) (fun j => A j - nd w k (k - m) (2 * b) * A (j + 2 ^ m)) (i - 2 ^ m)
theorem ev_halves (A : Nat → Int) (h : Nat) (x : Int) : ev A (2 * h) x = ev A h x + x ^ h * ev (fun j => A (j + h)) h x := by
  unfold ev
  rw [Nat.two_mul, sm_app, ← sm_mul]
  congr 1
  refine sm_eq _ fun j _ => ?_
  rw [Nat.add_comm h j, Int.pow_add, Int.mul_left_comm, Int.mul_comm (x ^ h)]
  grind
theorem ev_mulc (A : Nat → Int) (c : Int) (n : Nat) (x : Int) : ev (fun j => c * A j) n x = c * ev A n x := by
  unfold ev
  rw [← sm_mul]
  exact sm_eq _ fun j _ => Int.mul_assoc ..
theorem Rt.lf_ev {p : Nat} {w : Int} {k : Nat} (R : Rt p w k) : ∀ m, m ≤ k → ∀ b A i, i < 2 ^ m → Cg p (lf w k m b A i) (ev A (2 ^ m) (w ^ rv k (b * 2 ^ m + i)))
  | 0, _, b, A, i, _ => by
    show Cg p (A 0) (ev A 1 _)
    rw [ev_front]
    exact Cg.of_eq (by show A 0 = A 0 + _ * 0; rw [Int.mul_zero, Int.add_zero])
  | m + 1, hm, b, A, i, hi => by
    have e2 : 2 ^ (m + 1) = 2 * 2 ^ m := by rw [Nat.pow_succ, Nat.mul_comm]
    have key : ∀ B i, i < 2 ^ m → Cg p ((w ^ rv k (B * 2 ^ m + i)) ^ 2 ^ m) (nd w k (k - m) B) := fun B i hi => by
      have h1 := rv_cat m (k - m) B i hi
      rw [Nat.sub_add_cancel (by omega)] at h1
      unfold nd
      rw [h1, ← Int.pow_mul, Nat.add_mul, Int.pow_add, show k - (k - m) = m by omega]
      have h2 : Cg p (w ^ (2 ^ (k - m) * rv m i * 2 ^ m)) 1 := by
        rw [Nat.mul_right_comm, ← Nat.pow_add, Nat.sub_add_cancel (by omega), Int.pow_mul]
        exact R.one.pow_one _
      have := (Cg.rfl (p := p) (a := w ^ (rv (k - m) B * 2 ^ m))).mul h2
      rw [Int.mul_one] at this
      exact this
    rw [e2, ev_halves]
    show Cg p (if i < 2 ^ m then _ else _) _
    by_cases h : i < 2 ^ m
    · rw [if_pos h]
      refine (R.lf_ev m (by omega) (2 * b) _ i h).trans ?_
      rw [ev_add, ev_mulc, show 2 * b * 2 ^ m + i = b * (2 * 2 ^ m) + i by rw [Nat.mul_comm 2 b, Nat.mul_assoc]]
      refine Cg.rfl.add (Cg.mul ?_ Cg.rfl)
      have := key (2 * b) i h
      rw [show 2 * b * 2 ^ m + i = b * (2 * 2 ^ m) + i by rw [Nat.mul_comm 2 b, Nat.mul_assoc]] at this
      exact this.symm
    · rw [if_neg h]
      have hi' : i - 2 ^ m < 2 ^ m := by omega
      refine (R.lf_ev m (by omega) (2 * b + 1) _ (i - 2 ^ m) hi').trans ?_
      have ei : (2 * b + 1) * 2 ^ m + (i - 2 ^ m) = b * (2 * 2 ^ m) + i := by
        rw [Nat.add_mul, Nat.mul_comm 2 b, Nat.mul_assoc]
        omega
      rw [ev_sub, ev_mulc, ei]
      have k1 := key (2 * b + 1) (i - 2 ^ m) hi'
      rw [ei] at k1
      have k2 := R.nd_high (d := k - m - 1) (by omega) b
      rw [show k - m - 1 + 1 = k - m by omega] at k2
      have k3 := k1.trans k2
      have k4 := (Cg.rfl (p := p) (a := ev A (2 ^ m) (w ^ rv k (b * (2 * 2 ^ m) + i)))).add (k3.mul (Cg.rfl (p := p) (a := ev (fun j => A (j + 2 ^ m)) (2 ^ m) (w ^ rv k (b * (2 * 2 ^ m) + i)))))
      refine (k4.trans (Cg.of_eq ?_)).symm
      rw [Int.neg_mul]
      omega
/-- all values. -/
theorem Rt.lf_all {p : Nat} {w : Int} {k : Nat} (R : Rt p w k) (A : Nat → Int) (i : Nat) (hi : i < 2 ^ k) : Cg p (lf w k k 0 A i) (ev A (2 ^ k) (w ^ rv k i)) := by
  have := R.lf_ev k (Nat.le_refl _) 0 A i hi
  rw [Nat.zero_mul, Nat.zero_add] at this
  exact this
theorem lf_cg {p : Nat} {w : Int} {k : Nat} : ∀ m b A A' i, (∀ j, j < 2 ^ m → Cg p (A j) (A' j)) → i < 2 ^ m → Cg p (lf w k m b A i) (lf w k m b A' i)
  | 0, _, A, A', _, h, _ => h 0 (by rw [Nat.pow_zero]; omega)
  | m + 1, b, A, A', i, h, hi => by
    have e2 : 2 ^ (m + 1) = 2 * 2 ^ m := by rw [Nat.pow_succ, Nat.mul_comm]
    show Cg p (if i < 2 ^ m then _ else _) (if i < 2 ^ m then _ else _)
    by_cases hl : i < 2 ^ m
    · rw [if_pos hl, if_pos hl]
      exact lf_cg m _ _ _ i (fun j hj => (h j (by omega)).add (Cg.rfl.mul (h (j + 2 ^ m) (by omega)))) hl
    · rw [if_neg hl, if_neg hl]
      exact lf_cg m _ _ _ _ (fun j hj => (h j (by omega)).sub (Cg.rfl.mul (h (j + 2 ^ m) (by omega)))) (by omega)
end Nmb
namespace Nmb

/-- the list Z has the first n values of A, and A's coefficients behind them. -/
def Mxd (p : Nat) (w : Int) (k m b n : Nat) (A Z : Nat → Int) : Prop := (∀ i, i < n → i < 2 ^ m → Cg p (Z i) (lf w k m b A i)) ∧ ∀ i, n ≤ i → i < 2 ^ m → Cg p (Z i) (A i)
theorem Mxd.cg {p : Nat} {w : Int} {k m b n : Nat} {A Z Z' : Nat → Int} (h : Mxd p w k m b n A Z) (e : ∀ i, i < 2 ^ m → Cg p (Z' i) (Z i)) : Mxd p w k m b n A Z' :=
  ⟨fun i h1 h2 => (e i h2).trans (h.1 i h1 h2), fun i h1 h2 => (e i h2).trans (h.2 i h1 h2)⟩
theorem Mxd.zero {p : Nat} {w : Int} {k b n : Nat} {Z : Nat → Int} : Mxd p w k 0 b n Z Z :=
  ⟨fun i _ h2 => by
    obtain rfl : i = 0 := by rw [Nat.pow_zero] at h2; omega
    exact Cg.rfl, fun _ _ _ => Cg.rfl⟩
/-- no more values than half of them. -/
theorem Mxd.small {p : Nat} {w : Int} {k m b n : Nat} {lo Z A : Nat → Int} (hn : n ≤ 2 ^ m)
    (h : Mxd p w k m (2 * b) n lo (fun i => if i < n then Z i else Z i + nd w k (k - m) (2 * b) * Z (i + 2 ^ m)))
    (h1 : ∀ j, j < 2 ^ m → Cg p (A j) (lo j - nd w k (k - m) (2 * b) * Z (j + 2 ^ m)))
    (h2 : ∀ j, j < 2 ^ m → Cg p (A (j + 2 ^ m)) (Z (j + 2 ^ m))) : Mxd p w k (m + 1) b n A Z := by
  have e2 : 2 ^ (m + 1) = 2 * 2 ^ m := by rw [Nat.pow_succ, Nat.mul_comm]
  have lov : ∀ j, j < 2 ^ m → Cg p (A j + nd w k (k - m) (2 * b) * A (j + 2 ^ m)) (lo j) := fun j hj => by
    have := (h1 j hj).add ((Cg.rfl (p := p) (a := nd w k (k - m) (2 * b))).mul (h2 j hj))
    rw [Int.sub_add_cancel] at this
    exact this
  refine ⟨fun i hi hi2 => ?_, fun i hi hi2 => ?_⟩
  · have h3 := h.1 i hi (by omega)
    have h3' : Cg p (Z i) (lf w k m (2 * b) lo i) := by
      have e : (if i < n then Z i else Z i + nd w k (k - m) (2 * b) * Z (i + 2 ^ m)) = Z i := if_pos hi
      rw [← e]
      exact h3
    show Cg p (Z i) (if i < 2 ^ m then _ else _)
    rw [if_pos (by omega)]
    exact h3'.trans (lf_cg m _ _ _ i (fun j hj => (lov j hj).symm) (by omega))
  · by_cases hl : i < 2 ^ m
    · have h3 := h.2 i hi hl
      have e : (if i < n then Z i else Z i + nd w k (k - m) (2 * b) * Z (i + 2 ^ m)) = Z i + nd w k (k - m) (2 * b) * Z (i + 2 ^ m) := if_neg (by omega)
      have h4 : Cg p (Z i + nd w k (k - m) (2 * b) * Z (i + 2 ^ m)) (lo i) := by rw [← e]; exact h3
      have h5 := (h4.sub (Cg.rfl (p := p) (a := nd w k (k - m) (2 * b) * Z (i + 2 ^ m)))).trans (h1 i hl).symm
      rw [Int.add_sub_cancel] at h5
      exact h5
    · obtain ⟨j, rfl⟩ : ∃ j, i = j + 2 ^ m := ⟨i - 2 ^ m, by omega⟩
      exact (h2 j (by omega)).symm
/-- half of the values at least. -/
theorem Mxd.great {p : Nat} {w : Int} {k m b n : Nat} {lo hi Z A : Nat → Int} {c d : Int} (hn : 2 ^ m ≤ n)
    (hc : Cg p (2 * c) 1) (hd : Cg p (d * nd w k (k - m) (2 * b)) c)
    (h : ∀ i, i < 2 ^ m → Cg p (Z i) (lf w k m (2 * b) lo i))
    (h' : Mxd p w k m (2 * b + 1) (n - 2 ^ m) hi (fun i => if i < n - 2 ^ m then Z (i + 2 ^ m) else lo i - 2 * (nd w k (k - m) (2 * b) * Z (i + 2 ^ m))))
    (h1 : ∀ j, j < 2 ^ m → Cg p (A j) ((lo j + hi j) * c))
    (h2 : ∀ j, j < 2 ^ m → Cg p (A (j + 2 ^ m)) ((lo j - hi j) * d)) : Mxd p w k (m + 1) b n A Z := by
  have e2 : 2 ^ (m + 1) = 2 * 2 ^ m := by rw [Nat.pow_succ, Nat.mul_comm]
  generalize he : nd w k (k - m) (2 * b) = e at *
  have half : ∀ x y : Int, Cg p ((x + y) * c + e * ((x - y) * d)) x := fun x y => by
    have a1 : Cg p ((x + y) * c + e * ((x - y) * d)) ((x + y) * c + (x - y) * c) := by
      refine Cg.rfl.add ?_
      have := (Cg.rfl (p := p) (a := x - y)).mul hd
      exact (Cg.of_eq (by grind)).trans this
    refine a1.trans ((Cg.of_eq (b := x * (2 * c)) (by grind)).trans ?_)
    have := (Cg.rfl (p := p) (a := x)).mul hc
    rw [Int.mul_one] at this
    exact this
  have half2 : ∀ x y : Int, Cg p ((x + y) * c - e * ((x - y) * d)) y := fun x y => by
    have a1 : Cg p ((x + y) * c - e * ((x - y) * d)) ((x + y) * c - (x - y) * c) := by
      refine Cg.rfl.sub ?_
      have := (Cg.rfl (p := p) (a := x - y)).mul hd
      exact (Cg.of_eq (by grind)).trans this
    refine a1.trans ((Cg.of_eq (b := y * (2 * c)) (by grind)).trans ?_)
    have := (Cg.rfl (p := p) (a := y)).mul hc
    rw [Int.mul_one] at this
    exact this
  have lov : ∀ j, j < 2 ^ m → Cg p (A j + e * A (j + 2 ^ m)) (lo j) := fun j hj => ((h1 j hj).add (Cg.rfl.mul (h2 j hj))).trans (half _ _)
  have hiv : ∀ j, j < 2 ^ m → Cg p (A j - e * A (j + 2 ^ m)) (hi j) := fun j hj => ((h1 j hj).sub (Cg.rfl.mul (h2 j hj))).trans (half2 _ _)
  refine ⟨fun i hi1 hi2 => ?_, fun i hi1 hi2 => ?_⟩
  · show Cg p (Z i) (if i < 2 ^ m then _ else _)
    by_cases hl : i < 2 ^ m
    · rw [if_pos hl, he]
      exact (h i hl).trans (lf_cg m _ _ _ i (fun j hj => (lov j hj).symm) hl)
    · rw [if_neg hl, he]
      have h3 := h'.1 (i - 2 ^ m) (by omega) (by omega)
      have e3 : (if i - 2 ^ m < n - 2 ^ m then Z (i - 2 ^ m + 2 ^ m) else lo (i - 2 ^ m) - 2 * (e * Z (i - 2 ^ m + 2 ^ m))) = Z i := by
        rw [if_pos (by omega), Nat.sub_add_cancel (by omega)]
      have h4 : Cg p (Z i) (lf w k m (2 * b + 1) hi (i - 2 ^ m)) := by rw [← e3]; exact h3
      exact h4.trans (lf_cg m _ _ _ _ (fun j hj => (hiv j hj).symm) (by omega))
  · obtain ⟨j, rfl⟩ : ∃ j, i = j + 2 ^ m := ⟨i - 2 ^ m, by omega⟩
    have h3 := h'.2 j (by omega) (by omega)
    have e3 : (if j < n - 2 ^ m then Z (j + 2 ^ m) else lo j - 2 * (e * Z (j + 2 ^ m))) = lo j - 2 * (e * Z (j + 2 ^ m)) := if_neg (by omega)
    have h4 : Cg p (lo j - 2 * (e * Z (j + 2 ^ m))) (hi j) := by rw [← e3]; exact h3
    -- lo - hi = 2 e Z
    have h5 : Cg p (lo j - hi j) (2 * (e * Z (j + 2 ^ m))) := by
      have := (Cg.rfl (p := p) (a := lo j)).sub h4.symm
      exact this.trans (Cg.of_eq (by omega))
    have h6 := (h5.mul (Cg.rfl (p := p) (a := d))).symm
    have h7 : Cg p (2 * (e * Z (j + 2 ^ m)) * d) (Z (j + 2 ^ m)) := by
      have a1 : 2 * (e * Z (j + 2 ^ m)) * d = 2 * (d * e) * Z (j + 2 ^ m) := by grind
      rw [a1]
      have a2 := (((Cg.rfl (p := p) (a := 2)).mul hd).trans hc).mul (Cg.rfl (p := p) (a := Z (j + 2 ^ m)))
      rw [Int.one_mul] at a2
      exact a2
    exact h7.symm.trans (h6.trans (h2 j (by omega)).symm)
/-- what is found has the values. -/
theorem Rt.mxd_found {p : Nat} {w : Int} {k n : Nat} {A Z : Nat → Int} (R : Rt p w k) (hn : n ≤ 2 ^ k) (h : Mxd p w k k 0 n A Z) (h0 : ∀ i, n ≤ i → i < 2 ^ k → Z i = 0) (i : Nat) (hi : i < n) : Cg p (ev A n (w ^ rv k i)) (Z i) := by
  have h1 := h.1 i hi (by omega)
  refine Cg.symm (h1.trans ((R.lf_all A i (by omega)).trans ?_))
  have h2 : Cg p (ev A (2 ^ k) (w ^ rv k i)) (ev (fun j => if j < n then A j else 0) (2 ^ k) (w ^ rv k i)) := ev_cg (fun j hj => by
    show Cg p (A j) (if j < n then A j else 0)
    by_cases e : j < n
    · rw [if_pos e]; exact Cg.rfl
    · rw [if_neg e]
      have := h.2 j (by omega) hj
      rw [h0 j (by omega) hj] at this
      exact this.symm) Cg.rfl
  refine h2.trans (Cg.of_eq ?_)
  rw [ev_long (m := n) hn (fun j h3 _ => if_neg (by omega))]
  exact sm_eq _ fun j hj => by show (if j < n then A j else 0) * _ = _; rw [if_pos hj]
end Nmb
namespace Nmb

theorem rv_nil : ∀ M, rv M 0 = 0
  | 0 => rfl
  | M + 1 => by
    show 0 % 2 * 2 ^ M + rv M (0 / 2) = 0
    rw [Nat.zero_div, rv_nil M]
    simp
/-- two places that follow each other in reverse have exponents whose sum is half of all. -/
theorem rv_flip : ∀ q M t, q < M → t < 2 ^ q → rv M (2 ^ q + t) + rv M (2 ^ q + (2 ^ q - 1 - t)) = 2 ^ M
  | _, 0, _, h, _ => absurd h (Nat.not_lt_zero _)
  | 0, M + 1, t, _, h => by
    obtain rfl : t = 0 := by rw [Nat.pow_zero] at h; omega
    have e : rv (M + 1) 1 = 2 ^ M := by
      show 1 % 2 * 2 ^ M + rv M (1 / 2) = 2 ^ M
      rw [show 1 / 2 = 0 from rfl, rv_nil, show 1 % 2 = 1 from rfl]
      omega
    show rv (M + 1) 1 + rv (M + 1) 1 = 2 ^ (M + 1)
    rw [e, Nat.pow_succ]
    omega
  | q + 1, M + 1, t, hq, h => by
    have h2 : t < 2 * 2 ^ q := by rw [Nat.pow_succ] at h; omega
    have ih := rv_flip q M (t / 2) (by omega) (by omega)
    have l0 : 0 < 2 ^ q := Nat.two_pow_pos q
    have a1 : (2 ^ (q + 1) + t) % 2 = t % 2 := by rw [Nat.pow_succ]; omega
    have a2 : (2 ^ (q + 1) + t) / 2 = 2 ^ q + t / 2 := by rw [Nat.pow_succ]; omega
    have b1 : (2 ^ (q + 1) + (2 ^ (q + 1) - 1 - t)) % 2 = 1 - t % 2 := by rw [Nat.pow_succ]; omega
    have b2 : (2 ^ (q + 1) + (2 ^ (q + 1) - 1 - t)) / 2 = 2 ^ q + (2 ^ q - 1 - t / 2) := by rw [Nat.pow_succ]; omega
    show (2 ^ (q + 1) + t) % 2 * 2 ^ M + rv M ((2 ^ (q + 1) + t) / 2) + ((2 ^ (q + 1) + (2 ^ (q + 1) - 1 - t)) % 2 * 2 ^ M + rv M ((2 ^ (q + 1) + (2 ^ (q + 1) - 1 - t)) / 2)) = 2 ^ (M + 1)
    rw [a1, a2, b1, b2, Nat.pow_succ]
    rcases Nat.mod_two_eq_zero_or_one t with e | e <;> rw [e] <;> simp <;> omega
theorem xor_flip (q t : Nat) (h : t < 2 ^ q) : (2 ^ q + t) ^^^ (2 ^ q - 1) = 2 ^ q + (2 ^ q - 1 - t) := by
  apply Nat.eq_of_testBit_eq
  intro i
  have hp : 2 ^ q - 1 - t = 2 ^ q - (t + 1) := by omega
  have h2 : 2 ^ q - (t + 1) < 2 ^ q := by omega
  rw [hp, Nat.testBit_xor, Nat.testBit_two_pow_sub_one]
  rcases Nat.lt_trichotomy i q with hi | hi | hi
  · rw [Nat.testBit_two_pow_add_gt hi, Nat.testBit_two_pow_add_gt hi, Nat.testBit_two_pow_sub_succ h]
    simp [hi]
  · subst hi
    rw [Nat.testBit_two_pow_add_eq, Nat.testBit_two_pow_add_eq, Nat.testBit_lt_two_pow h, Nat.testBit_lt_two_pow h2]
    simp
  · have e : 2 ^ (q + 1) ≤ 2 ^ i := Nat.pow_le_pow_right (by decide) (by omega)
    rw [Nat.pow_succ] at e
    rw [Nat.testBit_lt_two_pow (x := 2 ^ q + t) (by omega), Nat.testBit_lt_two_pow (x := 2 ^ q + (2 ^ q - (t + 1))) (by omega)]
    simp
    omega
/-- what a half leaves is told by a point. -/
theorem nd_pt (w : Int) {k m B : Nat} (hm : m ≤ k) (hB : B < 2 ^ (k - m)) : nd w k (k - m) B = w ^ rv k B := by
  have h := rv_cat (k - m) m 0 B hB
  rw [Nat.zero_mul, Nat.zero_add, Nat.add_sub_cancel' hm] at h
  unfold nd
  rw [h, rv_nil, Nat.zero_add, Nat.mul_comm, show k - (k - m) = m by omega]
/-- a point and the inverse of it. -/
theorem Rt.flip {p : Nat} {w : Int} {k : Nat} (R : Rt p w (k + 1)) (q t : Nat) (hq : q < k) (ht : t < 2 ^ q) : Cg p (w ^ rv (k + 1) (2 * (2 ^ q + t)) * -(w ^ rv (k + 1) (2 * (2 ^ q + (2 ^ q - 1 - t))))) 1 := by
  rw [rv_even, rv_even, Int.mul_neg, ← Int.pow_add, rv_flip q k t hq ht]
  have h1 : Cg p (w ^ 2 ^ k) (-1) := R.half (Nat.succ_pos k)
  have := (Cg.rfl (p := p) (a := 0)).sub h1
  rw [Int.zero_sub, Int.zero_sub] at this
  exact this
/-- a half of an odd modulus. -/
theorem half_said {p : Nat} {c x y : Int} (hc : Cg p (2 * c) 1) (h : Cg p (2 * y) x) : Cg p y (x * c) := by
  have h1 := h.mul (Cg.rfl (p := p) (a := c))
  have h2 := hc.mul (Cg.rfl (p := p) (a := y))
  rw [Int.one_mul] at h2
  exact h2.symm.trans ((Cg.of_eq (by rw [Int.mul_right_comm])).trans h1)
theorem half_is {p : Nat} (ho : (p : Int) % 2 = 1) : Cg p (2 * (((p : Int) + 1) / 2)) 1 := by
  have e : 2 * (((p : Int) + 1) / 2) = 1 + p := by omega
  rw [e]
  unfold Cg
  rw [Int.add_emod_right]
/-- the values of a product. -/
theorem ev_prd (a b : Nat → Int) {n m N : Nat} (h : n + m ≤ N + 1) (x : Int) : ev (prd a b n m) N x = ev a n x * ev b m x := by
  have h1 : ev (prd a b n m) N x = sm (fun j => sm (fun i => sm (fun l => if i + l = j then a i * b l * x ^ j else 0) m) n) N := sm_eq _ fun j _ => by
    show sm (fun i => sm (fun l => if i + l = j then a i * b l else 0) m) n * x ^ j = _
    rw [← sm_mulr]
    refine sm_eq _ fun i _ => ?_
    rw [← sm_mulr]
    refine sm_eq _ fun l _ => ?_
    by_cases e : i + l = j
    · rw [if_pos e, if_pos e]
    · rw [if_neg e, if_neg e, Int.zero_mul]
  rw [h1, sm_swap (fun j i => sm (fun l => if i + l = j then a i * b l * x ^ j else 0) m)]
  have h2 : sm (fun i => sm (fun j => sm (fun l => if i + l = j then a i * b l * x ^ j else 0) m) N) n = sm (fun i => a i * x ^ i * ev b m x) n := sm_eq _ fun i hi => by
    rw [sm_swap (fun j l => if i + l = j then a i * b l * x ^ j else 0)]
    unfold ev
    rw [← sm_mul]
    refine sm_eq _ fun l hl => ?_
    rw [sm_one (fun j => a i * b l * x ^ j) (i + l) N (by omega), Int.pow_add]
    grind
  rw [h2, sm_mulr]
  rfl
end Nmb
namespace Nmb

theorem sm_shift (f : Nat → Int) : ∀ n, sm f (n + 1) = f 0 + sm (fun i => f (i + 1)) n
  | 0 => by show (0 : Int) + f 0 = f 0 + 0; omega
  | n + 1 => by rw [sm_succ, sm_shift f n, sm_succ]; omega
/-- the derivative. -/
def drv (A : Nat → Int) (j : Nat) : Int := A (j + 1) * ((j + 1 : Nat) : Int)
/-- the derivative of a product, after Leibniz. -/
theorem leibniz (A B : Nat → Int) (j : Nat) : drv (cv A B) j = cv (drv A) B j + cv A (drv B) j := by
  unfold drv
  have e1 : cv A B (j + 1) * ((j + 1 : Nat) : Int) = sm (fun i => A i * B (j + 1 - i) * (i : Int)) (j + 1 + 1) + sm (fun i => A i * B (j + 1 - i) * ((j + 1 - i : Nat) : Int)) (j + 1 + 1) := by
    unfold cv
    rw [← sm_mulr, ← sm_add]
    refine sm_eq _ fun i hi => ?_
    rw [← Int.mul_add]
    congr 1
    omega
  have e2 : sm (fun i => A i * B (j + 1 - i) * (i : Int)) (j + 1 + 1) = cv (drv A) B j := by
    rw [sm_shift]
    unfold cv drv
    rw [show A 0 * B (j + 1 - 0) * ((0 : Nat) : Int) = 0 from Int.mul_zero _, Int.zero_add]
    refine sm_eq _ fun i hi => ?_
    rw [show j + 1 - (i + 1) = j - i by omega, Int.mul_right_comm]
  have e3 : sm (fun i => A i * B (j + 1 - i) * ((j + 1 - i : Nat) : Int)) (j + 1 + 1) = cv A (drv B) j := by
    rw [sm_succ, Nat.sub_self, show A (j + 1) * B 0 * ((0 : Nat) : Int) = 0 from Int.mul_zero _, Int.add_zero]
    unfold cv drv
    refine sm_eq _ fun i hi => ?_
    rw [show j + 1 - i = j - i + 1 by omega, Int.mul_assoc]
  rw [e1, e2, e3]
  rfl
theorem drv_ct {p : Nat} {A B : Nat → Int} (h : Ct p A B) : Ct p (drv A) (drv B) := fun j => (h (j + 1)).mul Cg.rfl
theorem drv_ln {p n : Nat} {A : Nat → Int} (h : Ln p n A) : Ln p (n - 1) (drv A) := fun j hj => (h (j + 1) (by omega)).mul0
/-- powers. -/
def pwr (A : Nat → Int) : Nat → Nat → Int
  | 0 => mono 1 0
  | n + 1 => cv (pwr A n) A
theorem pwr_add (A : Nat → Int) (n : Nat) : ∀ m, pwr A (n + m) = cv (pwr A n) (pwr A m)
  | 0 => by show pwr A n = cv (pwr A n) (mono 1 0); rw [cvC, cv1]
  | m + 1 => by
    show cv (pwr A (n + m)) A = cv (pwr A n) (cv (pwr A m) A)
    rw [pwr_add A n m, cvA]
theorem pwr_sq (A : Nat → Int) : ∀ n, pwr (cv A A) n = pwr A (2 * n)
  | 0 => rfl
  | n + 1 => by
    show cv (pwr (cv A A) n) (cv A A) = pwr A (2 * n + 1 + 1)
    rw [pwr_sq A n]
    show _ = cv (cv (pwr A (2 * n)) A) A
    rw [cvA]
theorem pwr_ct {p : Nat} {A B : Nat → Int} (h : Ct p A B) : ∀ n, Ct p (pwr A n) (pwr B n)
  | 0 => Ct.refl p _
  | n + 1 => (pwr_ct h n).cv h
theorem pwr_ln {p N : Nat} {A : Nat → Int} (h : Ln p N A) : ∀ n, ∃ M, Ln p M (pwr A n)
  | 0 => ⟨1, Ln.mono1 p 1 0⟩
  | n + 1 => by
    obtain ⟨M, hM⟩ := pwr_ln h n
    exact ⟨_, hM.cv h⟩
/-- the same but for a multiple of B. -/
def Cm (p : Nat) (B X Y : Nat → Int) : Prop := ∃ U N, Ln p N U ∧ Ct p X (pls (cv U B) Y)
theorem Cm.refl {p : Nat} (B X : Nat → Int) : Cm p B X X := ⟨fun _ => 0, 0, fun _ _ => Cg.rfl, fun j => by
  show Cg p (X j) (cv (fun _ => 0) B j + X j)
  rw [cv_comm, cv_zero, Int.zero_add]; exact Cg.rfl⟩
theorem Cm.of_ct {p : Nat} {B X Y : Nat → Int} (h : Ct p X Y) : Cm p B X Y := by
  obtain ⟨U, N, hU, e⟩ := Cm.refl (p := p) B Y
  exact ⟨U, N, hU, h.trans e⟩
theorem plsA (A B C : Nat → Int) : pls (pls A B) C = pls A (pls B C) := funext fun _j => Int.add_assoc _ _ _
theorem plsC (A B : Nat → Int) : pls A B = pls B A := funext fun _j => Int.add_comm _ _
theorem Cm.trans {p : Nat} {B X Y Z : Nat → Int} (h : Cm p B X Y) (g : Cm p B Y Z) : Cm p B X Z := by
  obtain ⟨U, N, hU, e⟩ := h
  obtain ⟨V, M, hV, e'⟩ := g
  refine ⟨pls U V, _, hU.pls hV, e.trans ?_⟩
  rw [Pcv, plsA]
  exact (Ct.refl p _).pls e'
theorem Cm.cv {p : Nat} {B X Y X' Y' : Nat → Int} {N M : Nat} (h : Cm p B X Y) (g : Cm p B X' Y') (hX : Ln p N X') (hY : Ln p M Y) : Cm p B (Nmb.cv X X') (Nmb.cv Y Y') := by
  obtain ⟨U, N1, hU, e⟩ := h
  obtain ⟨V, M1, hV, e'⟩ := g
  refine ⟨pls (Nmb.cv U X') (Nmb.cv Y V), _, (hU.cv hX).pls (hY.cv hV), ?_⟩
  have h1 := e.cv (Ct.refl p X')
  have h2 := (Ct.refl p Y).cv e'
  refine h1.trans ?_
  rw [Pcv, Pcv, plsA, cvA U B X', cvC B X', ← cvA U X' B]
  refine (Ct.refl p _).pls (h2.trans ?_)
  rw [cvP, cvA Y V B]
  exact Ct.refl p _
/-- what is left is one. -/
theorem Cm.uniq {p m : Nat} (hp : Pri p) {B X R R' : Nat → Int} (hB : Top p m B) (hR : Ln p m R) (hR' : Ln p m R') (h : Cm p B X R) (h' : Cm p B X R') : Ct p R R' := by
  obtain ⟨U, N, hU, e⟩ := h
  obtain ⟨V, M, hV, e'⟩ := h'
  exact (div_uniq hp hB (hU.mono (Nat.le_add_right N M)) (hV.mono (Nat.le_add_left M N)) hR hR' e e').2
end Nmb
namespace Nmb

/-- one step of Euclid. -/
theorem IsG.step {p : Nat} {G A B Q R : Nat → Int} {N : Nat} (hQ : Ln p N Q) (e : Ct p A (pls (cv Q B) R)) (h : IsG p G B R) : IsG p G A B := by
  refine ⟨((h.left.cv hQ).pls h.right).ct e.symm, h.left, ?_⟩
  obtain ⟨S, T, M, hS, hT, eG⟩ := h.lin
  refine ⟨T, fun j => S j - cv T Q j, M + (M + N - 1), hT.mono (by omega), (hS.mono (by omega)).sub ((hT.cv hQ).mono (by omega)), eG.trans fun j => ?_⟩
  have h1 : Cg p (cv T A j) (cv T (cv Q B) j + cv T R j) := by
    have := ((Ct.refl p T).cv e) j
    rw [cvP] at this
    exact this
  have h2 : cv (fun i => S i - cv T Q i) B j = cv S B j - cv T (cv Q B) j := by rw [sub_cv, cv_assoc]
  show Cg p (cv S B j + cv T R j) (cv T A j + cv (fun i => S i - cv T Q i) B j)
  rw [h2]
  have h3 := h1.symm.add (Cg.rfl (a := cv S B j - cv T (cv Q B) j))
  exact (Cg.of_eq (by omega)).trans h3
theorem IsG.base {p : Nat} {A B : Nat → Int} (h : ∀ j, Cg p (B j) 0) : IsG p A A B := by
  refine ⟨Dvs.refl p A, ⟨fun _ => 0, 0, fun _ _ => Cg.rfl, fun j => (h j).trans (Cg.of_eq (by rw [cv_comm, cv_zero]))⟩, mono 1 0, fun _ => 0, 1, Ln.mono1 p 1 0, fun _ _ => Cg.rfl, fun j => ?_⟩
  show Cg p (A j) (cv (mono 1 0) A j + cv (fun _ => 0) B j)
  rw [cv_one, cv_comm, cv_zero, Int.add_zero]
  exact Cg.rfl
/-- but for a number that is not 0. -/
theorem IsG.scale {p : Nat} {G A B : Nat → Int} {c d : Int} (hc : Cg p (c * d) 1) (h : IsG p G A B) : IsG p (fun j => c * G j) A B := by
  have cut : ∀ A, Dvs p G A → Dvs p (fun j => c * G j) A := fun A ⟨U, N, hU, e⟩ => by
    refine ⟨fun j => d * U j, N, fun j hj => (hU j hj).zmul, e.trans fun j => ?_⟩
    rw [cv_mul, mul_cv, ← Int.mul_assoc]
    exact (Cg.of_eq (Int.one_mul _).symm).trans (hc.symm.mul Cg.rfl)
  refine ⟨cut A h.left, cut B h.right, ?_⟩
  obtain ⟨S, T, N, hS, hT, e⟩ := h.lin
  refine ⟨fun j => c * S j, fun j => c * T j, N, fun j hj => (hS j hj).zmul, fun j hj => (hT j hj).zmul, fun j => ?_⟩
  show Cg p (c * G j) (cv (fun i => c * S i) A j + cv (fun i => c * T i) B j)
  rw [mul_cv, mul_cv, ← Int.mul_add]
  exact (Cg.rfl (a := c)).mul (e j)
theorem IsG.symm {p : Nat} {G A B : Nat → Int} (h : IsG p G A B) : IsG p G B A := by
  obtain ⟨S, T, N, hS, hT, e⟩ := h.lin
  exact ⟨h.right, h.left, T, S, N, hT, hS, by rw [plsC]; exact e⟩
/-- what Ext answers, if B is not 0. -/
structure ExtIs (p n : Nat) (A B G S T : Nat → Int) : Prop where
  g : IsG p G A B
  top : Top p n G
  one : Cg p (G n) 1
  lin : Ct p G (pls (cv S A) (cv T B))
  low : ∃ v V, Top p v V ∧ Ct p B (cv V G) ∧ Ln p v S
  len : ∃ N, Ln p N T
theorem ExtIs.uniq {p n m : Nat} (hp : Pri p) {A B G S T H S' T' : Nat → Int} (h : ExtIs p n A B G S T) (h' : ExtIs p m A B H S' T') : Ct p G H ∧ Ct p S S' ∧ Ct p T T' := by
  have gh := IsG.uniq hp h.top h'.top h.one h'.one h.g h'.g
  refine ⟨gh, ?_⟩
  obtain ⟨v, V, tV, eV, lS⟩ := h.low
  obtain ⟨v', V', tV', eV', lS'⟩ := h'.low
  obtain ⟨U, N, hU, eU⟩ := h.g.left
  obtain ⟨N1, hT⟩ := h.len
  obtain ⟨N2, hT'⟩ := h'.len
  have vv : v = v' := by
    have t1 := (tV.cv hp h.top).ct eV.symm
    have t2 := (tV'.cv hp h'.top).ct eV'.symm
    have e1 := t1.uniq t2
    have e2 := (h.top.ct gh).uniq h'.top
    omega
  subst vv
  exact ext_uniq hp (N := N + (N1 + N2)) h.top tV (hU.mono (by omega)) lS lS' (hT.mono (by omega)) (hT'.mono (by omega)) eU eV h.lin (gh.trans h'.lin)
end Nmb
namespace Nmb

/-- how long a quotient is. -/
theorem quot_len {p k m n : Nat} (hp : Pri p) {A B Q R : Nat → Int} (hQ : NP p k Q) (hB : NP p (m + 1) B) (hA : Ln p n A) (hR : Ln p m R) (e : Ct p A (pls (cv Q B) R)) : k = 0 ∨ k + m ≤ n := by
  cases k with
  | zero => exact Or.inl rfl
  | succ k =>
    refine Or.inr (Nat.le_of_not_lt fun hl => ?_)
    have t := hQ.tp.cv hp hB.tp
    refine t.2 ?_
    have h1 := e (k + m)
    have h2 : Cg p (A (k + m)) (cv Q B (k + m) + R (k + m)) := h1
    have h3 := (h2.symm.trans (hA (k + m) (by omega))).sub (hR (k + m) (by omega))
    exact (Cg.of_eq (by omega)).trans (h3.trans (Cg.of_eq (by omega)))
/-- one step of Ext. -/
theorem ext_step {p N : Nat} {A B R X S Y Q L Z : Nat → Int} (hQ : Ln p N Q) (e : Ct p R (pls (cv Q X) L)) (hZ : ∀ j, Cg p (Z j) (S j - cv Q Y j)) (r : Cm p B (cv S A) R) (x : Cm p B (cv Y A) X) : Cm p B (cv Z A) L := by
  obtain ⟨U, n1, hU, eU⟩ := r
  obtain ⟨V, n2, hV, eV⟩ := x
  refine ⟨fun j => U j - cv Q V j, n1 + (N + n2 - 1), (hU.mono (by omega)).sub ((hQ.cv hV).mono (by omega)), fun j => ?_⟩
  have z1 : Cg p (cv Z A j) (cv (fun i => S i - cv Q Y i) A j) := ((show Ct p Z (fun i => S i - cv Q Y i) from hZ).cv (Ct.refl p A)) j
  rw [sub_cv, cv_assoc] at z1
  have z2 : Cg p (cv S A j) (cv U B j + R j) := eU j
  have z3 : Cg p (cv Q (cv Y A) j) (cv Q (cv V B) j + cv Q X j) := by
    have := ((Ct.refl p Q).cv eV) j
    rw [cvP] at this
    exact this
  have z4 : Cg p (R j) (cv Q X j + L j) := e j
  show Cg p (cv Z A j) (cv (fun i => U i - cv Q V i) B j + L j)
  rw [sub_cv, cv_assoc]
  have z5 := z2.sub z3
  have z6 := z5.add (z4.sub (Cg.rfl (a := R j)))
  refine z1.trans ((Cg.of_eq (by omega)).trans (z6.trans (Cg.of_eq (by omega))))
/-- what divides leaves nothing. -/
theorem exact_div {p n N : Nat} (hp : Pri p) {A G V R : Nat → Int} (hG : Top p n G) (d : Dvs p G A) (hV : Ln p N V) (hR : Ln p n R) (e : Ct p A (pls (cv V G) R)) : Ct p A (cv V G) := by
  obtain ⟨U, M, hU, eU⟩ := d
  have e0 : Ct p A (pls (cv U G) (fun _ => 0)) := eU.trans (Ct.of_eq fun j => by show cv U G j = cv U G j + 0; omega)
  have h := div_uniq hp hG (hV.mono (Nat.le_add_right N M)) (hU.mono (Nat.le_add_left M N)) hR (fun _ _ => Cg.rfl) e e0
  exact eU.trans ((h.1.symm.cv (Ct.refl p G)))
/-- the end of Ext. -/
theorem ext_fin {p n v m N1 N2 N3 N4 : Nat} (hp : Pri p) {A B G S1 S2 V R1 W T R2 : Nat → Int} (g : IsG p G A B) (hG : Top p n G) (g1 : Cg p (G n) 1) (hB : Top p m B) (c : Cm p B (cv S1 A) G)
    (hV : Ln p N1 V) (tV : Top p v V) (hR1 : Ln p n R1) (e1 : Ct p B (pls (cv V G) R1)) (hW : Ln p N2 W) (hS2 : Ln p v S2) (e2 : Ct p S1 (pls (cv W V) S2)) (hT : Ln p N3 T) (hR2 : Ln p m R2) (_hA : Ln p N4 A)
    {D : Nat → Int} (hD : ∀ j, Cg p (D j) (G j - cv S2 A j)) (e3 : Ct p D (pls (cv T B) R2)) : ExtIs p n A B G S2 T := by
  have eB := exact_div hp hG g.right hV hR1 e1
  obtain ⟨A1, M1, hA1, eA⟩ := g.left
  obtain ⟨U, M2, hU, eU⟩ := c
  -- D is a multiple of B
  have dd : Dvs p B D := by
    refine ⟨fun j => cv W A1 j - U j, (N2 + M1 - 1) + M2, ((hW.cv hA1).mono (by omega)).sub (hU.mono (by omega)), fun j => (hD j).trans ?_⟩
    rw [sub_cv, cv_assoc]
    have z1 : Cg p (cv S1 A j) (cv U B j + G j) := eU j
    have z2 : Cg p (cv S1 A j) (cv W (cv V A) j + cv S2 A j) := by
      have := (e2.cv (Ct.refl p A)) j
      rw [Pcv, cvA] at this
      exact this
    have z3 : Cg p (cv W (cv V A) j) (cv W (cv A1 B) j) := by
      refine ((Ct.refl p W).cv ?_) j
      refine ((Ct.refl p V).cv eA).trans ?_
      rw [← cvA, cvC V A1, cvA]
      exact (Ct.refl p A1).cv eB.symm
    exact (Cg.of_eq (by omega)).trans (((Cg.rfl (a := cv W (cv V A) j - cv U B j)).add ((z1.symm.trans z2).sub (Cg.rfl (a := cv W (cv V A) j + cv S2 A j)))).trans ((Cg.of_eq (by omega)).trans ((z3.sub (Cg.rfl (a := cv U B j))).trans (Cg.of_eq (by omega)))))
  have eD := exact_div hp hB dd hT hR2 e3
  refine ⟨g, hG, g1, fun j => ?_, ⟨v, V, tV, eB, hS2⟩, ⟨N3, hT⟩⟩
  show Cg p (G j) (cv S2 A j + cv T B j)
  have z := ((hD j).symm.trans (eD j)).add (Cg.rfl (a := cv S2 A j))
  exact (Cg.of_eq (by omega)).trans (z.trans (Cg.of_eq (by omega)))
/-- a factor of what is not 0 is not 0. -/
theorem fac_nz {p k m : Nat} {B V G : Nat → Int} (hB : Top p m B) (hV : NP p k V) (e : Ct p B (cv V G)) : k ≠ 0 := by
  rintro rfl
  refine hB.2 ((e m).trans ?_)
  rw [hV.nil, cv_comm, cv_zero]
  exact Cg.rfl
end Nmb
