/- Primes: Euclid, Fermat, Proth; plain numbers alone. -/
namespace Nmb

/-- a prime number. -/
def Pri (p : Nat) : Prop := 2 ≤ p ∧ ∀ d, d ∣ p → d = 1 ∨ d = p

theorem Pri.euclid {p a b : Nat} (h : Pri p) (hd : p ∣ a * b) : p ∣ a ∨ p ∣ b := by
  rcases h.2 (Nat.gcd p a) (Nat.gcd_dvd_left p a) with h1 | h1
  · exact Or.inr (Nat.Coprime.dvd_of_dvd_mul_left h1 hd)
  · exact Or.inl (h1 ▸ Nat.gcd_dvd_right p a)
theorem Pri.pow {p a : Nat} (h : Pri p) : ∀ n, p ∣ a ^ n → p ∣ a
  | 0, hd => by
    have h2 := h.1
    have h3 := Nat.le_of_dvd (by simp) hd
    simp at h3
    omega
  | n + 1, hd => by
    rw [Nat.pow_succ] at hd
    rcases h.euclid hd with h1 | h1
    · exact h.pow n h1
    · exact h1

/-- n over k. -/
def ch : Nat → Nat → Nat
  | _, 0 => 1
  | 0, _ + 1 => 0
  | n + 1, k + 1 => ch n k + ch n (k + 1)
theorem ch_mul : ∀ n k, (k + 1) * ch (n + 1) (k + 1) = (n + 1) * ch n k
  | 0, 0 => rfl
  | 0, k + 1 => by simp [ch]
  | n + 1, 0 => by
    have h := ch_mul n 0
    simp only [ch] at *
    omega
  | n + 1, k + 1 => by
    have h1 := ch_mul n k
    have h2 := ch_mul n (k + 1)
    have e1 : ch (n + 1 + 1) (k + 1 + 1) = ch (n + 1) (k + 1) + ch (n + 1) (k + 1 + 1) := rfl
    have e2 : ch (n + 1) (k + 1) = ch n k + ch n (k + 1) := rfl
    rw [e1, Nat.mul_add, h2, Nat.add_mul (k + 1) 1, h1, Nat.one_mul]
    rw [Nat.add_mul (n + 1) 1, Nat.one_mul]
    conv => rhs; rw [e2, Nat.mul_add]
    rw [e2]
    omega
theorem ch_top : ∀ n k, n < k → ch n k = 0
  | _, 0, h => by omega
  | 0, _ + 1, _ => rfl
  | n + 1, k + 1, h => by
    have e : ch (n + 1) (k + 1) = ch n k + ch n (k + 1) := rfl
    rw [e, ch_top n k (by omega), ch_top n (k + 1) (by omega)]
theorem ch_self : ∀ n, ch n n = 1
  | 0 => rfl
  | n + 1 => by
    have e : ch (n + 1) (n + 1) = ch n n + ch n (n + 1) := rfl
    rw [e, ch_self n, ch_top n (n + 1) (by omega)]
/-- the first m + 1 terms of (x + 1) to the nth. -/
def bs (x n : Nat) : Nat → Nat
  | 0 => 1
  | m + 1 => bs x n m + ch n (m + 1) * x ^ (m + 1)
theorem bs_step (x n : Nat) : ∀ m, bs x (n + 1) (m + 1) = bs x n (m + 1) + x * bs x n m
  | 0 => by
    have h0 : ch n 0 = 1 := by cases n <;> rfl
    have e : ch (n + 1) 1 = ch n 0 + ch n 1 := rfl
    simp only [bs]
    rw [e, h0, Nat.add_mul]
    simp
    omega
  | m + 1 => by
    have h := bs_step x n m
    have e : ch (n + 1) (m + 1 + 1) = ch n (m + 1) + ch n (m + 1 + 1) := rfl
    have e1 : bs x (n + 1) (m + 1 + 1) = bs x (n + 1) (m + 1) + ch (n + 1) (m + 1 + 1) * x ^ (m + 1 + 1) := rfl
    have e2 : bs x n (m + 1 + 1) = bs x n (m + 1) + ch n (m + 1 + 1) * x ^ (m + 1 + 1) := rfl
    have e3 : bs x n (m + 1) = bs x n m + ch n (m + 1) * x ^ (m + 1) := rfl
    have e4 : x * (ch n (m + 1) * x ^ (m + 1)) = ch n (m + 1) * x ^ (m + 1 + 1) := by
      rw [Nat.pow_succ x (m + 1), Nat.mul_left_comm, Nat.mul_comm x]
    rw [e1, h, e, e2, Nat.add_mul]
    conv => rhs; rw [e3, Nat.mul_add, e4]
    conv => lhs; rw [e3]
    omega
theorem bs_all (x : Nat) : ∀ n, (x + 1) ^ n = bs x n n
  | 0 => rfl
  | n + 1 => by
    have e3 : bs x n (n + 1) = bs x n n + ch n (n + 1) * x ^ (n + 1) := rfl
    rw [bs_step, e3, ch_top n (n + 1) (by omega), Nat.pow_succ, bs_all x n, Nat.mul_add]
    rw [Nat.mul_comm x]
    omega
theorem Pri.ch {p k : Nat} (h : Pri p) (h0 : 0 < k) (hk : k < p) : p ∣ ch p k := by
  obtain ⟨k, rfl⟩ : ∃ j, k = j + 1 := ⟨k - 1, by omega⟩
  obtain ⟨n, rfl⟩ : ∃ j, p = j + 1 := ⟨p - 1, by have := h.1; omega⟩
  have hm := ch_mul n k
  have hd : n + 1 ∣ (k + 1) * Nmb.ch (n + 1) (k + 1) := ⟨_, hm⟩
  rcases h.euclid hd with h1 | h1
  · have := Nat.le_of_dvd (by omega) h1
    omega
  · exact h1
theorem Pri.bs {p x : Nat} (h : Pri p) : ∀ m, m < p → bs x p m % p = 1 % p
  | 0, _ => rfl
  | m + 1, hm => by
    obtain ⟨c, hc⟩ := h.ch (k := m + 1) (by omega) hm
    have e : Nmb.bs x p (m + 1) = Nmb.bs x p m + Nmb.ch p (m + 1) * x ^ (m + 1) := rfl
    rw [e, hc, Nat.mul_assoc, Nat.add_mul_mod_self_left, h.bs m (by omega)]
theorem Pri.succ {p x : Nat} (h : Pri p) : (x + 1) ^ p % p = (x ^ p + 1) % p := by
  rw [bs_all]
  obtain ⟨n, rfl⟩ : ∃ j, p = j + 1 := ⟨p - 1, by have := h.1; omega⟩
  have e : Nmb.bs x (n + 1) (n + 1) = Nmb.bs x (n + 1) n + Nmb.ch (n + 1) (n + 1) * x ^ (n + 1) := rfl
  rw [e, ch_self, Nat.one_mul, Nat.add_mod, h.bs n (by omega), ← Nat.add_mod, Nat.add_comm]
/-- Fermat. -/
theorem Pri.fermat {p : Nat} (h : Pri p) : ∀ a, a ^ p % p = a % p
  | 0 => by
    have := h.1
    rw [Nat.zero_pow (by omega)]
  | a + 1 => by rw [h.succ, Nat.add_mod, h.fermat a, ← Nat.add_mod]
theorem Pri.fermat1 {p a : Nat} (h : Pri p) (ha : a % p ≠ 0) : a ^ (p - 1) % p = 1 := by
  have h2 := h.1
  have hf := h.fermat a
  obtain ⟨n, rfl⟩ : ∃ j, p = j + 1 := ⟨p - 1, by omega⟩
  have hpos : 1 ≤ a ^ n := Nat.pos_of_ne_zero (fun h0 => by
    have : a = 0 := by
      apply Nat.eq_zero_of_not_pos
      intro hp
      have := Nat.pow_pos (n := n) hp
      omega
    subst this
    simp at ha)
  have hd : n + 1 ∣ a * (a ^ n - 1) := by
    rw [Nat.mul_sub, Nat.mul_one, ← Nat.pow_succ']
    exact Nat.dvd_of_mod_eq_zero (Nat.sub_mod_eq_zero_of_mod_eq hf)
  rcases h.euclid hd with h1 | h1
  · exact absurd (Nat.mod_eq_zero_of_dvd h1) ha
  · show a ^ n % (n + 1) = 1
    obtain ⟨c, hc⟩ := h1
    have : a ^ n = 1 + (n + 1) * c := by omega
    rw [this, Nat.add_mul_mod_self_left, Nat.mod_eq_of_lt (by omega)]

/-- a root of 1 modulo a prime. -/
theorem Pri.sqrt1 {p x : Nat} (h : Pri p) (hx : x * x % p = 1) : x % p = 1 ∨ x % p = p - 1 := by
  have h2 := h.1
  have hpos : 1 ≤ x := Nat.pos_of_ne_zero (fun h0 => by subst h0; simp at hx)
  have e : (x + 1) * (x - 1) = x * x - 1 := by
    obtain ⟨y, rfl⟩ : ∃ j, x = j + 1 := ⟨x - 1, by omega⟩
    simp only [Nat.add_sub_cancel, Nat.add_mul, Nat.mul_add, Nat.one_mul, Nat.mul_one]
    omega
  have hd : p ∣ (x + 1) * (x - 1) := by
    rw [e]
    exact Nat.dvd_of_mod_eq_zero (Nat.sub_mod_eq_zero_of_mod_eq (by rw [hx, Nat.mod_eq_of_lt (by omega)]))
  rcases h.euclid hd with ⟨c, hc⟩ | ⟨c, hc⟩
  · right
    have hlt := Nat.mod_lt x (y := p) (by omega)
    have hdm := Nat.div_add_mod x p
    have h3 : (x % p + 1) % p = 0 := by
      have := congrArg (· % p) hc
      simp only [Nat.mul_mod_right] at this
      rw [Nat.add_mod] at this
      rw [Nat.mod_eq_of_lt (show 1 < p by omega)] at this
      exact this
    rcases Nat.lt_or_ge (x % p + 1) p with h4 | h4
    · rw [Nat.mod_eq_of_lt h4] at h3; omega
    · omega
  · left
    have : x = 1 + p * c := by omega
    rw [this, Nat.add_mul_mod_self_left, Nat.mod_eq_of_lt (by omega)]

/-- a chain of squares that comes to 1 modulo a prime begins with 1, or is less 1 somewhere. -/
theorem Pri.chain {p y : Nat} (h : Pri p) : ∀ s, y ^ 2 ^ s % p = 1 → y % p = 1 ∨ ∃ r, r < s ∧ y ^ 2 ^ r % p = p - 1
  | 0, hy => by
    left
    simpa using hy
  | s + 1, hy => by
    have e : y ^ 2 ^ (s + 1) = y ^ 2 ^ s * y ^ 2 ^ s := by rw [← Nat.pow_add]; congr 1; rw [Nat.pow_succ]; omega
    rw [e] at hy
    rcases h.sqrt1 hy with h1 | h1
    · rcases h.chain s h1 with h3 | ⟨r, h3, h4⟩
      · exact Or.inl h3
      · exact Or.inr ⟨r, by omega, h4⟩
    · exact Or.inr ⟨s, by omega, h1⟩
/-- a prime passes the strong test. -/
theorem Pri.strong {p a d s : Nat} (h : Pri p) (ha : a % p ≠ 0) (hd : p - 1 = d * 2 ^ s) : a ^ d % p = 1 ∨ ∃ r, r < s ∧ (a ^ d) ^ 2 ^ r % p = p - 1 := by
  apply h.chain s
  rw [← Nat.pow_mul, ← hd]
  exact h.fermat1 ha

/-- the least divisor above 1 of a number is a prime. -/
theorem least_factor (n : Nat) (hn : 2 ≤ n) : ∃ q, Pri q ∧ q ∣ n ∧ ∀ d, 2 ≤ d → d ∣ n → q ≤ d := by
  suffices H : ∀ k q, q + k = n → 2 ≤ q → (∀ d, 2 ≤ d → d < q → ¬ d ∣ n) → ∃ q, 2 ≤ q ∧ q ∣ n ∧ ∀ d, 2 ≤ d → d ∣ n → q ≤ d by
    obtain ⟨q, h2, hq, hl⟩ := H (n - 2) 2 (by omega) (by omega) (fun d h1 h2 => by omega)
    refine ⟨q, ⟨h2, fun d hd => ?_⟩, hq, hl⟩
    have hpos : 0 < d := Nat.pos_of_dvd_of_pos hd (by omega)
    have hle := Nat.le_of_dvd (by omega) hd
    rcases Nat.lt_or_ge d 2 with h3 | h3
    · left; omega
    · right
      have := hl d h3 (Nat.dvd_trans hd hq)
      omega
  intro k
  induction k with
  | zero =>
    intro q hk h2 hno
    refine ⟨n, hn, Nat.dvd_refl n, fun d h1 hd => ?_⟩
    apply Nat.le_of_not_lt
    intro hlt
    exact hno d h1 (by omega) hd
  | succ k ih =>
    intro q hk h2 hno
    by_cases hq : q ∣ n
    · refine ⟨q, h2, hq, fun d h1 hd => ?_⟩
      apply Nat.le_of_not_lt
      intro hlt
      exact hno d h1 hlt hd
    · refine ih (q + 1) (by omega) (by omega) (fun d h1 h3 hd => ?_)
      rcases Nat.lt_or_ge d q with h4 | h4
      · exact hno d h1 h4 hd
      · have : d = q := by omega
        subst this
        exact hq hd
/-- no divisor up to the root: a prime. -/
theorem pri_of_root {n : Nat} (hn : 2 ≤ n) (h : ∀ d, 2 ≤ d → d * d ≤ n → ¬ d ∣ n) : Pri n := by
  obtain ⟨q, hq, hd, hl⟩ := least_factor n hn
  obtain ⟨c, rfl⟩ := hd
  have h2 := hq.1
  have hc : c = 1 := by
    apply Classical.byContradiction
    intro hne
    have hc0 : c ≠ 0 := fun h0 => by subst h0; simp at hn
    have h3 := hl c (by omega) ⟨q, Nat.mul_comm q c⟩
    exact h q h2 (Nat.mul_le_mul_left q h3) ⟨c, rfl⟩
  subst hc
  rw [Nat.mul_one]
  exact hq
theorem Pri.no_div {n d : Nat} (h : Pri n) (h2 : 2 ≤ d) (hd : d * d ≤ n) : ¬ d ∣ n := by
  intro hdv
  rcases h.2 d hdv with h1 | h1
  · omega
  · subst h1
    have : d * 2 ≤ d * d := Nat.mul_le_mul_left d h2
    have := h.1
    omega

/-- powers of less 1. -/
theorem neg_pow {q b : Nat} (hq : 2 < q) (hb : b % q = q - 1) : ∀ t, b ^ (2 * t + 1) % q = q - 1 := by
  have h1 : b * b % q = 1 := by
    rw [Nat.mul_mod, hb]
    obtain ⟨m, rfl⟩ : ∃ j, q = j + 2 := ⟨q - 2, by omega⟩
    have : (m + 2 - 1) * (m + 2 - 1) = 1 + (m + 2) * m := by
      show (m + 1) * (m + 1) = _
      simp only [Nat.add_mul, Nat.mul_add, Nat.one_mul, Nat.mul_one]
      omega
    rw [this, Nat.add_mul_mod_self_left, Nat.mod_eq_of_lt (by omega)]
  intro t
  induction t with
  | zero => simpa using hb
  | succ t ih =>
    have e : b ^ (2 * (t + 1) + 1) = b ^ (2 * t + 1) * (b * b) := by
      rw [show 2 * (t + 1) + 1 = (2 * t + 1) + 1 + 1 by omega, Nat.pow_succ, Nat.pow_succ, Nat.mul_assoc]
    rw [e, Nat.mul_mod, ih, h1, Nat.mul_one, Nat.mod_eq_of_lt (by omega)]
/-- a number above 0 is a power of 2 times an odd one. -/
theorem two_part (n : Nat) (hn : 0 < n) : ∃ j t, n = 2 ^ j * (2 * t + 1) := by
  induction n using Nat.strongRecOn with
  | ind n ih =>
    rcases Nat.mod_two_eq_zero_or_one n with h | h
    · obtain ⟨j, t, e⟩ := ih (n / 2) (by omega) (by omega)
      refine ⟨j + 1, t, ?_⟩
      have : n = 2 * (n / 2) := by omega
      rw [this, e, Nat.pow_succ, Nat.mul_comm (2 ^ j) 2, Nat.mul_assoc]
    · exact ⟨0, n / 2, by rw [Nat.pow_zero, Nat.one_mul]; omega⟩
/-- Proth. -/
theorem proth {c k a n : Nat} (hk : 1 ≤ k) (hc0 : c % 2 = 1) (hc : c < 2 ^ k) (hn : n = c * 2 ^ k + 1) (ha : a ^ ((n - 1) / 2) % n = n - 1) : Pri n := by
  have hk2 : 2 ≤ 2 ^ k := by
    have := Nat.pow_le_pow_right (n := 2) (by decide) hk
    simpa using this
  have hcp : 2 ^ k ≤ c * 2 ^ k := Nat.le_mul_of_pos_left _ (by omega)
  obtain ⟨q, hq, hd, hl⟩ := least_factor n (by omega)
  have hq2 := hq.1
  have hev : 2 ^ k = 2 * 2 ^ (k - 1) := by
    obtain ⟨j, rfl⟩ : ∃ j, k = j + 1 := ⟨k - 1, by omega⟩
    rw [Nat.pow_succ, Nat.add_sub_cancel, Nat.mul_comm]
  have hce : c * 2 ^ k = 2 * (c * 2 ^ (k - 1)) := by rw [hev]; exact Nat.mul_left_comm c 2 _
  have hodd : q ≠ 2 := fun h2 => by
    subst h2
    have := Nat.mod_eq_zero_of_dvd hd
    omega
  have hhalf : (n - 1) / 2 = c * 2 ^ (k - 1) := by omega
  -- modulo q the power leaves q - 1 too
  have hb : (a ^ c) ^ 2 ^ (k - 1) % q = q - 1 := by
    rw [← Nat.pow_mul, ← hhalf]
    obtain ⟨m, rfl⟩ := hd
    have h3 : a ^ ((q * m - 1) / 2) % (q * m) % q = (q * m - 1) % q := by rw [ha]
    rw [Nat.mod_mul_right_mod] at h3
    rw [h3]
    have hm0 : m ≠ 0 := fun h0 => by subst h0; omega
    obtain ⟨m', rfl⟩ : ∃ j, m = j + 1 := ⟨m - 1, by omega⟩
    have : q * (m' + 1) - 1 = (q - 1) + q * m' := by rw [Nat.mul_add]; omega
    rw [this, Nat.add_mul_mod_self_left, Nat.mod_eq_of_lt (by omega)]
  have ha0 : (a ^ c) % q ≠ 0 := by
    intro h0
    have h1 : (a ^ c) ^ 2 ^ (k - 1) % q = 0 := by
      rw [Nat.pow_mod, h0, Nat.zero_pow (Nat.pow_pos (by decide)), Nat.zero_mod]
    omega
  have hf := hq.fermat1 ha0
  obtain ⟨j, t, e⟩ := two_part (q - 1) (by omega)
  have hjk : k ≤ j := by
    apply Nat.le_of_not_lt
    intro hlt
    rw [e] at hf
    have h1 := neg_pow (by omega) hb t
    have h3 : ∀ b : Nat, (b ^ 2 ^ (k - 1)) ^ (2 * t + 1) = (b ^ (2 ^ j * (2 * t + 1))) ^ 2 ^ (k - 1 - j) := by
      intro b
      rw [← Nat.pow_mul, ← Nat.pow_mul]
      congr 1
      rw [show 2 ^ (k - 1) = 2 ^ j * 2 ^ (k - 1 - j) by rw [← Nat.pow_add]; congr 1; omega]
      rw [Nat.mul_assoc, Nat.mul_assoc, Nat.mul_comm (2 ^ (k - 1 - j))]
    rw [h3, Nat.pow_mod, hf, Nat.one_pow, Nat.mod_eq_of_lt (by omega)] at h1
    omega
  have hge : 2 ^ k ≤ q - 1 := by
    rw [e]
    exact Nat.le_trans (Nat.pow_le_pow_right (by decide) hjk) (Nat.le_mul_of_pos_right _ (by omega))
  apply pri_of_root (by omega)
  intro d h2 hdd hdn
  have h3 := hl d h2 hdn
  have h4 : (2 ^ k + 1) * (2 ^ k + 1) ≤ d * d := Nat.mul_le_mul (by omega) (by omega)
  have h5 : c * 2 ^ k ≤ 2 ^ k * 2 ^ k := Nat.mul_le_mul_right _ (by omega)
  simp only [Nat.add_mul, Nat.mul_add, Nat.one_mul, Nat.mul_one] at h4
  omega
end Nmb
