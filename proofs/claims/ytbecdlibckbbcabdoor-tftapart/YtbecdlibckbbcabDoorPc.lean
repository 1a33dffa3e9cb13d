/- Which numbers up to a million the strong test to the bases 2 and 3 tells apart. -/
import Derived.Test.YtbecdlibckbbcabDoorPn
namespace Nmb

/-- does n pass the strong test to base a, from the power e downwards? -/
def down (a n : Nat) : Nat → Nat → Bool
  | 0, _ => true
  | f + 1, e =>
    let x := a ^ e % n
    cond (Nat.beq x (n - 1)) true (cond (Nat.beq x 1) (cond (Nat.beq (e % 2) 1) true (down a n f (e / 2))) false)
/-- bases 2 and 3 tell that n is none. -/
def wit (n : Nat) : Bool := cond (down 2 n 20 (n - 1)) (cond (down 3 n 20 (n - 1)) false true) true
def upto (t : Nat → Bool) : Nat → Bool
  | 0 => true
  | f + 1 => cond (t f) (upto t f) false
theorem upto_said {t : Nat → Bool} : ∀ {n}, upto t n = true → ∀ i, i < n → t i = true
  | 0, _, i, hi => by omega
  | n + 1, h, i, hi => by
    unfold upto at h
    cases ht : t n with
    | false => rw [ht] at h; exact Bool.noConfusion h
    | true =>
      rw [ht] at h
      rcases Nat.lt_or_ge i n with h1 | h1
      · exact upto_said (n := n) h i h1
      · have : i = n := by omega
        subst this
        exact ht
/-- the odd primes up to 37, multiplied. -/
def P37 : Nat := 3710369067405
def cof (q i : Nat) : Bool := cond (Nat.beq (Nat.gcd (q + 2 * i) P37) 1) (wit (q * (q + 2 * i))) true
def row (j : Nat) : Bool := cond (Nat.beq (Nat.gcd (41 + 2 * j) P37) 1) (upto (cof (41 + 2 * j)) ((1002000 / (41 + 2 * j) - (41 + 2 * j)) / 2 + 1)) true
theorem rows : upto row 481 = true := by decide +kernel

theorem sq_neg {n y : Nat} (hn : 2 < n) (hy : y % n = n - 1) : y * y % n = 1 := by
  have h := neg_pow hn hy 0
  rw [Nat.mul_mod, hy]
  obtain ⟨m, rfl⟩ : ∃ j, n = j + 2 := ⟨n - 2, by omega⟩
  have : (m + 2 - 1) * (m + 2 - 1) = 1 + (m + 2) * m := by
    show (m + 1) * (m + 1) = _
    simp only [Nat.add_mul, Nat.mul_add, Nat.one_mul, Nat.mul_one]
    omega
  rw [this, Nat.add_mul_mod_self_left, Nat.mod_eq_of_lt (by omega)]
theorem twice (a d s : Nat) : a ^ (d * 2 ^ (s + 1)) = a ^ (d * 2 ^ s) * a ^ (d * 2 ^ s) := by
  rw [← Nat.pow_add]
  congr 1
  rw [Nat.pow_succ, ← Nat.mul_assoc]
  omega
theorem after_neg {n a d r : Nat} (hn : 2 < n) (hr : a ^ (d * 2 ^ r) % n = n - 1) : ∀ k, a ^ (d * 2 ^ (r + k + 1)) % n = 1
  | 0 => by rw [twice]; exact sq_neg hn hr
  | k + 1 => by
    rw [show r + (k + 1) + 1 = (r + k + 1) + 1 by omega, twice, Nat.mul_mod, after_neg hn hr k]
    exact Nat.mod_eq_of_lt (by omega)
theorem after_one {n a d : Nat} (hn : 2 < n) (hr : a ^ d % n = 1) : ∀ k, a ^ (d * 2 ^ k) % n = 1
  | 0 => by rw [Nat.pow_zero, Nat.mul_one]; exact hr
  | k + 1 => by
    rw [twice, Nat.mul_mod, after_one hn hr k]
    exact Nat.mod_eq_of_lt (by omega)
/-- what passes the strong test goes down. -/
theorem down_of {a n d : Nat} (hn : 2 < n) (hd : d % 2 = 1) : ∀ s, (a ^ d % n = 1 ∨ ∃ r, r ≤ s ∧ a ^ (d * 2 ^ r) % n = n - 1) → ∀ f, down a n f (d * 2 ^ s) = true
  | _, _, 0 => rfl
  | s, h, f + 1 => by
    show cond (Nat.beq (a ^ (d * 2 ^ s) % n) (n - 1)) true (cond (Nat.beq (a ^ (d * 2 ^ s) % n) 1) (cond (Nat.beq (d * 2 ^ s % 2) 1) true (down a n f (d * 2 ^ s / 2))) false) = true
    cases hb : Nat.beq (a ^ (d * 2 ^ s) % n) (n - 1) with
    | true => rfl
    | false =>
      have hne : a ^ (d * 2 ^ s) % n ≠ n - 1 := Nat.ne_of_beq_eq_false hb
      have h1 : a ^ (d * 2 ^ s) % n = 1 := by
        rcases h with h | ⟨r, hr, h⟩
        · exact after_one hn h s
        · have hlt : r < s := Nat.lt_of_le_of_ne hr (fun e => hne (e ▸ h))
          have := after_neg hn h (s - r - 1)
          rw [show r + (s - r - 1) + 1 = s by omega] at this
          exact this
      rw [h1]
      show cond (Nat.beq (d * 2 ^ s % 2) 1) true (down a n f (d * 2 ^ s / 2)) = true
      cases hc : Nat.beq (d * 2 ^ s % 2) 1 with
      | true => rfl
      | false =>
        cases s with
        | zero =>
          have := Nat.ne_of_beq_eq_false hc
          rw [Nat.pow_zero, Nat.mul_one] at this
          exact absurd hd this
        | succ s =>
          have e : d * 2 ^ (s + 1) / 2 = d * 2 ^ s := by
            rw [Nat.pow_succ, ← Nat.mul_assoc, Nat.mul_div_cancel _ (by decide)]
          show down a n f (d * 2 ^ (s + 1) / 2) = true
          rw [e]
          refine down_of hn hd s ?_ f
          rcases h with h | ⟨r, hr, h⟩
          · exact Or.inl h
          · refine Or.inr ⟨r, ?_, h⟩
            have : r ≠ s + 1 := fun e => hne (e ▸ h)
            omega
theorem low_odd : ∀ q, q < 41 → (2 ≤ q ∧ q % 2 = 1 ∧ Nat.gcd q P37 = 1) → False := by decide
theorem gcd_part {a b : Nat} (h : Nat.gcd (a * b) P37 = 1) : Nat.gcd a P37 = 1 :=
  Nat.Coprime.coprime_dvd_left ⟨b, rfl⟩ h
/-- no number up to 1002000 without a factor up to 37 passes to bases 2 and 3 but the primes. -/
theorem wit_of {n : Nat} (h2 : 2 ≤ n) (hn : n ≤ 1002000) (ho : n % 2 = 1) (hg : Nat.gcd n P37 = 1) (hp : ¬ Pri n) : wit n = true := by
  obtain ⟨q, hq, ⟨c, rfl⟩, hl⟩ := least_factor n h2
  have hq2 := hq.1
  have hc0 : c ≠ 0 := fun h0 => by subst h0; simp at h2
  have hc1 : c ≠ 1 := fun h0 => by subst h0; rw [Nat.mul_one] at hp; exact hp hq
  have hqc := hl c (by omega) ⟨q, Nat.mul_comm q c⟩
  have hoq : q % 2 = 1 := by
    rcases Nat.mod_two_eq_zero_or_one q with h | h
    · rw [Nat.mul_mod, h] at ho; simp at ho
    · exact h
  have hoc : c % 2 = 1 := by
    rcases Nat.mod_two_eq_zero_or_one c with h | h
    · rw [Nat.mul_mod, h] at ho; simp at ho
    · exact h
  have hgq := gcd_part hg
  have hgc : Nat.gcd c P37 = 1 := gcd_part (by rw [Nat.mul_comm]; exact hg)
  have h41 : 41 ≤ q := Nat.le_of_not_lt (fun hlt => low_odd q hlt ⟨hq2, hoq, hgq⟩)
  have h1k : q < 1002 := by
    apply Nat.lt_of_not_le
    intro hge
    have := Nat.mul_le_mul hge (Nat.le_trans hge hqc)
    omega
  have hr := upto_said rows ((q - 41) / 2) (by omega)
  have ej : 41 + 2 * ((q - 41) / 2) = q := by omega
  unfold row at hr
  rw [ej, hgq] at hr
  have hle : c ≤ 1002000 / q := (Nat.le_div_iff_mul_le (by omega)).2 (by rw [Nat.mul_comm]; exact hn)
  have hi := upto_said (t := cof q) (n := (1002000 / q - q) / 2 + 1) hr ((c - q) / 2) (by omega)
  have ei : q + 2 * ((c - q) / 2) = c := by omega
  unfold cof at hi
  rw [ei, hgc] at hi
  exact hi
/-- a number up to 1002000 without a factor up to 37 that passes to bases 2 and 3 is a prime. -/
theorem pri_of_pass {n d s : Nat} (h2 : 2 < n) (hn : n ≤ 1002000) (ho : n % 2 = 1) (hg : Nat.gcd n P37 = 1) (hd : d % 2 = 1) (hs : n - 1 = d * 2 ^ s)
    (p2 : 2 ^ d % n = 1 ∨ ∃ r, r ≤ s ∧ 2 ^ (d * 2 ^ r) % n = n - 1) (p3 : 3 ^ d % n = 1 ∨ ∃ r, r ≤ s ∧ 3 ^ (d * 2 ^ r) % n = n - 1) : Pri n := by
  apply Classical.byContradiction
  intro hp
  have hw := wit_of (by omega) hn ho hg hp
  unfold wit at hw
  rw [hs, down_of h2 hd s p2 20, down_of h2 hd s p3 20] at hw
  exact Bool.noConfusion hw
end Nmb
