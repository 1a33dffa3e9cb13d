/- Numbers modulo m: plain facts on whole numbers; nothing of the program is named here. -/
import Derived.KernelRfl
namespace Go.Proofs.YtjgipjiopagkiaaDoor
namespace Num

theorem md_sum (a b c m : Int) : (a % m + b % m * c) % m = (a + b * c) % m := by
  rw [Int.add_emod, Int.emod_emod, Int.mul_emod (b % m), Int.emod_emod, ← Int.mul_emod, ← Int.add_emod]
theorem md_pow (a m : Int) : ∀ k : Nat, (a % m) ^ k % m = a ^ k % m
  | 0 => by simp
  | k + 1 => by rw [Int.pow_succ, Int.pow_succ, Int.mul_emod, md_pow a m k, Int.emod_emod, ← Int.mul_emod]
theorem md_times (a b m : Int) : (a % m) * (b % m) % m = a * b % m := (Int.mul_emod a b m).symm
theorem md_left (a b m : Int) : (a % m) * b % m = a * b % m := by rw [Int.mul_emod, Int.emod_emod, ← Int.mul_emod]
theorem md_right (a b m : Int) : a * (b % m) % m = a * b % m := by rw [Int.mul_emod, Int.emod_emod, ← Int.mul_emod]
theorem md_pow2 (a b m : Int) (k : Nat) : (a % m) * (b % m) ^ k % m = a * b ^ k % m := by
  rw [md_left, Int.mul_emod, md_pow, ← Int.mul_emod]
theorem md_lt (a : Int) {m : Int} (h : 0 < m) : 0 ≤ a % m ∧ a % m < m := ⟨Int.emod_nonneg a (by omega), Int.emod_lt_of_pos a h⟩

/-- the ways of the loops that double and square. -/
theorem mul_odd (out x y m T : Int) (h : (out + x * y) % m = T) (hy : y % 2 = 1) : ((out + x) % m + (x + x) % m * (y / 2)) % m = T := by
  rw [md_sum, ← h]
  congr 1
  have : y = 2 * (y / 2) + 1 := by omega
  generalize y / 2 = k at *
  subst this
  grind
theorem mul_even (out x y m T : Int) (h : (out + x * y) % m = T) (hy : y % 2 = 0) : (out + (x + x) % m * (y / 2)) % m = T := by
  have e : (out + (x + x) % m * (y / 2)) % m = (out + (x + x) * (y / 2)) % m := by
    rw [Int.add_emod, Int.mul_emod ((x + x) % m), Int.emod_emod, ← Int.mul_emod, ← Int.add_emod]
  rw [e, ← h]
  congr 1
  have : y = 2 * (y / 2) := by omega
  generalize y / 2 = k at *
  subst this
  grind
theorem pow_odd (out x m T : Int) (n : Nat) (h : out * x ^ n % m = T) (hn : n % 2 = 1) : (out * x % m) * (x * x % m) ^ (n / 2) % m = T := by
  rw [md_pow2, ← h]
  congr 1
  have : n = n / 2 + n / 2 + 1 := by omega
  generalize n / 2 = k at *
  subst this
  rw [Int.pow_succ, Int.pow_add, Int.mul_pow]
  grind
theorem pow_even (out x m T : Int) (n : Nat) (h : out * x ^ n % m = T) (hn : n % 2 = 0) : out * (x * x % m) ^ (n / 2) % m = T := by
  have e : out * (x * x % m) ^ (n / 2) % m = out * (x * x) ^ (n / 2) % m := by
    rw [Int.mul_emod, md_pow, ← Int.mul_emod]
  rw [e, ← h]
  congr 1
  have : n = n / 2 + n / 2 := by omega
  generalize n / 2 = k at *
  subst this
  rw [Int.pow_add, Int.mul_pow]

/-- Euclid's steps. s is the sign, a and b the times. -/
structure Euc (m x l n lt nt : Int) (G : Nat) : Prop where
  hl : 0 < l
  hn : 0 ≤ n
  hnl : n ≤ l
  hlm : l ≤ m
  el : m ∣ lt * x - l
  en : m ∣ nt * x - n
  hg : Nat.gcd l.toNat n.toNat = G
  hs : (0 ≤ nt ∧ lt ≤ 0 ∧ -lt * n + nt * l = m ∧ -lt ≤ m ∧ nt ≤ m) ∨ (nt ≤ 0 ∧ 0 ≤ lt ∧ lt * n + -nt * l = m ∧ lt ≤ m ∧ -nt ≤ m)
theorem Euc.start {m x : Int} (hx : 0 < x) (hm : x < m) : Euc m x m x 0 1 (Nat.gcd m.toNat x.toNat) :=
  ⟨by omega, by omega, by omega, by omega, ⟨-1, by omega⟩, ⟨0, by omega⟩, rfl, Or.inl ⟨by omega, by omega, by omega, by omega, by omega⟩⟩
theorem Euc.step {m x l n lt nt : Int} {G : Nat} (h : Euc m x l n lt nt G) (h0 : n ≠ 0) :
    Euc m x n (l - l / n * n) nt (lt - l / n * nt) G ∧ l - l / n * n = l % n ∧ 0 ≤ l / n * n ∧ l / n * n ≤ l ∧ 0 ≤ l / n ∧ l / n ≤ m ∧
      -m ≤ l / n * nt ∧ l / n * nt ≤ m ∧ -m ≤ lt - l / n * nt ∧ lt - l / n * nt ≤ m := by
  obtain ⟨h1, h2, h3, h4, h5, h6, h7, h8⟩ := h
  have hn : 0 < n := by omega
  have e : l - l / n * n = l % n := by have := Int.emod_add_mul_ediv l n; rw [Int.mul_comm] at this; omega
  have hr := md_lt l hn
  have hq0 : 0 ≤ l / n := Int.ediv_nonneg (by omega) (by omega)
  have hqn : l / n * 1 ≤ l / n * n := Int.mul_le_mul_of_nonneg_left (by omega) hq0
  have hg : Nat.gcd n.toNat (l % n).toNat = G := by
    rw [← h7, Nat.gcd_comm l.toNat, Nat.gcd_rec n.toNat l.toNat, Nat.gcd_comm]
    congr 1
    rw [Int.toNat_emod (by omega) (by omega)]
  generalize hq : l / n = q at *
  rw [← e] at hg hr
  have e6 : m ∣ (lt - q * nt) * x - (l - q * n) := by
    obtain ⟨u, hu⟩ := h5
    obtain ⟨v, hv⟩ := h6
    exact ⟨u - q * v, by grind⟩
  rcases h8 with ⟨a1, a2, a3, a4, a5⟩ | ⟨a1, a2, a3, a4, a5⟩
  · have b1 : 0 ≤ q * nt := Int.mul_nonneg hq0 a1
    have b2 : -(lt - q * nt) * n + nt * (l - q * n) = m := by rw [← a3]; grind
    have b3 : 0 ≤ nt * (l - q * n) := Int.mul_nonneg a1 hr.1
    have b4 : -(lt - q * nt) * 1 ≤ -(lt - q * nt) * n := Int.mul_le_mul_of_nonneg_left (by omega) (by omega)
    refine ⟨⟨hn, hr.1, by omega, by omega, h6, e6, hg, Or.inr ⟨by omega, a1, by omega, by omega, by omega⟩⟩, e, by omega, by omega, hq0, by omega, by omega, by omega, by omega, by omega⟩
  · have b1 : 0 ≤ q * -nt := Int.mul_nonneg hq0 (by omega)
    rw [Int.mul_neg] at b1
    have b2 : (lt - q * nt) * n + -nt * (l - q * n) = m := by rw [← a3]; grind
    have b3 : 0 ≤ -nt * (l - q * n) := Int.mul_nonneg (by omega) hr.1
    have b4 : (lt - q * nt) * 1 ≤ (lt - q * nt) * n := Int.mul_le_mul_of_nonneg_left (by omega) (by omega)
    refine ⟨⟨hn, hr.1, by omega, by omega, h6, e6, hg, Or.inl ⟨by omega, by omega, by omega, by omega, by omega⟩⟩, e, by omega, by omega, hq0, by omega, by omega, by omega, by omega, by omega⟩
theorem Euc.bds {m x l n lt nt : Int} {G : Nat} (h : Euc m x l n lt nt G) : -m ≤ lt ∧ lt ≤ m ∧ -m ≤ nt ∧ nt ≤ m := by
  obtain ⟨h1, h2, h3, h4, h5, h6, h7, h8⟩ := h
  rcases h8 with ⟨a1, a2, a3, a4, a5⟩ | ⟨a1, a2, a3, a4, a5⟩ <;> omega
theorem Euc.done {m x l lt nt : Int} {G : Nat} (h : Euc m x l 0 lt nt G) : l = (G : Int) ∧ m ∣ lt * x - l := by
  obtain ⟨h1, h2, h3, h4, h5, h6, h7, h8⟩ := h
  refine ⟨?_, h5⟩
  rw [← h7]; simp; omega
/-- the inverse, if it is one. -/
theorem inv_neg {m x t : Int} (hm : 2 ≤ m) (hd : m ∣ t * x - 1) (h0 : -m ≤ t) (h1 : t < 0) : 0 ≤ t + m ∧ t + m < m ∧ x * (t + m) % m = 1 := by
  obtain ⟨u, hu⟩ := hd
  refine ⟨by omega, by omega, ?_⟩
  have e : x * (t + m) = 1 + m * (u + x) := by grind
  rw [e, Int.add_mul_emod_self_left]
  exact Int.emod_eq_of_lt (by decide) (by omega)
theorem inv_pos {m x t : Int} (hm : 2 ≤ m) (hd : m ∣ t * x - 1) (h0 : 0 ≤ t) (h1 : t ≤ m) : 0 ≤ t ∧ t < m ∧ x * t % m = 1 := by
  obtain ⟨u, hu⟩ := hd
  have e : x * t = 1 + m * u := by grind
  have e2 : x * t % m = 1 := by rw [e, Int.add_mul_emod_self_left]; exact Int.emod_eq_of_lt (by decide) (by omega)
  refine ⟨h0, ?_, e2⟩
  rcases Int.lt_or_eq_of_le h1 with h | h
  · exact h
  · subst h
    rw [Int.mul_emod_left] at e2
    exact absurd e2 (by decide)

/-- what is no multiple of m, by its gcd. -/
def gc (x m : Int) : Nat := Nat.gcd m.toNat (x % m).toNat

/-- Newton's step. -/
theorem newton {K L m y y' : Int} (hK : K ∣ 1 - m * y) (hL : L ∣ K * K) (hW : L ∣ 18446744073709551616) (hy : y' % 18446744073709551616 = y * (2 - m * y) % 18446744073709551616) : L ∣ 1 - m * y' := by
  obtain ⟨k, hk⟩ := hK
  obtain ⟨l, hl⟩ := hL
  obtain ⟨v, hv⟩ := hW
  have h1 := Int.emod_add_mul_ediv y' 18446744073709551616
  have h2 := Int.emod_add_mul_ediv (y * (2 - m * y)) 18446744073709551616
  rw [hy] at h1
  generalize y * (2 - m * y) % 18446744073709551616 = r at *
  generalize hA : y' / 18446744073709551616 = A at *
  generalize hB : y * (2 - m * y) / 18446744073709551616 = B at *
  have h3 : y' = y * (2 - m * y) + 18446744073709551616 * (A - B) := by grind
  refine ⟨l * k * k - m * v * (A - B), ?_⟩
  rw [h3, hv]
  have : (1 - m * y) * (1 - m * y) = K * K * (k * k) := by rw [hk]; grind
  rw [hl] at this
  grind
def nk : Nat → Int
  | 0 => 8
  | 1 => 64
  | 2 => 4096
  | 3 => 16777216
  | 4 => 281474976710656
  | _ => 18446744073709551616
theorem newton_nk {m y y' : Int} {k : Nat} (h5 : k < 5) (hK : nk k ∣ 1 - m * y) (hy : y' % 18446744073709551616 = y * (2 - m * y) % 18446744073709551616) : nk (k + 1) ∣ 1 - m * y' := by
  have : k = 0 ∨ k = 1 ∨ k = 2 ∨ k = 3 ∨ k = 4 := by omega
  rcases this with rfl | rfl | rfl | rfl | rfl
  · exact newton hK (by decide) (by decide) hy
  · exact newton hK (by decide) (by decide) hy
  · exact newton hK (by decide) (by decide) hy
  · exact newton hK (by decide) (by decide) hy
  · exact newton hK (by decide) (by decide) hy
theorem nk_start {m : Int} (h : m % 2 = 1) : nk 0 ∣ 1 - m * m := by
  have : m % 8 = 1 ∨ m % 8 = 3 ∨ m % 8 = 5 ∨ m % 8 = 7 := by omega
  have e := Int.emod_add_mul_ediv m 8
  generalize m / 8 = q at *
  show (8 : Int) ∣ _
  rcases this with h | h | h | h
  · rw [h] at e; subst e; exact ⟨-(2 * q + 8 * q * q), by grind⟩
  · rw [h] at e; subst e; exact ⟨-(1 + 6 * q + 8 * q * q), by grind⟩
  · rw [h] at e; subst e; exact ⟨-(3 + 10 * q + 8 * q * q), by grind⟩
  · rw [h] at e; subst e; exact ⟨-(6 + 14 * q + 8 * q * q), by grind⟩

/-- Montgomery's reduction. p is the product, f the filler. -/
structure Mont (m f : Int) : Prop where
  hm : 2 ≤ m
  hm' : m ≤ 9223372036854775807
  hf : 0 ≤ f
  hf' : f ≤ 18446744073709551615
  e : (f * m + 1) % 18446744073709551616 = 0
def mtt (f p : Int) : Int := p % 18446744073709551616 * f % 18446744073709551616
def mc (p : Int) : Int := if p % 18446744073709551616 = 0 then 0 else 1
def ms (m f p : Int) : Int := p / 18446744073709551616 + mtt f p * m / 18446744073709551616 + mc p
theorem Mont.sum {m f p : Int} (h : Mont m f) : ms m f p * 18446744073709551616 = p + mtt f p * m := by
  have e1 : (p % 18446744073709551616 + mtt f p * m) % 18446744073709551616 = 0 := by
    unfold mtt
    rw [Int.add_emod, Int.emod_emod, md_left, Int.mul_assoc, ← Int.emod_emod p, ← Int.add_emod, Int.emod_emod]
    have : p % 18446744073709551616 + p % 18446744073709551616 * (f * m) = p % 18446744073709551616 * (f * m + 1) := by grind
    rw [this, Int.mul_emod, h.e]; simp
  have e2 := Int.emod_add_mul_ediv p 18446744073709551616
  have e3 := Int.emod_add_mul_ediv (mtt f p * m) 18446744073709551616
  unfold ms mc
  generalize mtt f p * m = u at *
  split <;> omega
theorem mul_pp {a b m : Int} (ha : 0 ≤ a ∧ a < m) (hb : 0 ≤ b ∧ b < m) (hm : m ≤ 9223372036854775807) : 0 ≤ a * b ∧ a * b < m * 9223372036854775808 := by
  refine ⟨Int.mul_nonneg ha.1 hb.1, ?_⟩
  have h1 : a * b ≤ m * b := Int.mul_le_mul_of_nonneg_right (by omega) hb.1
  have h2 : m * b ≤ m * 9223372036854775807 := Int.mul_le_mul_of_nonneg_left (by omega) (by omega)
  omega
theorem Mont.bds {m f p : Int} (h : Mont m f) (hp : 0 ≤ p ∧ p < m * 9223372036854775808) : 0 ≤ ms m f p ∧ ms m f p < 2 * m := by
  have e := h.sum (p := p)
  have hb : 0 ≤ mtt f p ∧ mtt f p < 18446744073709551616 := by unfold mtt; omega
  have h1 : 0 ≤ mtt f p * m := Int.mul_nonneg hb.1 (by have := h.hm; omega)
  have h2 : mtt f p * m ≤ 18446744073709551616 * m := Int.mul_le_mul_of_nonneg_right (by omega) (by have := h.hm; omega)
  have := h.hm
  omega
/-- what is reduced. -/
def rd (m f p : Int) : Int := if ms m f p < m then ms m f p else ms m f p - m
theorem Mont.rd {m f p : Int} (h : Mont m f) (hp : 0 ≤ p ∧ p < m * 9223372036854775808) : 0 ≤ rd m f p ∧ rd m f p < m ∧ rd m f p * 18446744073709551616 % m = p % m := by
  have hb := h.bds hp
  have hs := h.sum (p := p)
  have hm := h.hm
  unfold Num.rd
  split
  · refine ⟨hb.1, by omega, ?_⟩
    rw [hs, Int.add_mul_emod_self_right]
  · refine ⟨by omega, by omega, ?_⟩
    rw [Int.sub_mul, hs]
    have : p + mtt f p * m - m * 18446744073709551616 = p + m * (mtt f p - 18446744073709551616) := by grind
    rw [this, Int.add_mul_emod_self_left]
/-- 2 to the 64th may be divided away. -/
theorem Mont.cancel {m f a b : Int} (h : Mont m f) (ha : 0 ≤ a ∧ a < m) (e : a * 18446744073709551616 % m = b * 18446744073709551616 % m) : a = b % m := by
  have hk := Int.emod_add_mul_ediv (f * m + 1) 18446744073709551616
  rw [h.e] at hk
  generalize (f * m + 1) / 18446744073709551616 = k at hk
  have h1 := Int.emod_add_mul_ediv (a * 18446744073709551616) m
  have h2 := Int.emod_add_mul_ediv (b * 18446744073709551616) m
  rw [e] at h1
  generalize b * 18446744073709551616 % m = r at *
  generalize a * 18446744073709551616 / m = u at *
  generalize b * 18446744073709551616 / m = v at *
  have h3 : a = b + m * ((u - v) * k - f * (a - b)) := by grind
  have : a % m = b % m := by
    have : (b + m * ((u - v) * k - f * (a - b))) % m = b % m := Int.add_mul_emod_self_left b m _
    rw [← h3] at this; exact this
  rw [← this, Int.emod_eq_of_lt ha.1 ha.2]
end Num
end Go.Proofs.YtjgipjiopagkiaaDoor
