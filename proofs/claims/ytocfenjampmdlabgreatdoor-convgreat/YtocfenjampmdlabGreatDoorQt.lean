/- Plain sums and congruences of integers. -/
/- Values at the powers of a root, modulo a prime: there and back, products, and the values by halves. -/
/- Values of polynomials at points apart, modulo a prime: they tell the polynomial; and values by what is left at each half. -/
import Derived.Test.YtocfenjampmdlabGreatDoorPp
namespace Nmb

/-- two numbers leave the same, divided by p. -/
def Cg (p : Nat) (a b : Int) : Prop := a % p = b % p
theorem Cg.rfl {p : Nat} {a : Int} : Cg p a a := Eq.refl _
theorem Cg.of_eq {p : Nat} {a b : Int} (h : a = b) : Cg p a b := by rw [h]; exact Cg.rfl
theorem Cg.symm {p : Nat} {a b : Int} (h : Cg p a b) : Cg p b a := Eq.symm h
theorem Cg.trans {p : Nat} {a b c : Int} (h : Cg p a b) (h' : Cg p b c) : Cg p a c := Eq.trans h h'
theorem Cg.add {p : Nat} {a b c d : Int} (h : Cg p a b) (h' : Cg p c d) : Cg p (a + c) (b + d) := by
  unfold Cg at *
  rw [Int.add_emod, h, h', ← Int.add_emod]
theorem Cg.sub {p : Nat} {a b c d : Int} (h : Cg p a b) (h' : Cg p c d) : Cg p (a - c) (b - d) := by
  unfold Cg at *
  rw [Int.sub_emod, h, h', ← Int.sub_emod]
theorem Cg.mul {p : Nat} {a b c d : Int} (h : Cg p a b) (h' : Cg p c d) : Cg p (a * c) (b * d) := by
  unfold Cg at *
  rw [Int.mul_emod, h, h', ← Int.mul_emod]
theorem Cg.pow {p : Nat} {a b : Int} (h : Cg p a b) : ∀ n : Nat, Cg p (a ^ n) (b ^ n)
  | 0 => Cg.of_eq (by rw [Int.pow_zero, Int.pow_zero])
  | n + 1 => by rw [Int.pow_succ, Int.pow_succ]; exact (Cg.pow h n).mul h
theorem Cg.mod {p : Nat} {a : Int} : Cg p (a % p) a := Int.emod_emod_of_dvd a (Int.dvd_refl _)
theorem Cg.dvd {p : Nat} {a b : Int} : Cg p a b ↔ (p : Int) ∣ a - b := Int.emod_eq_emod_iff_emod_sub_eq_zero.trans ⟨Int.dvd_of_emod_eq_zero, Int.emod_eq_zero_of_dvd⟩
theorem Cg.nat {p : Nat} {a b : Nat} : Cg p a b ↔ a % p = b % p := by
  unfold Cg
  rw [← Int.natCast_emod, ← Int.natCast_emod]
  omega
theorem Pri.cancel {p : Nat} (h : Pri p) {a b c : Int} (hc : ¬ Cg p c 0) (he : Cg p (a * c) (b * c)) : Cg p a b := by
  rw [Cg.dvd] at *
  rw [← Int.sub_mul] at he
  rcases h.euclidI he with h1 | h1
  · exact h1
  · rw [Int.sub_zero] at hc
    exact absurd h1 hc

/-- the sum of the first n. -/
def sm (f : Nat → Int) : Nat → Int
  | 0 => 0
  | n + 1 => sm f n + f n
theorem sm_succ (f : Nat → Int) (n : Nat) : sm f (n + 1) = sm f n + f n := rfl
theorem sm_eq {f g : Nat → Int} : ∀ n, (∀ i, i < n → f i = g i) → sm f n = sm g n
  | 0, _ => rfl
  | n + 1, h => by rw [sm_succ, sm_succ, sm_eq n (fun i hi => h i (by omega)), h n (by omega)]
theorem sm_cg {p : Nat} {f g : Nat → Int} : ∀ n, (∀ i, i < n → Cg p (f i) (g i)) → Cg p (sm f n) (sm g n)
  | 0, _ => Cg.rfl
  | n + 1, h => (sm_cg n (fun i hi => h i (by omega))).add (h n (by omega))
theorem sm_zero (n : Nat) : sm (fun _ => 0) n = 0 := by
  induction n with
  | zero => rfl
  | succ n h => rw [sm_succ, h]; rfl
theorem sm_add (f g : Nat → Int) (n : Nat) : sm (fun i => f i + g i) n = sm f n + sm g n := by
  induction n with
  | zero => rfl
  | succ n h => rw [sm_succ, sm_succ, sm_succ, h]; omega
theorem sm_sub (f g : Nat → Int) (n : Nat) : sm (fun i => f i - g i) n = sm f n - sm g n := by
  induction n with
  | zero => rfl
  | succ n h => rw [sm_succ, sm_succ, sm_succ, h]; omega
theorem sm_mul (f : Nat → Int) (c : Int) (n : Nat) : sm (fun i => c * f i) n = c * sm f n := by
  induction n with
  | zero => exact (Int.mul_zero c).symm
  | succ n h => rw [sm_succ, sm_succ, h, Int.mul_add]
theorem sm_mulr (f : Nat → Int) (c : Int) (n : Nat) : sm (fun i => f i * c) n = sm f n * c := by
  rw [Int.mul_comm (sm f n) c, ← sm_mul]
  exact sm_eq n fun i _ => Int.mul_comm _ _
theorem sm_swap (f : Nat → Nat → Int) (n m : Nat) : sm (fun i => sm (fun j => f i j) m) n = sm (fun j => sm (fun i => f i j) n) m := by
  induction n with
  | zero => exact (sm_zero m).symm
  | succ n h => rw [sm_succ, h, ← sm_add]; rfl
theorem sm_app (f : Nat → Int) (m n : Nat) : sm f (m + n) = sm f m + sm (fun i => f (m + i)) n := by
  induction n with
  | zero => exact (Int.add_zero _).symm
  | succ n h => rw [show m + (n + 1) = (m + n) + 1 from rfl, sm_succ, sm_succ, h]; omega
theorem sm_two (f : Nat → Int) (n : Nat) : sm f (2 * n) = sm (fun i => f (2 * i)) n + sm (fun i => f (2 * i + 1)) n := by
  induction n with
  | zero => rfl
  | succ n h => rw [show 2 * (n + 1) = (2 * n + 1) + 1 by omega, sm_succ, sm_succ, sm_succ, sm_succ, h]; omega
theorem sm_one (f : Nat → Int) (c : Nat) : ∀ n, c < n → sm (fun m => if c = m then f m else 0) n = f c
  | 0, h => absurd h (by omega)
  | n + 1, h => by
    rw [sm_succ]
    by_cases e : c = n
    · rw [sm_eq (g := fun _ => 0) n (fun i hi => if_neg (by omega)), sm_zero, if_pos e, e, Int.zero_add]
    · rw [sm_one f c n (by omega), if_neg e, Int.add_zero]
theorem sm_none (f : Nat → Int) (c : Nat) (n : Nat) (h : n ≤ c) : sm (fun m => if c = m then f m else 0) n = 0 := by
  rw [sm_eq (g := fun _ => 0) n (fun i hi => if_neg (by omega)), sm_zero]
theorem sm_const (c : Int) (n : Nat) : sm (fun _ => c) n = n * c := by
  induction n with
  | zero => exact (Int.zero_mul c).symm
  | succ n h => rw [sm_succ, h, Int.natCast_succ, Int.add_mul, Int.one_mul]
end Nmb
namespace Nmb

/-- the value of the polynomial a of n coefficients at w to the jth. -/
def dft (a : Nat → Int) (w : Int) (n j : Nat) : Int := sm (fun i => a i * w ^ (i * j)) n
/-- the order of w is 2 to the kth, and if that is not 1, half of it leads to -1. -/
structure Rt (p : Nat) (w : Int) (k : Nat) : Prop where
  pri : Pri p
  one : Cg p (w ^ 2 ^ k) 1
  half : 0 < k → Cg p (w ^ 2 ^ (k - 1)) (-1)
  odd : 0 < k → p ≠ 2
theorem Rt.two {p : Nat} {w : Int} {k : Nat} (h : Rt p w k) (hk : 0 < k) : ¬ Cg p (-1) 1 := by
  intro e
  rw [Cg.dvd] at e
  have h1 := Int.natAbs_dvd_natAbs.2 e
  rw [Int.natAbs_natCast] at h1
  have h2 : p ∣ 2 := h1
  have h3 := Nat.le_of_dvd (by omega) h2
  have h4 := h.pri.1
  exact h.odd hk (by omega)
theorem neg_one_odd (t : Nat) : (-1 : Int) ^ (2 * t + 1) = -1 := by
  induction t with
  | zero => rfl
  | succ t h => rw [show 2 * (t + 1) + 1 = (2 * t + 1) + 1 + 1 by omega, Int.pow_succ, Int.pow_succ, h]; rfl
theorem Cg.pow_one {p : Nat} {a : Int} (h : Cg p a 1) (n : Nat) : Cg p (a ^ n) 1 := by
  have h1 := h.pow n
  rw [Int.one_pow] at h1
  exact h1
theorem Rt.ne {p : Nat} {w : Int} {k d : Nat} (h : Rt p w k) (h0 : 0 < d) (hd : d < 2 ^ k) : ¬ Cg p (w ^ d) 1 := by
  intro e
  obtain ⟨j, t, rfl⟩ := two_part d h0
  have hj : j < k := by
    apply Nat.lt_of_not_le
    intro hkj
    have h1 : 2 ^ k ≤ 2 ^ j := Nat.pow_le_pow_right (by omega) hkj
    have h2 : 2 ^ j * 1 ≤ 2 ^ j * (2 * t + 1) := Nat.mul_le_mul_left _ (by omega)
    omega
  have h1 : Cg p ((w ^ (2 ^ j * (2 * t + 1))) ^ 2 ^ (k - 1 - j)) 1 := e.pow_one _
  have e2 : (w ^ (2 ^ j * (2 * t + 1))) ^ 2 ^ (k - 1 - j) = (w ^ 2 ^ (k - 1)) ^ (2 * t + 1) := by
    rw [← Int.pow_mul, ← Int.pow_mul]
    congr 1
    rw [Nat.mul_right_comm, ← Nat.pow_add, show j + (k - 1 - j) = k - 1 by omega]
  rw [e2] at h1
  have h2 := (h.half (by omega)).pow (2 * t + 1)
  rw [neg_one_odd] at h2
  exact h.two (by omega) (h2.symm.trans h1)
/-- the sum of powers. -/
theorem geo (x : Int) (n : Nat) : sm (fun i => x ^ i) n * (x - 1) = x ^ n - 1 := by
  induction n with
  | zero => rw [Int.pow_zero]; exact Int.zero_mul _
  | succ n h =>
    rw [sm_succ, Int.add_mul, h, Int.mul_sub, Int.mul_one, ← Int.pow_succ]
    show x ^ n - 1 + (x ^ (n + 1) - x ^ n) = x ^ (n + 1) - 1
    omega
theorem Rt.geo0 {p : Nat} {w : Int} {k d : Nat} (h : Rt p w k) (h0 : 0 < d) (hd : d < 2 ^ k) : Cg p (sm (fun i => w ^ (d * i)) (2 ^ k)) 0 := by
  have e : sm (fun i => w ^ (d * i)) (2 ^ k) = sm (fun i => (w ^ d) ^ i) (2 ^ k) := sm_eq _ fun i _ => Int.pow_mul ..
  rw [e]
  refine h.pri.cancel (c := w ^ d - 1) ?_ ?_
  · intro hc
    have := hc.add (Cg.rfl (a := 1))
    rw [Int.sub_add_cancel, Int.zero_add] at this
    exact h.ne h0 hd this
  · rw [geo, Int.zero_mul, ← Int.pow_mul, Nat.mul_comm, Int.pow_mul]
    have := (h.one.pow_one d).sub (Cg.rfl (a := 1))
    exact this
theorem Rt.inv {p : Nat} {w v : Int} {k : Nat} (h : Rt p w k) (hv : Cg p (v * w) 1) : Rt p v k := by
  refine ⟨h.pri, ?_, fun hk => ?_, h.odd⟩
  · have h1 := hv.pow_one (2 ^ k)
    rw [Int.mul_pow] at h1
    have h2 := (Cg.rfl (p := p) (a := v ^ 2 ^ k)).mul h.one
    rw [Int.mul_one] at h2
    exact h2.symm.trans h1
  · have h1 := hv.pow_one (2 ^ (k - 1))
    rw [Int.mul_pow] at h1
    have h2 := (Cg.rfl (p := p) (a := v ^ 2 ^ (k - 1))).mul (h.half hk)
    have h3 := h2.symm.trans h1
    have h4 := h3.mul (Cg.rfl (p := p) (a := -1))
    rw [Int.mul_assoc] at h4
    have e1 : (-1 : Int) * -1 = 1 := rfl
    rw [e1, Int.mul_one, Int.one_mul] at h4
    exact h4
/-- powers of a root and of its inverse. -/
theorem both {p : Nat} {w v : Int} (hv : Cg p (v * w) 1) (l j i : Nat) : Cg p (w ^ (l * i) * v ^ (i * j)) (if j ≤ l then w ^ ((l - j) * i) else v ^ ((j - l) * i)) := by
  have one : ∀ m, Cg p (w ^ m * v ^ m) 1 := fun m => by
    rw [← Int.mul_pow, Int.mul_comm w v]
    exact hv.pow_one m
  by_cases h : j ≤ l
  · rw [if_pos h]
    have e : w ^ (l * i) * v ^ (i * j) = w ^ ((l - j) * i) * (w ^ (i * j) * v ^ (i * j)) := by
      rw [← Int.mul_assoc, ← Int.pow_add]
      congr 2
      rw [Nat.mul_comm i j, ← Nat.add_mul, Nat.sub_add_cancel h]
    rw [e]
    have := (Cg.rfl (p := p) (a := w ^ ((l - j) * i))).mul (one (i * j))
    rw [Int.mul_one] at this
    exact this
  · rw [if_neg h]
    have e : w ^ (l * i) * v ^ (i * j) = (w ^ (l * i) * v ^ (l * i)) * v ^ ((j - l) * i) := by
      rw [Int.mul_assoc, ← Int.pow_add]
      congr 2
      rw [← Nat.add_mul, Nat.mul_comm i j]
      congr 1
      omega
    rw [e]
    have := (one (l * i)).mul (Cg.rfl (p := p) (a := v ^ ((j - l) * i)))
    rw [Int.one_mul] at this
    exact this
/-- the values of the values at the powers of the inverse: the coefficients, so many times. -/
theorem Rt.back {p : Nat} {w v : Int} {k : Nat} (h : Rt p w k) (hv : Cg p (v * w) 1) (a : Nat → Int) (j : Nat) (hj : j < 2 ^ k) :
    Cg p (dft (fun i => dft a w (2 ^ k) i) v (2 ^ k) j) ((2 ^ k : Nat) * a j) := by
  unfold dft
  have e1 : sm (fun i => sm (fun l => a l * w ^ (l * i)) (2 ^ k) * v ^ (i * j)) (2 ^ k) = sm (fun l => a l * sm (fun i => w ^ (l * i) * v ^ (i * j)) (2 ^ k)) (2 ^ k) := by
    rw [sm_eq (g := fun i => sm (fun l => a l * (w ^ (l * i) * v ^ (i * j))) (2 ^ k)) _ (fun i _ => by rw [← sm_mulr]; exact sm_eq _ fun l _ => Int.mul_assoc ..), sm_swap]
    exact sm_eq _ fun l _ => sm_mul ..
  rw [e1]
  have e2 : ((2 ^ k : Nat) : Int) * a j = sm (fun l => if j = l then a l * (2 ^ k : Nat) else 0) (2 ^ k) := by rw [sm_one _ _ _ hj, Int.mul_comm]
  rw [e2]
  refine sm_cg _ fun l hl => ?_
  have e3 : Cg p (sm (fun i => w ^ (l * i) * v ^ (i * j)) (2 ^ k)) (sm (fun i => if j ≤ l then w ^ ((l - j) * i) else v ^ ((j - l) * i)) (2 ^ k)) := sm_cg _ fun i _ => both hv l j i
  by_cases e : j = l
  · rw [if_pos e]
    refine Cg.rfl.mul (e3.trans ?_)
    subst e
    rw [sm_eq (g := fun _ => 1) _ (fun i _ => by rw [if_pos (Nat.le_refl _), Nat.sub_self, Nat.zero_mul, Int.pow_zero]), sm_const, Int.mul_one]
    exact Cg.rfl
  · rw [if_neg e]
    have : Cg p (a l * sm (fun i => w ^ (l * i) * v ^ (i * j)) (2 ^ k)) (a l * 0) := by
      refine Cg.rfl.mul (e3.trans ?_)
      by_cases hl' : j ≤ l
      · rw [sm_eq (g := fun i => w ^ ((l - j) * i)) _ (fun i _ => if_pos hl')]
        exact h.geo0 (by omega) (by omega)
      · rw [sm_eq (g := fun i => v ^ ((j - l) * i)) _ (fun i _ => if_neg hl')]
        exact (h.inv hv).geo0 (by omega) (by omega)
    rw [Int.mul_zero] at this
    exact this
theorem dft_cg {p : Nat} {a b : Nat → Int} {w : Int} {n : Nat} (h : ∀ i, i < n → Cg p (a i) (b i)) (j : Nat) : Cg p (dft a w n j) (dft b w n j) := sm_cg _ fun i hi => (h i hi).mul Cg.rfl
theorem dft_cgw {p : Nat} {a : Nat → Int} {w v : Int} {n : Nat} (h : Cg p w v) (j : Nat) : Cg p (dft a w n j) (dft a v n j) := sm_cg _ fun _ _ => Cg.rfl.mul (h.pow _)
theorem dft_mul (a : Nat → Int) (c w : Int) (n j : Nat) : dft (fun i => c * a i) w n j = c * dft a w n j := by
  unfold dft
  rw [← sm_mul]
  exact sm_eq _ fun i _ => Int.mul_assoc ..
theorem dft_add (a b : Nat → Int) (w : Int) (n j : Nat) : dft (fun i => a i + b i) w n j = dft a w n j + dft b w n j := by
  unfold dft
  rw [← sm_add]
  exact sm_eq _ fun i _ => Int.add_mul ..
theorem dft_zero (a : Nat → Int) (w : Int) (n : Nat) : dft a w n 0 = sm a n := sm_eq _ fun i _ => by rw [Nat.mul_zero, Int.pow_zero, Int.mul_one]
/-- the way back, with the inverse of how many there are. -/
theorem Rt.there {p : Nat} {w v c : Int} {k : Nat} (h : Rt p w k) (hv : Cg p (v * w) 1) (hc : Cg p (c * (2 ^ k : Nat)) 1) (a : Nat → Int) (j : Nat) (hj : j < 2 ^ k) :
    Cg p (c * dft (fun i => dft a w (2 ^ k) i) v (2 ^ k) j) (a j) := by
  have h1 := (Cg.rfl (p := p) (a := c)).mul (h.back hv a j hj)
  rw [← Int.mul_assoc] at h1
  have h2 := hc.mul (Cg.rfl (p := p) (a := a j))
  rw [Int.one_mul] at h2
  exact h1.trans h2
/-- the values of what was found of values. -/
theorem Rt.again {p : Nat} {w v c : Int} {k : Nat} (h : Rt p w k) (hv : Cg p (v * w) 1) (hc : Cg p (c * (2 ^ k : Nat)) 1) (a : Nat → Int) (j : Nat) (hj : j < 2 ^ k) :
    Cg p (dft (fun i => c * dft a v (2 ^ k) i) w (2 ^ k) j) (a j) := by
  rw [dft_mul]
  exact (h.inv hv).there (by rw [Int.mul_comm]; exact hv) hc a j hj
/-- the round product. -/
def rnd (a b : Nat → Int) (n m : Nat) : Int := sm (fun i => sm (fun l => if (i + l) % n = m then a i * b l else 0) n) n
theorem Rt.wrap {p : Nat} {w : Int} {k : Nat} (h : Rt p w k) (m j : Nat) : Cg p (w ^ (m % 2 ^ k * j)) (w ^ (m * j)) := by
  have e : m * j = 2 ^ k * (m / 2 ^ k * j) + m % 2 ^ k * j := by
    rw [← Nat.mul_assoc, ← Nat.add_mul]
    congr 1
    exact (Nat.div_add_mod m (2 ^ k)).symm
  rw [e, Int.pow_add, show w ^ (2 ^ k * (m / 2 ^ k * j)) = (w ^ 2 ^ k) ^ (m / 2 ^ k * j) from Int.pow_mul]
  have := (h.one.pow_one (m / 2 ^ k * j)).mul (Cg.rfl (p := p) (a := w ^ (m % 2 ^ k * j)))
  rw [Int.one_mul] at this
  exact this.symm
/-- the values of the round product are the products. -/
theorem Rt.round {p : Nat} {w : Int} {k : Nat} (h : Rt p w k) (a b : Nat → Int) (j : Nat) :
    Cg p (dft (fun m => rnd a b (2 ^ k) m) w (2 ^ k) j) (dft a w (2 ^ k) j * dft b w (2 ^ k) j) := by
  have pos : 0 < 2 ^ k := Nat.two_pow_pos k
  unfold dft rnd
  have e1 : sm (fun m => sm (fun i => sm (fun l => if (i + l) % 2 ^ k = m then a i * b l else 0) (2 ^ k)) (2 ^ k) * w ^ (m * j)) (2 ^ k) = sm (fun i => sm (fun l => a i * b l * w ^ ((i + l) % 2 ^ k * j)) (2 ^ k)) (2 ^ k) := by
    rw [sm_eq (g := fun m => sm (fun i => sm (fun l => if (i + l) % 2 ^ k = m then a i * b l * w ^ (m * j) else 0) (2 ^ k)) (2 ^ k)) _ (fun m _ => by
      rw [← sm_mulr]
      refine sm_eq _ fun i _ => ?_
      rw [← sm_mulr]
      refine sm_eq _ fun l _ => ?_
      by_cases e : (i + l) % 2 ^ k = m
      · rw [if_pos e, if_pos e]
      · rw [if_neg e, if_neg e, Int.zero_mul])]
    rw [sm_swap]
    refine sm_eq _ fun i _ => ?_
    rw [sm_swap]
    refine sm_eq _ fun l _ => ?_
    rw [sm_one (fun m => a i * b l * w ^ (m * j)) _ _ (Nat.mod_lt _ pos)]
  rw [e1, ← sm_mulr]
  refine sm_cg _ fun i _ => ?_
  rw [← sm_mul]
  refine sm_cg _ fun l _ => ?_
  have e2 : a i * w ^ (i * j) * (b l * w ^ (l * j)) = a i * b l * w ^ ((i + l) * j) := by
    rw [Nat.add_mul, Int.pow_add]
    simp only [Int.mul_assoc, Int.mul_left_comm]
  rw [e2]
  exact Cg.rfl.mul (h.wrap _ _)
/-- the round product, by values and back. -/
theorem Rt.rounds {p : Nat} {w v c : Int} {k : Nat} (h : Rt p w k) (hv : Cg p (v * w) 1) (hc : Cg p (c * (2 ^ k : Nat)) 1) (a b : Nat → Int) (j : Nat) (hj : j < 2 ^ k) :
    Cg p (c * dft (fun i => dft a w (2 ^ k) i * dft b w (2 ^ k) i) v (2 ^ k) j) (rnd a b (2 ^ k) j) := by
  refine Cg.trans ?_ (h.there hv hc (fun m => rnd a b (2 ^ k) m) j hj)
  exact Cg.rfl.mul (dft_cg (fun i _ => (h.round a b i).symm) j)
/-- the product. -/
def prd (a b : Nat → Int) (la lb m : Nat) : Int := sm (fun i => sm (fun l => if i + l = m then a i * b l else 0) lb) la
theorem sm_long {f : Nat → Int} {m n : Nat} (hm : m ≤ n) (h : ∀ i, m ≤ i → i < n → f i = 0) : sm f n = sm f m := by
  obtain ⟨d, rfl⟩ := Nat.le.dest hm
  rw [sm_app, sm_eq (g := fun _ => 0) d (fun i hi => h _ (by omega) (by omega)), sm_zero, Int.add_zero]
theorem rnd_prd {a b : Nat → Int} {la lb n : Nat} (hab : la + lb ≤ n + 1) (h1 : 0 < lb) (ha : ∀ i, la ≤ i → i < n → a i = 0) (hb : ∀ i, lb ≤ i → i < n → b i = 0) (m : Nat) :
    rnd a b n m = prd a b la lb m := by
  unfold rnd prd
  rw [sm_long (m := la) (by omega) (fun i hi hn => by
    rw [sm_eq (g := fun _ => 0) _ (fun l _ => by rw [ha i hi hn, Int.zero_mul, ite_self]), sm_zero])]
  refine sm_eq _ fun i hi => ?_
  rw [sm_long (m := lb) (by omega) (fun l hl hn => by rw [hb l hl hn, Int.mul_zero, ite_self])]
  refine sm_eq _ fun l hl => ?_
  rw [Nat.mod_eq_of_lt (by omega)]

/- the values by halves. -/
/-- the numbers whose bits are turned about. -/
def rv : Nat → Nat → Nat
  | 0, _ => 0
  | m + 1, b => b % 2 * 2 ^ m + rv m (b / 2)
theorem rv_lt : ∀ m b, rv m b < 2 ^ m
  | 0, _ => Nat.one_pos
  | m + 1, b => by
    have h := rv_lt m (b / 2)
    have h2 : b % 2 * 2 ^ m ≤ 1 * 2 ^ m := Nat.mul_le_mul_right _ (by omega)
    rw [Nat.pow_succ]
    show b % 2 * 2 ^ m + rv m (b / 2) < _
    omega
theorem rv_up : ∀ m b, rv (m + 1) b = 2 * rv m (b % 2 ^ m) + b / 2 ^ m % 2
  | 0, b => by
    show b % 2 * 2 ^ 0 + 0 = 2 * 0 + b / 2 ^ 0 % 2
    rw [Nat.pow_zero, Nat.div_one]
    omega
  | m + 1, b => by
    have h := rv_up m (b / 2)
    have e1 : b / 2 % 2 ^ m = b % 2 ^ (m + 1) / 2 := by
      rw [Nat.pow_succ, Nat.mul_comm, Nat.mod_mul_right_div_self]
    have e2 : b / 2 / 2 ^ m = b / 2 ^ (m + 1) := by rw [Nat.div_div_eq_div_mul, Nat.pow_succ, Nat.mul_comm]
    have e3 : b % 2 ^ (m + 1) % 2 = b % 2 := Nat.mod_mod_of_dvd _ (by rw [Nat.pow_succ]; exact Nat.dvd_mul_left _ _)
    have e4 : rv (m + 1) (b % 2 ^ (m + 1)) = b % 2 * 2 ^ m + rv m (b / 2 % 2 ^ m) := by
      show b % 2 ^ (m + 1) % 2 * 2 ^ m + rv m (b % 2 ^ (m + 1) / 2) = _
      rw [e3, e1]
    show b % 2 * 2 ^ (m + 1) + rv (m + 1) (b / 2) = _
    rw [h, e4, e2, Nat.pow_succ, Nat.mul_add, ← Nat.mul_assoc]
    have e5 : 2 * (b % 2) * 2 ^ m = b % 2 * (2 ^ m * 2) := by rw [Nat.mul_comm 2 (b % 2), Nat.mul_assoc, Nat.mul_comm 2]
    omega
theorem rv_rv : ∀ m b, b < 2 ^ m → rv m (rv m b) = b
  | 0, b, h => by
    have : b = 0 := by rw [Nat.pow_zero] at h; omega
    rw [this]; rfl
  | m + 1, b, h => by
    have h1 := rv_lt m (b / 2)
    have h2 : b / 2 < 2 ^ m := by rw [Nat.pow_succ] at h; omega
    rw [rv_up]
    have e1 : rv (m + 1) b = 2 ^ m * (b % 2) + rv m (b / 2) := by rw [Nat.mul_comm]; rfl
    rw [e1, Nat.mul_add_mod, Nat.mod_eq_of_lt h1, rv_rv m _ h2, Nat.mul_add_div (Nat.two_pow_pos m), Nat.div_eq_of_lt h1]
    omega
theorem rv_even (m b : Nat) : rv (m + 1) (2 * b) = rv m b := by
  show 2 * b % 2 * 2 ^ m + rv m (2 * b / 2) = _
  rw [show 2 * b % 2 = 0 by omega, show 2 * b / 2 = b by omega, Nat.zero_mul, Nat.zero_add]
theorem rv_odd (m b : Nat) : rv (m + 1) (2 * b + 1) = rv m b + 2 ^ m := by
  show (2 * b + 1) % 2 * 2 ^ m + rv m ((2 * b + 1) / 2) = _
  rw [show (2 * b + 1) % 2 = 1 by omega, show (2 * b + 1) / 2 = b by omega, Nat.one_mul, Nat.add_comm]
/-- the values of each (2 to the (k - s)th) number from o on. -/
def prt (a : Nat → Int) (w : Int) (k s o j : Nat) : Int := sm (fun i => a (o + 2 ^ (k - s) * i) * w ^ (2 ^ (k - s) * i * j)) (2 ^ s)
theorem prt_zero (a : Nat → Int) (w : Int) (k o : Nat) : prt a w k 0 o 0 = a o := by
  unfold prt
  rw [Nat.pow_zero, sm_succ]
  simp only [sm, Nat.mul_zero, Nat.add_zero, Int.pow_zero, Int.mul_one, Int.zero_add]
theorem prt_all (a : Nat → Int) (w : Int) (k j : Nat) : prt a w k k 0 j = dft a w (2 ^ k) j := by
  unfold prt dft
  refine sm_eq _ fun i _ => ?_
  rw [Nat.sub_self, Nat.pow_zero, Nat.one_mul, Nat.zero_add]
theorem prt_split (a : Nat → Int) (w : Int) {k s : Nat} (hs : s < k) (o j : Nat) :
    prt a w k (s + 1) o j = sm (fun i => a (o + 2 ^ (k - s) * i) * w ^ (2 ^ (k - s) * i * j)) (2 ^ s) + w ^ (2 ^ (k - (s + 1)) * j) * sm (fun i => a (o + 2 ^ (k - (s + 1)) + 2 ^ (k - s) * i) * w ^ (2 ^ (k - s) * i * j)) (2 ^ s) := by
  have e : 2 ^ (k - s) = 2 * 2 ^ (k - (s + 1)) := by rw [show k - s = (k - (s + 1)) + 1 by omega, Nat.pow_succ, Nat.mul_comm]
  unfold prt
  rw [e]
  generalize 2 ^ (k - (s + 1)) = D
  rw [Nat.pow_succ, Nat.mul_comm (2 ^ s) 2, sm_two, ← sm_mul]
  congr 1
  · refine sm_eq _ fun i _ => ?_
    rw [show D * (2 * i) = 2 * D * i by rw [Nat.mul_left_comm, Nat.mul_assoc]]
  · refine sm_eq _ fun i _ => ?_
    have e1 : D * (2 * i + 1) = D + 2 * D * i := by rw [Nat.mul_add, Nat.mul_one, Nat.mul_left_comm, Nat.mul_assoc, Nat.add_comm]
    rw [e1, ← Nat.add_assoc, Nat.add_mul, Int.pow_add, Int.mul_left_comm]
/-- a pair. -/
theorem prt_low (a : Nat → Int) (w : Int) {k s : Nat} (hs : s < k) (o j : Nat) :
    prt a w k (s + 1) o j = prt a w k s o j + w ^ (2 ^ (k - (s + 1)) * j) * prt a w k s (o + 2 ^ (k - (s + 1))) j := prt_split a w hs o j
theorem Rt.high {p : Nat} {w : Int} {k s : Nat} (h : Rt p w k) (a : Nat → Int) (hs : s < k) (o j : Nat) :
    Cg p (prt a w k (s + 1) o (j + 2 ^ s)) (prt a w k s o j - w ^ (2 ^ (k - (s + 1)) * j) * prt a w k s (o + 2 ^ (k - (s + 1))) j) := by
  have e0 : ∀ i, 2 ^ (k - s) * i * (j + 2 ^ s) = 2 ^ (k - s) * i * j + 2 ^ k * i := fun i => by
    rw [Nat.mul_add]
    congr 1
    rw [Nat.mul_right_comm, ← Nat.pow_add, Nat.sub_add_cancel (by omega)]
  have one : ∀ i, Cg p (w ^ (2 ^ (k - s) * i * (j + 2 ^ s))) (w ^ (2 ^ (k - s) * i * j)) := fun i => by
    rw [e0, Int.pow_add, show w ^ (2 ^ k * i) = (w ^ 2 ^ k) ^ i from Int.pow_mul]
    have := (Cg.rfl (p := p) (a := w ^ (2 ^ (k - s) * i * j))).mul (h.one.pow_one i)
    rw [Int.mul_one] at this
    exact this
  have half : Cg p (w ^ (2 ^ (k - (s + 1)) * (j + 2 ^ s))) (w ^ (2 ^ (k - (s + 1)) * j) * -1) := by
    rw [Nat.mul_add, Int.pow_add, ← Nat.pow_add, show k - (s + 1) + s = k - 1 by omega]
    exact Cg.rfl.mul (h.half (by omega))
  rw [prt_split a w hs]
  unfold prt
  have r1 := sm_cg (p := p) (f := fun i => a (o + 2 ^ (k - s) * i) * w ^ (2 ^ (k - s) * i * (j + 2 ^ s))) (g := fun i => a (o + 2 ^ (k - s) * i) * w ^ (2 ^ (k - s) * i * j)) (2 ^ s) (fun i _ => Cg.rfl.mul (one i))
  have r2 := half.mul (sm_cg (p := p) (f := fun i => a (o + 2 ^ (k - (s + 1)) + 2 ^ (k - s) * i) * w ^ (2 ^ (k - s) * i * (j + 2 ^ s))) (g := fun i => a (o + 2 ^ (k - (s + 1)) + 2 ^ (k - s) * i) * w ^ (2 ^ (k - s) * i * j)) (2 ^ s) (fun i _ => Cg.rfl.mul (one i)))
  refine (r1.add r2).trans (Cg.of_eq ?_)
  rw [Int.mul_neg, Int.mul_one, Int.neg_mul]
  omega
end Nmb
namespace Nmb

/-- the value of a polynomial of n coefficients. -/
def ev (a : Nat → Int) (n : Nat) (x : Int) : Int := sm (fun i => a i * x ^ i) n
theorem dft_ev (a : Nat → Int) (w : Int) (n j : Nat) : dft a w n j = ev a n (w ^ j) := sm_eq _ fun i _ => by rw [← Int.pow_mul, Nat.mul_comm j i]
theorem sm_front (f : Nat → Int) (n : Nat) : sm f (n + 1) = f 0 + sm (fun i => f (i + 1)) n := by
  rw [Nat.add_comm n 1, sm_app]
  simp only [sm, Int.zero_add, Nat.add_comm 1]
theorem ev_front (a : Nat → Int) (n : Nat) (x : Int) : ev a (n + 1) x = a 0 + x * ev (fun i => a (i + 1)) n x := by
  unfold ev
  rw [sm_front, Int.pow_zero, Int.mul_one, ← sm_mul]
  congr 1
  exact sm_eq _ fun i _ => by rw [Int.pow_succ, ← Int.mul_assoc, Int.mul_comm]
theorem ev_cg {p : Nat} {a b : Nat → Int} {n : Nat} {x y : Int} (h : ∀ i, i < n → Cg p (a i) (b i)) (hx : Cg p x y) : Cg p (ev a n x) (ev b n y) := sm_cg _ fun i hi => (h i hi).mul (hx.pow i)
theorem ev_sub (a b : Nat → Int) (n : Nat) (x : Int) : ev (fun i => a i - b i) n x = ev a n x - ev b n x := by
  unfold ev
  rw [← sm_sub]
  exact sm_eq _ fun i _ => Int.sub_mul ..
theorem ev_add (a b : Nat → Int) (n : Nat) (x : Int) : ev (fun i => a i + b i) n x = ev a n x + ev b n x := by
  unfold ev
  rw [← sm_add]
  exact sm_eq _ fun i _ => Int.add_mul ..
theorem ev_long {a : Nat → Int} {m n : Nat} (hm : m ≤ n) (h : ∀ i, m ≤ i → i < n → a i = 0) (x : Int) : ev a n x = ev a m x := sm_long hm fun i h1 h2 => by rw [h i h1 h2, Int.zero_mul]
/-- the quotient by x less t, and what is left. -/
def qo (a : Nat → Int) (t : Int) (n m : Nat) : Int := ev (fun r => a (m + 1 + r)) (n - m) t
theorem qo_said (y t : Int) : ∀ n a, ev a (n + 1) y - ev a (n + 1) t = (y - t) * ev (qo a t n) n y
  | 0, a => by
    rw [ev_front, ev_front]
    show a 0 + y * 0 - (a 0 + t * 0) = (y - t) * 0
    simp only [Int.mul_zero]
    omega
  | n + 1, a => by
    have h := qo_said y t n (fun i => a (i + 1))
    rw [ev_front a (n + 1) y, ev_front a (n + 1) t, ev_front (qo a t (n + 1)) n y]
    have e0 : qo a t (n + 1) 0 = ev (fun i => a (i + 1)) (n + 1) t := by
      unfold qo
      congr 1
      funext r
      rw [Nat.zero_add, Nat.add_comm]
    have e1 : ev (fun i => qo a t (n + 1) (i + 1)) n y = ev (qo (fun i => a (i + 1)) t n) n y := by
      congr 1
      funext m
      unfold qo
      rw [Nat.add_sub_add_right]
      congr 1
      funext r
      congr 1
      omega
    rw [e0, e1]
    grind
theorem qo_step (a : Nat → Int) (t : Int) {n m : Nat} (h : m < n) : qo a t n m = a (m + 1) + t * qo a t n (m + 1) := by
  unfold qo
  rw [show n - m = (n - (m + 1)) + 1 by omega, ev_front]
  congr 3
  funext r
  congr 1
  omega
/-- a polynomial of n coefficients that is 0 at n points apart is 0. -/
theorem Pri.none {p : Nat} (h : Pri p) : ∀ n (a x : Nat → Int), (∀ i j, i < j → j < n → ¬ Cg p (x i) (x j)) → (∀ i, i < n → Cg p (ev a n (x i)) 0) → ∀ m, m < n → Cg p (a m) 0
  | 0, _, _, _, _, _, hm => absurd hm (by omega)
  | n + 1, a, x, hx, ha, m, hm => by
    have hn := ha n (by omega)
    have h0 : ∀ m, m < n → Cg p (qo a (x n) n m) 0 := h.none n (qo a (x n) n) x (fun i j hij hj => hx i j hij (by omega)) fun i hi => by
      have h1 := (ha i (by omega)).sub hn
      rw [qo_said, Int.mul_comm] at h1
      refine h.cancel (c := x i - x n) (fun hc => ?_) ?_
      · have h2 := hc.add (Cg.rfl (p := p) (a := x n))
        rw [Int.sub_add_cancel, Int.zero_add] at h2
        exact hx i n hi (by omega) h2
      · rw [Int.zero_mul]
        exact h1
    have h1 : ∀ m, m ≤ n → Cg p (qo a (x n) n m) 0 := fun m hm => by
      by_cases e : m = n
      · rw [e]; unfold qo; rw [Nat.sub_self]; exact Cg.rfl
      · exact h0 m (by omega)
    have up : ∀ m, m < n → Cg p (a (m + 1)) 0 := fun m hm => by
      have e := qo_step a (x n) hm
      have e2 : a (m + 1) = qo a (x n) n m - x n * qo a (x n) n (m + 1) := by omega
      rw [e2]
      have := (h1 m (by omega)).sub ((Cg.rfl (p := p) (a := x n)).mul (h1 (m + 1) (by omega)))
      rw [Int.mul_zero] at this
      exact this
    cases m with
    | succ m => exact up m (by omega)
    | zero =>
      rw [ev_front] at hn
      have h2 : Cg p (ev (fun i => a (i + 1)) n (x n)) 0 := by
        have := ev_cg (p := p) (b := fun _ => 0) (n := n) (x := x n) (fun i hi => up i hi) Cg.rfl
        refine this.trans (Cg.of_eq ?_)
        unfold ev
        rw [sm_eq (g := fun _ => 0) _ (fun i _ => Int.zero_mul _), sm_zero]
      have h3 := hn.sub ((Cg.rfl (p := p) (a := x n)).mul h2)
      rw [Int.mul_zero, Int.sub_zero, Int.add_sub_cancel] at h3
      exact h3
/-- values at n points apart tell a polynomial of n coefficients. -/
theorem Pri.tell {p : Nat} (h : Pri p) {n : Nat} {a b x : Nat → Int} (hx : ∀ i j, i < j → j < n → ¬ Cg p (x i) (x j)) (hv : ∀ i, i < n → Cg p (ev a n (x i)) (ev b n (x i))) (m : Nat) (hm : m < n) : Cg p (a m) (b m) := by
  have h1 := h.none n (fun i => a i - b i) x hx (fun i hi => by
    rw [ev_sub]
    have := (hv i hi).sub (Cg.rfl (p := p) (a := ev b n (x i)))
    rw [Int.sub_self] at this
    exact this) m hm
  have h2 := h1.add (Cg.rfl (p := p) (a := b m))
  rw [Int.zero_add] at h2
  exact (Cg.of_eq (by omega)).trans h2
/-- powers of a root are apart. -/
theorem Rt.apart {p : Nat} {w : Int} {k i j : Nat} (h : Rt p w k) (hi : i < 2 ^ k) (hj : j < 2 ^ k) (e : Cg p (w ^ i) (w ^ j)) : i = j := by
  have gen : ∀ i j, i < j → j < 2 ^ k → ¬ Cg p (w ^ i) (w ^ j) := fun i j hij hj e => by
    have e1 : w ^ j = w ^ (j - i) * w ^ i := by rw [← Int.pow_add, Nat.sub_add_cancel (by omega)]
    have e2 : Cg p (1 * w ^ i) (w ^ (j - i) * w ^ i) := by rw [Int.one_mul, ← e1]; exact e
    refine h.ne (d := j - i) (by omega) (by omega) (h.pri.cancel (c := w ^ i) (fun hc => ?_) e2).symm
    have h1 := hc.mul (Cg.rfl (p := p) (a := w ^ (2 ^ k - i)))
    rw [← Int.pow_add, show i + (2 ^ k - i) = 2 ^ k by omega, Int.zero_mul] at h1
    have h2 := h.one.symm.trans h1
    have h3 := Cg.nat (p := p) (a := 1) (b := 0) |>.1 h2
    have h4 := h.pri.1
    rw [Nat.mod_eq_of_lt (by omega), Nat.zero_mod] at h3
    omega
  rcases Nat.lt_trichotomy i j with hl | hl | hl
  · exact absurd e (gen i j hl hj)
  · exact hl
  · exact absurd e.symm (gen j i hl hi)
theorem rv_inj {k i j : Nat} (hi : i < 2 ^ k) (hj : j < 2 ^ k) (h : rv k i = rv k j) : i = j := by rw [← rv_rv k i hi, h, rv_rv k j hj]
/-- the points, whose exponents' bits are turned about, are apart. -/
theorem Rt.points {p : Nat} {w : Int} {k : Nat} (h : Rt p w k) (i j : Nat) (hij : i < j) (hj : j < 2 ^ k) : ¬ Cg p (w ^ rv k i) (w ^ rv k j) := fun e => by
  have := rv_inj (by omega) hj (h.apart (rv_lt k i) (rv_lt k j) e)
  omega
/-- what is left of a polynomial of H times N coefficients, divided by x to the Hth less c. -/
def red (l : Nat → Int) (c : Int) (H N j : Nat) : Int := sm (fun q => l (j + H * q) * c ^ q) N
theorem red_top (l : Nat → Int) (c : Int) (H j : Nat) : red l c H 1 j = l j := by
  unfold red
  simp only [sm, Nat.mul_zero, Nat.add_zero, Int.pow_zero, Int.mul_one, Int.zero_add]
theorem red_leaf (l : Nat → Int) (x : Int) (N : Nat) : red l x 1 N 0 = ev l N x := sm_eq _ fun q _ => by rw [Nat.zero_add, Nat.one_mul]
theorem red_cg {p : Nat} {l : Nat → Int} {c d : Int} (h : Cg p c d) (H N j : Nat) : Cg p (red l c H N j) (red l d H N j) := sm_cg _ fun q _ => Cg.rfl.mul (h.pow q)
theorem red_low (l : Nat → Int) (e : Int) (h N j : Nat) : red l e h (2 * N) j = red l (e * e) (2 * h) N j + e * red l (e * e) (2 * h) N (j + h) := by
  unfold red
  rw [sm_two, ← sm_mul]
  have e2 : ∀ q : Nat, e ^ (2 * q) = (e * e) ^ q := fun q => by rw [Int.pow_mul, Int.pow_succ, Int.pow_succ, Int.pow_zero, Int.one_mul]
  congr 1
  · exact sm_eq _ fun q _ => by rw [e2, Nat.mul_left_comm, Nat.mul_assoc]
  · exact sm_eq _ fun q _ => by
      rw [Int.pow_succ, e2, show j + h * (2 * q + 1) = j + h + 2 * h * q by rw [Nat.mul_add, Nat.mul_one, Nat.mul_left_comm, Nat.mul_assoc]; omega]
      rw [Int.mul_comm ((e * e) ^ q) e, Int.mul_left_comm]
theorem red_high (l : Nat → Int) (e : Int) (h N j : Nat) : red l (-e) h (2 * N) j = red l (e * e) (2 * h) N j - e * red l (e * e) (2 * h) N (j + h) := by
  rw [red_low, Int.neg_mul_neg, Int.neg_mul]
  omega
/-- the number whose root the polynomial is divided by at the place b of the depth d. -/
def nd (w : Int) (k d b : Nat) : Int := w ^ (rv d b * 2 ^ (k - d))
theorem nd_top (w : Int) (k : Nat) : nd w k 0 0 = 1 := by
  unfold nd
  show w ^ (0 * 2 ^ (k - 0)) = 1
  rw [Nat.zero_mul, Int.pow_zero]
theorem nd_leaf (w : Int) (k i : Nat) : nd w k k i = w ^ rv k i := by
  unfold nd
  rw [Nat.sub_self, Nat.pow_zero, Nat.mul_one]
theorem nd_low (w : Int) {k d : Nat} (hd : d < k) (b : Nat) : nd w k (d + 1) (2 * b) * nd w k (d + 1) (2 * b) = nd w k d b := by
  unfold nd
  rw [rv_even, ← Int.pow_add, ← Nat.mul_add, ← Nat.two_mul, show k - d = (k - (d + 1)) + 1 by omega, Nat.pow_succ, Nat.mul_comm 2]
theorem Rt.nd_high {p : Nat} {w : Int} {k d : Nat} (h : Rt p w k) (hd : d < k) (b : Nat) : Cg p (nd w k (d + 1) (2 * b + 1)) (-nd w k (d + 1) (2 * b)) := by
  unfold nd
  rw [rv_even, rv_odd, Nat.add_mul, Int.pow_add, ← Nat.pow_add, show d + (k - (d + 1)) = k - 1 by omega]
  have := (Cg.rfl (p := p) (a := w ^ (rv d b * 2 ^ (k - (d + 1))))).mul (h.half (by omega))
  rw [Int.mul_neg, Int.mul_one] at this
  exact this
end Nmb
