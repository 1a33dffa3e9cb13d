/- The way back by halves, of some values and the coefficients behind them (after van der Hoeven). -/
/- Plain mathematics for the landed tft: bits turned about of two places; points; halves. -/
/- Bits turned about: what math/bits' Reverse64 does, in plain numbers. -/
/- Bits and words that the landed tft asks for. -/
/- What the field's Inv answers. -/
import Derived.Test.YtocfenjampmdlabGreatDoorQg
import Derived.Test.YtocfenjampmdlabGreatDoorQt
import Derived.Test.YtocfenjampmdlabGreatDoorShelf
import Derived.Laws.BitsLemmas
import Derived.Test.YtocfenjampmdlabGreatDoorVw
namespace Nmb

/-- the list Z has the first n values of A, and A's coefficients behind them. -/
def Mxd (p : Nat) (w : Int) (k m b n : Nat) (A Z : Nat → Int) : Prop := (∀ i, i < n → i < 2 ^ m → Cg p (Z i) (lf w k m b A i)) ∧ ∀ i, n ≤ i → i < 2 ^ m → Cg p (Z i) (A i)
theorem Mxd.cg {p : Nat} {w : Int} {k m b n : Nat} {A Z Z' : Nat → Int} (h : Mxd p w k m b n A Z) (e : ∀ i, i < 2 ^ m → Cg p (Z' i) (Z i)) : Mxd p w k m b n A Z' :=
  ⟨fun i h1 h2 => (e i h2).trans (h.1 i h1 h2), fun i h1 h2 => (e i h2).trans (h.2 i h1 h2)⟩
theorem Mxd.zero {p : Nat} {w : Int} {k b n : Nat} {Z : Nat → Int} : Mxd p w k 0 b n Z Z :=
  ⟨fun i _ h2 => by
    obtain rfl : i = 0 := by rw [Nat.pow_zero] at h2; omega
    exact Cg.rfl, fun _ _ _ => Cg.rfl⟩
/-- no more values than half of them. -/
theorem Mxd.small {p : Nat} {w : Int} {k m b n : Nat} {lo Z A : Nat → Int} (hn : n ≤ 2 ^ m)
    (h : Mxd p w k m (2 * b) n lo (fun i => if i < n then Z i else Z i + nd w k (k - m) (2 * b) * Z (i + 2 ^ m)))
    (h1 : ∀ j, j < 2 ^ m → Cg p (A j) (lo j - nd w k (k - m) (2 * b) * Z (j + 2 ^ m)))
    (h2 : ∀ j, j < 2 ^ m → Cg p (A (j + 2 ^ m)) (Z (j + 2 ^ m))) : Mxd p w k (m + 1) b n A Z := by
  have e2 : 2 ^ (m + 1) = 2 * 2 ^ m := by rw [Nat.pow_succ, Nat.mul_comm]
  have lov : ∀ j, j < 2 ^ m → Cg p (A j + nd w k (k - m) (2 * b) * A (j + 2 ^ m)) (lo j) := fun j hj => by
    have := (h1 j hj).add ((Cg.rfl (p := p) (a := nd w k (k - m) (2 * b))).mul (h2 j hj))
    rw [Int.sub_add_cancel] at this
    exact this
  refine ⟨fun i hi hi2 => ?_, fun i hi hi2 => ?_⟩
  · have h3 := h.1 i hi (by omega)
    have h3' : Cg p (Z i) (lf w k m (2 * b) lo i) := by
      have e : (if i < n then Z i else Z i + nd w k (k - m) (2 * b) * Z (i + 2 ^ m)) = Z i := if_pos hi
      rw [← e]
      exact h3
    show Cg p (Z i) (if i < 2 ^ m then _ else _)
    rw [if_pos (by omega)]
    exact h3'.trans (lf_cg m _ _ _ i (fun j hj => (lov j hj).symm) (by omega))
  · by_cases hl : i < 2 ^ m
    · have h3 := h.2 i hi hl
      have e : (if i < n then Z i else Z i + nd w k (k - m) (2 * b) * Z (i + 2 ^ m)) = Z i + nd w k (k - m) (2 * b) * Z (i + 2 ^ m) := if_neg (by omega)
      have h4 : Cg p (Z i + nd w k (k - m) (2 * b) * Z (i + 2 ^ m)) (lo i) := by rw [← e]; exact h3
      have h5 := (h4.sub (Cg.rfl (p := p) (a := nd w k (k - m) (2 * b) * Z (i + 2 ^ m)))).trans (h1 i hl).symm
      rw [Int.add_sub_cancel] at h5
      exact h5
    · obtain ⟨j, rfl⟩ : ∃ j, i = j + 2 ^ m := ⟨i - 2 ^ m, by omega⟩
      exact (h2 j (by omega)).symm
/-- half of the values at least. -/
theorem Mxd.great {p : Nat} {w : Int} {k m b n : Nat} {lo hi Z A : Nat → Int} {c d : Int} (hn : 2 ^ m ≤ n)
    (hc : Cg p (2 * c) 1) (hd : Cg p (d * nd w k (k - m) (2 * b)) c)
    (h : ∀ i, i < 2 ^ m → Cg p (Z i) (lf w k m (2 * b) lo i))
    (h' : Mxd p w k m (2 * b + 1) (n - 2 ^ m) hi (fun i => if i < n - 2 ^ m then Z (i + 2 ^ m) else lo i - 2 * (nd w k (k - m) (2 * b) * Z (i + 2 ^ m))))
    (h1 : ∀ j, j < 2 ^ m → Cg p (A j) ((lo j + hi j) * c))
    (h2 : ∀ j, j < 2 ^ m → Cg p (A (j + 2 ^ m)) ((lo j - hi j) * d)) : Mxd p w k (m + 1) b n A Z := by
  have e2 : 2 ^ (m + 1) = 2 * 2 ^ m := by rw [Nat.pow_succ, Nat.mul_comm]
  generalize he : nd w k (k - m) (2 * b) = e at *
  have half : ∀ x y : Int, Cg p ((x + y) * c + e * ((x - y) * d)) x := fun x y => by
    have a1 : Cg p ((x + y) * c + e * ((x - y) * d)) ((x + y) * c + (x - y) * c) := by
      refine Cg.rfl.add ?_
      have := (Cg.rfl (p := p) (a := x - y)).mul hd
      exact (Cg.of_eq (by grind)).trans this
    refine a1.trans ((Cg.of_eq (b := x * (2 * c)) (by grind)).trans ?_)
    have := (Cg.rfl (p := p) (a := x)).mul hc
    rw [Int.mul_one] at this
    exact this
  have half2 : ∀ x y : Int, Cg p ((x + y) * c - e * ((x - y) * d)) y := fun x y => by
    have a1 : Cg p ((x + y) * c - e * ((x - y) * d)) ((x + y) * c - (x - y) * c) := by
      refine Cg.rfl.sub ?_
      have := (Cg.rfl (p := p) (a := x - y)).mul hd
      exact (Cg.of_eq (by grind)).trans this
    refine a1.trans ((Cg.of_eq (b := y * (2 * c)) (by grind)).trans ?_)
    have := (Cg.rfl (p := p) (a := y)).mul hc
    rw [Int.mul_one] at this
    exact this
  have lov : ∀ j, j < 2 ^ m → Cg p (A j + e * A (j + 2 ^ m)) (lo j) := fun j hj => ((h1 j hj).add (Cg.rfl.mul (h2 j hj))).trans (half _ _)
  have hiv : ∀ j, j < 2 ^ m → Cg p (A j - e * A (j + 2 ^ m)) (hi j) := fun j hj => ((h1 j hj).sub (Cg.rfl.mul (h2 j hj))).trans (half2 _ _)
  refine ⟨fun i hi1 hi2 => ?_, fun i hi1 hi2 => ?_⟩
  · show Cg p (Z i) (if i < 2 ^ m then _ else _)
    by_cases hl : i < 2 ^ m
    · rw [if_pos hl, he]
      exact (h i hl).trans (lf_cg m _ _ _ i (fun j hj => (lov j hj).symm) hl)
    · rw [if_neg hl, he]
      have h3 := h'.1 (i - 2 ^ m) (by omega) (by omega)
      have e3 : (if i - 2 ^ m < n - 2 ^ m then Z (i - 2 ^ m + 2 ^ m) else lo (i - 2 ^ m) - 2 * (e * Z (i - 2 ^ m + 2 ^ m))) = Z i := by
        rw [if_pos (by omega), Nat.sub_add_cancel (by omega)]
      have h4 : Cg p (Z i) (lf w k m (2 * b + 1) hi (i - 2 ^ m)) := by rw [← e3]; exact h3
      exact h4.trans (lf_cg m _ _ _ _ (fun j hj => (hiv j hj).symm) (by omega))
  · obtain ⟨j, rfl⟩ : ∃ j, i = j + 2 ^ m := ⟨i - 2 ^ m, by omega⟩
    have h3 := h'.2 j (by omega) (by omega)
    have e3 : (if j < n - 2 ^ m then Z (j + 2 ^ m) else lo j - 2 * (e * Z (j + 2 ^ m))) = lo j - 2 * (e * Z (j + 2 ^ m)) := if_neg (by omega)
    have h4 : Cg p (lo j - 2 * (e * Z (j + 2 ^ m))) (hi j) := by rw [← e3]; exact h3
    -- lo - hi = 2 e Z
    have h5 : Cg p (lo j - hi j) (2 * (e * Z (j + 2 ^ m))) := by
      have := (Cg.rfl (p := p) (a := lo j)).sub h4.symm
      exact this.trans (Cg.of_eq (by omega))
    have h6 := (h5.mul (Cg.rfl (p := p) (a := d))).symm
    have h7 : Cg p (2 * (e * Z (j + 2 ^ m)) * d) (Z (j + 2 ^ m)) := by
      have a1 : 2 * (e * Z (j + 2 ^ m)) * d = 2 * (d * e) * Z (j + 2 ^ m) := by grind
      rw [a1]
      have a2 := (((Cg.rfl (p := p) (a := 2)).mul hd).trans hc).mul (Cg.rfl (p := p) (a := Z (j + 2 ^ m)))
      rw [Int.one_mul] at a2
      exact a2
    exact h7.symm.trans (h6.trans (h2 j (by omega)).symm)
/-- what is found has the values. -/
theorem Rt.mxd_found {p : Nat} {w : Int} {k n : Nat} {A Z : Nat → Int} (R : Rt p w k) (hn : n ≤ 2 ^ k) (h : Mxd p w k k 0 n A Z) (h0 : ∀ i, n ≤ i → i < 2 ^ k → Z i = 0) (i : Nat) (hi : i < n) : Cg p (ev A n (w ^ rv k i)) (Z i) := by
  have h1 := h.1 i hi (by omega)
  refine Cg.symm (h1.trans ((R.lf_all A i (by omega)).trans ?_))
  have h2 : Cg p (ev A (2 ^ k) (w ^ rv k i)) (ev (fun j => if j < n then A j else 0) (2 ^ k) (w ^ rv k i)) := ev_cg (fun j hj => by
    show Cg p (A j) (if j < n then A j else 0)
    by_cases e : j < n
    · rw [if_pos e]; exact Cg.rfl
    · rw [if_neg e]
      have := h.2 j (by omega) hj
      rw [h0 j (by omega) hj] at this
      exact this.symm) Cg.rfl
  refine h2.trans (Cg.of_eq ?_)
  rw [ev_long (m := n) hn (fun j h3 _ => if_neg (by omega))]
  exact sm_eq _ fun j hj => by show (if j < n then A j else 0) * _ = _; rw [if_pos hj]
end Nmb
namespace Nmb

theorem rv_nil : ∀ M, rv M 0 = 0
  | 0 => rfl
  | M + 1 => by
    show 0 % 2 * 2 ^ M + rv M (0 / 2) = 0
    rw [Nat.zero_div, rv_nil M]
    simp
/-- two places that follow each other in reverse have exponents whose sum is half of all. -/
theorem rv_flip : ∀ q M t, q < M → t < 2 ^ q → rv M (2 ^ q + t) + rv M (2 ^ q + (2 ^ q - 1 - t)) = 2 ^ M
  | _, 0, _, h, _ => absurd h (Nat.not_lt_zero _)
  | 0, M + 1, t, _, h => by
    obtain rfl : t = 0 := by rw [Nat.pow_zero] at h; omega
    have e : rv (M + 1) 1 = 2 ^ M := by
      show 1 % 2 * 2 ^ M + rv M (1 / 2) = 2 ^ M
      rw [show 1 / 2 = 0 from rfl, rv_nil, show 1 % 2 = 1 from rfl]
      omega
    show rv (M + 1) 1 + rv (M + 1) 1 = 2 ^ (M + 1)
    rw [e, Nat.pow_succ]
    omega
  | q + 1, M + 1, t, hq, h => by
    have h2 : t < 2 * 2 ^ q := by rw [Nat.pow_succ] at h; omega
    have ih := rv_flip q M (t / 2) (by omega) (by omega)
    have l0 : 0 < 2 ^ q := Nat.two_pow_pos q
    have a1 : (2 ^ (q + 1) + t) % 2 = t % 2 := by rw [Nat.pow_succ]; omega
    have a2 : (2 ^ (q + 1) + t) / 2 = 2 ^ q + t / 2 := by rw [Nat.pow_succ]; omega
    have b1 : (2 ^ (q + 1) + (2 ^ (q + 1) - 1 - t)) % 2 = 1 - t % 2 := by rw [Nat.pow_succ]; omega
    have b2 : (2 ^ (q + 1) + (2 ^ (q + 1) - 1 - t)) / 2 = 2 ^ q + (2 ^ q - 1 - t / 2) := by rw [Nat.pow_succ]; omega
    show (2 ^ (q + 1) + t) % 2 * 2 ^ M + rv M ((2 ^ (q + 1) + t) / 2) + ((2 ^ (q + 1) + (2 ^ (q + 1) - 1 - t)) % 2 * 2 ^ M + rv M ((2 ^ (q + 1) + (2 ^ (q + 1) - 1 - t)) / 2)) = 2 ^ (M + 1)
    rw [a1, a2, b1, b2, Nat.pow_succ]
    rcases Nat.mod_two_eq_zero_or_one t with e | e <;> rw [e] <;> simp <;> omega
theorem xor_flip (q t : Nat) (h : t < 2 ^ q) : (2 ^ q + t) ^^^ (2 ^ q - 1) = 2 ^ q + (2 ^ q - 1 - t) := by
  apply Nat.eq_of_testBit_eq
  intro i
  have hp : 2 ^ q - 1 - t = 2 ^ q - (t + 1) := by omega
  have h2 : 2 ^ q - (t + 1) < 2 ^ q := by omega
  rw [hp, Nat.testBit_xor, Nat.testBit_two_pow_sub_one]
  rcases Nat.lt_trichotomy i q with hi | hi | hi
  · rw [Nat.testBit_two_pow_add_gt hi, Nat.testBit_two_pow_add_gt hi, Nat.testBit_two_pow_sub_succ h]
    simp [hi]
  · subst hi
    rw [Nat.testBit_two_pow_add_eq, Nat.testBit_two_pow_add_eq, Nat.testBit_lt_two_pow h, Nat.testBit_lt_two_pow h2]
    simp
  · have e : 2 ^ (q + 1) ≤ 2 ^ i := Nat.pow_le_pow_right (by decide) (by omega)
    rw [Nat.pow_succ] at e
    rw [Nat.testBit_lt_two_pow (x := 2 ^ q + t) (by omega), Nat.testBit_lt_two_pow (x := 2 ^ q + (2 ^ q - (t + 1))) (by omega)]
    simp
    omega
/-- what a half leaves is told by a point. -/
theorem nd_pt (w : Int) {k m B : Nat} (hm : m ≤ k) (hB : B < 2 ^ (k - m)) : nd w k (k - m) B = w ^ rv k B := by
  have h := rv_cat (k - m) m 0 B hB
  rw [Nat.zero_mul, Nat.zero_add, Nat.add_sub_cancel' hm] at h
  unfold nd
  rw [h, rv_nil, Nat.zero_add, Nat.mul_comm, show k - (k - m) = m by omega]
/-- a point and the inverse of it. -/
theorem Rt.flip {p : Nat} {w : Int} {k : Nat} (R : Rt p w (k + 1)) (q t : Nat) (hq : q < k) (ht : t < 2 ^ q) : Cg p (w ^ rv (k + 1) (2 * (2 ^ q + t)) * -(w ^ rv (k + 1) (2 * (2 ^ q + (2 ^ q - 1 - t))))) 1 := by
  rw [rv_even, rv_even, Int.mul_neg, ← Int.pow_add, rv_flip q k t hq ht]
  have h1 : Cg p (w ^ 2 ^ k) (-1) := R.half (Nat.succ_pos k)
  have := (Cg.rfl (p := p) (a := 0)).sub h1
  rw [Int.zero_sub, Int.zero_sub] at this
  exact this
/-- a half of an odd modulus. -/
theorem half_said {p : Nat} {c x y : Int} (hc : Cg p (2 * c) 1) (h : Cg p (2 * y) x) : Cg p y (x * c) := by
  have h1 := h.mul (Cg.rfl (p := p) (a := c))
  have h2 := hc.mul (Cg.rfl (p := p) (a := y))
  rw [Int.one_mul] at h2
  exact h2.symm.trans ((Cg.of_eq (by rw [Int.mul_right_comm])).trans h1)
theorem half_is {p : Nat} (ho : (p : Int) % 2 = 1) : Cg p (2 * (((p : Int) + 1) / 2)) 1 := by
  have e : 2 * (((p : Int) + 1) / 2) = 1 + p := by omega
  rw [e]
  unfold Cg
  rw [Int.add_emod_right]
/-- the values of a product. -/
theorem ev_prd (a b : Nat → Int) {n m N : Nat} (h : n + m ≤ N + 1) (x : Int) : ev (prd a b n m) N x = ev a n x * ev b m x := by
  have h1 : ev (prd a b n m) N x = sm (fun j => sm (fun i => sm (fun l => if i + l = j then a i * b l * x ^ j else 0) m) n) N := sm_eq _ fun j _ => by
    show sm (fun i => sm (fun l => if i + l = j then a i * b l else 0) m) n * x ^ j = _
    rw [← sm_mulr]
    refine sm_eq _ fun i _ => ?_
    rw [← sm_mulr]
    refine sm_eq _ fun l _ => ?_
    by_cases e : i + l = j
    · rw [if_pos e, if_pos e]
    · rw [if_neg e, if_neg e, Int.zero_mul]
  rw [h1, sm_swap (fun j i => sm (fun l => if i + l = j then a i * b l * x ^ j else 0) m)]
  have h2 : sm (fun i => sm (fun j => sm (fun l => if i + l = j then a i * b l * x ^ j else 0) m) N) n = sm (fun i => a i * x ^ i * ev b m x) n := sm_eq _ fun i hi => by
    rw [sm_swap (fun j l => if i + l = j then a i * b l * x ^ j else 0)]
    unfold ev
    rw [← sm_mul]
    refine sm_eq _ fun l hl => ?_
    rw [sm_one (fun j => a i * b l * x ^ j) (i + l) N (by omega), Int.pow_add]
    grind
  rw [h2, sm_mulr]
  rfl
end Nmb
namespace Nmb
theorem rv_bit : ∀ k b i, (rv k b).testBit i = (decide (i < k) && b.testBit (k - 1 - i))
  | 0, b, i => by rw [show rv 0 b = 0 from rfl]; simp
  | k + 1, b, i => by
    show (b % 2 * 2 ^ k + rv k (b / 2)).testBit i = _
    rw [Nat.mul_comm, Nat.testBit_two_pow_mul_add _ (rv_lt k _)]
    by_cases h : i < k
    · rw [if_pos h, rv_bit k, show k + 1 - 1 - i = (k - 1 - i) + 1 by omega, Nat.testBit_succ]
      simp [h, show i < k + 1 by omega]
    · rw [if_neg h]
      by_cases e : i = k
      · subst e
        simp [Nat.testBit_zero]
      · have : (b % 2).testBit (i - k) = false := by
          apply Nat.testBit_lt_two_pow
          have h1 : b % 2 < 2 := Nat.mod_lt _ (by omega)
          have h2 : 2 ^ 1 ≤ 2 ^ (i - k) := Nat.pow_le_pow_right (by omega) (by omega)
          omega
        rw [this]
        simp [show ¬ i < k + 1 by omega]
/-- the bits are taken apart by a mask, and each part moved past the other. -/
def sw (m s x : Nat) : Nat := (x / 2 ^ s &&& m) ||| ((x &&& m) * 2 ^ s % 18446744073709551616)
theorem sw_bit (m s x i : Nat) (hi : i < 64) (h : ∀ j, j < 64 → m.testBit j = decide (j / s % 2 = 0)) (hs : 0 < s) : (sw m s x).testBit i = x.testBit (if i / s % 2 = 0 then i + s else i - s) := by
  unfold sw
  rw [Nat.testBit_or, Nat.testBit_and, Nat.testBit_div_two_pow, h i hi, show (18446744073709551616 : Nat) = 2 ^ 64 from rfl, Nat.testBit_mod_two_pow, ← Nat.shiftLeft_eq, Nat.testBit_shiftLeft]
  by_cases e : i / s % 2 = 0
  · rw [if_pos e]
    by_cases g : s ≤ i
    · have : ((i - s) / s) % 2 = 1 := by
        have := Nat.div_eq_sub_div hs g
        omega
      simp [Nat.testBit_and, h (i - s) (by omega), this, e]
    · simp [g, e]
  · rw [if_neg e]
    have g : s ≤ i := by
      apply Nat.le_of_not_lt
      intro g
      rw [Nat.div_eq_of_lt g] at e
      omega
    have : ((i - s) / s) % 2 = 0 := by
      have := Nat.div_eq_sub_div hs g
      omega
    simp [Nat.testBit_and, h (i - s) (by omega), this, e, g, hi]
theorem sw_lt (m s x : Nat) (hm : m < 18446744073709551616) : sw m s x < 18446744073709551616 := by
  unfold sw
  refine Nat.or_lt_two_pow (n := 64) (Nat.lt_of_le_of_lt Nat.and_le_right hm) (Nat.mod_lt _ (by decide))
/-- both halves change their places. -/
def sh (x : Nat) : Nat := x / 2 ^ 32 ||| (x * 2 ^ 32 % 18446744073709551616)
theorem sh_lt (x : Nat) (h : x < 18446744073709551616) : sh x < 18446744073709551616 :=
  Nat.or_lt_two_pow (n := 64) (Nat.lt_of_le_of_lt (Nat.div_le_self _ _) h) (Nat.mod_lt _ (by decide))
theorem sh_bit (x i : Nat) (hx : x < 18446744073709551616) (hi : i < 64) : (sh x).testBit i = x.testBit (if i / 32 % 2 = 0 then i + 32 else i - 32) := by
  unfold sh
  rw [Nat.testBit_or, Nat.testBit_div_two_pow, show (18446744073709551616 : Nat) = 2 ^ 64 from rfl, Nat.testBit_mod_two_pow, ← Nat.shiftLeft_eq, Nat.testBit_shiftLeft]
  by_cases e : i < 32
  · rw [if_pos (by omega)]
    simp [show ¬ 32 ≤ i by omega]
  · rw [if_neg (by omega)]
    have : x.testBit (i + 32) = false := Nat.testBit_lt_two_pow (Nat.lt_of_lt_of_le hx (Nat.pow_le_pow_right (n := 2) (i := 64) (by omega) (by omega)))
    rw [this]
    simp [hi, show 32 ≤ i by omega]
def rev64 (x : Nat) : Nat := sh (sw 281470681808895 16 (sw 71777214294589695 8 (sw 1085102592571150095 4 (sw 3689348814741910323 2 (sw 6148914691236517205 1 x)))))
theorem sw_m0 : ∀ j, j < 64 → Nat.testBit 6148914691236517205 j = decide (j / 1 % 2 = 0) := by decide
theorem sw_m1 : ∀ j, j < 64 → Nat.testBit 3689348814741910323 j = decide (j / 2 % 2 = 0) := by decide
theorem sw_m2 : ∀ j, j < 64 → Nat.testBit 1085102592571150095 j = decide (j / 4 % 2 = 0) := by decide
theorem sw_m3 : ∀ j, j < 64 → Nat.testBit 71777214294589695 j = decide (j / 8 % 2 = 0) := by decide
theorem sw_m4 : ∀ j, j < 64 → Nat.testBit 281470681808895 j = decide (j / 16 % 2 = 0) := by decide
/-- the place to which a bit is moved by one step. -/
def swi (s i : Nat) : Nat := if i / s % 2 = 0 then i + s else i - s
theorem swi_all : ∀ i, i < 64 → swi 32 i < 64 ∧ swi 16 (swi 32 i) < 64 ∧ swi 8 (swi 16 (swi 32 i)) < 64 ∧ swi 4 (swi 8 (swi 16 (swi 32 i))) < 64 ∧ swi 2 (swi 4 (swi 8 (swi 16 (swi 32 i)))) < 64 ∧ swi 1 (swi 2 (swi 4 (swi 8 (swi 16 (swi 32 i))))) = 63 - i := by decide
theorem rev64_lt (x : Nat) : rev64 x < 18446744073709551616 := sh_lt _ (sw_lt _ _ _ (by decide))
theorem rev64_bit (x i : Nat) (hi : i < 64) : (rev64 x).testBit i = x.testBit (63 - i) := by
  obtain ⟨a1, a2, a3, a4, a5, a6⟩ := swi_all i hi
  unfold rev64
  rw [sh_bit _ i (sw_lt _ _ _ (by decide)) hi]
  show Nat.testBit _ (swi 32 i) = _
  rw [sw_bit _ _ _ _ a1 sw_m4 (by decide)]
  show Nat.testBit _ (swi 16 (swi 32 i)) = _
  rw [sw_bit _ _ _ _ a2 sw_m3 (by decide)]
  show Nat.testBit _ (swi 8 (swi 16 (swi 32 i))) = _
  rw [sw_bit _ _ _ _ a3 sw_m2 (by decide)]
  show Nat.testBit _ (swi 4 _) = _
  rw [sw_bit _ _ _ _ a4 sw_m1 (by decide)]
  show Nat.testBit _ (swi 2 _) = _
  rw [sw_bit _ _ _ _ a5 sw_m0 (by decide)]
  show Nat.testBit _ (swi 1 _) = _
  rw [a6]
/-- the first k bits, the other way about. -/
theorem rev64_rv (x k : Nat) (hk : k ≤ 64) : rev64 x / 2 ^ (64 - k) = rv k x := by
  apply Nat.eq_of_testBit_eq
  intro i
  rw [Nat.testBit_div_two_pow, rv_bit]
  by_cases h : i < k
  · rw [rev64_bit _ _ (by omega), show 63 - (i + (64 - k)) = k - 1 - i by omega]
    simp [h]
  · rw [Nat.testBit_lt_two_pow (Nat.lt_of_lt_of_le (rev64_lt x) (Nat.pow_le_pow_right (n := 2) (i := 64) (by omega) (by omega)))]
    simp [h]
end Nmb
namespace Go.Proofs.YtocfenjampmdlabGreatDoor
open Go.RowKit Num Nmb

theorem sw_said (m s d x : Nat) (hx : x < 18446744073709551616) (hm : m < 18446744073709551616) (hd : d = 2 ^ s) :
    bits .or .u64 (bits .and .u64 ((x : Int) / (d : Nat)) (m : Nat)) (IntKind.u64.wrap (bits .and .u64 (x : Int) (m : Nat) * (d : Nat))) = ((sw m s x : Nat) : Int) := by
  have h1 : x / d < 18446744073709551616 := Nat.lt_of_le_of_lt (Nat.div_le_self _ _) hx
  have h2 : x / d &&& m < 18446744073709551616 := Nat.lt_of_le_of_lt Nat.and_le_right hm
  rw [← Int.natCast_ediv, bits_and_u64_nat _ _ h1 hm, bits_and_u64_nat _ _ hx hm, ← Int.natCast_mul, IntKind.wrap_u64, show (18446744073709551616 : Int) = ((18446744073709551616 : Nat) : Int) from rfl, ← Int.natCast_emod, bits_or_u64_nat _ _ h2 (Nat.mod_lt _ (by decide)), hd]
  rfl
theorem sh_said (x : Nat) (hx : x < 18446744073709551616) : bits .or .u64 ((x : Int) / 4294967296) (IntKind.u64.wrap ((x : Int) * 4294967296)) = ((sh x : Nat) : Int) := by
  have h1 : x / 4294967296 < 18446744073709551616 := Nat.lt_of_le_of_lt (Nat.div_le_self _ _) hx
  rw [show (4294967296 : Int) = ((4294967296 : Nat) : Int) from rfl, ← Int.natCast_ediv, ← Int.natCast_mul, IntKind.wrap_u64, show (18446744073709551616 : Int) = ((18446744073709551616 : Nat) : Int) from rfl, ← Int.natCast_emod, bits_or_u64_nat _ _ h1 (Nat.mod_lt _ (by decide))]
  rfl
set_option maxHeartbeats 1600000 in
theorem revBytes_any (x : Nat) (w : World) (hx : x < 18446744073709551616) :
    Calls Tryz.prog 100 #[.int .u64 x] w fun e w' => e = .returned (.int .u64 (sh (sw 281470681808895 16 (sw 71777214294589695 8 x)) : Nat)) ∧ w' = w := by
  have e1 := sw_said 71777214294589695 8 256 x hx (by decide) rfl
  have l1 := sw_lt 71777214294589695 8 x (by decide)
  generalize sw 71777214294589695 8 x = y at *
  have e2 := sw_said 281470681808895 16 65536 y l1 (by decide) rfl
  have l2 := sw_lt 281470681808895 16 y (by decide)
  generalize sw 281470681808895 16 y = z at *
  have e3 := sh_said z l2
  generalize sh z = u at *
  simp only [Int.cast_ofNat_Int] at e1 e2 e3
  go_enter Tryz.func100, Tryz.ntmps100
  go_wp2
  go_ret
  exact ⟨rfl, rfl⟩
set_option maxHeartbeats 1600000 in
theorem rev_any (x : Nat) (w : World) (hx : x < 18446744073709551616) :
    Calls Tryz.prog 95 #[.int .u64 x] w fun e w' => e = .returned (.int .u64 (rev64 x : Nat)) ∧ w' = w := by
  unfold rev64
  have e1 := sw_said 6148914691236517205 1 2 x hx (by decide) rfl
  have l1 := sw_lt 6148914691236517205 1 x (by decide)
  generalize sw 6148914691236517205 1 x = y at *
  have e2 := sw_said 3689348814741910323 2 4 y l1 (by decide) rfl
  have l2 := sw_lt 3689348814741910323 2 y (by decide)
  generalize sw 3689348814741910323 2 y = z at *
  have e3 := sw_said 1085102592571150095 4 16 z l2 (by decide) rfl
  have l3 := sw_lt 1085102592571150095 4 z (by decide)
  generalize sw 1085102592571150095 4 z = u at *
  have RB := hid (revBytes_any u w l3)
  simp only [Int.cast_ofNat_Int] at e1 e2 e3
  go_enter Tryz.func95, Tryz.ntmps95
  go_wp2_with fail
  refine RB.out.mono ?_
  rintro e w2 ⟨rfl, hw⟩
  obtain rfl := hw.symm
  go_wp2
  go_ret
  exact ⟨rfl, by first | trivial | rfl⟩
set_option maxHeartbeats 1600000 in
theorem turned_any (i k : Nat) (w : World) (hi : i ≤ 9223372036854775807) (hk : k ≤ 63) :
    Calls Tryz.prog 82 #[.int .i64 i, .int .i64 k] w fun e w' => e = .returned (.int .i64 (rv k i : Nat)) ∧ w' = w := by
  have R := hid (rev_any i w (by omega))
  have q0 : IntKind.u64.wrap (i : Int) = (i : Int) := by rw [IntKind.wrap_u64]; omega
  have q1 : ((64 : Int) - (k : Int)).toNat = 64 - k := by omega
  have q2 : ((rev64 i : Nat) : Int) / 2 ^ (64 - k) = ((rv k i : Nat) : Int) := by
    rw [← rev64_rv i k (by omega), Int.natCast_ediv, Int.natCast_pow]; rfl
  have q3 : rv k i < 9223372036854775808 := Nat.lt_of_lt_of_le (rv_lt k i) (Nat.pow_le_pow_right (n := 2) (j := 63) (by omega) hk)
  generalize rev64 i = x at *
  generalize rv k i = y at *
  go_enter Tryz.func82, Tryz.ntmps82
  go_wp2_with fail
  refine R.out.mono ?_
  rintro e w2 ⟨rfl, hw⟩
  obtain rfl := hw.symm
  go_wp2
  go_ret
  exact ⟨rfl, by first | trivial | rfl⟩
theorem bl_said : ∀ f x, x < 2 ^ f → f ≤ 64 → x < 2 ^ Lib.bitLen x ∧ Lib.bitLen x ≤ f
  | 0, x, h, _ => by
    obtain rfl : x = 0 := by rw [Nat.pow_zero] at h; omega
    decide
  | f + 1, x, h, h64 => by
    by_cases h0 : x = 0
    · subst h0
      exact ⟨by decide, by have : Lib.bitLen 0 = 0 := by decide
                           omega⟩
    · rw [Nat.pow_succ] at h
      have h1 := bl_said f (x / 2) (by omega) (by omega)
      have h2 : x < 2 ^ 64 := Nat.lt_of_lt_of_le (by rw [Nat.pow_succ]; exact h) (Nat.pow_le_pow_right (n := 2) (i := f + 1) (by omega) h64)
      rw [Lib.bitLen_half x h0 h2, Nat.add_comm 1, Nat.pow_succ]
      omega
set_option maxHeartbeats 800000 in
theorem blen_any (x : Nat) (w : World) (h : x ≤ 18446744073709551615) :
    Calls Tryz.prog 35 #[.int .u64 x] w fun e w' => e = .returned (.int .i64 (Lib.bitLen x : Nat)) ∧ w' = w := by
  have L : Hid (∀ w, Calls Tryz.prog 55 #[.int .u64 x] w fun e w' => e = .returned (.int .i64 (Lib.bitLen x : Nat)) ∧ w' = w) := fun w => by
    have := Any.bits_Len64 Tryz.lays129 (x : Int) w (by omega) (by omega)
    rw [Int.toNat_natCast] at this
    exact this
  go_enter Tryz.func35, Tryz.ntmps35
  go_wp2_with fail
  refine (L.out _).mono ?_
  rintro e w2 ⟨rfl, hw⟩
  obtain rfl := hw.symm
  go_wp2
  go_ret
  exact ⟨rfl, by first | trivial | rfl⟩
theorem bl_low : ∀ f x, x < 2 ^ f → f ≤ 64 → 0 < x → ∃ q, Lib.bitLen x = q + 1 ∧ 2 ^ q ≤ x
  | 0, x, h, _, h0 => by rw [Nat.pow_zero] at h; omega
  | f + 1, x, h, h64, h0 => by
    have h2 : x < 2 ^ 64 := Nat.lt_of_lt_of_le h (Nat.pow_le_pow_right (n := 2) (i := f + 1) (by omega) h64)
    have e := Lib.bitLen_half x (by omega) h2
    by_cases h1 : x / 2 = 0
    · rw [h1, show Lib.bitLen 0 = 0 by decide] at e
      exact ⟨0, by omega, by rw [Nat.pow_zero]; omega⟩
    · rw [Nat.pow_succ] at h
      obtain ⟨q, h3, h4⟩ := bl_low f (x / 2) (by omega) (by omega) (by omega)
      exact ⟨q + 1, by omega, by rw [Nat.pow_succ]; omega⟩
theorem xor_i64 (a b : Nat) (ha : a < 2 ^ 62) (hb : b < 2 ^ 62) : bits .xor .i64 (a : Int) (b : Int) = ((a ^^^ b : Nat) : Int) := by
  show IntKind.i64.wrap ((BitVec.ofInt 64 (a : Int) ^^^ BitVec.ofInt 64 (b : Int)).toNat : Nat) = _
  rw [BitVec.toNat_xor, BitVec.ofInt_natCast, BitVec.ofInt_natCast, BitVec.toNat_ofNat, BitVec.toNat_ofNat, Nat.mod_eq_of_lt (by omega), Nat.mod_eq_of_lt (by omega), IntKind.wrap_i64]
  have := Nat.xor_lt_two_pow ha hb
  omega
theorem Row.eq {w : World} {g n : Nat} {x y : Nat → Int} (h : Row w g n x) (e : ∀ j, j < n → x j = y j) : Row w g n y := by
  obtain ⟨cur, h1, h2, h3⟩ := h
  exact ⟨cur, h1, h2, fun j hj => by rw [← e j hj]; exact h3 j hj⟩
end Go.Proofs.YtocfenjampmdlabGreatDoor
namespace Go.Proofs.YtocfenjampmdlabGreatDoor
open Go.RowKit Num
set_option maxHeartbeats 800000 in
theorem euclid_any (m x : Int) (w : World) (hx : 0 < x) (hm : x < m) (hm' : m ≤ 9223372036854775807) :
    Calls Tryz.prog 66 #[.int .u64 m, .int .u64 x] w fun e w' => (∃ t : Int, e = .returned (.tuple #[.int .u64 (Nat.gcd m.toNat x.toNat : Nat), .int .i64 t]) ∧ m ∣ t * x - (Nat.gcd m.toNat x.toNat : Nat) ∧ -m ≤ t ∧ t ≤ m) ∧ w' = w := by
  obtain ⟨G, hG⟩ : ∃ G, Nat.gcd m.toNat x.toNat = G := ⟨_, rfl⟩
  have S0 := Euc.start hx hm
  rw [hG] at S0
  have S := hid S0
  rw [hG]
  clear hG S0
  go_enter Tryz.func66, Tryz.ntmps66
  go_wp2
  go_loop [6, 7, 8, 9] (fun lv nv lt nt => ∃ (l n a b : Int), lv = .int .u64 l ∧ nv = .int .u64 n ∧ lt = .int .i64 a ∧ nt = .int .i64 b ∧ Hid (Euc m x l n a b G)) (fun _ nv _ _ => (intOf nv).toNat)
  case atStart => exact ⟨m, x, 0, 1, rfl, rfl, rfl, rfl, S⟩
  case round =>
    obtain ⟨l, n, a, b, rfl, rfl, rfl, rfl, E⟩ := hrel
    clear S
    by_cases h0 : n = 0
    · subst h0
      obtain ⟨rfl, hd⟩ := E.out.done
      obtain ⟨b1, b2, b3, b4⟩ := E.out.bds
      have D := hid hd
      clear hd E
      go_wp2
      go_ret2
      exact ⟨⟨a, rfl, D.out, b1, b2⟩, rfl⟩
    · have h0' : (n != 0) = true := by simp [h0]
      have h0'' : (n == 0) = false := beq_eq_false_iff_ne.2 h0
      obtain ⟨N, c1, c2, c3, c4, c5, c6, c7, c8, c9⟩ := E.out.step h0
      have NN := hid N
      have e1 := E.out.hl
      have e2 := E.out.hn
      have e3 := E.out.hlm
      have hr := md_lt l (show 0 < n by omega)
      rw [← c1] at hr
      clear N E c1
      have hq : 0 ≤ l / n := c4
      generalize hqe : l / n = q at *
      go_wp2
      exact ⟨⟨n, l - q * n, b, a - q * b, rfl, rfl, rfl, rfl, NN⟩, by simp only [intOf]; omega⟩
/-- why x has no inverse modulo m. -/
def ec (x m : Int) : Int := if x % m = 0 then 10 else if gc x m = 1 then 0 else 11
/-- what Inv answers. -/
structure Iv (m x y : Int) : Prop where
  bad : ec x m ≠ 0 → y = 0
  good : ec x m = 0 → 0 ≤ y ∧ y < m ∧ x * y % m = 1
theorem ec_pos (x : Int) {m : Int} (hm : 2 ≤ m) (h : gc x m = 1) : ec x m = 0 := by
  unfold ec
  rw [if_neg, if_pos h]
  intro h0
  unfold gc at h
  rw [h0] at h
  simp at h
  omega
theorem ec_zero {x m : Int} (h : ec x m = 0) : gc x m = 1 := by
  unfold ec at h
  split at h
  · exact absurd h (by decide)
  · split at h
    · assumption
    · exact absurd h (by decide)
set_option maxHeartbeats 800000 in
theorem inv_any (g : Nat) (m f s x : Int) (w : World) (h : Fld w g m f s) (hm : Ok m f s) (hx : 0 ≤ x) :
    Calls Tryz.prog 42 #[.pointer (some ⟨g, 0, none⟩), .int .u64 x] w fun e w' => (∃ y, e = .returned (.tuple #[.int .u64 y, .int .i64 (ec x m)]) ∧ Iv m x y) ∧ w' = w := by
  have H := hid h
  have c0 := h.cell0
  have h2 := hm.h2
  have h63 := hm.h63
  have a := md_lt x (show 0 < m by omega)
  have L := hid (left_any g m f s x w h (by omega) hx)
  have I : ∀ y, x % m * y % m = 1 → x * y % m = 1 := fun y hy => by rw [md_left] at hy; exact hy
  have II := hid I
  clear h hm I
  by_cases h1 : x % m = 0
  · have e1 : ec x m = 10 := by unfold ec; rw [if_pos h1]
    have e2 : Hid (Iv m x 0) := ⟨fun _ => rfl, fun h => absurd h (by rw [e1]; decide)⟩
    rw [e1]
    have h1' : (x % m == 0) = true := by simpa using h1
    generalize x % m = u at *
    clear e1 II h1
    go_enter Tryz.func42, Tryz.ntmps42
    go_wp2_with fail
    refine L.out.mono ?_
    rintro e w2 ⟨rfl, rfl⟩
    go_wp2
    go_ret2
    exact ⟨⟨0, rfl, e2.out⟩, rfl⟩
  · have h1' : (x % m == 0) = false := beq_eq_false_iff_ne.2 h1
    have EU := hid (euclid_any m (x % m) w (by omega) a.2 h63)
    have eg : Nat.gcd m.toNat (x % m).toNat = gc x m := rfl
    rw [eg] at EU
    by_cases h3 : gc x m = 1
    · have e1 : ec x m = 0 := ec_pos x h2 h3
      have e2 : Hid (∀ y, 0 ≤ y ∧ y < m ∧ x % m * y % m = 1 → Iv m x y) := fun y hy => ⟨fun h => absurd e1 h, fun _ => ⟨hy.1, hy.2.1, II.out y hy.2.2⟩⟩
      rw [e1]
      rw [h3] at EU
      clear eg h3 e1 II
      generalize x % m = u at *
      go_enter Tryz.func42, Tryz.ntmps42
      go_wp2_with fail
      refine L.out.mono ?_
      rintro e w2 ⟨rfl, rfl⟩
      go_wp2_with fail
      refine EU.out.mono ?_
      rintro e w2 ⟨⟨t, rfl, hd, t1, t2⟩, rfl⟩
      have D := hid hd
      clear hd EU L
      by_cases ht : t < 0
      · obtain ⟨i1, i2, i3⟩ := inv_neg h2 D.out t1 ht
        have i3' := hid i3
        clear i3
        go_wp2
        go_ret2
        exact ⟨⟨t + m, rfl, e2.out _ ⟨i1, i2, i3'.out⟩⟩, rfl⟩
      · obtain ⟨i1, i2, i3⟩ := inv_pos h2 D.out (by omega) t2
        have i3' := hid i3
        clear i3
        go_wp2
        go_ret2
        exact ⟨⟨t, rfl, e2.out _ ⟨i1, i2, i3'.out⟩⟩, rfl⟩
    · have e1 : ec x m = 11 := by unfold ec; rw [if_neg h1, if_neg h3]
      have e2 : Hid (Iv m x 0) := ⟨fun _ => rfl, fun h => absurd h (by rw [e1]; decide)⟩
      have hpos : 1 < (gc x m : Int) := by
        have : 0 < gc x m := Nat.gcd_pos_of_pos_left _ (by omega)
        omega
      rw [e1]
      clear eg h3 e1 II
      generalize (gc x m : Int) = G at *
      generalize x % m = u at *
      go_enter Tryz.func42, Tryz.ntmps42
      go_wp2_with fail
      refine L.out.mono ?_
      rintro e w2 ⟨rfl, rfl⟩
      go_wp2_with fail
      refine EU.out.mono ?_
      rintro e w2 ⟨⟨t, rfl, hd, t1, t2⟩, rfl⟩
      clear hd EU L
      go_wp2
      go_ret2
      exact ⟨⟨0, rfl, e2.out⟩, rfl⟩
end Go.Proofs.YtocfenjampmdlabGreatDoor
