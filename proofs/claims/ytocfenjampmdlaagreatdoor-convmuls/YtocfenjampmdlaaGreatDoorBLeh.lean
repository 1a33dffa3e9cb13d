/- Plain numbers: words of 64 bits, the lowest one first, as functions from places to integers; nothing of the program is named here. -/
/- Lehmer's way with Euclid's steps, and Collins's condition: plain facts on whole numbers. -/
import Derived.KernelRfl
namespace Go.Proofs.YtocfenjampmdlaaGreatDoor.B
namespace NumB

/-- 2 to the 64th, to the nth. -/
def P : Nat → Int
  | 0 => 1
  | n + 1 => P n * 18446744073709551616

/-- the number of n words from place o on. -/
def V (x : Nat → Int) (o : Nat) : Nat → Int
  | 0 => 0
  | n + 1 => V x o n + x (o + n) * P n

def upd (x : Nat → Int) (i : Nat) (v : Int) : Nat → Int := fun j => if j = i then v else x j

def lo (s : Int) : Int := s % 18446744073709551616
def hi (s : Int) : Int := s / 18446744073709551616

theorem lo_hi (s : Int) : lo s + hi s * 18446744073709551616 = s := by unfold lo hi; omega
theorem lo_nonneg (s : Int) : 0 ≤ lo s := by unfold lo; omega
theorem lo_le (s : Int) : lo s ≤ 18446744073709551615 := by unfold lo; omega
theorem hi_nonneg (s : Int) (h : 0 ≤ s) : 0 ≤ hi s := by unfold hi; omega

theorem upd_same (x : Nat → Int) (i : Nat) (v : Int) : upd x i v i = v := by simp [upd]
theorem upd_other (x : Nat → Int) (i j : Nat) (v : Int) (h : j ≠ i) : upd x i v j = x j := by simp [upd, h]

theorem P_pos (n : Nat) : 0 < P n := by
  induction n with
  | zero => simp [P]
  | succ n ih => simp only [P]; omega
theorem P_add (m n : Nat) : P (m + n) = P m * P n := by
  induction n with
  | zero => simp [P]
  | succ n ih => rw [← Nat.add_assoc]; simp only [P]; rw [ih, Int.mul_assoc]
theorem P_le {m n : Nat} (h : m ≤ n) : P m ≤ P n := by
  obtain ⟨k, rfl⟩ := Nat.le.dest h
  rw [P_add]
  have h1 := P_pos m
  have h2 := P_pos k
  have : P m * 1 ≤ P m * P k := Int.mul_le_mul_of_nonneg_left (by omega) (by omega)
  omega

theorem V_congr {x y : Nat → Int} {o p : Nat} : ∀ n, (∀ j, j < n → x (o + j) = y (p + j)) → V x o n = V y p n
  | 0, _ => rfl
  | n + 1, h => by simp only [V]; rw [V_congr n (fun j hj => h j (by omega)), h n (by omega)]
theorem V_split (x : Nat → Int) (o m : Nat) : ∀ n, V x o (m + n) = V x o m + P m * V x (o + m) n
  | 0 => by simp [V]
  | n + 1 => by
    rw [← Nat.add_assoc]; simp only [V]
    rw [V_split x o m n, P_add, Nat.add_assoc]
    grind
def Wd (x : Nat → Int) (o n : Nat) : Prop := ∀ j, j < n → 0 ≤ x (o + j) ∧ x (o + j) ≤ 18446744073709551615
theorem Wd.mono {x : Nat → Int} {o n m : Nat} (h : Wd x o n) (hm : m ≤ n) : Wd x o m := fun j hj => h j (by omega)
theorem V_bd {x : Nat → Int} {o : Nat} : ∀ n, Wd x o n → 0 ≤ V x o n ∧ V x o n < P n
  | 0, _ => by simp [V, P]
  | n + 1, h => by
    obtain ⟨h1, h2⟩ := V_bd n (h.mono (by omega))
    obtain ⟨h3, h4⟩ := h n (by omega)
    have hp := P_pos n
    simp only [V, P]
    have a : 0 ≤ x (o + n) * P n := Int.mul_nonneg h3 (by omega)
    have b : x (o + n) * P n ≤ 18446744073709551615 * P n := Int.mul_le_mul_of_nonneg_right h4 (by omega)
    omega
theorem V_zero {x : Nat → Int} {o : Nat} : ∀ n, (∀ j, j < n → x (o + j) = 0) → V x o n = 0
  | 0, _ => rfl
  | n + 1, h => by simp only [V]; rw [V_zero n (fun j hj => h j (by omega)), h n (by omega)]; simp
/-- a number whose highest word is not 0. -/
theorem V_ge {x : Nat → Int} {o n : Nat} (h : Wd x o (n + 1)) (ht : x (o + n) ≠ 0) : P n ≤ V x o (n + 1) := by
  obtain ⟨h1, _⟩ := V_bd n (h.mono (by omega))
  obtain ⟨h3, _⟩ := h n (by omega)
  have hp := P_pos n
  simp only [V]
  have b : 1 * P n ≤ x (o + n) * P n := Int.mul_le_mul_of_nonneg_right (by omega) (by omega)
  omega
theorem V_low (x : Nat → Int) (o n : Nat) : V x o (n + 1) = x o + 18446744073709551616 * V x (o + 1) n := by
  have h := V_split x o 1 n
  rw [Nat.add_comm n 1, h]
  simp [V, P]

/-- how many words are left, if words 0 at the end are cut. -/
def tr (x : Nat → Int) (o : Nat) : Nat → Nat
  | 0 => 0
  | n + 1 => if x (o + n) = 0 then tr x o n else n + 1
theorem tr_le (x : Nat → Int) (o : Nat) : ∀ n, tr x o n ≤ n
  | 0 => Nat.le_refl _
  | n + 1 => by simp only [tr]; split; exact Nat.le_trans (tr_le x o n) (by omega); exact Nat.le_refl _
theorem V_tr (x : Nat → Int) (o : Nat) : ∀ n, V x o (tr x o n) = V x o n
  | 0 => rfl
  | n + 1 => by
    simp only [tr]; split
    · rename_i h; rw [V_tr x o n]; simp only [V]; rw [h]; simp
    · rfl
/-- no word 0 stands at the end. -/
def Nm (x : Nat → Int) (o n : Nat) : Prop := n = 0 ∨ x (o + (n - 1)) ≠ 0
theorem tr_nm (x : Nat → Int) (o : Nat) : ∀ n, Nm x o (tr x o n)
  | 0 => Or.inl rfl
  | n + 1 => by
    simp only [tr]; split
    · exact tr_nm x o n
    · rename_i h; exact Or.inr (by simpa using h)
theorem tr_of_nm {x : Nat → Int} {o n : Nat} (h : Nm x o n) : tr x o n = n := by
  cases n with
  | zero => rfl
  | succ n => simp only [tr]; rcases h with h | h; exact absurd h (by omega); rw [if_neg (by simpa using h)]
/-- -1, 0 or 1. -/
def cmpI (a b : Int) : Int := if a < b then -1 else if b < a then 1 else 0
theorem cmpI_self (a : Int) : cmpI a a = 0 := by simp [cmpI]
theorem cmp_len {x y : Nat → Int} {o p n m : Nat} (hx : Wd x o n) (hy : Wd y p m) (hn : Nm y p m) (h : n < m) : V x o n < V y p m := by
  obtain ⟨k, rfl⟩ : ∃ k, m = k + 1 := ⟨m - 1, by omega⟩
  have h1 := V_ge hy (by rcases hn with h' | h'; omega; simpa using h')
  have h2 := (V_bd n hx).2
  have h3 := P_le (show n ≤ k by omega)
  omega
/-- two numbers whose words above place k are the same, and that at place k differs. -/
theorem cmp_at {x y : Nat → Int} {o p n k : Nat} (hx : Wd x o n) (hy : Wd y p n) (hk : k < n) (he : ∀ j, k < j → j < n → x (o + j) = y (p + j)) (hl : x (o + k) < y (p + k)) : V x o n < V y p n := by
  obtain ⟨r, rfl⟩ := Nat.le.dest (show k + 1 ≤ n by omega)
  rw [V_split x o (k + 1) r, V_split y p (k + 1) r]
  have e : V x (o + (k + 1)) r = V y (p + (k + 1)) r := V_congr r (fun j hj => by rw [show o + (k + 1) + j = o + (k + 1 + j) by omega, show p + (k + 1) + j = p + (k + 1 + j) by omega]; exact he (k + 1 + j) (by omega) (by omega))
  rw [e]
  simp only [V]
  obtain ⟨h1, h2⟩ := V_bd k (hx.mono (by omega))
  obtain ⟨h3, h4⟩ := V_bd k (hy.mono (by omega))
  have hp := P_pos k
  have b : (x (o + k) + 1) * P k ≤ y (p + k) * P k := Int.mul_le_mul_of_nonneg_right (by omega) (by omega)
  have c : (x (o + k) + 1) * P k = x (o + k) * P k + P k := by rw [Int.add_mul, Int.one_mul]
  omega
theorem V_upd_out {x : Nat → Int} {o i : Nat} {v : Int} (n : Nat) (h : i < o ∨ o + n ≤ i) : V (upd x i v) o n = V x o n :=
  V_congr n (fun j hj => upd_other x i (o + j) v (by omega))
theorem V_upd_top (x : Nat → Int) (o k : Nat) (v : Int) : V (upd x (o + k) v) o (k + 1) = V x o k + v * P k := by
  simp only [V]; rw [V_upd_out k (Or.inr (Nat.le_refl _)), upd_same]
/-- a word and a carry are added at place k. -/
theorem carry_step (x : Nat → Int) (o k : Nat) (a c t : Int) (h : V x o k + c * P k = t) :
    V (upd x (o + k) (lo (x (o + k) + a + c))) o (k + 1) + hi (x (o + k) + a + c) * P (k + 1) = t + x (o + k) * P k + a * P k := by
  rw [V_upd_top]
  have e := lo_hi (x (o + k) + a + c)
  generalize lo (x (o + k) + a + c) = l at *
  generalize hi (x (o + k) + a + c) = m at *
  simp only [P]
  generalize P k = q at *
  generalize x (o + k) = u at *
  have e2 : l = u + a + c - m * 18446744073709551616 := by omega
  rw [← h, e2]
  grind
theorem hi_le1 (s : Int) (h0 : 0 ≤ s) (h : s ≤ 36893488147419103231) : 0 ≤ hi s ∧ hi s ≤ 1 := by unfold hi; omega
theorem Wd_upd {x : Nat → Int} {o k i : Nat} {v : Int} (h : Wd x o k) (h0 : 0 ≤ v) (h1 : v ≤ 18446744073709551615) : Wd (upd x i v) o k := fun j hj => by
  unfold upd; split
  · exact ⟨h0, h1⟩
  · exact h j hj
/-- what stays above place k stays in the number. -/
theorem V_tail {x x' : Nat → Int} {o k n : Nat} (hk : k ≤ n) (h : ∀ j, k ≤ j → j < n → x' (o + j) = x (o + j)) : V x' o n - V x' o k = V x o n - V x o k := by
  obtain ⟨r, rfl⟩ := Nat.le.dest hk
  rw [V_split x' o k r, V_split x o k r, V_congr (x := x') (y := x) (o := o + k) (p := o + k) r (fun j hj => by rw [Nat.add_assoc]; exact h (k + j) (by omega) (by omega))]
  omega
/-- a word times a word, a word and a word: two words. -/
theorem mul_bd {a b c d : Int} (ha : 0 ≤ a ∧ a ≤ 18446744073709551615) (hb : 0 ≤ b ∧ b ≤ 18446744073709551615) (hc : 0 ≤ c ∧ c ≤ 18446744073709551615) (hd : 0 ≤ d ∧ d ≤ 18446744073709551615) :
    0 ≤ a * b ∧ a * b + c + d ≤ 340282366920938463463374607431768211455 := by
  have h1 : 0 ≤ a * b := Int.mul_nonneg ha.1 hb.1
  have h2 : a * b ≤ 18446744073709551615 * b := Int.mul_le_mul_of_nonneg_right ha.2 hb.1
  omega
/-- how 'addTimes' reckons them. -/
theorem times_word (m o x : Int) (hm : 0 ≤ m) (ho : 0 ≤ o ∧ o ≤ 18446744073709551615) (hx : 0 ≤ x ∧ x ≤ 18446744073709551615) (h : m + o + x ≤ 340282366920938463463374607431768211455) :
    hi m + hi (lo m + o) ≤ 18446744073709551615 ∧ hi m + hi (lo m + o) + hi (x + lo (lo m + o)) = hi (m + o + x) ∧ lo (x + lo (lo m + o)) = lo (m + o + x) ∧ 0 ≤ hi (m + o + x) ∧ hi (m + o + x) ≤ 18446744073709551615 ∧ 0 ≤ hi m ∧ 0 ≤ hi (lo m + o) ∧ 0 ≤ hi (x + lo (lo m + o)) := by
  unfold hi lo; omega
theorem times_step (x : Nat → Int) (o k : Nat) (m c t : Int) (h : V x o k + c * P k = t) :
    V (upd x (o + k) (lo (m + c + x (o + k)))) o (k + 1) + hi (m + c + x (o + k)) * P (k + 1) = t + x (o + k) * P k + m * P k := by
  have := carry_step x o k m c t h
  rw [show m + c + x (o + k) = x (o + k) + m + c by omega]
  exact this
end NumB
end Go.Proofs.YtocfenjampmdlaaGreatDoor.B
namespace Go.Proofs.YtocfenjampmdlaaGreatDoor.B
namespace NumB

/-- the state of the steps over the heads A and B. -/
structure Lh (A B x y c d e f : Int) (t : Bool) : Prop where
  hy : 0 ≤ y
  hxy : y ≤ x
  c0 : 0 ≤ c
  d0 : 0 ≤ d
  e0 : 0 ≤ e
  f1 : 1 ≤ f
  ef : e ≤ f
  rows : (t = true ∧ x = c * A - d * B ∧ y = f * B - e * A ∧ c * f - d * e = 1) ∨ (t = false ∧ x = d * B - c * A ∧ y = e * A - f * B ∧ d * e - c * f = 1)
  st : (c = 1 ∧ d = 0 ∧ e = 0 ∧ f = 1) ∨ (c ≤ d ∧ 1 ≤ d ∧ 1 ≤ e)
/-- the rows that are answered. -/
structure Lg (A B a b c d : Int) (t : Bool) : Prop where
  a0 : 0 ≤ a
  ab : a ≤ b
  b1 : 1 ≤ b
  c1 : 1 ≤ c
  cd : c ≤ d
  rows : (t = false ∧ a * d - b * c = 1 ∧ d ≤ d * B - c * A ∧ b + d ≤ a * A - b * B - (d * B - c * A)) ∨
    (t = true ∧ b * c - a * d = 1 ∧ d ≤ c * A - d * B ∧ b + d ≤ b * B - a * A - (c * A - d * B))
theorem Lh.start {A B : Int} (hB : 0 ≤ B) (h : B ≤ A) : Lh A B A B 1 0 0 1 true :=
  ⟨hB, h, by decide, by decide, by decide, by decide, by decide, Or.inl ⟨rfl, by omega, by omega, by decide⟩, Or.inl ⟨rfl, rfl, rfl, rfl⟩⟩
theorem Lh.total {A B x y c d e f : Int} {t : Bool} (h : Lh A B x y c d e f t) : A = f * x + d * y := by
  rcases h.rows with ⟨_, h1, h2, h3⟩ | ⟨_, h1, h2, h3⟩
  · rw [h1, h2]
    have : f * (c * A - d * B) + d * (f * B - e * A) = (c * f - d * e) * A := by grind
    rw [this, h3, Int.one_mul]
  · rw [h1, h2]
    have : f * (d * B - c * A) + d * (e * A - f * B) = (d * e - c * f) * A := by grind
    rw [this, h3, Int.one_mul]
/-- what the test may reckon. -/
theorem Lh.test {A B x y c d e f : Int} {t : Bool} (h : Lh A B x y c d e f t) (hf : f ≤ y) : d + f ≤ A := by
  have e := h.total
  have h1 : f * 1 ≤ f * x := Int.mul_le_mul_of_nonneg_left (by have := h.hxy; have := h.f1; omega) (by have := h.f1; omega)
  have h2 : d * 1 ≤ d * y := Int.mul_le_mul_of_nonneg_left (by have := h.f1; omega) h.d0
  omega
theorem Lh.good {A B x y c d e f : Int} {t : Bool} (h : Lh A B x y c d e f t) (hf : f ≤ y) (hd : d + f ≤ x - y) : d = 0 ∨ Lg A B c d e f (!t) := by
  rcases h.st with h' | ⟨h1, h2, h3⟩
  · exact Or.inl h'.2.1
  · refine Or.inr ⟨h.c0, h1, h2, h3, h.ef, ?_⟩
    rcases h.rows with ⟨rfl, h4, h5, h6⟩ | ⟨rfl, h4, h5, h6⟩
    · exact Or.inl ⟨rfl, by rw [Int.mul_comm d e] at *; grind, by rw [← h5]; exact hf, by rw [← h5, ← h4]; exact hd⟩
    · exact Or.inr ⟨rfl, by grind, by rw [← h5]; exact hf, by rw [← h5, ← h4]; exact hd⟩
theorem Lh.step {A B x y c d e f : Int} {t : Bool} (h : Lh A B x y c d e f t) (hf : f ≤ y) :
    Lh A B y (x - x / y * y) e f (c + x / y * e) (d + x / y * f) (!t) ∧ x - x / y * y = x % y ∧ 1 ≤ x / y ∧ x / y ≤ x ∧ 0 ≤ x / y * y ∧ x / y * y ≤ x ∧ 0 ≤ x / y * e ∧ x / y * e ≤ x / y * f ∧ c + x / y * e ≤ d + x / y * f ∧ d + x / y * f ≤ A ∧ 0 ≤ x % y ∧ x % y < y := by
  have hy : 0 < y := by have := h.f1; omega
  have e1 : x - x / y * y = x % y := by have := Int.emod_add_mul_ediv x y; rw [Int.mul_comm] at this; omega
  have r0 := Int.emod_nonneg x (show y ≠ 0 by omega)
  have r1 := Int.emod_lt_of_pos x hy
  have hq1 : 1 ≤ x / y := (Int.le_ediv_iff_mul_le hy).2 (by have := h.hxy; omega)
  have hqx : x / y * 1 ≤ x / y * y := Int.mul_le_mul_of_nonneg_left (by omega) (by omega)
  generalize hq : x / y = q at *
  rw [← e1] at r0 r1
  have q0 : 0 ≤ q * e := Int.mul_nonneg (by omega) h.e0
  have qe : q * e ≤ q * f := Int.mul_le_mul_of_nonneg_left h.ef (by omega)
  have qf : 1 * f ≤ q * f := Int.mul_le_mul_of_nonneg_right hq1 (by have := h.f1; omega)
  have hce : c + q * e ≤ d + q * f := by
    rcases h.st with ⟨rfl, rfl, rfl, rfl⟩ | ⟨h1, h2, h3⟩ <;> omega
  have f1 := h.f1
  have N : Lh A B y (x - q * y) e f (c + q * e) (d + q * f) (!t) := by
    refine ⟨r0, by omega, h.e0, by omega, by have := h.c0; omega, by have := h.d0; omega, hce, ?_, ?_⟩
    · rcases h.rows with ⟨rfl, h4, h5, h6⟩ | ⟨rfl, h4, h5, h6⟩
      · exact Or.inr ⟨rfl, h5, by rw [h4, h5]; grind, by grind⟩
      · exact Or.inl ⟨rfl, h5, by rw [h4, h5]; grind, by grind⟩
    · right
      refine ⟨h.ef, f1, ?_⟩
      rcases h.st with ⟨rfl, rfl, rfl, rfl⟩ | ⟨h1, h2, h3⟩
      · omega
      · have : 1 * e ≤ q * e := Int.mul_le_mul_of_nonneg_right hq1 h.e0
        have := h.c0; omega
  have hA := N.total
  have b1 : (d + q * f) * 1 ≤ (d + q * f) * y := Int.mul_le_mul_of_nonneg_left (by omega) (by have := h.d0; omega)
  have b2 : 0 ≤ f * (x - q * y) := Int.mul_nonneg (by omega) r0
  exact ⟨N, e1, hq1, by omega, by omega, by omega, q0, qe, hce, by omega, by omega, by omega⟩
/-- what the whole numbers become. -/
def nx (X Y a b : Int) (t : Bool) : Int := if t then b * Y - a * X else a * X - b * Y
def ny (X Y c d : Int) (t : Bool) : Int := if t then c * X - d * Y else d * Y - c * X
theorem lo_bd {k z K : Int} (hk : 0 ≤ k) (h1 : z ≤ K - 1) : k * z ≤ k * K - k := by
  have := Int.mul_le_mul_of_nonneg_left h1 hk
  rw [Int.mul_sub, Int.mul_one] at this
  exact this
theorem Lg.whole {A B a b c d : Int} {t : Bool} (h : Lg A B a b c d t) {X Y K x0 y0 : Int} (hK : 0 < K) (eX : X = A * K + x0) (eY : Y = B * K + y0) (hx0 : 0 ≤ x0) (hx1 : x0 < K) (hy0 : 0 ≤ y0) (hy1 : y0 < K) :
    0 ≤ ny X Y c d t ∧ ny X Y c d t < nx X Y a b t ∧ nx X Y a b t ≤ Y ∧ X = d * nx X Y a b t + b * ny X Y c d t ∧ Y = c * nx X Y a b t + a * ny X Y c d t := by
  have h1 := h.a0; have h2 := h.ab; have h3 := h.b1; have h4 := h.c1; have h5 := h.cd
  rcases h.rows with ⟨rfl, dt, g1, g2⟩ | ⟨rfl, dt, g1, g2⟩
  · have n1 : nx X Y a b false = a * X - b * Y := rfl
    have n2 : ny X Y c d false = d * Y - c * X := rfl
    rw [n1, n2]
    have i1 : X = d * (a * X - b * Y) + b * (d * Y - c * X) := by
      have : d * (a * X - b * Y) + b * (d * Y - c * X) = (a * d - b * c) * X := by grind
      rw [this, dt, Int.one_mul]
    have i2 : Y = c * (a * X - b * Y) + a * (d * Y - c * X) := by
      have : c * (a * X - b * Y) + a * (d * Y - c * X) = (a * d - b * c) * Y := by grind
      rw [this, dt, Int.one_mul]
    have k1 : d * Y - c * X = (d * B - c * A) * K + d * y0 - c * x0 := by rw [eX, eY]; grind
    have k2 : (a * X - b * Y) - (d * Y - c * X) = (a * A - b * B - (d * B - c * A)) * K + (a + c) * x0 - (b + d) * y0 := by rw [eX, eY]; grind
    have l1 := lo_bd (k := c) (by omega) (show x0 ≤ K - 1 by omega)
    have l2 := lo_bd (k := b + d) (by omega) (show y0 ≤ K - 1 by omega)
    have l3 : 0 ≤ d * y0 := Int.mul_nonneg (by omega) hy0
    have l4 : 0 ≤ (a + c) * x0 := Int.mul_nonneg (by omega) hx0
    have l5 : d * K ≤ (d * B - c * A) * K := Int.mul_le_mul_of_nonneg_right g1 (by omega)
    have l6 : (b + d) * K ≤ (a * A - b * B - (d * B - c * A)) * K := Int.mul_le_mul_of_nonneg_right g2 (by omega)
    have l7 : c * K ≤ d * K := Int.mul_le_mul_of_nonneg_right h5 (by omega)
    have p0 : 0 ≤ d * Y - c * X := by omega
    have p1 : d * Y - c * X < a * X - b * Y := by omega
    have p2 : 1 * (a * X - b * Y) ≤ c * (a * X - b * Y) := Int.mul_le_mul_of_nonneg_right h4 (by omega)
    have p3 : 0 ≤ a * (d * Y - c * X) := Int.mul_nonneg h1 p0
    exact ⟨p0, p1, by omega, i1, i2⟩
  · have n1 : nx X Y a b true = b * Y - a * X := rfl
    have n2 : ny X Y c d true = c * X - d * Y := rfl
    rw [n1, n2]
    have i1 : X = d * (b * Y - a * X) + b * (c * X - d * Y) := by
      have : d * (b * Y - a * X) + b * (c * X - d * Y) = (b * c - a * d) * X := by grind
      rw [this, dt, Int.one_mul]
    have i2 : Y = c * (b * Y - a * X) + a * (c * X - d * Y) := by
      have : c * (b * Y - a * X) + a * (c * X - d * Y) = (b * c - a * d) * Y := by grind
      rw [this, dt, Int.one_mul]
    have k1 : c * X - d * Y = (c * A - d * B) * K + c * x0 - d * y0 := by rw [eX, eY]; grind
    have k2 : (b * Y - a * X) - (c * X - d * Y) = (b * B - a * A - (c * A - d * B)) * K + (b + d) * y0 - (a + c) * x0 := by rw [eX, eY]; grind
    have l1 := lo_bd (k := d) (by omega) (show y0 ≤ K - 1 by omega)
    have l2 := lo_bd (k := a + c) (by omega) (show x0 ≤ K - 1 by omega)
    have l3 : 0 ≤ c * x0 := Int.mul_nonneg (by omega) hx0
    have l4 : 0 ≤ (b + d) * y0 := Int.mul_nonneg (by omega) hy0
    have l5 : d * K ≤ (c * A - d * B) * K := Int.mul_le_mul_of_nonneg_right g1 (by omega)
    have l6 : (b + d) * K ≤ (b * B - a * A - (c * A - d * B)) * K := Int.mul_le_mul_of_nonneg_right g2 (by omega)
    have l7 : (a + c) * K ≤ (b + d) * K := Int.mul_le_mul_of_nonneg_right (by omega) (by omega)
    have p0 : 0 ≤ c * X - d * Y := by omega
    have p1 : c * X - d * Y < b * Y - a * X := by omega
    have p2 : 1 * (b * Y - a * X) ≤ c * (b * Y - a * X) := Int.mul_le_mul_of_nonneg_right h4 (by omega)
    have p3 : 0 ≤ a * (c * X - d * Y) := Int.mul_nonneg h1 p0
    exact ⟨p0, p1, by omega, i1, i2⟩
theorem gcd_same {X Y X' Y' a b c d : Int} {t : Bool} (i1 : X = d * X' + b * Y') (i2 : Y = c * X' + a * Y') (e1 : X' = nx X Y a b t) (e2 : Y' = ny X Y c d t) : Int.gcd X' Y' = Int.gcd X Y := by
  apply Nat.dvd_antisymm
  · have h1 := Int.gcd_dvd_left X' Y'
    have h2 := Int.gcd_dvd_right X' Y'
    refine Int.natCast_dvd_natCast.1 (Int.dvd_coe_gcd ?_ ?_)
    · rw [i1]; exact Int.dvd_add (Int.dvd_mul_of_dvd_right h1) (Int.dvd_mul_of_dvd_right h2)
    · rw [i2]; exact Int.dvd_add (Int.dvd_mul_of_dvd_right h1) (Int.dvd_mul_of_dvd_right h2)
  · have h1 := Int.gcd_dvd_left X Y
    have h2 := Int.gcd_dvd_right X Y
    refine Int.natCast_dvd_natCast.1 (Int.dvd_coe_gcd ?_ ?_)
    · rw [e1]; unfold nx; split
      · exact Int.dvd_sub (Int.dvd_mul_of_dvd_right h2) (Int.dvd_mul_of_dvd_right h1)
      · exact Int.dvd_sub (Int.dvd_mul_of_dvd_right h1) (Int.dvd_mul_of_dvd_right h2)
    · rw [e2]; unfold ny; split
      · exact Int.dvd_sub (Int.dvd_mul_of_dvd_right h1) (Int.dvd_mul_of_dvd_right h2)
      · exact Int.dvd_sub (Int.dvd_mul_of_dvd_right h2) (Int.dvd_mul_of_dvd_right h1)
theorem gcd_div {a b q r : Int} (e : q * b + r = a) : Int.gcd b r = Int.gcd a b := by
  apply Nat.dvd_antisymm
  · have h1 := Int.gcd_dvd_left b r
    have h2 := Int.gcd_dvd_right b r
    refine Int.natCast_dvd_natCast.1 (Int.dvd_coe_gcd ?_ h1)
    rw [← e]; exact Int.dvd_add (Int.dvd_mul_of_dvd_right h1) h2
  · have h1 := Int.gcd_dvd_left a b
    have h2 := Int.gcd_dvd_right a b
    refine Int.natCast_dvd_natCast.1 (Int.dvd_coe_gcd h2 ?_)
    have : r = a - q * b := by omega
    rw [this]; exact Int.dvd_sub h1 (Int.dvd_mul_of_dvd_right h2)
end NumB
end Go.Proofs.YtocfenjampmdlaaGreatDoor.B
