/- Plain numbers: words of 64 bits, the lowest one first, as functions from places to integers; nothing of the program is named here. -/
import Derived.KernelRfl
namespace Go.Proofs.YtocfenjampmdlabGreatDoor.B
namespace NumB

/-- 2 to the 64th, to the nth. -/
def P : Nat → Int
  | 0 => 1
  | n + 1 => P n * 18446744073709551616

/-- the number of n words from place o on. -/
def V (x : Nat → Int) (o : Nat) : Nat → Int
  | 0 => 0
  | n + 1 => V x o n + x (o + n) * P n

def upd (x : Nat → Int) (i : Nat) (v : Int) : Nat → Int := fun j => if j = i then v else x j

def lo (s : Int) : Int := s % 18446744073709551616
def hi (s : Int) : Int := s / 18446744073709551616

theorem lo_hi (s : Int) : lo s + hi s * 18446744073709551616 = s := by unfold lo hi; omega
theorem lo_nonneg (s : Int) : 0 ≤ lo s := by unfold lo; omega
theorem lo_le (s : Int) : lo s ≤ 18446744073709551615 := by unfold lo; omega
theorem hi_nonneg (s : Int) (h : 0 ≤ s) : 0 ≤ hi s := by unfold hi; omega

theorem upd_same (x : Nat → Int) (i : Nat) (v : Int) : upd x i v i = v := by simp [upd]
theorem upd_other (x : Nat → Int) (i j : Nat) (v : Int) (h : j ≠ i) : upd x i v j = x j := by simp [upd, h]

theorem P_pos (n : Nat) : 0 < P n := by
  induction n with
  | zero => simp [P]
  | succ n ih => simp only [P]; omega
theorem P_add (m n : Nat) : P (m + n) = P m * P n := by
  induction n with
  | zero => simp [P]
  | succ n ih => rw [← Nat.add_assoc]; simp only [P]; rw [ih, Int.mul_assoc]
theorem P_le {m n : Nat} (h : m ≤ n) : P m ≤ P n := by
  obtain ⟨k, rfl⟩ := Nat.le.dest h
  rw [P_add]
  have h1 := P_pos m
  have h2 := P_pos k
  have : P m * 1 ≤ P m * P k := Int.mul_le_mul_of_nonneg_left (by omega) (by omega)
  omega

theorem V_congr {x y : Nat → Int} {o p : Nat} : ∀ n, (∀ j, j < n → x (o + j) = y (p + j)) → V x o n = V y p n
  | 0, _ => rfl
  | n + 1, h => by simp only [V]; rw [V_congr n (fun j hj => h j (by omega)), h n (by omega)]
theorem V_split (x : Nat → Int) (o m : Nat) : ∀ n, V x o (m + n) = V x o m + P m * V x (o + m) n
  | 0 => by simp [V]
  | n + 1 => by
    rw [← Nat.add_assoc]; simp only [V]
    rw [V_split x o m n, P_add, Nat.add_assoc]
    grind
def Wd (x : Nat → Int) (o n : Nat) : Prop := ∀ j, j < n → 0 ≤ x (o + j) ∧ x (o + j) ≤ 18446744073709551615
theorem Wd.mono {x : Nat → Int} {o n m : Nat} (h : Wd x o n) (hm : m ≤ n) : Wd x o m := fun j hj => h j (by omega)
theorem V_bd {x : Nat → Int} {o : Nat} : ∀ n, Wd x o n → 0 ≤ V x o n ∧ V x o n < P n
  | 0, _ => by simp [V, P]
  | n + 1, h => by
    obtain ⟨h1, h2⟩ := V_bd n (h.mono (by omega))
    obtain ⟨h3, h4⟩ := h n (by omega)
    have hp := P_pos n
    simp only [V, P]
    have a : 0 ≤ x (o + n) * P n := Int.mul_nonneg h3 (by omega)
    have b : x (o + n) * P n ≤ 18446744073709551615 * P n := Int.mul_le_mul_of_nonneg_right h4 (by omega)
    omega
theorem V_zero {x : Nat → Int} {o : Nat} : ∀ n, (∀ j, j < n → x (o + j) = 0) → V x o n = 0
  | 0, _ => rfl
  | n + 1, h => by simp only [V]; rw [V_zero n (fun j hj => h j (by omega)), h n (by omega)]; simp
/-- a number whose highest word is not 0. -/
theorem V_ge {x : Nat → Int} {o n : Nat} (h : Wd x o (n + 1)) (ht : x (o + n) ≠ 0) : P n ≤ V x o (n + 1) := by
  obtain ⟨h1, _⟩ := V_bd n (h.mono (by omega))
  obtain ⟨h3, _⟩ := h n (by omega)
  have hp := P_pos n
  simp only [V]
  have b : 1 * P n ≤ x (o + n) * P n := Int.mul_le_mul_of_nonneg_right (by omega) (by omega)
  omega
theorem V_low (x : Nat → Int) (o n : Nat) : V x o (n + 1) = x o + 18446744073709551616 * V x (o + 1) n := by
  have h := V_split x o 1 n
  rw [Nat.add_comm n 1, h]
  simp [V, P]

/-- how many words are left, if words 0 at the end are cut. -/
def tr (x : Nat → Int) (o : Nat) : Nat → Nat
  | 0 => 0
  | n + 1 => if x (o + n) = 0 then tr x o n else n + 1
theorem tr_le (x : Nat → Int) (o : Nat) : ∀ n, tr x o n ≤ n
  | 0 => Nat.le_refl _
  | n + 1 => by simp only [tr]; split; exact Nat.le_trans (tr_le x o n) (by omega); exact Nat.le_refl _
theorem V_tr (x : Nat → Int) (o : Nat) : ∀ n, V x o (tr x o n) = V x o n
  | 0 => rfl
  | n + 1 => by
    simp only [tr]; split
    · rename_i h; rw [V_tr x o n]; simp only [V]; rw [h]; simp
    · rfl
/-- no word 0 stands at the end. -/
def Nm (x : Nat → Int) (o n : Nat) : Prop := n = 0 ∨ x (o + (n - 1)) ≠ 0
theorem tr_nm (x : Nat → Int) (o : Nat) : ∀ n, Nm x o (tr x o n)
  | 0 => Or.inl rfl
  | n + 1 => by
    simp only [tr]; split
    · exact tr_nm x o n
    · rename_i h; exact Or.inr (by simpa using h)
theorem tr_of_nm {x : Nat → Int} {o n : Nat} (h : Nm x o n) : tr x o n = n := by
  cases n with
  | zero => rfl
  | succ n => simp only [tr]; rcases h with h | h; exact absurd h (by omega); rw [if_neg (by simpa using h)]
/-- -1, 0 or 1. -/
def cmpI (a b : Int) : Int := if a < b then -1 else if b < a then 1 else 0
theorem cmpI_self (a : Int) : cmpI a a = 0 := by simp [cmpI]
theorem cmp_len {x y : Nat → Int} {o p n m : Nat} (hx : Wd x o n) (hy : Wd y p m) (hn : Nm y p m) (h : n < m) : V x o n < V y p m := by
  obtain ⟨k, rfl⟩ : ∃ k, m = k + 1 := ⟨m - 1, by omega⟩
  have h1 := V_ge hy (by rcases hn with h' | h'; omega; simpa using h')
  have h2 := (V_bd n hx).2
  have h3 := P_le (show n ≤ k by omega)
  omega
/-- two numbers whose words above place k are the same, and that at place k differs. -/
theorem cmp_at {x y : Nat → Int} {o p n k : Nat} (hx : Wd x o n) (hy : Wd y p n) (hk : k < n) (he : ∀ j, k < j → j < n → x (o + j) = y (p + j)) (hl : x (o + k) < y (p + k)) : V x o n < V y p n := by
  obtain ⟨r, rfl⟩ := Nat.le.dest (show k + 1 ≤ n by omega)
  rw [V_split x o (k + 1) r, V_split y p (k + 1) r]
  have e : V x (o + (k + 1)) r = V y (p + (k + 1)) r := V_congr r (fun j hj => by rw [show o + (k + 1) + j = o + (k + 1 + j) by omega, show p + (k + 1) + j = p + (k + 1 + j) by omega]; exact he (k + 1 + j) (by omega) (by omega))
  rw [e]
  simp only [V]
  obtain ⟨h1, h2⟩ := V_bd k (hx.mono (by omega))
  obtain ⟨h3, h4⟩ := V_bd k (hy.mono (by omega))
  have hp := P_pos k
  have b : (x (o + k) + 1) * P k ≤ y (p + k) * P k := Int.mul_le_mul_of_nonneg_right (by omega) (by omega)
  have c : (x (o + k) + 1) * P k = x (o + k) * P k + P k := by rw [Int.add_mul, Int.one_mul]
  omega
theorem V_upd_out {x : Nat → Int} {o i : Nat} {v : Int} (n : Nat) (h : i < o ∨ o + n ≤ i) : V (upd x i v) o n = V x o n :=
  V_congr n (fun j hj => upd_other x i (o + j) v (by omega))
theorem V_upd_top (x : Nat → Int) (o k : Nat) (v : Int) : V (upd x (o + k) v) o (k + 1) = V x o k + v * P k := by
  simp only [V]; rw [V_upd_out k (Or.inr (Nat.le_refl _)), upd_same]
/-- a word and a carry are added at place k. -/
theorem carry_step (x : Nat → Int) (o k : Nat) (a c t : Int) (h : V x o k + c * P k = t) :
    V (upd x (o + k) (lo (x (o + k) + a + c))) o (k + 1) + hi (x (o + k) + a + c) * P (k + 1) = t + x (o + k) * P k + a * P k := by
  rw [V_upd_top]
  have e := lo_hi (x (o + k) + a + c)
  generalize lo (x (o + k) + a + c) = l at *
  generalize hi (x (o + k) + a + c) = m at *
  simp only [P]
  generalize P k = q at *
  generalize x (o + k) = u at *
  have e2 : l = u + a + c - m * 18446744073709551616 := by omega
  rw [← h, e2]
  grind
theorem hi_le1 (s : Int) (h0 : 0 ≤ s) (h : s ≤ 36893488147419103231) : 0 ≤ hi s ∧ hi s ≤ 1 := by unfold hi; omega
theorem Wd_upd {x : Nat → Int} {o k i : Nat} {v : Int} (h : Wd x o k) (h0 : 0 ≤ v) (h1 : v ≤ 18446744073709551615) : Wd (upd x i v) o k := fun j hj => by
  unfold upd; split
  · exact ⟨h0, h1⟩
  · exact h j hj
/-- what stays above place k stays in the number. -/
theorem V_tail {x x' : Nat → Int} {o k n : Nat} (hk : k ≤ n) (h : ∀ j, k ≤ j → j < n → x' (o + j) = x (o + j)) : V x' o n - V x' o k = V x o n - V x o k := by
  obtain ⟨r, rfl⟩ := Nat.le.dest hk
  rw [V_split x' o k r, V_split x o k r, V_congr (x := x') (y := x) (o := o + k) (p := o + k) r (fun j hj => by rw [Nat.add_assoc]; exact h (k + j) (by omega) (by omega))]
  omega
/-- a word times a word, a word and a word: two words. -/
theorem mul_bd {a b c d : Int} (ha : 0 ≤ a ∧ a ≤ 18446744073709551615) (hb : 0 ≤ b ∧ b ≤ 18446744073709551615) (hc : 0 ≤ c ∧ c ≤ 18446744073709551615) (hd : 0 ≤ d ∧ d ≤ 18446744073709551615) :
    0 ≤ a * b ∧ a * b + c + d ≤ 340282366920938463463374607431768211455 := by
  have h1 : 0 ≤ a * b := Int.mul_nonneg ha.1 hb.1
  have h2 : a * b ≤ 18446744073709551615 * b := Int.mul_le_mul_of_nonneg_right ha.2 hb.1
  omega
/-- how 'addTimes' reckons them. -/
theorem times_word (m o x : Int) (hm : 0 ≤ m) (ho : 0 ≤ o ∧ o ≤ 18446744073709551615) (hx : 0 ≤ x ∧ x ≤ 18446744073709551615) (h : m + o + x ≤ 340282366920938463463374607431768211455) :
    hi m + hi (lo m + o) ≤ 18446744073709551615 ∧ hi m + hi (lo m + o) + hi (x + lo (lo m + o)) = hi (m + o + x) ∧ lo (x + lo (lo m + o)) = lo (m + o + x) ∧ 0 ≤ hi (m + o + x) ∧ hi (m + o + x) ≤ 18446744073709551615 ∧ 0 ≤ hi m ∧ 0 ≤ hi (lo m + o) ∧ 0 ≤ hi (x + lo (lo m + o)) := by
  unfold hi lo; omega
theorem times_step (x : Nat → Int) (o k : Nat) (m c t : Int) (h : V x o k + c * P k = t) :
    V (upd x (o + k) (lo (m + c + x (o + k)))) o (k + 1) + hi (m + c + x (o + k)) * P (k + 1) = t + x (o + k) * P k + m * P k := by
  have := carry_step x o k m c t h
  rw [show m + c + x (o + k) = x (o + k) + m + c by omega]
  exact this
end NumB
end Go.Proofs.YtocfenjampmdlabGreatDoor.B
