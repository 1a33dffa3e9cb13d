/- Plain numbers: words of 64 bits, the lowest one first, as functions from places to integers; nothing of the program is named here. -/
/- What a slice of words is in memory, what a call may have done to memory, and what 'trimmed' answers: a view without the words 0 at the end. -/
/- The library's contracts that the walks take, laid at this program. -/
import Derived.KernelRfl
import Derived.Test.YtocfenjampmdlaaGreatDoorRows
import Derived.WalkKit
import Derived.WalkSpells
import Derived.WalkLawsBesides
import Derived.Shelf.Spec.BitsCarry
import Derived.Shelf.Strings.Builder1
import Derived.Shelf.Strings.Builder2
import Derived.Shelf.Small.Bits
import Derived.Shelf.Small.Wraps
import Derived.Shelf.Strings.BuilderF
import Derived.Shelf.Strconv.Itoa0
import Derived.Shelf.Strconv.Itoa1
import Derived.Shelf.LaysM
import Derived.Shelf.Strconv.Itoa2
import Derived.Shelf.Strings.Prefix
import Derived.Shelf.Bits.Mul64
import Derived.Shelf.Strings.Repeat
import Derived.Test.YtocfenjampmdlaaGreatDoorProg
namespace Go.Proofs.YtocfenjampmdlaaGreatDoor.B
namespace NumB

/-- 2 to the 64th, to the nth. -/
def P : Nat → Int
  | 0 => 1
  | n + 1 => P n * 18446744073709551616

/-- the number of n words from place o on. -/
def V (x : Nat → Int) (o : Nat) : Nat → Int
  | 0 => 0
  | n + 1 => V x o n + x (o + n) * P n

def upd (x : Nat → Int) (i : Nat) (v : Int) : Nat → Int := fun j => if j = i then v else x j

def lo (s : Int) : Int := s % 18446744073709551616
def hi (s : Int) : Int := s / 18446744073709551616

theorem lo_hi (s : Int) : lo s + hi s * 18446744073709551616 = s := by unfold lo hi; omega
theorem lo_nonneg (s : Int) : 0 ≤ lo s := by unfold lo; omega
theorem lo_le (s : Int) : lo s ≤ 18446744073709551615 := by unfold lo; omega
theorem hi_nonneg (s : Int) (h : 0 ≤ s) : 0 ≤ hi s := by unfold hi; omega

theorem upd_same (x : Nat → Int) (i : Nat) (v : Int) : upd x i v i = v := by simp [upd]
theorem upd_other (x : Nat → Int) (i j : Nat) (v : Int) (h : j ≠ i) : upd x i v j = x j := by simp [upd, h]

theorem P_pos (n : Nat) : 0 < P n := by
  induction n with
  | zero => simp [P]
  | succ n ih => simp only [P]; omega
theorem P_add (m n : Nat) : P (m + n) = P m * P n := by
  induction n with
  | zero => simp [P]
  | succ n ih => rw [← Nat.add_assoc]; simp only [P]; rw [ih, Int.mul_assoc]
theorem P_le {m n : Nat} (h : m ≤ n) : P m ≤ P n := by
  obtain ⟨k, rfl⟩ := Nat.le.dest h
  rw [P_add]
  have h1 := P_pos m
  have h2 := P_pos k
  have : P m * 1 ≤ P m * P k := Int.mul_le_mul_of_nonneg_left (by omega) (by omega)
  omega

theorem V_congr {x y : Nat → Int} {o p : Nat} : ∀ n, (∀ j, j < n → x (o + j) = y (p + j)) → V x o n = V y p n
  | 0, _ => rfl
  | n + 1, h => by simp only [V]; rw [V_congr n (fun j hj => h j (by omega)), h n (by omega)]
theorem V_split (x : Nat → Int) (o m : Nat) : ∀ n, V x o (m + n) = V x o m + P m * V x (o + m) n
  | 0 => by simp [V]
  | n + 1 => by
    rw [← Nat.add_assoc]; simp only [V]
    rw [V_split x o m n, P_add, Nat.add_assoc]
    grind
def Wd (x : Nat → Int) (o n : Nat) : Prop := ∀ j, j < n → 0 ≤ x (o + j) ∧ x (o + j) ≤ 18446744073709551615
theorem Wd.mono {x : Nat → Int} {o n m : Nat} (h : Wd x o n) (hm : m ≤ n) : Wd x o m := fun j hj => h j (by omega)
theorem V_bd {x : Nat → Int} {o : Nat} : ∀ n, Wd x o n → 0 ≤ V x o n ∧ V x o n < P n
  | 0, _ => by simp [V, P]
  | n + 1, h => by
    obtain ⟨h1, h2⟩ := V_bd n (h.mono (by omega))
    obtain ⟨h3, h4⟩ := h n (by omega)
    have hp := P_pos n
    simp only [V, P]
    have a : 0 ≤ x (o + n) * P n := Int.mul_nonneg h3 (by omega)
    have b : x (o + n) * P n ≤ 18446744073709551615 * P n := Int.mul_le_mul_of_nonneg_right h4 (by omega)
    omega
theorem V_zero {x : Nat → Int} {o : Nat} : ∀ n, (∀ j, j < n → x (o + j) = 0) → V x o n = 0
  | 0, _ => rfl
  | n + 1, h => by simp only [V]; rw [V_zero n (fun j hj => h j (by omega)), h n (by omega)]; simp
/-- a number whose highest word is not 0. -/
theorem V_ge {x : Nat → Int} {o n : Nat} (h : Wd x o (n + 1)) (ht : x (o + n) ≠ 0) : P n ≤ V x o (n + 1) := by
  obtain ⟨h1, _⟩ := V_bd n (h.mono (by omega))
  obtain ⟨h3, _⟩ := h n (by omega)
  have hp := P_pos n
  simp only [V]
  have b : 1 * P n ≤ x (o + n) * P n := Int.mul_le_mul_of_nonneg_right (by omega) (by omega)
  omega
theorem V_low (x : Nat → Int) (o n : Nat) : V x o (n + 1) = x o + 18446744073709551616 * V x (o + 1) n := by
  have h := V_split x o 1 n
  rw [Nat.add_comm n 1, h]
  simp [V, P]

/-- how many words are left, if words 0 at the end are cut. -/
def tr (x : Nat → Int) (o : Nat) : Nat → Nat
  | 0 => 0
  | n + 1 => if x (o + n) = 0 then tr x o n else n + 1
theorem tr_le (x : Nat → Int) (o : Nat) : ∀ n, tr x o n ≤ n
  | 0 => Nat.le_refl _
  | n + 1 => by simp only [tr]; split; exact Nat.le_trans (tr_le x o n) (by omega); exact Nat.le_refl _
theorem V_tr (x : Nat → Int) (o : Nat) : ∀ n, V x o (tr x o n) = V x o n
  | 0 => rfl
  | n + 1 => by
    simp only [tr]; split
    · rename_i h; rw [V_tr x o n]; simp only [V]; rw [h]; simp
    · rfl
/-- no word 0 stands at the end. -/
def Nm (x : Nat → Int) (o n : Nat) : Prop := n = 0 ∨ x (o + (n - 1)) ≠ 0
theorem tr_nm (x : Nat → Int) (o : Nat) : ∀ n, Nm x o (tr x o n)
  | 0 => Or.inl rfl
  | n + 1 => by
    simp only [tr]; split
    · exact tr_nm x o n
    · rename_i h; exact Or.inr (by simpa using h)
theorem tr_of_nm {x : Nat → Int} {o n : Nat} (h : Nm x o n) : tr x o n = n := by
  cases n with
  | zero => rfl
  | succ n => simp only [tr]; rcases h with h | h; exact absurd h (by omega); rw [if_neg (by simpa using h)]
/-- -1, 0 or 1. -/
def cmpI (a b : Int) : Int := if a < b then -1 else if b < a then 1 else 0
theorem cmpI_self (a : Int) : cmpI a a = 0 := by simp [cmpI]
theorem cmp_len {x y : Nat → Int} {o p n m : Nat} (hx : Wd x o n) (hy : Wd y p m) (hn : Nm y p m) (h : n < m) : V x o n < V y p m := by
  obtain ⟨k, rfl⟩ : ∃ k, m = k + 1 := ⟨m - 1, by omega⟩
  have h1 := V_ge hy (by rcases hn with h' | h'; omega; simpa using h')
  have h2 := (V_bd n hx).2
  have h3 := P_le (show n ≤ k by omega)
  omega
/-- two numbers whose words above place k are the same, and that at place k differs. -/
theorem cmp_at {x y : Nat → Int} {o p n k : Nat} (hx : Wd x o n) (hy : Wd y p n) (hk : k < n) (he : ∀ j, k < j → j < n → x (o + j) = y (p + j)) (hl : x (o + k) < y (p + k)) : V x o n < V y p n := by
  obtain ⟨r, rfl⟩ := Nat.le.dest (show k + 1 ≤ n by omega)
  rw [V_split x o (k + 1) r, V_split y p (k + 1) r]
  have e : V x (o + (k + 1)) r = V y (p + (k + 1)) r := V_congr r (fun j hj => by rw [show o + (k + 1) + j = o + (k + 1 + j) by omega, show p + (k + 1) + j = p + (k + 1 + j) by omega]; exact he (k + 1 + j) (by omega) (by omega))
  rw [e]
  simp only [V]
  obtain ⟨h1, h2⟩ := V_bd k (hx.mono (by omega))
  obtain ⟨h3, h4⟩ := V_bd k (hy.mono (by omega))
  have hp := P_pos k
  have b : (x (o + k) + 1) * P k ≤ y (p + k) * P k := Int.mul_le_mul_of_nonneg_right (by omega) (by omega)
  have c : (x (o + k) + 1) * P k = x (o + k) * P k + P k := by rw [Int.add_mul, Int.one_mul]
  omega
theorem V_upd_out {x : Nat → Int} {o i : Nat} {v : Int} (n : Nat) (h : i < o ∨ o + n ≤ i) : V (upd x i v) o n = V x o n :=
  V_congr n (fun j hj => upd_other x i (o + j) v (by omega))
theorem V_upd_top (x : Nat → Int) (o k : Nat) (v : Int) : V (upd x (o + k) v) o (k + 1) = V x o k + v * P k := by
  simp only [V]; rw [V_upd_out k (Or.inr (Nat.le_refl _)), upd_same]
/-- a word and a carry are added at place k. -/
theorem carry_step (x : Nat → Int) (o k : Nat) (a c t : Int) (h : V x o k + c * P k = t) :
    V (upd x (o + k) (lo (x (o + k) + a + c))) o (k + 1) + hi (x (o + k) + a + c) * P (k + 1) = t + x (o + k) * P k + a * P k := by
  rw [V_upd_top]
  have e := lo_hi (x (o + k) + a + c)
  generalize lo (x (o + k) + a + c) = l at *
  generalize hi (x (o + k) + a + c) = m at *
  simp only [P]
  generalize P k = q at *
  generalize x (o + k) = u at *
  have e2 : l = u + a + c - m * 18446744073709551616 := by omega
  rw [← h, e2]
  grind
theorem hi_le1 (s : Int) (h0 : 0 ≤ s) (h : s ≤ 36893488147419103231) : 0 ≤ hi s ∧ hi s ≤ 1 := by unfold hi; omega
theorem Wd_upd {x : Nat → Int} {o k i : Nat} {v : Int} (h : Wd x o k) (h0 : 0 ≤ v) (h1 : v ≤ 18446744073709551615) : Wd (upd x i v) o k := fun j hj => by
  unfold upd; split
  · exact ⟨h0, h1⟩
  · exact h j hj
/-- what stays above place k stays in the number. -/
theorem V_tail {x x' : Nat → Int} {o k n : Nat} (hk : k ≤ n) (h : ∀ j, k ≤ j → j < n → x' (o + j) = x (o + j)) : V x' o n - V x' o k = V x o n - V x o k := by
  obtain ⟨r, rfl⟩ := Nat.le.dest hk
  rw [V_split x' o k r, V_split x o k r, V_congr (x := x') (y := x) (o := o + k) (p := o + k) r (fun j hj => by rw [Nat.add_assoc]; exact h (k + j) (by omega) (by omega))]
  omega
/-- a word times a word, a word and a word: two words. -/
theorem mul_bd {a b c d : Int} (ha : 0 ≤ a ∧ a ≤ 18446744073709551615) (hb : 0 ≤ b ∧ b ≤ 18446744073709551615) (hc : 0 ≤ c ∧ c ≤ 18446744073709551615) (hd : 0 ≤ d ∧ d ≤ 18446744073709551615) :
    0 ≤ a * b ∧ a * b + c + d ≤ 340282366920938463463374607431768211455 := by
  have h1 : 0 ≤ a * b := Int.mul_nonneg ha.1 hb.1
  have h2 : a * b ≤ 18446744073709551615 * b := Int.mul_le_mul_of_nonneg_right ha.2 hb.1
  omega
/-- how 'addTimes' reckons them. -/
theorem times_word (m o x : Int) (hm : 0 ≤ m) (ho : 0 ≤ o ∧ o ≤ 18446744073709551615) (hx : 0 ≤ x ∧ x ≤ 18446744073709551615) (h : m + o + x ≤ 340282366920938463463374607431768211455) :
    hi m + hi (lo m + o) ≤ 18446744073709551615 ∧ hi m + hi (lo m + o) + hi (x + lo (lo m + o)) = hi (m + o + x) ∧ lo (x + lo (lo m + o)) = lo (m + o + x) ∧ 0 ≤ hi (m + o + x) ∧ hi (m + o + x) ≤ 18446744073709551615 ∧ 0 ≤ hi m ∧ 0 ≤ hi (lo m + o) ∧ 0 ≤ hi (x + lo (lo m + o)) := by
  unfold hi lo; omega
theorem times_step (x : Nat → Int) (o k : Nat) (m c t : Int) (h : V x o k + c * P k = t) :
    V (upd x (o + k) (lo (m + c + x (o + k)))) o (k + 1) + hi (m + c + x (o + k)) * P (k + 1) = t + x (o + k) * P k + m * P k := by
  have := carry_step x o k m c t h
  rw [show m + c + x (o + k) = x (o + k) + m + c by omega]
  exact this
end NumB
end Go.Proofs.YtocfenjampmdlaaGreatDoor.B
namespace Go.Proofs.YtocfenjampmdlaaGreatDoor.B
open Go.RowKit NumB

theorem hid {p : Prop} (h : p) : Hid p := h

/-- 'v' is a slice of n words: those of x from place o on. -/
def Sl (w : World) (v : Value) (n : Nat) (x : Nat → Int) (o : Nat) : Prop :=
  ∃ ao cap, v = .slice ao n cap ∧ n ≤ cap ∧ cap ≤ 9223372036854775807 ∧ Wd x o n ∧ (ao = none → cap = 0) ∧
    (0 < n → ∃ b off, ao = some ⟨b, off, none⟩ ∧ b < w.heap.size ∧ ∀ j, j < n → w.cell? ⟨b, off + j, none⟩ = some (.int .u64 (x (o + j))))

theorem Sl.below {w w' : World} {v : Value} {n : Nat} {x : Nat → Int} {o : Nat} (h : Sl w v n x o) (hb : Below w.heap.size w w') : Sl w' v n x o := by
  obtain ⟨ao, cap, rfl, h1, h2, h3, h4, h5⟩ := h
  refine ⟨ao, cap, rfl, h1, h2, h3, h4, fun hn => ?_⟩
  obtain ⟨b, off, rfl, hbs, hc⟩ := h5 hn
  refine ⟨b, off, rfl, Nat.lt_of_lt_of_le hbs hb.size, fun j hj => ?_⟩
  rw [hb.cell (p := ⟨b, off + j, none⟩) hbs]; exact hc j hj

/-- block g holds n words x. -/
def Row (w : World) (g n : Nat) (x : Nat → Int) : Prop :=
  ∃ cur : Array Value, w.heap[g]? = some (.cells cur 23 (0, 0)) ∧ cur.size = n ∧ ∀ j, j < n → cur[j]? = some (.int .u64 (x j))

theorem Row.lt {w : World} {g n : Nat} {x : Nat → Int} (h : Row w g n x) : g < w.heap.size := by
  obtain ⟨cur, hg, _⟩ := h
  exact (Array.getElem?_eq_some_iff.1 hg).1
theorem Row.cell {w : World} {g n : Nat} {x : Nat → Int} (h : Row w g n x) {i : Nat} (hi : i < n) : w.cell? ⟨g, i, none⟩ = some (.int .u64 (x i)) := by
  obtain ⟨cur, hg, _, hc⟩ := h
  simp [World.cell?, hg, hc i hi]
theorem Row.frozen {w : World} {g n : Nat} {x : Nat → Int} (h : Row w g n x) (i : Nat) : w.frozen? ⟨g, i, none⟩ = false := by
  obtain ⟨cur, hg, _, hc⟩ := h
  simp [World.frozen?, hg]
theorem Row.set {w : World} {g n : Nat} {x : Nat → Int} (h : Row w g n x) (i : Nat) (v : Int) : Row (w.setCell ⟨g, i, none⟩ (.int .u64 v)) g n (upd x i v) := by
  obtain ⟨cur, hg, hs, hc⟩ := h
  refine ⟨cur.setIfInBounds i (.int .u64 v), ?_, by simpa using hs, fun j hj => ?_⟩
  · rw [heap_setCell_same w g i cur 23 _ hg]
  · by_cases e : j = i
    · subst e; rw [Array.getElem?_setIfInBounds]; simp [hs, hj, upd_same]
    · rw [Array.getElem?_setIfInBounds]; simp [Ne.symm e, upd_other x i j v e, hc j hj]
theorem Row.congr {w : World} {g n : Nat} {x y : Nat → Int} (h : Row w g n x) (e : ∀ j, j < n → x j = y j) : Row w g n y := by
  obtain ⟨cur, hg, hs, hc⟩ := h
  exact ⟨cur, hg, hs, fun j hj => by rw [hc j hj, e j hj]⟩

/-- of all memory block g alone may have turned, and no block is new. -/
structure Only (g : Nat) (w w' : World) : Prop where
  os : w'.os = w.os
  tape : w'.tape = w.tape
  output : w'.output = w.output
  size : w'.heap.size = w.heap.size
  block : ∀ k, k ≠ g → w'.heap[k]? = w.heap[k]?
theorem Only.refl (g : Nat) (w : World) : Only g w w := ⟨rfl, rfl, rfl, rfl, fun _ _ => rfl⟩
theorem Only.trans {g : Nat} {a b c : World} (h : Only g a b) (k : Only g b c) : Only g a c :=
  ⟨k.os.trans h.os, k.tape.trans h.tape, k.output.trans h.output, k.size.trans h.size, fun i hi => (k.block i hi).trans (h.block i hi)⟩
theorem Only.set {g : Nat} {a w : World} (h : Only g a w) (i : Nat) (v : Value) : Only g a (w.setCell ⟨g, i, none⟩ v) :=
  h.trans ⟨rfl, rfl, rfl, by simp [World.setCell], fun k hk => heap_setCell_other w ⟨g, i, none⟩ k v hk⟩
theorem Only.below {g B : Nat} {w w' : World} (h : Only g w w') (hB : B ≤ g) : Below B w w' :=
  ⟨h.os, h.tape, h.output, by rw [h.size]; exact Nat.le_refl _, fun k hk => h.block k (by omega)⟩
theorem Only.cell {g : Nat} {w w' : World} (h : Only g w w') {p : Addr} (hp : p.block ≠ g) : w'.cell? p = w.cell? p := World.cell?_of_block (w := w) (h.block p.block hp)
theorem Only.row {g k n : Nat} {x : Nat → Int} {w w' : World} (h : Only g w w') (hk : k ≠ g) (r : Row w k n x) : Row w' k n x := by
  obtain ⟨cur, hg, hs, hc⟩ := r
  exact ⟨cur, by rw [h.block k hk]; exact hg, hs, hc⟩
theorem Below.row {B k n : Nat} {x : Nat → Int} {w w' : World} (h : Below B w w') (hk : k < B) (r : Row w k n x) : Row w' k n x := by
  obtain ⟨cur, hg, hs, hc⟩ := r
  exact ⟨cur, by rw [h.block k hk]; exact hg, hs, hc⟩
/-- a part of a row is a slice of words. -/
theorem Row.sl {w : World} {g N : Nat} {x : Nat → Int} (h : Row w g N x) (o n cap : Nat) (ho : o + n ≤ N) (hc : n ≤ cap) (hm : cap ≤ 9223372036854775807) (hw : Wd x o n) : Sl w (.slice (some ⟨g, o, none⟩) n cap) n x o :=
  ⟨_, cap, rfl, hc, hm, hw, (fun e => by cases e), fun _ => ⟨g, o, rfl, h.lt, fun j hj => h.cell (by omega)⟩⟩

/-- a slice of words that does not lie in block g. -/
def SlN (g : Nat) (w : World) (v : Value) (n : Nat) (x : Nat → Int) (o : Nat) : Prop :=
  ∃ ao cap, v = .slice ao n cap ∧ n ≤ cap ∧ cap ≤ 9223372036854775807 ∧ Wd x o n ∧ (ao = none → cap = 0) ∧
    (0 < n → ∃ b off, ao = some ⟨b, off, none⟩ ∧ b < w.heap.size ∧ b ≠ g ∧ ∀ j, j < n → w.cell? ⟨b, off + j, none⟩ = some (.int .u64 (x (o + j))))
theorem Sl.apart {w w' : World} {v : Value} {n : Nat} {x : Nat → Int} {o g : Nat} (h : Sl w v n x o) (hb : Below w.heap.size w w') (hg : w.heap.size ≤ g) : SlN g w' v n x o := by
  obtain ⟨ao, cap, rfl, h1, h2, h3, h4, h5⟩ := h
  refine ⟨ao, cap, rfl, h1, h2, h3, h4, fun hn => ?_⟩
  obtain ⟨b, off, rfl, hbs, hc⟩ := h5 hn
  refine ⟨b, off, rfl, Nat.lt_of_lt_of_le hbs hb.size, by omega, fun j hj => ?_⟩
  rw [hb.cell (p := ⟨b, off + j, none⟩) hbs]; exact hc j hj
theorem SlN.only {g : Nat} {w w' : World} {v : Value} {n : Nat} {x : Nat → Int} {o : Nat} (h : SlN g w v n x o) (hb : Only g w w') : SlN g w' v n x o := by
  obtain ⟨ao, cap, rfl, h1, h2, h3, h4, h5⟩ := h
  refine ⟨ao, cap, rfl, h1, h2, h3, h4, fun hn => ?_⟩
  obtain ⟨b, off, rfl, hbs, hbg, hc⟩ := h5 hn
  refine ⟨b, off, rfl, by rw [hb.size]; exact hbs, hbg, fun j hj => ?_⟩
  rw [hb.cell (p := ⟨b, off + j, none⟩) hbg]; exact hc j hj

theorem add64 (x y c : Int) (hx : 0 ≤ x) (hy : 0 ≤ y) (hc0 : 0 ≤ c) (hc : c ≤ 1) (w : World) :
    (callFunc 97 #[.int .u64 x, .int .u64 y, .int .u64 c]).run Tryz.prog w = .ok (.value (.tuple #[.int .u64 (lo (x + y + c)), .int .u64 (hi (x + y + c))])) w := by
  obtain ⟨x, rfl⟩ := Int.eq_ofNat_of_zero_le hx
  obtain ⟨y, rfl⟩ := Int.eq_ofNat_of_zero_le hy
  obtain ⟨c, rfl⟩ := Int.eq_ofNat_of_zero_le hc0
  rw [run_callFunc_extern Tryz.func97 (by kernel_rfl) (by kernel_rfl) (by kernel_rfl) (e := add64Entry) (by kernel_rfl), run_add64 x y c (by omega) (by omega) (by omega) (by omega)]
  simp only [Result.andThen, lo, hi]
theorem add64_0 (x y : Int) (hx : 0 ≤ x) (hy : 0 ≤ y) (w : World) :
    (callFunc 97 #[.int .u64 x, .int .u64 y, .int .u64 0]).run Tryz.prog w = .ok (.value (.tuple #[.int .u64 (lo (x + y)), .int .u64 (hi (x + y))])) w := by
  simpa using add64 x y 0 hx hy (Int.le_refl 0) (by decide) w
/-- the difference and the borrow. -/
def dl (x y b : Int) : Int := (x - y - b) % 18446744073709551616
def db (x y b : Int) : Int := if x < y + b then 1 else 0
theorem ret_slice {a : Option Addr} {n m c d : Nat} (h : n = m) (k : c = d) : Ending.returned (.slice a n c) = .returned (.slice a m d) := by rw [h, k]

set_option maxHeartbeats 400000 in
theorem trimmed_pos (b off n cap : Nat) (x : Nat → Int) (o : Nat) (w : World) (hcap : n ≤ cap) (hbig : cap ≤ 9223372036854775807) (hc : ∀ j, j < n → w.cell? ⟨b, off + j, none⟩ = some (.int .u64 (x (o + j)))) :
    Calls Tryz.prog 56 #[.slice (some ⟨b, off, none⟩) n cap] w fun e w' => e = .returned (.slice (some ⟨b, off, none⟩) (tr x o n) (tr x o n)) ∧ w' = w := by
  go_enter Tryz.func56, Tryz.ntmps56
  go_wp2
  go_loop [3] (fun i => ∃ k : Nat, k ≤ n ∧ i = .int .i64 k ∧ tr x o k = tr x o n) (fun i => (intOf i).toNat)
  case atStart => exact ⟨n, Nat.le_refl _, rfl, rfl⟩
  case round =>
    obtain ⟨k, hk, rfl, ht⟩ := hrel
    cases k with
    | zero =>
      have H : Hid (tr x o 0 = tr x o n) := ht
      clear ht hc
      go_wp2
      go_ret
      exact ⟨ret_slice (by rw [← H.out]; rfl) (by rw [← H.out]; rfl), rfl⟩
    | succ k =>
      have hcell := hc k (by omega)
      have H : Hid (tr x o (k + 1) = tr x o n) := ht
      clear ht hc
      go_wp2
      · have h0 : (x (o + k) == 0) = true := by assumption
        refine ⟨⟨k, by omega, rfl, ?_⟩, by simp [intOf]⟩
        rw [← H.out]; simp only [tr]; rw [if_pos (by simpa using h0)]
      · have h0 : (x (o + k) == 0) = false := by assumption
        have e : k + 1 = tr x o n := by rw [← H.out]; simp only [tr]; rw [if_neg (by simpa using h0)]
        go_ret
        exact ⟨ret_slice e e, rfl⟩

set_option maxHeartbeats 400000 in
theorem trimmed_nil (ao : Option Addr) (cap : Nat) (w : World) (hn : ao = none → cap = 0) (hbig : cap ≤ 9223372036854775807) :
    Calls Tryz.prog 56 #[.slice ao 0 cap] w fun e w' => e = .returned (.slice ao 0 0) ∧ w' = w := by
  cases ao with
  | none =>
    have := hn rfl
    subst this
    go_enter Tryz.func56, Tryz.ntmps56
    go_wp2
    refine wp_loop_rounds 1 ?_; rw [rounds_succ]; go_wp2
    go_ret
    exact ⟨rfl, rfl⟩
  | some a =>
    go_enter Tryz.func56, Tryz.ntmps56
    go_wp2
    refine wp_loop_rounds 1 ?_; rw [rounds_succ]; go_wp2
    go_ret
    exact ⟨rfl, rfl⟩

/-- 'trimmed' of a slice of words: the same words without those 0 at the end. -/
theorem trimmed_any (v : Value) (n : Nat) (x : Nat → Int) (o : Nat) (w : World) (h : Sl w v n x o) :
    Calls Tryz.prog 56 #[v] w fun e w' => (∃ v', e = .returned v' ∧ Sl w v' (tr x o n) x o) ∧ w' = w := by
  obtain ⟨ao, cap, rfl, h1, h2, h3, h4, h5⟩ := h
  cases n with
  | zero =>
    refine (trimmed_nil ao cap w h4 h2).mono ?_
    rintro e w' ⟨rfl, rfl⟩
    exact ⟨⟨_, rfl, ao, 0, rfl, Nat.le_refl _, by omega, h3, fun _ => rfl, fun h => absurd h (by simp [tr])⟩, rfl⟩
  | succ n =>
    obtain ⟨b, off, rfl, hb, hc⟩ := h5 (by omega)
    refine (trimmed_pos b off (n + 1) cap x o w h1 h2 hc).mono ?_
    rintro e w' ⟨rfl, rfl⟩
    have hl := tr_le x o (n + 1)
    exact ⟨⟨_, rfl, _, _, rfl, Nat.le_refl _, by omega, h3.mono hl, (fun e => by cases e), fun _ => ⟨b, off, rfl, hb, fun j hj => hc j (by omega)⟩⟩, rfl⟩
end Go.Proofs.YtocfenjampmdlaaGreatDoor.B
namespace Go.Proofs.YtocfenjampmdlaaGreatDoor.B
open Go.Shelf
def Tryz.lays169_ren : Go.Shelf.Ren := ⟨fun | 169 => 60 | n => n, fun | 70 => 94 | 9 => 9 | 0 => 0 | 72 => 96 | 37 => 89 | 127 => 125 | 3 => 3 | 5 => 5 | n => n, fun | n => n⟩
theorem Tryz.lays169 : Go.Proofs.Lays.n169 Tryz.prog Tryz.lays169_ren := {
  mixed := by kernel_rfl
  f169 := Tryz.func60.trans (congrArg some (by kernel_rfl))
  t0 := Tryz.underlying0
  a0 := Tryz.isAgg0
  z0 := Tryz.sizeOf0
  v0 := Tryz.zeroValue0
  t3 := Tryz.underlying3
  a3 := Tryz.isAgg3
  z3 := Tryz.sizeOf3
  v3 := Tryz.zeroValue3
  t9 := Tryz.underlying9
  a9 := Tryz.isAgg9
  z9 := Tryz.sizeOf9
  v9 := Tryz.zeroValue9
  t37 := Tryz.underlying89
  a37 := Tryz.isAgg89
  z37 := Tryz.sizeOf89
  v37 := Tryz.zeroValue89
  t70 := Tryz.underlying94
  a70 := Tryz.isAgg94
  z70 := Tryz.sizeOf94
  v70 := Tryz.zeroValue94
  t72 := Tryz.underlying96
  a72 := Tryz.isAgg96
  z72 := Tryz.sizeOf96
  v72 := Tryz.zeroValue96
  t127 := Tryz.underlying125
  a127 := Tryz.isAgg125
  z127 := Tryz.sizeOf125
  v127 := Tryz.zeroValue125 }
theorem Tryz.Builder_Extra_169 : Builder.Extra Tryz.prog Tryz.lays169_ren := {
  sizeBuilder := by kernel_rfl
  liesBuilder := by kernel_rfl
  t5 := Tryz.underlying5
  a5 := Tryz.isAgg5
  z5 := Tryz.sizeOf5
  v5 := Tryz.zeroValue5
  infoByte := by kernel_rfl
  cellsByte := by kernel_rfl
  sizeByte := by kernel_rfl
  neB5 := by decide }
open Go.RowKit in
theorem Tryz.Builder_String_any (B b : Nat) (l : List UInt8) (w : World) (h : Lib.IsBuilder 96 5 B b (Lib.byteCells l) w) (hBw : B ≤ w.heap.size) :
    Calls Tryz.prog 60 #[.pointer (some ⟨b, 0, none⟩)] w fun e w' => e = .returned (.string ⟨l.toArray⟩) ∧ Below B w w' := Any.Builder_String_any Tryz.lays169 Tryz.Builder_Extra_169 B b l w h hBw
def Tryz.lays134_ren : Go.Shelf.Ren := ⟨fun | 134 => 74 | 129 => 82 | n => n, fun | 53 => 23 | 3 => 3 | 4 => 4 | 46 => 106 | 5 => 5 | 9 => 9 | n => n, fun | n => n⟩
theorem Tryz.lays134 : Go.Proofs.Lays.n134 Tryz.prog Tryz.lays134_ren := {
  mixed := by kernel_rfl
  f129 := Tryz.func82.trans (congrArg some (by kernel_rfl))
  f134 := Tryz.func74.trans (congrArg some (by kernel_rfl))
  t3 := Tryz.underlying3
  a3 := Tryz.isAgg3
  z3 := Tryz.sizeOf3
  v3 := Tryz.zeroValue3
  t4 := Tryz.underlying4
  a4 := Tryz.isAgg4
  z4 := Tryz.sizeOf4
  v4 := Tryz.zeroValue4
  t5 := Tryz.underlying5
  a5 := Tryz.isAgg5
  z5 := Tryz.sizeOf5
  v5 := Tryz.zeroValue5
  t9 := Tryz.underlying9
  a9 := Tryz.isAgg9
  z9 := Tryz.sizeOf9
  v9 := Tryz.zeroValue9
  t46 := Tryz.underlying106
  a46 := Tryz.isAgg106
  z46 := Tryz.sizeOf106
  v46 := Tryz.zeroValue106
  t53 := Tryz.underlying23
  a53 := Tryz.isAgg23
  z53 := Tryz.sizeOf23
  v53 := Tryz.zeroValue23 }
theorem Tryz.bits_LeadingZeros64 (x : Int) (w : World) (h0 : 0 ≤ x) (h1 : x ≤ 18446744073709551615) :
    Calls Tryz.prog 74 #[.int .u64 x] w fun e w' => e = .returned (.int .i64 (64 - (Lib.bitLen x.toNat : Int))) ∧ w' = w := Any.bits_LeadingZeros64 Tryz.lays134 x w h0 h1
def Tryz.lays129_ren : Go.Shelf.Ren := ⟨fun | 129 => 82 | n => n, fun | 53 => 23 | 3 => 3 | 4 => 4 | 46 => 106 | 5 => 5 | 9 => 9 | n => n, fun | n => n⟩
theorem Tryz.lays129 : Go.Proofs.Lays.n129 Tryz.prog Tryz.lays129_ren := {
  mixed := by kernel_rfl
  f129 := Tryz.func82.trans (congrArg some (by kernel_rfl))
  t3 := Tryz.underlying3
  a3 := Tryz.isAgg3
  z3 := Tryz.sizeOf3
  v3 := Tryz.zeroValue3
  t4 := Tryz.underlying4
  a4 := Tryz.isAgg4
  z4 := Tryz.sizeOf4
  v4 := Tryz.zeroValue4
  t5 := Tryz.underlying5
  a5 := Tryz.isAgg5
  z5 := Tryz.sizeOf5
  v5 := Tryz.zeroValue5
  t9 := Tryz.underlying9
  a9 := Tryz.isAgg9
  z9 := Tryz.sizeOf9
  v9 := Tryz.zeroValue9
  t46 := Tryz.underlying106
  a46 := Tryz.isAgg106
  z46 := Tryz.sizeOf106
  v46 := Tryz.zeroValue106
  t53 := Tryz.underlying23
  a53 := Tryz.isAgg23
  z53 := Tryz.sizeOf23
  v53 := Tryz.zeroValue23 }
theorem Tryz.bits_Len64 (x : Int) (w : World) (h0 : 0 ≤ x) (h1 : x ≤ 18446744073709551615) :
    Calls Tryz.prog 82 #[.int .u64 x] w fun e w' => e = .returned (.int .i64 (Lib.bitLen x.toNat)) ∧ w' = w := Any.bits_Len64 Tryz.lays129 x w h0 h1
def Tryz.lays283_ren : Go.Shelf.Ren := ⟨fun | 283 => 99 | n => n, fun | 3 => 3 | 9 => 9 | 4 => 4 | n => n, fun | n => n⟩
theorem Tryz.lays283 : Go.Proofs.Lays.n283 Tryz.prog Tryz.lays283_ren := {
  mixed := by kernel_rfl
  f283 := Tryz.func99.trans (congrArg some (by kernel_rfl))
  t3 := Tryz.underlying3
  a3 := Tryz.isAgg3
  z3 := Tryz.sizeOf3
  v3 := Tryz.zeroValue3
  t4 := Tryz.underlying4
  a4 := Tryz.isAgg4
  z4 := Tryz.sizeOf4
  v4 := Tryz.zeroValue4
  t9 := Tryz.underlying9
  a9 := Tryz.isAgg9
  z9 := Tryz.sizeOf9
  v9 := Tryz.zeroValue9 }
open Go.Lib in
theorem Tryz.internal_strconv_small (i : Nat) (h : i < 100) (w : World) :
    Calls Tryz.prog 99 #[.int .i64 i] w fun e w' => e = .returned (.string ⟨(Lib.decDigits i).toArray⟩) ∧ w' = w := Any.internal_strconv_small Tryz.lays283 i h w
def Tryz.laysM284_ren : Go.Shelf.Ren := ⟨fun | 284 => 100 | 129 => 82 | 317 => 115 | 318 => 116 | n => n, fun | 53 => 23 | 3 => 3 | 212 => 155 | 0 => 0 | 4 => 4 | 46 => 106 | 5 => 5 | 9 => 9 | n => n, fun | 17 => 3 | n => n⟩
theorem Tryz.laysM284 : Go.Proofs.LaysM.n284 Tryz.prog Tryz.laysM284_ren := {
  mixed := by kernel_rfl
  f129 := Tryz.func82.trans (congrArg some (by kernel_rfl))
  f284 := Tryz.func100.trans (congrArg some (by kernel_rfl))
  f317 := Tryz.func115.trans (congrArg some (by kernel_rfl))
  f318 := Tryz.func116.trans (congrArg some (by kernel_rfl))
  t0 := Tryz.underlying0
  a0 := Tryz.isAgg0
  z0 := Tryz.sizeOf0
  v0 := Tryz.zeroValue0
  t3 := Tryz.underlying3
  a3 := Tryz.isAgg3
  z3 := Tryz.sizeOf3
  v3 := Tryz.zeroValue3
  t4 := Tryz.underlying4
  a4 := Tryz.isAgg4
  z4 := Tryz.sizeOf4
  v4 := Tryz.zeroValue4
  t5 := Tryz.underlying5
  a5 := Tryz.isAgg5
  z5 := Tryz.sizeOf5
  v5 := Tryz.zeroValue5
  t9 := Tryz.underlying9
  a9 := Tryz.isAgg9
  z9 := Tryz.sizeOf9
  v9 := Tryz.zeroValue9
  t46 := Tryz.underlying106
  a46 := Tryz.isAgg106
  z46 := Tryz.sizeOf106
  v46 := Tryz.zeroValue106
  t53 := Tryz.underlying23
  a53 := Tryz.isAgg23
  z53 := Tryz.sizeOf23
  v53 := Tryz.zeroValue23
  t212 := Tryz.underlying155
  a212 := Tryz.isAgg155
  z212 := Tryz.sizeOf155
  v212 := Tryz.zeroValue155
  g17 := by kernel_rfl
  i0 := by kernel_rfl
  i3 := by kernel_rfl
  i4 := by kernel_rfl
  i5 := by kernel_rfl
  i9 := by kernel_rfl
  i46 := by kernel_rfl
  i53 := by kernel_rfl
  i212 := by kernel_rfl
  m17 := by kernel_rfl }
open Go.Lib in
theorem Tryz.internal_strconv_numDigits (u : Nat) (h1 : 1 ≤ u) (h2 : u < 18446744073709551616) (w : World) (htab : Lib.TabIs Tryz.prog w "internal/strconv.uint64pow10" .u64 Lib.pow10Tab) :
    Calls Tryz.prog 100 #[.int .u64 u] w fun e w' => e = .returned (.int .i64 (Lib.nDigits u)) ∧ w' = w := Any.internal_strconv_numDigits Tryz.laysM284 u h1 h2 w htab
def Tryz.lays285_ren : Go.Shelf.Ren := ⟨fun | 285 => 101 | n => n, fun | 37 => 89 | 53 => 23 | 3 => 3 | 4 => 4 | 51 => 127 | 9 => 9 | 5 => 5 | 0 => 0 | n => n, fun | n => n⟩
theorem Tryz.lays285 : Go.Proofs.Lays.n285 Tryz.prog Tryz.lays285_ren := {
  mixed := by kernel_rfl
  f285 := Tryz.func101.trans (congrArg some (by kernel_rfl))
  t0 := Tryz.underlying0
  a0 := Tryz.isAgg0
  z0 := Tryz.sizeOf0
  v0 := Tryz.zeroValue0
  t3 := Tryz.underlying3
  a3 := Tryz.isAgg3
  z3 := Tryz.sizeOf3
  v3 := Tryz.zeroValue3
  t4 := Tryz.underlying4
  a4 := Tryz.isAgg4
  z4 := Tryz.sizeOf4
  v4 := Tryz.zeroValue4
  t5 := Tryz.underlying5
  a5 := Tryz.isAgg5
  z5 := Tryz.sizeOf5
  v5 := Tryz.zeroValue5
  t9 := Tryz.underlying9
  a9 := Tryz.isAgg9
  z9 := Tryz.sizeOf9
  v9 := Tryz.zeroValue9
  t37 := Tryz.underlying89
  a37 := Tryz.isAgg89
  z37 := Tryz.sizeOf89
  v37 := Tryz.zeroValue89
  t51 := Tryz.underlying127
  a51 := Tryz.isAgg127
  z51 := Tryz.sizeOf127
  v51 := Tryz.zeroValue127
  t53 := Tryz.underlying23
  a53 := Tryz.isAgg23
  z53 := Tryz.sizeOf23
  v53 := Tryz.zeroValue23 }
open Go.RowKit Go.Sort Go.Lib in
theorem Tryz.internal_strconv_formatBase10 (blk off cap : Nat) (u : Nat) (d : Array UInt8) (w : World) (hH : Holds (fun (b : UInt8) => Value.int .u8 (b.toNat : Int)) w blk off d) (hu : u < 10 ^ d.size) (hu64 : u < 18446744073709551616) (hsz : d.size < 4611686018427387904) :
    Calls Tryz.prog 101 #[.slice (some ⟨blk, off, none⟩) d.size cap, .int .u64 u] w fun e w' =>
      e = .returned (.tuple #[]) ∧ ∃ (n v' : Nat) (dk : Array UInt8), w' = (putRow (fun (b : UInt8) => Value.int .u8 (b.toNat : Int)) w blk off dk).drewN n ∧ FmtInv d.size u 0 v' dk := Any.internal_strconv_formatBase10 Tryz.lays285 blk off cap u d w hH hu hu64 hsz
def Tryz.lays264_ren : Go.Shelf.Ren := ⟨fun | 264 => 87 | n => n, fun | 53 => 23 | 46 => 106 | n => n, fun | n => n⟩
theorem Tryz.lays264 : Go.Proofs.Lays.n264 Tryz.prog Tryz.lays264_ren := {
  mixed := by kernel_rfl
  f264 := Tryz.func87.trans (congrArg some (by kernel_rfl))
  t46 := Tryz.underlying106
  a46 := Tryz.isAgg106
  z46 := Tryz.sizeOf106
  v46 := Tryz.zeroValue106
  t53 := Tryz.underlying23
  a53 := Tryz.isAgg23
  z53 := Tryz.sizeOf23
  v53 := Tryz.zeroValue23 }
open Go.RowKit Go.Lib in
theorem Tryz.bits_Mul64 (x y : Nat) (hx : x < 18446744073709551616) (hy : y < 18446744073709551616) (w : World) :
    Calls Tryz.prog 87 #[.int .u64 x, .int .u64 y] w fun e w' => e = .returned (.tuple #[.int .u64 ((x * y / 18446744073709551616 : Nat) : Int), .int .u64 ((x * y % 18446744073709551616 : Nat) : Int)]) ∧ w' = w := Any.bits_Mul64 Tryz.lays264 x y hx hy w
def Tryz.lays105_ren : Go.Shelf.Ren := ⟨fun | 105 => 59 | 212 => 77 | 99 => 78 | 165 => 79 | 166 => 57 | 170 => 80 | 169 => 60 | 263 => 103 | 264 => 87 | 206 => 104 | 240 => 75 | 241 => 105 | 276 => 98 | 277 => 119 | n => n, fun | 9 => 9 | 3 => 3 | 4 => 4 | 20 => 20 | 0 => 0 | 46 => 106 | 109 => 121 | 5 => 5 | 72 => 96 | 76 => 99 | 51 => 127 | 146 => 145 | 53 => 23 | 148 => 86 | 70 => 94 | 37 => 89 | 75 => 98 | 127 => 125 | 164 => 138 | 80 => 40 | n => n, fun | n => n⟩
theorem Tryz.lays105 : Go.Proofs.Lays.n105 Tryz.prog Tryz.lays105_ren := {
  mixed := by kernel_rfl
  f99 := Tryz.func78.trans (congrArg some (by kernel_rfl))
  f105 := Tryz.func59.trans (congrArg some (by kernel_rfl))
  f165 := Tryz.func79.trans (congrArg some (by kernel_rfl))
  f166 := Tryz.func57.trans (congrArg some (by kernel_rfl))
  f169 := Tryz.func60.trans (congrArg some (by kernel_rfl))
  f170 := Tryz.func80.trans (congrArg some (by kernel_rfl))
  f206 := Tryz.func104.trans (congrArg some (by kernel_rfl))
  f212 := Tryz.func77.trans (congrArg some (by kernel_rfl))
  f240 := Tryz.func75.trans (congrArg some (by kernel_rfl))
  f241 := Tryz.func105.trans (congrArg some (by kernel_rfl))
  f263 := Tryz.func103.trans (congrArg some (by kernel_rfl))
  f264 := Tryz.func87.trans (congrArg some (by kernel_rfl))
  f276 := Tryz.func98.trans (congrArg some (by kernel_rfl))
  f277 := Tryz.func119.trans (congrArg some (by kernel_rfl))
  t0 := Tryz.underlying0
  a0 := Tryz.isAgg0
  z0 := Tryz.sizeOf0
  v0 := Tryz.zeroValue0
  t3 := Tryz.underlying3
  a3 := Tryz.isAgg3
  z3 := Tryz.sizeOf3
  v3 := Tryz.zeroValue3
  t4 := Tryz.underlying4
  a4 := Tryz.isAgg4
  z4 := Tryz.sizeOf4
  v4 := Tryz.zeroValue4
  t5 := Tryz.underlying5
  a5 := Tryz.isAgg5
  z5 := Tryz.sizeOf5
  v5 := Tryz.zeroValue5
  t9 := Tryz.underlying9
  a9 := Tryz.isAgg9
  z9 := Tryz.sizeOf9
  v9 := Tryz.zeroValue9
  t20 := Tryz.underlying20
  a20 := Tryz.isAgg20
  z20 := Tryz.sizeOf20
  v20 := Tryz.zeroValue20
  t37 := Tryz.underlying89
  a37 := Tryz.isAgg89
  z37 := Tryz.sizeOf89
  v37 := Tryz.zeroValue89
  t46 := Tryz.underlying106
  a46 := Tryz.isAgg106
  z46 := Tryz.sizeOf106
  v46 := Tryz.zeroValue106
  t51 := Tryz.underlying127
  a51 := Tryz.isAgg127
  z51 := Tryz.sizeOf127
  v51 := Tryz.zeroValue127
  t53 := Tryz.underlying23
  a53 := Tryz.isAgg23
  z53 := Tryz.sizeOf23
  v53 := Tryz.zeroValue23
  t70 := Tryz.underlying94
  a70 := Tryz.isAgg94
  z70 := Tryz.sizeOf94
  v70 := Tryz.zeroValue94
  t72 := Tryz.underlying96
  a72 := Tryz.isAgg96
  z72 := Tryz.sizeOf96
  v72 := Tryz.zeroValue96
  t75 := Tryz.underlying98
  a75 := Tryz.isAgg98
  z75 := Tryz.sizeOf98
  v75 := Tryz.zeroValue98
  t76 := Tryz.underlying99
  a76 := Tryz.isAgg99
  z76 := Tryz.sizeOf99
  v76 := Tryz.zeroValue99
  t109 := Tryz.underlying121
  a109 := Tryz.isAgg121
  z109 := Tryz.sizeOf121
  v109 := Tryz.zeroValue121
  t127 := Tryz.underlying125
  a127 := Tryz.isAgg125
  z127 := Tryz.sizeOf125
  v127 := Tryz.zeroValue125
  t146 := Tryz.underlying145
  a146 := Tryz.isAgg145
  z146 := Tryz.sizeOf145
  v146 := Tryz.zeroValue145
  t148 := Tryz.underlying86
  a148 := Tryz.isAgg86
  z148 := Tryz.sizeOf86
  v148 := Tryz.zeroValue86
  t164 := Tryz.underlying138
  a164 := Tryz.isAgg138
  z164 := Tryz.sizeOf138
  v164 := Tryz.zeroValue138 }
theorem Tryz.Builder_Extra_105 : Builder.Extra Tryz.prog Tryz.lays105_ren := {
  sizeBuilder := by kernel_rfl
  liesBuilder := by kernel_rfl
  t5 := Tryz.underlying5
  a5 := Tryz.isAgg5
  z5 := Tryz.sizeOf5
  v5 := Tryz.zeroValue5
  infoByte := by kernel_rfl
  cellsByte := by kernel_rfl
  sizeByte := by kernel_rfl
  neB5 := by decide }
open Go.RowKit Go.Lib in
theorem Tryz.strings_Repeat (s : ByteArray) (c : Nat) (w : World) (hc : c ≤ 9223372036854775807) (hlen : s.size * c ≤ 140737488355328) :
    Calls Tryz.prog 59 #[.string s, .int .i64 c] w fun e w' => e = .returned (.string ⟨(Lib.repeatL s.data.toList c).toArray⟩) ∧ Below w.heap.size w w' := Any.strings_Repeat Tryz.lays105 Tryz.Builder_Extra_105 s c w hc hlen
end Go.Proofs.YtocfenjampmdlaaGreatDoor.B
