/- "Mul" of the reference: plain facts, and rows of ints. -/
/- "Mul" of the reference. -/
/- "Of" of the reference: the digits of words; and what the law calls of, Is and few. -/
/- What the laws call of, Is and few. -/
/- "DivMod" of the reference: quotient and rest by decimal digits. -/
/- "Gcd" of the reference. -/
/- What the law BigintGcds calls: numbers as the program and as the reference have them, and bigint's Gcd. -/
/- Whole numbers: quotients, towards 0 and downwards, and what is left. -/
/- Whole numbers: quotients downwards. -/
/- Whole numbers: division by 0, exact quotients, what is left of a word. -/
/- Numbers of three words, in the landed conv: what is left of one, and what one is times a word, and a word more. -/
/- A number of three words times a word, and a word more, in the landed conv. -/
import Derived.Test.YtocfenjampmdlabGreatDoorBRefe
import Derived.Deep.RegionHeld2
import Derived.Test.YtocfenjampmdlabGreatDoorBDig
import Derived.Test.YtocfenjampmdlabGreatDoorBBld
import Derived.Deep.Cut
import Derived.Deep.QuietTactic
import Derived.BigQuiet
import Derived.BigRegion
import Derived.Test.YtocfenjampmdlabGreatDoorQg
import Derived.Test.YtocfenjampmdlabGreatDoorBShelf
namespace Go.Proofs.YtocfenjampmdlabGreatDoor.B
open Go.RowKit NumB
open Go.Lib (decDigits)

/-- the sum of places, each times its power of ten. -/
def SV (S : Nat → Nat) : Nat → Nat
  | 0 => 0
  | n + 1 => SV S n + S n * 10 ^ n
def updN (S : Nat → Nat) (i v : Nat) : Nat → Nat := fun j => if j = i then v else S j
theorem SV_zero : ∀ n, SV (fun _ => 0) n = 0
  | 0 => rfl
  | n + 1 => by simp [SV, SV_zero n]
theorem SV_updN_ge (S : Nat → Nat) (i v : Nat) : ∀ n, n ≤ i → SV (updN S i v) n = SV S n
  | 0, _ => rfl
  | n + 1, h => by
    rw [SV, SV, SV_updN_ge S i v n (by omega)]
    simp only [updN]
    rw [if_neg (by omega)]
theorem SV_updN (S : Nat → Nat) (i d : Nat) : ∀ n, i < n → SV (updN S i (S i + d)) n = SV S n + d * 10 ^ i
  | 0, h => by omega
  | n + 1, h => by
    by_cases e : i = n
    · subst e
      rw [SV, SV, SV_updN_ge S i _ i (Nat.le_refl _)]
      simp only [updN]
      rw [if_pos trivial, Nat.add_mul]
      omega
    · rw [SV, SV, SV_updN S i d n (by omega)]
      simp only [updN]
      rw [if_neg (by omega)]
      omega
def MuRel (x y : List UInt8) (N i k : Nat) (S : Nat → Nat) : Prop := SV S N = low x i * dval y + dg x i * 10 ^ i * low y k ∧ (∀ j, S j ≤ 81 * (i + 1)) ∧ (∀ j, i + k ≤ j → S j ≤ 81 * i)
def MoRel (x y : List UInt8) (N i : Nat) (S : Nat → Nat) : Prop := SV S N = low x i * dval y ∧ (∀ j, S j ≤ 81 * i)
theorem MoRel.start (x y : List UInt8) (N : Nat) : MoRel x y N 0 (fun _ => 0) := ⟨by rw [SV_zero]; simp [low, lv], fun _ => Nat.zero_le _⟩
theorem MoRel.inner {x y : List UInt8} {N i : Nat} {S : Nat → Nat} (h : MoRel x y N i S) : MuRel x y N i 0 S :=
  ⟨by rw [h.1]; simp [low, lv], fun j => by have := h.2 j; omega, fun j _ => h.2 j⟩
theorem MuRel.outer {x y : List UInt8} {N i : Nat} {S : Nat → Nat} (h : MuRel x y N i y.length S) : MoRel x y N (i + 1) S := by
  refine ⟨?_, h.2.1⟩
  rw [h.1, low_all y _ (Nat.le_refl _), low_succ, Nat.add_mul, Nat.mul_comm (10 ^ i)]
theorem MuRel.step {x y : List UInt8} {N i k : Nat} {S : Nat → Nat} (h : MuRel x y N i k S) (hx : dg x i ≤ 9) (hy : dg y k ≤ 9) (hN : i + k < N) : MuRel x y N i (k + 1) (updN S (i + k) (S (i + k) + dg x i * dg y k)) := by
  obtain ⟨h1, h2, h3⟩ := h
  have hm : dg x i * dg y k ≤ 9 * 9 := Nat.mul_le_mul hx hy
  refine ⟨?_, fun j => ?_, fun j hj => ?_⟩
  · rw [SV_updN S _ _ N hN, h1, low_succ, Nat.pow_add]
    generalize 10 ^ i = p
    generalize 10 ^ k = q
    generalize dg x i = a
    generalize dg y k = b
    generalize low y k = z
    grind
  · simp only [updN]
    split
    · have := h3 (i + k) (Nat.le_refl _); omega
    · exact h2 j
  · simp only [updN]
    rw [if_neg (by omega)]
    exact h3 j (by omega)
def CaRel (S : Nat → Nat) (i c : Nat) (L : List UInt8) : Prop := Digs L ∧ L.length = i ∧ lv L + 10 ^ i * c = SV S i
theorem CaRel.step {S : Nat → Nat} {i c : Nat} {L : List UInt8} (h : CaRel S i c L) : CaRel S (i + 1) ((S i + c) / 10) (L ++ [UInt8.ofNat (48 + (S i + c) % 10)]) := by
  obtain ⟨h1, h2, h3⟩ := h
  refine ⟨digs_snoc h1 (by omega), by simp [h2], ?_⟩
  rw [lv_snoc, dig_nat (by omega), h2, SV, Nat.pow_succ, Nat.add_sub_cancel_left]
  generalize 10 ^ i = p at *
  obtain ⟨n, hn⟩ : ∃ n, n = S i + c := ⟨_, rfl⟩
  rw [← hn]
  have e1 : p * (n % 10) + p * 10 * (n / 10) = p * n := by
    have : p * n = p * (10 * (n / 10) + n % 10) := by rw [Nat.div_add_mod]
    rw [this]; grind
  have e2 : p * n = S i * p + p * c := by rw [hn]; grind
  omega
theorem CaRel.done {x y : List UInt8} {S : Nat → Nat} {c : Nat} {L : List UInt8} (hx : Digs x) (hy : Digs y) (h : CaRel S (x.length + y.length + 1) c L) (hS : SV S (x.length + y.length + 1) = dval x * dval y) : lv L = dval x * dval y := by
  obtain ⟨h1, h2, h3⟩ := h
  rw [hS] at h3
  have bx := dval_lt x hx
  have bz := dval_lt y hy
  have hb : dval x * dval y < 10 ^ (x.length + y.length + 1) := by
    rw [Nat.pow_succ, Nat.pow_add]
    have h4 : dval x * dval y ≤ 10 ^ x.length * 10 ^ y.length := Nat.mul_le_mul (by omega) (by omega)
    have h5 : 0 < 10 ^ x.length * 10 ^ y.length := Nat.mul_pos (Nat.pow_pos (by decide)) (Nat.pow_pos (by decide))
    omega
  generalize 10 ^ (x.length + y.length + 1) = p at *
  by_cases hc : c = 0
  · subst hc; omega
  · have : p * 1 ≤ p * c := Nat.mul_le_mul_left _ (by omega)
    omega

/-- block g holds n ints. -/
def RowI (w : World) (g n : Nat) (S : Nat → Nat) : Prop :=
  ∃ cur : Array Value, w.heap[g]? = some (.cells cur 3 (0, 0)) ∧ cur.size = n ∧ ∀ j, j < n → cur[j]? = some (.int .i64 (S j : Int))
theorem RowI.lt {w : World} {g n : Nat} {S : Nat → Nat} (h : RowI w g n S) : g < w.heap.size := by
  obtain ⟨cur, hg, _⟩ := h
  exact (Array.getElem?_eq_some_iff.1 hg).1
theorem RowI.cell {w : World} {g n : Nat} {S : Nat → Nat} (h : RowI w g n S) {i : Nat} (hi : i < n) : w.cell? ⟨g, i, none⟩ = some (.int .i64 (S i : Int)) := by
  obtain ⟨cur, hg, _, hc⟩ := h
  simp [World.cell?, hg, hc i hi]
theorem RowI.frozen {w : World} {g n : Nat} {S : Nat → Nat} (h : RowI w g n S) (i : Nat) : w.frozen? ⟨g, i, none⟩ = false := by
  obtain ⟨cur, hg, _, hc⟩ := h
  simp [World.frozen?, hg]
theorem RowI.set {w : World} {g n : Nat} {S : Nat → Nat} (h : RowI w g n S) (i v : Nat) : RowI (w.setCell ⟨g, i, none⟩ (.int .i64 (v : Int))) g n (updN S i v) := by
  obtain ⟨cur, hg, hs, hc⟩ := h
  refine ⟨cur.setIfInBounds i (.int .i64 (v : Int)), ?_, by simpa using hs, fun j hj => ?_⟩
  · rw [heap_setCell_same w g i cur 3 _ hg]
  · by_cases e : j = i
    · subst e; rw [Array.getElem?_setIfInBounds]; simp [hs, hj, updN]
    · rw [Array.getElem?_setIfInBounds]; simp [Ne.symm e, updN, e, hc j hj]
theorem RowI.below {B k n : Nat} {S : Nat → Nat} {w w' : World} (h : Below B w w') (hk : k < B) (r : RowI w k n S) : RowI w' k n S := by
  obtain ⟨cur, hg, hs, hc⟩ := r
  exact ⟨cur, by rw [h.block k hk]; exact hg, hs, hc⟩
end Go.Proofs.YtocfenjampmdlabGreatDoor.B
namespace Go.Proofs.YtocfenjampmdlabGreatDoor.B
open Go.RowKit NumB
open Go.Lib (decDigits)
theorem Tryz.info3 : (Tryz.prog.info? 3).map (fun i => (i.zero, i.size, i.bytes)) = some (some (.int .i64 0), 1, 8) := by kernel_rfl
theorem RowI.new (w : World) (n : Nat) : RowI (w.alloc (.cells (madeCells #[.int .i64 0] (n * 1)) 3)) w.heap.size n (fun _ => 0) := by
  refine ⟨madeCells #[.int .i64 0] (n * 1), ?_, by simp [size_madeCells], fun j hj => ?_⟩
  · exact heap_alloc_new w _
  · simp [madeCells, hj, Nat.mod_one]
end Go.Proofs.YtocfenjampmdlabGreatDoor.B
namespace Go.Proofs.YtocfenjampmdlabGreatDoor.B
open Go.RowKit NumB
open Go.Lib (decDigits)
theorem len_of {u k : Nat} (h : (u : Int) < P k) : (decDigits u).length ≤ 20 * k + 1 := by
  have h2 := P_le_pow k
  have h3 : u < 10 ^ (20 * k + 1) := by
    rw [Nat.pow_succ]
    omega
  exact len_dec u _ (by omega) h3
theorem V_head (x : Nat → Int) (o n : Nat) : V x o (n + 1) = x o + 18446744073709551616 * V x (o + 1) n := by
  have h := V_split x o 1 n
  rw [Nat.add_comm n 1, h]
  simp [V, P]
def big64 : ByteArray := ⟨#[49, 56, 52, 52, 54, 55, 52, 52, 48, 55, 51, 55, 48, 57, 53, 53, 49, 54, 49, 54]⟩
theorem big64_val : dval big64.data.toList = 18446744073709551616 := by decide
theorem big64_digs : Digs big64.data.toList := by
  intro c hc
  have : (big64.data.toList.all fun c => decide (48 ≤ c.toNat ∧ c.toNat ≤ 57)) = true := by decide
  have := List.all_eq_true.1 this c hc
  simpa using this
theorem digs_dt (u : Nat) : Digs (dt u).data.toList := digs_dec u
theorem dval_dt (u : Nat) : dval (dt u).data.toList = u := dval_dec u
theorem dt0 : dt 0 = ⟨#[48]⟩ := by
  refine bytes_eq ?_
  rw [dt_list, dec_small (by decide)]; rfl
end Go.Proofs.YtocfenjampmdlabGreatDoor.B
namespace Go.Proofs.YtocfenjampmdlabGreatDoor.B
open Go.RowKit NumB
open Go.Lib (decDigits)
theorem Nt.shape {w : World} {v : Value} {k : Nat} {a : Int} (h : Nt w v k a) : ∃ ao cap, v = .slice ao k cap := by
  obtain ⟨x, o, ⟨ao, cap, rfl, -⟩, -⟩ := h; exact ⟨ao, cap, rfl⟩
theorem Nz.shape {w : World} {v : Value} {k : Nat} {a : Int} (h : Nz w v k a) : ∃ ao cap, v = .slice ao k cap := by
  obtain ⟨x, o, ⟨ao, cap, rfl, -⟩, -⟩ := h; exact ⟨ao, cap, rfl⟩
end Go.Proofs.YtocfenjampmdlabGreatDoor.B
namespace Go.Proofs.YtocfenjampmdlabGreatDoor.B
open Go.RowKit NumB
open Go.Lib (decDigits)
theorem own_below {base n : Nat} {e : TypeId} {v : Value} {xs : List Value} {w w' : World} (h : w.ownsRow base e 1 v n xs) (o : Below w.heap.size w w') : w'.ownsRow base e 1 v n xs := by
  refine ⟨h.1, ?_⟩
  rcases h.2 with h0 | ⟨g', cap, cur, rfl, hb, hg', h1, h2, h3, h4⟩
  · exact Or.inl h0
  · refine Or.inr ⟨g', cap, cur, rfl, hb, ?_, h1, h2, h3, h4⟩
    rw [o.block g' (Array.getElem?_eq_some_iff.1 hg').1]; exact hg'
def DvRel (x : List UInt8) (b i r : Nat) (L : List UInt8) : Prop := Digs L ∧ L.length = i ∧ dval (x.take i) = dval L * b + r
theorem DvRel.step {x : List UInt8} {b i r n s : Nat} {c : UInt8} {L : List UInt8} (h : DvRel x b i r L) (hi : x.take (i + 1) = x.take i ++ [c]) (hs : s + n * b = 10 * r + (c.toNat - 48)) (hn : n ≤ 9) : DvRel x b (i + 1) s (L ++ [UInt8.ofNat (48 + n)]) := by
  obtain ⟨h1, h2, h3⟩ := h
  refine ⟨digs_snoc h1 (by omega), by simp [h2], ?_⟩
  rw [hi, dval_snoc, h3, dval_snoc, dig_nat (by omega), Nat.add_sub_cancel_left]
  have e1 : 10 * (dval L * b + r) = 10 * dval L * b + 10 * r := by rw [Nat.mul_add, Nat.mul_assoc]
  have e2 : (10 * dval L + n) * b = 10 * dval L * b + n * b := Nat.add_mul _ _ _
  omega
theorem DvRel.done {x : List UInt8} {b r : Nat} {L : List UInt8} (h : DvRel x b x.length r L) (hr : r < b) : dval L = dval x / b ∧ r = dval x % b := by
  obtain ⟨_, _, h3⟩ := h
  rw [List.take_of_length_le (Nat.le_refl _)] at h3
  have hb : 0 < b := by omega
  rw [h3]
  constructor
  · rw [Nat.mul_comm, Nat.mul_add_div hb, Nat.div_eq_of_lt hr]; omega
  · rw [Nat.mul_comm, Nat.mul_add_mod, Nat.mod_eq_of_lt hr]
def nOf : Value → Nat
  | .string s => dval s.data.toList
  | _ => 0
theorem nOf_dt (s : Nat) : nOf (.string (dt s)) = s := dval_dt s
theorem ext_one (x : ByteArray) (i : Nat) (h : i < x.size) : (x.extract i (i + 1)).data.toList = [x[i]] := by
  have h0 : (x.extract i (i + 1)).data = x.data.extract i (i + 1) := by simp
  rw [h0, Array.toList_extract]
  have hl : x.data.toList.length = x.size := rfl
  simp only [List.extract_eq_take_drop, Nat.add_sub_cancel_left]
  rw [List.drop_eq_getElem_cons (by omega)]
  rfl
theorem cat_list (a b : ByteArray) : (a ++ b).data.toList = a.data.toList ++ b.data.toList := by simp
end Go.Proofs.YtocfenjampmdlabGreatDoor.B
namespace Go.Proofs.YtocfenjampmdlabGreatDoor.B
open Go.RowKit NumB
open Go.Lib (decDigits)
/-- the number of a text of digits. -/
def strNum : Value → Nat
  | .string s => dval s.data.toList
  | _ => 0
theorem strNum_dt (q : Nat) : strNum (.string (dt q)) = q := dval_dt q
end Go.Proofs.YtocfenjampmdlabGreatDoor.B
namespace Go.Proofs.YtocfenjampmdlabGreatDoor.B
open Go.RowKit NumB
open Go.Lib (decDigits)

theorem Blk.two {w : World} {g : Nat} {a b : Value} {t : TypeId} (h : Blk w g #[a, b] t) :
    w.cell? ⟨g, 0, none⟩ = some a ∧ w.cell? ⟨g, 1, none⟩ = some b ∧ w.frozen? ⟨g, 0, none⟩ = false ∧ w.frozen? ⟨g, 1, none⟩ = false ∧ g < w.heap.size := by
  have hl := Blk.lt h
  unfold Blk at h
  refine ⟨?_, ?_, ?_, ?_, hl⟩
  · simp only [World.cell?, h]; rfl
  · simp only [World.cell?, h]; rfl
  · simp only [World.frozen?, h]; rfl
  · simp only [World.frozen?, h]; rfl
theorem Blk.set2 {w : World} {g : Nat} {a b a' b' : Value} {t : TypeId} (h : Blk w g #[a, b] t) : Blk ((w.setCell ⟨g, 0, none⟩ a').setCell ⟨g, 1, none⟩ b') g #[a', b'] t := by
  unfold Blk at *
  have e1 := heap_setCell_same w g 0 _ _ a' h
  rw [heap_setCell_same _ g 1 _ _ b' e1]
  rfl
theorem Blk.go2 {w w' : World} {g : Nat} {cs : Array Value} {t : TypeId} (h : Blk w g cs t) (b : Below w.heap.size w w') : Blk w' g cs t := h.below b (Blk.lt h)
theorem Nz.numAbs {w : World} {p : Bool} {ao : Option Addr} {k c n : Nat} {A : Int} (h : It w (.agg #[.bool p, .slice ao k c]) n A) : Nz w (.slice ao k c) k A.natAbs ∧ k ≤ n := by
  obtain ⟨neg, ao', k', cap, a, e, h1, h2, rfl, _, h5⟩ := h
  simp at e
  obtain ⟨rfl, rfl, rfl, rfl⟩ := e
  have ea : ((sg p a).natAbs : Int) = a := by cases p <;> simp [sg] <;> omega
  rw [ea]
  exact ⟨h1, h2⟩
end Go.Proofs.YtocfenjampmdlabGreatDoor.B
namespace Go.Proofs.YtocfenjampmdlabGreatDoor.B
open Go.RowKit NumB

/-- what a quotient towards 0 is. -/
def QuoIs (A B Q R : Int) : Prop := Q * B + R = A ∧ R.natAbs < B.natAbs ∧ (R = 0 ∨ (R < 0 ↔ A < 0))
/-- what a quotient downwards is. -/
def DivIs (A B Q R : Int) : Prop := Q * B + R = A ∧ R.natAbs < B.natAbs ∧ (R = 0 ∨ (R < 0 ↔ B < 0))
theorem quo_is (p p' : Bool) (a b q r : Int) (ha : 0 ≤ a) (hb : 0 < b) (h : q * b + r = a) (h0 : 0 ≤ r) (h1 : r < b) (hq : 0 ≤ q) (hp : p = true → a ≠ 0) : QuoIs (sg p a) (sg p' b) (sg (p != p') q) (sg p r) := by
  have hqb : 0 ≤ q * b := Int.mul_nonneg hq (by omega)
  refine ⟨?_, ?_, ?_⟩
  · rw [sg_mul]
    have : ((p != p') != p') = p := by cases p <;> cases p' <;> rfl
    rw [this]
    cases p <;> simp [sg] <;> omega
  · cases p <;> cases p' <;> simp [sg] <;> omega
  · by_cases hr : r = 0
    · left; rw [hr]; cases p <;> rfl
    · right
      cases p
      · simp [sg]; omega
      · have := hp rfl; simp [sg]; omega
theorem div_same {A B Q R : Int} (h : QuoIs A B Q R) (hs : R = 0 ∨ (R < 0 ↔ B < 0)) : DivIs A B Q R := ⟨h.1, h.2.1, hs⟩
theorem div_turn {A B Q R : Int} (h : QuoIs A B Q R) (hr : R ≠ 0) (hs : ¬ (R < 0 ↔ B < 0)) : DivIs A B (Q - 1) (R + B) := by
  obtain ⟨h1, h2, _⟩ := h
  refine ⟨?_, ?_, ?_⟩
  · rw [Int.sub_mul]; omega
  · omega
  · right; omega
theorem undrew {B : Nat} {a w : World} (h : Below B a.drew w) : Below B a w := ⟨h.os, h.tape, h.output, h.size, h.block⟩
theorem Nz.pos {w : World} {v : Value} {k : Nat} {a : Int} (h : Nz w v k a) : 0 ≤ a := h.nt.nonneg


theorem entry22 (w : World) (neg : Bool) (ao : Option Addr) (k cap : Nat) (neg' : Bool) (ao' : Option Addr) (k' cap' : Nat) :
    Var ((((w.alloc (.cells #[.bool neg, .slice ao k cap] 42)).alloc (.cells #[.bool neg', .slice ao' k' cap'] 42)).alloc (.cells #[.bool false, .slice none 0 0] 42)).alloc (.cells #[.bool false, .slice none 0 0] 42)) w.heap.size neg ao k cap ∧ Var ((((w.alloc (.cells #[.bool neg, .slice ao k cap] 42)).alloc (.cells #[.bool neg', .slice ao' k' cap'] 42)).alloc (.cells #[.bool false, .slice none 0 0] 42)).alloc (.cells #[.bool false, .slice none 0 0] 42)) (w.heap.size + 1) neg' ao' k' cap' ∧ Var ((((w.alloc (.cells #[.bool neg, .slice ao k cap] 42)).alloc (.cells #[.bool neg', .slice ao' k' cap'] 42)).alloc (.cells #[.bool false, .slice none 0 0] 42)).alloc (.cells #[.bool false, .slice none 0 0] 42)) (w.heap.size + 2) false none 0 0 ∧ Var ((((w.alloc (.cells #[.bool neg, .slice ao k cap] 42)).alloc (.cells #[.bool neg', .slice ao' k' cap'] 42)).alloc (.cells #[.bool false, .slice none 0 0] 42)).alloc (.cells #[.bool false, .slice none 0 0] 42)) (w.heap.size + 3) false none 0 0 ∧ Below w.heap.size w ((((w.alloc (.cells #[.bool neg, .slice ao k cap] 42)).alloc (.cells #[.bool neg', .slice ao' k' cap'] 42)).alloc (.cells #[.bool false, .slice none 0 0] 42)).alloc (.cells #[.bool false, .slice none 0 0] 42)) := by
  obtain ⟨h1, h2, h3, h4⟩ := entry2 w neg ao k cap neg' ao' k' cap'
  exact ⟨h1.alloc _, h2.alloc _, h3.alloc _, by simpa using var_mk (((w.alloc (.cells #[.bool neg, .slice ao k cap] 42)).alloc (.cells #[.bool neg', .slice ao' k' cap'] 42)).alloc (.cells #[.bool false, .slice none 0 0] 42)) false none 0 0, bt h4 (below_new _ _)⟩

end Go.Proofs.YtocfenjampmdlabGreatDoor.B
namespace Go.Proofs.YtocfenjampmdlabGreatDoor.B
open Go.RowKit NumB

theorem sgn_ne {R : Int} (h : R ≠ 0) : (sgn R != 0) = true := by
  unfold sgn
  by_cases h1 : R < 0
  · rw [if_pos h1]; rfl
  · rw [if_neg h1, if_neg h]; rfl
theorem It.sign {w : World} {p : Bool} {ao : Option Addr} {k cap n : Nat} {A : Int} (h : It w (.agg #[.bool p, .slice ao k cap]) n A) : p = decide (A < 0) := by
  obtain ⟨neg, ao', k', cap', a, e, h1, h2, rfl, h4, h5⟩ := h
  simp only [Value.agg.injEq, Array.mk.injEq, List.cons.injEq, Value.bool.injEq] at e
  obtain ⟨rfl, -⟩ := e
  cases p
  · simp [sg]; omega
  · have := h4 rfl; simp [sg]; omega
theorem Var.drew {w : World} {g : Nat} {p : Bool} {ao : Option Addr} {n c : Nat} (h : Var w g p ao n c) : Var w.drew g p ao n c := h
theorem pair (w : World) (p : Bool) (ao : Option Addr) (n c : Nat) (q : Bool) (bo : Option Addr) (m d : Nat) :
    Var ((w.alloc (.cells #[.bool p, .slice ao n c] 42)).alloc (.cells #[.bool q, .slice bo m d] 42)) w.heap.size p ao n c ∧
    Var ((w.alloc (.cells #[.bool p, .slice ao n c] 42)).alloc (.cells #[.bool q, .slice bo m d] 42)) (w.heap.size + 1) q bo m d ∧
    Below w.heap.size w ((w.alloc (.cells #[.bool p, .slice ao n c] 42)).alloc (.cells #[.bool q, .slice bo m d] 42)) :=
  ⟨(var_mk w p ao n c).alloc _, by simpa using var_mk (w.alloc (.cells #[.bool p, .slice ao n c] 42)) q bo m d, bt (below_new w _) (below_new _ _)⟩
/-- what the two variables hold ahead of the return. -/
def DM (w : World) (gq gl n m : Nat) (Q R : Int) (w' : World) : Prop :=
  ∃ p1 ao1 k1 c1 p2 ao2 k2 c2, Var w' gq p1 ao1 k1 c1 ∧ Var w' gl p2 ao2 k2 c2 ∧ Var w' (w.heap.size + 2) false none 0 0 ∧ Var w' (w.heap.size + 3) false none 0 0 ∧
    It w' (.agg #[.bool p1, .slice ao1 k1 c1]) (n + 2) Q ∧ It w' (.agg #[.bool p2, .slice ao2 k2 c2]) (max n m + 1) R ∧ Below w.heap.size w w'
end Go.Proofs.YtocfenjampmdlabGreatDoor.B
namespace Go.Proofs.YtocfenjampmdlabGreatDoor.B
open Go.RowKit NumB

theorem sgn_nz {R : Int} (h : R ≠ 0) : ¬ sgn R = 0 := by
  unfold sgn
  by_cases h1 : R < 0
  · rw [if_pos h1]; decide
  · rw [if_neg h1, if_neg h]; decide
theorem it_zero (w : World) : It w (.agg #[.bool false, .slice none 0 0]) 0 0 := by
  exact ⟨false, none, 0, 0, 0, rfl, nil_nz w, Nat.le_refl _, rfl, (fun h => by cases h), Int.le_refl _⟩
/-- what is left of A, from 0 on, divided by f. -/
def ModIs (A f r : Int) : Prop := 0 ≤ r ∧ r < f ∧ ∃ q, q * f + r = A
end Go.Proofs.YtocfenjampmdlabGreatDoor.B
namespace Go.Proofs.YtocfenjampmdlabGreatDoor
open Go.RowKit Num Nmb

/-- block g holds three words. -/
def W3 (w : World) (g : Nat) (t : TypeId) (X : Nat → Int) : Prop := w.heap[g]? = some (.cells #[.int .u64 (X 0), .int .u64 (X 1), .int .u64 (X 2)] t (0, 0))
theorem W3.lt {w : World} {g : Nat} {t : TypeId} {X : Nat → Int} (h : W3 w g t X) : g < w.heap.size := (Array.getElem?_eq_some_iff.1 h).1
theorem W3.cell {w : World} {g : Nat} {t : TypeId} {X : Nat → Int} (h : W3 w g t X) {i : Nat} (hi : i < 3) : w.cell? ⟨g, i, none⟩ = some (.int .u64 (X i)) := by
  unfold W3 at h
  match i, hi with
  | 0, _ => simp only [World.cell?, h]; rfl
  | 1, _ => simp only [World.cell?, h]; rfl
  | 2, _ => simp only [World.cell?, h]; rfl
theorem W3.frozen {w : World} {g : Nat} {t : TypeId} {X : Nat → Int} (h : W3 w g t X) (i : Nat) : w.frozen? ⟨g, i, none⟩ = false := by
  unfold W3 at h; simp only [World.frozen?, h]; rfl
theorem W3.drew {w : World} {g : Nat} {t : TypeId} {X : Nat → Int} (h : W3 w g t X) (n : Nat) : W3 (w.drewN n) g t X := by unfold W3 at *; simpa using h
theorem W3.below {B : Nat} {w w' : World} {g : Nat} {t : TypeId} {X : Nat → Int} (h : W3 w g t X) (hb : Below B w w') (hg : g < B) : W3 w' g t X := by unfold W3; rw [hb.block g hg]; exact h
theorem W3.other {w : World} {g b : Nat} {t : TypeId} {X : Nat → Int} (h : W3 w g t X) (hg : g ≠ b) (i : Nat) (v : Value) : W3 (w.setCell ⟨b, i, none⟩ v) g t X := by
  unfold W3; rw [heap_setCell_other w ⟨b, i, none⟩ g v hg]; exact h
theorem W3.set {w : World} {g : Nat} {t : TypeId} {X : Nat → Int} (h : W3 w g t X) {i : Nat} (hi : i < 3) (v : Int) : W3 (w.setCell ⟨g, i, none⟩ (.int .u64 v)) g t (fun j => if j = i then v else X j) := by
  unfold W3 at *
  rw [heap_setCell_same w g i _ t _ h]
  match i, hi with
  | 0, _ => rfl
  | 1, _ => rfl
  | 2, _ => rfl
theorem W3.eq {w : World} {g : Nat} {t : TypeId} {X Y : Nat → Int} (h : W3 w g t X) (e : ∀ j, j < 3 → X j = Y j) : W3 w g t Y := by
  unfold W3 at *; rw [h, e 0 (by omega), e 1 (by omega), e 2 (by omega)]
theorem W3.new (w : World) (t : TypeId) (X : Nat → Int) : W3 (w.alloc (.cells #[.int .u64 (X 0), .int .u64 (X 1), .int .u64 (X 2)] t)) w.heap.size t X := heap_alloc_new w _
/-- the number of the k highest words. -/
def hk (X : Nat → Int) : Nat → Int
  | 0 => 0
  | k + 1 => X (2 - k) + 18446744073709551616 * hk X k
/-- the number of three words. -/
def hvw (X : Nat → Int) : Int := X 0 + 18446744073709551616 * (X 1 + 18446744073709551616 * X 2)
theorem hk_three (X : Nat → Int) : hk X 3 = hvw X := by
  show X 0 + 18446744073709551616 * (X 1 + 18446744073709551616 * (X 2 + 18446744073709551616 * 0)) = _
  unfold hvw; omega
theorem below_new' (w : World) (o : Obj) : Below w.heap.size w (w.alloc o) := (Below.refl _ _).alloc (Nat.le_refl _) o
set_option maxHeartbeats 800000 in
theorem wleft_any (X : Nat → Int) (m : Int) (w : World) (hX : ∀ j, j < 3 → 0 ≤ X j ∧ X j ≤ 18446744073709551615) (hm : 1 ≤ m ∧ m ≤ 18446744073709551615) :
    Calls Tryz.prog 16 #[.agg #[.int .u64 (X 0), .int .u64 (X 1), .int .u64 (X 2)], .int .u64 m] w fun e w' => e = .returned (.int .u64 (hvw X % m)) ∧ Below w.heap.size w w' := by
  have HX := hid hX
  have N0 := hid (W3.new w 48 X)
  have B0 := hid (below_new' w (.cells #[.int .u64 (X 0), .int .u64 (X 1), .int .u64 (X 2)] 48))
  have T3 := hid (hk_three X)
  have RC : Hid (∀ k, hk X (k + 1) = X (2 - k) + 18446744073709551616 * hk X k) := fun _ => rfl
  clear hX
  go_enter Tryz.func16, Tryz.ntmps16
  go_wp2
  go_loopw [6, 5] (fun iv zv wr => ∃ (k : Nat) (z : Int), iv = .int .i64 (2 - (k : Int)) ∧ zv = .int .u64 z ∧ k ≤ 3 ∧ 0 ≤ z ∧ z < m ∧ Hid (z = hk X k % m) ∧ Hid (W3 wr w.heap.size 48 X) ∧ Hid (Below w.heap.size w wr)) (fun iv _ _ => (intOf iv + 1).toNat)
  case atStart => exact ⟨0, 0, rfl, rfl, by omega, by omega, by omega, by show (0 : Int) = 0 % m; rw [Int.zero_emod], N0.out, B0.out⟩
  case round =>
    obtain ⟨k, z, rfl, rfl, hk3, hz0, hz1, HZ, HW, HB⟩ := hrel
    by_cases k3 : k = 3
    · subst k3
      have E : Hid (z = hvw X % m) := by rw [← T3.out]; exact HZ.out
      clear HX N0 B0 T3 RC HZ HW
      go_wp2
      go_ret
      exact ⟨ret_int E.out, HB.out⟩
    · obtain ⟨i, hi, hi3⟩ : ∃ i : Nat, 2 - (k : Int) = (i : Int) ∧ i = 2 - k := ⟨2 - k, by omega, rfl⟩
      have cl := HW.out.cell (i := i) (by omega)
      have vx := HX.out i (by omega)
      have D := div64_any z (X i) m wr hz0 vx.1 vx.2 hz1 hm.2
      have e1 : dr z (X i) m = hk X (k + 1) % m := by
        unfold dr
        rw [RC.out k, ← hi3, HZ.out, Int.add_comm, Int.mul_comm, Int.add_emod, Int.mul_emod, Int.emod_emod_of_dvd _ (Int.dvd_refl _), ← Int.mul_emod, ← Int.add_emod]
      have b1 : 0 ≤ dr z (X i) m ∧ dr z (X i) m < m := ⟨Int.emod_nonneg _ (by omega), Int.emod_lt_of_pos _ (by omega)⟩
      have E1 := hid e1
      have DD := hid D
      have hil : (i : Int) < 3 := by omega
      have hk' : Hid (2 - ((k + 1 : Nat) : Int) = (i : Int) - 1) := by show _ = _; omega
      have W2 : Hid (∀ q, W3 (wr.drewN q) w.heap.size 48 X) := fun q => HW.out.drew q
      have B2 : Hid (∀ q, Below w.heap.size w (wr.drewN q)) := fun q => below_drewN HB.out q
      rw [hi]
      clear D e1 N0 B0 T3 RC HZ HW HB HX hi3 hi
      generalize dr z (X i) m = r at *
      generalize X i = xi at *
      go_wp2_with fail
      refine DD.out.mono ?_
      rintro e w2 ⟨rfl, q, rfl⟩
      clear DD cl
      go_wp2
      exact ⟨⟨k + 1, r, by rw [hk'.out], rfl, by omega, b1.1, b1.2, E1, W2.out q, B2.out q⟩, by simp only [intOf]; omega⟩
/-- the number of the k lowest words. -/
def lk (X : Nat → Int) : Nat → Int
  | 0 => 0
  | k + 1 => lk X k + X k * 18446744073709551616 ^ k
theorem lk_three (X : Nat → Int) : lk X 3 = hvw X := by
  show 0 + X 0 * 18446744073709551616 ^ 0 + X 1 * 18446744073709551616 ^ 1 + X 2 * 18446744073709551616 ^ 2 = _
  rw [show (18446744073709551616 : Int) ^ 0 = 1 from rfl, show (18446744073709551616 : Int) ^ 1 = 18446744073709551616 from rfl, show (18446744073709551616 : Int) ^ 2 = 340282366920938463463374607431768211456 from by decide]
  unfold hvw; omega
/-- one step of the product: the word x times b, and c more. -/
theorem step_said {x b c : Int} (hx : 0 ≤ x ∧ x ≤ 18446744073709551615) (hb : 0 ≤ b ∧ b ≤ 18446744073709551615) (hc : 0 ≤ c ∧ c ≤ 18446744073709551615) :
    0 ≤ (x * b + c) / 18446744073709551616 ∧ (x * b + c) / 18446744073709551616 ≤ 18446744073709551615 ∧ 0 ≤ (x * b + c) % 18446744073709551616 ∧ (x * b + c) % 18446744073709551616 ≤ 18446744073709551615 ∧
    0 ≤ x * b / 18446744073709551616 ∧ x * b / 18446744073709551616 ≤ 18446744073709551614 ∧ 0 ≤ x * b % 18446744073709551616 ∧ x * b % 18446744073709551616 ≤ 18446744073709551615 ∧
    (x * b % 18446744073709551616 + c) % 18446744073709551616 = (x * b + c) % 18446744073709551616 ∧ x * b / 18446744073709551616 + (x * b % 18446744073709551616 + c) / 18446744073709551616 = (x * b + c) / 18446744073709551616 := by
  have h1 := Int.mul_le_mul hx.2 hb.2 hb.1 (by omega)
  have h2 := Int.mul_nonneg hx.1 hb.1
  generalize x * b = p at *
  omega
end Go.Proofs.YtocfenjampmdlabGreatDoor
namespace Go.Proofs.YtocfenjampmdlabGreatDoor
open Go.RowKit Num Nmb

theorem W3.store {w : World} {g : Nat} {t : TypeId} {X : Nat → Int} (h : W3 w g t X) (Y : Nat → Int) :
    W3 (((w.setCell ⟨g, 0, none⟩ (.int .u64 (Y 0))).setCell ⟨g, 1, none⟩ (.int .u64 (Y 1))).setCell ⟨g, 2, none⟩ (.int .u64 (Y 2))) g t Y :=
  (((h.set (i := 0) (by omega) (Y 0)).set (i := 1) (by omega) (Y 1)).set (i := 2) (by omega) (Y 2)).eq fun j hj => by
    match j, hj with
    | 0, _ => rfl
    | 1, _ => rfl
    | 2, _ => rfl
theorem ret_w3 {fn : Func} {tmps : Array Value} {w : World} {t : Tmp} {g : Nat} {X : Nat → Int} (h3 : W3 w g 48 X) (h : fn.results = #[.cell t 48]) (ht : tmps[t]?.getD undef = .pointer (some ⟨g, 0, none⟩)) :
    (results fn tmps).run Tryz.prog w = .ok (.agg #[.int .u64 (X 0), .int .u64 (X 1), .int .u64 (X 2)]) w := by
  have c0 := h3.cell (i := 0) (by omega)
  have c1 := h3.cell (i := 1) (by omega)
  have c2 := h3.cell (i := 2) (by omega)
  simp [results, h, go_sem, ht, c0, c1, c2]
theorem index_w3 (X : Nat → Int) {i : Nat} (hi : i < 3) (w : World) : (Instr.index 48 (.agg #[.int .u64 (X 0), .int .u64 (X 1), .int .u64 (X 2)]) (.int .i64 (i : Int))).run Tryz.prog w = .ok (.int .u64 (X i)) w := by
  match i, hi with
  | 0, _ => simp [Instr.index, run_underlying Tryz.underlying48, asIntOf, part, go_sem]
  | 1, _ => simp [Instr.index, run_underlying Tryz.underlying48, asIntOf, part, go_sem]
  | 2, _ => simp [Instr.index, run_underlying Tryz.underlying48, asIntOf, part, go_sem]
theorem lk_eq {X Y : Nat → Int} : ∀ k, (∀ j, j < k → X j = Y j) → lk X k = lk Y k
  | 0, _ => rfl
  | k + 1, h => by
    show lk X k + X k * _ = lk Y k + Y k * _
    rw [lk_eq k (fun j hj => h j (by omega)), h k (by omega)]
set_option maxHeartbeats 1600000 in
theorem wtimes_any (X : Nat → Int) (b c : Int) (w : World) (hX : ∀ j, j < 3 → 0 ≤ X j ∧ X j ≤ 18446744073709551615) (hb : 0 ≤ b ∧ b ≤ 18446744073709551615) (hc : 0 ≤ c ∧ c ≤ 18446744073709551615) (hs : hvw X * b + c < 6277101735386680763835789423207666416102355444464034512896) :
    Calls Tryz.prog 45 #[.agg #[.int .u64 (X 0), .int .u64 (X 1), .int .u64 (X 2)], .int .u64 b, .int .u64 c] w fun e w' => (∃ Y, e = .returned (.agg #[.int .u64 (Y 0), .int .u64 (Y 1), .int .u64 (Y 2)]) ∧ (∀ j, j < 3 → 0 ≤ Y j ∧ Y j ≤ 18446744073709551615) ∧ hvw Y = hvw X * b + c) ∧ Below w.heap.size w w' := by
  have HX := hid hX
  have HS := hid hs
  have N0 := hid ((W3.new w 48 X).below (below_new' _ (.cells #[.int .u64 0, .int .u64 0, .int .u64 0] 48)) (by simp))
  have N1 : Hid (W3 ((w.alloc (.cells #[.int .u64 (X 0), .int .u64 (X 1), .int .u64 (X 2)] 48)).alloc (.cells #[.int .u64 0, .int .u64 0, .int .u64 0] 48)) (w.heap.size + 1) 48 (fun _ => 0)) := by
    have := W3.new (w.alloc (.cells #[.int .u64 (X 0), .int .u64 (X 1), .int .u64 (X 2)] 48)) 48 (fun _ => 0)
    show W3 _ _ _ _
    simpa using this
  have B0 : Hid (Below w.heap.size w ((w.alloc (.cells #[.int .u64 (X 0), .int .u64 (X 1), .int .u64 (X 2)] 48)).alloc (.cells #[.int .u64 0, .int .u64 0, .int .u64 0] 48))) := (below_new' w _).trans ((below_new' _ _).mono (by simp))
  have IX : Hid (∀ i : Nat, i < 3 → ∀ W : World, (Instr.index 48 (.agg #[.int .u64 (X 0), .int .u64 (X 1), .int .u64 (X 2)]) (.int .i64 (i : Int))).run Tryz.prog W = .ok (.int .u64 (X i)) W) := fun i hi W => index_w3 X hi W
  clear hX hs
  go_enter Tryz.func45, Tryz.ntmps45
  go_wp2
  go_loopw [13, 2] (fun iv cv wr => ∃ (i : Nat) (d : Int) (Y : Nat → Int), iv = .int .i64 i ∧ cv = .int .u64 d ∧ i ≤ 3 ∧ 0 ≤ d ∧ d ≤ 18446744073709551615 ∧ Hid (∀ j, j < 3 → 0 ≤ Y j ∧ Y j ≤ 18446744073709551615) ∧ Hid (lk Y i + d * 18446744073709551616 ^ i = lk X i * b + c) ∧ Hid (W3 wr w.heap.size 48 Y) ∧ Hid (W3 wr (w.heap.size + 1) 48 (fun _ => 0)) ∧ Hid (Below w.heap.size w wr)) (fun iv _ _ => (3 - intOf iv).toNat)
  case atStart => exact ⟨0, c, X, rfl, rfl, by omega, hc.1, hc.2, HX.out, by show (0 : Int) + c * 18446744073709551616 ^ 0 = 0 * b + c; rw [Int.pow_zero]; omega, N0.out, N1.out, B0.out⟩
  case round =>
    obtain ⟨i, d, Y, rfl, rfl, hi, hd0, hd1, HY, HL, HW, HV, HB⟩ := hrel
    by_cases i3 : i = 3
    · subst i3
      have c0 := HW.out.cell (i := 0) (by omega)
      have c1 := HW.out.cell (i := 1) (by omega)
      have c2 := HW.out.cell (i := 2) (by omega)
      have f0 := HV.out.frozen 0
      have f1 := HV.out.frozen 1
      have f2 := HV.out.frozen 2
      have d0 := HV.out.cell (i := 0) (by omega)
      have d1 := HV.out.cell (i := 1) (by omega)
      have d2 := HV.out.cell (i := 2) (by omega)
      have S := hid (HV.out.store Y)
      have B2 : Hid (Below w.heap.size w (((wr.setCell ⟨w.heap.size + 1, 0, none⟩ (.int .u64 (Y 0))).setCell ⟨w.heap.size + 1, 1, none⟩ (.int .u64 (Y 1))).setCell ⟨w.heap.size + 1, 2, none⟩ (.int .u64 (Y 2)))) := below_set (below_set (below_set HB.out (by omega) _ _) (by omega) _ _) (by omega) _ _
      have E : Hid (hvw Y = hvw X * b + c) := by
        have h := HL.out
        rw [lk_three, lk_three, show (18446744073709551616 : Int) ^ 3 = 6277101735386680763835789423207666416102355444464034512896 from by decide] at h
        have := HS.out
        have y0 := HY.out 0 (by omega)
        have y1 := HY.out 1 (by omega)
        have y2 := HY.out 2 (by omega)
        show _ = _
        unfold hvw at h this ⊢
        omega
      clear HX HS N0 N1 B0 IX HL HW HV HB
      go_wp2
      refine bodyPost_ret (ret_w3 S.out rfl rfl) rfl ?_
      exact ⟨⟨Y, rfl, HY.out, E.out⟩, B2.out⟩
    · have hi' : i < 3 := by omega
      have hil : (i : Int) < 3 := by omega
      have ix := IX.out i hi'
      have vx := HX.out i hi'
      obtain ⟨s1, s2, s3, s4, s5, s6, s7, s8, s9, s10⟩ := step_said vx hb ⟨hd0, hd1⟩
      have cl := HW.out.cell (i := i) hi'
      have fl := HW.out.frozen i
      have M := hid (Tryz.bits_Mul64 (X i) b vx.1 vx.2 hb.1 hb.2 wr)
      have A := hid (B.add64_0 (X i * b % 18446744073709551616) d s7 hd0)
      have a1 : B.NumB.lo (X i * b % 18446744073709551616 + d) = (X i * b + d) % 18446744073709551616 := s9
      have a2 : IntKind.u64.wrap (X i * b / 18446744073709551616 + B.NumB.hi (X i * b % 18446744073709551616 + d)) = (X i * b + d) / 18446744073709551616 := by
        unfold B.NumB.hi
        rw [s10, IntKind.wrap_u64]
        omega
      have HL' : Hid (lk (fun j => if j = i then (X i * b + d) % 18446744073709551616 else Y j) (i + 1) + (X i * b + d) / 18446744073709551616 * 18446744073709551616 ^ (i + 1) = lk X (i + 1) * b + c) := by
        show lk (fun j => if j = i then (X i * b + d) % 18446744073709551616 else Y j) i + (if i = i then (X i * b + d) % 18446744073709551616 else Y i) * 18446744073709551616 ^ i + _ = (lk X i + X i * 18446744073709551616 ^ i) * b + c
        rw [if_pos rfl, lk_eq (Y := Y) i (fun j hj => if_neg (by omega)), Int.pow_succ]
        have h := HL.out
        have e := Int.emod_add_mul_ediv (X i * b + d) 18446744073709551616
        generalize (18446744073709551616 : Int) ^ i = K at *
        have e2 : (X i * b + d) % 18446744073709551616 * K + (X i * b + d) / 18446744073709551616 * (K * 18446744073709551616) = (X i * b + d) * K := by
          rw [Int.mul_comm K, ← Int.mul_assoc, ← Int.add_mul, Int.mul_comm ((X i * b + d) / 18446744073709551616), e]
        have e3 : X i * K * b = X i * b * K := Int.mul_right_comm _ _ _
        have e4 : (X i * b + d) * K = X i * b * K + d * K := Int.add_mul _ _ _
        have e5 : (lk X i + X i * K) * b = lk X i * b + X i * K * b := Int.add_mul _ _ _
        omega
      have HY' : Hid (∀ j, j < 3 → 0 ≤ (fun j => if j = i then (X i * b + d) % 18446744073709551616 else Y j) j ∧ (fun j => if j = i then (X i * b + d) % 18446744073709551616 else Y j) j ≤ 18446744073709551615) := fun j hj => by
        show 0 ≤ (if j = i then (X i * b + d) % 18446744073709551616 else Y j) ∧ (if j = i then (X i * b + d) % 18446744073709551616 else Y j) ≤ 18446744073709551615
        by_cases e : j = i
        · rw [if_pos e]; exact ⟨s3, s4⟩
        · rw [if_neg e]; exact HY.out j hj
      have HW' := hid (HW.out.set hi' ((X i * b + d) % 18446744073709551616))
      have HV' := hid (HV.out.other (b := w.heap.size) (by omega) i (.int .u64 ((X i * b + d) % 18446744073709551616)))
      have HB' := hid (below_set HB.out (Nat.le_refl _) i (.int .u64 ((X i * b + d) % 18446744073709551616)))
      rw [a1] at A
      have b1 : 0 ≤ (X i * b + d) / 18446744073709551616 := s1
      clear HX HS N0 N1 B0 IX HY HL HW HV HB s3 s4 s9 s10 a1 vx
      generalize B.NumB.hi (X i * b % 18446744073709551616 + d) = h1 at *
      generalize (X i * b + d) % 18446744073709551616 = v1 at *
      generalize (X i * b + d) / 18446744073709551616 = v2 at *
      generalize X i * b / 18446744073709551616 = v3 at *
      generalize X i * b % 18446744073709551616 = v4 at *
      generalize X i = xi at *
      go_wp2_with (first | (go_at_call 60; refine M.out.mono ?_; rintro e w3 ⟨rfl, rfl⟩) | simp only [A.out])
      exact ⟨⟨i + 1, v2, _, rfl, rfl, by omega, b1, s2, HY', HL', HW', HV', HB'⟩, by simp only [intOf]; omega⟩
/-- the three words of a number. -/
def dgt (N : Int) : Nat → Int
  | 0 => N % 18446744073709551616
  | 1 => N / 18446744073709551616 % 18446744073709551616
  | _ + 2 => N / 18446744073709551616 / 18446744073709551616
theorem hvw_dgt (N : Int) : hvw (dgt N) = N := by
  show N % 18446744073709551616 + 18446744073709551616 * (N / 18446744073709551616 % 18446744073709551616 + 18446744073709551616 * (N / 18446744073709551616 / 18446744073709551616)) = N
  omega
theorem dgt_bd {N : Int} (h0 : 0 ≤ N) (h : N < 6277101735386680763835789423207666416102355444464034512896) : ∀ j, j < 3 → 0 ≤ dgt N j ∧ dgt N j ≤ 18446744073709551615 := fun j hj => by
  match j, hj with
  | 0, _ => show 0 ≤ N % 18446744073709551616 ∧ N % 18446744073709551616 ≤ 18446744073709551615; omega
  | 1, _ => show 0 ≤ N / 18446744073709551616 % 18446744073709551616 ∧ N / 18446744073709551616 % 18446744073709551616 ≤ 18446744073709551615; omega
  | 2, _ => show 0 ≤ N / 18446744073709551616 / 18446744073709551616 ∧ N / 18446744073709551616 / 18446744073709551616 ≤ 18446744073709551615; omega
theorem dgt_hvw {Y : Nat → Int} (h : ∀ j, j < 3 → 0 ≤ Y j ∧ Y j ≤ 18446744073709551615) : ∀ j, j < 3 → Y j = dgt (hvw Y) j := fun j hj => by
  have h0 := h 0 (by omega)
  have h1 := h 1 (by omega)
  have h2 := h 2 (by omega)
  unfold hvw
  match j, hj with
  | 0, _ => show Y 0 = (Y 0 + 18446744073709551616 * (Y 1 + 18446744073709551616 * Y 2)) % 18446744073709551616; omega
  | 1, _ => show Y 1 = (Y 0 + 18446744073709551616 * (Y 1 + 18446744073709551616 * Y 2)) / 18446744073709551616 % 18446744073709551616; omega
  | 2, _ => show Y 2 = (Y 0 + 18446744073709551616 * (Y 1 + 18446744073709551616 * Y 2)) / 18446744073709551616 / 18446744073709551616; omega
theorem wtimes_dgt (N b c : Int) (w : World) (h0 : 0 ≤ N) (hN : N < 6277101735386680763835789423207666416102355444464034512896) (hb : 0 ≤ b ∧ b ≤ 18446744073709551615) (hc : 0 ≤ c ∧ c ≤ 18446744073709551615) (hs : N * b + c < 6277101735386680763835789423207666416102355444464034512896) :
    Calls Tryz.prog 45 #[.agg #[.int .u64 (dgt N 0), .int .u64 (dgt N 1), .int .u64 (dgt N 2)], .int .u64 b, .int .u64 c] w fun e w' => e = .returned (.agg #[.int .u64 (dgt (N * b + c) 0), .int .u64 (dgt (N * b + c) 1), .int .u64 (dgt (N * b + c) 2)]) ∧ Below w.heap.size w w' := by
  refine (wtimes_any (dgt N) b c w (dgt_bd h0 hN) hb hc (by rw [hvw_dgt]; exact hs)).mono ?_
  rintro e w' ⟨⟨Y, rfl, hY, hE⟩, B⟩
  rw [hvw_dgt] at hE
  rw [← hE]
  have y0 := dgt_hvw hY 0 (by omega)
  have y1 := dgt_hvw hY 1 (by omega)
  have y2 := dgt_hvw hY 2 (by omega)
  exact ⟨by rw [← y0, ← y1, ← y2], B⟩
theorem wleft_dgt (N m : Int) (w : World) (h0 : 0 ≤ N) (hN : N < 6277101735386680763835789423207666416102355444464034512896) (hm : 1 ≤ m ∧ m ≤ 18446744073709551615) :
    Calls Tryz.prog 16 #[.agg #[.int .u64 (dgt N 0), .int .u64 (dgt N 1), .int .u64 (dgt N 2)], .int .u64 m] w fun e w' => e = .returned (.int .u64 (N % m)) ∧ Below w.heap.size w w' := by
  have := wleft_any (dgt N) m w (dgt_bd h0 hN) hm
  rw [hvw_dgt] at this
  exact this
end Go.Proofs.YtocfenjampmdlabGreatDoor
