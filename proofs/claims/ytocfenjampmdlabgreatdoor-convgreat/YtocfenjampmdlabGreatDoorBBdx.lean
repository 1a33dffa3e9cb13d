/- "Mul" of the reference: plain facts, and rows of ints. -/
/- "Mul" of the reference. -/
/- "Of" of the reference: the digits of words; and what the law calls of, Is and few. -/
/- What the laws call of, Is and few. -/
/- "DivMod" of the reference: quotient and rest by decimal digits. -/
/- "Gcd" of the reference. -/
/- What the law BigintGcds calls: numbers as the program and as the reference have them, and bigint's Gcd. -/
/- Whole numbers: quotients, towards 0 and downwards, and what is left. -/
/- Whole numbers: quotients downwards. -/
/- Whole numbers: division by 0, exact quotients, what is left of a word. -/
import Derived.Test.YtocfenjampmdlabGreatDoorBRefe
import Derived.Deep.RegionHeld2
import Derived.Test.YtocfenjampmdlabGreatDoorBDig
import Derived.Test.YtocfenjampmdlabGreatDoorBBld
import Derived.Deep.Cut
import Derived.Deep.QuietTactic
import Derived.BigQuiet
import Derived.BigRegion
namespace Go.Proofs.YtocfenjampmdlabGreatDoor.B
open Go.RowKit NumB
open Go.Lib (decDigits)

/-- the sum of places, each times its power of ten. -/
def SV (S : Nat → Nat) : Nat → Nat
  | 0 => 0
  | n + 1 => SV S n + S n * 10 ^ n
def updN (S : Nat → Nat) (i v : Nat) : Nat → Nat := fun j => if j = i then v else S j
theorem SV_zero : ∀ n, SV (fun _ => 0) n = 0
  | 0 => rfl
  | n + 1 => by simp [SV, SV_zero n]
theorem SV_updN_ge (S : Nat → Nat) (i v : Nat) : ∀ n, n ≤ i → SV (updN S i v) n = SV S n
  | 0, _ => rfl
  | n + 1, h => by
    rw [SV, SV, SV_updN_ge S i v n (by omega)]
    simp only [updN]
    rw [if_neg (by omega)]
theorem SV_updN (S : Nat → Nat) (i d : Nat) : ∀ n, i < n → SV (updN S i (S i + d)) n = SV S n + d * 10 ^ i
  | 0, h => by omega
  | n + 1, h => by
    by_cases e : i = n
    · subst e
      rw [SV, SV, SV_updN_ge S i _ i (Nat.le_refl _)]
      simp only [updN]
      rw [if_pos trivial, Nat.add_mul]
      omega
    · rw [SV, SV, SV_updN S i d n (by omega)]
      simp only [updN]
      rw [if_neg (by omega)]
      omega
def MuRel (x y : List UInt8) (N i k : Nat) (S : Nat → Nat) : Prop := SV S N = low x i * dval y + dg x i * 10 ^ i * low y k ∧ (∀ j, S j ≤ 81 * (i + 1)) ∧ (∀ j, i + k ≤ j → S j ≤ 81 * i)
def MoRel (x y : List UInt8) (N i : Nat) (S : Nat → Nat) : Prop := SV S N = low x i * dval y ∧ (∀ j, S j ≤ 81 * i)
theorem MoRel.start (x y : List UInt8) (N : Nat) : MoRel x y N 0 (fun _ => 0) := ⟨by rw [SV_zero]; simp [low, lv], fun _ => Nat.zero_le _⟩
theorem MoRel.inner {x y : List UInt8} {N i : Nat} {S : Nat → Nat} (h : MoRel x y N i S) : MuRel x y N i 0 S :=
  ⟨by rw [h.1]; simp [low, lv], fun j => by have := h.2 j; omega, fun j _ => h.2 j⟩
theorem MuRel.outer {x y : List UInt8} {N i : Nat} {S : Nat → Nat} (h : MuRel x y N i y.length S) : MoRel x y N (i + 1) S := by
  refine ⟨?_, h.2.1⟩
  rw [h.1, low_all y _ (Nat.le_refl _), low_succ, Nat.add_mul, Nat.mul_comm (10 ^ i)]
theorem MuRel.step {x y : List UInt8} {N i k : Nat} {S : Nat → Nat} (h : MuRel x y N i k S) (hx : dg x i ≤ 9) (hy : dg y k ≤ 9) (hN : i + k < N) : MuRel x y N i (k + 1) (updN S (i + k) (S (i + k) + dg x i * dg y k)) := by
  obtain ⟨h1, h2, h3⟩ := h
  have hm : dg x i * dg y k ≤ 9 * 9 := Nat.mul_le_mul hx hy
  refine ⟨?_, fun j => ?_, fun j hj => ?_⟩
  · rw [SV_updN S _ _ N hN, h1, low_succ, Nat.pow_add]
    generalize 10 ^ i = p
    generalize 10 ^ k = q
    generalize dg x i = a
    generalize dg y k = b
    generalize low y k = z
    grind
  · simp only [updN]
    split
    · have := h3 (i + k) (Nat.le_refl _); omega
    · exact h2 j
  · simp only [updN]
    rw [if_neg (by omega)]
    exact h3 j (by omega)
def CaRel (S : Nat → Nat) (i c : Nat) (L : List UInt8) : Prop := Digs L ∧ L.length = i ∧ lv L + 10 ^ i * c = SV S i
theorem CaRel.step {S : Nat → Nat} {i c : Nat} {L : List UInt8} (h : CaRel S i c L) : CaRel S (i + 1) ((S i + c) / 10) (L ++ [UInt8.ofNat (48 + (S i + c) % 10)]) := by
  obtain ⟨h1, h2, h3⟩ := h
  refine ⟨digs_snoc h1 (by omega), by simp [h2], ?_⟩
  rw [lv_snoc, dig_nat (by omega), h2, SV, Nat.pow_succ, Nat.add_sub_cancel_left]
  generalize 10 ^ i = p at *
  obtain ⟨n, hn⟩ : ∃ n, n = S i + c := ⟨_, rfl⟩
  rw [← hn]
  have e1 : p * (n % 10) + p * 10 * (n / 10) = p * n := by
    have : p * n = p * (10 * (n / 10) + n % 10) := by rw [Nat.div_add_mod]
    rw [this]; grind
  have e2 : p * n = S i * p + p * c := by rw [hn]; grind
  omega
theorem CaRel.done {x y : List UInt8} {S : Nat → Nat} {c : Nat} {L : List UInt8} (hx : Digs x) (hy : Digs y) (h : CaRel S (x.length + y.length + 1) c L) (hS : SV S (x.length + y.length + 1) = dval x * dval y) : lv L = dval x * dval y := by
  obtain ⟨h1, h2, h3⟩ := h
  rw [hS] at h3
  have bx := dval_lt x hx
  have bz := dval_lt y hy
  have hb : dval x * dval y < 10 ^ (x.length + y.length + 1) := by
    rw [Nat.pow_succ, Nat.pow_add]
    have h4 : dval x * dval y ≤ 10 ^ x.length * 10 ^ y.length := Nat.mul_le_mul (by omega) (by omega)
    have h5 : 0 < 10 ^ x.length * 10 ^ y.length := Nat.mul_pos (Nat.pow_pos (by decide)) (Nat.pow_pos (by decide))
    omega
  generalize 10 ^ (x.length + y.length + 1) = p at *
  by_cases hc : c = 0
  · subst hc; omega
  · have : p * 1 ≤ p * c := Nat.mul_le_mul_left _ (by omega)
    omega

/-- block g holds n ints. -/
def RowI (w : World) (g n : Nat) (S : Nat → Nat) : Prop :=
  ∃ cur : Array Value, w.heap[g]? = some (.cells cur 3 (0, 0)) ∧ cur.size = n ∧ ∀ j, j < n → cur[j]? = some (.int .i64 (S j : Int))
theorem RowI.lt {w : World} {g n : Nat} {S : Nat → Nat} (h : RowI w g n S) : g < w.heap.size := by
  obtain ⟨cur, hg, _⟩ := h
  exact (Array.getElem?_eq_some_iff.1 hg).1
theorem RowI.cell {w : World} {g n : Nat} {S : Nat → Nat} (h : RowI w g n S) {i : Nat} (hi : i < n) : w.cell? ⟨g, i, none⟩ = some (.int .i64 (S i : Int)) := by
  obtain ⟨cur, hg, _, hc⟩ := h
  simp [World.cell?, hg, hc i hi]
theorem RowI.frozen {w : World} {g n : Nat} {S : Nat → Nat} (h : RowI w g n S) (i : Nat) : w.frozen? ⟨g, i, none⟩ = false := by
  obtain ⟨cur, hg, _, hc⟩ := h
  simp [World.frozen?, hg]
theorem RowI.set {w : World} {g n : Nat} {S : Nat → Nat} (h : RowI w g n S) (i v : Nat) : RowI (w.setCell ⟨g, i, none⟩ (.int .i64 (v : Int))) g n (updN S i v) := by
  obtain ⟨cur, hg, hs, hc⟩ := h
  refine ⟨cur.setIfInBounds i (.int .i64 (v : Int)), ?_, by simpa using hs, fun j hj => ?_⟩
  · rw [heap_setCell_same w g i cur 3 _ hg]
  · by_cases e : j = i
    · subst e; rw [Array.getElem?_setIfInBounds]; simp [hs, hj, updN]
    · rw [Array.getElem?_setIfInBounds]; simp [Ne.symm e, updN, e, hc j hj]
theorem RowI.below {B k n : Nat} {S : Nat → Nat} {w w' : World} (h : Below B w w') (hk : k < B) (r : RowI w k n S) : RowI w' k n S := by
  obtain ⟨cur, hg, hs, hc⟩ := r
  exact ⟨cur, by rw [h.block k hk]; exact hg, hs, hc⟩
end Go.Proofs.YtocfenjampmdlabGreatDoor.B
namespace Go.Proofs.YtocfenjampmdlabGreatDoor.B
open Go.RowKit NumB
open Go.Lib (decDigits)
theorem Tryz.info3 : (Tryz.prog.info? 3).map (fun i => (i.zero, i.size, i.bytes)) = some (some (.int .i64 0), 1, 8) := by kernel_rfl
theorem RowI.new (w : World) (n : Nat) : RowI (w.alloc (.cells (madeCells #[.int .i64 0] (n * 1)) 3)) w.heap.size n (fun _ => 0) := by
  refine ⟨madeCells #[.int .i64 0] (n * 1), ?_, by simp [size_madeCells], fun j hj => ?_⟩
  · exact heap_alloc_new w _
  · simp [madeCells, hj, Nat.mod_one]
end Go.Proofs.YtocfenjampmdlabGreatDoor.B
namespace Go.Proofs.YtocfenjampmdlabGreatDoor.B
open Go.RowKit NumB
open Go.Lib (decDigits)
theorem len_of {u k : Nat} (h : (u : Int) < P k) : (decDigits u).length ≤ 20 * k + 1 := by
  have h2 := P_le_pow k
  have h3 : u < 10 ^ (20 * k + 1) := by
    rw [Nat.pow_succ]
    omega
  exact len_dec u _ (by omega) h3
theorem V_head (x : Nat → Int) (o n : Nat) : V x o (n + 1) = x o + 18446744073709551616 * V x (o + 1) n := by
  have h := V_split x o 1 n
  rw [Nat.add_comm n 1, h]
  simp [V, P]
def big64 : ByteArray := ⟨#[49, 56, 52, 52, 54, 55, 52, 52, 48, 55, 51, 55, 48, 57, 53, 53, 49, 54, 49, 54]⟩
theorem big64_val : dval big64.data.toList = 18446744073709551616 := by decide
theorem big64_digs : Digs big64.data.toList := by
  intro c hc
  have : (big64.data.toList.all fun c => decide (48 ≤ c.toNat ∧ c.toNat ≤ 57)) = true := by decide
  have := List.all_eq_true.1 this c hc
  simpa using this
theorem digs_dt (u : Nat) : Digs (dt u).data.toList := digs_dec u
theorem dval_dt (u : Nat) : dval (dt u).data.toList = u := dval_dec u
theorem dt0 : dt 0 = ⟨#[48]⟩ := by
  refine bytes_eq ?_
  rw [dt_list, dec_small (by decide)]; rfl
end Go.Proofs.YtocfenjampmdlabGreatDoor.B
namespace Go.Proofs.YtocfenjampmdlabGreatDoor.B
open Go.RowKit NumB
open Go.Lib (decDigits)
theorem Nt.shape {w : World} {v : Value} {k : Nat} {a : Int} (h : Nt w v k a) : ∃ ao cap, v = .slice ao k cap := by
  obtain ⟨x, o, ⟨ao, cap, rfl, -⟩, -⟩ := h; exact ⟨ao, cap, rfl⟩
theorem Nz.shape {w : World} {v : Value} {k : Nat} {a : Int} (h : Nz w v k a) : ∃ ao cap, v = .slice ao k cap := by
  obtain ⟨x, o, ⟨ao, cap, rfl, -⟩, -⟩ := h; exact ⟨ao, cap, rfl⟩
end Go.Proofs.YtocfenjampmdlabGreatDoor.B
namespace Go.Proofs.YtocfenjampmdlabGreatDoor.B
open Go.RowKit NumB
open Go.Lib (decDigits)
theorem own_below {base n : Nat} {e : TypeId} {v : Value} {xs : List Value} {w w' : World} (h : w.ownsRow base e 1 v n xs) (o : Below w.heap.size w w') : w'.ownsRow base e 1 v n xs := by
  refine ⟨h.1, ?_⟩
  rcases h.2 with h0 | ⟨g', cap, cur, rfl, hb, hg', h1, h2, h3, h4⟩
  · exact Or.inl h0
  · refine Or.inr ⟨g', cap, cur, rfl, hb, ?_, h1, h2, h3, h4⟩
    rw [o.block g' (Array.getElem?_eq_some_iff.1 hg').1]; exact hg'
def DvRel (x : List UInt8) (b i r : Nat) (L : List UInt8) : Prop := Digs L ∧ L.length = i ∧ dval (x.take i) = dval L * b + r
theorem DvRel.step {x : List UInt8} {b i r n s : Nat} {c : UInt8} {L : List UInt8} (h : DvRel x b i r L) (hi : x.take (i + 1) = x.take i ++ [c]) (hs : s + n * b = 10 * r + (c.toNat - 48)) (hn : n ≤ 9) : DvRel x b (i + 1) s (L ++ [UInt8.ofNat (48 + n)]) := by
  obtain ⟨h1, h2, h3⟩ := h
  refine ⟨digs_snoc h1 (by omega), by simp [h2], ?_⟩
  rw [hi, dval_snoc, h3, dval_snoc, dig_nat (by omega), Nat.add_sub_cancel_left]
  have e1 : 10 * (dval L * b + r) = 10 * dval L * b + 10 * r := by rw [Nat.mul_add, Nat.mul_assoc]
  have e2 : (10 * dval L + n) * b = 10 * dval L * b + n * b := Nat.add_mul _ _ _
  omega
theorem DvRel.done {x : List UInt8} {b r : Nat} {L : List UInt8} (h : DvRel x b x.length r L) (hr : r < b) : dval L = dval x / b ∧ r = dval x % b := by
  obtain ⟨_, _, h3⟩ := h
  rw [List.take_of_length_le (Nat.le_refl _)] at h3
  have hb : 0 < b := by omega
  rw [h3]
  constructor
  · rw [Nat.mul_comm, Nat.mul_add_div hb, Nat.div_eq_of_lt hr]; omega
  · rw [Nat.mul_comm, Nat.mul_add_mod, Nat.mod_eq_of_lt hr]
def nOf : Value → Nat
  | .string s => dval s.data.toList
  | _ => 0
theorem nOf_dt (s : Nat) : nOf (.string (dt s)) = s := dval_dt s
theorem ext_one (x : ByteArray) (i : Nat) (h : i < x.size) : (x.extract i (i + 1)).data.toList = [x[i]] := by
  have h0 : (x.extract i (i + 1)).data = x.data.extract i (i + 1) := by simp
  rw [h0, Array.toList_extract]
  have hl : x.data.toList.length = x.size := rfl
  simp only [List.extract_eq_take_drop, Nat.add_sub_cancel_left]
  rw [List.drop_eq_getElem_cons (by omega)]
  rfl
theorem cat_list (a b : ByteArray) : (a ++ b).data.toList = a.data.toList ++ b.data.toList := by simp
end Go.Proofs.YtocfenjampmdlabGreatDoor.B
namespace Go.Proofs.YtocfenjampmdlabGreatDoor.B
open Go.RowKit NumB
open Go.Lib (decDigits)
/-- the number of a text of digits. -/
def strNum : Value → Nat
  | .string s => dval s.data.toList
  | _ => 0
theorem strNum_dt (q : Nat) : strNum (.string (dt q)) = q := dval_dt q
end Go.Proofs.YtocfenjampmdlabGreatDoor.B
namespace Go.Proofs.YtocfenjampmdlabGreatDoor.B
open Go.RowKit NumB
open Go.Lib (decDigits)

theorem Blk.two {w : World} {g : Nat} {a b : Value} {t : TypeId} (h : Blk w g #[a, b] t) :
    w.cell? ⟨g, 0, none⟩ = some a ∧ w.cell? ⟨g, 1, none⟩ = some b ∧ w.frozen? ⟨g, 0, none⟩ = false ∧ w.frozen? ⟨g, 1, none⟩ = false ∧ g < w.heap.size := by
  have hl := Blk.lt h
  unfold Blk at h
  refine ⟨?_, ?_, ?_, ?_, hl⟩
  · simp only [World.cell?, h]; rfl
  · simp only [World.cell?, h]; rfl
  · simp only [World.frozen?, h]; rfl
  · simp only [World.frozen?, h]; rfl
theorem Blk.set2 {w : World} {g : Nat} {a b a' b' : Value} {t : TypeId} (h : Blk w g #[a, b] t) : Blk ((w.setCell ⟨g, 0, none⟩ a').setCell ⟨g, 1, none⟩ b') g #[a', b'] t := by
  unfold Blk at *
  have e1 := heap_setCell_same w g 0 _ _ a' h
  rw [heap_setCell_same _ g 1 _ _ b' e1]
  rfl
theorem Blk.go2 {w w' : World} {g : Nat} {cs : Array Value} {t : TypeId} (h : Blk w g cs t) (b : Below w.heap.size w w') : Blk w' g cs t := h.below b (Blk.lt h)
theorem Nz.numAbs {w : World} {p : Bool} {ao : Option Addr} {k c n : Nat} {A : Int} (h : It w (.agg #[.bool p, .slice ao k c]) n A) : Nz w (.slice ao k c) k A.natAbs ∧ k ≤ n := by
  obtain ⟨neg, ao', k', cap, a, e, h1, h2, rfl, _, h5⟩ := h
  simp at e
  obtain ⟨rfl, rfl, rfl, rfl⟩ := e
  have ea : ((sg p a).natAbs : Int) = a := by cases p <;> simp [sg] <;> omega
  rw [ea]
  exact ⟨h1, h2⟩
end Go.Proofs.YtocfenjampmdlabGreatDoor.B
namespace Go.Proofs.YtocfenjampmdlabGreatDoor.B
open Go.RowKit NumB

/-- what a quotient towards 0 is. -/
def QuoIs (A B Q R : Int) : Prop := Q * B + R = A ∧ R.natAbs < B.natAbs ∧ (R = 0 ∨ (R < 0 ↔ A < 0))
/-- what a quotient downwards is. -/
def DivIs (A B Q R : Int) : Prop := Q * B + R = A ∧ R.natAbs < B.natAbs ∧ (R = 0 ∨ (R < 0 ↔ B < 0))
theorem quo_is (p p' : Bool) (a b q r : Int) (ha : 0 ≤ a) (hb : 0 < b) (h : q * b + r = a) (h0 : 0 ≤ r) (h1 : r < b) (hq : 0 ≤ q) (hp : p = true → a ≠ 0) : QuoIs (sg p a) (sg p' b) (sg (p != p') q) (sg p r) := by
  have hqb : 0 ≤ q * b := Int.mul_nonneg hq (by omega)
  refine ⟨?_, ?_, ?_⟩
  · rw [sg_mul]
    have : ((p != p') != p') = p := by cases p <;> cases p' <;> rfl
    rw [this]
    cases p <;> simp [sg] <;> omega
  · cases p <;> cases p' <;> simp [sg] <;> omega
  · by_cases hr : r = 0
    · left; rw [hr]; cases p <;> rfl
    · right
      cases p
      · simp [sg]; omega
      · have := hp rfl; simp [sg]; omega
theorem div_same {A B Q R : Int} (h : QuoIs A B Q R) (hs : R = 0 ∨ (R < 0 ↔ B < 0)) : DivIs A B Q R := ⟨h.1, h.2.1, hs⟩
theorem div_turn {A B Q R : Int} (h : QuoIs A B Q R) (hr : R ≠ 0) (hs : ¬ (R < 0 ↔ B < 0)) : DivIs A B (Q - 1) (R + B) := by
  obtain ⟨h1, h2, _⟩ := h
  refine ⟨?_, ?_, ?_⟩
  · rw [Int.sub_mul]; omega
  · omega
  · right; omega
theorem undrew {B : Nat} {a w : World} (h : Below B a.drew w) : Below B a w := ⟨h.os, h.tape, h.output, h.size, h.block⟩
theorem Nz.pos {w : World} {v : Value} {k : Nat} {a : Int} (h : Nz w v k a) : 0 ≤ a := h.nt.nonneg


theorem entry22 (w : World) (neg : Bool) (ao : Option Addr) (k cap : Nat) (neg' : Bool) (ao' : Option Addr) (k' cap' : Nat) :
    Var ((((w.alloc (.cells #[.bool neg, .slice ao k cap] 42)).alloc (.cells #[.bool neg', .slice ao' k' cap'] 42)).alloc (.cells #[.bool false, .slice none 0 0] 42)).alloc (.cells #[.bool false, .slice none 0 0] 42)) w.heap.size neg ao k cap ∧ Var ((((w.alloc (.cells #[.bool neg, .slice ao k cap] 42)).alloc (.cells #[.bool neg', .slice ao' k' cap'] 42)).alloc (.cells #[.bool false, .slice none 0 0] 42)).alloc (.cells #[.bool false, .slice none 0 0] 42)) (w.heap.size + 1) neg' ao' k' cap' ∧ Var ((((w.alloc (.cells #[.bool neg, .slice ao k cap] 42)).alloc (.cells #[.bool neg', .slice ao' k' cap'] 42)).alloc (.cells #[.bool false, .slice none 0 0] 42)).alloc (.cells #[.bool false, .slice none 0 0] 42)) (w.heap.size + 2) false none 0 0 ∧ Var ((((w.alloc (.cells #[.bool neg, .slice ao k cap] 42)).alloc (.cells #[.bool neg', .slice ao' k' cap'] 42)).alloc (.cells #[.bool false, .slice none 0 0] 42)).alloc (.cells #[.bool false, .slice none 0 0] 42)) (w.heap.size + 3) false none 0 0 ∧ Below w.heap.size w ((((w.alloc (.cells #[.bool neg, .slice ao k cap] 42)).alloc (.cells #[.bool neg', .slice ao' k' cap'] 42)).alloc (.cells #[.bool false, .slice none 0 0] 42)).alloc (.cells #[.bool false, .slice none 0 0] 42)) := by
  obtain ⟨h1, h2, h3, h4⟩ := entry2 w neg ao k cap neg' ao' k' cap'
  exact ⟨h1.alloc _, h2.alloc _, h3.alloc _, by simpa using var_mk (((w.alloc (.cells #[.bool neg, .slice ao k cap] 42)).alloc (.cells #[.bool neg', .slice ao' k' cap'] 42)).alloc (.cells #[.bool false, .slice none 0 0] 42)) false none 0 0, bt h4 (below_new _ _)⟩

end Go.Proofs.YtocfenjampmdlabGreatDoor.B
namespace Go.Proofs.YtocfenjampmdlabGreatDoor.B
open Go.RowKit NumB

theorem sgn_ne {R : Int} (h : R ≠ 0) : (sgn R != 0) = true := by
  unfold sgn
  by_cases h1 : R < 0
  · rw [if_pos h1]; rfl
  · rw [if_neg h1, if_neg h]; rfl
theorem It.sign {w : World} {p : Bool} {ao : Option Addr} {k cap n : Nat} {A : Int} (h : It w (.agg #[.bool p, .slice ao k cap]) n A) : p = decide (A < 0) := by
  obtain ⟨neg, ao', k', cap', a, e, h1, h2, rfl, h4, h5⟩ := h
  simp only [Value.agg.injEq, Array.mk.injEq, List.cons.injEq, Value.bool.injEq] at e
  obtain ⟨rfl, -⟩ := e
  cases p
  · simp [sg]; omega
  · have := h4 rfl; simp [sg]; omega
theorem Var.drew {w : World} {g : Nat} {p : Bool} {ao : Option Addr} {n c : Nat} (h : Var w g p ao n c) : Var w.drew g p ao n c := h
theorem pair (w : World) (p : Bool) (ao : Option Addr) (n c : Nat) (q : Bool) (bo : Option Addr) (m d : Nat) :
    Var ((w.alloc (.cells #[.bool p, .slice ao n c] 42)).alloc (.cells #[.bool q, .slice bo m d] 42)) w.heap.size p ao n c ∧
    Var ((w.alloc (.cells #[.bool p, .slice ao n c] 42)).alloc (.cells #[.bool q, .slice bo m d] 42)) (w.heap.size + 1) q bo m d ∧
    Below w.heap.size w ((w.alloc (.cells #[.bool p, .slice ao n c] 42)).alloc (.cells #[.bool q, .slice bo m d] 42)) :=
  ⟨(var_mk w p ao n c).alloc _, by simpa using var_mk (w.alloc (.cells #[.bool p, .slice ao n c] 42)) q bo m d, bt (below_new w _) (below_new _ _)⟩
/-- what the two variables hold ahead of the return. -/
def DM (w : World) (gq gl n m : Nat) (Q R : Int) (w' : World) : Prop :=
  ∃ p1 ao1 k1 c1 p2 ao2 k2 c2, Var w' gq p1 ao1 k1 c1 ∧ Var w' gl p2 ao2 k2 c2 ∧ Var w' (w.heap.size + 2) false none 0 0 ∧ Var w' (w.heap.size + 3) false none 0 0 ∧
    It w' (.agg #[.bool p1, .slice ao1 k1 c1]) (n + 2) Q ∧ It w' (.agg #[.bool p2, .slice ao2 k2 c2]) (max n m + 1) R ∧ Below w.heap.size w w'
end Go.Proofs.YtocfenjampmdlabGreatDoor.B
namespace Go.Proofs.YtocfenjampmdlabGreatDoor.B
open Go.RowKit NumB

theorem sgn_nz {R : Int} (h : R ≠ 0) : ¬ sgn R = 0 := by
  unfold sgn
  by_cases h1 : R < 0
  · rw [if_pos h1]; decide
  · rw [if_neg h1, if_neg h]; decide
theorem it_zero (w : World) : It w (.agg #[.bool false, .slice none 0 0]) 0 0 := by
  exact ⟨false, none, 0, 0, 0, rfl, nil_nz w, Nat.le_refl _, rfl, (fun h => by cases h), Int.le_refl _⟩
/-- what is left of A, from 0 on, divided by f. -/
def ModIs (A f r : Int) : Prop := 0 ≤ r ∧ r < f ∧ ∃ q, q * f + r = A
end Go.Proofs.YtocfenjampmdlabGreatDoor.B
