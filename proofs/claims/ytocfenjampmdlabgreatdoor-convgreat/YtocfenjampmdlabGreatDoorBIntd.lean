/- Whole numbers: quotients, towards 0 and downwards, and what is left. -/
import Derived.Test.YtocfenjampmdlabGreatDoorBInts
import Derived.Test.YtocfenjampmdlabGreatDoorBLong
namespace Go.Proofs.YtocfenjampmdlabGreatDoor.B
open Go.RowKit NumB

/-- what a quotient towards 0 is. -/
def QuoIs (A B Q R : Int) : Prop := Q * B + R = A ∧ R.natAbs < B.natAbs ∧ (R = 0 ∨ (R < 0 ↔ A < 0))
/-- what a quotient downwards is. -/
def DivIs (A B Q R : Int) : Prop := Q * B + R = A ∧ R.natAbs < B.natAbs ∧ (R = 0 ∨ (R < 0 ↔ B < 0))
theorem quo_is (p p' : Bool) (a b q r : Int) (ha : 0 ≤ a) (hb : 0 < b) (h : q * b + r = a) (h0 : 0 ≤ r) (h1 : r < b) (hq : 0 ≤ q) (hp : p = true → a ≠ 0) : QuoIs (sg p a) (sg p' b) (sg (p != p') q) (sg p r) := by
  have hqb : 0 ≤ q * b := Int.mul_nonneg hq (by omega)
  refine ⟨?_, ?_, ?_⟩
  · rw [sg_mul]
    have : ((p != p') != p') = p := by cases p <;> cases p' <;> rfl
    rw [this]
    cases p <;> simp [sg] <;> omega
  · cases p <;> cases p' <;> simp [sg] <;> omega
  · by_cases hr : r = 0
    · left; rw [hr]; cases p <;> rfl
    · right
      cases p
      · simp [sg]; omega
      · have := hp rfl; simp [sg]; omega
theorem div_same {A B Q R : Int} (h : QuoIs A B Q R) (hs : R = 0 ∨ (R < 0 ↔ B < 0)) : DivIs A B Q R := ⟨h.1, h.2.1, hs⟩
theorem div_turn {A B Q R : Int} (h : QuoIs A B Q R) (hr : R ≠ 0) (hs : ¬ (R < 0 ↔ B < 0)) : DivIs A B (Q - 1) (R + B) := by
  obtain ⟨h1, h2, _⟩ := h
  refine ⟨?_, ?_, ?_⟩
  · rw [Int.sub_mul]; omega
  · omega
  · right; omega
theorem undrew {B : Nat} {a w : World} (h : Below B a.drew w) : Below B a w := ⟨h.os, h.tape, h.output, h.size, h.block⟩
theorem Nz.pos {w : World} {v : Value} {k : Nat} {a : Int} (h : Nz w v k a) : 0 ≤ a := h.nt.nonneg


theorem entry22 (w : World) (neg : Bool) (ao : Option Addr) (k cap : Nat) (neg' : Bool) (ao' : Option Addr) (k' cap' : Nat) :
    Var ((((w.alloc (.cells #[.bool neg, .slice ao k cap] 42)).alloc (.cells #[.bool neg', .slice ao' k' cap'] 42)).alloc (.cells #[.bool false, .slice none 0 0] 42)).alloc (.cells #[.bool false, .slice none 0 0] 42)) w.heap.size neg ao k cap ∧ Var ((((w.alloc (.cells #[.bool neg, .slice ao k cap] 42)).alloc (.cells #[.bool neg', .slice ao' k' cap'] 42)).alloc (.cells #[.bool false, .slice none 0 0] 42)).alloc (.cells #[.bool false, .slice none 0 0] 42)) (w.heap.size + 1) neg' ao' k' cap' ∧ Var ((((w.alloc (.cells #[.bool neg, .slice ao k cap] 42)).alloc (.cells #[.bool neg', .slice ao' k' cap'] 42)).alloc (.cells #[.bool false, .slice none 0 0] 42)).alloc (.cells #[.bool false, .slice none 0 0] 42)) (w.heap.size + 2) false none 0 0 ∧ Var ((((w.alloc (.cells #[.bool neg, .slice ao k cap] 42)).alloc (.cells #[.bool neg', .slice ao' k' cap'] 42)).alloc (.cells #[.bool false, .slice none 0 0] 42)).alloc (.cells #[.bool false, .slice none 0 0] 42)) (w.heap.size + 3) false none 0 0 ∧ Below w.heap.size w ((((w.alloc (.cells #[.bool neg, .slice ao k cap] 42)).alloc (.cells #[.bool neg', .slice ao' k' cap'] 42)).alloc (.cells #[.bool false, .slice none 0 0] 42)).alloc (.cells #[.bool false, .slice none 0 0] 42)) := by
  obtain ⟨h1, h2, h3, h4⟩ := entry2 w neg ao k cap neg' ao' k' cap'
  exact ⟨h1.alloc _, h2.alloc _, h3.alloc _, by simpa using var_mk (((w.alloc (.cells #[.bool neg, .slice ao k cap] 42)).alloc (.cells #[.bool neg', .slice ao' k' cap'] 42)).alloc (.cells #[.bool false, .slice none 0 0] 42)) false none 0 0, bt h4 (below_new _ _)⟩

end Go.Proofs.YtocfenjampmdlabGreatDoor.B
