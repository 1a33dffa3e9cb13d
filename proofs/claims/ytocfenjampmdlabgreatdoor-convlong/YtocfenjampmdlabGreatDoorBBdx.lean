/- What the law BigintGcds calls: numbers as the program and as the reference have them, and bigint's Gcd. -/
/- Whole numbers: division by 0, exact quotients, what is left of a word. -/
import Derived.Test.YtocfenjampmdlabGreatDoorBRefn
import Derived.Test.YtocfenjampmdlabGreatDoorBGcf
import Derived.Test.YtocfenjampmdlabGreatDoorBRgc
import Derived.Test.YtocfenjampmdlabGreatDoorBIntn
namespace Go.Proofs.YtocfenjampmdlabGreatDoor.B
open Go.RowKit NumB
open Go.Lib (decDigits)

theorem Blk.two {w : World} {g : Nat} {a b : Value} {t : TypeId} (h : Blk w g #[a, b] t) :
    w.cell? ⟨g, 0, none⟩ = some a ∧ w.cell? ⟨g, 1, none⟩ = some b ∧ w.frozen? ⟨g, 0, none⟩ = false ∧ w.frozen? ⟨g, 1, none⟩ = false ∧ g < w.heap.size := by
  have hl := Blk.lt h
  unfold Blk at h
  refine ⟨?_, ?_, ?_, ?_, hl⟩
  · simp only [World.cell?, h]; rfl
  · simp only [World.cell?, h]; rfl
  · simp only [World.frozen?, h]; rfl
  · simp only [World.frozen?, h]; rfl
theorem Blk.set2 {w : World} {g : Nat} {a b a' b' : Value} {t : TypeId} (h : Blk w g #[a, b] t) : Blk ((w.setCell ⟨g, 0, none⟩ a').setCell ⟨g, 1, none⟩ b') g #[a', b'] t := by
  unfold Blk at *
  have e1 := heap_setCell_same w g 0 _ _ a' h
  rw [heap_setCell_same _ g 1 _ _ b' e1]
  rfl
theorem Blk.go2 {w w' : World} {g : Nat} {cs : Array Value} {t : TypeId} (h : Blk w g cs t) (b : Below w.heap.size w w') : Blk w' g cs t := h.below b (Blk.lt h)
theorem Nz.numAbs {w : World} {p : Bool} {ao : Option Addr} {k c n : Nat} {A : Int} (h : It w (.agg #[.bool p, .slice ao k c]) n A) : Nz w (.slice ao k c) k A.natAbs ∧ k ≤ n := by
  obtain ⟨neg, ao', k', cap, a, e, h1, h2, rfl, _, h5⟩ := h
  simp at e
  obtain ⟨rfl, rfl, rfl, rfl⟩ := e
  have ea : ((sg p a).natAbs : Int) = a := by cases p <;> simp [sg] <;> omega
  rw [ea]
  exact ⟨h1, h2⟩
end Go.Proofs.YtocfenjampmdlabGreatDoor.B
namespace Go.Proofs.YtocfenjampmdlabGreatDoor.B
open Go.RowKit NumB

theorem sgn_nz {R : Int} (h : R ≠ 0) : ¬ sgn R = 0 := by
  unfold sgn
  by_cases h1 : R < 0
  · rw [if_pos h1]; decide
  · rw [if_neg h1, if_neg h]; decide
theorem it_zero (w : World) : It w (.agg #[.bool false, .slice none 0 0]) 0 0 := by
  exact ⟨false, none, 0, 0, 0, rfl, nil_nz w, Nat.le_refl _, rfl, (fun h => by cases h), Int.le_refl _⟩
/-- what is left of A, from 0 on, divided by f. -/
def ModIs (A f r : Int) : Prop := 0 ≤ r ∧ r < f ∧ ∃ q, q * f + r = A
end Go.Proofs.YtocfenjampmdlabGreatDoor.B
