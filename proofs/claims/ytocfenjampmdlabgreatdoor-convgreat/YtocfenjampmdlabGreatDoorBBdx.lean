/- Whole numbers: division by 0, exact quotients, what is left of a word. -/
import Derived.Test.YtocfenjampmdlabGreatDoorBBgc
import Derived.Test.YtocfenjampmdlabGreatDoorBInte
namespace Go.Proofs.YtocfenjampmdlabGreatDoor.B
open Go.RowKit NumB

theorem sgn_nz {R : Int} (h : R ≠ 0) : ¬ sgn R = 0 := by
  unfold sgn
  by_cases h1 : R < 0
  · rw [if_pos h1]; decide
  · rw [if_neg h1, if_neg h]; decide
theorem it_zero (w : World) : It w (.agg #[.bool false, .slice none 0 0]) 0 0 := by
  exact ⟨false, none, 0, 0, 0, rfl, nil_nz w, Nat.le_refl _, rfl, (fun h => by cases h), Int.le_refl _⟩
/-- what is left of A, from 0 on, divided by f. -/
def ModIs (A f r : Int) : Prop := 0 ≤ r ∧ r < f ∧ ∃ q, q * f + r = A
end Go.Proofs.YtocfenjampmdlabGreatDoor.B
