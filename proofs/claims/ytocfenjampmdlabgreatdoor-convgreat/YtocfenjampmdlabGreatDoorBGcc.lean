/- What 'leapOf' answers. -/
import Derived.Test.YtocfenjampmdlabGreatDoorBGcb
namespace Go.Proofs.YtocfenjampmdlabGreatDoor.B
open Go.RowKit NumB
theorem below_put {B g : Nat} {w w' : World} (h : Below B w w') (hg : B ≤ g) (i : Nat) (v : Value) : Below B w (w'.setCell ⟨g, i, none⟩ v) :=
  ⟨h.os, h.tape, h.output, by simpa [World.setCell] using h.size, fun k hk => (heap_setCell_other w' ⟨g, i, none⟩ k v (by show k ≠ g; omega)).trans (h.block k hk)⟩
/-- what 'leapOf' answers: no steps, or rows that are right. -/
def Lok (A B : Int) (e : Ending) : Prop := ∃ a b c d t, e = .returned (.agg #[.int .u64 a, .int .u64 b, .int .u64 c, .int .u64 d, .bool t]) ∧ (b = 0 ∨ Lg A B a b c d t) ∧ (0 ≤ a ∧ a ≤ 18446744073709551615) ∧ (0 ≤ b ∧ b ≤ 18446744073709551615) ∧ (0 ≤ c ∧ c ≤ 18446744073709551615) ∧ (0 ≤ d ∧ d ≤ 18446744073709551615)
end Go.Proofs.YtocfenjampmdlabGreatDoor.B
