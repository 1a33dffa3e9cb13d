/- What the field's Inv answers. -/
import Derived.Test.YtbecdlibckbbcabDoorVw
namespace Go.Proofs.YtbecdlibckbbcabDoor
open Go.RowKit Num
/-- why x has no inverse modulo m. -/
def ec (x m : Int) : Int := if x % m = 0 then 10 else if gc x m = 1 then 0 else 11
/-- what Inv answers. -/
structure Iv (m x y : Int) : Prop where
  bad : ec x m ≠ 0 → y = 0
  good : ec x m = 0 → 0 ≤ y ∧ y < m ∧ x * y % m = 1
theorem ec_pos (x : Int) {m : Int} (hm : 2 ≤ m) (h : gc x m = 1) : ec x m = 0 := by
  unfold ec
  rw [if_neg, if_pos h]
  intro h0
  unfold gc at h
  rw [h0] at h
  simp at h
  omega
theorem ec_zero {x m : Int} (h : ec x m = 0) : gc x m = 1 := by
  unfold ec at h
  split at h
  · exact absurd h (by decide)
  · split at h
    · assumption
    · exact absurd h (by decide)
end Go.Proofs.YtbecdlibckbbcabDoor
