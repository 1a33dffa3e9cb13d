/- A copy of a list of ints (slices.Clone), in the landed conv. -/
import Derived.Test.YtocfenjampmdlabGreatDoorDs
import Derived.Shelf.Slices.Clone
namespace Go.Proofs.YtocfenjampmdlabGreatDoor
open Go.RowKit Num Nmb

/-- a slice of ints, where a value is laid into a block that has none. -/
theorem Wi.setv {w : World} {v : Value} {n b k : Nat} {x : Nat → Int} {t : TypeId} {C : Nat → Value} (h : Wi w v n x) (R : Rv w b t k C) (hC : ∀ j, j < k → ∀ z, C j ≠ .int .i64 z) (i : Nat) (u : Value) : Wi (w.setCell ⟨b, i, none⟩ u) v n x := by
  obtain ⟨ao, cap, rfl, h1, h2, h3, h5⟩ := h
  refine ⟨ao, cap, rfl, h1, h2, h3, fun hn => ?_⟩
  obtain ⟨b', off, rfl, hbs, hc⟩ := h5 hn
  have ne : b' ≠ b := by
    rintro rfl
    have c0 := hc 0 hn
    by_cases ho : off + 0 < k
    · rw [R.cell ho] at c0
      exact hC _ ho _ (Option.some.inj c0)
    · obtain ⟨cur, hb, hs, _⟩ := R
      simp [World.cell?, hb, show cur.size ≤ off by omega] at c0
  refine ⟨b', off, rfl, by simpa [World.setCell] using hbs, fun j hj => ?_⟩
  rw [cell_other ne]
  exact hc j hj
end Go.Proofs.YtocfenjampmdlabGreatDoor
