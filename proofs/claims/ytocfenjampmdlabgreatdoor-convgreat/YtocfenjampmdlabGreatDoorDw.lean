/- A copy of a list of ints (slices.Clone), in the landed conv. -/
/- Boxes with more powers, in the landed conv. -/
import Derived.Test.YtocfenjampmdlabGreatDoorDt
import Derived.Shelf.Slices.Clone
namespace Go.Proofs.YtocfenjampmdlabGreatDoor
open Go.RowKit Num Nmb

/-- a slice of ints, where a value is laid into a block that has none. -/
theorem Wi.setv {w : World} {v : Value} {n b k : Nat} {x : Nat → Int} {t : TypeId} {C : Nat → Value} (h : Wi w v n x) (R : Rv w b t k C) (hC : ∀ j, j < k → ∀ z, C j ≠ .int .i64 z) (i : Nat) (u : Value) : Wi (w.setCell ⟨b, i, none⟩ u) v n x := by
  obtain ⟨ao, cap, rfl, h1, h2, h3, h5⟩ := h
  refine ⟨ao, cap, rfl, h1, h2, h3, fun hn => ?_⟩
  obtain ⟨b', off, rfl, hbs, hc⟩ := h5 hn
  have ne : b' ≠ b := by
    rintro rfl
    have c0 := hc 0 hn
    by_cases ho : off + 0 < k
    · rw [R.cell ho] at c0
      exact hC _ ho _ (Option.some.inj c0)
    · obtain ⟨cur, hb, hs, _⟩ := R
      simp [World.cell?, hb, show cur.size ≤ off by omega] at c0
  refine ⟨b', off, rfl, by simpa [World.setCell] using hbs, fun j hj => ?_⟩
  rw [cell_other ne]
  exact hc j hj
end Go.Proofs.YtocfenjampmdlabGreatDoor
namespace Go.Proofs.YtocfenjampmdlabGreatDoor
open Go.RowKit Num Nmb

/-- what is known of the values of the region. -/
def RpW (V0 V2 : Value) (g n K : Nat) (f X : Nat → Int) : Nat → Value → World → Prop
  | 0, v, _ => v = V0
  | 1, v, W => ∃ xo xc, v = .slice xo n xc ∧ Wi W (.slice xo n xc) n f
  | 2, v, _ => v = V2
  | 3, v, _ => v = V0
  | 4, v, _ => v = .int .i64 K
  | 5, v, W => ∃ lo lc, v = .slice lo K lc ∧ Wl W (.slice lo K lc) K X
  | 6, v, W => ∃ xo xc lo lc, v = .agg #[.slice xo n xc, .slice lo K lc] ∧ Wi W (.slice xo n xc) n f ∧ Wl W (.slice lo K lc) K X
  | 7, _, W => g < W.heap.size ∧ ∃ xo xc lo lc, W.cell? ⟨g, 0, none⟩ = some (.slice xo n xc) ∧ W.cell? ⟨g, 1, none⟩ = some (.slice lo K lc) ∧ Wi W (.slice xo n xc) n f ∧ Wl W (.slice lo K lc) K X
  | _ + 8, v, _ => v = .int .i64 0
theorem RpW.below {V0 V2 : Value} {g n K : Nat} {f X : Nat → Int} {v : Value} {w w' : World} (hb : Below w.heap.size w w') : ∀ j, RpW V0 V2 g n K f X j v w → RpW V0 V2 g n K f X j v w'
  | 0, h => h
  | 1, ⟨xo, xc, e, r⟩ => ⟨xo, xc, e, r.below hb⟩
  | 2, h => h
  | 3, h => h
  | 4, h => h
  | 5, ⟨lo, lc, e, r⟩ => ⟨lo, lc, e, r.below hb⟩
  | 6, ⟨xo, xc, lo, lc, e, r, q⟩ => ⟨xo, xc, lo, lc, e, r.below hb, q.below hb⟩
  | 7, ⟨hg, xo, xc, lo, lc, c0, c1, r, q⟩ => ⟨Nat.lt_of_lt_of_le hg hb.size, xo, xc, lo, lc, by rw [hb.cell (p := ⟨g, 0, none⟩) hg]; exact c0, by rw [hb.cell (p := ⟨g, 1, none⟩) hg]; exact c1, r.below hb, q.below hb⟩
  | _ + 8, h => h
end Go.Proofs.YtocfenjampmdlabGreatDoor
