/- The law's awake: the chapter's examples. -/
import Derived.Test.YtbecdlibckbbcabDoorPg
import Derived.Deep.RegionHeld3
namespace Go.Proofs.YtbecdlibckbbcabDoor
open Go.RowKit Num Nmb

theorem OwW.cells {w : World} {base : Nat} {v : Value} {l : List Nat} (h : OwW w base v l) (hl : 0 < l.length) :
    ∃ g cap, v = .slice (some ⟨g, 0, none⟩) l.length cap ∧ l.length ≤ cap ∧ base ≤ g ∧ g < w.heap.size ∧ ∀ j (hj : j < l.length), w.cell? ⟨g, j, none⟩ = some (.int .u64 (l[j] : Nat)) := by
  rcases h.2 with ⟨rfl, h0⟩ | ⟨g, cap, cur, rfl, hg, hgg, hgc, hgm, hgs, htk⟩
  · omega
  · refine ⟨g, cap, rfl, hgc, hg, (Array.getElem?_eq_some_iff.1 hgg).1, fun j hj => ?_⟩
    have := World.ownsRow.cellAt h j (by omega)
    rw [this]
    simp [wordCells, List.getElem?_eq_getElem hj]
theorem nx90 : Nx 90 97 := ⟨by decide, is97, fun m h1 h2 => by
  have : m = 90 ∨ m = 91 ∨ m = 92 ∨ m = 93 ∨ m = 94 ∨ m = 95 ∨ m = 96 := by omega
  rcases this with rfl | rfl | rfl | rfl | rfl | rfl | rfl
  · exact is_even (by decide) (by decide)
  · exact is91
  · exact is_even (by decide) (by decide)
  · exact is93
  · exact is_even (by decide) (by decide)
  · exact is95
  · exact is_even (by decide) (by decide)⟩
theorem gath_yes {u i n : Nat} (e : 1 + u * (i + 1) = n) (h : isB n = true) : gath u (i + 1) = n :: gath u i := by
  rw [gath, e, if_pos h]
theorem gath_no {u i n : Nat} (e : 1 + u * (i + 1) = n) (h : isB n = false) : gath u (i + 1) = gath u i := by
  rw [gath, e, h]; rfl
theorem gath20 : gath 1048576 953 = 998244353 :: gath 1048576 951 := by
  rw [gath_no (n := 999292929) (by decide) is999, gath_yes (n := 998244353) (by decide) is998]
theorem root17 : RootIs 17 2 13 := by
  refine ⟨3, by decide, by decide, ⟨by decide, fun i hi => ?_⟩, fun x h1 h2 h3 => ?_⟩
  · have : i = 0 ∨ i = 1 := by omega
    rcases this with rfl | rfl <;> decide
  · have : x = 1 ∨ x = 2 := by omega
    rcases this with rfl | rfl
    · exact absurd (h3.2 0 (by decide)) (by decide)
    · exact absurd (h3.2 1 (by decide)) (by decide)
theorem scan20 {w : World} {base : Nat} {v : Value} {er : Int} (h : ScanIs w base v er 1 (gath 1048576 953)) : er = 0 ∧ OwW w base v [998244353] := by
  rcases h with ⟨h1, h2, h3⟩ | ⟨h1, h2, h3⟩
  · rw [gath20] at h2; exact ⟨h1, h2⟩
  · rw [gath20] at h3; simp at h3
end Go.Proofs.YtbecdlibckbbcabDoor
