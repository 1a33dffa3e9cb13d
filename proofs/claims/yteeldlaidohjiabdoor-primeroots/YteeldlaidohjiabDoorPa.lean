/- The law's awake: the chapter's examples. -/
import Derived.Test.YteeldlaidohjiabDoorPg
import Derived.Deep.RegionHeld3
namespace Go.Proofs.YteeldlaidohjiabDoor
open Go.RowKit Num Nmb

theorem OwW.cells {w : World} {base : Nat} {v : Value} {l : List Nat} (h : OwW w base v l) (hl : 0 < l.length) :
    ∃ g cap, v = .slice (some ⟨g, 0, none⟩) l.length cap ∧ l.length ≤ cap ∧ base ≤ g ∧ g < w.heap.size ∧ ∀ j (hj : j < l.length), w.cell? ⟨g, j, none⟩ = some (.int .u64 (l[j] : Nat)) := by
  rcases h.2 with ⟨rfl, h0⟩ | ⟨g, cap, cur, rfl, hg, hgg, hgc, hgm, hgs, htk⟩
  · omega
  · refine ⟨g, cap, rfl, hgc, hg, (Array.getElem?_eq_some_iff.1 hgg).1, fun j hj => ?_⟩
    have := World.ownsRow.cellAt h j (by omega)
    rw [this]
    simp [wordCells, List.getElem?_eq_getElem hj]
theorem nx90 : Nx 90 97 := ⟨by decide, is97, fun m h1 h2 => by
  have : m = 90 ∨ m = 91 ∨ m = 92 ∨ m = 93 ∨ m = 94 ∨ m = 95 ∨ m = 96 := by omega
  rcases this with rfl | rfl | rfl | rfl | rfl | rfl | rfl
  · exact is_even (by decide) (by decide)
  · exact is91
  · exact is_even (by decide) (by decide)
  · exact is93
  · exact is_even (by decide) (by decide)
  · exact is95
  · exact is_even (by decide) (by decide)⟩
theorem gath_yes {u i n : Nat} (e : 1 + u * (i + 1) = n) (h : isB n = true) : gath u (i + 1) = n :: gath u i := by
  rw [gath, e, if_pos h]
theorem gath_no {u i n : Nat} (e : 1 + u * (i + 1) = n) (h : isB n = false) : gath u (i + 1) = gath u i := by
  rw [gath, e, h]; rfl
theorem gath20 : gath 1048576 953 = 998244353 :: gath 1048576 951 := by
  rw [gath_no (n := 999292929) (by decide) is999, gath_yes (n := 998244353) (by decide) is998]
theorem root17 : RootIs 17 2 13 := by
  refine ⟨3, by decide, by decide, ⟨by decide, fun i hi => ?_⟩, fun x h1 h2 h3 => ?_⟩
  · have : i = 0 ∨ i = 1 := by omega
    rcases this with rfl | rfl <;> decide
  · have : x = 1 ∨ x = 2 := by omega
    rcases this with rfl | rfl
    · exact absurd (h3.2 0 (by decide)) (by decide)
    · exact absurd (h3.2 1 (by decide)) (by decide)
theorem scan20 {w : World} {base : Nat} {v : Value} {er : Int} (h : ScanIs w base v er 1 (gath 1048576 953)) : er = 0 ∧ OwW w base v [998244353] := by
  rcases h with ⟨h1, h2, h3⟩ | ⟨h1, h2, h3⟩
  · rw [gath20] at h2; exact ⟨h1, h2⟩
  · rw [gath20] at h3; simp at h3
set_option maxHeartbeats 1600000 in
theorem awake_any (w : World) (L : Lay w) :
    Calls Tryd.prog 6 #[] w fun e w' => e = .returned (.bool true) ∧ Below w.heap.size w w' := by
  have N := hid (next_any 90 w (by decide) L)
  have LL := hid L
  clear L
  go_enter Tryd.func6, Tryd.ntmps6
  go_wp2_with fail
  refine N.out.mono ?_
  rintro e w1 ⟨⟨p, er, rfl, hp⟩, c, rfl⟩
  obtain ⟨rfl, rfl⟩ : er = 0 ∧ p = 97 := by
    rcases hp with ⟨h1, _, h3⟩ | ⟨_, _, h3⟩
    · exact ⟨h1, h3.uniq nx90⟩
    · have := h3 97 (by decide) (by decide)
      rw [is97] at this; cases this
  clear hp N
  have S := hid (scan_any 20 1 1000000000 1048576 953 (w.drewN c) ⟨by decide, by decide⟩ ⟨by decide, by decide⟩ (by decide) (by decide) (by decide) (by decide) (LL.out.drew c))
  go_wp2_with fail
  refine S.out.mono ?_
  rintro e w2 ⟨⟨v, er, rfl, hs⟩, B⟩
  obtain ⟨rfl, ho⟩ := scan20 hs
  have L2 := hid ((LL.out.drew c).below B (LL.out.drew c).size)
  have B2 := hid (Below.of_drew B)
  obtain ⟨g, cap, rfl, hcap, hg, hg2, hc⟩ := ho.cells (by decide)
  have hcell := hc 0 (by decide)
  have HC := hid hcell
  clear hcell hc hs ho B S
  have R := hid (root_any 17 2 w2 pri17 (by decide) (by decide) L2.out)
  go_wp2_with fail
  refine R.out.mono ?_
  rintro e w3 ⟨⟨y, rfl, _, hy⟩, B⟩
  obtain rfl : y = 13 := hy.uniq root17
  have hcell : w3.cell? ⟨g, 0, none⟩ = some (.int .u64 998244353) := by rw [B.cell (p := ⟨g, 0, none⟩) hg2]; exact HC.out
  have L3 := hid (L2.out.below B L2.out.size)
  have B3 := hid (B2.out.trans (B.mono B2.out.size))
  have IS := hid (is_any 91 w3 (by decide) L3.out)
  rw [is91] at IS
  clear R hy B HC
  go_wp2_with fail
  refine IS.out.mono ?_
  rintro e w4 ⟨rfl, c4, rfl⟩
  have hc4 : (w3.drewN c4).cell? ⟨g, 0, none⟩ = some (.int .u64 998244353) := by simpa using hcell
  go_wp2
  go_ret
  exact ⟨rfl, below_drewN B3.out c4⟩
end Go.Proofs.YteeldlaidohjiabDoor
