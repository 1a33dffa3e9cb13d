/- The coefficients of a box at their places in a wider one, in the landed conv. -/
/- Spread, packed, and what may be a box, in the landed conv. -/
/- What may be a box, and a box packed, in the landed conv. -/
import Derived.Test.YtocfenjampmdlabGreatDoorDm
import Derived.Test.YtocfenjampmdlabGreatDoorDn
import Derived.Test.YtocfenjampmdlabGreatDoorDg
namespace Go.Proofs.YtocfenjampmdlabGreatDoor
open Go.RowKit Num Nmb

theorem OnlyB.cell {g b i : Nat} {w w' : World} (h : OnlyB b w w') (hg : g ≠ b) : w'.cell? ⟨g, i, none⟩ = w.cell? ⟨g, i, none⟩ := by
  unfold World.cell?
  rw [h.block g hg]
theorem Wi.spot {w : World} {a : Option Addr} {n c : Nat} {x : Nat → Int} (h : Wi w (.slice a n c) n x) (hn : 0 < n) : ∃ b off, a = some ⟨b, off, none⟩ ∧ b < w.heap.size ∧ ∀ j, j < n → w.cell? ⟨b, off + j, none⟩ = some (.int .i64 (x j)) := by
  obtain ⟨ao, cap, e, h1, h2, h3, h5⟩ := h
  injection e with e1 e2 e3
  subst e1
  exact h5 hn
theorem Wl.spot' {w : World} {a : Option Addr} {n c : Nat} {x : Nat → Int} (h : Wl w (.slice a n c) n x) (hn : 0 < n) : ∃ b off, a = some ⟨b, off, none⟩ ∧ b < w.heap.size ∧ ∀ j, j < n → w.cell? ⟨b, off + j, none⟩ = some (.int .u64 (x j)) := by
  obtain ⟨ao, cap, e, h1, h2, h3, h5⟩ := h
  injection e with e1 e2 e3
  subst e1
  exact h5 hn
/-- what is known of the two boxes. -/
structure WlkH (w : World) (n ka K : Nat) (fo xo lo : Option Addr) (fc dc lc : Nat) (d f a : Nat → Int) : Prop where
  hF : Wi w (.slice fo n fc) n f
  hD : Wi w (.slice xo n dc) n d
  hA : Wl w (.slice lo ka lc) ka a
  hd : ∀ t, t < n → 1 ≤ d t
  hf : ∀ t, t < n → d t ≤ f t
  hka : pd d n = ka
  hk6 : ka ≤ 65536
  hf6 : pd f n ≤ 65536
  hK : ∀ i, i < ka → ph d f n i < K
  hK6 : K ≤ 65536
  hn8 : n ≤ 8
end Go.Proofs.YtocfenjampmdlabGreatDoor
namespace Go.Proofs.YtocfenjampmdlabGreatDoor
open Go.RowKit Num Nmb

end Go.Proofs.YtocfenjampmdlabGreatDoor
namespace Go.Proofs.YtocfenjampmdlabGreatDoor
open Go.RowKit Num Nmb

end Go.Proofs.YtocfenjampmdlabGreatDoor
