/- What the reference's Order answers. -/
/- What the reference's Root answers. -/
import Derived.Test.YtbecdlibckbbcabDoorRt
import Derived.Test.YtbecdlibckbbcabDoorPo
import Derived.Test.YtbecdlibckbbcabDoorVq
import Derived.Deep.RegionHeld3
namespace Go.Proofs.YtbecdlibckbbcabDoor
open Go.RowKit Num Nmb

/-- what the reference's Order answers. -/
def RO (p x : Nat) (m : Int) : Prop := (∃ k : Nat, m = k ∧ k < 64 ∧ Ord p x k) ∨ (m = -1 ∧ ∀ i, i < 64 → x ^ 2 ^ i % p ≠ 1)
theorem Ord.uniq {p x a b : Nat} (h : Ord p x a) (h' : Ord p x b) : a = b := by
  rcases Nat.lt_trichotomy a b with hl | hl | hl
  · exact absurd h.1 (h'.2 a hl)
  · exact hl
  · exact absurd h'.1 (h.2 b hl)
theorem RO.ord {p x k : Nat} {m : Int} (h : RO p x m) (hk : k < 64) : m = k ↔ Ord p x k := by
  constructor
  · intro e
    rcases h with ⟨j, h1, _, h3⟩ | ⟨h1, _⟩
    · obtain rfl : j = k := by omega
      exact h3
    · omega
  · intro ho
    rcases h with ⟨j, h1, _, h3⟩ | ⟨_, h2⟩
    · rw [h1, h3.uniq ho]
    · exact absurd ho.1 (h2 k hk)
end Go.Proofs.YtbecdlibckbbcabDoor
namespace Go.Proofs.YtbecdlibckbbcabDoor
open Go.RowKit Num Nmb

theorem tw_uniq {p t : Nat} (h2 : 2 ≤ p) (hn : p ≤ 18446744073709551615) (h : Tw (p - 1) t) : t = tw p := by
  obtain ⟨m, hm⟩ := h
  obtain ⟨e1, e2, _⟩ := tw_said (n := p) (by omega) hn
  rw [e1, show od p = 2 * (od p / 2) + 1 by omega, Nat.mul_comm] at hm
  exact (two_uniq hm).symm
theorem root2 : RootIs 2 0 1 := ⟨1, by decide, by decide, ⟨by decide, fun i hi => absurd hi (by omega)⟩, fun x h1 h2 => absurd h2 (by omega)⟩
end Go.Proofs.YtbecdlibckbbcabDoor
