/- The reference's Round and Go. -/
import Derived.Test.YtbecdlibckbbcabDoorQs
import Derived.Test.YtbecdlibckbbcabDoorRr
namespace Go.Proofs.YtbecdlibckbbcabDoor
open Go.RowKit Num Nmb

/-- the first i values. -/
def GoR (a : Nat → Int) (r p n : Nat) (X : List Nat) : Prop := (∀ j, j < X.length → lw X j = dft a r n j % p) ∧ ∀ c, c ∈ X → c ≤ 18446744073709551615
theorem GoR.push {a : Nat → Int} {r p n c : Nat} {X : List Nat} (h : GoR a r p n X) (hp : 0 < p) (hp' : p ≤ 9223372036854775807) (hc : (c : Int) = ev a n (r ^ X.length % p : Nat) % p) : GoR a r p n (X ++ [c]) := by
  refine ⟨fun j hj => ?_, fun d hd => ?_⟩
  · rw [lw_push]
    by_cases e : j = X.length
    · rw [if_pos e, hc, dft_ev, e]
      have : Cg p ((r ^ X.length % p : Nat) : Int) ((r : Int) ^ X.length) := by
        rw [Int.natCast_emod, Int.natCast_pow]
        exact Cg.mod
      exact ev_cg (fun i _ => Cg.rfl) this
    · rw [if_neg e]
      exact h.1 j (by simp at hj; omega)
  · rcases List.mem_append.1 hd with hd | hd
    · exact h.2 d hd
    · simp at hd
      subst hd
      have := Int.emod_lt_of_pos (ev a n (r ^ X.length % p : Nat)) (show 0 < (p : Int) by omega)
      omega
theorem pushedW {w w2 w3 : World} {v v' : Value} {L : List Nat} {c : Nat} {o : Obj} (h : OwW w2 w.heap.size v L) (B : Below w.heap.size w w2) (hb : w.heap.size ≤ w2.heap.size)
    (own : w3.ownsRow w.heap.size 28 1 v' (L.length + 1) (wordCells L ++ [.int .u64 (c : Int)])) (grow : (w2.alloc o).grownBy w3 v.ownBlock) :
    ∃ ao cap, v' = .slice ao (L.length + 1) cap ∧ Hid (OwW w3 w.heap.size (.slice ao (L.length + 1) cap) (L ++ [c])) ∧ Hid (Below w.heap.size w w3) ∧ w.heap.size ≤ w3.heap.size := by
  obtain ⟨h1, h2, h3⟩ := OwW.push h hb rfl own grow
  obtain ⟨ao, cap, hv⟩ := h1.slice
  rw [List.length_append, List.length_singleton] at hv
  subst hv
  exact ⟨ao, cap, rfl, h1, B.trans h2, h3⟩
end Go.Proofs.YtbecdlibckbbcabDoor
