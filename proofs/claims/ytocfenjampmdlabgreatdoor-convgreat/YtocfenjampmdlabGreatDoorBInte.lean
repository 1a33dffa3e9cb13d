/- Whole numbers: quotients downwards. -/
import Derived.Test.YtocfenjampmdlabGreatDoorBIntd
import Derived.Deep.Cut
import Derived.Deep.QuietTactic
import Derived.BigQuiet
import Derived.BigRegion
namespace Go.Proofs.YtocfenjampmdlabGreatDoor.B
open Go.RowKit NumB

theorem sgn_ne {R : Int} (h : R ≠ 0) : (sgn R != 0) = true := by
  unfold sgn
  by_cases h1 : R < 0
  · rw [if_pos h1]; rfl
  · rw [if_neg h1, if_neg h]; rfl
theorem It.sign {w : World} {p : Bool} {ao : Option Addr} {k cap n : Nat} {A : Int} (h : It w (.agg #[.bool p, .slice ao k cap]) n A) : p = decide (A < 0) := by
  obtain ⟨neg, ao', k', cap', a, e, h1, h2, rfl, h4, h5⟩ := h
  simp only [Value.agg.injEq, Array.mk.injEq, List.cons.injEq, Value.bool.injEq] at e
  obtain ⟨rfl, -⟩ := e
  cases p
  · simp [sg]; omega
  · have := h4 rfl; simp [sg]; omega
theorem Var.drew {w : World} {g : Nat} {p : Bool} {ao : Option Addr} {n c : Nat} (h : Var w g p ao n c) : Var w.drew g p ao n c := h
theorem pair (w : World) (p : Bool) (ao : Option Addr) (n c : Nat) (q : Bool) (bo : Option Addr) (m d : Nat) :
    Var ((w.alloc (.cells #[.bool p, .slice ao n c] 42)).alloc (.cells #[.bool q, .slice bo m d] 42)) w.heap.size p ao n c ∧
    Var ((w.alloc (.cells #[.bool p, .slice ao n c] 42)).alloc (.cells #[.bool q, .slice bo m d] 42)) (w.heap.size + 1) q bo m d ∧
    Below w.heap.size w ((w.alloc (.cells #[.bool p, .slice ao n c] 42)).alloc (.cells #[.bool q, .slice bo m d] 42)) :=
  ⟨(var_mk w p ao n c).alloc _, by simpa using var_mk (w.alloc (.cells #[.bool p, .slice ao n c] 42)) q bo m d, bt (below_new w _) (below_new _ _)⟩
/-- what the two variables hold ahead of the return. -/
def DM (w : World) (gq gl n m : Nat) (Q R : Int) (w' : World) : Prop :=
  ∃ p1 ao1 k1 c1 p2 ao2 k2 c2, Var w' gq p1 ao1 k1 c1 ∧ Var w' gl p2 ao2 k2 c2 ∧ Var w' (w.heap.size + 2) false none 0 0 ∧ Var w' (w.heap.size + 3) false none 0 0 ∧
    It w' (.agg #[.bool p1, .slice ao1 k1 c1]) (n + 2) Q ∧ It w' (.agg #[.bool p2, .slice ao2 k2 c2]) (max n m + 1) R ∧ Below w.heap.size w w'
end Go.Proofs.YtocfenjampmdlabGreatDoor.B
