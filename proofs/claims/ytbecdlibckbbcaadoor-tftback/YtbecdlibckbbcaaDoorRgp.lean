/- A region whose operations, and callees, leave what lay in memory as it was, in whatever order. -/
import Derived.Test.YtbecdlibckbbcaaDoorWb
import Derived.Test.YtbecdlibckbbcaaDoorRgq
namespace Go.Proofs.YtbecdlibckbbcaaDoor
open Go.RowKit Num
section
variable {P : Program} {Q : Exit → Act → World → Prop}

/-- the worlds in which what lay in w lies as it was. -/
def Beh (w : World) : Type := { w' : World // Below w.heap.size w w' }
theorem Beh.size {w : World} (x : Beh w) : w.heap.size ≤ x.1.heap.size := x.2.size
theorem Calls.beh_of {f : FuncId} {args : Array Value} {w : World} {x : Beh w} {v : Value} (h : Calls P f args x.1 fun e w' => e = .returned v ∧ Below x.1.heap.size x.1 w') :
    Calls P f args x.1 fun e w'' => e = .returned v ∧ ∃ y : Beh w, w'' = y.1 := h.mono fun _ w'' ⟨he, hb⟩ => ⟨he, ⟨w'', x.2.trans (hb.mono x.size)⟩, rfl⟩
theorem Calls.beh_same {f : FuncId} {args : Array Value} {w : World} {x : Beh w} {v : Value} (h : Calls P f args x.1 fun e w' => e = .returned v ∧ w' = x.1) :
    Calls P f args x.1 fun e w'' => e = .returned v ∧ ∃ y : Beh w, w'' = y.1 := h.mono fun _ _ ⟨he, hb⟩ => ⟨he, x, hb⟩
theorem Calls.beh_drew {f : FuncId} {args : Array Value} {w : World} {x : Beh w} {v : Value} (h : Calls P f args x.1 fun e w' => e = .returned v ∧ ∃ n, w' = x.1.drewN n) :
    Calls P f args x.1 fun e w'' => e = .returned v ∧ ∃ y : Beh w, w'' = y.1 := h.mono fun _ w'' ⟨he, n, hb⟩ => ⟨he, ⟨w'', by rw [hb]; exact below_drewN x.2 n⟩, rfl⟩
theorem Beh.some (w : World) : Nonempty (Beh w) := ⟨⟨w, Below.refl _ _⟩⟩
/-- a region whose operations, and callees, leave what lay in w as it was: one walk in the order of the text. -/
theorem wp_region_beh {id : Nat} {a : Act} {w : World} {l : List Oper} (hm : P.follows .mixedOrders = true) (hB : Region.lexB .any l.toArray = true)
    (h : wpQuiet P l.toArray (fun w' => ∃ x : Beh w, w' = x.1) (fun a' => ∀ w', (∃ x : Beh w, w' = x.1) → Q .normal a' w') l a) : (Code.region id l.toArray true).wp P Q a w :=
  wp_region_quiet (C := fun w' => ∃ x : Beh w, w' = x.1) hm hB ⟨⟨w.drewN 1, below_drewN (Below.refl _ _) 1⟩, rfl⟩ (by simpa using h)
end
end Go.Proofs.YtbecdlibckbbcaaDoor
