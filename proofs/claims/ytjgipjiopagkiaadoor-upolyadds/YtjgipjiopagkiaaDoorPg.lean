/- What prime's Scan answers. -/
import Derived.Test.YtjgipjiopagkiaaDoorPf
import Derived.LaidMore
import Derived.Laws.OwnMore
namespace Go.Proofs.YtjgipjiopagkiaaDoor
open Go.RowKit Num Nmb

/-- the numbers told to be primes among 1 and so many times u, the greatest one first. -/
noncomputable def gath (u : Nat) : Nat → List Nat
  | 0 => []
  | i + 1 => if isB (1 + u * (i + 1)) = true then (1 + u * (i + 1)) :: gath u i else gath u i
def wordCells (l : List Nat) : List Value := l.map fun (n : Nat) => Value.int .u64 (n : Int)
def OwW (w : World) (base : Nat) (v : Value) (l : List Nat) : Prop := w.ownsRow base 22 1 v l.length (wordCells l)
theorem own_block {base n k : Nat} {e : TypeId} {v : Value} {xs : List Value} {w w' : World} (h : w.ownsRow base e 1 v n xs) (o : w.grownBy w' v.ownBlock) (hk : k < base) (hw : k < w.heap.size) : w'.heap[k]? = w.heap[k]? :=
  o.block k hw (fun e => by have := (h.lt k e.symm).1; omega)
theorem grown_below {w w' : World} {base n : Nat} {e : TypeId} {v : Value} {xs : List Value} (h : w.ownsRow base e 1 v n xs) (g : w.grownBy w' v.ownBlock) (hb : base ≤ w.heap.size) : Below base w w' :=
  ⟨g.os, g.tape, g.output, g.size, fun _ hk => own_block h g hk (by omega)⟩
theorem OwW.push {w w3 : World} {base N : Nat} {v v' : Value} {L : List Nat} {c : Nat} {o : Obj} (h : OwW w base v L) (hb : base ≤ w.heap.size) (hN : N = L.length + 1)
    (own : w3.ownsRow base 22 1 v' N (wordCells L ++ [.int .u64 (c : Int)])) (grow : (w.alloc o).grownBy w3 v.ownBlock) : OwW w3 base v' (L ++ [c]) ∧ Below base w w3 ∧ base ≤ w3.heap.size := by
  have h2 : (w.alloc o).ownsRow base 22 1 v L.length (wordCells L) := World.ownsRow.alloc h _
  have b2 := grown_below h2 grow (by simp; omega)
  refine ⟨?_, ((Below.refl _ _).alloc hb o).trans b2, ?_⟩
  · subst hN
    unfold OwW
    rw [List.length_append, List.length_singleton]
    simpa [wordCells] using own
  · have := b2.size; simp at this; omega
theorem OwW.heap {w w' : World} {base : Nat} {v : Value} {l : List Nat} (h : OwW w base v l) (e : w'.heap = w.heap) : OwW w' base v l := by
  unfold OwW World.ownsRow at *
  rw [e]
  exact h
theorem OwW.slice {w : World} {base : Nat} {v : Value} {l : List Nat} (h : OwW w base v l) : ∃ ao cap, v = .slice ao l.length cap := by
  rcases h.2 with ⟨rfl, h0⟩ | ⟨g, cap, cur, rfl, hg, hgg, hgc, hgm, hgs, htk⟩
  · exact ⟨none, 0, by rw [h0]⟩
  · exact ⟨_, cap, rfl⟩
theorem Tryd.infoWord : (Tryd.prog.info? 22).map (fun i => (i.zero, i.size, i.bytes)) = some (some (Value.int IntKind.u64 0), 1, 8) := by kernel_rfl
theorem pushed {w w2 w3 : World} {v v' : Value} {L : List Nat} {c : Nat} {o : Obj} (h : OwW w2 w.heap.size v L) (B : Below w.heap.size w w2) (Y : Lay w2) (Y0 : Lay w) (hb : w.heap.size ≤ w2.heap.size)
    (own : w3.ownsRow w.heap.size 22 1 v' (L.length + 1) (wordCells L ++ [.int .u64 (c : Int)])) (grow : (w2.alloc o).grownBy w3 v.ownBlock) :
    ∃ ao cap, v' = .slice ao (L.length + 1) cap ∧ Hid (OwW w3 w.heap.size (.slice ao (L.length + 1) cap) (L ++ [c])) ∧ Hid (Below w.heap.size w w3) ∧ Hid (Lay w3) ∧ w.heap.size ≤ w3.heap.size := by
  obtain ⟨h1, h2, h3⟩ := OwW.push h hb rfl own grow
  obtain ⟨ao, cap, hv⟩ := h1.slice
  rw [List.length_append, List.length_singleton] at hv
  subst hv
  exact ⟨ao, cap, rfl, h1, B.trans h2, Y.below h2 Y0.size, h3⟩
/-- what Scan answers, of all that there are. -/
def ScanIs (w' : World) (base : Nat) (v : Value) (er : Int) (many : Nat) (G : List Nat) : Prop := (er = 0 ∧ OwW w' base v (G.take many) ∧ many ≤ G.length) ∨ (er = 19 ∧ v = .slice none 0 0 ∧ G.length < many)
end Go.Proofs.YtjgipjiopagkiaaDoor
