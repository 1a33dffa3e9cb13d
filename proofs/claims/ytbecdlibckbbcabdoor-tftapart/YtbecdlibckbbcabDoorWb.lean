/- What a field is in memory. -/
import Derived.Test.YtbecdlibckbbcabDoorRows
import Derived.Test.YtbecdlibckbbcabDoorWn
import Derived.WalkKit
import Derived.WalkSpells
import Derived.WalkLawsBesides
namespace Go.Proofs.YtbecdlibckbbcabDoor
open Go.RowKit Num

theorem hid {p : Prop} (h : p) : Hid p := h
theorem ret_int' {k : IntKind} {a b : Int} (h : a = b) : Ending.returned (.int k a) = .returned (.int k b) := by rw [h]

/-- block g holds the numbers modulo m. -/
def Fld (w : World) (g : Nat) (m f s : Int) : Prop :=
  w.heap[g]? = some (.cells #[.int .u64 m, .int .u64 f, .int .u64 s] 59 (0, 0))
theorem Fld.lt {w : World} {g : Nat} {m f s : Int} (h : Fld w g m f s) : g < w.heap.size := (Array.getElem?_eq_some_iff.1 h).1
theorem Fld.cell0 {w : World} {g : Nat} {m f s : Int} (h : Fld w g m f s) : w.cell? ⟨g, 0, none⟩ = some (.int .u64 m) := by
  unfold Fld at h; simp only [World.cell?, h]; rfl
theorem Fld.cell1 {w : World} {g : Nat} {m f s : Int} (h : Fld w g m f s) : w.cell? ⟨g, 1, none⟩ = some (.int .u64 f) := by
  unfold Fld at h; simp only [World.cell?, h]; rfl
theorem Fld.cell2 {w : World} {g : Nat} {m f s : Int} (h : Fld w g m f s) : w.cell? ⟨g, 2, none⟩ = some (.int .u64 s) := by
  unfold Fld at h; simp only [World.cell?, h]; rfl
theorem Fld.frozen {w : World} {g : Nat} {m f s : Int} (h : Fld w g m f s) (i : Nat) : w.frozen? ⟨g, i, none⟩ = false := by
  unfold Fld at h; simp only [World.frozen?, h]; rfl
theorem Fld.drew {w : World} {g : Nat} {m f s : Int} (h : Fld w g m f s) (k : Nat) : Fld (w.drewN k) g m f s := by
  unfold Fld at *; simpa using h
theorem Fld.below {B : Nat} {w w' : World} {g : Nat} {m f s : Int} (h : Fld w g m f s) (hb : Below B w w') (hg : g < B) : Fld w' g m f s := by
  unfold Fld; rw [hb.block g hg]; exact h
/-- what is known of a field's parts. -/
structure Ok (m f s : Int) : Prop where
  h2 : 2 ≤ m
  h63 : m ≤ 9223372036854775807
  odd : m % 2 = 1 → Mont m f ∧ s = 18446744073709551616 * 18446744073709551616 % m
theorem Fld.heap {w w' : World} {g : Nat} {m f s : Int} (h : Fld w g m f s) (e : w'.heap = w.heap) : Fld w' g m f s := by unfold Fld; rw [e]; exact h
/-- what was below a mark stays, through draws and through one more call. -/
theorem fin {B : Nat} {w w1 W w2 : World} (h : Below B w w1) (hB : B ≤ w1.heap.size) (e1 : W.heap = w1.heap) (e2 : W.os = w1.os) (e3 : W.tape = w1.tape) (e4 : W.output = w1.output) (b : Below W.heap.size W w2) : Below B w w2 :=
  ⟨b.os.trans (e2.trans h.os), b.tape.trans (e3.trans h.tape), b.output.trans (e4.trans h.output), Nat.le_trans h.size (Nat.le_trans (by rw [e1]; exact Nat.le_refl _) b.size),
    fun k hk => (b.block k (by rw [e1]; omega)).trans (by rw [e1]; exact h.block k hk)⟩
end Go.Proofs.YtbecdlibckbbcabDoor
