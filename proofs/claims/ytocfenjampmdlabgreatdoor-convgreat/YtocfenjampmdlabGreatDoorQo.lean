/- A call that changes one block alone; variables that lie in a block of their own; a copy into a row of words. -/
import Derived.Test.YtocfenjampmdlabGreatDoorQa
namespace Go.Proofs.YtocfenjampmdlabGreatDoor
open Go.RowKit Num Nmb

/-- one block alone was changed. -/
structure OnlyB (g : Nat) (w w' : World) : Prop where
  os : w'.os = w.os
  tape : w'.tape = w.tape
  output : w'.output = w.output
  size : w'.heap.size = w.heap.size
  block : ∀ k, k ≠ g → w'.heap[k]? = w.heap[k]?
theorem OnlyB.refl (g : Nat) (w : World) : OnlyB g w w := ⟨rfl, rfl, rfl, rfl, fun _ _ => rfl⟩
theorem OnlyB.drew {g : Nat} {w w' : World} (h : OnlyB g w w') (n : Nat) : OnlyB g w (w'.drewN n) := by
  have b := below_drewN (Below.refl w'.heap.size w') n
  refine ⟨b.os.trans h.os, b.tape.trans h.tape, b.output.trans h.output, by simpa using h.size, fun k hk => ?_⟩
  rw [show (w'.drewN n).heap = w'.heap by simp]
  exact h.block k hk
theorem OnlyB.set {g : Nat} {w w' : World} (h : OnlyB g w w') (i : Nat) (v : Value) : OnlyB g w (w'.setCell ⟨g, i, none⟩ v) :=
  ⟨h.os, h.tape, h.output, by simpa [World.setCell] using h.size, fun k hk => (heap_setCell_other w' ⟨g, i, none⟩ k v hk).trans (h.block k hk)⟩
theorem OnlyB.below {g : Nat} {w w' : World} (h : OnlyB g w w') : Below g w w' := ⟨h.os, h.tape, h.output, Nat.le_of_eq h.size.symm, fun k hk => h.block k (by omega)⟩
/-- block g holds one value. -/
def Box (w : World) (g : Nat) (v : Value) : Prop := ∃ t, w.heap[g]? = some (.cells #[v] t (0, 0))
theorem Box.cell {w : World} {g : Nat} {v : Value} (h : Box w g v) : w.cell? ⟨g, 0, none⟩ = some v := by obtain ⟨t, h⟩ := h; simp only [World.cell?, h]; rfl
theorem Box.frozen {w : World} {g : Nat} {v : Value} (h : Box w g v) (i : Nat) : w.frozen? ⟨g, i, none⟩ = false := by obtain ⟨t, h⟩ := h; simp only [World.frozen?, h]; rfl
theorem Box.lt {w : World} {g : Nat} {v : Value} (h : Box w g v) : g < w.heap.size := by obtain ⟨t, h⟩ := h; exact (Array.getElem?_eq_some_iff.1 h).1
theorem Box.only {w w' : World} {g b : Nat} {v : Value} (h : Box w g v) (o : OnlyB b w w') (hg : g ≠ b) : Box w' g v := by obtain ⟨t, h⟩ := h; exact ⟨t, by rw [o.block g hg]; exact h⟩
theorem Box.row {w : World} {g b n : Nat} {v : Value} {x : Nat → Int} (h : Box w g v) (r : Row w b n x) (hv : ∀ i, v ≠ .int .u64 i) (hn : 0 < n) : g ≠ b := by
  rintro rfl
  obtain ⟨t, h⟩ := h
  obtain ⟨cur, h1, h2, h3⟩ := r
  rw [h] at h1
  injection h1 with h1
  injection h1 with h1
  have := h3 0 hn
  rw [← h1] at this
  simp at this
  exact hv _ this
theorem Fld.only {w w' : World} {g b : Nat} {m f s : Int} (h : Fld w g m f s) (o : OnlyB b w w') (hg : g ≠ b) : Fld w' g m f s := by unfold Fld; rw [o.block g hg]; exact h
theorem cell_other {g b : Nat} (h : g ≠ b) (W : World) (i j : Nat) (v : Value) : (W.setCell ⟨b, i, none⟩ v).cell? ⟨g, j, none⟩ = W.cell? ⟨g, j, none⟩ := by
  unfold World.cell?
  rw [heap_setCell_other W ⟨b, i, none⟩ g v h]
theorem Box.drew {w : World} {g : Nat} {v : Value} (h : Box w g v) (n : Nat) : Box (w.drewN n) g v := by obtain ⟨t, h⟩ := h; exact ⟨t, by simpa using h⟩
theorem Box.set {w : World} {g : Nat} {v : Value} (h : Box w g v) (v' : Value) : Box (w.setCell ⟨g, 0, none⟩ v') g v' := by
  obtain ⟨t, h⟩ := h
  exact ⟨t, by rw [heap_setCell_same w g 0 _ _ _ h]; rfl⟩
theorem Box.other {w : World} {g b : Nat} {v : Value} (h : Box w g v) (hg : g ≠ b) (i : Nat) (v' : Value) : Box (w.setCell ⟨b, i, none⟩ v') g v := by
  obtain ⟨t, h⟩ := h
  exact ⟨t, by rw [heap_setCell_other w ⟨b, i, none⟩ g v' hg]; exact h⟩
theorem Box.below {B : Nat} {w w' : World} {g : Nat} {v : Value} (h : Box w g v) (hb : Below B w w') (hg : g < B) : Box w' g v := by obtain ⟨t, h⟩ := h; exact ⟨t, by rw [hb.block g hg]; exact h⟩
theorem Row.other {w : World} {g n b : Nat} {x : Nat → Int} (h : Row w g n x) (hg : g ≠ b) (i : Nat) (v : Value) : Row (w.setCell ⟨b, i, none⟩ v) g n x := by
  obtain ⟨cur, h1, h2, h3⟩ := h
  exact ⟨cur, by rw [heap_setCell_other w ⟨b, i, none⟩ g v hg]; exact h1, h2, h3⟩
theorem OnlyB.trans {g : Nat} {w w1 w2 : World} (h : OnlyB g w w1) (h' : OnlyB g w1 w2) : OnlyB g w w2 :=
  ⟨h'.os.trans h.os, h'.tape.trans h.tape, h'.output.trans h.output, h'.size.trans h.size, fun k hk => (h'.block k hk).trans (h.block k hk)⟩
theorem Row.only {w w' : World} {g b n : Nat} {x : Nat → Int} (h : Row w g n x) (o : OnlyB b w w') (hg : g ≠ b) : Row w' g n x := by
  obtain ⟨cur, h1, h2, h3⟩ := h
  exact ⟨cur, by rw [o.block g hg]; exact h1, h2, h3⟩
theorem Tryz.sizeU : (Tryz.prog.info? 22).map (·.size) = some 1 := by kernel_rfl
/-- a slice of words that does not lie in block g, copied into that block's row. -/
theorem wp_copyw {ops : Array Oper} {rest : List Oper} {q : Oper} {a : Act} {Q : Exit → Act → World → Prop} (w : World) (hgd : q.guard = none) (d s : Operand)
    (ho : q.op = .call { callee := .builtin .copy, args := #[d, s], argTypes := #[26, 26] })
    (g N dCap : Nat) (X : Nat → Int) (hd : a.eval d = .slice (some ⟨g, 0, none⟩) N dCap) (v : Value) (hs : a.eval s = v)
    (n : Nat) (x : Nat → Int) (hv : Wl w v n x) (hr : Row w g N X) (hnd : n ≤ N)
    (hK : ∀ w', Row w' g N (fun j => if j < n then x j else X j) → OnlyB g w w' → wpList Tryz.prog ops Q rest (a.put q.dst (goInt n)) w') :
    wpList Tryz.prog ops Q (q :: rest) a w := by
  obtain ⟨ao, cap, rfl, h1, h2, h3, h5⟩ := hv
  have hmin : Nat.min n N = n := Nat.min_eq_left hnd
  by_cases hn : n = 0
  · subst hn
    refine wpList_copy_nothing hgd d s 26 26 ho 22 Tryz.underlying26 Tryz.sizeU _ ao N dCap 0 cap hd hs (by simp) ?_
    refine hK w ?_ (OnlyB.refl _ _)
    have e : (fun j => if j < 0 then x j else X j) = X := funext fun j => if_neg (by omega)
    rw [e]
    exact hr
  · obtain ⟨b, ob, rfl, hb, hc⟩ := h5 (by omega)
    obtain ⟨cur, hg, hsz, hcur⟩ := hr
    have hlen : ((List.range n).map (fun j => Value.int .u64 (x j))).length = n := by simp
    refine wpList_copy_own hgd d s 26 26 ho 22 Tryz.underlying26 Tryz.sizeU g 0 N dCap ⟨b, ob, none⟩ n cap hd hs cur 22 hg
      ((List.range n).map (fun j => Value.int .u64 (x j))) (by rw [hlen, hmin]) ?_ (by rw [hlen, hsz]; omega) (by intro u hu; simp at hu; obtain ⟨j, _, rfl⟩ := hu; rfl) ?_
    · intro j u hj
      rw [List.getElem?_map] at hj
      simp only [Option.map_eq_some_iff] at hj
      obtain ⟨i, hi, rfl⟩ := hj
      have hjn : j < n := by
        have := (List.getElem?_eq_some_iff.1 hi).1
        simpa using this
      rw [List.getElem?_range hjn] at hi
      cases hi
      have := hc j hjn
      by_cases hj0 : j = 0
      · subst hj0; simpa [Addr.add] using this
      · simpa [Addr.add, hj0] using this
    · rw [hlen]
      refine hK _ ?_ ?_
      · refine ⟨_, setRow_heap w g _ _ 22 _ hg, ?_, ?_⟩
        · simp [hsz]; omega
        · intro j hj
          show _ = some (Value.int IntKind.u64 (if j < n then x j else X j))
          by_cases hin : j < n
          · rw [if_pos hin]
            simp [List.getElem?_append, hin]
          · rw [if_neg hin]
            have := hcur j hj
            simp [List.getElem?_append, hin, show n + (j - n) = j by omega]
            simpa using this
      · exact ⟨rfl, rfl, rfl, by simp [World.setRow], fun k hk => setRow_other w g k _ hk⟩
end Go.Proofs.YtocfenjampmdlabGreatDoor
