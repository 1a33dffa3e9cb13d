/- Slices of words. -/
/- A call that changes one block alone; variables that lie in a block of their own; a copy into a row of words. -/
/- Fresh lists of words, one by one; the reference's Norm (chapter 9). -/
import Derived.Test.YtjgipjiopagkiaaDoorPg
import Derived.Test.YtjgipjiopagkiaaDoorVw
import Derived.Test.YtjgipjiopagkiaaDoorEn
import Derived.Laws.CopyOwn
import Derived.OwnWalk
namespace Go.Proofs.YtjgipjiopagkiaaDoor
open Go.RowKit Num Nmb

/-- 'v' is a slice of the n words x. -/
def Wl (w : World) (v : Value) (n : Nat) (x : Nat → Int) : Prop :=
  ∃ ao cap, v = .slice ao n cap ∧ n ≤ cap ∧ cap ≤ 9223372036854775807 ∧ (∀ j, j < n → 0 ≤ x j ∧ x j ≤ 18446744073709551615) ∧
    (0 < n → ∃ b off, ao = some ⟨b, off, none⟩ ∧ b < w.heap.size ∧ ∀ j, j < n → w.cell? ⟨b, off + j, none⟩ = some (.int .u64 (x j)))
theorem Wl.below {w w' : World} {v : Value} {n : Nat} {x : Nat → Int} (h : Wl w v n x) (hb : Below w.heap.size w w') : Wl w' v n x := by
  obtain ⟨ao, cap, rfl, h1, h2, h3, h5⟩ := h
  refine ⟨ao, cap, rfl, h1, h2, h3, fun hn => ?_⟩
  obtain ⟨b, off, rfl, hbs, hc⟩ := h5 hn
  refine ⟨b, off, rfl, Nat.lt_of_lt_of_le hbs hb.size, fun j hj => ?_⟩
  rw [hb.cell (p := ⟨b, off + j, none⟩) hbs]; exact hc j hj
/-- block g holds n words x. -/
def Row (w : World) (g n : Nat) (x : Nat → Int) : Prop :=
  ∃ cur : Array Value, w.heap[g]? = some (.cells cur 22 (0, 0)) ∧ cur.size = n ∧ ∀ j, j < n → cur[j]? = some (.int .u64 (x j))
theorem Row.cell {w : World} {g n : Nat} {x : Nat → Int} (h : Row w g n x) {i : Nat} (hi : i < n) : w.cell? ⟨g, i, none⟩ = some (.int .u64 (x i)) := by
  obtain ⟨cur, hg, _, hc⟩ := h
  simp [World.cell?, hg, hc i hi]
theorem Row.frozen {w : World} {g n : Nat} {x : Nat → Int} (h : Row w g n x) (i : Nat) : w.frozen? ⟨g, i, none⟩ = false := by
  obtain ⟨cur, hg, _, hc⟩ := h
  simp [World.frozen?, hg]
theorem Row.set {w : World} {g n : Nat} {x y : Nat → Int} (h : Row w g n x) (i : Nat) (v : Int) (e : ∀ j, j < n → y j = if j = i then v else x j) : Row (w.setCell ⟨g, i, none⟩ (.int .u64 v)) g n y := by
  obtain ⟨cur, hg, hs, hc⟩ := h
  refine ⟨cur.setIfInBounds i (.int .u64 v), ?_, by simpa using hs, fun j hj => ?_⟩
  · rw [heap_setCell_same w g i cur 22 _ hg]
  · rw [e j hj]
    by_cases e : j = i
    · subst e; rw [Array.getElem?_setIfInBounds]; simp [hs, hj]
    · rw [Array.getElem?_setIfInBounds]; simp [Ne.symm e, e, hc j hj]
theorem Row.drew {w : World} {g n : Nat} {x : Nat → Int} (h : Row w g n x) (k : Nat) : Row (w.drewN k) g n x := by
  obtain ⟨cur, hg, hs, hc⟩ := h
  exact ⟨cur, by simpa using hg, hs, hc⟩
theorem Row.below {B : Nat} {w w' : World} {g n : Nat} {x : Nat → Int} (h : Row w g n x) (hb : Below B w w') (hg : g < B) : Row w' g n x := by
  obtain ⟨cur, h1, h2, h3⟩ := h
  exact ⟨cur, by rw [hb.block g hg]; exact h1, h2, h3⟩
theorem Row.lt {w : World} {g n : Nat} {x : Nat → Int} (h : Row w g n x) : g < w.heap.size := by
  obtain ⟨cur, hg, _⟩ := h
  exact (Array.getElem?_eq_some_iff.1 hg).1
theorem Fld.other {w : World} {g r : Nat} {m f s : Int} (h : Fld w g m f s) (hg : g ≠ r) (i : Nat) (v : Value) : Fld (w.setCell ⟨r, i, none⟩ v) g m f s := by
  unfold Fld; rw [heap_setCell_other w ⟨r, i, none⟩ g v hg]; exact h
theorem Tryd.infoU : (Tryd.prog.info? 22).map (fun i => (i.zero, i.size, i.bytes)) = some (some (.int .u64 0), 1, 8) := by kernel_rfl
theorem Row.new (w : World) (n : Nat) : Row (w.alloc (.cells (madeCells #[.int .u64 0] (n * 1)) 22)) w.heap.size n (fun _ => 0) := by
  refine ⟨madeCells #[.int .u64 0] (n * 1), ?_, by simp [size_madeCells], fun j hj => ?_⟩
  · exact heap_alloc_new w _
  · simp [madeCells, hj, Nat.mod_one]
theorem wp_make {ops : Array Oper} {rest : List Oper} {o : Oper} {a : Act} {Q : Exit → Act → World → Prop} (w : World) (hg : o.guard = none) (l c : Operand) (hop : o.op = Op.makeSlice 23 l c)
    (L C : Int) (n : Nat) (hl : a.eval l = .int .i64 L) (hc : a.eval c = .int .i64 C) (hL : L = (n : Int)) (hC : C = (n : Int)) (hn : n ≤ 1000000000)
    (hK : ∀ w', Row w' w.heap.size n (fun _ => 0) → Below w.heap.size w w' → w'.heap.size = w.heap.size + 1 → wpList Tryd.prog ops Q rest (a.put o.dst (.slice (some ⟨w.heap.size, 0, none⟩) n n)) w') :
    wpList Tryd.prog ops Q (o :: rest) a w := by
  obtain ⟨i0, hi, hz0, hz1, hz2⟩ := info_parts Tryd.infoU
  refine wpList_plain hg fun K hK' => ?_
  have hr := run_make (P := Tryd.prog) w 23 22 i0 (.int .u64 0) Tryd.underlying23 hi hz0 .i64 .i64 n n (by omega) (Int.le_refl _) (by rw [hz2]; omega) (by omega)
  simp only [Int.toNat_natCast] at hr
  rw [hz1] at hr
  subst hL; subst hC
  unfold Oper.wp
  simp [execOp, hop, hl, hc, hr, Result.andThen]
  refine hK' _ _ (hK _ ?_ ?_ ?_)
  · have := Row.new w n
    rw [Nat.mul_one] at this
    exact this
  · exact (Below.refl _ _).alloc (Nat.le_refl _) _
  · simp
theorem Wl.heap {w w' : World} {v : Value} {n : Nat} {x : Nat → Int} (h : Wl w v n x) (e : w'.heap = w.heap) : Wl w' v n x := by
  obtain ⟨ao, cap, rfl, h1, h2, h3, h5⟩ := h
  refine ⟨ao, cap, rfl, h1, h2, h3, fun hn => ?_⟩
  obtain ⟨b, off, rfl, hbs, hc⟩ := h5 hn
  refine ⟨b, off, rfl, by rw [e]; exact hbs, fun j hj => ?_⟩
  unfold World.cell? at *
  rw [e]; exact hc j hj
theorem Wl.drew {w : World} {v : Value} {n : Nat} {x : Nat → Int} (h : Wl w v n x) (k : Nat) : Wl (w.drewN k) v n x := h.heap (by simp)
theorem Wl.eq {w : World} {v : Value} {n : Nat} {x y : Nat → Int} (h : Wl w v n x) (e : ∀ j, j < n → x j = y j) : Wl w v n y := by
  obtain ⟨ao, cap, rfl, h1, h2, h3, h5⟩ := h
  refine ⟨ao, cap, rfl, h1, h2, fun j hj => by rw [← e j hj]; exact h3 j hj, fun hn => ?_⟩
  obtain ⟨b, off, rfl, hbs, hc⟩ := h5 hn
  exact ⟨b, off, rfl, hbs, fun j hj => by rw [← e j hj]; exact hc j hj⟩
theorem Wl.val {w : World} {v : Value} {n : Nat} {x : Nat → Int} (h : Wl w v n x) {j : Nat} (hj : j < n) : 0 ≤ x j ∧ x j ≤ 18446744073709551615 := by
  obtain ⟨ao, cap, rfl, h1, h2, h3, h5⟩ := h
  exact h3 j hj
theorem Wl.nil (w : World) (x : Nat → Int) : Wl w (.slice none 0 0) 0 x := ⟨none, 0, rfl, Nat.le_refl _, by omega, fun j hj => absurd hj (by omega), fun h => absurd h (by omega)⟩
theorem Row.wl {w : World} {g n : Nat} {x : Nat → Int} (h : Row w g n x) (hv : ∀ j, j < n → 0 ≤ x j ∧ x j ≤ 18446744073709551615) (hn : n ≤ 9223372036854775807) : Wl w (.slice (some ⟨g, 0, none⟩) n n) n x :=
  ⟨_, n, rfl, Nat.le_refl _, hn, hv, fun _ => ⟨g, 0, rfl, h.lt, fun j hj => by rw [Nat.zero_add]; exact h.cell hj⟩⟩
theorem OwW.wl {w : World} {base : Nat} {v : Value} {l : List Nat} (h : OwW w base v l) (hv : ∀ x, x ∈ l → x ≤ 18446744073709551615) : Wl w v l.length (fun j => (l.getD j 0 : Nat)) := by
  have bd : ∀ j, j < l.length → (0 : Int) ≤ (l.getD j 0 : Nat) ∧ ((l.getD j 0 : Nat) : Int) ≤ 18446744073709551615 := fun j hj => by
    have : l.getD j 0 ∈ l := by rw [List.getD_eq_getElem?_getD, List.getElem?_eq_getElem hj]; exact List.getElem_mem _
    have := hv _ this
    omega
  rcases h.2 with ⟨rfl, h0⟩ | ⟨g, cap, cur, rfl, hg, hgg, hgc, hgm, hgs, htk⟩
  · refine ⟨none, 0, by rw [h0], by omega, by omega, bd, fun h => absurd h (by omega)⟩
  · refine ⟨_, cap, rfl, hgc, by unfold maxLen at hgm; omega, bd, fun _ => ⟨g, 0, rfl, (Array.getElem?_eq_some_iff.1 hgg).1, fun j hj => ?_⟩⟩
    have e := World.ownsRow.cellAt h j (by omega)
    rw [Nat.zero_add, e]
    unfold wordCells
    rw [List.getElem?_map, List.getElem?_eq_getElem hj]
    have e2 : l.getD j 0 = l[j] := by rw [List.getD_eq_getElem?_getD, List.getElem?_eq_getElem hj]; rfl
    show some (Value.int IntKind.u64 _) = some (Value.int IntKind.u64 ((l.getD j 0 : Nat) : Int))
    rw [e2]
/-- the numbers of a list of words. -/
def lw (l : List Nat) (j : Nat) : Int := (l.getD j 0 : Nat)
theorem lw_push (l : List Nat) (c j : Nat) : lw (l ++ [c]) j = if j = l.length then (c : Int) else lw l j := by
  unfold lw
  by_cases e : j = l.length
  · rw [if_pos e, e]; simp
  · rw [if_neg e]
    by_cases h : j < l.length
    · rw [List.getD_eq_getElem?_getD, List.getD_eq_getElem?_getD, List.getElem?_append_left h]
    · rw [List.getD_eq_getElem?_getD, List.getD_eq_getElem?_getD, List.getElem?_eq_none (by simp; omega), List.getElem?_eq_none (by omega)]
end Go.Proofs.YtjgipjiopagkiaaDoor
namespace Go.Proofs.YtjgipjiopagkiaaDoor
open Go.RowKit Num Nmb

/-- one block alone was changed. -/
structure OnlyB (g : Nat) (w w' : World) : Prop where
  os : w'.os = w.os
  tape : w'.tape = w.tape
  output : w'.output = w.output
  size : w'.heap.size = w.heap.size
  block : ∀ k, k ≠ g → w'.heap[k]? = w.heap[k]?
theorem OnlyB.refl (g : Nat) (w : World) : OnlyB g w w := ⟨rfl, rfl, rfl, rfl, fun _ _ => rfl⟩
theorem OnlyB.drew {g : Nat} {w w' : World} (h : OnlyB g w w') (n : Nat) : OnlyB g w (w'.drewN n) := by
  have b := below_drewN (Below.refl w'.heap.size w') n
  refine ⟨b.os.trans h.os, b.tape.trans h.tape, b.output.trans h.output, by simpa using h.size, fun k hk => ?_⟩
  rw [show (w'.drewN n).heap = w'.heap by simp]
  exact h.block k hk
theorem OnlyB.set {g : Nat} {w w' : World} (h : OnlyB g w w') (i : Nat) (v : Value) : OnlyB g w (w'.setCell ⟨g, i, none⟩ v) :=
  ⟨h.os, h.tape, h.output, by simpa [World.setCell] using h.size, fun k hk => (heap_setCell_other w' ⟨g, i, none⟩ k v hk).trans (h.block k hk)⟩
theorem OnlyB.below {g : Nat} {w w' : World} (h : OnlyB g w w') : Below g w w' := ⟨h.os, h.tape, h.output, Nat.le_of_eq h.size.symm, fun k hk => h.block k (by omega)⟩
/-- block g holds one value. -/
def Box (w : World) (g : Nat) (v : Value) : Prop := ∃ t, w.heap[g]? = some (.cells #[v] t (0, 0))
theorem Box.cell {w : World} {g : Nat} {v : Value} (h : Box w g v) : w.cell? ⟨g, 0, none⟩ = some v := by obtain ⟨t, h⟩ := h; simp only [World.cell?, h]; rfl
theorem Box.frozen {w : World} {g : Nat} {v : Value} (h : Box w g v) (i : Nat) : w.frozen? ⟨g, i, none⟩ = false := by obtain ⟨t, h⟩ := h; simp only [World.frozen?, h]; rfl
theorem Box.lt {w : World} {g : Nat} {v : Value} (h : Box w g v) : g < w.heap.size := by obtain ⟨t, h⟩ := h; exact (Array.getElem?_eq_some_iff.1 h).1
theorem Box.only {w w' : World} {g b : Nat} {v : Value} (h : Box w g v) (o : OnlyB b w w') (hg : g ≠ b) : Box w' g v := by obtain ⟨t, h⟩ := h; exact ⟨t, by rw [o.block g hg]; exact h⟩
theorem Box.row {w : World} {g b n : Nat} {v : Value} {x : Nat → Int} (h : Box w g v) (r : Row w b n x) (hv : ∀ i, v ≠ .int .u64 i) (hn : 0 < n) : g ≠ b := by
  rintro rfl
  obtain ⟨t, h⟩ := h
  obtain ⟨cur, h1, h2, h3⟩ := r
  rw [h] at h1
  injection h1 with h1
  injection h1 with h1
  have := h3 0 hn
  rw [← h1] at this
  simp at this
  exact hv _ this
theorem Fld.only {w w' : World} {g b : Nat} {m f s : Int} (h : Fld w g m f s) (o : OnlyB b w w') (hg : g ≠ b) : Fld w' g m f s := by unfold Fld; rw [o.block g hg]; exact h
theorem cell_other {g b : Nat} (h : g ≠ b) (W : World) (i j : Nat) (v : Value) : (W.setCell ⟨b, i, none⟩ v).cell? ⟨g, j, none⟩ = W.cell? ⟨g, j, none⟩ := by
  unfold World.cell?
  rw [heap_setCell_other W ⟨b, i, none⟩ g v h]
theorem Box.drew {w : World} {g : Nat} {v : Value} (h : Box w g v) (n : Nat) : Box (w.drewN n) g v := by obtain ⟨t, h⟩ := h; exact ⟨t, by simpa using h⟩
theorem Box.set {w : World} {g : Nat} {v : Value} (h : Box w g v) (v' : Value) : Box (w.setCell ⟨g, 0, none⟩ v') g v' := by
  obtain ⟨t, h⟩ := h
  exact ⟨t, by rw [heap_setCell_same w g 0 _ _ _ h]; rfl⟩
theorem Box.other {w : World} {g b : Nat} {v : Value} (h : Box w g v) (hg : g ≠ b) (i : Nat) (v' : Value) : Box (w.setCell ⟨b, i, none⟩ v') g v := by
  obtain ⟨t, h⟩ := h
  exact ⟨t, by rw [heap_setCell_other w ⟨b, i, none⟩ g v' hg]; exact h⟩
theorem Box.below {B : Nat} {w w' : World} {g : Nat} {v : Value} (h : Box w g v) (hb : Below B w w') (hg : g < B) : Box w' g v := by obtain ⟨t, h⟩ := h; exact ⟨t, by rw [hb.block g hg]; exact h⟩
theorem Row.other {w : World} {g n b : Nat} {x : Nat → Int} (h : Row w g n x) (hg : g ≠ b) (i : Nat) (v : Value) : Row (w.setCell ⟨b, i, none⟩ v) g n x := by
  obtain ⟨cur, h1, h2, h3⟩ := h
  exact ⟨cur, by rw [heap_setCell_other w ⟨b, i, none⟩ g v hg]; exact h1, h2, h3⟩
theorem OnlyB.trans {g : Nat} {w w1 w2 : World} (h : OnlyB g w w1) (h' : OnlyB g w1 w2) : OnlyB g w w2 :=
  ⟨h'.os.trans h.os, h'.tape.trans h.tape, h'.output.trans h.output, h'.size.trans h.size, fun k hk => (h'.block k hk).trans (h.block k hk)⟩
theorem Row.only {w w' : World} {g b n : Nat} {x : Nat → Int} (h : Row w g n x) (o : OnlyB b w w') (hg : g ≠ b) : Row w' g n x := by
  obtain ⟨cur, h1, h2, h3⟩ := h
  exact ⟨cur, by rw [o.block g hg]; exact h1, h2, h3⟩
theorem Tryd.sizeU : (Tryd.prog.info? 22).map (·.size) = some 1 := by kernel_rfl
/-- a slice of words that does not lie in block g, copied into that block's row. -/
theorem wp_copyw {ops : Array Oper} {rest : List Oper} {q : Oper} {a : Act} {Q : Exit → Act → World → Prop} (w : World) (hgd : q.guard = none) (d s : Operand)
    (ho : q.op = .call { callee := .builtin .copy, args := #[d, s], argTypes := #[23, 23] })
    (g N dCap : Nat) (X : Nat → Int) (hd : a.eval d = .slice (some ⟨g, 0, none⟩) N dCap) (v : Value) (hs : a.eval s = v)
    (n : Nat) (x : Nat → Int) (hv : Wl w v n x) (hr : Row w g N X) (hnd : n ≤ N)
    (hK : ∀ w', Row w' g N (fun j => if j < n then x j else X j) → OnlyB g w w' → wpList Tryd.prog ops Q rest (a.put q.dst (goInt n)) w') :
    wpList Tryd.prog ops Q (q :: rest) a w := by
  obtain ⟨ao, cap, rfl, h1, h2, h3, h5⟩ := hv
  have hmin : Nat.min n N = n := Nat.min_eq_left hnd
  by_cases hn : n = 0
  · subst hn
    refine wpList_copy_nothing hgd d s 23 23 ho 22 Tryd.underlying23 Tryd.sizeU _ ao N dCap 0 cap hd hs (by simp) ?_
    refine hK w ?_ (OnlyB.refl _ _)
    have e : (fun j => if j < 0 then x j else X j) = X := funext fun j => if_neg (by omega)
    rw [e]
    exact hr
  · obtain ⟨b, ob, rfl, hb, hc⟩ := h5 (by omega)
    obtain ⟨cur, hg, hsz, hcur⟩ := hr
    have hlen : ((List.range n).map (fun j => Value.int .u64 (x j))).length = n := by simp
    refine wpList_copy_own hgd d s 23 23 ho 22 Tryd.underlying23 Tryd.sizeU g 0 N dCap ⟨b, ob, none⟩ n cap hd hs cur 22 hg
      ((List.range n).map (fun j => Value.int .u64 (x j))) (by rw [hlen, hmin]) ?_ (by rw [hlen, hsz]; omega) (by intro u hu; simp at hu; obtain ⟨j, _, rfl⟩ := hu; rfl) ?_
    · intro j u hj
      rw [List.getElem?_map] at hj
      simp only [Option.map_eq_some_iff] at hj
      obtain ⟨i, hi, rfl⟩ := hj
      have hjn : j < n := by
        have := (List.getElem?_eq_some_iff.1 hi).1
        simpa using this
      rw [List.getElem?_range hjn] at hi
      cases hi
      have := hc j hjn
      by_cases hj0 : j = 0
      · subst hj0; simpa [Addr.add] using this
      · simpa [Addr.add, hj0] using this
    · rw [hlen]
      refine hK _ ?_ ?_
      · refine ⟨_, setRow_heap w g _ _ 22 _ hg, ?_, ?_⟩
        · simp [hsz]; omega
        · intro j hj
          show _ = some (Value.int IntKind.u64 (if j < n then x j else X j))
          by_cases hin : j < n
          · rw [if_pos hin]
            simp [List.getElem?_append, hin]
          · rw [if_neg hin]
            have := hcur j hj
            simp [List.getElem?_append, hin, show n + (j - n) = j by omega]
            simpa using this
      · exact ⟨rfl, rfl, rfl, by simp [World.setRow], fun k hk => setRow_other w g k _ hk⟩
end Go.Proofs.YtjgipjiopagkiaaDoor
namespace Go.Proofs.YtjgipjiopagkiaaDoor
open Go.RowKit Num Nmb

/-- the first n of a row, as a list. -/
def Ol (x : Nat → Int) (n : Nat) : List Nat := (List.range n).map fun j => (x j).toNat
theorem Ol_len (x : Nat → Int) (n : Nat) : (Ol x n).length = n := by simp [Ol]
theorem Ol_succ (x : Nat → Int) (n : Nat) : Ol x (n + 1) = Ol x n ++ [(x n).toNat] := by simp [Ol, List.range_succ]
theorem Ol_get (x : Nat → Int) {n j : Nat} (h : j < n) : (Ol x n).getD j 0 = (x j).toNat := by simp [Ol, List.getD, h]
/-- 'v' is a list of the call's own: the first n of x. -/
def Ow (w : World) (base : Nat) (v : Value) (n : Nat) (x : Nat → Int) : Prop := OwW w base v (Ol x n) ∧ ∀ j, j < n → 0 ≤ x j ∧ x j ≤ 18446744073709551615
theorem Ow.wl {w : World} {base : Nat} {v : Value} {n : Nat} {x : Nat → Int} (h : Ow w base v n x) : Wl w v n x := by
  have h1 := h.1.wl (fun y hy => by
    obtain ⟨j, hj, rfl⟩ := List.mem_map.1 hy
    have := h.2 j (List.mem_range.1 hj)
    omega)
  rw [Ol_len] at h1
  exact h1.eq fun j hj => by
    have := h.2 j hj
    rw [Ol_get x hj]
    omega
theorem Ow.slice {w : World} {base : Nat} {v : Value} {n : Nat} {x : Nat → Int} (h : Ow w base v n x) : ∃ ao cap, v = .slice ao n cap := by
  have := h.1.slice
  rw [Ol_len] at this
  exact this
theorem Ow.none (w : World) (base : Nat) (x : Nat → Int) : Ow w base (.slice none 0 0) 0 x := ⟨⟨rfl, Or.inl ⟨rfl, rfl⟩⟩, fun j hj => absurd hj (by omega)⟩
/-- one word more. -/
theorem wp_push {ops : Array Oper} {rest : List Oper} {o : Oper} {a : Act} {Q : Exit → Act → World → Prop} {w2 : World} {base n : Nat} {x : Nat → Int} {v : Value} {c : Int} (hgd : o.guard = none) (s t : Operand)
    (ho : o.op = .call { callee := .builtin .append, args := #[s, t], argTypes := #[23, 23] }) (hs : a.eval s = v) (ht : a.eval t = .slice (some ⟨w2.heap.size, 0, none⟩) 1 1) (h : Ow w2 base v n x) (hx : x n = c) (hc : 0 ≤ c ∧ c ≤ 18446744073709551615) (hb : base ≤ w2.heap.size) (hn : n ≤ 1000000)
    (hK : ∀ ao cap w3, Ow w3 base (.slice ao ((n + 1 : Nat)) cap) (n + 1) x → Below base w2 w3 → base ≤ w3.heap.size → wpList Tryd.prog ops Q rest (a.put o.dst (.slice ao (n + 1 : Nat) cap)) w3) :
    wpList Tryd.prog ops Q (o :: rest) a (w2.alloc (.cells #[.int .u64 c] 22)) := by
  obtain ⟨i0, hi0, hz0, hz1, hz2⟩ := info_parts Tryd.infoWord
  have hcn : ((c.toNat : Nat) : Int) = c := by omega
  have hl := Ol_len x n
  refine wpList_append_own _ hgd s t 23 ho base 22 i0 (.int .u64 0) 1 8 Tryd.underlying23 hi0 hz0 hz1 hz2 rfl (by decide) _ n (wordCells (Ol x n)) hs (by
    have := World.ownsRow.alloc h.1 (.cells #[.int .u64 c] 22)
    rw [hl] at this
    exact this) ⟨w2.heap.size, 0, none⟩ 1 1 [.int .u64 c] ht rfl (cell_one_new _ _ _) (by intro u hu; simp at hu; subst hu; rfl) (by unfold maxLen; omega) (by omega) (by simp; omega) ?_
  intro v' w3 own3 grow3 _
  have own4 : w3.ownsRow base 22 1 v' (n + 1) (wordCells (Ol x n) ++ [.int .u64 ((c.toNat : Nat) : Int)]) := by rw [hcn]; exact own3
  obtain ⟨h1, h2, h3⟩ := OwW.push h.1 hb (by rw [hl]) own4 grow3
  have e1 : Ol x n ++ [c.toNat] = Ol x (n + 1) := by rw [Ol_succ, hx]
  rw [e1] at h1
  have h4 : Ow w3 base v' (n + 1) x := ⟨h1, fun j hj => by
    by_cases e : j = n
    · rw [e, hx]; exact hc
    · exact h.2 j (by omega)⟩
  obtain ⟨ao, cap, rfl⟩ := h4.slice
  exact hK ao cap w3 h4 h2 h3
/-- 'v' is the polynomial A in its one form. -/
def PV (w : World) (v : Value) (p : Nat) (A : Nat → Int) : Prop := ∃ n, NP p n A ∧ Wl w v n A
theorem PV.below {w w' : World} {v : Value} {p : Nat} {A : Nat → Int} (h : PV w v p A) (hb : Below w.heap.size w w') : PV w' v p A := by
  obtain ⟨n, h1, h2⟩ := h
  exact ⟨n, h1, h2.below hb⟩
theorem Wl.spot0 {w : World} {a : Option Addr} {n c : Nat} {x : Nat → Int} (h : Wl w (.slice a n c) n x) (hn : 0 < n) : ∃ b off, a = some ⟨b, off, none⟩ ∧ b < w.heap.size ∧ ∀ j, j < n → w.cell? ⟨b, off + j, none⟩ = some (.int .u64 (x j)) := by
  obtain ⟨ao, cap, e, h1, h2, h3, h5⟩ := h
  injection e with e1 e2 e3
  subst e1
  exact h5 hn
theorem Wl.cap {w : World} {a : Option Addr} {n c : Nat} {x : Nat → Int} (h : Wl w (.slice a n c) n x) : n ≤ c ∧ c ≤ 9223372036854775807 := by
  obtain ⟨ao, cap, e, h1, h2, h3, h5⟩ := h
  injection e with e1 e2 e3
  subst e3
  exact ⟨h1, h2⟩
theorem Wl.short {w : World} {ao : Option Addr} {n m cap : Nat} {x : Nat → Int} (h : Wl w (.slice ao n cap) n x) (hm : m ≤ n) : Wl w (.slice ao m cap) m x := by
  obtain ⟨ao', cap', e, h1, h2, h3, h5⟩ := h
  injection e with e1 e2 e3
  subst e1 e3
  refine ⟨ao, cap, rfl, by omega, h2, fun j hj => h3 j (by omega), fun h0 => ?_⟩
  obtain ⟨b, off, e, hb, hc⟩ := h5 (by omega)
  exact ⟨b, off, e, hb, fun j hj => hc j (by omega)⟩
set_option maxHeartbeats 1600000 in
theorem rnorm9 (u : Value) (n : Nat) (a : Nat → Int) (p : Nat) (w : World) (U : Wl w u n a) (hn : n ≤ 1000000) (h2 : 2 ≤ p) (h63 : p ≤ 9223372036854775807) :
    Calls Tryd.prog 8 #[u, .int .u64 p] w fun e w' => (∃ v, e = .returned v ∧ PV w' v p (fun j => ax a n j % p)) ∧ Below w.heap.size w w' := by
  have UU := hid U
  obtain ⟨uo, ucap, rfl, -⟩ := U
  obtain ⟨X, hX⟩ : ∃ X : Nat → Int, X = fun j => ax a n j % p := ⟨_, rfl⟩
  have XA : Hid (∀ j, j < n → a j % p = X j) := fun j hj => by rw [hX]; show a j % p = ax a n j % p; rw [ax_in a hj]
  have XB : Hid (∀ j, 0 ≤ X j ∧ X j < p) := fun j => by rw [hX]; exact ⟨Int.emod_nonneg _ (by omega), Int.emod_lt_of_pos _ (by omega)⟩
  have XO : Hid (∀ j, n ≤ j → X j = 0) := fun j hj => by rw [hX]; show ax a n j % p = 0; rw [ax_out a hj, Int.zero_emod]
  rw [← hX]
  clear hX
  have p0 : ((p : Int) == 0) = false := beq_eq_false_iff_ne.2 (by omega)
  go_enter Tryd.func8, Tryd.ntmps8
  go_wp2
  go_loopw [6, 5] (fun iv ov wr => ∃ (i : Nat), iv = .int .i64 i ∧ i ≤ n ∧ Hid (Ow wr w.heap.size ov i X) ∧ Hid (Below w.heap.size w wr) ∧ w.heap.size ≤ wr.heap.size) (fun iv _ _ => ((n : Int) - intOf iv).toNat)
  case atStart => exact ⟨0, rfl, Nat.zero_le _, Ow.none _ _ _, Below.refl _ _, Nat.le_refl _⟩
  case round =>
    obtain ⟨i, rfl, hi, OW, BW, hsz⟩ := hrel
    obtain ⟨oo, oc, rfl⟩ := OW.out.slice
    by_cases hin : i = n
    · have hin' : ¬ (i : Int) < (n : Int) := by omega
      subst hin
      have WL := hid OW.out.wl
      clear OW XA UU hsz
      go_wp2
      go_loopw [5] (fun ov wr' => ∃ (k : Nat), ov = .slice oo k oc ∧ k ≤ i ∧ Hid (∀ j, k ≤ j → X j = 0) ∧ wr' = wr) (fun ov _ => match ov with | .slice _ k _ => k | _ => 0)
      case atStart => exact ⟨i, rfl, Nat.le_refl _, XO, rfl⟩
      case round =>
        obtain ⟨k, rfl, hk, XK, hw⟩ := hrel
        obtain rfl := hw.symm
        cases k with
        | zero =>
          have R : Hid (PV wr (.slice oo 0 oc) p X) := ⟨0, ⟨XB.out, XK.out, Or.inl rfl⟩, WL.out.short (Nat.zero_le _)⟩
          clear WL XK XO XB
          go_wp2
          go_ret
          exact ⟨⟨_, rfl, R.out⟩, BW.out⟩
        | succ k =>
          obtain ⟨b, off, rfl, hbl, hc⟩ := WL.out.spot0 (by omega)
          have ck := hc k (by omega)
          have kc := WL.out.cap
          have kc' : (k : Int) ≤ (oc : Int) := by omega
          have k1 : ((k + 1 : Nat) : Int) - 1 = (k : Int) := by omega
          have k2 : (0 : Int) < ((k + 1 : Nat) : Int) := by omega
          by_cases x0 : X k = 0
          · have XK2 : Hid (∀ j, k ≤ j → X j = 0) := fun j hj => by
              by_cases q : j = k
              · rw [q]; exact x0
              · exact XK.out j (by omega)
            rw [x0] at ck
            clear XK XO XB hc
            go_wp2
            exact ⟨⟨k, rfl, by omega, XK2, by first | trivial | rfl⟩, by first | omega | (show k < k + 1; omega)⟩
          · have R : Hid (PV wr (.slice (some ⟨b, off, none⟩) (k + 1) oc) p X) := ⟨k + 1, ⟨XB.out, XK.out, Or.inr x0⟩, WL.out.short hk⟩
            have x0' : (X k == 0) = false := beq_eq_false_iff_ne.2 x0
            clear WL XK XO XB hc
            generalize X k = xk at *
            go_wp2
            go_ret
            exact ⟨⟨_, rfl, R.out⟩, BW.out⟩
    · have hin' : (i : Int) < (n : Int) := by omega
      obtain ⟨b, off, rfl, hbl, hc⟩ := UU.out.spot0 (by omega)
      have ci : wr.cell? ⟨b, off + i, none⟩ = some (.int .u64 (a i)) := by rw [BW.out.cell (p := ⟨b, off + i, none⟩) hbl]; exact hc i (by omega)
      have va := UU.out.val (j := i) (by omega)
      have tm : Int.tmod (a i) (p : Int) = a i % p := Int.tmod_eq_emod_of_nonneg va.1
      have xi := XA.out i (by omega)
      have xb := XB.out i
      rw [← xi] at xb
      have w1 : IntKind.u64.wrap (a i % (p : Int)) = a i % (p : Int) := by rw [IntKind.wrap_u64]; omega
      have XI : Hid (X i = a i % p) := xi.symm
      clear hc XA XO XB UU xi
      generalize hai : a i % (p : Int) = c at *
      clear hai
      generalize a i = ai at *
      go_wp2_with (at_builtin; refine wp_push rfl _ _ rfl rfl rfl OW.out XI.out (by omega) hsz (by omega) ?_; intro ao3 cap3 w3 O3 B3 s3; have HO := hid O3; have HB := hid (BW.out.trans B3); clear O3 B3)
      exact ⟨⟨i + 1, rfl, by omega, HO, HB, s3⟩, by simp only [intOf]; omega⟩
end Go.Proofs.YtjgipjiopagkiaaDoor
