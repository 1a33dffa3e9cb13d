/- Slices of words. -/
import Derived.Test.YtocfenjampmdlabGreatDoorPg
import Derived.Test.YtocfenjampmdlabGreatDoorVw
import Derived.Test.YtocfenjampmdlabGreatDoorQt
import Derived.Laws.CopyOwn
namespace Go.Proofs.YtocfenjampmdlabGreatDoor
open Go.RowKit Num Nmb

/-- 'v' is a slice of the n words x. -/
def Wl (w : World) (v : Value) (n : Nat) (x : Nat → Int) : Prop :=
  ∃ ao cap, v = .slice ao n cap ∧ n ≤ cap ∧ cap ≤ 9223372036854775807 ∧ (∀ j, j < n → 0 ≤ x j ∧ x j ≤ 18446744073709551615) ∧
    (0 < n → ∃ b off, ao = some ⟨b, off, none⟩ ∧ b < w.heap.size ∧ ∀ j, j < n → w.cell? ⟨b, off + j, none⟩ = some (.int .u64 (x j)))
theorem Wl.below {w w' : World} {v : Value} {n : Nat} {x : Nat → Int} (h : Wl w v n x) (hb : Below w.heap.size w w') : Wl w' v n x := by
  obtain ⟨ao, cap, rfl, h1, h2, h3, h5⟩ := h
  refine ⟨ao, cap, rfl, h1, h2, h3, fun hn => ?_⟩
  obtain ⟨b, off, rfl, hbs, hc⟩ := h5 hn
  refine ⟨b, off, rfl, Nat.lt_of_lt_of_le hbs hb.size, fun j hj => ?_⟩
  rw [hb.cell (p := ⟨b, off + j, none⟩) hbs]; exact hc j hj
/-- block g holds n words x. -/
def Row (w : World) (g n : Nat) (x : Nat → Int) : Prop :=
  ∃ cur : Array Value, w.heap[g]? = some (.cells cur 22 (0, 0)) ∧ cur.size = n ∧ ∀ j, j < n → cur[j]? = some (.int .u64 (x j))
theorem Row.cell {w : World} {g n : Nat} {x : Nat → Int} (h : Row w g n x) {i : Nat} (hi : i < n) : w.cell? ⟨g, i, none⟩ = some (.int .u64 (x i)) := by
  obtain ⟨cur, hg, _, hc⟩ := h
  simp [World.cell?, hg, hc i hi]
theorem Row.frozen {w : World} {g n : Nat} {x : Nat → Int} (h : Row w g n x) (i : Nat) : w.frozen? ⟨g, i, none⟩ = false := by
  obtain ⟨cur, hg, _, hc⟩ := h
  simp [World.frozen?, hg]
theorem Row.set {w : World} {g n : Nat} {x y : Nat → Int} (h : Row w g n x) (i : Nat) (v : Int) (e : ∀ j, j < n → y j = if j = i then v else x j) : Row (w.setCell ⟨g, i, none⟩ (.int .u64 v)) g n y := by
  obtain ⟨cur, hg, hs, hc⟩ := h
  refine ⟨cur.setIfInBounds i (.int .u64 v), ?_, by simpa using hs, fun j hj => ?_⟩
  · rw [heap_setCell_same w g i cur 22 _ hg]
  · rw [e j hj]
    by_cases e : j = i
    · subst e; rw [Array.getElem?_setIfInBounds]; simp [hs, hj]
    · rw [Array.getElem?_setIfInBounds]; simp [Ne.symm e, e, hc j hj]
theorem Row.drew {w : World} {g n : Nat} {x : Nat → Int} (h : Row w g n x) (k : Nat) : Row (w.drewN k) g n x := by
  obtain ⟨cur, hg, hs, hc⟩ := h
  exact ⟨cur, by simpa using hg, hs, hc⟩
theorem Row.below {B : Nat} {w w' : World} {g n : Nat} {x : Nat → Int} (h : Row w g n x) (hb : Below B w w') (hg : g < B) : Row w' g n x := by
  obtain ⟨cur, h1, h2, h3⟩ := h
  exact ⟨cur, by rw [hb.block g hg]; exact h1, h2, h3⟩
theorem Row.lt {w : World} {g n : Nat} {x : Nat → Int} (h : Row w g n x) : g < w.heap.size := by
  obtain ⟨cur, hg, _⟩ := h
  exact (Array.getElem?_eq_some_iff.1 hg).1
theorem Fld.other {w : World} {g r : Nat} {m f s : Int} (h : Fld w g m f s) (hg : g ≠ r) (i : Nat) (v : Value) : Fld (w.setCell ⟨r, i, none⟩ v) g m f s := by
  unfold Fld; rw [heap_setCell_other w ⟨r, i, none⟩ g v hg]; exact h
theorem Tryz.infoU : (Tryz.prog.info? 22).map (fun i => (i.zero, i.size, i.bytes)) = some (some (.int .u64 0), 1, 8) := by kernel_rfl
theorem Row.new (w : World) (n : Nat) : Row (w.alloc (.cells (madeCells #[.int .u64 0] (n * 1)) 22)) w.heap.size n (fun _ => 0) := by
  refine ⟨madeCells #[.int .u64 0] (n * 1), ?_, by simp [size_madeCells], fun j hj => ?_⟩
  · exact heap_alloc_new w _
  · simp [madeCells, hj, Nat.mod_one]
theorem wp_make {ops : Array Oper} {rest : List Oper} {o : Oper} {a : Act} {Q : Exit → Act → World → Prop} (w : World) (hg : o.guard = none) (l c : Operand) (hop : o.op = Op.makeSlice 26 l c)
    (L C : Int) (n : Nat) (hl : a.eval l = .int .i64 L) (hc : a.eval c = .int .i64 C) (hL : L = (n : Int)) (hC : C = (n : Int)) (hn : n ≤ 1000000000)
    (hK : ∀ w', Row w' w.heap.size n (fun _ => 0) → Below w.heap.size w w' → w'.heap.size = w.heap.size + 1 → wpList Tryz.prog ops Q rest (a.put o.dst (.slice (some ⟨w.heap.size, 0, none⟩) n n)) w') :
    wpList Tryz.prog ops Q (o :: rest) a w := by
  obtain ⟨i0, hi, hz0, hz1, hz2⟩ := info_parts Tryz.infoU
  refine wpList_plain hg fun K hK' => ?_
  have hr := run_make (P := Tryz.prog) w 26 22 i0 (.int .u64 0) Tryz.underlying26 hi hz0 .i64 .i64 n n (by omega) (Int.le_refl _) (by rw [hz2]; omega) (by omega)
  simp only [Int.toNat_natCast] at hr
  rw [hz1] at hr
  subst hL; subst hC
  unfold Oper.wp
  simp [execOp, hop, hl, hc, hr, Result.andThen]
  refine hK' _ _ (hK _ ?_ ?_ ?_)
  · have := Row.new w n
    rw [Nat.mul_one] at this
    exact this
  · exact (Below.refl _ _).alloc (Nat.le_refl _) _
  · simp
theorem Wl.heap {w w' : World} {v : Value} {n : Nat} {x : Nat → Int} (h : Wl w v n x) (e : w'.heap = w.heap) : Wl w' v n x := by
  obtain ⟨ao, cap, rfl, h1, h2, h3, h5⟩ := h
  refine ⟨ao, cap, rfl, h1, h2, h3, fun hn => ?_⟩
  obtain ⟨b, off, rfl, hbs, hc⟩ := h5 hn
  refine ⟨b, off, rfl, by rw [e]; exact hbs, fun j hj => ?_⟩
  unfold World.cell? at *
  rw [e]; exact hc j hj
theorem Wl.drew {w : World} {v : Value} {n : Nat} {x : Nat → Int} (h : Wl w v n x) (k : Nat) : Wl (w.drewN k) v n x := h.heap (by simp)
theorem Wl.eq {w : World} {v : Value} {n : Nat} {x y : Nat → Int} (h : Wl w v n x) (e : ∀ j, j < n → x j = y j) : Wl w v n y := by
  obtain ⟨ao, cap, rfl, h1, h2, h3, h5⟩ := h
  refine ⟨ao, cap, rfl, h1, h2, fun j hj => by rw [← e j hj]; exact h3 j hj, fun hn => ?_⟩
  obtain ⟨b, off, rfl, hbs, hc⟩ := h5 hn
  exact ⟨b, off, rfl, hbs, fun j hj => by rw [← e j hj]; exact hc j hj⟩
theorem Wl.val {w : World} {v : Value} {n : Nat} {x : Nat → Int} (h : Wl w v n x) {j : Nat} (hj : j < n) : 0 ≤ x j ∧ x j ≤ 18446744073709551615 := by
  obtain ⟨ao, cap, rfl, h1, h2, h3, h5⟩ := h
  exact h3 j hj
theorem Wl.nil (w : World) (x : Nat → Int) : Wl w (.slice none 0 0) 0 x := ⟨none, 0, rfl, Nat.le_refl _, by omega, fun j hj => absurd hj (by omega), fun h => absurd h (by omega)⟩
theorem Row.wl {w : World} {g n : Nat} {x : Nat → Int} (h : Row w g n x) (hv : ∀ j, j < n → 0 ≤ x j ∧ x j ≤ 18446744073709551615) (hn : n ≤ 9223372036854775807) : Wl w (.slice (some ⟨g, 0, none⟩) n n) n x :=
  ⟨_, n, rfl, Nat.le_refl _, hn, hv, fun _ => ⟨g, 0, rfl, h.lt, fun j hj => by rw [Nat.zero_add]; exact h.cell hj⟩⟩
theorem OwW.wl {w : World} {base : Nat} {v : Value} {l : List Nat} (h : OwW w base v l) (hv : ∀ x, x ∈ l → x ≤ 18446744073709551615) : Wl w v l.length (fun j => (l.getD j 0 : Nat)) := by
  have bd : ∀ j, j < l.length → (0 : Int) ≤ (l.getD j 0 : Nat) ∧ ((l.getD j 0 : Nat) : Int) ≤ 18446744073709551615 := fun j hj => by
    have : l.getD j 0 ∈ l := by rw [List.getD_eq_getElem?_getD, List.getElem?_eq_getElem hj]; exact List.getElem_mem _
    have := hv _ this
    omega
  rcases h.2 with ⟨rfl, h0⟩ | ⟨g, cap, cur, rfl, hg, hgg, hgc, hgm, hgs, htk⟩
  · refine ⟨none, 0, by rw [h0], by omega, by omega, bd, fun h => absurd h (by omega)⟩
  · refine ⟨_, cap, rfl, hgc, by unfold maxLen at hgm; omega, bd, fun _ => ⟨g, 0, rfl, (Array.getElem?_eq_some_iff.1 hgg).1, fun j hj => ?_⟩⟩
    have e := World.ownsRow.cellAt h j (by omega)
    rw [Nat.zero_add, e]
    unfold wordCells
    rw [List.getElem?_map, List.getElem?_eq_getElem hj]
    have e2 : l.getD j 0 = l[j] := by rw [List.getD_eq_getElem?_getD, List.getElem?_eq_getElem hj]; rfl
    show some (Value.int IntKind.u64 _) = some (Value.int IntKind.u64 ((l.getD j 0 : Nat) : Int))
    rw [e2]
/-- the numbers of a list of words. -/
def lw (l : List Nat) (j : Nat) : Int := (l.getD j 0 : Nat)
theorem lw_push (l : List Nat) (c j : Nat) : lw (l ++ [c]) j = if j = l.length then (c : Int) else lw l j := by
  unfold lw
  by_cases e : j = l.length
  · rw [if_pos e, e]; simp
  · rw [if_neg e]
    by_cases h : j < l.length
    · rw [List.getD_eq_getElem?_getD, List.getD_eq_getElem?_getD, List.getElem?_append_left h]
    · rw [List.getD_eq_getElem?_getD, List.getD_eq_getElem?_getD, List.getElem?_eq_none (by simp; omega), List.getElem?_eq_none (by omega)]
end Go.Proofs.YtocfenjampmdlabGreatDoor
