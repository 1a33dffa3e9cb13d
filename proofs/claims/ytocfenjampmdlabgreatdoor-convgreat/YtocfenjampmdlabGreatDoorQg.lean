/- Slices of words. -/
/- Lists of ints; how many coefficients a box has, and where each stands: the reference's Size and Place (chapter 8). -/
/- The reference's Place (chapter 8). -/
/- A call that changes one block alone; variables that lie in a block of their own; a copy into a row of words. -/
/- The exponents of a place: the reference's Exps (chapter 8). -/
/- The values of a polynomial at the points whose exponents' bits are turned about, by halves: what each half leaves (chapter 7). -/
import Derived.Test.YtocfenjampmdlabGreatDoorPg
import Derived.Test.YtocfenjampmdlabGreatDoorVw
import Derived.Test.YtocfenjampmdlabGreatDoorQt
import Derived.Laws.CopyOwn
import Derived.BigQuiet
import Derived.OwnWalk
namespace Go.Proofs.YtocfenjampmdlabGreatDoor
open Go.RowKit Num Nmb

/-- 'v' is a slice of the n words x. -/
def Wl (w : World) (v : Value) (n : Nat) (x : Nat → Int) : Prop :=
  ∃ ao cap, v = .slice ao n cap ∧ n ≤ cap ∧ cap ≤ 9223372036854775807 ∧ (∀ j, j < n → 0 ≤ x j ∧ x j ≤ 18446744073709551615) ∧
    (0 < n → ∃ b off, ao = some ⟨b, off, none⟩ ∧ b < w.heap.size ∧ ∀ j, j < n → w.cell? ⟨b, off + j, none⟩ = some (.int .u64 (x j)))
theorem Wl.below {w w' : World} {v : Value} {n : Nat} {x : Nat → Int} (h : Wl w v n x) (hb : Below w.heap.size w w') : Wl w' v n x := by
  obtain ⟨ao, cap, rfl, h1, h2, h3, h5⟩ := h
  refine ⟨ao, cap, rfl, h1, h2, h3, fun hn => ?_⟩
  obtain ⟨b, off, rfl, hbs, hc⟩ := h5 hn
  refine ⟨b, off, rfl, Nat.lt_of_lt_of_le hbs hb.size, fun j hj => ?_⟩
  rw [hb.cell (p := ⟨b, off + j, none⟩) hbs]; exact hc j hj
/-- block g holds n words x. -/
def Row (w : World) (g n : Nat) (x : Nat → Int) : Prop :=
  ∃ cur : Array Value, w.heap[g]? = some (.cells cur 22 (0, 0)) ∧ cur.size = n ∧ ∀ j, j < n → cur[j]? = some (.int .u64 (x j))
theorem Row.cell {w : World} {g n : Nat} {x : Nat → Int} (h : Row w g n x) {i : Nat} (hi : i < n) : w.cell? ⟨g, i, none⟩ = some (.int .u64 (x i)) := by
  obtain ⟨cur, hg, _, hc⟩ := h
  simp [World.cell?, hg, hc i hi]
theorem Row.frozen {w : World} {g n : Nat} {x : Nat → Int} (h : Row w g n x) (i : Nat) : w.frozen? ⟨g, i, none⟩ = false := by
  obtain ⟨cur, hg, _, hc⟩ := h
  simp [World.frozen?, hg]
theorem Row.set {w : World} {g n : Nat} {x y : Nat → Int} (h : Row w g n x) (i : Nat) (v : Int) (e : ∀ j, j < n → y j = if j = i then v else x j) : Row (w.setCell ⟨g, i, none⟩ (.int .u64 v)) g n y := by
  obtain ⟨cur, hg, hs, hc⟩ := h
  refine ⟨cur.setIfInBounds i (.int .u64 v), ?_, by simpa using hs, fun j hj => ?_⟩
  · rw [heap_setCell_same w g i cur 22 _ hg]
  · rw [e j hj]
    by_cases e : j = i
    · subst e; rw [Array.getElem?_setIfInBounds]; simp [hs, hj]
    · rw [Array.getElem?_setIfInBounds]; simp [Ne.symm e, e, hc j hj]
theorem Row.drew {w : World} {g n : Nat} {x : Nat → Int} (h : Row w g n x) (k : Nat) : Row (w.drewN k) g n x := by
  obtain ⟨cur, hg, hs, hc⟩ := h
  exact ⟨cur, by simpa using hg, hs, hc⟩
theorem Row.below {B : Nat} {w w' : World} {g n : Nat} {x : Nat → Int} (h : Row w g n x) (hb : Below B w w') (hg : g < B) : Row w' g n x := by
  obtain ⟨cur, h1, h2, h3⟩ := h
  exact ⟨cur, by rw [hb.block g hg]; exact h1, h2, h3⟩
theorem Row.lt {w : World} {g n : Nat} {x : Nat → Int} (h : Row w g n x) : g < w.heap.size := by
  obtain ⟨cur, hg, _⟩ := h
  exact (Array.getElem?_eq_some_iff.1 hg).1
theorem Fld.other {w : World} {g r : Nat} {m f s : Int} (h : Fld w g m f s) (hg : g ≠ r) (i : Nat) (v : Value) : Fld (w.setCell ⟨r, i, none⟩ v) g m f s := by
  unfold Fld; rw [heap_setCell_other w ⟨r, i, none⟩ g v hg]; exact h
theorem Tryz.infoU : (Tryz.prog.info? 22).map (fun i => (i.zero, i.size, i.bytes)) = some (some (.int .u64 0), 1, 8) := by kernel_rfl
theorem Row.new (w : World) (n : Nat) : Row (w.alloc (.cells (madeCells #[.int .u64 0] (n * 1)) 22)) w.heap.size n (fun _ => 0) := by
  refine ⟨madeCells #[.int .u64 0] (n * 1), ?_, by simp [size_madeCells], fun j hj => ?_⟩
  · exact heap_alloc_new w _
  · simp [madeCells, hj, Nat.mod_one]
theorem wp_make {ops : Array Oper} {rest : List Oper} {o : Oper} {a : Act} {Q : Exit → Act → World → Prop} (w : World) (hg : o.guard = none) (l c : Operand) (hop : o.op = Op.makeSlice 26 l c)
    (L C : Int) (n : Nat) (hl : a.eval l = .int .i64 L) (hc : a.eval c = .int .i64 C) (hL : L = (n : Int)) (hC : C = (n : Int)) (hn : n ≤ 1000000000)
    (hK : ∀ w', Row w' w.heap.size n (fun _ => 0) → Below w.heap.size w w' → w'.heap.size = w.heap.size + 1 → wpList Tryz.prog ops Q rest (a.put o.dst (.slice (some ⟨w.heap.size, 0, none⟩) n n)) w') :
    wpList Tryz.prog ops Q (o :: rest) a w := by
  obtain ⟨i0, hi, hz0, hz1, hz2⟩ := info_parts Tryz.infoU
  refine wpList_plain hg fun K hK' => ?_
  have hr := run_make (P := Tryz.prog) w 26 22 i0 (.int .u64 0) Tryz.underlying26 hi hz0 .i64 .i64 n n (by omega) (Int.le_refl _) (by rw [hz2]; omega) (by omega)
  simp only [Int.toNat_natCast] at hr
  rw [hz1] at hr
  subst hL; subst hC
  unfold Oper.wp
  simp [execOp, hop, hl, hc, hr, Result.andThen]
  refine hK' _ _ (hK _ ?_ ?_ ?_)
  · have := Row.new w n
    rw [Nat.mul_one] at this
    exact this
  · exact (Below.refl _ _).alloc (Nat.le_refl _) _
  · simp
theorem Wl.heap {w w' : World} {v : Value} {n : Nat} {x : Nat → Int} (h : Wl w v n x) (e : w'.heap = w.heap) : Wl w' v n x := by
  obtain ⟨ao, cap, rfl, h1, h2, h3, h5⟩ := h
  refine ⟨ao, cap, rfl, h1, h2, h3, fun hn => ?_⟩
  obtain ⟨b, off, rfl, hbs, hc⟩ := h5 hn
  refine ⟨b, off, rfl, by rw [e]; exact hbs, fun j hj => ?_⟩
  unfold World.cell? at *
  rw [e]; exact hc j hj
theorem Wl.drew {w : World} {v : Value} {n : Nat} {x : Nat → Int} (h : Wl w v n x) (k : Nat) : Wl (w.drewN k) v n x := h.heap (by simp)
theorem Wl.eq {w : World} {v : Value} {n : Nat} {x y : Nat → Int} (h : Wl w v n x) (e : ∀ j, j < n → x j = y j) : Wl w v n y := by
  obtain ⟨ao, cap, rfl, h1, h2, h3, h5⟩ := h
  refine ⟨ao, cap, rfl, h1, h2, fun j hj => by rw [← e j hj]; exact h3 j hj, fun hn => ?_⟩
  obtain ⟨b, off, rfl, hbs, hc⟩ := h5 hn
  exact ⟨b, off, rfl, hbs, fun j hj => by rw [← e j hj]; exact hc j hj⟩
theorem Wl.val {w : World} {v : Value} {n : Nat} {x : Nat → Int} (h : Wl w v n x) {j : Nat} (hj : j < n) : 0 ≤ x j ∧ x j ≤ 18446744073709551615 := by
  obtain ⟨ao, cap, rfl, h1, h2, h3, h5⟩ := h
  exact h3 j hj
theorem Wl.nil (w : World) (x : Nat → Int) : Wl w (.slice none 0 0) 0 x := ⟨none, 0, rfl, Nat.le_refl _, by omega, fun j hj => absurd hj (by omega), fun h => absurd h (by omega)⟩
theorem Row.wl {w : World} {g n : Nat} {x : Nat → Int} (h : Row w g n x) (hv : ∀ j, j < n → 0 ≤ x j ∧ x j ≤ 18446744073709551615) (hn : n ≤ 9223372036854775807) : Wl w (.slice (some ⟨g, 0, none⟩) n n) n x :=
  ⟨_, n, rfl, Nat.le_refl _, hn, hv, fun _ => ⟨g, 0, rfl, h.lt, fun j hj => by rw [Nat.zero_add]; exact h.cell hj⟩⟩
theorem OwW.wl {w : World} {base : Nat} {v : Value} {l : List Nat} (h : OwW w base v l) (hv : ∀ x, x ∈ l → x ≤ 18446744073709551615) : Wl w v l.length (fun j => (l.getD j 0 : Nat)) := by
  have bd : ∀ j, j < l.length → (0 : Int) ≤ (l.getD j 0 : Nat) ∧ ((l.getD j 0 : Nat) : Int) ≤ 18446744073709551615 := fun j hj => by
    have : l.getD j 0 ∈ l := by rw [List.getD_eq_getElem?_getD, List.getElem?_eq_getElem hj]; exact List.getElem_mem _
    have := hv _ this
    omega
  rcases h.2 with ⟨rfl, h0⟩ | ⟨g, cap, cur, rfl, hg, hgg, hgc, hgm, hgs, htk⟩
  · refine ⟨none, 0, by rw [h0], by omega, by omega, bd, fun h => absurd h (by omega)⟩
  · refine ⟨_, cap, rfl, hgc, by unfold maxLen at hgm; omega, bd, fun _ => ⟨g, 0, rfl, (Array.getElem?_eq_some_iff.1 hgg).1, fun j hj => ?_⟩⟩
    have e := World.ownsRow.cellAt h j (by omega)
    rw [Nat.zero_add, e]
    unfold wordCells
    rw [List.getElem?_map, List.getElem?_eq_getElem hj]
    have e2 : l.getD j 0 = l[j] := by rw [List.getD_eq_getElem?_getD, List.getElem?_eq_getElem hj]; rfl
    show some (Value.int IntKind.u64 _) = some (Value.int IntKind.u64 ((l.getD j 0 : Nat) : Int))
    rw [e2]
/-- the numbers of a list of words. -/
def lw (l : List Nat) (j : Nat) : Int := (l.getD j 0 : Nat)
theorem lw_push (l : List Nat) (c j : Nat) : lw (l ++ [c]) j = if j = l.length then (c : Int) else lw l j := by
  unfold lw
  by_cases e : j = l.length
  · rw [if_pos e, e]; simp
  · rw [if_neg e]
    by_cases h : j < l.length
    · rw [List.getD_eq_getElem?_getD, List.getD_eq_getElem?_getD, List.getElem?_append_left h]
    · rw [List.getD_eq_getElem?_getD, List.getD_eq_getElem?_getD, List.getElem?_eq_none (by simp; omega), List.getElem?_eq_none (by omega)]
end Go.Proofs.YtocfenjampmdlabGreatDoor
namespace Go.Proofs.YtocfenjampmdlabGreatDoor
open Go.RowKit Num Nmb

/-- 'v' is a slice of the n ints x. -/
def Wi (w : World) (v : Value) (n : Nat) (x : Nat → Int) : Prop :=
  ∃ ao cap, v = .slice ao n cap ∧ n ≤ cap ∧ cap ≤ 9223372036854775807 ∧ (∀ j, j < n → -9223372036854775808 ≤ x j ∧ x j ≤ 9223372036854775807) ∧
    (0 < n → ∃ b off, ao = some ⟨b, off, none⟩ ∧ b < w.heap.size ∧ ∀ j, j < n → w.cell? ⟨b, off + j, none⟩ = some (.int .i64 (x j)))
theorem Wi.below {w w' : World} {v : Value} {n : Nat} {x : Nat → Int} (h : Wi w v n x) (hb : Below w.heap.size w w') : Wi w' v n x := by
  obtain ⟨ao, cap, rfl, h1, h2, h3, h5⟩ := h
  refine ⟨ao, cap, rfl, h1, h2, h3, fun hn => ?_⟩
  obtain ⟨b, off, rfl, hbs, hc⟩ := h5 hn
  refine ⟨b, off, rfl, Nat.lt_of_lt_of_le hbs hb.size, fun j hj => ?_⟩
  rw [hb.cell (p := ⟨b, off + j, none⟩) hbs]; exact hc j hj
theorem Wi.heap {w w' : World} {v : Value} {n : Nat} {x : Nat → Int} (h : Wi w v n x) (e : w'.heap = w.heap) : Wi w' v n x := by
  obtain ⟨ao, cap, rfl, h1, h2, h3, h5⟩ := h
  refine ⟨ao, cap, rfl, h1, h2, h3, fun hn => ?_⟩
  obtain ⟨b, off, rfl, hbs, hc⟩ := h5 hn
  refine ⟨b, off, rfl, by rw [e]; exact hbs, fun j hj => ?_⟩
  unfold World.cell? at *
  rw [e]; exact hc j hj
theorem Wi.drew {w : World} {v : Value} {n : Nat} {x : Nat → Int} (h : Wi w v n x) (k : Nat) : Wi (w.drewN k) v n x := h.heap (by simp)
theorem Wi.val {w : World} {v : Value} {n : Nat} {x : Nat → Int} (h : Wi w v n x) {j : Nat} (hj : j < n) : -9223372036854775808 ≤ x j ∧ x j ≤ 9223372036854775807 := by
  obtain ⟨ao, cap, rfl, h1, h2, h3, h5⟩ := h
  exact h3 j hj
theorem Wi.eq {w : World} {v : Value} {n : Nat} {x y : Nat → Int} (h : Wi w v n x) (e : ∀ j, j < n → x j = y j) : Wi w v n y := by
  obtain ⟨ao, cap, rfl, h1, h2, h3, h5⟩ := h
  refine ⟨ao, cap, rfl, h1, h2, fun j hj => by rw [← e j hj]; exact h3 j hj, fun hn => ?_⟩
  obtain ⟨b, off, rfl, hbs, hc⟩ := h5 hn
  exact ⟨b, off, rfl, hbs, fun j hj => by rw [← e j hj]; exact hc j hj⟩
/-- the product of the first n numbers. -/
def pd (d : Nat → Int) : Nat → Int
  | 0 => 1
  | n + 1 => pd d n * d n
theorem pd_pos {d : Nat → Int} : ∀ {n : Nat}, (∀ i, i < n → 1 ≤ d i) → 1 ≤ pd d n
  | 0, _ => by show (1 : Int) ≤ 1; omega
  | n + 1, h => by
    have h1 := pd_pos (n := n) (fun i hi => h i (by omega))
    have h2 := h n (by omega)
    show 1 ≤ pd d n * d n
    have := Int.mul_le_mul h1 h2 (by omega) (by omega)
    omega
theorem pd_step {d : Nat → Int} {n : Nat} (h : ∀ i, i < n + 1 → 1 ≤ d i) : pd d n ≤ pd d (n + 1) ∧ d n ≤ pd d (n + 1) := by
  have h1 := pd_pos (n := n) (fun i hi => h i (by omega))
  have h2 := h n (by omega)
  show pd d n ≤ pd d n * d n ∧ d n ≤ pd d n * d n
  constructor
  · have := Int.mul_le_mul_of_nonneg_left h2 (show 0 ≤ pd d n by omega)
    omega
  · have := Int.mul_le_mul_of_nonneg_right h1 (show 0 ≤ d n by omega)
    omega
theorem pd_mono {d : Nat → Int} {n : Nat} (h : ∀ i, i < n → 1 ≤ d i) (k : Nat) (hk : k ≤ n) : pd d k ≤ pd d n := by
  obtain ⟨t, rfl⟩ : ∃ t, n = k + t := ⟨n - k, by omega⟩
  clear hk
  induction t with
  | zero => exact Int.le_refl _
  | succ t ih =>
    have h1 := ih (fun i hi => h i (by omega))
    have h2 := (pd_step (d := d) (n := k + t) (fun i hi => h i (by omega))).1
    exact Int.le_trans h1 h2
/-- what Size answers. -/
def SzIs (d : Nat → Int) (n : Nat) (r er : Int) : Prop :=
  ((8 < n ∨ ∃ i, i < n ∧ d i < 1) ∧ r = 0 ∧ er = 1) ∨ (n ≤ 8 ∧ (∀ i, i < n → 1 ≤ d i) ∧ (65536 < pd d n ∧ r = 0 ∧ er = 13 ∨ pd d n ≤ 65536 ∧ r = pd d n ∧ er = 0))
theorem SzIs.uniq {d : Nat → Int} {n : Nat} {r er r' er' : Int} (h : SzIs d n r er) (h' : SzIs d n r' er') : r = r' ∧ er = er' := by
  rcases h with ⟨h1, h2, h3⟩ | ⟨h1, h2, h3⟩ <;> rcases h' with ⟨g1, g2, g3⟩ | ⟨g1, g2, g3⟩
  · omega
  · rcases h1 with h1 | ⟨i, hi, h1⟩
    · omega
    · have := g2 i hi; omega
  · rcases g1 with g1 | ⟨i, hi, g1⟩
    · omega
    · have := h2 i hi; omega
  · omega
theorem SzIs.ok {d : Nat → Int} {n : Nat} {r er : Int} (h : SzIs d n r er) (he : er = 0) : n ≤ 8 ∧ (∀ i, i < n → 1 ≤ d i) ∧ pd d n ≤ 65536 ∧ r = pd d n := by
  rcases h with ⟨h1, h2, h3⟩ | ⟨h1, h2, h3⟩
  · omega
  · refine ⟨h1, h2, ?_, ?_⟩ <;> omega
/-- the place of exponents. -/
def pl (d e : Nat → Int) : Nat → Int
  | 0 => 0
  | k + 1 => pl d e k * d k + e k
theorem pl_lt {d e : Nat → Int} : ∀ {n : Nat}, (∀ i, i < n → 0 ≤ e i ∧ e i < d i) → 0 ≤ pl d e n ∧ pl d e n < pd d n
  | 0, _ => by show (0 : Int) ≤ 0 ∧ (0 : Int) < 1; omega
  | n + 1, h => by
    have h1 := pl_lt (n := n) (fun i hi => h i (by omega))
    have h2 := h n (by omega)
    show 0 ≤ pl d e n * d n + e n ∧ pl d e n * d n + e n < pd d n * d n
    have a1 := Int.mul_nonneg h1.1 (show 0 ≤ d n by omega)
    have a2 : (pl d e n + 1) * d n ≤ pd d n * d n := Int.mul_le_mul_of_nonneg_right (by omega) (by omega)
    rw [Int.add_mul] at a2
    omega
/-- what Place answers. -/
def PlIs (d : Nat → Int) (n : Nat) (e : Nat → Int) (m : Nat) (r er : Int) : Prop :=
  (∃ s, SzIs d n s er ∧ er ≠ 0 ∧ r = 0) ∨ (∃ s, SzIs d n s 0) ∧ ((m ≠ n ∨ ∃ i, i < n ∧ ¬ (0 ≤ e i ∧ e i < d i)) ∧ r = 0 ∧ er = 1 ∨ m = n ∧ (∀ i, i < n → 0 ≤ e i ∧ e i < d i) ∧ r = pl d e n ∧ er = 0)
theorem PlIs.uniq {d : Nat → Int} {n : Nat} {e : Nat → Int} {m : Nat} {r er r' er' : Int} (h : PlIs d n e m r er) (h' : PlIs d n e m r' er') : r = r' ∧ er = er' := by
  rcases h with ⟨s, S, h1, h2⟩ | ⟨⟨s, S⟩, h1⟩ <;> rcases h' with ⟨s', S', g1, g2⟩ | ⟨⟨s', S'⟩, g1⟩
  · have := S.uniq S'; omega
  · have := S.uniq S'; omega
  · have := S.uniq S'; omega
  · rcases h1 with ⟨h1, h2, h3⟩ | ⟨h1, h2, h3, h4⟩ <;> rcases g1 with ⟨g1, g2, g3⟩ | ⟨g1, g2, g3, g4⟩
    · omega
    · rcases h1 with h1 | ⟨i, hi, h1⟩
      · omega
      · exact absurd (g2 i hi) h1
    · rcases g1 with g1 | ⟨i, hi, g1⟩
      · omega
      · exact absurd (h2 i hi) g1
    · omega
end Go.Proofs.YtocfenjampmdlabGreatDoor
namespace Go.Proofs.YtocfenjampmdlabGreatDoor
open Go.RowKit Num Nmb

end Go.Proofs.YtocfenjampmdlabGreatDoor
namespace Go.Proofs.YtocfenjampmdlabGreatDoor
open Go.RowKit Num Nmb

/-- one block alone was changed. -/
structure OnlyB (g : Nat) (w w' : World) : Prop where
  os : w'.os = w.os
  tape : w'.tape = w.tape
  output : w'.output = w.output
  size : w'.heap.size = w.heap.size
  block : ∀ k, k ≠ g → w'.heap[k]? = w.heap[k]?
theorem OnlyB.refl (g : Nat) (w : World) : OnlyB g w w := ⟨rfl, rfl, rfl, rfl, fun _ _ => rfl⟩
theorem OnlyB.drew {g : Nat} {w w' : World} (h : OnlyB g w w') (n : Nat) : OnlyB g w (w'.drewN n) := by
  have b := below_drewN (Below.refl w'.heap.size w') n
  refine ⟨b.os.trans h.os, b.tape.trans h.tape, b.output.trans h.output, by simpa using h.size, fun k hk => ?_⟩
  rw [show (w'.drewN n).heap = w'.heap by simp]
  exact h.block k hk
theorem OnlyB.set {g : Nat} {w w' : World} (h : OnlyB g w w') (i : Nat) (v : Value) : OnlyB g w (w'.setCell ⟨g, i, none⟩ v) :=
  ⟨h.os, h.tape, h.output, by simpa [World.setCell] using h.size, fun k hk => (heap_setCell_other w' ⟨g, i, none⟩ k v hk).trans (h.block k hk)⟩
theorem OnlyB.below {g : Nat} {w w' : World} (h : OnlyB g w w') : Below g w w' := ⟨h.os, h.tape, h.output, Nat.le_of_eq h.size.symm, fun k hk => h.block k (by omega)⟩
/-- block g holds one value. -/
def Box (w : World) (g : Nat) (v : Value) : Prop := ∃ t, w.heap[g]? = some (.cells #[v] t (0, 0))
theorem Box.cell {w : World} {g : Nat} {v : Value} (h : Box w g v) : w.cell? ⟨g, 0, none⟩ = some v := by obtain ⟨t, h⟩ := h; simp only [World.cell?, h]; rfl
theorem Box.frozen {w : World} {g : Nat} {v : Value} (h : Box w g v) (i : Nat) : w.frozen? ⟨g, i, none⟩ = false := by obtain ⟨t, h⟩ := h; simp only [World.frozen?, h]; rfl
theorem Box.lt {w : World} {g : Nat} {v : Value} (h : Box w g v) : g < w.heap.size := by obtain ⟨t, h⟩ := h; exact (Array.getElem?_eq_some_iff.1 h).1
theorem Box.only {w w' : World} {g b : Nat} {v : Value} (h : Box w g v) (o : OnlyB b w w') (hg : g ≠ b) : Box w' g v := by obtain ⟨t, h⟩ := h; exact ⟨t, by rw [o.block g hg]; exact h⟩
theorem Box.row {w : World} {g b n : Nat} {v : Value} {x : Nat → Int} (h : Box w g v) (r : Row w b n x) (hv : ∀ i, v ≠ .int .u64 i) (hn : 0 < n) : g ≠ b := by
  rintro rfl
  obtain ⟨t, h⟩ := h
  obtain ⟨cur, h1, h2, h3⟩ := r
  rw [h] at h1
  injection h1 with h1
  injection h1 with h1
  have := h3 0 hn
  rw [← h1] at this
  simp at this
  exact hv _ this
theorem Fld.only {w w' : World} {g b : Nat} {m f s : Int} (h : Fld w g m f s) (o : OnlyB b w w') (hg : g ≠ b) : Fld w' g m f s := by unfold Fld; rw [o.block g hg]; exact h
theorem cell_other {g b : Nat} (h : g ≠ b) (W : World) (i j : Nat) (v : Value) : (W.setCell ⟨b, i, none⟩ v).cell? ⟨g, j, none⟩ = W.cell? ⟨g, j, none⟩ := by
  unfold World.cell?
  rw [heap_setCell_other W ⟨b, i, none⟩ g v h]
theorem Box.drew {w : World} {g : Nat} {v : Value} (h : Box w g v) (n : Nat) : Box (w.drewN n) g v := by obtain ⟨t, h⟩ := h; exact ⟨t, by simpa using h⟩
theorem Box.set {w : World} {g : Nat} {v : Value} (h : Box w g v) (v' : Value) : Box (w.setCell ⟨g, 0, none⟩ v') g v' := by
  obtain ⟨t, h⟩ := h
  exact ⟨t, by rw [heap_setCell_same w g 0 _ _ _ h]; rfl⟩
theorem Box.other {w : World} {g b : Nat} {v : Value} (h : Box w g v) (hg : g ≠ b) (i : Nat) (v' : Value) : Box (w.setCell ⟨b, i, none⟩ v') g v := by
  obtain ⟨t, h⟩ := h
  exact ⟨t, by rw [heap_setCell_other w ⟨b, i, none⟩ g v' hg]; exact h⟩
theorem Box.below {B : Nat} {w w' : World} {g : Nat} {v : Value} (h : Box w g v) (hb : Below B w w') (hg : g < B) : Box w' g v := by obtain ⟨t, h⟩ := h; exact ⟨t, by rw [hb.block g hg]; exact h⟩
theorem Row.other {w : World} {g n b : Nat} {x : Nat → Int} (h : Row w g n x) (hg : g ≠ b) (i : Nat) (v : Value) : Row (w.setCell ⟨b, i, none⟩ v) g n x := by
  obtain ⟨cur, h1, h2, h3⟩ := h
  exact ⟨cur, by rw [heap_setCell_other w ⟨b, i, none⟩ g v hg]; exact h1, h2, h3⟩
theorem OnlyB.trans {g : Nat} {w w1 w2 : World} (h : OnlyB g w w1) (h' : OnlyB g w1 w2) : OnlyB g w w2 :=
  ⟨h'.os.trans h.os, h'.tape.trans h.tape, h'.output.trans h.output, h'.size.trans h.size, fun k hk => (h'.block k hk).trans (h.block k hk)⟩
theorem Row.only {w w' : World} {g b n : Nat} {x : Nat → Int} (h : Row w g n x) (o : OnlyB b w w') (hg : g ≠ b) : Row w' g n x := by
  obtain ⟨cur, h1, h2, h3⟩ := h
  exact ⟨cur, by rw [o.block g hg]; exact h1, h2, h3⟩
theorem Tryz.sizeU : (Tryz.prog.info? 22).map (·.size) = some 1 := by kernel_rfl
/-- a slice of words that does not lie in block g, copied into that block's row. -/
theorem wp_copyw {ops : Array Oper} {rest : List Oper} {q : Oper} {a : Act} {Q : Exit → Act → World → Prop} (w : World) (hgd : q.guard = none) (d s : Operand)
    (ho : q.op = .call { callee := .builtin .copy, args := #[d, s], argTypes := #[26, 26] })
    (g N dCap : Nat) (X : Nat → Int) (hd : a.eval d = .slice (some ⟨g, 0, none⟩) N dCap) (v : Value) (hs : a.eval s = v)
    (n : Nat) (x : Nat → Int) (hv : Wl w v n x) (hr : Row w g N X) (hnd : n ≤ N)
    (hK : ∀ w', Row w' g N (fun j => if j < n then x j else X j) → OnlyB g w w' → wpList Tryz.prog ops Q rest (a.put q.dst (goInt n)) w') :
    wpList Tryz.prog ops Q (q :: rest) a w := by
  obtain ⟨ao, cap, rfl, h1, h2, h3, h5⟩ := hv
  have hmin : Nat.min n N = n := Nat.min_eq_left hnd
  by_cases hn : n = 0
  · subst hn
    refine wpList_copy_nothing hgd d s 26 26 ho 22 Tryz.underlying26 Tryz.sizeU _ ao N dCap 0 cap hd hs (by simp) ?_
    refine hK w ?_ (OnlyB.refl _ _)
    have e : (fun j => if j < 0 then x j else X j) = X := funext fun j => if_neg (by omega)
    rw [e]
    exact hr
  · obtain ⟨b, ob, rfl, hb, hc⟩ := h5 (by omega)
    obtain ⟨cur, hg, hsz, hcur⟩ := hr
    have hlen : ((List.range n).map (fun j => Value.int .u64 (x j))).length = n := by simp
    refine wpList_copy_own hgd d s 26 26 ho 22 Tryz.underlying26 Tryz.sizeU g 0 N dCap ⟨b, ob, none⟩ n cap hd hs cur 22 hg
      ((List.range n).map (fun j => Value.int .u64 (x j))) (by rw [hlen, hmin]) ?_ (by rw [hlen, hsz]; omega) (by intro u hu; simp at hu; obtain ⟨j, _, rfl⟩ := hu; rfl) ?_
    · intro j u hj
      rw [List.getElem?_map] at hj
      simp only [Option.map_eq_some_iff] at hj
      obtain ⟨i, hi, rfl⟩ := hj
      have hjn : j < n := by
        have := (List.getElem?_eq_some_iff.1 hi).1
        simpa using this
      rw [List.getElem?_range hjn] at hi
      cases hi
      have := hc j hjn
      by_cases hj0 : j = 0
      · subst hj0; simpa [Addr.add] using this
      · simpa [Addr.add, hj0] using this
    · rw [hlen]
      refine hK _ ?_ ?_
      · refine ⟨_, setRow_heap w g _ _ 22 _ hg, ?_, ?_⟩
        · simp [hsz]; omega
        · intro j hj
          show _ = some (Value.int IntKind.u64 (if j < n then x j else X j))
          by_cases hin : j < n
          · rw [if_pos hin]
            simp [List.getElem?_append, hin]
          · rw [if_neg hin]
            have := hcur j hj
            simp [List.getElem?_append, hin, show n + (j - n) = j by omega]
            simpa using this
      · exact ⟨rfl, rfl, rfl, by simp [World.setRow], fun k hk => setRow_other w g k _ hk⟩
end Go.Proofs.YtocfenjampmdlabGreatDoor
namespace Go.Proofs.YtocfenjampmdlabGreatDoor
open Go.RowKit Num Nmb

/-- the exponents of the place p. -/
def dg (d : Nat → Int) : Nat → Int → Nat → Int
  | 0, _, _ => 0
  | n + 1, p, t => if t = n then p % d n else dg d n (p / d n) t
theorem dg_in {d : Nat → Int} : ∀ {n : Nat} {p : Int}, (∀ i, i < n → 1 ≤ d i) → ∀ t, t < n → 0 ≤ dg d n p t ∧ dg d n p t < d t
  | 0, _, _, t, ht => absurd ht (by omega)
  | n + 1, p, h, t, ht => by
    have hn := h n (by omega)
    show 0 ≤ (if t = n then p % d n else dg d n (p / d n) t) ∧ (if t = n then p % d n else dg d n (p / d n) t) < d t
    by_cases e : t = n
    · rw [if_pos e, e]
      exact ⟨Int.emod_nonneg _ (by omega), Int.emod_lt_of_pos _ (by omega)⟩
    · rw [if_neg e]
      exact dg_in (fun i hi => h i (by omega)) t (by omega)
theorem pl_eq {d e e' : Nat → Int} : ∀ {n : Nat}, (∀ i, i < n → e i = e' i) → pl d e n = pl d e' n
  | 0, _ => rfl
  | n + 1, h => by
    show pl d e n * d n + e n = pl d e' n * d n + e' n
    rw [pl_eq (fun i hi => h i (by omega)), h n (by omega)]
theorem pl_dg {d : Nat → Int} : ∀ {n : Nat} {p : Int}, (∀ i, i < n → 1 ≤ d i) → 0 ≤ p → p < pd d n → pl d (dg d n p) n = p
  | 0, p, _, h0, h1 => by
    have h1' : p < 1 := h1
    show (0 : Int) = p
    omega
  | n + 1, p, h, h0, h1 => by
    have hn := h n (by omega)
    have h1' : p < pd d n * d n := h1
    have e1 : pl d (dg d (n + 1) p) n = pl d (dg d n (p / d n)) n := pl_eq fun i hi => by
      show (if i = n then p % d n else dg d n (p / d n) i) = _
      rw [if_neg (by omega)]
    have e2 : dg d (n + 1) p n = p % d n := by
      show (if n = n then p % d n else dg d n (p / d n) n) = _
      rw [if_pos rfl]
    show pl d (dg d (n + 1) p) n * d n + dg d (n + 1) p n = p
    rw [e1, e2, pl_dg (fun i hi => h i (by omega)) (Int.ediv_nonneg h0 (by omega)) (Int.ediv_lt_of_lt_mul (by omega) h1'), Int.mul_comm]
    exact Int.mul_ediv_add_emod p (d n)
/-- exponents are told by their place. -/
theorem pl_inj {d e e' : Nat → Int} : ∀ {n : Nat}, (∀ i, i < n → 0 ≤ e i ∧ e i < d i) → (∀ i, i < n → 0 ≤ e' i ∧ e' i < d i) → pl d e n = pl d e' n → ∀ i, i < n → e i = e' i
  | 0, _, _, _, i, hi => absurd hi (by omega)
  | n + 1, h, h', he, i, hi => by
    have a1 := h n (by omega)
    have a2 := h' n (by omega)
    have he' : pl d e n * d n + e n = pl d e' n * d n + e' n := he
    have m1 : (pl d e n * d n + e n) % d n = e n := by
      rw [Int.add_comm, Int.add_mul_emod_self_right, Int.emod_eq_of_lt a1.1 a1.2]
    have m2 : (pl d e' n * d n + e' n) % d n = e' n := by
      rw [Int.add_comm, Int.add_mul_emod_self_right, Int.emod_eq_of_lt a2.1 a2.2]
    have en : e n = e' n := by rw [← m1, he', m2]
    have ep : pl d e n = pl d e' n := Int.eq_of_mul_eq_mul_right (show d n ≠ 0 by omega) (by omega)
    by_cases q : i = n
    · rw [q]; exact en
    · exact pl_inj (fun i hi => h i (by omega)) (fun i hi => h' i (by omega)) ep i (by omega)
/-- block g holds n ints x. -/
def Rowi (w : World) (g n : Nat) (x : Nat → Int) : Prop :=
  ∃ cur : Array Value, w.heap[g]? = some (.cells cur 3 (0, 0)) ∧ cur.size = n ∧ ∀ j, j < n → cur[j]? = some (.int .i64 (x j))
theorem Rowi.cell {w : World} {g n : Nat} {x : Nat → Int} (h : Rowi w g n x) {i : Nat} (hi : i < n) : w.cell? ⟨g, i, none⟩ = some (.int .i64 (x i)) := by
  obtain ⟨cur, hg, _, hc⟩ := h
  simp [World.cell?, hg, hc i hi]
theorem Rowi.frozen {w : World} {g n : Nat} {x : Nat → Int} (h : Rowi w g n x) (i : Nat) : w.frozen? ⟨g, i, none⟩ = false := by
  obtain ⟨cur, hg, _, hc⟩ := h
  simp [World.frozen?, hg]
theorem Rowi.lt {w : World} {g n : Nat} {x : Nat → Int} (h : Rowi w g n x) : g < w.heap.size := by
  obtain ⟨cur, hg, _⟩ := h
  exact (Array.getElem?_eq_some_iff.1 hg).1
theorem Rowi.set {w : World} {g n : Nat} {x y : Nat → Int} (h : Rowi w g n x) (i : Nat) (v : Int) (e : ∀ j, j < n → y j = if j = i then v else x j) : Rowi (w.setCell ⟨g, i, none⟩ (.int .i64 v)) g n y := by
  obtain ⟨cur, hg, hs, hc⟩ := h
  refine ⟨cur.setIfInBounds i (.int .i64 v), ?_, by simpa using hs, fun j hj => ?_⟩
  · rw [heap_setCell_same w g i cur 3 _ hg]
  · rw [e j hj]
    by_cases e : j = i
    · subst e; rw [Array.getElem?_setIfInBounds]; simp [hs, hj]
    · rw [Array.getElem?_setIfInBounds]; simp [Ne.symm e, e, hc j hj]
theorem Rowi.below {B : Nat} {w w' : World} {g n : Nat} {x : Nat → Int} (h : Rowi w g n x) (hb : Below B w w') (hg : g < B) : Rowi w' g n x := by
  obtain ⟨cur, h1, h2, h3⟩ := h
  exact ⟨cur, by rw [hb.block g hg]; exact h1, h2, h3⟩
theorem Rowi.wi {w : World} {g n : Nat} {x : Nat → Int} (h : Rowi w g n x) (hv : ∀ j, j < n → -9223372036854775808 ≤ x j ∧ x j ≤ 9223372036854775807) (hn : n ≤ 9223372036854775807) : Wi w (.slice (some ⟨g, 0, none⟩) n n) n x :=
  ⟨_, n, rfl, Nat.le_refl _, hn, hv, fun _ => ⟨g, 0, rfl, h.lt, fun j hj => by rw [Nat.zero_add]; exact h.cell hj⟩⟩
theorem Tryz.infoI : (Tryz.prog.info? 3).map (fun i => (i.zero, i.size, i.bytes)) = some (some (.int .i64 0), 1, 8) := by kernel_rfl
theorem Rowi.new (w : World) (n : Nat) : Rowi (w.alloc (.cells (madeCells #[.int .i64 0] (n * 1)) 3)) w.heap.size n (fun _ => 0) := by
  refine ⟨madeCells #[.int .i64 0] (n * 1), ?_, by simp [size_madeCells], fun j hj => ?_⟩
  · exact heap_alloc_new w _
  · simp [madeCells, hj, Nat.mod_one]
theorem wp_makei {ops : Array Oper} {rest : List Oper} {o : Oper} {a : Act} {Q : Exit → Act → World → Prop} (w : World) (hg : o.guard = none) (l c : Operand) (hop : o.op = Op.makeSlice 38 l c)
    (L C : Int) (n : Nat) (hl : a.eval l = .int .i64 L) (hc : a.eval c = .int .i64 C) (hL : L = (n : Int)) (hC : C = (n : Int)) (hn : n ≤ 1000000000)
    (hK : ∀ w', Rowi w' w.heap.size n (fun _ => 0) → Below w.heap.size w w' → w'.heap.size = w.heap.size + 1 → wpList Tryz.prog ops Q rest (a.put o.dst (.slice (some ⟨w.heap.size, 0, none⟩) n n)) w') :
    wpList Tryz.prog ops Q (o :: rest) a w := by
  obtain ⟨i0, hi, hz0, hz1, hz2⟩ := info_parts Tryz.infoI
  refine wpList_plain hg fun K hK' => ?_
  have hr := run_make (P := Tryz.prog) w 38 3 i0 (.int .i64 0) Tryz.underlying38 hi hz0 .i64 .i64 n n (by omega) (Int.le_refl _) (by rw [hz2]; omega) (by omega)
  simp only [Int.toNat_natCast] at hr
  rw [hz1] at hr
  subst hL; subst hC
  unfold Oper.wp
  simp [execOp, hop, hl, hc, hr, Result.andThen]
  refine hK' _ _ (hK _ ?_ ?_ ?_)
  · have := Rowi.new w n
    rw [Nat.mul_one] at this
    exact this
  · exact (Below.refl _ _).alloc (Nat.le_refl _) _
  · simp
end Go.Proofs.YtocfenjampmdlabGreatDoor
namespace Nmb

theorem rv_cat : ∀ m d B i, i < 2 ^ m → rv (d + m) (B * 2 ^ m + i) = rv d B + 2 ^ d * rv m i
  | 0, d, B, i, h => by
    obtain rfl : i = 0 := by rw [Nat.pow_zero] at h; omega
    rw [Nat.pow_zero, Nat.mul_one, Nat.add_zero, Nat.add_zero]
    show _ = _ + 2 ^ d * 0
    omega
  | m + 1, d, B, i, h => by
    have e1 : (B * 2 ^ (m + 1) + i) % 2 = i % 2 := by
      rw [Nat.pow_succ, ← Nat.mul_assoc]
      omega
    have e2 : (B * 2 ^ (m + 1) + i) / 2 = B * 2 ^ m + i / 2 := by
      rw [Nat.pow_succ, ← Nat.mul_assoc]
      omega
    have h' : i / 2 < 2 ^ m := by rw [Nat.pow_succ] at h; omega
    show (B * 2 ^ (m + 1) + i) % 2 * 2 ^ (d + m) + rv (d + m) ((B * 2 ^ (m + 1) + i) / 2) = rv d B + 2 ^ d * (i % 2 * 2 ^ m + rv m (i / 2))
    rw [e1, e2, rv_cat m d B (i / 2) h', Nat.mul_add, Nat.pow_add, Nat.mul_left_comm (2 ^ d)]
    omega
/-- the values at the points below the place b of the depth k - m, of what is left there. -/
def lf (w : Int) (k : Nat) : Nat → Nat → (Nat → Int) → Nat → Int
  | 0, _, A, _ => A 0
  | m + 1, b, A, i => if i < 2 ^ m then lf w k m (2 * b) (fun j => A j + nd w k (k - m) (2 * b) * A (j + 2 ^ m)) i
      else lf w k m (2 * b + 1) (fun j => A j - nd w k (k - m) (2 * b) * A (j + 2 ^ m)) (i - 2 ^ m)
theorem ev_halves (A : Nat → Int) (h : Nat) (x : Int) : ev A (2 * h) x = ev A h x + x ^ h * ev (fun j => A (j + h)) h x := by
  unfold ev
  rw [Nat.two_mul, sm_app, ← sm_mul]
  congr 1
  refine sm_eq _ fun j _ => ?_
  rw [Nat.add_comm h j, Int.pow_add, Int.mul_left_comm, Int.mul_comm (x ^ h)]
  grind
theorem ev_mulc (A : Nat → Int) (c : Int) (n : Nat) (x : Int) : ev (fun j => c * A j) n x = c * ev A n x := by
  unfold ev
  rw [← sm_mul]
  exact sm_eq _ fun j _ => Int.mul_assoc ..
theorem Rt.lf_ev {p : Nat} {w : Int} {k : Nat} (R : Rt p w k) : ∀ m, m ≤ k → ∀ b A i, i < 2 ^ m → Cg p (lf w k m b A i) (ev A (2 ^ m) (w ^ rv k (b * 2 ^ m + i)))
  | 0, _, b, A, i, _ => by
    show Cg p (A 0) (ev A 1 _)
    rw [ev_front]
    exact Cg.of_eq (by show A 0 = A 0 + _ * 0; rw [Int.mul_zero, Int.add_zero])
  | m + 1, hm, b, A, i, hi => by
    have e2 : 2 ^ (m + 1) = 2 * 2 ^ m := by rw [Nat.pow_succ, Nat.mul_comm]
    have key : ∀ B i, i < 2 ^ m → Cg p ((w ^ rv k (B * 2 ^ m + i)) ^ 2 ^ m) (nd w k (k - m) B) := fun B i hi => by
      have h1 := rv_cat m (k - m) B i hi
      rw [Nat.sub_add_cancel (by omega)] at h1
      unfold nd
      rw [h1, ← Int.pow_mul, Nat.add_mul, Int.pow_add, show k - (k - m) = m by omega]
      have h2 : Cg p (w ^ (2 ^ (k - m) * rv m i * 2 ^ m)) 1 := by
        rw [Nat.mul_right_comm, ← Nat.pow_add, Nat.sub_add_cancel (by omega), Int.pow_mul]
        exact R.one.pow_one _
      have := (Cg.rfl (p := p) (a := w ^ (rv (k - m) B * 2 ^ m))).mul h2
      rw [Int.mul_one] at this
      exact this
    rw [e2, ev_halves]
    show Cg p (if i < 2 ^ m then _ else _) _
    by_cases h : i < 2 ^ m
    · rw [if_pos h]
      refine (R.lf_ev m (by omega) (2 * b) _ i h).trans ?_
      rw [ev_add, ev_mulc, show 2 * b * 2 ^ m + i = b * (2 * 2 ^ m) + i by rw [Nat.mul_comm 2 b, Nat.mul_assoc]]
      refine Cg.rfl.add (Cg.mul ?_ Cg.rfl)
      have := key (2 * b) i h
      rw [show 2 * b * 2 ^ m + i = b * (2 * 2 ^ m) + i by rw [Nat.mul_comm 2 b, Nat.mul_assoc]] at this
      exact this.symm
    · rw [if_neg h]
      have hi' : i - 2 ^ m < 2 ^ m := by omega
      refine (R.lf_ev m (by omega) (2 * b + 1) _ (i - 2 ^ m) hi').trans ?_
      have ei : (2 * b + 1) * 2 ^ m + (i - 2 ^ m) = b * (2 * 2 ^ m) + i := by
        rw [Nat.add_mul, Nat.mul_comm 2 b, Nat.mul_assoc]
        omega
      rw [ev_sub, ev_mulc, ei]
      have k1 := key (2 * b + 1) (i - 2 ^ m) hi'
      rw [ei] at k1
      have k2 := R.nd_high (d := k - m - 1) (by omega) b
      rw [show k - m - 1 + 1 = k - m by omega] at k2
      have k3 := k1.trans k2
      have k4 := (Cg.rfl (p := p) (a := ev A (2 ^ m) (w ^ rv k (b * (2 * 2 ^ m) + i)))).add (k3.mul (Cg.rfl (p := p) (a := ev (fun j => A (j + 2 ^ m)) (2 ^ m) (w ^ rv k (b * (2 * 2 ^ m) + i)))))
      refine (k4.trans (Cg.of_eq ?_)).symm
      rw [Int.neg_mul]
      omega
/-- all values. -/
theorem Rt.lf_all {p : Nat} {w : Int} {k : Nat} (R : Rt p w k) (A : Nat → Int) (i : Nat) (hi : i < 2 ^ k) : Cg p (lf w k k 0 A i) (ev A (2 ^ k) (w ^ rv k i)) := by
  have := R.lf_ev k (Nat.le_refl _) 0 A i hi
  rw [Nat.zero_mul, Nat.zero_add] at this
  exact this
theorem lf_cg {p : Nat} {w : Int} {k : Nat} : ∀ m b A A' i, (∀ j, j < 2 ^ m → Cg p (A j) (A' j)) → i < 2 ^ m → Cg p (lf w k m b A i) (lf w k m b A' i)
  | 0, _, A, A', _, h, _ => h 0 (by rw [Nat.pow_zero]; omega)
  | m + 1, b, A, A', i, h, hi => by
    have e2 : 2 ^ (m + 1) = 2 * 2 ^ m := by rw [Nat.pow_succ, Nat.mul_comm]
    show Cg p (if i < 2 ^ m then _ else _) (if i < 2 ^ m then _ else _)
    by_cases hl : i < 2 ^ m
    · rw [if_pos hl, if_pos hl]
      exact lf_cg m _ _ _ i (fun j hj => (h j (by omega)).add (Cg.rfl.mul (h (j + 2 ^ m) (by omega)))) hl
    · rw [if_neg hl, if_neg hl]
      exact lf_cg m _ _ _ _ (fun j hj => (h j (by omega)).sub (Cg.rfl.mul (h (j + 2 ^ m) (by omega)))) (by omega)
end Nmb
