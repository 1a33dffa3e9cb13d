/- Slices of words. -/
/- Lists of ints; how many coefficients a box has, and where each stands: the reference's Size and Place (chapter 8). -/
/- The reference's Place (chapter 8). -/
/- A call that changes one block alone; variables that lie in a block of their own; a copy into a row of words. -/
import Derived.Test.YtocfenjampmdlaaGreatDoorPg
import Derived.Test.YtocfenjampmdlaaGreatDoorVw
import Derived.Test.YtocfenjampmdlaaGreatDoorQt
import Derived.Laws.CopyOwn
import Derived.BigQuiet
import Derived.OwnWalk
namespace Go.Proofs.YtocfenjampmdlaaGreatDoor
open Go.RowKit Num Nmb

/-- 'v' is a slice of the n words x. -/
def Wl (w : World) (v : Value) (n : Nat) (x : Nat → Int) : Prop :=
  ∃ ao cap, v = .slice ao n cap ∧ n ≤ cap ∧ cap ≤ 9223372036854775807 ∧ (∀ j, j < n → 0 ≤ x j ∧ x j ≤ 18446744073709551615) ∧
    (0 < n → ∃ b off, ao = some ⟨b, off, none⟩ ∧ b < w.heap.size ∧ ∀ j, j < n → w.cell? ⟨b, off + j, none⟩ = some (.int .u64 (x j)))
theorem Wl.below {w w' : World} {v : Value} {n : Nat} {x : Nat → Int} (h : Wl w v n x) (hb : Below w.heap.size w w') : Wl w' v n x := by
  obtain ⟨ao, cap, rfl, h1, h2, h3, h5⟩ := h
  refine ⟨ao, cap, rfl, h1, h2, h3, fun hn => ?_⟩
  obtain ⟨b, off, rfl, hbs, hc⟩ := h5 hn
  refine ⟨b, off, rfl, Nat.lt_of_lt_of_le hbs hb.size, fun j hj => ?_⟩
  rw [hb.cell (p := ⟨b, off + j, none⟩) hbs]; exact hc j hj
/-- block g holds n words x. -/
def Row (w : World) (g n : Nat) (x : Nat → Int) : Prop :=
  ∃ cur : Array Value, w.heap[g]? = some (.cells cur 23 (0, 0)) ∧ cur.size = n ∧ ∀ j, j < n → cur[j]? = some (.int .u64 (x j))
theorem Row.cell {w : World} {g n : Nat} {x : Nat → Int} (h : Row w g n x) {i : Nat} (hi : i < n) : w.cell? ⟨g, i, none⟩ = some (.int .u64 (x i)) := by
  obtain ⟨cur, hg, _, hc⟩ := h
  simp [World.cell?, hg, hc i hi]
theorem Row.frozen {w : World} {g n : Nat} {x : Nat → Int} (h : Row w g n x) (i : Nat) : w.frozen? ⟨g, i, none⟩ = false := by
  obtain ⟨cur, hg, _, hc⟩ := h
  simp [World.frozen?, hg]
theorem Row.set {w : World} {g n : Nat} {x y : Nat → Int} (h : Row w g n x) (i : Nat) (v : Int) (e : ∀ j, j < n → y j = if j = i then v else x j) : Row (w.setCell ⟨g, i, none⟩ (.int .u64 v)) g n y := by
  obtain ⟨cur, hg, hs, hc⟩ := h
  refine ⟨cur.setIfInBounds i (.int .u64 v), ?_, by simpa using hs, fun j hj => ?_⟩
  · rw [heap_setCell_same w g i cur 23 _ hg]
  · rw [e j hj]
    by_cases e : j = i
    · subst e; rw [Array.getElem?_setIfInBounds]; simp [hs, hj]
    · rw [Array.getElem?_setIfInBounds]; simp [Ne.symm e, e, hc j hj]
theorem Row.drew {w : World} {g n : Nat} {x : Nat → Int} (h : Row w g n x) (k : Nat) : Row (w.drewN k) g n x := by
  obtain ⟨cur, hg, hs, hc⟩ := h
  exact ⟨cur, by simpa using hg, hs, hc⟩
theorem Row.below {B : Nat} {w w' : World} {g n : Nat} {x : Nat → Int} (h : Row w g n x) (hb : Below B w w') (hg : g < B) : Row w' g n x := by
  obtain ⟨cur, h1, h2, h3⟩ := h
  exact ⟨cur, by rw [hb.block g hg]; exact h1, h2, h3⟩
theorem Row.lt {w : World} {g n : Nat} {x : Nat → Int} (h : Row w g n x) : g < w.heap.size := by
  obtain ⟨cur, hg, _⟩ := h
  exact (Array.getElem?_eq_some_iff.1 hg).1
theorem Fld.other {w : World} {g r : Nat} {m f s : Int} (h : Fld w g m f s) (hg : g ≠ r) (i : Nat) (v : Value) : Fld (w.setCell ⟨r, i, none⟩ v) g m f s := by
  unfold Fld; rw [heap_setCell_other w ⟨r, i, none⟩ g v hg]; exact h
theorem Tryz.infoU : (Tryz.prog.info? 23).map (fun i => (i.zero, i.size, i.bytes)) = some (some (.int .u64 0), 1, 8) := by kernel_rfl
theorem Row.new (w : World) (n : Nat) : Row (w.alloc (.cells (madeCells #[.int .u64 0] (n * 1)) 23)) w.heap.size n (fun _ => 0) := by
  refine ⟨madeCells #[.int .u64 0] (n * 1), ?_, by simp [size_madeCells], fun j hj => ?_⟩
  · exact heap_alloc_new w _
  · simp [madeCells, hj, Nat.mod_one]
theorem wp_make {ops : Array Oper} {rest : List Oper} {o : Oper} {a : Act} {Q : Exit → Act → World → Prop} (w : World) (hg : o.guard = none) (l c : Operand) (hop : o.op = Op.makeSlice 22 l c)
    (L C : Int) (n : Nat) (hl : a.eval l = .int .i64 L) (hc : a.eval c = .int .i64 C) (hL : L = (n : Int)) (hC : C = (n : Int)) (hn : n ≤ 1000000000)
    (hK : ∀ w', Row w' w.heap.size n (fun _ => 0) → Below w.heap.size w w' → w'.heap.size = w.heap.size + 1 → wpList Tryz.prog ops Q rest (a.put o.dst (.slice (some ⟨w.heap.size, 0, none⟩) n n)) w') :
    wpList Tryz.prog ops Q (o :: rest) a w := by
  obtain ⟨i0, hi, hz0, hz1, hz2⟩ := info_parts Tryz.infoU
  refine wpList_plain hg fun K hK' => ?_
  have hr := run_make (P := Tryz.prog) w 22 23 i0 (.int .u64 0) Tryz.underlying22 hi hz0 .i64 .i64 n n (by omega) (Int.le_refl _) (by rw [hz2]; omega) (by omega)
  simp only [Int.toNat_natCast] at hr
  rw [hz1] at hr
  subst hL; subst hC
  unfold Oper.wp
  simp [execOp, hop, hl, hc, hr, Result.andThen]
  refine hK' _ _ (hK _ ?_ ?_ ?_)
  · have := Row.new w n
    rw [Nat.mul_one] at this
    exact this
  · exact (Below.refl _ _).alloc (Nat.le_refl _) _
  · simp
theorem Wl.heap {w w' : World} {v : Value} {n : Nat} {x : Nat → Int} (h : Wl w v n x) (e : w'.heap = w.heap) : Wl w' v n x := by
  obtain ⟨ao, cap, rfl, h1, h2, h3, h5⟩ := h
  refine ⟨ao, cap, rfl, h1, h2, h3, fun hn => ?_⟩
  obtain ⟨b, off, rfl, hbs, hc⟩ := h5 hn
  refine ⟨b, off, rfl, by rw [e]; exact hbs, fun j hj => ?_⟩
  unfold World.cell? at *
  rw [e]; exact hc j hj
theorem Wl.drew {w : World} {v : Value} {n : Nat} {x : Nat → Int} (h : Wl w v n x) (k : Nat) : Wl (w.drewN k) v n x := h.heap (by simp)
theorem Wl.eq {w : World} {v : Value} {n : Nat} {x y : Nat → Int} (h : Wl w v n x) (e : ∀ j, j < n → x j = y j) : Wl w v n y := by
  obtain ⟨ao, cap, rfl, h1, h2, h3, h5⟩ := h
  refine ⟨ao, cap, rfl, h1, h2, fun j hj => by rw [← e j hj]; exact h3 j hj, fun hn => ?_⟩
  obtain ⟨b, off, rfl, hbs, hc⟩ := h5 hn
  exact ⟨b, off, rfl, hbs, fun j hj => by rw [← e j hj]; exact hc j hj⟩
theorem Wl.val {w : World} {v : Value} {n : Nat} {x : Nat → Int} (h : Wl w v n x) {j : Nat} (hj : j < n) : 0 ≤ x j ∧ x j ≤ 18446744073709551615 := by
  obtain ⟨ao, cap, rfl, h1, h2, h3, h5⟩ := h
  exact h3 j hj
theorem Wl.nil (w : World) (x : Nat → Int) : Wl w (.slice none 0 0) 0 x := ⟨none, 0, rfl, Nat.le_refl _, by omega, fun j hj => absurd hj (by omega), fun h => absurd h (by omega)⟩
theorem Row.wl {w : World} {g n : Nat} {x : Nat → Int} (h : Row w g n x) (hv : ∀ j, j < n → 0 ≤ x j ∧ x j ≤ 18446744073709551615) (hn : n ≤ 9223372036854775807) : Wl w (.slice (some ⟨g, 0, none⟩) n n) n x :=
  ⟨_, n, rfl, Nat.le_refl _, hn, hv, fun _ => ⟨g, 0, rfl, h.lt, fun j hj => by rw [Nat.zero_add]; exact h.cell hj⟩⟩
theorem OwW.wl {w : World} {base : Nat} {v : Value} {l : List Nat} (h : OwW w base v l) (hv : ∀ x, x ∈ l → x ≤ 18446744073709551615) : Wl w v l.length (fun j => (l.getD j 0 : Nat)) := by
  have bd : ∀ j, j < l.length → (0 : Int) ≤ (l.getD j 0 : Nat) ∧ ((l.getD j 0 : Nat) : Int) ≤ 18446744073709551615 := fun j hj => by
    have : l.getD j 0 ∈ l := by rw [List.getD_eq_getElem?_getD, List.getElem?_eq_getElem hj]; exact List.getElem_mem _
    have := hv _ this
    omega
  rcases h.2 with ⟨rfl, h0⟩ | ⟨g, cap, cur, rfl, hg, hgg, hgc, hgm, hgs, htk⟩
  · refine ⟨none, 0, by rw [h0], by omega, by omega, bd, fun h => absurd h (by omega)⟩
  · refine ⟨_, cap, rfl, hgc, by unfold maxLen at hgm; omega, bd, fun _ => ⟨g, 0, rfl, (Array.getElem?_eq_some_iff.1 hgg).1, fun j hj => ?_⟩⟩
    have e := World.ownsRow.cellAt h j (by omega)
    rw [Nat.zero_add, e]
    unfold wordCells
    rw [List.getElem?_map, List.getElem?_eq_getElem hj]
    have e2 : l.getD j 0 = l[j] := by rw [List.getD_eq_getElem?_getD, List.getElem?_eq_getElem hj]; rfl
    show some (Value.int IntKind.u64 _) = some (Value.int IntKind.u64 ((l.getD j 0 : Nat) : Int))
    rw [e2]
/-- the numbers of a list of words. -/
def lw (l : List Nat) (j : Nat) : Int := (l.getD j 0 : Nat)
theorem lw_push (l : List Nat) (c j : Nat) : lw (l ++ [c]) j = if j = l.length then (c : Int) else lw l j := by
  unfold lw
  by_cases e : j = l.length
  · rw [if_pos e, e]; simp
  · rw [if_neg e]
    by_cases h : j < l.length
    · rw [List.getD_eq_getElem?_getD, List.getD_eq_getElem?_getD, List.getElem?_append_left h]
    · rw [List.getD_eq_getElem?_getD, List.getD_eq_getElem?_getD, List.getElem?_eq_none (by simp; omega), List.getElem?_eq_none (by omega)]
end Go.Proofs.YtocfenjampmdlaaGreatDoor
namespace Go.Proofs.YtocfenjampmdlaaGreatDoor
open Go.RowKit Num Nmb

/-- 'v' is a slice of the n ints x. -/
def Wi (w : World) (v : Value) (n : Nat) (x : Nat → Int) : Prop :=
  ∃ ao cap, v = .slice ao n cap ∧ n ≤ cap ∧ cap ≤ 9223372036854775807 ∧ (∀ j, j < n → -9223372036854775808 ≤ x j ∧ x j ≤ 9223372036854775807) ∧
    (0 < n → ∃ b off, ao = some ⟨b, off, none⟩ ∧ b < w.heap.size ∧ ∀ j, j < n → w.cell? ⟨b, off + j, none⟩ = some (.int .i64 (x j)))
theorem Wi.below {w w' : World} {v : Value} {n : Nat} {x : Nat → Int} (h : Wi w v n x) (hb : Below w.heap.size w w') : Wi w' v n x := by
  obtain ⟨ao, cap, rfl, h1, h2, h3, h5⟩ := h
  refine ⟨ao, cap, rfl, h1, h2, h3, fun hn => ?_⟩
  obtain ⟨b, off, rfl, hbs, hc⟩ := h5 hn
  refine ⟨b, off, rfl, Nat.lt_of_lt_of_le hbs hb.size, fun j hj => ?_⟩
  rw [hb.cell (p := ⟨b, off + j, none⟩) hbs]; exact hc j hj
theorem Wi.heap {w w' : World} {v : Value} {n : Nat} {x : Nat → Int} (h : Wi w v n x) (e : w'.heap = w.heap) : Wi w' v n x := by
  obtain ⟨ao, cap, rfl, h1, h2, h3, h5⟩ := h
  refine ⟨ao, cap, rfl, h1, h2, h3, fun hn => ?_⟩
  obtain ⟨b, off, rfl, hbs, hc⟩ := h5 hn
  refine ⟨b, off, rfl, by rw [e]; exact hbs, fun j hj => ?_⟩
  unfold World.cell? at *
  rw [e]; exact hc j hj
theorem Wi.drew {w : World} {v : Value} {n : Nat} {x : Nat → Int} (h : Wi w v n x) (k : Nat) : Wi (w.drewN k) v n x := h.heap (by simp)
theorem Wi.val {w : World} {v : Value} {n : Nat} {x : Nat → Int} (h : Wi w v n x) {j : Nat} (hj : j < n) : -9223372036854775808 ≤ x j ∧ x j ≤ 9223372036854775807 := by
  obtain ⟨ao, cap, rfl, h1, h2, h3, h5⟩ := h
  exact h3 j hj
theorem Wi.eq {w : World} {v : Value} {n : Nat} {x y : Nat → Int} (h : Wi w v n x) (e : ∀ j, j < n → x j = y j) : Wi w v n y := by
  obtain ⟨ao, cap, rfl, h1, h2, h3, h5⟩ := h
  refine ⟨ao, cap, rfl, h1, h2, fun j hj => by rw [← e j hj]; exact h3 j hj, fun hn => ?_⟩
  obtain ⟨b, off, rfl, hbs, hc⟩ := h5 hn
  exact ⟨b, off, rfl, hbs, fun j hj => by rw [← e j hj]; exact hc j hj⟩
/-- the product of the first n numbers. -/
def pd (d : Nat → Int) : Nat → Int
  | 0 => 1
  | n + 1 => pd d n * d n
theorem pd_pos {d : Nat → Int} : ∀ {n : Nat}, (∀ i, i < n → 1 ≤ d i) → 1 ≤ pd d n
  | 0, _ => by show (1 : Int) ≤ 1; omega
  | n + 1, h => by
    have h1 := pd_pos (n := n) (fun i hi => h i (by omega))
    have h2 := h n (by omega)
    show 1 ≤ pd d n * d n
    have := Int.mul_le_mul h1 h2 (by omega) (by omega)
    omega
theorem pd_step {d : Nat → Int} {n : Nat} (h : ∀ i, i < n + 1 → 1 ≤ d i) : pd d n ≤ pd d (n + 1) ∧ d n ≤ pd d (n + 1) := by
  have h1 := pd_pos (n := n) (fun i hi => h i (by omega))
  have h2 := h n (by omega)
  show pd d n ≤ pd d n * d n ∧ d n ≤ pd d n * d n
  constructor
  · have := Int.mul_le_mul_of_nonneg_left h2 (show 0 ≤ pd d n by omega)
    omega
  · have := Int.mul_le_mul_of_nonneg_right h1 (show 0 ≤ d n by omega)
    omega
theorem pd_mono {d : Nat → Int} {n : Nat} (h : ∀ i, i < n → 1 ≤ d i) (k : Nat) (hk : k ≤ n) : pd d k ≤ pd d n := by
  obtain ⟨t, rfl⟩ : ∃ t, n = k + t := ⟨n - k, by omega⟩
  clear hk
  induction t with
  | zero => exact Int.le_refl _
  | succ t ih =>
    have h1 := ih (fun i hi => h i (by omega))
    have h2 := (pd_step (d := d) (n := k + t) (fun i hi => h i (by omega))).1
    exact Int.le_trans h1 h2
/-- what Size answers. -/
def SzIs (d : Nat → Int) (n : Nat) (r er : Int) : Prop :=
  ((8 < n ∨ ∃ i, i < n ∧ d i < 1) ∧ r = 0 ∧ er = 1) ∨ (n ≤ 8 ∧ (∀ i, i < n → 1 ≤ d i) ∧ (65536 < pd d n ∧ r = 0 ∧ er = 13 ∨ pd d n ≤ 65536 ∧ r = pd d n ∧ er = 0))
theorem SzIs.uniq {d : Nat → Int} {n : Nat} {r er r' er' : Int} (h : SzIs d n r er) (h' : SzIs d n r' er') : r = r' ∧ er = er' := by
  rcases h with ⟨h1, h2, h3⟩ | ⟨h1, h2, h3⟩ <;> rcases h' with ⟨g1, g2, g3⟩ | ⟨g1, g2, g3⟩
  · omega
  · rcases h1 with h1 | ⟨i, hi, h1⟩
    · omega
    · have := g2 i hi; omega
  · rcases g1 with g1 | ⟨i, hi, g1⟩
    · omega
    · have := h2 i hi; omega
  · omega
theorem SzIs.ok {d : Nat → Int} {n : Nat} {r er : Int} (h : SzIs d n r er) (he : er = 0) : n ≤ 8 ∧ (∀ i, i < n → 1 ≤ d i) ∧ pd d n ≤ 65536 ∧ r = pd d n := by
  rcases h with ⟨h1, h2, h3⟩ | ⟨h1, h2, h3⟩
  · omega
  · refine ⟨h1, h2, ?_, ?_⟩ <;> omega
/-- the place of exponents. -/
def pl (d e : Nat → Int) : Nat → Int
  | 0 => 0
  | k + 1 => pl d e k * d k + e k
theorem pl_lt {d e : Nat → Int} : ∀ {n : Nat}, (∀ i, i < n → 0 ≤ e i ∧ e i < d i) → 0 ≤ pl d e n ∧ pl d e n < pd d n
  | 0, _ => by show (0 : Int) ≤ 0 ∧ (0 : Int) < 1; omega
  | n + 1, h => by
    have h1 := pl_lt (n := n) (fun i hi => h i (by omega))
    have h2 := h n (by omega)
    show 0 ≤ pl d e n * d n + e n ∧ pl d e n * d n + e n < pd d n * d n
    have a1 := Int.mul_nonneg h1.1 (show 0 ≤ d n by omega)
    have a2 : (pl d e n + 1) * d n ≤ pd d n * d n := Int.mul_le_mul_of_nonneg_right (by omega) (by omega)
    rw [Int.add_mul] at a2
    omega
/-- what Place answers. -/
def PlIs (d : Nat → Int) (n : Nat) (e : Nat → Int) (m : Nat) (r er : Int) : Prop :=
  (∃ s, SzIs d n s er ∧ er ≠ 0 ∧ r = 0) ∨ (∃ s, SzIs d n s 0) ∧ ((m ≠ n ∨ ∃ i, i < n ∧ ¬ (0 ≤ e i ∧ e i < d i)) ∧ r = 0 ∧ er = 1 ∨ m = n ∧ (∀ i, i < n → 0 ≤ e i ∧ e i < d i) ∧ r = pl d e n ∧ er = 0)
theorem PlIs.uniq {d : Nat → Int} {n : Nat} {e : Nat → Int} {m : Nat} {r er r' er' : Int} (h : PlIs d n e m r er) (h' : PlIs d n e m r' er') : r = r' ∧ er = er' := by
  rcases h with ⟨s, S, h1, h2⟩ | ⟨⟨s, S⟩, h1⟩ <;> rcases h' with ⟨s', S', g1, g2⟩ | ⟨⟨s', S'⟩, g1⟩
  · have := S.uniq S'; omega
  · have := S.uniq S'; omega
  · have := S.uniq S'; omega
  · rcases h1 with ⟨h1, h2, h3⟩ | ⟨h1, h2, h3, h4⟩ <;> rcases g1 with ⟨g1, g2, g3⟩ | ⟨g1, g2, g3, g4⟩
    · omega
    · rcases h1 with h1 | ⟨i, hi, h1⟩
      · omega
      · exact absurd (g2 i hi) h1
    · rcases g1 with g1 | ⟨i, hi, g1⟩
      · omega
      · exact absurd (h2 i hi) g1
    · omega
set_option maxHeartbeats 1600000 in
theorem rsize_any (u : Value) (n : Nat) (d : Nat → Int) (w : World) (U : Wi w u n d) :
    Calls Tryz.prog 18 #[u] w fun e w' => (∃ r er, e = .returned (.tuple #[.int .i64 r, .int .i64 er]) ∧ SzIs d n r er) ∧ w' = w := by
  obtain ⟨ao, cap, rfl, hcap, hcap2, hv, hcell⟩ := U
  by_cases n8 : 8 < n
  · have S : Hid (SzIs d n 0 1) := Or.inl ⟨Or.inl n8, rfl, rfl⟩
    have n8' : (8 : Int) < (n : Int) := by omega
    clear hv hcell
    go_enter Tryz.func18, Tryz.ntmps18
    go_wp2
    go_ret2
    exact ⟨⟨_, _, rfl, S.out⟩, by first | trivial | rfl⟩
  have n8' : ¬ (8 : Int) < (n : Int) := by omega
  have HV := hid hv
  have HC := hid hcell
  clear hv hcell
  go_enter Tryz.func18, Tryz.ntmps18
  go_wp2
  go_loopw [4] (fun iv wr => ∃ (i : Nat), iv = .int .i64 i ∧ i ≤ n ∧ Hid (∀ j, j < i → 1 ≤ d j) ∧ wr = w) (fun iv _ => ((n : Int) - intOf iv).toNat)
  case atStart => exact ⟨0, rfl, Nat.zero_le _, fun j hj => absurd hj (by omega), rfl⟩
  case round =>
    obtain ⟨i, rfl, hi, S, hw⟩ := hrel
    obtain rfl := hw.symm
    by_cases him : i = n
    · have him' : ¬ (i : Int) < (n : Int) := by omega
      obtain rfl := him
      go_wp2
      go_loopw [6, 5] (fun iv sv wr => ∃ (t : Nat) (z : Int), iv = .int .i64 t ∧ sv = .int .i64 z ∧ t ≤ i ∧ 1 ≤ z ∧ z ≤ 65536 ∧ Hid (z = pd d t) ∧ wr = w) (fun iv _ _ => ((i : Int) - intOf iv).toNat)
      case atStart => exact ⟨0, 1, rfl, rfl, Nat.zero_le _, by omega, by omega, rfl, rfl⟩
      case round =>
        obtain ⟨t, z, rfl, rfl, ht, hz1, hz2, HZ, hw⟩ := hrel
        obtain rfl := hw.symm
        by_cases htm : t = i
        · have htm' : ¬ (t : Int) < (i : Int) := by omega
          obtain rfl := htm
          have R : Hid (SzIs d t z 0) := Or.inr ⟨by omega, S.out, Or.inr ⟨by rw [← HZ.out]; exact hz2, HZ.out, rfl⟩⟩
          clear HV HC S HZ
          go_wp2
          go_ret2
          exact ⟨⟨_, _, rfl, R.out⟩, by first | trivial | rfl⟩
        · have htm' : (t : Int) < (i : Int) := by omega
          obtain ⟨b, off, rfl, hbs, hc⟩ := HC.out (by omega)
          have ct := hc t (by omega)
          have vt := HV.out t (by omega)
          have d1 := S.out t (by omega)
          have st := pd_step (d := d) (n := t) (fun j hj => S.out j (by omega))
          have mn := pd_mono (d := d) (n := i) S.out (t + 1) (by omega)
          have pe : pd d (t + 1) = z * d t := by show pd d t * d t = _; rw [← HZ.out]
          by_cases hbig : 65536 < z * d t
          · have R : Hid (SzIs d i 0 13) := Or.inr ⟨by omega, S.out, Or.inl ⟨by omega, rfl, rfl⟩⟩
            clear HV HC S HZ hc st mn pe
            generalize d t = dt at *
            by_cases hb2 : 65536 < dt
            · go_wp2
              go_ret2
              exact ⟨⟨_, _, rfl, R.out⟩, by first | trivial | rfl⟩
            · have m0 := Int.mul_le_mul hz2 (show dt ≤ 65536 by omega) (by omega) (by omega)
              obtain ⟨zz, hzz⟩ : ∃ zz, z * dt = zz := ⟨_, rfl⟩
              rw [hzz] at hbig m0
              have ww : IntKind.i64.wrap zz = zz := by rw [IntKind.wrap_i64]; omega
              go_wp2
              go_ret2
              exact ⟨⟨_, _, rfl, R.out⟩, by first | trivial | rfl⟩
          · have R : Hid (z * d t = pd d (t + 1)) := pe.symm
            have z2 : 1 ≤ z * d t := by omega
            have hb2 : ¬ 65536 < d t := by omega
            clear HC hc st mn pe
            generalize d t = dt at *
            obtain ⟨zz, hzz⟩ : ∃ zz, z * dt = zz := ⟨_, rfl⟩
            rw [hzz] at hbig R z2
            have ww : IntKind.i64.wrap zz = zz := by rw [IntKind.wrap_i64]; omega
            go_wp2
            exact ⟨⟨t + 1, zz, rfl, rfl, by omega, by omega, by omega, R, by first | trivial | rfl⟩, by simp only [intOf]; omega⟩
    · have him' : (i : Int) < (n : Int) := by omega
      obtain ⟨b, off, rfl, hbs, hc⟩ := HC.out (by omega)
      have ct := hc i (by omega)
      by_cases hd : d i < 1
      · have R : Hid (SzIs d n 0 1) := Or.inl ⟨Or.inr ⟨i, by omega, hd⟩, rfl, rfl⟩
        clear HV HC S hc
        generalize d i = di at *
        go_wp2
        go_ret2
        exact ⟨⟨_, _, rfl, R.out⟩, by first | trivial | rfl⟩
      · have S' : Hid (∀ j, j < i + 1 → 1 ≤ d j) := fun j hj => by
          by_cases e : j = i
          · rw [e]; omega
          · exact S.out j (by omega)
        clear S hc
        generalize hdi : d i = di at ct hd
        clear hdi
        go_wp2
        exact ⟨⟨i + 1, rfl, by omega, S', by first | trivial | rfl⟩, by simp only [intOf]; omega⟩
end Go.Proofs.YtocfenjampmdlaaGreatDoor
namespace Go.Proofs.YtocfenjampmdlaaGreatDoor
open Go.RowKit Num Nmb

set_option maxHeartbeats 1600000 in
theorem rplace_any (u v : Value) (n m : Nat) (d e : Nat → Int) (w : World) (U : Wi w u n d) (V : Wi w v m e) :
    Calls Tryz.prog 20 #[u, v] w fun e' w' => (∃ r er, e' = .returned (.tuple #[.int .i64 r, .int .i64 er]) ∧ PlIs d n e m r er) ∧ ∃ c, w' = w.drewN c := by
  have SZ := hid (rsize_any u n d w U)
  have UU := hid U
  have VV := hid V
  obtain ⟨ao, cap, rfl, -⟩ := U
  obtain ⟨bo, bap, rfl, -⟩ := V
  go_enter Tryz.func20, Tryz.ntmps20
  go_wp2_with fail
  refine SZ.out.mono ?_
  rintro e' w3 ⟨⟨s, er, rfl, S⟩, hw⟩
  obtain rfl := hw.symm
  clear SZ
  by_cases e0 : er = 0
  · subst e0
    by_cases hm : m = n
    · subst hm
      have SS := hid S
      obtain ⟨n8, hd, h65, -⟩ := S.ok rfl
      have HD := hid hd
      have H65 := hid h65
      clear S hd h65
      go_wp2
      go_loopw [9, 8] (fun iv sv wr => ∃ (t c : Nat) (z : Int), iv = .int .i64 t ∧ sv = .int .i64 z ∧ t ≤ m ∧ 0 ≤ z ∧ z ≤ 65536 ∧ Hid (∀ i, i < t → 0 ≤ e i ∧ e i < d i) ∧ Hid (z = pl d e t) ∧ wr = w.drewN c) (fun iv _ _ => ((m : Int) - intOf iv).toNat)
      case atStart => exact ⟨0, 0, 0, rfl, rfl, Nat.zero_le _, by omega, by omega, fun i hi => absurd hi (by omega), rfl, rfl⟩
      case round =>
        obtain ⟨t, c, z, rfl, rfl, ht, hz1, hz2, HE, HZ, hw⟩ := hrel
        have HW := hid hw
        clear hw
        by_cases htm : t = m
        · have htm' : ¬ (t : Int) < (m : Int) := by omega
          obtain rfl := htm
          have R : Hid (PlIs d t e t z 0) := Or.inr ⟨⟨s, SS.out⟩, Or.inr ⟨rfl, HE.out, HZ.out, rfl⟩⟩
          clear UU VV SS HD H65 HE HZ
          go_wp2
          go_ret2
          exact ⟨⟨_, _, rfl, R.out⟩, c, HW.out⟩
        · have htm' : (t : Int) < (m : Int) := by omega
          obtain ⟨ao', cap', hu, -, -, hvd, hcell⟩ := UU.out.heap (w' := wr) (by rw [HW.out]; simp)
          injection hu with hu1 hu2 hu3
          subst hu1 hu3
          clear hu2
          obtain ⟨ub, uo, hao, -, hcd⟩ := hcell (by omega)
          subst hao
          obtain ⟨bo', bap', hu, -, -, hve, hcell2⟩ := VV.out.heap (w' := wr) (by rw [HW.out]; simp)
          injection hu with hu1 hu2 hu3
          subst hu1 hu3
          clear hu2
          obtain ⟨vb, vo, hbo, -, hce⟩ := hcell2 (by omega)
          subst hbo
          have cd := hcd t (by omega)
          have ce := hce t (by omega)
          have vd := hvd t (by omega)
          have ve := hve t (by omega)
          by_cases hr : 0 ≤ e t ∧ e t < d t
          · have HE' : Hid (∀ i, i < t + 1 → 0 ≤ e i ∧ e i < d i) := fun i hi => by
              by_cases q : i = t
              · rw [q]; exact hr
              · exact HE.out i (by omega)
            have lt := pl_lt (d := d) (e := e) (n := t + 1) HE'.out
            have mn := pd_mono (d := d) (n := m) HD.out (t + 1) (by omega)
            have pe : pl d e (t + 1) = z * d t + e t := by show pl d e t * d t + e t = _; rw [← HZ.out]
            have zm : 0 ≤ z * d t := Int.mul_nonneg hz1 (by omega)
            have h65 := H65.out
            have R : Hid (z * d t + e t = pl d e (t + 1)) := pe.symm
            have b1 : z * d t + e t ≤ 65536 := by omega
            obtain ⟨hr1, hr2⟩ := hr
            clear HE HZ UU VV SS hcell hcell2 hcd hce hvd hve lt mn pe h65
            generalize d t = dt at *
            generalize e t = et at *
            obtain ⟨zz, hzz⟩ : ∃ zz, z * dt = zz := ⟨_, rfl⟩
            rw [hzz] at R zm b1
            have w1 : IntKind.i64.wrap zz = zz := by rw [IntKind.wrap_i64]; omega
            have w2 : IntKind.i64.wrap (zz + et) = zz + et := by rw [IntKind.wrap_i64]; omega
            have g1 : decide (et < 0) = false := decide_eq_false (by omega)
            have g2 : decide (dt ≤ et) = false := decide_eq_false (by omega)
            go_wp2_with fail
            go_quiet (fail)
            rename_i nq
            have cd2 : (wr.drewN nq).cell? ⟨ub, uo + t, none⟩ = some (.int .i64 dt) := by simpa using cd
            have ce2 : (wr.drewN nq).cell? ⟨vb, vo + t, none⟩ = some (.int .i64 et) := by simpa using ce
            obtain ⟨c2, HW2⟩ : ∃ c2, Hid (∀ q, (wr.drewN nq).drewN q = w.drewN (c2 + q)) := ⟨c + nq, fun q => by rw [HW.out]; simp [World.drewN, Nat.add_assoc]⟩
            clear cd ce HW
            generalize wr.drewN nq = w5 at *
            go_wp2_with fail
            go_quiet (fail)
            rename_i nq2
            go_wp2
            exact ⟨⟨t + 1, _, zz + et, rfl, rfl, by omega, by omega, by omega, HE', R, HW2.out _⟩, by simp only [intOf]; omega⟩
          · have R : Hid (PlIs d m e m 0 1) := Or.inr ⟨⟨s, SS.out⟩, Or.inl ⟨Or.inr ⟨t, by omega, hr⟩, rfl, rfl⟩⟩
            clear HE HZ UU VV SS hcell hcell2 hcd hce hvd hve HD H65
            generalize d t = dt at *
            generalize e t = et at *
            by_cases n0 : et < 0
            · have g1 : decide (et < 0) = true := decide_eq_true n0
              go_wp2_with fail
              go_quiet (fail)
              rename_i nq
              go_wp2
              go_ret2
              exact ⟨⟨_, _, rfl, R.out⟩, c + nq, by rw [HW.out]; simp [World.drewN, Nat.add_assoc]⟩
            · have g1 : decide (et < 0) = false := decide_eq_false n0
              have g2 : decide (dt ≤ et) = true := decide_eq_true (by omega)
              go_wp2_with fail
              go_quiet (fail)
              rename_i nq
              go_wp2
              go_ret2
              exact ⟨⟨_, _, rfl, R.out⟩, c + nq, by rw [HW.out]; simp [World.drewN, Nat.add_assoc]⟩
    · have R : Hid (PlIs d n e m 0 1) := Or.inr ⟨⟨s, S⟩, Or.inl ⟨Or.inl hm, rfl, rfl⟩⟩
      have hm' : ((m : Int) != (n : Int)) = true := bne_iff_ne.2 (by omega)
      clear S UU VV
      go_wp2
      go_ret2
      exact ⟨⟨_, _, rfl, R.out⟩, 0, rfl⟩
  · have R : Hid (PlIs d n e m 0 er) := Or.inl ⟨s, S, e0, rfl⟩
    have e0' : (er != 0) = true := bne_iff_ne.2 e0
    clear S UU VV
    go_wp2
    go_ret2
    exact ⟨⟨_, _, rfl, R.out⟩, 0, rfl⟩
end Go.Proofs.YtocfenjampmdlaaGreatDoor
namespace Go.Proofs.YtocfenjampmdlaaGreatDoor
open Go.RowKit Num Nmb

/-- one block alone was changed. -/
structure OnlyB (g : Nat) (w w' : World) : Prop where
  os : w'.os = w.os
  tape : w'.tape = w.tape
  output : w'.output = w.output
  size : w'.heap.size = w.heap.size
  block : ∀ k, k ≠ g → w'.heap[k]? = w.heap[k]?
theorem OnlyB.refl (g : Nat) (w : World) : OnlyB g w w := ⟨rfl, rfl, rfl, rfl, fun _ _ => rfl⟩
theorem OnlyB.drew {g : Nat} {w w' : World} (h : OnlyB g w w') (n : Nat) : OnlyB g w (w'.drewN n) := by
  have b := below_drewN (Below.refl w'.heap.size w') n
  refine ⟨b.os.trans h.os, b.tape.trans h.tape, b.output.trans h.output, by simpa using h.size, fun k hk => ?_⟩
  rw [show (w'.drewN n).heap = w'.heap by simp]
  exact h.block k hk
theorem OnlyB.set {g : Nat} {w w' : World} (h : OnlyB g w w') (i : Nat) (v : Value) : OnlyB g w (w'.setCell ⟨g, i, none⟩ v) :=
  ⟨h.os, h.tape, h.output, by simpa [World.setCell] using h.size, fun k hk => (heap_setCell_other w' ⟨g, i, none⟩ k v hk).trans (h.block k hk)⟩
theorem OnlyB.below {g : Nat} {w w' : World} (h : OnlyB g w w') : Below g w w' := ⟨h.os, h.tape, h.output, Nat.le_of_eq h.size.symm, fun k hk => h.block k (by omega)⟩
/-- block g holds one value. -/
def Box (w : World) (g : Nat) (v : Value) : Prop := ∃ t, w.heap[g]? = some (.cells #[v] t (0, 0))
theorem Box.cell {w : World} {g : Nat} {v : Value} (h : Box w g v) : w.cell? ⟨g, 0, none⟩ = some v := by obtain ⟨t, h⟩ := h; simp only [World.cell?, h]; rfl
theorem Box.frozen {w : World} {g : Nat} {v : Value} (h : Box w g v) (i : Nat) : w.frozen? ⟨g, i, none⟩ = false := by obtain ⟨t, h⟩ := h; simp only [World.frozen?, h]; rfl
theorem Box.lt {w : World} {g : Nat} {v : Value} (h : Box w g v) : g < w.heap.size := by obtain ⟨t, h⟩ := h; exact (Array.getElem?_eq_some_iff.1 h).1
theorem Box.only {w w' : World} {g b : Nat} {v : Value} (h : Box w g v) (o : OnlyB b w w') (hg : g ≠ b) : Box w' g v := by obtain ⟨t, h⟩ := h; exact ⟨t, by rw [o.block g hg]; exact h⟩
theorem Box.row {w : World} {g b n : Nat} {v : Value} {x : Nat → Int} (h : Box w g v) (r : Row w b n x) (hv : ∀ i, v ≠ .int .u64 i) (hn : 0 < n) : g ≠ b := by
  rintro rfl
  obtain ⟨t, h⟩ := h
  obtain ⟨cur, h1, h2, h3⟩ := r
  rw [h] at h1
  injection h1 with h1
  injection h1 with h1
  have := h3 0 hn
  rw [← h1] at this
  simp at this
  exact hv _ this
theorem Fld.only {w w' : World} {g b : Nat} {m f s : Int} (h : Fld w g m f s) (o : OnlyB b w w') (hg : g ≠ b) : Fld w' g m f s := by unfold Fld; rw [o.block g hg]; exact h
theorem cell_other {g b : Nat} (h : g ≠ b) (W : World) (i j : Nat) (v : Value) : (W.setCell ⟨b, i, none⟩ v).cell? ⟨g, j, none⟩ = W.cell? ⟨g, j, none⟩ := by
  unfold World.cell?
  rw [heap_setCell_other W ⟨b, i, none⟩ g v h]
theorem Box.drew {w : World} {g : Nat} {v : Value} (h : Box w g v) (n : Nat) : Box (w.drewN n) g v := by obtain ⟨t, h⟩ := h; exact ⟨t, by simpa using h⟩
theorem Box.set {w : World} {g : Nat} {v : Value} (h : Box w g v) (v' : Value) : Box (w.setCell ⟨g, 0, none⟩ v') g v' := by
  obtain ⟨t, h⟩ := h
  exact ⟨t, by rw [heap_setCell_same w g 0 _ _ _ h]; rfl⟩
theorem Box.other {w : World} {g b : Nat} {v : Value} (h : Box w g v) (hg : g ≠ b) (i : Nat) (v' : Value) : Box (w.setCell ⟨b, i, none⟩ v') g v := by
  obtain ⟨t, h⟩ := h
  exact ⟨t, by rw [heap_setCell_other w ⟨b, i, none⟩ g v' hg]; exact h⟩
theorem Box.below {B : Nat} {w w' : World} {g : Nat} {v : Value} (h : Box w g v) (hb : Below B w w') (hg : g < B) : Box w' g v := by obtain ⟨t, h⟩ := h; exact ⟨t, by rw [hb.block g hg]; exact h⟩
theorem Row.other {w : World} {g n b : Nat} {x : Nat → Int} (h : Row w g n x) (hg : g ≠ b) (i : Nat) (v : Value) : Row (w.setCell ⟨b, i, none⟩ v) g n x := by
  obtain ⟨cur, h1, h2, h3⟩ := h
  exact ⟨cur, by rw [heap_setCell_other w ⟨b, i, none⟩ g v hg]; exact h1, h2, h3⟩
theorem OnlyB.trans {g : Nat} {w w1 w2 : World} (h : OnlyB g w w1) (h' : OnlyB g w1 w2) : OnlyB g w w2 :=
  ⟨h'.os.trans h.os, h'.tape.trans h.tape, h'.output.trans h.output, h'.size.trans h.size, fun k hk => (h'.block k hk).trans (h.block k hk)⟩
theorem Row.only {w w' : World} {g b n : Nat} {x : Nat → Int} (h : Row w g n x) (o : OnlyB b w w') (hg : g ≠ b) : Row w' g n x := by
  obtain ⟨cur, h1, h2, h3⟩ := h
  exact ⟨cur, by rw [o.block g hg]; exact h1, h2, h3⟩
theorem Tryz.sizeU : (Tryz.prog.info? 23).map (·.size) = some 1 := by kernel_rfl
/-- a slice of words that does not lie in block g, copied into that block's row. -/
theorem wp_copyw {ops : Array Oper} {rest : List Oper} {q : Oper} {a : Act} {Q : Exit → Act → World → Prop} (w : World) (hgd : q.guard = none) (d s : Operand)
    (ho : q.op = .call { callee := .builtin .copy, args := #[d, s], argTypes := #[22, 22] })
    (g N dCap : Nat) (X : Nat → Int) (hd : a.eval d = .slice (some ⟨g, 0, none⟩) N dCap) (v : Value) (hs : a.eval s = v)
    (n : Nat) (x : Nat → Int) (hv : Wl w v n x) (hr : Row w g N X) (hnd : n ≤ N)
    (hK : ∀ w', Row w' g N (fun j => if j < n then x j else X j) → OnlyB g w w' → wpList Tryz.prog ops Q rest (a.put q.dst (goInt n)) w') :
    wpList Tryz.prog ops Q (q :: rest) a w := by
  obtain ⟨ao, cap, rfl, h1, h2, h3, h5⟩ := hv
  have hmin : Nat.min n N = n := Nat.min_eq_left hnd
  by_cases hn : n = 0
  · subst hn
    refine wpList_copy_nothing hgd d s 22 22 ho 23 Tryz.underlying22 Tryz.sizeU _ ao N dCap 0 cap hd hs (by simp) ?_
    refine hK w ?_ (OnlyB.refl _ _)
    have e : (fun j => if j < 0 then x j else X j) = X := funext fun j => if_neg (by omega)
    rw [e]
    exact hr
  · obtain ⟨b, ob, rfl, hb, hc⟩ := h5 (by omega)
    obtain ⟨cur, hg, hsz, hcur⟩ := hr
    have hlen : ((List.range n).map (fun j => Value.int .u64 (x j))).length = n := by simp
    refine wpList_copy_own hgd d s 22 22 ho 23 Tryz.underlying22 Tryz.sizeU g 0 N dCap ⟨b, ob, none⟩ n cap hd hs cur 23 hg
      ((List.range n).map (fun j => Value.int .u64 (x j))) (by rw [hlen, hmin]) ?_ (by rw [hlen, hsz]; omega) (by intro u hu; simp at hu; obtain ⟨j, _, rfl⟩ := hu; rfl) ?_
    · intro j u hj
      rw [List.getElem?_map] at hj
      simp only [Option.map_eq_some_iff] at hj
      obtain ⟨i, hi, rfl⟩ := hj
      have hjn : j < n := by
        have := (List.getElem?_eq_some_iff.1 hi).1
        simpa using this
      rw [List.getElem?_range hjn] at hi
      cases hi
      have := hc j hjn
      by_cases hj0 : j = 0
      · subst hj0; simpa [Addr.add] using this
      · simpa [Addr.add, hj0] using this
    · rw [hlen]
      refine hK _ ?_ ?_
      · refine ⟨_, setRow_heap w g _ _ 23 _ hg, ?_, ?_⟩
        · simp [hsz]; omega
        · intro j hj
          show _ = some (Value.int IntKind.u64 (if j < n then x j else X j))
          by_cases hin : j < n
          · rw [if_pos hin]
            simp [List.getElem?_append, hin]
          · rw [if_neg hin]
            have := hcur j hj
            simp [List.getElem?_append, hin, show n + (j - n) = j by omega]
            simpa using this
      · exact ⟨rfl, rfl, rfl, by simp [World.setRow], fun k hk => setRow_other w g k _ hk⟩
end Go.Proofs.YtocfenjampmdlaaGreatDoor
