/- Slices of words. -/
/- Lists of ints; how many coefficients a box has, and where each stands: the reference's Size and Place (chapter 8). -/
/- The reference's Place (chapter 8). -/
/- A call that changes one block alone; variables that lie in a block of their own; a copy into a row of words. -/
/- The exponents of a place: the reference's Exps (chapter 8). -/
/- Bits and words that the landed tft asks for. -/
/- Numbers of three words, in the landed conv: what is left of one, and what one is times a word, and a word more. -/
/- Where the coefficients of a box stand in a wider one, and what the product of such lists is. -/
import Derived.Test.YtocfenjampmdlaaGreatDoorPg
import Derived.Test.YtocfenjampmdlaaGreatDoorVw
import Derived.Test.YtocfenjampmdlaaGreatDoorZr
import Derived.Laws.CopyOwn
import Derived.BigQuiet
import Derived.OwnWalk
import Derived.Test.YtocfenjampmdlaaGreatDoorShelf
import Derived.Laws.BitsLemmas
namespace Go.Proofs.YtocfenjampmdlaaGreatDoor
open Go.RowKit Num Nmb

/-- 'v' is a slice of the n words x. -/
def Wl (w : World) (v : Value) (n : Nat) (x : Nat → Int) : Prop :=
  ∃ ao cap, v = .slice ao n cap ∧ n ≤ cap ∧ cap ≤ 9223372036854775807 ∧ (∀ j, j < n → 0 ≤ x j ∧ x j ≤ 18446744073709551615) ∧
    (0 < n → ∃ b off, ao = some ⟨b, off, none⟩ ∧ b < w.heap.size ∧ ∀ j, j < n → w.cell? ⟨b, off + j, none⟩ = some (.int .u64 (x j)))
theorem Wl.below {w w' : World} {v : Value} {n : Nat} {x : Nat → Int} (h : Wl w v n x) (hb : Below w.heap.size w w') : Wl w' v n x := by
  obtain ⟨ao, cap, rfl, h1, h2, h3, h5⟩ := h
  refine ⟨ao, cap, rfl, h1, h2, h3, fun hn => ?_⟩
  obtain ⟨b, off, rfl, hbs, hc⟩ := h5 hn
  refine ⟨b, off, rfl, Nat.lt_of_lt_of_le hbs hb.size, fun j hj => ?_⟩
  rw [hb.cell (p := ⟨b, off + j, none⟩) hbs]; exact hc j hj
/-- block g holds n words x. -/
def Row (w : World) (g n : Nat) (x : Nat → Int) : Prop :=
  ∃ cur : Array Value, w.heap[g]? = some (.cells cur 23 (0, 0)) ∧ cur.size = n ∧ ∀ j, j < n → cur[j]? = some (.int .u64 (x j))
theorem Row.cell {w : World} {g n : Nat} {x : Nat → Int} (h : Row w g n x) {i : Nat} (hi : i < n) : w.cell? ⟨g, i, none⟩ = some (.int .u64 (x i)) := by
  obtain ⟨cur, hg, _, hc⟩ := h
  simp [World.cell?, hg, hc i hi]
theorem Row.frozen {w : World} {g n : Nat} {x : Nat → Int} (h : Row w g n x) (i : Nat) : w.frozen? ⟨g, i, none⟩ = false := by
  obtain ⟨cur, hg, _, hc⟩ := h
  simp [World.frozen?, hg]
theorem Row.set {w : World} {g n : Nat} {x y : Nat → Int} (h : Row w g n x) (i : Nat) (v : Int) (e : ∀ j, j < n → y j = if j = i then v else x j) : Row (w.setCell ⟨g, i, none⟩ (.int .u64 v)) g n y := by
  obtain ⟨cur, hg, hs, hc⟩ := h
  refine ⟨cur.setIfInBounds i (.int .u64 v), ?_, by simpa using hs, fun j hj => ?_⟩
  · rw [heap_setCell_same w g i cur 23 _ hg]
  · rw [e j hj]
    by_cases e : j = i
    · subst e; rw [Array.getElem?_setIfInBounds]; simp [hs, hj]
    · rw [Array.getElem?_setIfInBounds]; simp [Ne.symm e, e, hc j hj]
theorem Row.drew {w : World} {g n : Nat} {x : Nat → Int} (h : Row w g n x) (k : Nat) : Row (w.drewN k) g n x := by
  obtain ⟨cur, hg, hs, hc⟩ := h
  exact ⟨cur, by simpa using hg, hs, hc⟩
theorem Row.below {B : Nat} {w w' : World} {g n : Nat} {x : Nat → Int} (h : Row w g n x) (hb : Below B w w') (hg : g < B) : Row w' g n x := by
  obtain ⟨cur, h1, h2, h3⟩ := h
  exact ⟨cur, by rw [hb.block g hg]; exact h1, h2, h3⟩
theorem Row.lt {w : World} {g n : Nat} {x : Nat → Int} (h : Row w g n x) : g < w.heap.size := by
  obtain ⟨cur, hg, _⟩ := h
  exact (Array.getElem?_eq_some_iff.1 hg).1
theorem Fld.other {w : World} {g r : Nat} {m f s : Int} (h : Fld w g m f s) (hg : g ≠ r) (i : Nat) (v : Value) : Fld (w.setCell ⟨r, i, none⟩ v) g m f s := by
  unfold Fld; rw [heap_setCell_other w ⟨r, i, none⟩ g v hg]; exact h
theorem Tryz.infoU : (Tryz.prog.info? 23).map (fun i => (i.zero, i.size, i.bytes)) = some (some (.int .u64 0), 1, 8) := by kernel_rfl
theorem Row.new (w : World) (n : Nat) : Row (w.alloc (.cells (madeCells #[.int .u64 0] (n * 1)) 23)) w.heap.size n (fun _ => 0) := by
  refine ⟨madeCells #[.int .u64 0] (n * 1), ?_, by simp [size_madeCells], fun j hj => ?_⟩
  · exact heap_alloc_new w _
  · simp [madeCells, hj, Nat.mod_one]
theorem wp_make {ops : Array Oper} {rest : List Oper} {o : Oper} {a : Act} {Q : Exit → Act → World → Prop} (w : World) (hg : o.guard = none) (l c : Operand) (hop : o.op = Op.makeSlice 22 l c)
    (L C : Int) (n : Nat) (hl : a.eval l = .int .i64 L) (hc : a.eval c = .int .i64 C) (hL : L = (n : Int)) (hC : C = (n : Int)) (hn : n ≤ 1000000000)
    (hK : ∀ w', Row w' w.heap.size n (fun _ => 0) → Below w.heap.size w w' → w'.heap.size = w.heap.size + 1 → wpList Tryz.prog ops Q rest (a.put o.dst (.slice (some ⟨w.heap.size, 0, none⟩) n n)) w') :
    wpList Tryz.prog ops Q (o :: rest) a w := by
  obtain ⟨i0, hi, hz0, hz1, hz2⟩ := info_parts Tryz.infoU
  refine wpList_plain hg fun K hK' => ?_
  have hr := run_make (P := Tryz.prog) w 22 23 i0 (.int .u64 0) Tryz.underlying22 hi hz0 .i64 .i64 n n (by omega) (Int.le_refl _) (by rw [hz2]; omega) (by omega)
  simp only [Int.toNat_natCast] at hr
  rw [hz1] at hr
  subst hL; subst hC
  unfold Oper.wp
  simp [execOp, hop, hl, hc, hr, Result.andThen]
  refine hK' _ _ (hK _ ?_ ?_ ?_)
  · have := Row.new w n
    rw [Nat.mul_one] at this
    exact this
  · exact (Below.refl _ _).alloc (Nat.le_refl _) _
  · simp
theorem Wl.heap {w w' : World} {v : Value} {n : Nat} {x : Nat → Int} (h : Wl w v n x) (e : w'.heap = w.heap) : Wl w' v n x := by
  obtain ⟨ao, cap, rfl, h1, h2, h3, h5⟩ := h
  refine ⟨ao, cap, rfl, h1, h2, h3, fun hn => ?_⟩
  obtain ⟨b, off, rfl, hbs, hc⟩ := h5 hn
  refine ⟨b, off, rfl, by rw [e]; exact hbs, fun j hj => ?_⟩
  unfold World.cell? at *
  rw [e]; exact hc j hj
theorem Wl.drew {w : World} {v : Value} {n : Nat} {x : Nat → Int} (h : Wl w v n x) (k : Nat) : Wl (w.drewN k) v n x := h.heap (by simp)
theorem Wl.eq {w : World} {v : Value} {n : Nat} {x y : Nat → Int} (h : Wl w v n x) (e : ∀ j, j < n → x j = y j) : Wl w v n y := by
  obtain ⟨ao, cap, rfl, h1, h2, h3, h5⟩ := h
  refine ⟨ao, cap, rfl, h1, h2, fun j hj => by rw [← e j hj]; exact h3 j hj, fun hn => ?_⟩
  obtain ⟨b, off, rfl, hbs, hc⟩ := h5 hn
  exact ⟨b, off, rfl, hbs, fun j hj => by rw [← e j hj]; exact hc j hj⟩
theorem Wl.val {w : World} {v : Value} {n : Nat} {x : Nat → Int} (h : Wl w v n x) {j : Nat} (hj : j < n) : 0 ≤ x j ∧ x j ≤ 18446744073709551615 := by
  obtain ⟨ao, cap, rfl, h1, h2, h3, h5⟩ := h
  exact h3 j hj
theorem Wl.nil (w : World) (x : Nat → Int) : Wl w (.slice none 0 0) 0 x := ⟨none, 0, rfl, Nat.le_refl _, by omega, fun j hj => absurd hj (by omega), fun h => absurd h (by omega)⟩
theorem Row.wl {w : World} {g n : Nat} {x : Nat → Int} (h : Row w g n x) (hv : ∀ j, j < n → 0 ≤ x j ∧ x j ≤ 18446744073709551615) (hn : n ≤ 9223372036854775807) : Wl w (.slice (some ⟨g, 0, none⟩) n n) n x :=
  ⟨_, n, rfl, Nat.le_refl _, hn, hv, fun _ => ⟨g, 0, rfl, h.lt, fun j hj => by rw [Nat.zero_add]; exact h.cell hj⟩⟩
theorem OwW.wl {w : World} {base : Nat} {v : Value} {l : List Nat} (h : OwW w base v l) (hv : ∀ x, x ∈ l → x ≤ 18446744073709551615) : Wl w v l.length (fun j => (l.getD j 0 : Nat)) := by
  have bd : ∀ j, j < l.length → (0 : Int) ≤ (l.getD j 0 : Nat) ∧ ((l.getD j 0 : Nat) : Int) ≤ 18446744073709551615 := fun j hj => by
    have : l.getD j 0 ∈ l := by rw [List.getD_eq_getElem?_getD, List.getElem?_eq_getElem hj]; exact List.getElem_mem _
    have := hv _ this
    omega
  rcases h.2 with ⟨rfl, h0⟩ | ⟨g, cap, cur, rfl, hg, hgg, hgc, hgm, hgs, htk⟩
  · refine ⟨none, 0, by rw [h0], by omega, by omega, bd, fun h => absurd h (by omega)⟩
  · refine ⟨_, cap, rfl, hgc, by unfold maxLen at hgm; omega, bd, fun _ => ⟨g, 0, rfl, (Array.getElem?_eq_some_iff.1 hgg).1, fun j hj => ?_⟩⟩
    have e := World.ownsRow.cellAt h j (by omega)
    rw [Nat.zero_add, e]
    unfold wordCells
    rw [List.getElem?_map, List.getElem?_eq_getElem hj]
    have e2 : l.getD j 0 = l[j] := by rw [List.getD_eq_getElem?_getD, List.getElem?_eq_getElem hj]; rfl
    show some (Value.int IntKind.u64 _) = some (Value.int IntKind.u64 ((l.getD j 0 : Nat) : Int))
    rw [e2]
/-- the numbers of a list of words. -/
def lw (l : List Nat) (j : Nat) : Int := (l.getD j 0 : Nat)
theorem lw_push (l : List Nat) (c j : Nat) : lw (l ++ [c]) j = if j = l.length then (c : Int) else lw l j := by
  unfold lw
  by_cases e : j = l.length
  · rw [if_pos e, e]; simp
  · rw [if_neg e]
    by_cases h : j < l.length
    · rw [List.getD_eq_getElem?_getD, List.getD_eq_getElem?_getD, List.getElem?_append_left h]
    · rw [List.getD_eq_getElem?_getD, List.getD_eq_getElem?_getD, List.getElem?_eq_none (by simp; omega), List.getElem?_eq_none (by omega)]
end Go.Proofs.YtocfenjampmdlaaGreatDoor
namespace Go.Proofs.YtocfenjampmdlaaGreatDoor
open Go.RowKit Num Nmb

/-- 'v' is a slice of the n ints x. -/
def Wi (w : World) (v : Value) (n : Nat) (x : Nat → Int) : Prop :=
  ∃ ao cap, v = .slice ao n cap ∧ n ≤ cap ∧ cap ≤ 9223372036854775807 ∧ (∀ j, j < n → -9223372036854775808 ≤ x j ∧ x j ≤ 9223372036854775807) ∧
    (0 < n → ∃ b off, ao = some ⟨b, off, none⟩ ∧ b < w.heap.size ∧ ∀ j, j < n → w.cell? ⟨b, off + j, none⟩ = some (.int .i64 (x j)))
theorem Wi.below {w w' : World} {v : Value} {n : Nat} {x : Nat → Int} (h : Wi w v n x) (hb : Below w.heap.size w w') : Wi w' v n x := by
  obtain ⟨ao, cap, rfl, h1, h2, h3, h5⟩ := h
  refine ⟨ao, cap, rfl, h1, h2, h3, fun hn => ?_⟩
  obtain ⟨b, off, rfl, hbs, hc⟩ := h5 hn
  refine ⟨b, off, rfl, Nat.lt_of_lt_of_le hbs hb.size, fun j hj => ?_⟩
  rw [hb.cell (p := ⟨b, off + j, none⟩) hbs]; exact hc j hj
theorem Wi.heap {w w' : World} {v : Value} {n : Nat} {x : Nat → Int} (h : Wi w v n x) (e : w'.heap = w.heap) : Wi w' v n x := by
  obtain ⟨ao, cap, rfl, h1, h2, h3, h5⟩ := h
  refine ⟨ao, cap, rfl, h1, h2, h3, fun hn => ?_⟩
  obtain ⟨b, off, rfl, hbs, hc⟩ := h5 hn
  refine ⟨b, off, rfl, by rw [e]; exact hbs, fun j hj => ?_⟩
  unfold World.cell? at *
  rw [e]; exact hc j hj
theorem Wi.drew {w : World} {v : Value} {n : Nat} {x : Nat → Int} (h : Wi w v n x) (k : Nat) : Wi (w.drewN k) v n x := h.heap (by simp)
theorem Wi.val {w : World} {v : Value} {n : Nat} {x : Nat → Int} (h : Wi w v n x) {j : Nat} (hj : j < n) : -9223372036854775808 ≤ x j ∧ x j ≤ 9223372036854775807 := by
  obtain ⟨ao, cap, rfl, h1, h2, h3, h5⟩ := h
  exact h3 j hj
theorem Wi.eq {w : World} {v : Value} {n : Nat} {x y : Nat → Int} (h : Wi w v n x) (e : ∀ j, j < n → x j = y j) : Wi w v n y := by
  obtain ⟨ao, cap, rfl, h1, h2, h3, h5⟩ := h
  refine ⟨ao, cap, rfl, h1, h2, fun j hj => by rw [← e j hj]; exact h3 j hj, fun hn => ?_⟩
  obtain ⟨b, off, rfl, hbs, hc⟩ := h5 hn
  exact ⟨b, off, rfl, hbs, fun j hj => by rw [← e j hj]; exact hc j hj⟩
/-- the product of the first n numbers. -/
def pd (d : Nat → Int) : Nat → Int
  | 0 => 1
  | n + 1 => pd d n * d n
theorem pd_pos {d : Nat → Int} : ∀ {n : Nat}, (∀ i, i < n → 1 ≤ d i) → 1 ≤ pd d n
  | 0, _ => by show (1 : Int) ≤ 1; omega
  | n + 1, h => by
    have h1 := pd_pos (n := n) (fun i hi => h i (by omega))
    have h2 := h n (by omega)
    show 1 ≤ pd d n * d n
    have := Int.mul_le_mul h1 h2 (by omega) (by omega)
    omega
theorem pd_step {d : Nat → Int} {n : Nat} (h : ∀ i, i < n + 1 → 1 ≤ d i) : pd d n ≤ pd d (n + 1) ∧ d n ≤ pd d (n + 1) := by
  have h1 := pd_pos (n := n) (fun i hi => h i (by omega))
  have h2 := h n (by omega)
  show pd d n ≤ pd d n * d n ∧ d n ≤ pd d n * d n
  constructor
  · have := Int.mul_le_mul_of_nonneg_left h2 (show 0 ≤ pd d n by omega)
    omega
  · have := Int.mul_le_mul_of_nonneg_right h1 (show 0 ≤ d n by omega)
    omega
theorem pd_mono {d : Nat → Int} {n : Nat} (h : ∀ i, i < n → 1 ≤ d i) (k : Nat) (hk : k ≤ n) : pd d k ≤ pd d n := by
  obtain ⟨t, rfl⟩ : ∃ t, n = k + t := ⟨n - k, by omega⟩
  clear hk
  induction t with
  | zero => exact Int.le_refl _
  | succ t ih =>
    have h1 := ih (fun i hi => h i (by omega))
    have h2 := (pd_step (d := d) (n := k + t) (fun i hi => h i (by omega))).1
    exact Int.le_trans h1 h2
/-- what Size answers. -/
def SzIs (d : Nat → Int) (n : Nat) (r er : Int) : Prop :=
  ((8 < n ∨ ∃ i, i < n ∧ d i < 1) ∧ r = 0 ∧ er = 1) ∨ (n ≤ 8 ∧ (∀ i, i < n → 1 ≤ d i) ∧ (65536 < pd d n ∧ r = 0 ∧ er = 13 ∨ pd d n ≤ 65536 ∧ r = pd d n ∧ er = 0))
theorem SzIs.uniq {d : Nat → Int} {n : Nat} {r er r' er' : Int} (h : SzIs d n r er) (h' : SzIs d n r' er') : r = r' ∧ er = er' := by
  rcases h with ⟨h1, h2, h3⟩ | ⟨h1, h2, h3⟩ <;> rcases h' with ⟨g1, g2, g3⟩ | ⟨g1, g2, g3⟩
  · omega
  · rcases h1 with h1 | ⟨i, hi, h1⟩
    · omega
    · have := g2 i hi; omega
  · rcases g1 with g1 | ⟨i, hi, g1⟩
    · omega
    · have := h2 i hi; omega
  · omega
theorem SzIs.ok {d : Nat → Int} {n : Nat} {r er : Int} (h : SzIs d n r er) (he : er = 0) : n ≤ 8 ∧ (∀ i, i < n → 1 ≤ d i) ∧ pd d n ≤ 65536 ∧ r = pd d n := by
  rcases h with ⟨h1, h2, h3⟩ | ⟨h1, h2, h3⟩
  · omega
  · refine ⟨h1, h2, ?_, ?_⟩ <;> omega
/-- the place of exponents. -/
def pl (d e : Nat → Int) : Nat → Int
  | 0 => 0
  | k + 1 => pl d e k * d k + e k
theorem pl_lt {d e : Nat → Int} : ∀ {n : Nat}, (∀ i, i < n → 0 ≤ e i ∧ e i < d i) → 0 ≤ pl d e n ∧ pl d e n < pd d n
  | 0, _ => by show (0 : Int) ≤ 0 ∧ (0 : Int) < 1; omega
  | n + 1, h => by
    have h1 := pl_lt (n := n) (fun i hi => h i (by omega))
    have h2 := h n (by omega)
    show 0 ≤ pl d e n * d n + e n ∧ pl d e n * d n + e n < pd d n * d n
    have a1 := Int.mul_nonneg h1.1 (show 0 ≤ d n by omega)
    have a2 : (pl d e n + 1) * d n ≤ pd d n * d n := Int.mul_le_mul_of_nonneg_right (by omega) (by omega)
    rw [Int.add_mul] at a2
    omega
/-- what Place answers. -/
def PlIs (d : Nat → Int) (n : Nat) (e : Nat → Int) (m : Nat) (r er : Int) : Prop :=
  (∃ s, SzIs d n s er ∧ er ≠ 0 ∧ r = 0) ∨ (∃ s, SzIs d n s 0) ∧ ((m ≠ n ∨ ∃ i, i < n ∧ ¬ (0 ≤ e i ∧ e i < d i)) ∧ r = 0 ∧ er = 1 ∨ m = n ∧ (∀ i, i < n → 0 ≤ e i ∧ e i < d i) ∧ r = pl d e n ∧ er = 0)
theorem PlIs.uniq {d : Nat → Int} {n : Nat} {e : Nat → Int} {m : Nat} {r er r' er' : Int} (h : PlIs d n e m r er) (h' : PlIs d n e m r' er') : r = r' ∧ er = er' := by
  rcases h with ⟨s, S, h1, h2⟩ | ⟨⟨s, S⟩, h1⟩ <;> rcases h' with ⟨s', S', g1, g2⟩ | ⟨⟨s', S'⟩, g1⟩
  · have := S.uniq S'; omega
  · have := S.uniq S'; omega
  · have := S.uniq S'; omega
  · rcases h1 with ⟨h1, h2, h3⟩ | ⟨h1, h2, h3, h4⟩ <;> rcases g1 with ⟨g1, g2, g3⟩ | ⟨g1, g2, g3, g4⟩
    · omega
    · rcases h1 with h1 | ⟨i, hi, h1⟩
      · omega
      · exact absurd (g2 i hi) h1
    · rcases g1 with g1 | ⟨i, hi, g1⟩
      · omega
      · exact absurd (h2 i hi) g1
    · omega
set_option maxHeartbeats 1600000 in
theorem rsize_any (u : Value) (n : Nat) (d : Nat → Int) (w : World) (U : Wi w u n d) :
    Calls Tryz.prog 18 #[u] w fun e w' => (∃ r er, e = .returned (.tuple #[.int .i64 r, .int .i64 er]) ∧ SzIs d n r er) ∧ w' = w := by
  obtain ⟨ao, cap, rfl, hcap, hcap2, hv, hcell⟩ := U
  by_cases n8 : 8 < n
  · have S : Hid (SzIs d n 0 1) := Or.inl ⟨Or.inl n8, rfl, rfl⟩
    have n8' : (8 : Int) < (n : Int) := by omega
    clear hv hcell
    go_enter Tryz.func18, Tryz.ntmps18
    go_wp2
    go_ret2
    exact ⟨⟨_, _, rfl, S.out⟩, by first | trivial | rfl⟩
  have n8' : ¬ (8 : Int) < (n : Int) := by omega
  have HV := hid hv
  have HC := hid hcell
  clear hv hcell
  go_enter Tryz.func18, Tryz.ntmps18
  go_wp2
  go_loopw [4] (fun iv wr => ∃ (i : Nat), iv = .int .i64 i ∧ i ≤ n ∧ Hid (∀ j, j < i → 1 ≤ d j) ∧ wr = w) (fun iv _ => ((n : Int) - intOf iv).toNat)
  case atStart => exact ⟨0, rfl, Nat.zero_le _, fun j hj => absurd hj (by omega), rfl⟩
  case round =>
    obtain ⟨i, rfl, hi, S, hw⟩ := hrel
    obtain rfl := hw.symm
    by_cases him : i = n
    · have him' : ¬ (i : Int) < (n : Int) := by omega
      obtain rfl := him
      go_wp2
      go_loopw [6, 5] (fun iv sv wr => ∃ (t : Nat) (z : Int), iv = .int .i64 t ∧ sv = .int .i64 z ∧ t ≤ i ∧ 1 ≤ z ∧ z ≤ 65536 ∧ Hid (z = pd d t) ∧ wr = w) (fun iv _ _ => ((i : Int) - intOf iv).toNat)
      case atStart => exact ⟨0, 1, rfl, rfl, Nat.zero_le _, by omega, by omega, rfl, rfl⟩
      case round =>
        obtain ⟨t, z, rfl, rfl, ht, hz1, hz2, HZ, hw⟩ := hrel
        obtain rfl := hw.symm
        by_cases htm : t = i
        · have htm' : ¬ (t : Int) < (i : Int) := by omega
          obtain rfl := htm
          have R : Hid (SzIs d t z 0) := Or.inr ⟨by omega, S.out, Or.inr ⟨by rw [← HZ.out]; exact hz2, HZ.out, rfl⟩⟩
          clear HV HC S HZ
          go_wp2
          go_ret2
          exact ⟨⟨_, _, rfl, R.out⟩, by first | trivial | rfl⟩
        · have htm' : (t : Int) < (i : Int) := by omega
          obtain ⟨b, off, rfl, hbs, hc⟩ := HC.out (by omega)
          have ct := hc t (by omega)
          have vt := HV.out t (by omega)
          have d1 := S.out t (by omega)
          have st := pd_step (d := d) (n := t) (fun j hj => S.out j (by omega))
          have mn := pd_mono (d := d) (n := i) S.out (t + 1) (by omega)
          have pe : pd d (t + 1) = z * d t := by show pd d t * d t = _; rw [← HZ.out]
          by_cases hbig : 65536 < z * d t
          · have R : Hid (SzIs d i 0 13) := Or.inr ⟨by omega, S.out, Or.inl ⟨by omega, rfl, rfl⟩⟩
            clear HV HC S HZ hc st mn pe
            generalize d t = dt at *
            by_cases hb2 : 65536 < dt
            · go_wp2
              go_ret2
              exact ⟨⟨_, _, rfl, R.out⟩, by first | trivial | rfl⟩
            · have m0 := Int.mul_le_mul hz2 (show dt ≤ 65536 by omega) (by omega) (by omega)
              obtain ⟨zz, hzz⟩ : ∃ zz, z * dt = zz := ⟨_, rfl⟩
              rw [hzz] at hbig m0
              have ww : IntKind.i64.wrap zz = zz := by rw [IntKind.wrap_i64]; omega
              go_wp2
              go_ret2
              exact ⟨⟨_, _, rfl, R.out⟩, by first | trivial | rfl⟩
          · have R : Hid (z * d t = pd d (t + 1)) := pe.symm
            have z2 : 1 ≤ z * d t := by omega
            have hb2 : ¬ 65536 < d t := by omega
            clear HC hc st mn pe
            generalize d t = dt at *
            obtain ⟨zz, hzz⟩ : ∃ zz, z * dt = zz := ⟨_, rfl⟩
            rw [hzz] at hbig R z2
            have ww : IntKind.i64.wrap zz = zz := by rw [IntKind.wrap_i64]; omega
            go_wp2
            exact ⟨⟨t + 1, zz, rfl, rfl, by omega, by omega, by omega, R, by first | trivial | rfl⟩, by simp only [intOf]; omega⟩
    · have him' : (i : Int) < (n : Int) := by omega
      obtain ⟨b, off, rfl, hbs, hc⟩ := HC.out (by omega)
      have ct := hc i (by omega)
      by_cases hd : d i < 1
      · have R : Hid (SzIs d n 0 1) := Or.inl ⟨Or.inr ⟨i, by omega, hd⟩, rfl, rfl⟩
        clear HV HC S hc
        generalize d i = di at *
        go_wp2
        go_ret2
        exact ⟨⟨_, _, rfl, R.out⟩, by first | trivial | rfl⟩
      · have S' : Hid (∀ j, j < i + 1 → 1 ≤ d j) := fun j hj => by
          by_cases e : j = i
          · rw [e]; omega
          · exact S.out j (by omega)
        clear S hc
        generalize hdi : d i = di at ct hd
        clear hdi
        go_wp2
        exact ⟨⟨i + 1, rfl, by omega, S', by first | trivial | rfl⟩, by simp only [intOf]; omega⟩
end Go.Proofs.YtocfenjampmdlaaGreatDoor
namespace Go.Proofs.YtocfenjampmdlaaGreatDoor
open Go.RowKit Num Nmb

set_option maxHeartbeats 1600000 in
theorem rplace_any (u v : Value) (n m : Nat) (d e : Nat → Int) (w : World) (U : Wi w u n d) (V : Wi w v m e) :
    Calls Tryz.prog 20 #[u, v] w fun e' w' => (∃ r er, e' = .returned (.tuple #[.int .i64 r, .int .i64 er]) ∧ PlIs d n e m r er) ∧ ∃ c, w' = w.drewN c := by
  have SZ := hid (rsize_any u n d w U)
  have UU := hid U
  have VV := hid V
  obtain ⟨ao, cap, rfl, -⟩ := U
  obtain ⟨bo, bap, rfl, -⟩ := V
  go_enter Tryz.func20, Tryz.ntmps20
  go_wp2_with fail
  refine SZ.out.mono ?_
  rintro e' w3 ⟨⟨s, er, rfl, S⟩, hw⟩
  obtain rfl := hw.symm
  clear SZ
  by_cases e0 : er = 0
  · subst e0
    by_cases hm : m = n
    · subst hm
      have SS := hid S
      obtain ⟨n8, hd, h65, -⟩ := S.ok rfl
      have HD := hid hd
      have H65 := hid h65
      clear S hd h65
      go_wp2
      go_loopw [9, 8] (fun iv sv wr => ∃ (t c : Nat) (z : Int), iv = .int .i64 t ∧ sv = .int .i64 z ∧ t ≤ m ∧ 0 ≤ z ∧ z ≤ 65536 ∧ Hid (∀ i, i < t → 0 ≤ e i ∧ e i < d i) ∧ Hid (z = pl d e t) ∧ wr = w.drewN c) (fun iv _ _ => ((m : Int) - intOf iv).toNat)
      case atStart => exact ⟨0, 0, 0, rfl, rfl, Nat.zero_le _, by omega, by omega, fun i hi => absurd hi (by omega), rfl, rfl⟩
      case round =>
        obtain ⟨t, c, z, rfl, rfl, ht, hz1, hz2, HE, HZ, hw⟩ := hrel
        have HW := hid hw
        clear hw
        by_cases htm : t = m
        · have htm' : ¬ (t : Int) < (m : Int) := by omega
          obtain rfl := htm
          have R : Hid (PlIs d t e t z 0) := Or.inr ⟨⟨s, SS.out⟩, Or.inr ⟨rfl, HE.out, HZ.out, rfl⟩⟩
          clear UU VV SS HD H65 HE HZ
          go_wp2
          go_ret2
          exact ⟨⟨_, _, rfl, R.out⟩, c, HW.out⟩
        · have htm' : (t : Int) < (m : Int) := by omega
          obtain ⟨ao', cap', hu, -, -, hvd, hcell⟩ := UU.out.heap (w' := wr) (by rw [HW.out]; simp)
          injection hu with hu1 hu2 hu3
          subst hu1 hu3
          clear hu2
          obtain ⟨ub, uo, hao, -, hcd⟩ := hcell (by omega)
          subst hao
          obtain ⟨bo', bap', hu, -, -, hve, hcell2⟩ := VV.out.heap (w' := wr) (by rw [HW.out]; simp)
          injection hu with hu1 hu2 hu3
          subst hu1 hu3
          clear hu2
          obtain ⟨vb, vo, hbo, -, hce⟩ := hcell2 (by omega)
          subst hbo
          have cd := hcd t (by omega)
          have ce := hce t (by omega)
          have vd := hvd t (by omega)
          have ve := hve t (by omega)
          by_cases hr : 0 ≤ e t ∧ e t < d t
          · have HE' : Hid (∀ i, i < t + 1 → 0 ≤ e i ∧ e i < d i) := fun i hi => by
              by_cases q : i = t
              · rw [q]; exact hr
              · exact HE.out i (by omega)
            have lt := pl_lt (d := d) (e := e) (n := t + 1) HE'.out
            have mn := pd_mono (d := d) (n := m) HD.out (t + 1) (by omega)
            have pe : pl d e (t + 1) = z * d t + e t := by show pl d e t * d t + e t = _; rw [← HZ.out]
            have zm : 0 ≤ z * d t := Int.mul_nonneg hz1 (by omega)
            have h65 := H65.out
            have R : Hid (z * d t + e t = pl d e (t + 1)) := pe.symm
            have b1 : z * d t + e t ≤ 65536 := by omega
            obtain ⟨hr1, hr2⟩ := hr
            clear HE HZ UU VV SS hcell hcell2 hcd hce hvd hve lt mn pe h65
            generalize d t = dt at *
            generalize e t = et at *
            obtain ⟨zz, hzz⟩ : ∃ zz, z * dt = zz := ⟨_, rfl⟩
            rw [hzz] at R zm b1
            have w1 : IntKind.i64.wrap zz = zz := by rw [IntKind.wrap_i64]; omega
            have w2 : IntKind.i64.wrap (zz + et) = zz + et := by rw [IntKind.wrap_i64]; omega
            have g1 : decide (et < 0) = false := decide_eq_false (by omega)
            have g2 : decide (dt ≤ et) = false := decide_eq_false (by omega)
            go_wp2_with fail
            go_quiet (fail)
            rename_i nq
            have cd2 : (wr.drewN nq).cell? ⟨ub, uo + t, none⟩ = some (.int .i64 dt) := by simpa using cd
            have ce2 : (wr.drewN nq).cell? ⟨vb, vo + t, none⟩ = some (.int .i64 et) := by simpa using ce
            obtain ⟨c2, HW2⟩ : ∃ c2, Hid (∀ q, (wr.drewN nq).drewN q = w.drewN (c2 + q)) := ⟨c + nq, fun q => by rw [HW.out]; simp [World.drewN, Nat.add_assoc]⟩
            clear cd ce HW
            generalize wr.drewN nq = w5 at *
            go_wp2_with fail
            go_quiet (fail)
            rename_i nq2
            go_wp2
            exact ⟨⟨t + 1, _, zz + et, rfl, rfl, by omega, by omega, by omega, HE', R, HW2.out _⟩, by simp only [intOf]; omega⟩
          · have R : Hid (PlIs d m e m 0 1) := Or.inr ⟨⟨s, SS.out⟩, Or.inl ⟨Or.inr ⟨t, by omega, hr⟩, rfl, rfl⟩⟩
            clear HE HZ UU VV SS hcell hcell2 hcd hce hvd hve HD H65
            generalize d t = dt at *
            generalize e t = et at *
            by_cases n0 : et < 0
            · have g1 : decide (et < 0) = true := decide_eq_true n0
              go_wp2_with fail
              go_quiet (fail)
              rename_i nq
              go_wp2
              go_ret2
              exact ⟨⟨_, _, rfl, R.out⟩, c + nq, by rw [HW.out]; simp [World.drewN, Nat.add_assoc]⟩
            · have g1 : decide (et < 0) = false := decide_eq_false n0
              have g2 : decide (dt ≤ et) = true := decide_eq_true (by omega)
              go_wp2_with fail
              go_quiet (fail)
              rename_i nq
              go_wp2
              go_ret2
              exact ⟨⟨_, _, rfl, R.out⟩, c + nq, by rw [HW.out]; simp [World.drewN, Nat.add_assoc]⟩
    · have R : Hid (PlIs d n e m 0 1) := Or.inr ⟨⟨s, S⟩, Or.inl ⟨Or.inl hm, rfl, rfl⟩⟩
      have hm' : ((m : Int) != (n : Int)) = true := bne_iff_ne.2 (by omega)
      clear S UU VV
      go_wp2
      go_ret2
      exact ⟨⟨_, _, rfl, R.out⟩, 0, rfl⟩
  · have R : Hid (PlIs d n e m 0 er) := Or.inl ⟨s, S, e0, rfl⟩
    have e0' : (er != 0) = true := bne_iff_ne.2 e0
    clear S UU VV
    go_wp2
    go_ret2
    exact ⟨⟨_, _, rfl, R.out⟩, 0, rfl⟩
end Go.Proofs.YtocfenjampmdlaaGreatDoor
namespace Go.Proofs.YtocfenjampmdlaaGreatDoor
open Go.RowKit Num Nmb

/-- one block alone was changed. -/
structure OnlyB (g : Nat) (w w' : World) : Prop where
  os : w'.os = w.os
  tape : w'.tape = w.tape
  output : w'.output = w.output
  size : w'.heap.size = w.heap.size
  block : ∀ k, k ≠ g → w'.heap[k]? = w.heap[k]?
theorem OnlyB.refl (g : Nat) (w : World) : OnlyB g w w := ⟨rfl, rfl, rfl, rfl, fun _ _ => rfl⟩
theorem OnlyB.drew {g : Nat} {w w' : World} (h : OnlyB g w w') (n : Nat) : OnlyB g w (w'.drewN n) := by
  have b := below_drewN (Below.refl w'.heap.size w') n
  refine ⟨b.os.trans h.os, b.tape.trans h.tape, b.output.trans h.output, by simpa using h.size, fun k hk => ?_⟩
  rw [show (w'.drewN n).heap = w'.heap by simp]
  exact h.block k hk
theorem OnlyB.set {g : Nat} {w w' : World} (h : OnlyB g w w') (i : Nat) (v : Value) : OnlyB g w (w'.setCell ⟨g, i, none⟩ v) :=
  ⟨h.os, h.tape, h.output, by simpa [World.setCell] using h.size, fun k hk => (heap_setCell_other w' ⟨g, i, none⟩ k v hk).trans (h.block k hk)⟩
theorem OnlyB.below {g : Nat} {w w' : World} (h : OnlyB g w w') : Below g w w' := ⟨h.os, h.tape, h.output, Nat.le_of_eq h.size.symm, fun k hk => h.block k (by omega)⟩
/-- block g holds one value. -/
def Box (w : World) (g : Nat) (v : Value) : Prop := ∃ t, w.heap[g]? = some (.cells #[v] t (0, 0))
theorem Box.cell {w : World} {g : Nat} {v : Value} (h : Box w g v) : w.cell? ⟨g, 0, none⟩ = some v := by obtain ⟨t, h⟩ := h; simp only [World.cell?, h]; rfl
theorem Box.frozen {w : World} {g : Nat} {v : Value} (h : Box w g v) (i : Nat) : w.frozen? ⟨g, i, none⟩ = false := by obtain ⟨t, h⟩ := h; simp only [World.frozen?, h]; rfl
theorem Box.lt {w : World} {g : Nat} {v : Value} (h : Box w g v) : g < w.heap.size := by obtain ⟨t, h⟩ := h; exact (Array.getElem?_eq_some_iff.1 h).1
theorem Box.only {w w' : World} {g b : Nat} {v : Value} (h : Box w g v) (o : OnlyB b w w') (hg : g ≠ b) : Box w' g v := by obtain ⟨t, h⟩ := h; exact ⟨t, by rw [o.block g hg]; exact h⟩
theorem Box.row {w : World} {g b n : Nat} {v : Value} {x : Nat → Int} (h : Box w g v) (r : Row w b n x) (hv : ∀ i, v ≠ .int .u64 i) (hn : 0 < n) : g ≠ b := by
  rintro rfl
  obtain ⟨t, h⟩ := h
  obtain ⟨cur, h1, h2, h3⟩ := r
  rw [h] at h1
  injection h1 with h1
  injection h1 with h1
  have := h3 0 hn
  rw [← h1] at this
  simp at this
  exact hv _ this
theorem Fld.only {w w' : World} {g b : Nat} {m f s : Int} (h : Fld w g m f s) (o : OnlyB b w w') (hg : g ≠ b) : Fld w' g m f s := by unfold Fld; rw [o.block g hg]; exact h
theorem cell_other {g b : Nat} (h : g ≠ b) (W : World) (i j : Nat) (v : Value) : (W.setCell ⟨b, i, none⟩ v).cell? ⟨g, j, none⟩ = W.cell? ⟨g, j, none⟩ := by
  unfold World.cell?
  rw [heap_setCell_other W ⟨b, i, none⟩ g v h]
theorem Box.drew {w : World} {g : Nat} {v : Value} (h : Box w g v) (n : Nat) : Box (w.drewN n) g v := by obtain ⟨t, h⟩ := h; exact ⟨t, by simpa using h⟩
theorem Box.set {w : World} {g : Nat} {v : Value} (h : Box w g v) (v' : Value) : Box (w.setCell ⟨g, 0, none⟩ v') g v' := by
  obtain ⟨t, h⟩ := h
  exact ⟨t, by rw [heap_setCell_same w g 0 _ _ _ h]; rfl⟩
theorem Box.other {w : World} {g b : Nat} {v : Value} (h : Box w g v) (hg : g ≠ b) (i : Nat) (v' : Value) : Box (w.setCell ⟨b, i, none⟩ v') g v := by
  obtain ⟨t, h⟩ := h
  exact ⟨t, by rw [heap_setCell_other w ⟨b, i, none⟩ g v' hg]; exact h⟩
theorem Box.below {B : Nat} {w w' : World} {g : Nat} {v : Value} (h : Box w g v) (hb : Below B w w') (hg : g < B) : Box w' g v := by obtain ⟨t, h⟩ := h; exact ⟨t, by rw [hb.block g hg]; exact h⟩
theorem Row.other {w : World} {g n b : Nat} {x : Nat → Int} (h : Row w g n x) (hg : g ≠ b) (i : Nat) (v : Value) : Row (w.setCell ⟨b, i, none⟩ v) g n x := by
  obtain ⟨cur, h1, h2, h3⟩ := h
  exact ⟨cur, by rw [heap_setCell_other w ⟨b, i, none⟩ g v hg]; exact h1, h2, h3⟩
theorem OnlyB.trans {g : Nat} {w w1 w2 : World} (h : OnlyB g w w1) (h' : OnlyB g w1 w2) : OnlyB g w w2 :=
  ⟨h'.os.trans h.os, h'.tape.trans h.tape, h'.output.trans h.output, h'.size.trans h.size, fun k hk => (h'.block k hk).trans (h.block k hk)⟩
theorem Row.only {w w' : World} {g b n : Nat} {x : Nat → Int} (h : Row w g n x) (o : OnlyB b w w') (hg : g ≠ b) : Row w' g n x := by
  obtain ⟨cur, h1, h2, h3⟩ := h
  exact ⟨cur, by rw [o.block g hg]; exact h1, h2, h3⟩
theorem Tryz.sizeU : (Tryz.prog.info? 23).map (·.size) = some 1 := by kernel_rfl
/-- a slice of words that does not lie in block g, copied into that block's row. -/
theorem wp_copyw {ops : Array Oper} {rest : List Oper} {q : Oper} {a : Act} {Q : Exit → Act → World → Prop} (w : World) (hgd : q.guard = none) (d s : Operand)
    (ho : q.op = .call { callee := .builtin .copy, args := #[d, s], argTypes := #[22, 22] })
    (g N dCap : Nat) (X : Nat → Int) (hd : a.eval d = .slice (some ⟨g, 0, none⟩) N dCap) (v : Value) (hs : a.eval s = v)
    (n : Nat) (x : Nat → Int) (hv : Wl w v n x) (hr : Row w g N X) (hnd : n ≤ N)
    (hK : ∀ w', Row w' g N (fun j => if j < n then x j else X j) → OnlyB g w w' → wpList Tryz.prog ops Q rest (a.put q.dst (goInt n)) w') :
    wpList Tryz.prog ops Q (q :: rest) a w := by
  obtain ⟨ao, cap, rfl, h1, h2, h3, h5⟩ := hv
  have hmin : Nat.min n N = n := Nat.min_eq_left hnd
  by_cases hn : n = 0
  · subst hn
    refine wpList_copy_nothing hgd d s 22 22 ho 23 Tryz.underlying22 Tryz.sizeU _ ao N dCap 0 cap hd hs (by simp) ?_
    refine hK w ?_ (OnlyB.refl _ _)
    have e : (fun j => if j < 0 then x j else X j) = X := funext fun j => if_neg (by omega)
    rw [e]
    exact hr
  · obtain ⟨b, ob, rfl, hb, hc⟩ := h5 (by omega)
    obtain ⟨cur, hg, hsz, hcur⟩ := hr
    have hlen : ((List.range n).map (fun j => Value.int .u64 (x j))).length = n := by simp
    refine wpList_copy_own hgd d s 22 22 ho 23 Tryz.underlying22 Tryz.sizeU g 0 N dCap ⟨b, ob, none⟩ n cap hd hs cur 23 hg
      ((List.range n).map (fun j => Value.int .u64 (x j))) (by rw [hlen, hmin]) ?_ (by rw [hlen, hsz]; omega) (by intro u hu; simp at hu; obtain ⟨j, _, rfl⟩ := hu; rfl) ?_
    · intro j u hj
      rw [List.getElem?_map] at hj
      simp only [Option.map_eq_some_iff] at hj
      obtain ⟨i, hi, rfl⟩ := hj
      have hjn : j < n := by
        have := (List.getElem?_eq_some_iff.1 hi).1
        simpa using this
      rw [List.getElem?_range hjn] at hi
      cases hi
      have := hc j hjn
      by_cases hj0 : j = 0
      · subst hj0; simpa [Addr.add] using this
      · simpa [Addr.add, hj0] using this
    · rw [hlen]
      refine hK _ ?_ ?_
      · refine ⟨_, setRow_heap w g _ _ 23 _ hg, ?_, ?_⟩
        · simp [hsz]; omega
        · intro j hj
          show _ = some (Value.int IntKind.u64 (if j < n then x j else X j))
          by_cases hin : j < n
          · rw [if_pos hin]
            simp [List.getElem?_append, hin]
          · rw [if_neg hin]
            have := hcur j hj
            simp [List.getElem?_append, hin, show n + (j - n) = j by omega]
            simpa using this
      · exact ⟨rfl, rfl, rfl, by simp [World.setRow], fun k hk => setRow_other w g k _ hk⟩
end Go.Proofs.YtocfenjampmdlaaGreatDoor
namespace Go.Proofs.YtocfenjampmdlaaGreatDoor
open Go.RowKit Num Nmb

/-- the exponents of the place p. -/
def dg (d : Nat → Int) : Nat → Int → Nat → Int
  | 0, _, _ => 0
  | n + 1, p, t => if t = n then p % d n else dg d n (p / d n) t
theorem dg_in {d : Nat → Int} : ∀ {n : Nat} {p : Int}, (∀ i, i < n → 1 ≤ d i) → ∀ t, t < n → 0 ≤ dg d n p t ∧ dg d n p t < d t
  | 0, _, _, t, ht => absurd ht (by omega)
  | n + 1, p, h, t, ht => by
    have hn := h n (by omega)
    show 0 ≤ (if t = n then p % d n else dg d n (p / d n) t) ∧ (if t = n then p % d n else dg d n (p / d n) t) < d t
    by_cases e : t = n
    · rw [if_pos e, e]
      exact ⟨Int.emod_nonneg _ (by omega), Int.emod_lt_of_pos _ (by omega)⟩
    · rw [if_neg e]
      exact dg_in (fun i hi => h i (by omega)) t (by omega)
theorem pl_eq {d e e' : Nat → Int} : ∀ {n : Nat}, (∀ i, i < n → e i = e' i) → pl d e n = pl d e' n
  | 0, _ => rfl
  | n + 1, h => by
    show pl d e n * d n + e n = pl d e' n * d n + e' n
    rw [pl_eq (fun i hi => h i (by omega)), h n (by omega)]
theorem pl_dg {d : Nat → Int} : ∀ {n : Nat} {p : Int}, (∀ i, i < n → 1 ≤ d i) → 0 ≤ p → p < pd d n → pl d (dg d n p) n = p
  | 0, p, _, h0, h1 => by
    have h1' : p < 1 := h1
    show (0 : Int) = p
    omega
  | n + 1, p, h, h0, h1 => by
    have hn := h n (by omega)
    have h1' : p < pd d n * d n := h1
    have e1 : pl d (dg d (n + 1) p) n = pl d (dg d n (p / d n)) n := pl_eq fun i hi => by
      show (if i = n then p % d n else dg d n (p / d n) i) = _
      rw [if_neg (by omega)]
    have e2 : dg d (n + 1) p n = p % d n := by
      show (if n = n then p % d n else dg d n (p / d n) n) = _
      rw [if_pos rfl]
    show pl d (dg d (n + 1) p) n * d n + dg d (n + 1) p n = p
    rw [e1, e2, pl_dg (fun i hi => h i (by omega)) (Int.ediv_nonneg h0 (by omega)) (Int.ediv_lt_of_lt_mul (by omega) h1'), Int.mul_comm]
    exact Int.mul_ediv_add_emod p (d n)
/-- exponents are told by their place. -/
theorem pl_inj {d e e' : Nat → Int} : ∀ {n : Nat}, (∀ i, i < n → 0 ≤ e i ∧ e i < d i) → (∀ i, i < n → 0 ≤ e' i ∧ e' i < d i) → pl d e n = pl d e' n → ∀ i, i < n → e i = e' i
  | 0, _, _, _, i, hi => absurd hi (by omega)
  | n + 1, h, h', he, i, hi => by
    have a1 := h n (by omega)
    have a2 := h' n (by omega)
    have he' : pl d e n * d n + e n = pl d e' n * d n + e' n := he
    have m1 : (pl d e n * d n + e n) % d n = e n := by
      rw [Int.add_comm, Int.add_mul_emod_self_right, Int.emod_eq_of_lt a1.1 a1.2]
    have m2 : (pl d e' n * d n + e' n) % d n = e' n := by
      rw [Int.add_comm, Int.add_mul_emod_self_right, Int.emod_eq_of_lt a2.1 a2.2]
    have en : e n = e' n := by rw [← m1, he', m2]
    have ep : pl d e n = pl d e' n := Int.eq_of_mul_eq_mul_right (show d n ≠ 0 by omega) (by omega)
    by_cases q : i = n
    · rw [q]; exact en
    · exact pl_inj (fun i hi => h i (by omega)) (fun i hi => h' i (by omega)) ep i (by omega)
/-- block g holds n ints x. -/
def Rowi (w : World) (g n : Nat) (x : Nat → Int) : Prop :=
  ∃ cur : Array Value, w.heap[g]? = some (.cells cur 3 (0, 0)) ∧ cur.size = n ∧ ∀ j, j < n → cur[j]? = some (.int .i64 (x j))
theorem Rowi.cell {w : World} {g n : Nat} {x : Nat → Int} (h : Rowi w g n x) {i : Nat} (hi : i < n) : w.cell? ⟨g, i, none⟩ = some (.int .i64 (x i)) := by
  obtain ⟨cur, hg, _, hc⟩ := h
  simp [World.cell?, hg, hc i hi]
theorem Rowi.frozen {w : World} {g n : Nat} {x : Nat → Int} (h : Rowi w g n x) (i : Nat) : w.frozen? ⟨g, i, none⟩ = false := by
  obtain ⟨cur, hg, _, hc⟩ := h
  simp [World.frozen?, hg]
theorem Rowi.lt {w : World} {g n : Nat} {x : Nat → Int} (h : Rowi w g n x) : g < w.heap.size := by
  obtain ⟨cur, hg, _⟩ := h
  exact (Array.getElem?_eq_some_iff.1 hg).1
theorem Rowi.set {w : World} {g n : Nat} {x y : Nat → Int} (h : Rowi w g n x) (i : Nat) (v : Int) (e : ∀ j, j < n → y j = if j = i then v else x j) : Rowi (w.setCell ⟨g, i, none⟩ (.int .i64 v)) g n y := by
  obtain ⟨cur, hg, hs, hc⟩ := h
  refine ⟨cur.setIfInBounds i (.int .i64 v), ?_, by simpa using hs, fun j hj => ?_⟩
  · rw [heap_setCell_same w g i cur 3 _ hg]
  · rw [e j hj]
    by_cases e : j = i
    · subst e; rw [Array.getElem?_setIfInBounds]; simp [hs, hj]
    · rw [Array.getElem?_setIfInBounds]; simp [Ne.symm e, e, hc j hj]
theorem Rowi.below {B : Nat} {w w' : World} {g n : Nat} {x : Nat → Int} (h : Rowi w g n x) (hb : Below B w w') (hg : g < B) : Rowi w' g n x := by
  obtain ⟨cur, h1, h2, h3⟩ := h
  exact ⟨cur, by rw [hb.block g hg]; exact h1, h2, h3⟩
theorem Rowi.wi {w : World} {g n : Nat} {x : Nat → Int} (h : Rowi w g n x) (hv : ∀ j, j < n → -9223372036854775808 ≤ x j ∧ x j ≤ 9223372036854775807) (hn : n ≤ 9223372036854775807) : Wi w (.slice (some ⟨g, 0, none⟩) n n) n x :=
  ⟨_, n, rfl, Nat.le_refl _, hn, hv, fun _ => ⟨g, 0, rfl, h.lt, fun j hj => by rw [Nat.zero_add]; exact h.cell hj⟩⟩
theorem Tryz.infoI : (Tryz.prog.info? 3).map (fun i => (i.zero, i.size, i.bytes)) = some (some (.int .i64 0), 1, 8) := by kernel_rfl
theorem Rowi.new (w : World) (n : Nat) : Rowi (w.alloc (.cells (madeCells #[.int .i64 0] (n * 1)) 3)) w.heap.size n (fun _ => 0) := by
  refine ⟨madeCells #[.int .i64 0] (n * 1), ?_, by simp [size_madeCells], fun j hj => ?_⟩
  · exact heap_alloc_new w _
  · simp [madeCells, hj, Nat.mod_one]
theorem wp_makei {ops : Array Oper} {rest : List Oper} {o : Oper} {a : Act} {Q : Exit → Act → World → Prop} (w : World) (hg : o.guard = none) (l c : Operand) (hop : o.op = Op.makeSlice 41 l c)
    (L C : Int) (n : Nat) (hl : a.eval l = .int .i64 L) (hc : a.eval c = .int .i64 C) (hL : L = (n : Int)) (hC : C = (n : Int)) (hn : n ≤ 1000000000)
    (hK : ∀ w', Rowi w' w.heap.size n (fun _ => 0) → Below w.heap.size w w' → w'.heap.size = w.heap.size + 1 → wpList Tryz.prog ops Q rest (a.put o.dst (.slice (some ⟨w.heap.size, 0, none⟩) n n)) w') :
    wpList Tryz.prog ops Q (o :: rest) a w := by
  obtain ⟨i0, hi, hz0, hz1, hz2⟩ := info_parts Tryz.infoI
  refine wpList_plain hg fun K hK' => ?_
  have hr := run_make (P := Tryz.prog) w 41 3 i0 (.int .i64 0) Tryz.underlying41 hi hz0 .i64 .i64 n n (by omega) (Int.le_refl _) (by rw [hz2]; omega) (by omega)
  simp only [Int.toNat_natCast] at hr
  rw [hz1] at hr
  subst hL; subst hC
  unfold Oper.wp
  simp [execOp, hop, hl, hc, hr, Result.andThen]
  refine hK' _ _ (hK _ ?_ ?_ ?_)
  · have := Rowi.new w n
    rw [Nat.mul_one] at this
    exact this
  · exact (Below.refl _ _).alloc (Nat.le_refl _) _
  · simp
set_option maxHeartbeats 1600000 in
theorem rexps_any (u : Value) (n : Nat) (d : Nat → Int) (p : Int) (w : World) (U : Wi w u n d) (hd : ∀ i, i < n → 1 ≤ d i) (hn : n ≤ 100) (hp : 0 ≤ p ∧ p ≤ 1000000) :
    Calls Tryz.prog 24 #[u, .int .i64 p] w fun e w' => e = .returned (.slice (some ⟨w.heap.size, 0, none⟩) n n) ∧ Rowi w' w.heap.size n (dg d n p) ∧ Below w.heap.size w w' := by
  have UU := hid U
  have HD := hid hd
  obtain ⟨ao, cap, rfl, -⟩ := U
  clear hd
  go_enter Tryz.func24, Tryz.ntmps24
  go_wp2_with (at_make; refine wp_makei _ rfl _ _ rfl _ _ n rfl rfl (by omega) (by omega) (by omega) ?_; intro w1 R1 C1 Z1; have HR := hid R1; have HC := hid C1; clear R1 C1 Z1)
  go_loopw [6, 1] (fun iv pv wr => ∃ (t : Nat) (q : Int) (x : Nat → Int), iv = .int .i64 ((t : Int) - 1) ∧ pv = .int .i64 q ∧ t ≤ n ∧ 0 ≤ q ∧ q ≤ 1000000 ∧ Hid (∀ i, i < n → dg d n p i = if i < t then dg d t q i else x i) ∧ Hid (Rowi wr w.heap.size n x) ∧ Hid (Below w.heap.size w wr)) (fun iv _ _ => (intOf iv + 1).toNat)
  case atStart => exact ⟨n, p, _, rfl, rfl, Nat.le_refl _, hp.1, hp.2, fun i hi => by rw [if_pos hi], HR.out, HC.out⟩
  case round =>
    obtain ⟨t, q, x, rfl, rfl, ht, hq1, hq2, HX, RW, BW⟩ := hrel
    by_cases t0 : t = 0
    · subst t0
      have R : Hid (Rowi wr w.heap.size n (dg d n p)) := by
        obtain ⟨cur, h1, h2, h3⟩ := RW.out
        exact ⟨cur, h1, h2, fun j hj => by rw [HX.out j hj, if_neg (by omega)]; exact h3 j hj⟩
      clear HX RW UU HD HR HC
      go_wp2
      go_ret
      exact ⟨rfl, R.out, BW.out⟩
    · obtain ⟨k, rfl⟩ : ∃ k, t = k + 1 := ⟨t - 1, by omega⟩
      obtain ⟨ao', cap', hu, -, -, hvd, hcell⟩ := UU.out
      injection hu with hu1 hu2 hu3
      subst hu1 hu3
      clear hu2
      obtain ⟨ub, uo, hao, hub, hcd⟩ := hcell (by omega)
      subst hao
      have cd0 := hcd k (by omega)
      have cd : wr.cell? ⟨ub, uo + k, none⟩ = some (.int .i64 (d k)) := by rw [BW.out.cell (p := ⟨ub, uo + k, none⟩) hub]; exact cd0
      have d1 := HD.out k (by omega)
      have vd := hvd k (by omega)
      have cl := RW.out.cell (i := k) (by omega)
      have fl := RW.out.frozen k
      have hkn : (k : Int) < (n : Int) := by omega
      have ek : ((k + 1 : Nat) : Int) - 1 = (k : Int) := by omega
      have tm : Int.tmod q (d k) = q % d k := Int.tmod_eq_emod_of_nonneg hq1
      have td : Int.tdiv q (d k) = q / d k := Int.tdiv_eq_ediv_of_nonneg hq1
      have q1 : 0 ≤ q / d k := Int.ediv_nonneg hq1 (by omega)
      have q2 : q / d k ≤ q := Int.ediv_le_self _ hq1
      have q3 : 0 ≤ q % d k := Int.emod_nonneg _ (by omega)
      have q4 : q % d k < d k := Int.emod_lt_of_pos _ (by omega)
      have R2 : Hid (∀ v, v = q % d k → Rowi (wr.setCell ⟨w.heap.size, k, none⟩ (.int .i64 v)) w.heap.size n (fun j => if j = k then v else x j)) := fun v _ => RW.out.set k v (fun _ _ => rfl)
      have B2 : Hid (∀ v, Below w.heap.size w (wr.setCell ⟨w.heap.size, k, none⟩ v)) := fun v => below_set BW.out (Nat.le_refl _) _ _
      have X2 : Hid (∀ i, i < n → dg d n p i = if i < k then dg d k (q / d k) i else (fun j => if j = k then q % d k else x j) i) := fun i hi => by
        rw [HX.out i hi]
        show _ = if i < k then dg d k (q / d k) i else if i = k then q % d k else x i
        by_cases e1 : i < k
        · rw [if_pos (by omega), if_pos e1]
          show (if i = k then q % d k else dg d k (q / d k) i) = _
          rw [if_neg (by omega)]
        · rw [if_neg e1]
          by_cases e2 : i = k
          · rw [if_pos (by omega), if_pos e2]
            show (if i = k then q % d k else dg d k (q / d k) i) = _
            rw [if_pos e2]
          · rw [if_neg (by omega), if_neg e2]
      have ne : ub ≠ w.heap.size := by omega
      have kq := fun W i v => cell_other ne W i (uo + k) v
      clear HX RW BW hcd hvd hcell HR HC cd0
      have R3 := hid (R2.out _ rfl)
      have B3 := hid (B2.out (.int .i64 (q % d k)))
      clear R2 B2 UU HD
      have ek2 : (k : Int) + 1 - 1 = (k : Int) := by omega
      have dne : (d k == 0) = false := beq_eq_false_iff_ne.2 (by omega)
      have w1 : IntKind.i64.wrap (q / d k) = q / d k := by rw [IntKind.wrap_i64]; omega
      have w2 : IntKind.i64.wrap (q % d k) = q % d k := by rw [IntKind.wrap_i64]; omega
      generalize hdd : d k = dk at *
      clear hdd
      go_wp2
      exact ⟨⟨k, q / dk, _, rfl, rfl, by omega, q1, by omega, X2, R3, B3⟩, by simp only [intOf]; omega⟩
end Go.Proofs.YtocfenjampmdlaaGreatDoor
namespace Go.Proofs.YtocfenjampmdlaaGreatDoor
open Go.RowKit Num Nmb

theorem sw_said (m s d x : Nat) (hx : x < 18446744073709551616) (hm : m < 18446744073709551616) (hd : d = 2 ^ s) :
    bits .or .u64 (bits .and .u64 ((x : Int) / (d : Nat)) (m : Nat)) (IntKind.u64.wrap (bits .and .u64 (x : Int) (m : Nat) * (d : Nat))) = ((sw m s x : Nat) : Int) := by
  have h1 : x / d < 18446744073709551616 := Nat.lt_of_le_of_lt (Nat.div_le_self _ _) hx
  have h2 : x / d &&& m < 18446744073709551616 := Nat.lt_of_le_of_lt Nat.and_le_right hm
  rw [← Int.natCast_ediv, bits_and_u64_nat _ _ h1 hm, bits_and_u64_nat _ _ hx hm, ← Int.natCast_mul, IntKind.wrap_u64, show (18446744073709551616 : Int) = ((18446744073709551616 : Nat) : Int) from rfl, ← Int.natCast_emod, bits_or_u64_nat _ _ h2 (Nat.mod_lt _ (by decide)), hd]
  rfl
theorem sh_said (x : Nat) (hx : x < 18446744073709551616) : bits .or .u64 ((x : Int) / 4294967296) (IntKind.u64.wrap ((x : Int) * 4294967296)) = ((sh x : Nat) : Int) := by
  have h1 : x / 4294967296 < 18446744073709551616 := Nat.lt_of_le_of_lt (Nat.div_le_self _ _) hx
  rw [show (4294967296 : Int) = ((4294967296 : Nat) : Int) from rfl, ← Int.natCast_ediv, ← Int.natCast_mul, IntKind.wrap_u64, show (18446744073709551616 : Int) = ((18446744073709551616 : Nat) : Int) from rfl, ← Int.natCast_emod, bits_or_u64_nat _ _ h1 (Nat.mod_lt _ (by decide))]
  rfl
set_option maxHeartbeats 1600000 in
theorem revBytes_any (x : Nat) (w : World) (hx : x < 18446744073709551616) :
    Calls Tryz.prog 127 #[.int .u64 x] w fun e w' => e = .returned (.int .u64 (sh (sw 281470681808895 16 (sw 71777214294589695 8 x)) : Nat)) ∧ w' = w := by
  have e1 := sw_said 71777214294589695 8 256 x hx (by decide) rfl
  have l1 := sw_lt 71777214294589695 8 x (by decide)
  generalize sw 71777214294589695 8 x = y at *
  have e2 := sw_said 281470681808895 16 65536 y l1 (by decide) rfl
  have l2 := sw_lt 281470681808895 16 y (by decide)
  generalize sw 281470681808895 16 y = z at *
  have e3 := sh_said z l2
  generalize sh z = u at *
  simp only [Int.cast_ofNat_Int] at e1 e2 e3
  go_enter Tryz.func127, Tryz.ntmps127
  go_wp2
  go_ret
  exact ⟨rfl, rfl⟩
set_option maxHeartbeats 1600000 in
theorem rev_any (x : Nat) (w : World) (hx : x < 18446744073709551616) :
    Calls Tryz.prog 122 #[.int .u64 x] w fun e w' => e = .returned (.int .u64 (rev64 x : Nat)) ∧ w' = w := by
  unfold rev64
  have e1 := sw_said 6148914691236517205 1 2 x hx (by decide) rfl
  have l1 := sw_lt 6148914691236517205 1 x (by decide)
  generalize sw 6148914691236517205 1 x = y at *
  have e2 := sw_said 3689348814741910323 2 4 y l1 (by decide) rfl
  have l2 := sw_lt 3689348814741910323 2 y (by decide)
  generalize sw 3689348814741910323 2 y = z at *
  have e3 := sw_said 1085102592571150095 4 16 z l2 (by decide) rfl
  have l3 := sw_lt 1085102592571150095 4 z (by decide)
  generalize sw 1085102592571150095 4 z = u at *
  have RB := hid (revBytes_any u w l3)
  simp only [Int.cast_ofNat_Int] at e1 e2 e3
  go_enter Tryz.func122, Tryz.ntmps122
  go_wp2_with fail
  refine RB.out.mono ?_
  rintro e w2 ⟨rfl, hw⟩
  obtain rfl := hw.symm
  go_wp2
  go_ret
  exact ⟨rfl, by first | trivial | rfl⟩
set_option maxHeartbeats 1600000 in
theorem turned_any (i k : Nat) (w : World) (hi : i ≤ 9223372036854775807) (hk : k ≤ 63) :
    Calls Tryz.prog 109 #[.int .i64 i, .int .i64 k] w fun e w' => e = .returned (.int .i64 (rv k i : Nat)) ∧ w' = w := by
  have R := hid (rev_any i w (by omega))
  have q0 : IntKind.u64.wrap (i : Int) = (i : Int) := by rw [IntKind.wrap_u64]; omega
  have q1 : ((64 : Int) - (k : Int)).toNat = 64 - k := by omega
  have q2 : ((rev64 i : Nat) : Int) / 2 ^ (64 - k) = ((rv k i : Nat) : Int) := by
    rw [← rev64_rv i k (by omega), Int.natCast_ediv, Int.natCast_pow]; rfl
  have q3 : rv k i < 9223372036854775808 := Nat.lt_of_lt_of_le (rv_lt k i) (Nat.pow_le_pow_right (n := 2) (j := 63) (by omega) hk)
  generalize rev64 i = x at *
  generalize rv k i = y at *
  go_enter Tryz.func109, Tryz.ntmps109
  go_wp2_with fail
  refine R.out.mono ?_
  rintro e w2 ⟨rfl, hw⟩
  obtain rfl := hw.symm
  go_wp2
  go_ret
  exact ⟨rfl, by first | trivial | rfl⟩
theorem bl_said : ∀ f x, x < 2 ^ f → f ≤ 64 → x < 2 ^ Lib.bitLen x ∧ Lib.bitLen x ≤ f
  | 0, x, h, _ => by
    obtain rfl : x = 0 := by rw [Nat.pow_zero] at h; omega
    decide
  | f + 1, x, h, h64 => by
    by_cases h0 : x = 0
    · subst h0
      exact ⟨by decide, by have : Lib.bitLen 0 = 0 := by decide
                           omega⟩
    · rw [Nat.pow_succ] at h
      have h1 := bl_said f (x / 2) (by omega) (by omega)
      have h2 : x < 2 ^ 64 := Nat.lt_of_lt_of_le (by rw [Nat.pow_succ]; exact h) (Nat.pow_le_pow_right (n := 2) (i := f + 1) (by omega) h64)
      rw [Lib.bitLen_half x h0 h2, Nat.add_comm 1, Nat.pow_succ]
      omega
set_option maxHeartbeats 800000 in
theorem blen_any (x : Nat) (w : World) (h : x ≤ 18446744073709551615) :
    Calls Tryz.prog 63 #[.int .u64 x] w fun e w' => e = .returned (.int .i64 (Lib.bitLen x : Nat)) ∧ w' = w := by
  have L : Hid (∀ w, Calls Tryz.prog 82 #[.int .u64 x] w fun e w' => e = .returned (.int .i64 (Lib.bitLen x : Nat)) ∧ w' = w) := fun w => by
    have := Any.bits_Len64 Tryz.lays129 (x : Int) w (by omega) (by omega)
    rw [Int.toNat_natCast] at this
    exact this
  go_enter Tryz.func63, Tryz.ntmps63
  go_wp2_with fail
  refine (L.out _).mono ?_
  rintro e w2 ⟨rfl, hw⟩
  obtain rfl := hw.symm
  go_wp2
  go_ret
  exact ⟨rfl, by first | trivial | rfl⟩
theorem bl_low : ∀ f x, x < 2 ^ f → f ≤ 64 → 0 < x → ∃ q, Lib.bitLen x = q + 1 ∧ 2 ^ q ≤ x
  | 0, x, h, _, h0 => by rw [Nat.pow_zero] at h; omega
  | f + 1, x, h, h64, h0 => by
    have h2 : x < 2 ^ 64 := Nat.lt_of_lt_of_le h (Nat.pow_le_pow_right (n := 2) (i := f + 1) (by omega) h64)
    have e := Lib.bitLen_half x (by omega) h2
    by_cases h1 : x / 2 = 0
    · rw [h1, show Lib.bitLen 0 = 0 by decide] at e
      exact ⟨0, by omega, by rw [Nat.pow_zero]; omega⟩
    · rw [Nat.pow_succ] at h
      obtain ⟨q, h3, h4⟩ := bl_low f (x / 2) (by omega) (by omega) (by omega)
      exact ⟨q + 1, by omega, by rw [Nat.pow_succ]; omega⟩
theorem xor_i64 (a b : Nat) (ha : a < 2 ^ 62) (hb : b < 2 ^ 62) : bits .xor .i64 (a : Int) (b : Int) = ((a ^^^ b : Nat) : Int) := by
  show IntKind.i64.wrap ((BitVec.ofInt 64 (a : Int) ^^^ BitVec.ofInt 64 (b : Int)).toNat : Nat) = _
  rw [BitVec.toNat_xor, BitVec.ofInt_natCast, BitVec.ofInt_natCast, BitVec.toNat_ofNat, BitVec.toNat_ofNat, Nat.mod_eq_of_lt (by omega), Nat.mod_eq_of_lt (by omega), IntKind.wrap_i64]
  have := Nat.xor_lt_two_pow ha hb
  omega
theorem Row.eq {w : World} {g n : Nat} {x y : Nat → Int} (h : Row w g n x) (e : ∀ j, j < n → x j = y j) : Row w g n y := by
  obtain ⟨cur, h1, h2, h3⟩ := h
  exact ⟨cur, h1, h2, fun j hj => by rw [← e j hj]; exact h3 j hj⟩
end Go.Proofs.YtocfenjampmdlaaGreatDoor
namespace Go.Proofs.YtocfenjampmdlaaGreatDoor
open Go.RowKit Num Nmb

/-- block g holds three words. -/
def W3 (w : World) (g : Nat) (t : TypeId) (X : Nat → Int) : Prop := w.heap[g]? = some (.cells #[.int .u64 (X 0), .int .u64 (X 1), .int .u64 (X 2)] t (0, 0))
theorem W3.lt {w : World} {g : Nat} {t : TypeId} {X : Nat → Int} (h : W3 w g t X) : g < w.heap.size := (Array.getElem?_eq_some_iff.1 h).1
theorem W3.cell {w : World} {g : Nat} {t : TypeId} {X : Nat → Int} (h : W3 w g t X) {i : Nat} (hi : i < 3) : w.cell? ⟨g, i, none⟩ = some (.int .u64 (X i)) := by
  unfold W3 at h
  match i, hi with
  | 0, _ => simp only [World.cell?, h]; rfl
  | 1, _ => simp only [World.cell?, h]; rfl
  | 2, _ => simp only [World.cell?, h]; rfl
theorem W3.frozen {w : World} {g : Nat} {t : TypeId} {X : Nat → Int} (h : W3 w g t X) (i : Nat) : w.frozen? ⟨g, i, none⟩ = false := by
  unfold W3 at h; simp only [World.frozen?, h]; rfl
theorem W3.drew {w : World} {g : Nat} {t : TypeId} {X : Nat → Int} (h : W3 w g t X) (n : Nat) : W3 (w.drewN n) g t X := by unfold W3 at *; simpa using h
theorem W3.below {B : Nat} {w w' : World} {g : Nat} {t : TypeId} {X : Nat → Int} (h : W3 w g t X) (hb : Below B w w') (hg : g < B) : W3 w' g t X := by unfold W3; rw [hb.block g hg]; exact h
theorem W3.other {w : World} {g b : Nat} {t : TypeId} {X : Nat → Int} (h : W3 w g t X) (hg : g ≠ b) (i : Nat) (v : Value) : W3 (w.setCell ⟨b, i, none⟩ v) g t X := by
  unfold W3; rw [heap_setCell_other w ⟨b, i, none⟩ g v hg]; exact h
theorem W3.set {w : World} {g : Nat} {t : TypeId} {X : Nat → Int} (h : W3 w g t X) {i : Nat} (hi : i < 3) (v : Int) : W3 (w.setCell ⟨g, i, none⟩ (.int .u64 v)) g t (fun j => if j = i then v else X j) := by
  unfold W3 at *
  rw [heap_setCell_same w g i _ t _ h]
  match i, hi with
  | 0, _ => rfl
  | 1, _ => rfl
  | 2, _ => rfl
theorem W3.eq {w : World} {g : Nat} {t : TypeId} {X Y : Nat → Int} (h : W3 w g t X) (e : ∀ j, j < 3 → X j = Y j) : W3 w g t Y := by
  unfold W3 at *; rw [h, e 0 (by omega), e 1 (by omega), e 2 (by omega)]
theorem W3.new (w : World) (t : TypeId) (X : Nat → Int) : W3 (w.alloc (.cells #[.int .u64 (X 0), .int .u64 (X 1), .int .u64 (X 2)] t)) w.heap.size t X := heap_alloc_new w _
/-- the number of the k highest words. -/
def hk (X : Nat → Int) : Nat → Int
  | 0 => 0
  | k + 1 => X (2 - k) + 18446744073709551616 * hk X k
/-- the number of three words. -/
def hvw (X : Nat → Int) : Int := X 0 + 18446744073709551616 * (X 1 + 18446744073709551616 * X 2)
theorem hk_three (X : Nat → Int) : hk X 3 = hvw X := by
  show X 0 + 18446744073709551616 * (X 1 + 18446744073709551616 * (X 2 + 18446744073709551616 * 0)) = _
  unfold hvw; omega
theorem below_new' (w : World) (o : Obj) : Below w.heap.size w (w.alloc o) := (Below.refl _ _).alloc (Nat.le_refl _) o
set_option maxHeartbeats 800000 in
theorem wleft_any (X : Nat → Int) (m : Int) (w : World) (hX : ∀ j, j < 3 → 0 ≤ X j ∧ X j ≤ 18446744073709551615) (hm : 1 ≤ m ∧ m ≤ 18446744073709551615) :
    Calls Tryz.prog 32 #[.agg #[.int .u64 (X 0), .int .u64 (X 1), .int .u64 (X 2)], .int .u64 m] w fun e w' => e = .returned (.int .u64 (hvw X % m)) ∧ Below w.heap.size w w' := by
  have HX := hid hX
  have N0 := hid (W3.new w 61 X)
  have B0 := hid (below_new' w (.cells #[.int .u64 (X 0), .int .u64 (X 1), .int .u64 (X 2)] 61))
  have T3 := hid (hk_three X)
  have RC : Hid (∀ k, hk X (k + 1) = X (2 - k) + 18446744073709551616 * hk X k) := fun _ => rfl
  clear hX
  go_enter Tryz.func32, Tryz.ntmps32
  go_wp2
  go_loopw [6, 5] (fun iv zv wr => ∃ (k : Nat) (z : Int), iv = .int .i64 (2 - (k : Int)) ∧ zv = .int .u64 z ∧ k ≤ 3 ∧ 0 ≤ z ∧ z < m ∧ Hid (z = hk X k % m) ∧ Hid (W3 wr w.heap.size 61 X) ∧ Hid (Below w.heap.size w wr)) (fun iv _ _ => (intOf iv + 1).toNat)
  case atStart => exact ⟨0, 0, rfl, rfl, by omega, by omega, by omega, by show (0 : Int) = 0 % m; rw [Int.zero_emod], N0.out, B0.out⟩
  case round =>
    obtain ⟨k, z, rfl, rfl, hk3, hz0, hz1, HZ, HW, HB⟩ := hrel
    by_cases k3 : k = 3
    · subst k3
      have E : Hid (z = hvw X % m) := by rw [← T3.out]; exact HZ.out
      clear HX N0 B0 T3 RC HZ HW
      go_wp2
      go_ret
      exact ⟨ret_int E.out, HB.out⟩
    · obtain ⟨i, hi, hi3⟩ : ∃ i : Nat, 2 - (k : Int) = (i : Int) ∧ i = 2 - k := ⟨2 - k, by omega, rfl⟩
      have cl := HW.out.cell (i := i) (by omega)
      have vx := HX.out i (by omega)
      have D := div64_any z (X i) m wr hz0 vx.1 vx.2 hz1 hm.2
      have e1 : dr z (X i) m = hk X (k + 1) % m := by
        unfold dr
        rw [RC.out k, ← hi3, HZ.out, Int.add_comm, Int.mul_comm, Int.add_emod, Int.mul_emod, Int.emod_emod_of_dvd _ (Int.dvd_refl _), ← Int.mul_emod, ← Int.add_emod]
      have b1 : 0 ≤ dr z (X i) m ∧ dr z (X i) m < m := ⟨Int.emod_nonneg _ (by omega), Int.emod_lt_of_pos _ (by omega)⟩
      have E1 := hid e1
      have DD := hid D
      have hil : (i : Int) < 3 := by omega
      have hk' : Hid (2 - ((k + 1 : Nat) : Int) = (i : Int) - 1) := by show _ = _; omega
      have W2 : Hid (∀ q, W3 (wr.drewN q) w.heap.size 61 X) := fun q => HW.out.drew q
      have B2 : Hid (∀ q, Below w.heap.size w (wr.drewN q)) := fun q => below_drewN HB.out q
      rw [hi]
      clear D e1 N0 B0 T3 RC HZ HW HB HX hi3 hi
      generalize dr z (X i) m = r at *
      generalize X i = xi at *
      go_wp2_with fail
      refine DD.out.mono ?_
      rintro e w2 ⟨rfl, q, rfl⟩
      clear DD cl
      go_wp2
      exact ⟨⟨k + 1, r, by rw [hk'.out], rfl, by omega, b1.1, b1.2, E1, W2.out q, B2.out q⟩, by simp only [intOf]; omega⟩
/-- the number of the k lowest words. -/
def lk (X : Nat → Int) : Nat → Int
  | 0 => 0
  | k + 1 => lk X k + X k * 18446744073709551616 ^ k
theorem lk_three (X : Nat → Int) : lk X 3 = hvw X := by
  show 0 + X 0 * 18446744073709551616 ^ 0 + X 1 * 18446744073709551616 ^ 1 + X 2 * 18446744073709551616 ^ 2 = _
  rw [show (18446744073709551616 : Int) ^ 0 = 1 from rfl, show (18446744073709551616 : Int) ^ 1 = 18446744073709551616 from rfl, show (18446744073709551616 : Int) ^ 2 = 340282366920938463463374607431768211456 from by decide]
  unfold hvw; omega
/-- one step of the product: the word x times b, and c more. -/
theorem step_said {x b c : Int} (hx : 0 ≤ x ∧ x ≤ 18446744073709551615) (hb : 0 ≤ b ∧ b ≤ 18446744073709551615) (hc : 0 ≤ c ∧ c ≤ 18446744073709551615) :
    0 ≤ (x * b + c) / 18446744073709551616 ∧ (x * b + c) / 18446744073709551616 ≤ 18446744073709551615 ∧ 0 ≤ (x * b + c) % 18446744073709551616 ∧ (x * b + c) % 18446744073709551616 ≤ 18446744073709551615 ∧
    0 ≤ x * b / 18446744073709551616 ∧ x * b / 18446744073709551616 ≤ 18446744073709551614 ∧ 0 ≤ x * b % 18446744073709551616 ∧ x * b % 18446744073709551616 ≤ 18446744073709551615 ∧
    (x * b % 18446744073709551616 + c) % 18446744073709551616 = (x * b + c) % 18446744073709551616 ∧ x * b / 18446744073709551616 + (x * b % 18446744073709551616 + c) / 18446744073709551616 = (x * b + c) / 18446744073709551616 := by
  have h1 := Int.mul_le_mul hx.2 hb.2 hb.1 (by omega)
  have h2 := Int.mul_nonneg hx.1 hb.1
  generalize x * b = p at *
  omega
end Go.Proofs.YtocfenjampmdlaaGreatDoor
namespace Go.Proofs.YtocfenjampmdlaaGreatDoor
open Go.RowKit Num Nmb

/-- a box with more powers. -/
def wdp (d f : Nat → Int) (n : Nat) (a : Nat → Int) (ka j : Nat) : Int := sm (fun i => if pl f (dg d n i) n = j then a i else 0) ka
/-- the product of two boxes. -/
def bxp (d e f : Nat → Int) (n : Nat) (a b : Nat → Int) (ka kb j : Nat) : Int := sm (fun i => sm (fun k => if pl f (fun t => dg d n i t + dg e n k t) n = j then a i * b k else 0) kb) ka
/-- the place of coefficient i. -/
def ph (d f : Nat → Int) (n i : Nat) : Nat := (pl f (dg d n i) n).toNat
theorem pl_nn {f e : Nat → Int} : ∀ {n : Nat}, (∀ t, t < n → 0 ≤ e t ∧ 0 ≤ f t) → 0 ≤ pl f e n
  | 0, _ => by show (0 : Int) ≤ 0; omega
  | n + 1, h => by
    have h1 := pl_nn (n := n) (fun t ht => h t (by omega))
    have h2 := h n (by omega)
    have h3 := Int.mul_nonneg h1 h2.2
    show 0 ≤ pl f e n * f n + e n
    omega
theorem pl_le {f e e' : Nat → Int} : ∀ {n : Nat}, (∀ t, t < n → 0 ≤ f t) → (∀ t, t < n → e t ≤ e' t) → pl f e n ≤ pl f e' n
  | 0, _, _ => Int.le_refl _
  | n + 1, h, g => by
    have h1 := pl_le (n := n) (fun t ht => h t (by omega)) (fun t ht => g t (by omega))
    have h2 := Int.mul_le_mul_of_nonneg_right h1 (h n (by omega))
    have h3 := g n (by omega)
    show pl f e n * f n + e n ≤ pl f e' n * f n + e' n
    omega
theorem pl_add (f x y : Nat → Int) : ∀ n, pl f (fun t => x t + y t) n = pl f x n + pl f y n
  | 0 => rfl
  | n + 1 => by
    show pl f (fun t => x t + y t) n * f n + (x n + y n) = pl f x n * f n + x n + (pl f y n * f n + y n)
    rw [pl_add f x y n, Int.add_mul]
    omega
/-- the last place of a box. -/
theorem pl_last (f : Nat → Int) : ∀ n, pl f (fun t => f t - 1) n = pd f n - 1
  | 0 => rfl
  | n + 1 => by
    show pl f (fun t => f t - 1) n * f n + (f n - 1) = pd f n * f n - 1
    rw [pl_last f n, Int.sub_mul]
    omega
theorem ph_cast {d f : Nat → Int} {n : Nat} (hd : ∀ t, t < n → 1 ≤ d t) (hf : ∀ t, t < n → d t ≤ f t) (i : Nat) : ((ph d f n i : Nat) : Int) = pl f (dg d n i) n := by
  have := pl_nn (f := f) (e := dg d n i) (n := n) (fun t ht => ⟨(dg_in hd t ht).1, by have := hd t ht; have := hf t ht; omega⟩)
  unfold ph
  omega
theorem ph_lt {d f : Nat → Int} {n : Nat} (hd : ∀ t, t < n → 1 ≤ d t) (hf : ∀ t, t < n → d t ≤ f t) (i : Nat) : ((ph d f n i : Nat) : Int) ≤ pl f (fun t => d t - 1) n := by
  rw [ph_cast hd hf]
  exact pl_le (fun t ht => by have := hd t ht; have := hf t ht; omega) (fun t ht => by have := (dg_in (p := (i : Int)) hd t ht).2; omega)
theorem ph_inj {d f : Nat → Int} {n : Nat} (hd : ∀ t, t < n → 1 ≤ d t) (hf : ∀ t, t < n → d t ≤ f t) {ka i j : Nat} (hk : pd d n = ka) (hi : i < ka) (hj : j < ka) (h : ph d f n i = ph d f n j) : i = j := by
  have h1 := ph_cast hd hf i
  have h2 := ph_cast hd hf j
  have h3 : pl f (dg d n i) n = pl f (dg d n j) n := by rw [← h1, ← h2, h]
  have h4 := pl_inj (fun t ht => ⟨(dg_in (p := (i : Int)) hd t ht).1, Int.lt_of_lt_of_le (dg_in (p := (i : Int)) hd t ht).2 (hf t ht)⟩) (fun t ht => ⟨(dg_in (p := (j : Int)) hd t ht).1, Int.lt_of_lt_of_le (dg_in (p := (j : Int)) hd t ht).2 (hf t ht)⟩) h3
  have h5 : pl d (dg d n i) n = pl d (dg d n j) n := pl_eq h4
  rw [pl_dg hd (by omega) (by omega), pl_dg hd (by omega) (by omega)] at h5
  omega
theorem wdp_ph {d f : Nat → Int} {n : Nat} (hd : ∀ t, t < n → 1 ≤ d t) (hf : ∀ t, t < n → d t ≤ f t) (a : Nat → Int) (c j : Nat) : wdp d f n a c j = sm (fun i => if ph d f n i = j then a i else 0) c := by
  unfold wdp
  refine sm_eq c fun i _ => ?_
  have h1 := ph_cast hd hf i
  by_cases e : ph d f n i = j
  · rw [if_pos e, if_pos (by rw [← h1, e])]
  · rw [if_neg e, if_neg (fun h => e (by omega))]
theorem wdp_step {d f : Nat → Int} {n : Nat} (hd : ∀ t, t < n → 1 ≤ d t) (hf : ∀ t, t < n → d t ≤ f t) (a : Nat → Int) {ka c : Nat} (hk : pd d n = ka) (hc : c < ka) (j : Nat) : wdp d f n a (c + 1) j = if j = ph d f n c then a c else wdp d f n a c j := by
  rw [wdp_ph hd hf, wdp_ph hd hf, sm_succ]
  by_cases e : j = ph d f n c
  · rw [if_pos e.symm, if_pos e, sm_eq (g := fun _ => 0) c (fun i hi => if_neg (fun h => by
      have := ph_inj hd hf hk (by omega) hc (h.trans e)
      omega)), sm_zero, Int.zero_add]
  · rw [if_neg (fun h => e h.symm), if_neg e, Int.add_zero]
/-- sums over places. -/
theorem push {d f : Nat → Int} {n : Nat} (hd : ∀ t, t < n → 1 ≤ d t) (hf : ∀ t, t < n → d t ≤ f t) (a g : Nat → Int) (ka na : Nat) (hn : ∀ i, ph d f n i < na) : sm (fun x => wdp d f n a ka x * g x) na = sm (fun i => a i * g (ph d f n i)) ka := by
  rw [sm_eq (g := fun x => sm (fun i => if ph d f n i = x then a i * g x else 0) ka) na (fun x _ => by
    rw [wdp_ph hd hf, ← sm_mulr]
    refine sm_eq ka fun i _ => ?_
    by_cases e : ph d f n i = x
    · rw [if_pos e, if_pos e]
    · rw [if_neg e, if_neg e, Int.zero_mul]), sm_swap]
  refine sm_eq ka fun i _ => ?_
  exact sm_one (fun x => a i * g x) (ph d f n i) na (hn i)
theorem prd_bxp {d e f : Nat → Int} {n : Nat} (hd : ∀ t, t < n → 1 ≤ d t) (he : ∀ t, t < n → 1 ≤ e t) (hfd : ∀ t, t < n → d t ≤ f t) (hfe : ∀ t, t < n → e t ≤ f t) (a b : Nat → Int) (ka kb na nb j : Nat) (hna : ∀ i, ph d f n i < na) (hnb : ∀ k, ph e f n k < nb) :
    prd (wdp d f n a ka) (wdp e f n b kb) na nb j = bxp d e f n a b ka kb j := by
  unfold prd bxp
  rw [sm_eq (g := fun x => wdp d f n a ka x * sm (fun y => wdp e f n b kb y * (if x + y = j then 1 else 0)) nb) na (fun x _ => by
    rw [← sm_mul]
    refine sm_eq nb fun y _ => ?_
    by_cases q : x + y = j
    · rw [if_pos q, if_pos q, Int.mul_one]
    · rw [if_neg q, if_neg q, Int.mul_zero, Int.mul_zero]), push hd hfd a _ ka na hna]
  refine sm_eq ka fun i _ => ?_
  rw [push he hfe b _ kb nb hnb, ← sm_mul]
  refine sm_eq kb fun k _ => ?_
  have h1 := ph_cast hd hfd i
  have h2 := ph_cast he hfe k
  have h3 := pl_add f (dg d n i) (dg e n k) n
  by_cases q : ph d f n i + ph e f n k = j
  · rw [if_pos q, if_pos (by rw [h3]; omega), Int.mul_one]
  · rw [if_neg q, if_neg (fun h => q (by rw [h3] at h; omega)), Int.mul_zero, Int.mul_zero]
/-- how many coefficients lie behind one of the first v exponents. -/
def sp (d : Nat → Int) : Nat → Nat → Nat
  | _, 0 => 1
  | v, k + 1 => (d v).toNat * sp d (v + 1) k
theorem sp_said {d : Nat → Int} : ∀ (k v : Nat), (∀ t, t < v + k → 1 ≤ d t) → pd d v * (sp d v k : Nat) = pd d (v + k)
  | 0, v, _ => by show pd d v * 1 = pd d v; omega
  | k + 1, v, h => by
    have h1 := sp_said k (v + 1) (fun t ht => h t (by omega))
    have h2 := h v (by omega)
    rw [show v + (k + 1) = v + 1 + k by omega, ← h1]
    show pd d v * (((d v).toNat * sp d (v + 1) k : Nat) : Int) = pd d v * d v * _
    rw [Int.natCast_mul, Int.toNat_of_nonneg (by omega), Int.mul_assoc]
theorem dg_next (d f : Nat → Int) (v : Nat) (p e : Int) (he : 0 ≤ e ∧ e < d v) : pl f (dg d (v + 1) (p * d v + e)) (v + 1) = pl f (dg d v p) v * f v + e := by
  have m1 : (p * d v + e) % d v = e := by rw [Int.add_comm, Int.add_mul_emod_self_right, Int.emod_eq_of_lt he.1 he.2]
  have m2 : (p * d v + e) / d v = p := by rw [Int.add_comm, Int.add_mul_ediv_right _ _ (by omega), Int.ediv_eq_zero_of_lt he.1 he.2, Int.zero_add]
  have e1 : pl f (dg d (v + 1) (p * d v + e)) v = pl f (dg d v p) v := pl_eq fun i hi => by
    show (if i = v then _ else dg d v ((p * d v + e) / d v) i) = _
    rw [if_neg (by omega), m2]
  have e2 : dg d (v + 1) (p * d v + e) v = e := by
    show (if v = v then (p * d v + e) % d v else _) = _
    rw [if_pos rfl, m1]
  show pl f (dg d (v + 1) (p * d v + e)) v * f v + dg d (v + 1) (p * d v + e) v = _
  rw [e1, e2]
end Go.Proofs.YtocfenjampmdlaaGreatDoor
