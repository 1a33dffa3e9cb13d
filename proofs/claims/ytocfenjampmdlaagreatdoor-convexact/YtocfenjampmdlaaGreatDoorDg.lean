/- The three primes of the landed conv, and what newJoiner answers. -/
/- What newJoiner answers, in the landed conv. -/
/- The digits of a number that leaves this by the primes (after Garner), in the landed conv. -/
/- The number that leaves this by the primes, in the landed conv. -/
/- What is put together from what a number leaves by the three primes is the number. -/
import Derived.Test.YtocfenjampmdlaaGreatDoorDb
import Derived.Test.YtocfenjampmdlaaGreatDoorZr
import Derived.Test.YtocfenjampmdlaaGreatDoorTm
import Derived.Test.YtocfenjampmdlaaGreatDoorRgw
namespace Go.Proofs.YtocfenjampmdlaaGreatDoor
open Go.RowKit Num Nmb

/-- the primes. -/
def prm : Nat → Nat
  | 0 => 9223372036836950017
  | 1 => 9223372036818075649
  | _ + 2 => 9223372036797104129
theorem prm_pri {i : Nat} (h : i < 3) : Pri (prm i) := by
  match i, h with
  | 0, _ => exact priP1
  | 1, _ => exact priP2
  | 2, _ => exact priP3
theorem prm_bd {i : Nat} (h : i < 3) : 9223372036797104129 ≤ prm i ∧ prm i ≤ 9223372036836950017 ∧ prm i % 2 = 1 := by
  match i, h with
  | 0, _ => decide
  | 1, _ => decide
  | 2, _ => decide
theorem prm_nz {i j : Nat} (h : i < 3) (hj : j < i) : prm j % prm i ≠ 0 := by
  match i, j, h, hj with
  | 1, 0, _, _ => decide
  | 2, 0, _, _ => decide
  | 2, 1, _, _ => decide
/-- the primes lie. -/
def PriA (w : World) : Prop := ∃ t fr, w.heap[0]? = some (.cells #[.int .u64 (prm 0 : Nat), .int .u64 (prm 1 : Nat), .int .u64 (prm 2 : Nat)] t fr)
theorem PriA.lt {w : World} (h : PriA w) : 0 < w.heap.size := by obtain ⟨t, fr, h⟩ := h; exact (Array.getElem?_eq_some_iff.1 h).1
theorem PriA.below {B : Nat} {w w' : World} (h : PriA w) (hb : Below B w w') (hB : 0 < B) : PriA w' := by
  obtain ⟨t, fr, h⟩ := h
  exact ⟨t, fr, by rw [hb.block _ hB]; exact h⟩
theorem PriA.cell {w : World} (h : PriA w) {i : Nat} (hi : i < 3) : w.cell? ⟨0, i, none⟩ = some (.int .u64 (prm i : Nat)) := by
  obtain ⟨t, fr, h⟩ := h
  match i, hi with
  | 0, _ => simp only [World.cell?, h]; rfl
  | 1, _ => simp only [World.cell?, h]; rfl
  | 2, _ => simp only [World.cell?, h]; rfl
theorem index_a3 (X : Nat → Int) {i : Nat} (hi : i < 3) (w : World) : (Instr.index 60 (.agg #[.int .u64 (X 0), .int .u64 (X 1), .int .u64 (X 2)]) (.int .i64 (i : Int))).run Tryz.prog w = .ok (.int .u64 (X i)) w := by
  match i, hi with
  | 0, _ => simp [Instr.index, run_underlying Tryz.underlying60, asIntOf, part, go_sem]
  | 1, _ => simp [Instr.index, run_underlying Tryz.underlying60, asIntOf, part, go_sem]
  | 2, _ => simp [Instr.index, run_underlying Tryz.underlying60, asIntOf, part, go_sem]
/-- block g holds the n values C. -/
def Rv (w : World) (g : Nat) (t : TypeId) (n : Nat) (C : Nat → Value) : Prop := ∃ cur : Array Value, w.heap[g]? = some (.cells cur t (0, 0)) ∧ cur.size = n ∧ ∀ j, j < n → cur[j]? = some (C j)
theorem Rv.lt {w : World} {g n : Nat} {t : TypeId} {C : Nat → Value} (h : Rv w g t n C) : g < w.heap.size := by obtain ⟨cur, hg, _⟩ := h; exact (Array.getElem?_eq_some_iff.1 hg).1
theorem Rv.cell {w : World} {g n : Nat} {t : TypeId} {C : Nat → Value} (h : Rv w g t n C) {i : Nat} (hi : i < n) : w.cell? ⟨g, i, none⟩ = some (C i) := by
  obtain ⟨cur, hg, _, hc⟩ := h
  simp [World.cell?, hg, hc i hi]
theorem Rv.frozen {w : World} {g n : Nat} {t : TypeId} {C : Nat → Value} (h : Rv w g t n C) (i : Nat) : w.frozen? ⟨g, i, none⟩ = false := by
  obtain ⟨cur, hg, _, hc⟩ := h
  simp [World.frozen?, hg]
theorem Rv.drew {w : World} {g n : Nat} {t : TypeId} {C : Nat → Value} (h : Rv w g t n C) (k : Nat) : Rv (w.drewN k) g t n C := by
  obtain ⟨cur, hg, hs, hc⟩ := h
  exact ⟨cur, by simpa using hg, hs, hc⟩
theorem Rv.below {B : Nat} {w w' : World} {g n : Nat} {t : TypeId} {C : Nat → Value} (h : Rv w g t n C) (hb : Below B w w') (hg : g < B) : Rv w' g t n C := by
  obtain ⟨cur, h1, h2, h3⟩ := h
  exact ⟨cur, by rw [hb.block g hg]; exact h1, h2, h3⟩
theorem Rv.other {w : World} {g n b : Nat} {t : TypeId} {C : Nat → Value} (h : Rv w g t n C) (hg : g ≠ b) (i : Nat) (v : Value) : Rv (w.setCell ⟨b, i, none⟩ v) g t n C := by
  obtain ⟨cur, h1, h2, h3⟩ := h
  exact ⟨cur, by rw [heap_setCell_other w ⟨b, i, none⟩ g v hg]; exact h1, h2, h3⟩
theorem Rv.set {w : World} {g n : Nat} {t : TypeId} {C D : Nat → Value} (h : Rv w g t n C) (i : Nat) (v : Value) (e : ∀ j, j < n → D j = if j = i then v else C j) : Rv (w.setCell ⟨g, i, none⟩ v) g t n D := by
  obtain ⟨cur, hg, hs, hc⟩ := h
  refine ⟨cur.setIfInBounds i v, ?_, by simpa using hs, fun j hj => ?_⟩
  · rw [heap_setCell_same w g i cur t _ hg]
  · rw [e j hj]
    by_cases e : j = i
    · subst e; rw [Array.getElem?_setIfInBounds]; simp [hs, hj]
    · rw [Array.getElem?_setIfInBounds]; simp [Ne.symm e, e, hc j hj]
theorem Rv.eq {w : World} {g n : Nat} {t : TypeId} {C D : Nat → Value} (h : Rv w g t n C) (e : ∀ j, j < n → C j = D j) : Rv w g t n D := by
  obtain ⟨cur, hg, hs, hc⟩ := h
  exact ⟨cur, hg, hs, fun j hj => by rw [← e j hj]; exact hc j hj⟩
theorem Rv.new (w : World) (t : TypeId) (cs : Array Value) (n : Nat) (C : Nat → Value) (hn : cs.size = n) (h : ∀ j, j < n → cs[j]? = some (C j)) : Rv (w.alloc (.cells cs t)) w.heap.size t n C := ⟨cs, heap_alloc_new w _, hn, h⟩
end Go.Proofs.YtocfenjampmdlaaGreatDoor
namespace Go.Proofs.YtocfenjampmdlaaGreatDoor
open Go.RowKit Num Nmb

/-- the form of the inverse of the prime at j modulo that at i. -/
def fv (i j : Nat) : Int := (ivp (prm i) (prm j) : Nat) * 18446744073709551616 % (prm i : Nat)
/-- the cells of a joiner, k of whose fields are made. -/
def jc (F : Nat → Nat) (k : Nat) (I : Nat → Int) (j : Nat) : Value := if j < 3 then (if j < k then .pointer (some ⟨F j, 0, none⟩) else .pointer none) else .int .u64 (I (j - 3))
/-- k fields are made. -/
def JF (w : World) (k : Nat) (F : Nat → Nat) : Prop := ∀ t, t < k → ∃ f s, Fld w (F t) (prm t : Nat) f s ∧ Ok (prm t : Nat) f s
theorem JF.below {w w' : World} {k : Nat} {F : Nat → Nat} (h : JF w k F) (hb : Below w.heap.size w w') : JF w' k F := fun t ht => by
  obtain ⟨f, s, h1, h2⟩ := h t ht
  exact ⟨f, s, h1.below hb h1.lt, h2⟩
theorem JF.drew {w : World} {k : Nat} {F : Nat → Nat} (h : JF w k F) (n : Nat) : JF (w.drewN n) k F := fun t ht => by
  obtain ⟨f, s, h1, h2⟩ := h t ht
  exact ⟨f, s, h1.drew n, h2⟩
/-- a block of n cells that is no field's. -/
theorem Fld.rv {w : World} {g b n : Nat} {m f s : Int} {t : TypeId} {C : Nat → Value} (h : Fld w g m f s) (r : Rv w b t n C) (hn : n ≠ 3) : g ≠ b := by
  rintro rfl
  obtain ⟨cur, h1, h2, _⟩ := r
  unfold Fld at h
  rw [h] at h1
  injection h1 with h1
  injection h1 with h1
  rw [← h1] at h2
  exact hn h2.symm
theorem JF.set {w : World} {k b n : Nat} {F : Nat → Nat} {t : TypeId} {C : Nat → Value} (h : JF w k F) (r : Rv w b t n C) (hn : n ≠ 3) (i : Nat) (v : Value) : JF (w.setCell ⟨b, i, none⟩ v) k F := fun j hj => by
  obtain ⟨f, s, h1, h2⟩ := h j hj
  exact ⟨f, s, h1.other (h1.rv r hn) i v, h2⟩
def jz : Array Value := #[.pointer none, .pointer none, .pointer none, .int .u64 0, .int .u64 0, .int .u64 0, .int .u64 0, .int .u64 0, .int .u64 0, .int .u64 0, .int .u64 0, .int .u64 0]
theorem jz_new (w : World) (F : Nat → Nat) : Rv (w.alloc (.cells jz 83)) w.heap.size 83 12 (jc F 0 (fun _ => 0)) := Rv.new w _ _ _ _ rfl fun j hj => by
  match j, hj with
  | 0, _ => rfl
  | 1, _ => rfl
  | 2, _ => rfl
  | 3, _ => rfl
  | 4, _ => rfl
  | 5, _ => rfl
  | 6, _ => rfl
  | 7, _ => rfl
  | 8, _ => rfl
  | 9, _ => rfl
  | 10, _ => rfl
  | 11, _ => rfl
/-- values laid one by one into a block. -/
def setAll (g : Nat) : List Value → Nat → World → World
  | [], _, w => w
  | v :: l, i, w => setAll g l (i + 1) (w.setCell ⟨g, i, none⟩ v)
theorem setAll_only (g : Nat) : ∀ (l : List Value) (i : Nat) (w : World), OnlyB g w (setAll g l i w)
  | [], _, w => OnlyB.refl g w
  | v :: l, i, w => ((OnlyB.refl g w).set i v).trans (setAll_only g l (i + 1) _)
theorem setAll_rv {g n : Nat} {t : TypeId} : ∀ (l : List Value) (i : Nat) (w : World) (C : Nat → Value), Rv w g t n C → Rv (setAll g l i w) g t n (fun j => if i ≤ j ∧ j < i + l.length then l.getD (j - i) undef else C j)
  | [], i, w, C, h => h.eq fun j _ => by rw [if_neg (fun h => by have := h.2; simp at this; omega)]
  | v :: l, i, w, C, h => by
    have := setAll_rv l (i + 1) _ _ (h.set (D := fun j => if j = i then v else C j) i v (fun _ _ => rfl))
    refine this.eq fun j _ => ?_
    by_cases e : j = i
    · subst e
      rw [if_neg (by omega), if_pos rfl, if_pos (by simp)]
      rw [Nat.sub_self]
      rfl
    · by_cases e2 : i + 1 ≤ j ∧ j < i + 1 + l.length
      · rw [if_pos e2, if_pos (by simp only [List.length_cons]; omega)]
        obtain ⟨k, hk⟩ : ∃ k, j = i + 1 + k := ⟨j - (i + 1), by omega⟩
        subst hk
        rw [show i + 1 + k - (i + 1) = k by omega, show i + 1 + k - i = k + 1 by omega]
        rfl
      · rw [if_neg e2, if_neg e, if_neg (by simp only [List.length_cons]; omega)]
theorem JF.only {w w' : World} {k b : Nat} {F : Nat → Nat} (h : JF w k F) (o : OnlyB b w w') (hb : ∀ t, t < k → F t ≠ b) : JF w' k F := fun j hj => by
  obtain ⟨f, s, h1, h2⟩ := h j hj
  exact ⟨f, s, h1.only o (hb j hj), h2⟩
theorem JF.ne {w : World} {k b n : Nat} {F : Nat → Nat} {t : TypeId} {C : Nat → Value} (h : JF w k F) (r : Rv w b t n C) (hn : n ≠ 3) : ∀ j, j < k → F j ≠ b := fun j hj => by
  obtain ⟨f, s, h1, h2⟩ := h j hj
  exact h1.rv r hn
/-- what a joiner is, as a value. -/
def jv (F : Nat → Nat) (I : Nat → Int) : List Value := [.pointer (some ⟨F 0, 0, none⟩), .pointer (some ⟨F 1, 0, none⟩), .pointer (some ⟨F 2, 0, none⟩), .int .u64 (I 0), .int .u64 (I 1), .int .u64 (I 2), .int .u64 (I 3), .int .u64 (I 4), .int .u64 (I 5), .int .u64 (I 6), .int .u64 (I 7), .int .u64 (I 8)]
theorem jv_at (F : Nat → Nat) (I : Nat → Int) : ∀ j, j < 12 → (jv F I).getD j undef = jc F 3 I j := fun j hj => by
  match j, hj with
  | 0, _ => rfl
  | 1, _ => rfl
  | 2, _ => rfl
  | 3, _ => rfl
  | 4, _ => rfl
  | 5, _ => rfl
  | 6, _ => rfl
  | 7, _ => rfl
  | 8, _ => rfl
  | 9, _ => rfl
  | 10, _ => rfl
  | 11, _ => rfl
theorem jv_stored {w : World} {g : Nat} {t : TypeId} {C : Nat → Value} (h : Rv w g t 12 C) (F : Nat → Nat) (I : Nat → Int) : Rv (setAll g (jv F I) 0 w) g t 12 (jc F 3 I) :=
  (setAll_rv (jv F I) 0 w C h).eq fun j hj => by
    rw [if_pos ⟨Nat.zero_le _, by show j < 0 + 12; omega⟩]
    exact jv_at F I j hj
theorem jc_cells {w : World} {g : Nat} {t : TypeId} {F : Nat → Nat} {I : Nat → Int} (h : Rv w g t 12 (jc F 3 I)) :
    w.cell? ⟨g, 0, none⟩ = some (.pointer (some ⟨F 0, 0, none⟩)) ∧ w.cell? ⟨g, 1, none⟩ = some (.pointer (some ⟨F 1, 0, none⟩)) ∧ w.cell? ⟨g, 2, none⟩ = some (.pointer (some ⟨F 2, 0, none⟩)) ∧
    w.cell? ⟨g, 3, none⟩ = some (.int .u64 (I 0)) ∧ w.cell? ⟨g, 4, none⟩ = some (.int .u64 (I 1)) ∧ w.cell? ⟨g, 5, none⟩ = some (.int .u64 (I 2)) ∧ w.cell? ⟨g, 6, none⟩ = some (.int .u64 (I 3)) ∧ w.cell? ⟨g, 7, none⟩ = some (.int .u64 (I 4)) ∧ w.cell? ⟨g, 8, none⟩ = some (.int .u64 (I 5)) ∧ w.cell? ⟨g, 9, none⟩ = some (.int .u64 (I 6)) ∧ w.cell? ⟨g, 10, none⟩ = some (.int .u64 (I 7)) ∧ w.cell? ⟨g, 11, none⟩ = some (.int .u64 (I 8)) :=
  ⟨h.cell (i := 0) (by omega), h.cell (i := 1) (by omega), h.cell (i := 2) (by omega), h.cell (i := 3) (by omega), h.cell (i := 4) (by omega), h.cell (i := 5) (by omega), h.cell (i := 6) (by omega), h.cell (i := 7) (by omega), h.cell (i := 8) (by omega), h.cell (i := 9) (by omega), h.cell (i := 10) (by omega), h.cell (i := 11) (by omega)⟩
theorem ret_jn {fn : Func} {tmps : Array Value} {w : World} {t : Tmp} {g : Nat} {F : Nat → Nat} {I : Nat → Int} (h3 : Rv w g 83 12 (jc F 3 I)) (h : fn.results = #[.cell t 83]) (ht : tmps[t]?.getD undef = .pointer (some ⟨g, 0, none⟩)) :
    (results fn tmps).run Tryz.prog w = .ok (.agg #[.pointer (some ⟨F 0, 0, none⟩), .pointer (some ⟨F 1, 0, none⟩), .pointer (some ⟨F 2, 0, none⟩), .int .u64 (I 0), .int .u64 (I 1), .int .u64 (I 2), .int .u64 (I 3), .int .u64 (I 4), .int .u64 (I 5), .int .u64 (I 6), .int .u64 (I 7), .int .u64 (I 8)]) w := by
  obtain ⟨c0, c1, c2, c3, c4, c5, c6, c7, c8, c9, c10, c11⟩ := jc_cells h3
  simp [results, h, go_sem, ht, c0, c1, c2, c3, c4, c5, c6, c7, c8, c9, c10, c11]
set_option maxHeartbeats 1600000 in
theorem newJoiner_any (w : World) (L : PriA w) :
    Calls Tryz.prog 47 #[] w fun e w' => (∃ (F : Nat → Nat) (I : Nat → Int), e = .returned (.agg #[.pointer (some ⟨F 0, 0, none⟩), .pointer (some ⟨F 1, 0, none⟩), .pointer (some ⟨F 2, 0, none⟩), .int .u64 (I 0), .int .u64 (I 1), .int .u64 (I 2), .int .u64 (I 3), .int .u64 (I 4), .int .u64 (I 5), .int .u64 (I 6), .int .u64 (I 7), .int .u64 (I 8)]) ∧ JF w' 3 F ∧ ∀ i j, j < i → i < 3 → I (3 * i + j) = fv i j) ∧ Below w.heap.size w w' := by
  have l0 := L.lt
  have Ba : Below w.heap.size w ((w.alloc (.cells jz 83)).alloc (.cells jz 83)) := (below_new' w _).trans ((below_new' _ _).mono (by simp))
  have BA := hid Ba
  have La := L.below Ba l0
  have LA := hid La
  have R0 := hid (fun F => (jz_new w F).below (below_new' _ (.cells jz 83)) (by simp))
  have R1 : Hid (∀ F, Rv ((w.alloc (.cells jz 83)).alloc (.cells jz 83)) (w.heap.size + 1) 83 12 (jc F 0 (fun _ => 0))) := fun F => by
    have := jz_new (w.alloc (.cells jz 83)) F
    simpa using this
  have c0 := La.cell (i := 0) (by omega)
  have c1 := La.cell (i := 1) (by omega)
  have c2 := La.cell (i := 2) (by omega)
  have IX : Hid (∀ i : Nat, i < 3 → ∀ W : World, (Instr.index 60 (.agg #[.int .u64 (prm 0 : Nat), .int .u64 (prm 1 : Nat), .int .u64 (prm 2 : Nat)]) (.int .i64 (i : Int))).run Tryz.prog W = .ok (.int .u64 (prm i : Nat)) W) := fun i hi W => index_a3 (fun i => (prm i : Nat)) hi W
  clear Ba La L
  unfold jz at *
  go_enter Tryz.func47, Tryz.ntmps47
  go_wp2
  clear c0 c1 c2
  go_loopw [10] (fun iv wr => ∃ (i : Nat) (F : Nat → Nat) (I : Nat → Int), iv = .int .i64 i ∧ i ≤ 3 ∧ Hid (Rv wr (w.heap.size + 1) 83 12 (jc F i I)) ∧ Hid (JF wr i F) ∧ Hid (∀ a b, b < a → a < i → I (3 * a + b) = fv a b) ∧ Hid (PriA wr) ∧ Hid (Rv wr w.heap.size 83 12 (jc F 0 (fun _ => 0))) ∧ Hid (Below w.heap.size w wr)) (fun iv _ => (3 - intOf iv).toNat)
  case atStart => exact ⟨0, fun _ => 0, fun _ => 0, rfl, by omega, R1.out _, fun t ht => absurd ht (by omega), fun a b _ h => absurd h (by omega), LA.out, R0.out _, BA.out⟩
  case round =>
    obtain ⟨i, F, I, rfl, hi, RJ, HF, HI, LR, RZ, HB⟩ := hrel
    by_cases i3 : i = 3
    · subst i3
      obtain ⟨c0, c1, c2, c3, c4, c5, c6, c7, c8, c9, c10, c11⟩ := jc_cells RJ.out
      have f0 := RZ.out.frozen 0
      have f1 := RZ.out.frozen 1
      have f2 := RZ.out.frozen 2
      have f3 := RZ.out.frozen 3
      have f4 := RZ.out.frozen 4
      have f5 := RZ.out.frozen 5
      have f6 := RZ.out.frozen 6
      have f7 := RZ.out.frozen 7
      have f8 := RZ.out.frozen 8
      have f9 := RZ.out.frozen 9
      have f10 := RZ.out.frozen 10
      have f11 := RZ.out.frozen 11
      have d0 := RZ.out.cell (i := 0) (by omega)
      have d1 := RZ.out.cell (i := 1) (by omega)
      have d2 := RZ.out.cell (i := 2) (by omega)
      have d3 := RZ.out.cell (i := 3) (by omega)
      have d4 := RZ.out.cell (i := 4) (by omega)
      have d5 := RZ.out.cell (i := 5) (by omega)
      have d6 := RZ.out.cell (i := 6) (by omega)
      have d7 := RZ.out.cell (i := 7) (by omega)
      have d8 := RZ.out.cell (i := 8) (by omega)
      have d9 := RZ.out.cell (i := 9) (by omega)
      have d10 := RZ.out.cell (i := 10) (by omega)
      have d11 := RZ.out.cell (i := 11) (by omega)
      have O := setAll_only w.heap.size (jv F I) 0 wr
      have S := hid (jv_stored RZ.out F I)
      have JJ := hid (HF.out.only O (HF.out.ne RZ.out (by decide)))
      have B2 := hid (HB.out.trans O.below)
      clear O RJ HF LR RZ HB IX R0 R1 LA BA
      go_wp2
      refine bodyPost_ret (ret_jn S.out rfl rfl) rfl ?_
      exact ⟨⟨F, I, rfl, JJ.out, fun a b h1 h2 => HI.out a b h1 h2⟩, B2.out⟩
    · have hi' : i < 3 := by omega
      have hil : (i : Int) < 3 := by omega
      have ix := IX.out i hi'
      have bd := prm_bd hi'
      have PB := hid bd
      have NW := hid (new_any (prm i : Nat) wr (by omega) (by omega))
      have glt : w.heap.size + 1 < wr.heap.size := RJ.out.lt
      have K : Hid (∀ w2 f s, Below wr.heap.size wr w2 → Fld w2 wr.heap.size (prm i : Nat) f s → Ok (prm i : Nat) f s → ∃ F', F' i = wr.heap.size ∧ Rv (w2.setCell ⟨w.heap.size + 1, i, none⟩ (.pointer (some ⟨wr.heap.size, 0, none⟩))) (w.heap.size + 1) 83 12 (jc F' (i + 1) I) ∧ JF (w2.setCell ⟨w.heap.size + 1, i, none⟩ (.pointer (some ⟨wr.heap.size, 0, none⟩))) (i + 1) F' ∧ PriA (w2.setCell ⟨w.heap.size + 1, i, none⟩ (.pointer (some ⟨wr.heap.size, 0, none⟩))) ∧ Rv (w2.setCell ⟨w.heap.size + 1, i, none⟩ (.pointer (some ⟨wr.heap.size, 0, none⟩))) w.heap.size 83 12 (jc F' 0 (fun _ => 0)) ∧ Below w.heap.size w (w2.setCell ⟨w.heap.size + 1, i, none⟩ (.pointer (some ⟨wr.heap.size, 0, none⟩))) ∧ w2.frozen? ⟨w.heap.size + 1, i, none⟩ = false ∧ ∃ v, w2.cell? ⟨w.heap.size + 1, i, none⟩ = some v) := by
        intro w2 f s B2 F2 O2
        have r2 := RJ.out.below B2 glt
        have j2 := HF.out.below B2
        have Bs : Below w.heap.size w (w2.setCell ⟨w.heap.size + 1, i, none⟩ (.pointer (some ⟨wr.heap.size, 0, none⟩))) := below_set (HB.out.trans (B2.mono (by omega))) (by omega) _ _
        refine ⟨fun t => if t = i then wr.heap.size else F t, if_pos rfl, r2.set i _ (fun j hj => ?_), fun t ht => ?_, ?_, ((RZ.out.below B2 (by omega)).other (by omega) _ _).eq (fun j hj => ?_), Bs, r2.frozen i, _, r2.cell (by omega)⟩
        · unfold jc
          by_cases e : j = i
          · rw [if_pos e, if_pos (by omega), if_pos (by omega)]
            show Value.pointer (some ⟨if j = i then wr.heap.size else F j, 0, none⟩) = _
            rw [if_pos e]
          · rw [if_neg e]
            show (if j < 3 then (if j < i + 1 then Value.pointer (some ⟨if j = i then wr.heap.size else F j, 0, none⟩) else _) else _) = _
            rw [if_neg e]
            by_cases e2 : j < 3
            · rw [if_pos e2, if_pos e2]
              by_cases e3 : j < i
              · rw [if_pos (by omega), if_pos e3]
              · rw [if_neg (by omega), if_neg e3]
            · rw [if_neg e2, if_neg e2]
        · dsimp only
          by_cases e : t = i
          · subst e
            rw [if_pos rfl]
            exact ⟨f, s, F2.other (F2.rv r2 (by decide)) _ _, O2⟩
          · rw [if_neg e]
            exact j2.set r2 (by decide) _ _ t (by omega)
        · exact (LR.out.below B2 (by omega)).below ((Below.refl (w.heap.size + 1) w2) |> fun h => below_set h (Nat.le_refl _) _ _) (by omega)
        · unfold jc
          by_cases e2 : j < 3
          · rw [if_pos e2, if_pos e2, if_neg (by omega), if_neg (by omega)]
          · rw [if_neg e2, if_neg e2]
      clear RJ HF LR RZ HB IX R0 R1 LA BA bd
      go_wp2_with fail
      refine NW.out.mono ?_
      rintro e w2 ⟨rfl, B2, f, s, F2, O2⟩
      obtain ⟨F', e', r3, j3, l3, z3, b3, fz, v, cz⟩ := K.out w2 f s B2 F2 O2
      have R3 := hid r3
      have J3 := hid j3
      have L3 := hid l3
      have Z3 := hid z3
      have B3 := hid b3
      clear r3 j3 l3 z3 b3 K NW B2 F2 O2
      rw [← e'] at *
      generalize wr.heap.size = gf at *
      go_wp2
      clear fz cz
      go_loopw [24] (fun jv wq => ∃ (j : Nat) (I' : Nat → Int), jv = .int .i64 j ∧ j ≤ i ∧ Hid (Rv wq (w.heap.size + 1) 83 12 (jc F' (i + 1) I')) ∧ Hid (JF wq (i + 1) F') ∧ Hid (∀ a b, b < a → a < i → I' (3 * a + b) = fv a b) ∧ Hid (∀ b, b < j → I' (3 * i + b) = fv i b) ∧ Hid (PriA wq) ∧ Hid (Rv wq w.heap.size 83 12 (jc F' 0 (fun _ => 0))) ∧ Hid (Below w.heap.size w wq)) (fun jv _ => ((i : Int) - intOf jv).toNat)
      case atStart => exact ⟨0, I, rfl, Nat.zero_le _, R3, J3, HI, fun b hb => absurd hb (by omega), L3, Z3, B3⟩
      case round =>
        clear R3 J3 HI L3 Z3 B3
        obtain ⟨j, I', rfl, hj, R3, J3, HI, HJ, L3, Z3, B3⟩ := hrel
        by_cases hji : j = i
        · have hji' : ¬ (j : Int) < (i : Int) := by omega
          have HI2 : Hid (∀ a b, b < a → a < i + 1 → I' (3 * a + b) = fv a b) := fun a b h1 h2 => by
            by_cases e : a = i
            · subst e; exact HJ.out b (by omega)
            · exact HI.out a b h1 (by omega)
          clear HJ HI
          go_wp2
          exact ⟨⟨i + 1, F', I', rfl, by omega, R3, J3, HI2, L3, Z3, B3⟩, by simp only [intOf]; omega⟩
        · have hji' : (j : Int) < (i : Int) := by omega
          have hjl : (j : Int) < 3 := by omega
          obtain ⟨f, s, FJ, OJ⟩ := J3.out i (by omega)
          have cp := L3.out.cell (i := j) (by omega)
          have INV := hid (inv_pri (F' i) (prm i) (prm j) f s wr FJ OJ (prm_pri hi') (prm_nz hi' (by omega)))
          have INF := hid (fun q => in_form (F' i) (prm i : Nat) f s (ivp (prm i) (prm j) : Nat) (wr.drewN q) (FJ.drew q) OJ (by omega) (by have := PB.out; omega))
          have cl := R3.out.cell (i := 3 + i * 3 + j) (by omega)
          have fl := R3.out.frozen (3 + i * 3 + j)
          have NX : Hid (∀ q, Rv ((wr.drewN q).setCell ⟨w.heap.size + 1, 3 + i * 3 + j, none⟩ (.int .u64 (fv i j))) (w.heap.size + 1) 83 12 (jc F' (i + 1) (fun t => if t = 3 * i + j then fv i j else I' t)) ∧ JF ((wr.drewN q).setCell ⟨w.heap.size + 1, 3 + i * 3 + j, none⟩ (.int .u64 (fv i j))) (i + 1) F' ∧ PriA ((wr.drewN q).setCell ⟨w.heap.size + 1, 3 + i * 3 + j, none⟩ (.int .u64 (fv i j))) ∧ Rv ((wr.drewN q).setCell ⟨w.heap.size + 1, 3 + i * 3 + j, none⟩ (.int .u64 (fv i j))) w.heap.size 83 12 (jc F' 0 (fun _ => 0)) ∧ Below w.heap.size w ((wr.drewN q).setCell ⟨w.heap.size + 1, 3 + i * 3 + j, none⟩ (.int .u64 (fv i j)))) := fun q => by
            have r := R3.out.drew q
            have Bq := below_drewN B3.out q
            refine ⟨r.set _ _ (fun t ht => ?_), (J3.out.drew q).set r (by decide) _ _, (L3.out.below (below_drewN (Below.refl wr.heap.size wr) q) L3.out.lt).below (below_set (Below.refl (w.heap.size + 1) _) (Nat.le_refl _) _ _) (by omega), (Z3.out.drew q).other (by omega) _ _, below_set Bq (by omega) _ _⟩
            unfold jc
            dsimp only
            by_cases e : t = 3 + i * 3 + j
            · rw [if_pos e, if_neg (by omega), if_pos (by omega)]
            · rw [if_neg e]
              by_cases e2 : t < 3
              · rw [if_pos e2, if_pos e2]
              · rw [if_neg e2, if_neg e2, if_neg (by omega)]
          have HI2 : Hid (∀ a b, b < a → a < i → (fun t => if t = 3 * i + j then fv i j else I' t) (3 * a + b) = fv a b) := fun a b h1 h2 => by
            show (if 3 * a + b = 3 * i + j then fv i j else I' (3 * a + b)) = _
            rw [if_neg (by omega)]
            exact HI.out a b h1 h2
          have HJ2 : Hid (∀ b, b < j + 1 → (fun t => if t = 3 * i + j then fv i j else I' t) (3 * i + b) = fv i b) := fun b h1 => by
            show (if 3 * i + b = 3 * i + j then fv i j else I' (3 * i + b)) = _
            by_cases e : b = j
            · rw [e, if_pos rfl]
            · rw [if_neg (by omega)]
              exact HJ.out b (by omega)
          clear FJ OJ R3 J3 HI HJ L3 Z3 B3 PB
          have FV : Hid ((ivp (prm i) (prm j) : Nat) * 18446744073709551616 % (prm i : Nat) = fv i j) := rfl
          rw [FV.out] at INF
          clear FV
          generalize ivp (prm i) (prm j) = iv at *
          go_wp2_with fail
          refine INV.out.mono ?_
          rintro e w3 ⟨rfl, hw⟩
          obtain rfl := hw.symm
          clear INV cp
          go_wp2_with fail
          refine wp_region_last1 7 rfl rfl rfl (by kernel_rfl) (fun _ _ _ _ h => h) (by kernel_rfl) (by kernel_rfl) (by kernel_rfl) (by kernel_rfl) (by kernel_rfl) (by decide) ?_
          simp only [stillLast, still, lastOf]
          repeat (quiet_step ((go_at_call 71; exact Calls.quiet_of (INF.out _))))
          refine wpQuiet_nil ?_
          intro _ hw'
          obtain ⟨nq, hw''⟩ := hw'
          subst hw''
          have N2 := hid (NX.out nq)
          have fl2 : (wr.drewN nq).frozen? ⟨w.heap.size + 1, 3 + i * 3 + j, none⟩ = false := by simpa using fl
          have cl2 : (wr.drewN nq).cell? ⟨w.heap.size + 1, 3 + i * 3 + j, none⟩ = some (jc F' (i + 1) I' (3 + i * 3 + j)) := by simpa using cl
          clear INF fl cl NX
          generalize wr.drewN nq = w8 at *
          go_wp2
          exact ⟨⟨j + 1, _, rfl, by omega, N2.out.1, N2.out.2.1, HI2, HJ2, N2.out.2.2.1, N2.out.2.2.2.1, N2.out.2.2.2.2⟩, by simp only [intOf]; omega⟩
end Go.Proofs.YtocfenjampmdlaaGreatDoor
namespace Go.Proofs.YtocfenjampmdlaaGreatDoor
open Go.RowKit Num Nmb

/-- one step. -/
def gst (X : Nat → Int) (i j k : Nat) : Int := if k = i then (X i - X j) % (prm i : Nat) * (ivp (prm i) (prm j) : Nat) % (prm i : Nat) else X k
def gin (X : Nat → Int) (i : Nat) : Nat → Nat → Int
  | 0 => X
  | j + 1 => gst (gin X i j) i j
def gou (X : Nat → Int) : Nat → Nat → Int
  | 0 => X
  | i + 1 => gin (gou X i) i i
theorem gst_nn {X : Nat → Int} {i j : Nat} (hi : i < 3) (h : ∀ k, k < 3 → 0 ≤ X k) : ∀ k, k < 3 → 0 ≤ gst X i j k := fun k hk => by
  have := prm_bd hi
  unfold gst
  by_cases e : k = i
  · rw [if_pos e]; exact Int.emod_nonneg _ (by omega)
  · rw [if_neg e]; exact h k hk
theorem gin_nn {X : Nat → Int} {i : Nat} (hi : i < 3) (h : ∀ k, k < 3 → 0 ≤ X k) : ∀ j k, k < 3 → 0 ≤ gin X i j k
  | 0, k, hk => h k hk
  | j + 1, k, hk => gst_nn hi (gin_nn hi h j) k hk
theorem gou_nn {X : Nat → Int} (h : ∀ k, k < 3 → 0 ≤ X k) : ∀ i, i ≤ 3 → ∀ k, k < 3 → 0 ≤ gou X i k
  | 0, _, k, hk => h k hk
  | i + 1, hi, k, hk => gin_nn (by omega) (gou_nn h i (by omega)) i k hk
theorem index_p3 (F : Nat → Nat) {i : Nat} (hi : i < 3) (w : World) : (Instr.index 80 (.agg #[.pointer (some ⟨F 0, 0, none⟩), .pointer (some ⟨F 1, 0, none⟩), .pointer (some ⟨F 2, 0, none⟩)]) (.int .i64 (i : Int))).run Tryz.prog w = .ok (.pointer (some ⟨F i, 0, none⟩)) w := by
  match i, hi with
  | 0, _ => simp [Instr.index, run_underlying Tryz.underlying80, asIntOf, part, go_sem]
  | 1, _ => simp [Instr.index, run_underlying Tryz.underlying80, asIntOf, part, go_sem]
  | 2, _ => simp [Instr.index, run_underlying Tryz.underlying80, asIntOf, part, go_sem]
theorem ret_a3 {fn : Func} {tmps : Array Value} {w : World} {t : Tmp} {g : Nat} {X : Nat → Int} (h3 : W3 w g 60 X) (h : fn.results = #[.cell t 60]) (ht : tmps[t]?.getD undef = .pointer (some ⟨g, 0, none⟩)) :
    (results fn tmps).run Tryz.prog w = .ok (.agg #[.int .u64 (X 0), .int .u64 (X 1), .int .u64 (X 2)]) w := by
  have c0 := h3.cell (i := 0) (by omega)
  have c1 := h3.cell (i := 1) (by omega)
  have c2 := h3.cell (i := 2) (by omega)
  simp [results, h, go_sem, ht, c0, c1, c2]
set_option maxHeartbeats 1600000 in
theorem digits_any (gj : Nat) (F : Nat → Nat) (I X : Nat → Int) (w : World) (R : Rv w gj 83 12 (jc F 3 I)) (J : JF w 3 F) (HI : ∀ i j, j < i → i < 3 → I (3 * i + j) = fv i j) (hX : ∀ k, k < 3 → 0 ≤ X k) :
    Calls Tryz.prog 72 #[.pointer (some ⟨gj, 0, none⟩), .agg #[.int .u64 (X 0), .int .u64 (X 1), .int .u64 (X 2)]] w fun e w' => e = .returned (.agg #[.int .u64 (gou X 3 0), .int .u64 (gou X 3 1), .int .u64 (gou X 3 2)]) ∧ Below w.heap.size w w' := by
  have RR := hid R
  have JJ := hid J
  have II := hid HI
  have NN := hid (gou_nn hX)
  have gl := R.lt
  have Ba : Below w.heap.size w ((w.alloc (.cells #[.int .u64 (X 0), .int .u64 (X 1), .int .u64 (X 2)] 60)).alloc (.cells #[.int .u64 0, .int .u64 0, .int .u64 0] 60)) := (below_new' w _).trans ((below_new' _ _).mono (by simp))
  have BA := hid Ba
  have N0 := hid ((W3.new w 60 X).below (below_new' _ (.cells #[.int .u64 0, .int .u64 0, .int .u64 0] 60)) (by simp))
  have N1 : Hid (W3 ((w.alloc (.cells #[.int .u64 (X 0), .int .u64 (X 1), .int .u64 (X 2)] 60)).alloc (.cells #[.int .u64 0, .int .u64 0, .int .u64 0] 60)) (w.heap.size + 1) 60 (fun _ => 0)) := by
    have := W3.new (w.alloc (.cells #[.int .u64 (X 0), .int .u64 (X 1), .int .u64 (X 2)] 60)) 60 (fun _ => 0)
    show W3 _ _ _ _
    simpa using this
  have Ra := R.below Ba gl
  obtain ⟨c0, c1, c2, -⟩ := jc_cells Ra
  have IX : Hid (∀ i : Nat, i < 3 → ∀ W : World, (Instr.index 80 (.agg #[.pointer (some ⟨F 0, 0, none⟩), .pointer (some ⟨F 1, 0, none⟩), .pointer (some ⟨F 2, 0, none⟩)]) (.int .i64 (i : Int))).run Tryz.prog W = .ok (.pointer (some ⟨F i, 0, none⟩)) W) := fun i hi W => index_p3 F hi W
  clear Ba Ra R J HI hX
  go_enter Tryz.func72, Tryz.ntmps72
  go_wp2
  clear c0 c1 c2
  go_loopw [12] (fun iv wr => ∃ (i : Nat), iv = .int .i64 i ∧ i ≤ 3 ∧ Hid (W3 wr w.heap.size 60 (gou X i)) ∧ Hid (W3 wr (w.heap.size + 1) 60 (fun _ => 0)) ∧ Hid (Below w.heap.size w wr)) (fun iv _ => (3 - intOf iv).toNat)
  case atStart => exact ⟨0, rfl, by omega, N0.out, N1.out, BA.out⟩
  case round =>
    clear BA N0 N1
    obtain ⟨i, rfl, hi, HW, HV, HB⟩ := hrel
    by_cases i3 : i = 3
    · subst i3
      have c0 := HW.out.cell (i := 0) (by omega)
      have c1 := HW.out.cell (i := 1) (by omega)
      have c2 := HW.out.cell (i := 2) (by omega)
      have f0 := HV.out.frozen 0
      have f1 := HV.out.frozen 1
      have f2 := HV.out.frozen 2
      have d0 := HV.out.cell (i := 0) (by omega)
      have d1 := HV.out.cell (i := 1) (by omega)
      have d2 := HV.out.cell (i := 2) (by omega)
      have S := hid (HV.out.store (gou X 3))
      have B2 : Hid (Below w.heap.size w (((wr.setCell ⟨w.heap.size + 1, 0, none⟩ (.int .u64 (gou X 3 0))).setCell ⟨w.heap.size + 1, 1, none⟩ (.int .u64 (gou X 3 1))).setCell ⟨w.heap.size + 1, 2, none⟩ (.int .u64 (gou X 3 2)))) := below_set (below_set (below_set HB.out (by omega) _ _) (by omega) _ _) (by omega) _ _
      clear HW HV HB IX RR JJ II NN
      generalize hY : gou X 3 = Y at *
      have HY := hid hY
      clear hY
      go_wp2
      refine bodyPost_ret (ret_a3 S.out rfl rfl) rfl ?_
      exact ⟨by rw [HY.out], B2.out⟩
    · have hi' : i < 3 := by omega
      have hil : (i : Int) < 3 := by omega
      have ix := IX.out i hi'
      have NI := hid (gin_nn hi' (NN.out i hi))
      have GE : Hid (gin (gou X i) i i = gou X (i + 1)) := rfl
      have G0 : Hid (gin (gou X i) i 0 = gou X i) := rfl
      have GS : Hid (∀ j, gin (gou X i) i (j + 1) = gst (gin (gou X i) i j) i j) := fun _ => rfl
      clear NN IX
      rw [← G0.out] at HW
      clear G0
      generalize gin (gou X i) i = G at *
      go_wp2
      go_loopw [17] (fun jv wr => ∃ (j : Nat), jv = .int .i64 j ∧ j ≤ i ∧ Hid (W3 wr w.heap.size 60 (G j)) ∧ Hid (W3 wr (w.heap.size + 1) 60 (fun _ => 0)) ∧ Hid (Below w.heap.size w wr)) (fun jv _ => ((i : Int) - intOf jv).toNat)
      case atStart => exact ⟨0, rfl, Nat.zero_le _, HW, HV, HB⟩
      case round =>
        clear HW HV HB
        obtain ⟨j, rfl, hj, HW, HV, HB⟩ := hrel
        by_cases hji : j = i
        · have hji' : ¬ (j : Int) < (i : Int) := by omega
          subst hji
          rw [GE.out] at HW
          clear GE GS NI RR JJ II
          go_wp2
          exact ⟨⟨j + 1, rfl, by omega, HW, HV, HB⟩, by simp only [intOf]; omega⟩
        · have hji' : (j : Int) < (i : Int) := by omega
          have hjl : (j : Int) < 3 := by omega
          have rj := RR.out.below HB.out gl
          obtain ⟨f, s, FJ0, OJ⟩ := JJ.out i hi'
          have FJ := FJ0.below HB.out FJ0.lt
          have pb := prm_bd hi'
          have ci := HW.out.cell (i := i) hi'
          have cj := HW.out.cell (i := j) (by omega)
          have cv := rj.cell (i := 3 + i * 3 + j) (by omega)
          have ev : jc F 3 I (3 + i * 3 + j) = .int .u64 (fv i j) := by
            unfold jc
            rw [if_neg (by omega), show 3 + i * 3 + j - 3 = 3 * i + j by omega, II.out i j (by omega) hi']
          rw [ev] at cv
          have fl := HW.out.frozen i
          have n1 := NI.out j i hi'
          have n2 := NI.out j j (by omega)
          have v0 : 0 ≤ fv i j := Int.emod_nonneg _ (by omega)
          have d0 : 0 ≤ (G j i - G j j) % (prm i : Nat) := Int.emod_nonneg _ (by omega)
          have SU : Hid (∀ q, Calls Tryz.prog 96 #[.pointer (some ⟨F i, 0, none⟩), .int .u64 (G j i), .int .u64 (G j j)] (wr.drewN q) fun e w' => e = .returned (.int .u64 ((G j i - G j j) % (prm i : Nat))) ∧ ∃ k, w' = (wr.drewN q).drewN k) := fun q => (sub_any (F i) (prm i : Nat) f s (G j i) (G j j) (wr.drewN q) (FJ.drew q) OJ n1 n2).mono fun e w' h => ⟨h.1, 0, h.2⟩
          have TI : Hid (∀ q, Calls Tryz.prog 95 #[.pointer (some ⟨F i, 0, none⟩), .int .u64 ((G j i - G j j) % (prm i : Nat)), .int .u64 (fv i j)] (wr.drewN q) fun e w' => e = .returned (.tuple #[.int .u64 (G (j + 1) i), .int .i64 0]) ∧ ∃ k, w' = (wr.drewN q).drewN k) := fun q => by
            have := times_form (F i) (prm i : Nat) f s ((G j i - G j j) % (prm i : Nat)) (fv i j) (ivp (prm i) (prm j) : Nat) (wr.drewN q) (FJ.drew q) OJ d0 v0 (by omega) (by unfold fv; rw [Int.emod_emod_of_dvd _ (Int.dvd_refl _)])
            rw [GS.out j, show gst (G j) i j i = (G j i - G j j) % (prm i : Nat) * (ivp (prm i) (prm j) : Nat) % (prm i : Nat) from if_pos rfl]
            exact this
          have NX : Hid (∀ q, W3 ((wr.drewN q).setCell ⟨w.heap.size, i, none⟩ (.int .u64 (G (j + 1) i))) w.heap.size 60 (G (j + 1)) ∧ W3 ((wr.drewN q).setCell ⟨w.heap.size, i, none⟩ (.int .u64 (G (j + 1) i))) (w.heap.size + 1) 60 (fun _ => 0) ∧ Below w.heap.size w ((wr.drewN q).setCell ⟨w.heap.size, i, none⟩ (.int .u64 (G (j + 1) i)))) := fun q =>
            ⟨((HW.out.drew q).set hi' _).eq fun k hk => by
              by_cases e : k = i
              · rw [if_pos e, e]
              · rw [if_neg e, GS.out j]
                exact (if_neg e).symm, (HV.out.drew q).other (by omega) _ _, below_set (below_drewN HB.out q) (Nat.le_refl _) _ _⟩
          clear rj FJ0 FJ OJ ev n1 n2 v0 d0 GE GS NI RR JJ II HW HV HB pb
          generalize (G j i - G j j) % (prm i : Nat) = dd at *
          generalize hG : G (j + 1) = Gn at *
          have HG := hid hG
          clear hG
          generalize fv i j = vv at *
          go_wp2_with fail
          refine wp_region_last1 21 rfl rfl rfl (by kernel_rfl) (fun _ _ _ _ h => h) (by kernel_rfl) (by kernel_rfl) (by kernel_rfl) (by kernel_rfl) (by kernel_rfl) (by decide) ?_
          simp only [stillLast, still, lastOf]
          repeat (quiet_step (first | (go_at_call 96; exact Calls.quiet_of (SU.out _)) | (go_at_call 95; exact Calls.quiet_of (TI.out _))))
          refine wpQuiet_nil ?_
          intro _ hw'
          obtain ⟨nq, hw''⟩ := hw'
          subst hw''
          have N2 := hid (NX.out nq)
          have fl2 : (wr.drewN nq).frozen? ⟨w.heap.size, i, none⟩ = false := by simpa using fl
          have cl2 : (wr.drewN nq).cell? ⟨w.heap.size, i, none⟩ = some (.int .u64 (G j i)) := by simpa using ci
          clear SU TI fl ci cj cv NX
          generalize wr.drewN nq = w8 at *
          go_wp2
          exact ⟨⟨j + 1, rfl, by omega, by rw [HG.out]; exact N2.out.1, N2.out.2.1, N2.out.2.2⟩, by simp only [intOf]; omega⟩
end Go.Proofs.YtocfenjampmdlaaGreatDoor
namespace Go.Proofs.YtocfenjampmdlaaGreatDoor
open Go.RowKit Num Nmb

/-- the number of the k highest digits. -/
def hh (D : Nat → Int) : Nat → Int
  | 0 => 0
  | k + 1 => hh D k * (prm (2 - k) : Nat) + D (2 - k)
theorem hh_bd {D : Nat → Int} (h : ∀ k, k < 3 → 0 ≤ D k ∧ D k < (prm k : Nat)) : ∀ k, k ≤ 3 → 0 ≤ hh D k ∧ hh D k < 9223372036836950017 ^ k
  | 0, _ => by show (0 : Int) ≤ 0 ∧ (0 : Int) < 1; omega
  | k + 1, hk => by
    obtain ⟨h1, h2⟩ := hh_bd h k (by omega)
    have h3 := h (2 - k) (by omega)
    have h4 := prm_bd (show 2 - k < 3 by omega)
    show 0 ≤ hh D k * (prm (2 - k) : Nat) + D (2 - k) ∧ hh D k * (prm (2 - k) : Nat) + D (2 - k) < 9223372036836950017 ^ (k + 1)
    generalize prm (2 - k) = p at *
    generalize D (2 - k) = d at *
    generalize hh D k = x at *
    rw [Int.pow_succ]
    generalize (9223372036836950017 : Int) ^ k = K at *
    have a1 := Int.mul_nonneg h1 (show (0 : Int) ≤ (p : Int) by omega)
    have a2 : (x + 1) * (p : Int) ≤ K * (p : Int) := Int.mul_le_mul_of_nonneg_right (by omega) (by omega)
    have a3 : K * (p : Int) ≤ K * 9223372036836950017 := Int.mul_le_mul_of_nonneg_left (by omega) (by omega)
    rw [Int.add_mul, Int.one_mul] at a2
    omega
theorem hh_lt {D : Nat → Int} (h : ∀ k, k < 3 → 0 ≤ D k ∧ D k < (prm k : Nat)) (k : Nat) (hk : k ≤ 3) : 0 ≤ hh D k ∧ hh D k < 6277101735386680763835789423207666416102355444464034512896 := by
  obtain ⟨h1, h2⟩ := hh_bd h k hk
  refine ⟨h1, Int.lt_of_lt_of_le h2 ?_⟩
  rcases (show k = 0 ∨ k = 1 ∨ k = 2 ∨ k = 3 by omega) with rfl | rfl | rfl | rfl <;> decide
set_option maxHeartbeats 1600000 in
theorem number_any (gj : Nat) (F : Nat → Nat) (I X : Nat → Int) (w : World) (L : PriA w) (R : Rv w gj 83 12 (jc F 3 I)) (J : JF w 3 F) (HI : ∀ i j, j < i → i < 3 → I (3 * i + j) = fv i j) (hX : ∀ k, k < 3 → 0 ≤ X k) (hD : ∀ k, k < 3 → 0 ≤ gou X 3 k ∧ gou X 3 k < (prm k : Nat)) :
    Calls Tryz.prog 48 #[.pointer (some ⟨gj, 0, none⟩), .agg #[.int .u64 (X 0), .int .u64 (X 1), .int .u64 (X 2)]] w fun e w' => e = .returned (.agg #[.int .u64 (dgt (hh (gou X 3) 3) 0), .int .u64 (dgt (hh (gou X 3) 3) 1), .int .u64 (dgt (hh (gou X 3) 3) 2)]) ∧ Below w.heap.size w w' := by
  have LL := hid L
  have l0 := L.lt
  have Ba : Below w.heap.size w ((w.alloc (.cells #[.int .u64 (X 0), .int .u64 (X 1), .int .u64 (X 2)] 60)).alloc (.cells #[.int .u64 0, .int .u64 0, .int .u64 0] 61)) := (below_new' w _).trans ((below_new' _ _).mono (by simp))
  have BA := hid Ba
  have n0 := (W3.new w 60 X).below (below_new' _ (.cells #[.int .u64 0, .int .u64 0, .int .u64 0] 61)) (by simp)
  have N1 : Hid (W3 ((w.alloc (.cells #[.int .u64 (X 0), .int .u64 (X 1), .int .u64 (X 2)] 60)).alloc (.cells #[.int .u64 0, .int .u64 0, .int .u64 0] 61)) (w.heap.size + 1) 61 (fun _ => 0)) := by
    have := W3.new (w.alloc (.cells #[.int .u64 (X 0), .int .u64 (X 1), .int .u64 (X 2)] 60)) 61 (fun _ => 0)
    show W3 _ _ _ _
    simpa using this
  have DI := hid (digits_any gj F I X _ (R.below Ba R.lt) (J.below Ba) HI hX)
  have c0 := n0.cell (i := 0) (by omega)
  have c1 := n0.cell (i := 1) (by omega)
  have c2 := n0.cell (i := 2) (by omega)
  have HL := hid (hh_lt hD)
  have HD := hid hD
  have HH : Hid (∀ k, hh (gou X 3) (k + 1) = hh (gou X 3) k * (prm (2 - k) : Nat) + gou X 3 (2 - k)) := fun _ => rfl
  have H0 : Hid (hh (gou X 3) 0 = 0) := rfl
  clear Ba n0 L R J HI hX hD
  generalize gou X 3 = Y at *
  generalize hh Y = H at *
  go_enter Tryz.func48, Tryz.ntmps48
  go_wp2_with fail
  refine DI.out.mono ?_
  rintro e w3 ⟨rfl, B3⟩
  clear DI c0 c1 c2
  have Q5 : Hid (∀ W5, W5 = (w3.alloc (.cells #[.int .u64 (Y 0), .int .u64 (Y 1), .int .u64 (Y 2)] 60)).alloc (.cells #[.int .u64 0, .int .u64 0, .int .u64 0] 61) → W3 W5 w3.heap.size 60 Y ∧ W3 W5 (w3.heap.size + 1) 61 (dgt 0) ∧ W3 W5 (w.heap.size + 1) 61 (fun _ => 0) ∧ PriA W5 ∧ Below w.heap.size w W5) := by
    intro W5 hW5
    have q1 := W3.new w3 60 Y
    have b1 := (below_new' w3 (.cells #[.int .u64 (Y 0), .int .u64 (Y 1), .int .u64 (Y 2)] 60))
    have z2 : (w3.alloc (.cells #[.int .u64 (Y 0), .int .u64 (Y 1), .int .u64 (Y 2)] 60)).heap.size = w3.heap.size + 1 := by simp
    have q3 := W3.new (w3.alloc (.cells #[.int .u64 (Y 0), .int .u64 (Y 1), .int .u64 (Y 2)] 60)) 61 (dgt 0)
    rw [z2] at q3
    have b3 := b1.trans ((below_new' _ (.cells #[.int .u64 0, .int .u64 0, .int .u64 0] 61)).mono (by rw [z2]; omega))
    have b4 := BA.out.trans (B3.mono BA.out.size)
    have b5 := b4.trans (b3.mono b4.size)
    have s3 := B3.size
    subst hW5
    exact ⟨q1.below (below_new' _ _) (by rw [z2]; omega), q3, ((N1.out.below B3 N1.out.lt).below b3 (Nat.lt_of_lt_of_le N1.out.lt s3)), LL.out.below b5 l0, b5⟩
  go_wp2
  go_loopw [7] (fun iv wr => ∃ (k : Nat), iv = .int .i64 (2 - (k : Int)) ∧ k ≤ 3 ∧ Hid (W3 wr w3.heap.size 60 Y) ∧ Hid (W3 wr (w3.heap.size + 1) 61 (dgt (H k))) ∧ Hid (W3 wr (w.heap.size + 1) 61 (fun _ => 0)) ∧ Hid (PriA wr) ∧ Hid (Below w.heap.size w wr)) (fun iv _ => (intOf iv + 1).toNat)
  case atStart =>
    obtain ⟨a1, a2, a3, a4, a5⟩ := Q5.out _ rfl
    exact ⟨0, rfl, by omega, a1, by rw [H0.out]; exact a2, a3, a4, a5⟩
  case round =>
    have g1 : w.heap.size + 1 < w3.heap.size := by
      have := N1.out.lt
      have := B3.size
      omega
    clear Q5 BA N1 LL B3
    obtain ⟨k, rfl, hk, HY, HX, HV, HP, HB⟩ := hrel
    generalize w3.heap.size = gd at *
    by_cases k3 : k = 3
    · subst k3
      have c0 := HX.out.cell (i := 0) (by omega)
      have c1 := HX.out.cell (i := 1) (by omega)
      have c2 := HX.out.cell (i := 2) (by omega)
      have f0 := HV.out.frozen 0
      have f1 := HV.out.frozen 1
      have f2 := HV.out.frozen 2
      have d0 := HV.out.cell (i := 0) (by omega)
      have d1 := HV.out.cell (i := 1) (by omega)
      have d2 := HV.out.cell (i := 2) (by omega)
      have S := hid (HV.out.store (dgt (H 3)))
      have B2 : Hid (Below w.heap.size w (((wr.setCell ⟨w.heap.size + 1, 0, none⟩ (.int .u64 (dgt (H 3) 0))).setCell ⟨w.heap.size + 1, 1, none⟩ (.int .u64 (dgt (H 3) 1))).setCell ⟨w.heap.size + 1, 2, none⟩ (.int .u64 (dgt (H 3) 2)))) := below_set (below_set (below_set HB.out (by omega) _ _) (by omega) _ _) (by omega) _ _
      clear HY HX HV HP HB HL HD HH H0
      generalize hZ : dgt (H 3) = Z at *
      have HZ := hid hZ
      clear hZ
      go_wp2
      refine bodyPost_ret (ret_w3 S.out rfl rfl) rfl ?_
      exact ⟨by rw [HZ.out], B2.out⟩
    · obtain ⟨i, hi, hi3⟩ : ∃ i : Nat, 2 - (k : Int) = (i : Int) ∧ i = 2 - k := ⟨2 - k, by omega, rfl⟩
      have hil : (i : Int) < 3 := by omega
      have hk' : Hid (2 - ((k + 1 : Nat) : Int) = (i : Int) - 1) := by show _ = _; omega
      have hl := HL.out k (by omega)
      have hl2 := HL.out (k + 1) (by omega)
      have hd := HD.out i (by omega)
      have pb := prm_bd (show i < 3 by omega)
      have hs := HH.out k
      rw [← hi3] at hs
      rw [hs] at hl2
      have gl : gd + 1 < wr.heap.size := HX.out.lt
      have TA : Hid (∀ x : Beh wr, Calls Tryz.prog 73 #[.agg #[.int .u64 (dgt (H k) 0), .int .u64 (dgt (H k) 1), .int .u64 (dgt (H k) 2)], .int .u64 (prm i : Nat), .int .u64 (Y i)] x.1 fun e w' => e = .returned (.agg #[.int .u64 (dgt (H (k + 1)) 0), .int .u64 (dgt (H (k + 1)) 1), .int .u64 (dgt (H (k + 1)) 2)]) ∧ Below x.1.heap.size x.1 w') := fun x => by
        rw [hs]
        exact wtimes_dgt (H k) (prm i : Nat) (Y i) x.1 hl.1 hl.2 (by omega) (by omega) hl2.2
      have e0 : ∀ x : Beh wr, x.1.cell? ⟨gd + 1, 0, none⟩ = some (.int .u64 (dgt (H k) 0)) := fun x => (HX.out.below x.2 gl).cell (by omega)
      have e1 : ∀ x : Beh wr, x.1.cell? ⟨gd + 1, 1, none⟩ = some (.int .u64 (dgt (H k) 1)) := fun x => (HX.out.below x.2 gl).cell (by omega)
      have e2 : ∀ x : Beh wr, x.1.cell? ⟨gd + 1, 2, none⟩ = some (.int .u64 (dgt (H k) 2)) := fun x => (HX.out.below x.2 gl).cell (by omega)
      have f0 : ∀ x : Beh wr, x.1.frozen? ⟨gd + 1, 0, none⟩ = false := fun x => (HX.out.below x.2 gl).frozen _
      have f1 : ∀ x : Beh wr, x.1.frozen? ⟨gd + 1, 1, none⟩ = false := fun x => (HX.out.below x.2 gl).frozen _
      have f2 : ∀ x : Beh wr, x.1.frozen? ⟨gd + 1, 2, none⟩ = false := fun x => (HX.out.below x.2 gl).frozen _
      have cp : ∀ x : Beh wr, x.1.cell? ⟨0, i, none⟩ = some (.int .u64 (prm i : Nat)) := fun x => (HP.out.below x.2 HP.out.lt).cell (by omega)
      have cy : ∀ x : Beh wr, x.1.cell? ⟨gd, i, none⟩ = some (.int .u64 (Y i)) := fun x => (HY.out.below x.2 HY.out.lt).cell (by omega)
      have NX : Hid (∀ (x : Beh wr) W, W = ((x.1.setCell ⟨gd + 1, 0, none⟩ (.int .u64 (dgt (H (k + 1)) 0))).setCell ⟨gd + 1, 1, none⟩ (.int .u64 (dgt (H (k + 1)) 1))).setCell ⟨gd + 1, 2, none⟩ (.int .u64 (dgt (H (k + 1)) 2)) → W3 W gd 60 Y ∧ W3 W (gd + 1) 61 (dgt (H (k + 1))) ∧ W3 W (w.heap.size + 1) 61 (fun _ => 0) ∧ PriA W ∧ Below w.heap.size w W) := by
        intro x W hW
        have b1 : Below (gd + 1) wr W := by
          rw [hW]
          exact below_set (below_set (below_set (x.2.mono (Nat.le_of_lt gl)) (Nat.le_refl _) _ _) (Nat.le_refl _) _ _) (Nat.le_refl _) _ _
        refine ⟨HY.out.below b1 (by omega), ?_, HV.out.below b1 (by omega), HP.out.below b1 (by omega), HB.out.trans (b1.mono (by omega))⟩
        rw [hW]
        exact (HX.out.below x.2 gl).store _
      rw [hi]
      clear HY HX HV HP HB HL HD HH H0 hl hl2 hd pb hs hi3 hi
      generalize hA : dgt (H (k + 1)) = A at *
      have HA := hid hA
      clear hA
      generalize dgt (H k) = A0 at *
      have nb := Beh.some wr
      go_wp2_with fail
      refine wp_region_last_beh (by kernel_rfl) (by kernel_rfl) (by kernel_rfl) (by kernel_rfl) (by decide) ?_
      simp only [stillLast, still, lastOf]
      repeat (go_big_quiet_step ((go_at_call 73; rename_i x; exact Calls.beh_of (TA.out _))))
      refine wpQuiet_nil ?_
      intro _ hw'
      obtain ⟨x9, rfl⟩ := hw'
      have N6 := hid (NX.out x9 _ rfl)
      have g0 := e0 x9
      have g1' := e1 x9
      have g2 := e2 x9
      have h0 := f0 x9
      have h1 := f1 x9
      have h2 := f2 x9
      clear e0 e1 e2 f0 f1 f2 cp cy NX TA
      generalize x9.1 = w9 at *
      go_wp2
      exact ⟨⟨k + 1, by rw [hk'.out], by omega, N6.out.1, by rw [HA.out]; exact N6.out.2.1, N6.out.2.2.1, N6.out.2.2.2.1, N6.out.2.2.2.2⟩, by simp only [intOf]; omega⟩
end Go.Proofs.YtocfenjampmdlaaGreatDoor
namespace Go.Proofs.YtocfenjampmdlaaGreatDoor
open Go.RowKit Num Nmb

theorem ivp_cg {i j : Nat} (hi : i < 3) (hj : j < i) : Cg (prm i) (((ivp (prm i) (prm j) : Nat) : Int) * (prm j : Nat)) 1 := by
  have h := ivp_said (prm_pri hi) (prm_nz hi hj)
  have := prm_bd hi
  unfold Cg
  rw [Int.mul_comm, ← Int.natCast_mul, ← Int.natCast_emod, h, show ((1 : Nat) : Int) = 1 from rfl, Int.emod_eq_of_lt (by omega) (by omega)]
theorem mod_mul (a u m : Int) : a % m * u % m = a * u % m := by rw [Int.mul_emod, Int.emod_emod_of_dvd _ (Int.dvd_refl _), ← Int.mul_emod]
theorem gst_same (X : Nat → Int) (i j : Nat) : gst X i j i = (X i - X j) % (prm i : Nat) * (ivp (prm i) (prm j) : Nat) % (prm i : Nat) := if_pos rfl
theorem gst_other (X : Nat → Int) {i j k : Nat} (h : k ≠ i) : gst X i j k = X k := if_neg h
theorem gou_three (X : Nat → Int) : gou X 3 = gst (gst (gst X 1 0) 2 0) 2 1 := rfl
theorem gou_0 (X : Nat → Int) : gou X 3 0 = X 0 := by rw [gou_three, gst_other _ (by decide), gst_other _ (by decide), gst_other _ (by decide)]
theorem gou_1 (X : Nat → Int) : gou X 3 1 = (X 1 - X 0) * (ivp (prm 1) (prm 0) : Nat) % (prm 1 : Nat) := by rw [gou_three, gst_other _ (by decide), gst_other _ (by decide), gst_same, mod_mul]
theorem gou_2 (X : Nat → Int) : gou X 3 2 = ((X 2 - X 0) * (ivp (prm 2) (prm 0) : Nat) % (prm 2 : Nat) - gou X 3 1) * (ivp (prm 2) (prm 1) : Nat) % (prm 2 : Nat) := by
  have e : gou X 3 1 = gst (gst X 1 0) 2 0 1 := by rw [gou_three, gst_other _ (by decide)]
  rw [e, gou_three, gst_same, mod_mul, gst_same, mod_mul, gst_other (X := X) (i := 1) (j := 0) (k := 2) (by decide), gst_other (X := X) (i := 1) (j := 0) (k := 0) (by decide)]
theorem gou_in {A : Int} {X : Nat → Int} (hX : ∀ k, k < 3 → X k = A % (prm k : Nat)) : ∀ k, k < 3 → 0 ≤ gou X 3 k ∧ gou X 3 k < (prm k : Nat) := fun k hk => by
  have p0 := prm_bd (show 0 < 3 by omega)
  have p1 := prm_bd (show 1 < 3 by omega)
  have p2 := prm_bd (show 2 < 3 by omega)
  match k, hk with
  | 0, _ =>
    rw [gou_0, hX 0 (by omega)]
    exact ⟨Int.emod_nonneg _ (by omega), Int.emod_lt_of_pos _ (by omega)⟩
  | 1, _ =>
    rw [gou_1]
    exact ⟨Int.emod_nonneg _ (by omega), Int.emod_lt_of_pos _ (by omega)⟩
  | 2, _ =>
    rw [gou_2]
    exact ⟨Int.emod_nonneg _ (by omega), Int.emod_lt_of_pos _ (by omega)⟩
theorem garner {A : Int} {X : Nat → Int} (h0 : 0 ≤ A) (h : A < 374144419156711147060143317175368453031918731001856) (hX : ∀ k, k < 3 → X k = A % (prm k : Nat)) : hh (gou X 3) 3 = A := by
  have b0 := gou_in hX 0 (by omega)
  have b1 := gou_in hX 1 (by omega)
  have b2 := gou_in hX 2 (by omega)
  have e0 := gou_0 X
  have e1 := gou_1 X
  obtain ⟨t, ht⟩ : ∃ t, t = (X 2 - X 0) * (ivp (prm 2) (prm 0) : Nat) % (prm 2 : Nat) := ⟨_, rfl⟩
  have e2 := gou_2 X
  rw [← ht] at e2
  have s1 := garner_step (ivp_cg (i := 1) (j := 0) (by omega) (by omega)) e1
  have s2 := garner_step (ivp_cg (i := 2) (j := 1) (by omega) (by omega)) e2
  have s3 := garner_step (ivp_cg (i := 2) (j := 0) (by omega) (by omega)) ht
  have l1 := garner_lt b1 b2
  rw [e0] at b0
  have l2 := garner_lt b0 l1
  have eH : hh (gou X 3) 3 = X 0 + (prm 0 : Nat) * (gou X 3 1 + (prm 1 : Nat) * gou X 3 2) := by
    generalize gou X 3 = Y at *
    show ((0 * ((prm 2 : Nat) : Int) + Y 2) * (prm 1 : Nat) + Y 1) * (prm 0 : Nat) + Y 0 = _
    rw [e0, Int.zero_mul, Int.zero_add, Int.mul_comm (Y 2), Int.add_comm _ (Y 1), Int.mul_comm _ ((prm 0 : Nat) : Int), Int.add_comm]
  rw [eH]
  have q0 : Cg (prm 0) A (X 0) := by rw [hX 0 (by omega)]; exact Cg.mod.symm
  have q1 : Cg (prm 1) A (X 1) := by rw [hX 1 (by omega)]; exact Cg.mod.symm
  have q2 : Cg (prm 2) A (X 2) := by rw [hX 2 (by omega)]; exact Cg.mod.symm
  have r0 : Cg (prm 0) (X 0 + (prm 0 : Nat) * (gou X 3 1 + (prm 1 : Nat) * gou X 3 2)) A := by
    refine Cg.trans ?_ q0.symm
    unfold Cg
    rw [Int.add_mul_emod_self_left]
  have r1 : Cg (prm 1) (X 0 + (prm 0 : Nat) * (gou X 3 1 + (prm 1 : Nat) * gou X 3 2)) A :=
    (((Cg.rfl (p := prm 1) (a := X 0)).add ((Cg.rfl (p := prm 1) (a := ((prm 0 : Nat) : Int))).mul s2.1)).trans s1.2).trans q1.symm
  have r2 : Cg (prm 2) (X 0 + (prm 0 : Nat) * (gou X 3 1 + (prm 1 : Nat) * gou X 3 2)) A :=
    (((Cg.rfl (p := prm 2) (a := X 0)).add ((Cg.rfl (p := prm 2) (a := ((prm 0 : Nat) : Int))).mul s2.2)).trans s3.2).trans q2.symm
  have pp : prm 0 * (prm 1 * prm 2) = prm 0 * prm 1 * prm 2 := (Nat.mul_assoc _ _ _).symm
  rw [pp] at l2
  refine crt3 (prm_pri (i := 0) (by omega)) (prm_pri (i := 1) (by omega)) (prm_pri (i := 2) (by omega)) (by decide) (by decide) (by decide) r0 r1 r2 l2 ⟨h0, Int.lt_trans h ?_⟩
  have : 374144419156711147060143317175368453031918731001856 < prm 0 * prm 1 * prm 2 := by decide
  exact Int.ofNat_lt.2 this
end Go.Proofs.YtocfenjampmdlaaGreatDoor
