/- The exponents of a place: the reference's Exps (chapter 8). -/
import Derived.Test.YtocfenjampmdlabGreatDoorCb
import Derived.Test.YtocfenjampmdlabGreatDoorQo
namespace Go.Proofs.YtocfenjampmdlabGreatDoor
open Go.RowKit Num Nmb

/-- the exponents of the place p. -/
def dg (d : Nat → Int) : Nat → Int → Nat → Int
  | 0, _, _ => 0
  | n + 1, p, t => if t = n then p % d n else dg d n (p / d n) t
theorem dg_in {d : Nat → Int} : ∀ {n : Nat} {p : Int}, (∀ i, i < n → 1 ≤ d i) → ∀ t, t < n → 0 ≤ dg d n p t ∧ dg d n p t < d t
  | 0, _, _, t, ht => absurd ht (by omega)
  | n + 1, p, h, t, ht => by
    have hn := h n (by omega)
    show 0 ≤ (if t = n then p % d n else dg d n (p / d n) t) ∧ (if t = n then p % d n else dg d n (p / d n) t) < d t
    by_cases e : t = n
    · rw [if_pos e, e]
      exact ⟨Int.emod_nonneg _ (by omega), Int.emod_lt_of_pos _ (by omega)⟩
    · rw [if_neg e]
      exact dg_in (fun i hi => h i (by omega)) t (by omega)
theorem pl_eq {d e e' : Nat → Int} : ∀ {n : Nat}, (∀ i, i < n → e i = e' i) → pl d e n = pl d e' n
  | 0, _ => rfl
  | n + 1, h => by
    show pl d e n * d n + e n = pl d e' n * d n + e' n
    rw [pl_eq (fun i hi => h i (by omega)), h n (by omega)]
theorem pl_dg {d : Nat → Int} : ∀ {n : Nat} {p : Int}, (∀ i, i < n → 1 ≤ d i) → 0 ≤ p → p < pd d n → pl d (dg d n p) n = p
  | 0, p, _, h0, h1 => by
    have h1' : p < 1 := h1
    show (0 : Int) = p
    omega
  | n + 1, p, h, h0, h1 => by
    have hn := h n (by omega)
    have h1' : p < pd d n * d n := h1
    have e1 : pl d (dg d (n + 1) p) n = pl d (dg d n (p / d n)) n := pl_eq fun i hi => by
      show (if i = n then p % d n else dg d n (p / d n) i) = _
      rw [if_neg (by omega)]
    have e2 : dg d (n + 1) p n = p % d n := by
      show (if n = n then p % d n else dg d n (p / d n) n) = _
      rw [if_pos rfl]
    show pl d (dg d (n + 1) p) n * d n + dg d (n + 1) p n = p
    rw [e1, e2, pl_dg (fun i hi => h i (by omega)) (Int.ediv_nonneg h0 (by omega)) (Int.ediv_lt_of_lt_mul (by omega) h1'), Int.mul_comm]
    exact Int.mul_ediv_add_emod p (d n)
/-- exponents are told by their place. -/
theorem pl_inj {d e e' : Nat → Int} : ∀ {n : Nat}, (∀ i, i < n → 0 ≤ e i ∧ e i < d i) → (∀ i, i < n → 0 ≤ e' i ∧ e' i < d i) → pl d e n = pl d e' n → ∀ i, i < n → e i = e' i
  | 0, _, _, _, i, hi => absurd hi (by omega)
  | n + 1, h, h', he, i, hi => by
    have a1 := h n (by omega)
    have a2 := h' n (by omega)
    have he' : pl d e n * d n + e n = pl d e' n * d n + e' n := he
    have m1 : (pl d e n * d n + e n) % d n = e n := by
      rw [Int.add_comm, Int.add_mul_emod_self_right, Int.emod_eq_of_lt a1.1 a1.2]
    have m2 : (pl d e' n * d n + e' n) % d n = e' n := by
      rw [Int.add_comm, Int.add_mul_emod_self_right, Int.emod_eq_of_lt a2.1 a2.2]
    have en : e n = e' n := by rw [← m1, he', m2]
    have ep : pl d e n = pl d e' n := Int.eq_of_mul_eq_mul_right (show d n ≠ 0 by omega) (by omega)
    by_cases q : i = n
    · rw [q]; exact en
    · exact pl_inj (fun i hi => h i (by omega)) (fun i hi => h' i (by omega)) ep i (by omega)
/-- block g holds n ints x. -/
def Rowi (w : World) (g n : Nat) (x : Nat → Int) : Prop :=
  ∃ cur : Array Value, w.heap[g]? = some (.cells cur 3 (0, 0)) ∧ cur.size = n ∧ ∀ j, j < n → cur[j]? = some (.int .i64 (x j))
theorem Rowi.cell {w : World} {g n : Nat} {x : Nat → Int} (h : Rowi w g n x) {i : Nat} (hi : i < n) : w.cell? ⟨g, i, none⟩ = some (.int .i64 (x i)) := by
  obtain ⟨cur, hg, _, hc⟩ := h
  simp [World.cell?, hg, hc i hi]
theorem Rowi.frozen {w : World} {g n : Nat} {x : Nat → Int} (h : Rowi w g n x) (i : Nat) : w.frozen? ⟨g, i, none⟩ = false := by
  obtain ⟨cur, hg, _, hc⟩ := h
  simp [World.frozen?, hg]
theorem Rowi.lt {w : World} {g n : Nat} {x : Nat → Int} (h : Rowi w g n x) : g < w.heap.size := by
  obtain ⟨cur, hg, _⟩ := h
  exact (Array.getElem?_eq_some_iff.1 hg).1
theorem Rowi.set {w : World} {g n : Nat} {x y : Nat → Int} (h : Rowi w g n x) (i : Nat) (v : Int) (e : ∀ j, j < n → y j = if j = i then v else x j) : Rowi (w.setCell ⟨g, i, none⟩ (.int .i64 v)) g n y := by
  obtain ⟨cur, hg, hs, hc⟩ := h
  refine ⟨cur.setIfInBounds i (.int .i64 v), ?_, by simpa using hs, fun j hj => ?_⟩
  · rw [heap_setCell_same w g i cur 3 _ hg]
  · rw [e j hj]
    by_cases e : j = i
    · subst e; rw [Array.getElem?_setIfInBounds]; simp [hs, hj]
    · rw [Array.getElem?_setIfInBounds]; simp [Ne.symm e, e, hc j hj]
theorem Rowi.below {B : Nat} {w w' : World} {g n : Nat} {x : Nat → Int} (h : Rowi w g n x) (hb : Below B w w') (hg : g < B) : Rowi w' g n x := by
  obtain ⟨cur, h1, h2, h3⟩ := h
  exact ⟨cur, by rw [hb.block g hg]; exact h1, h2, h3⟩
theorem Rowi.wi {w : World} {g n : Nat} {x : Nat → Int} (h : Rowi w g n x) (hv : ∀ j, j < n → -9223372036854775808 ≤ x j ∧ x j ≤ 9223372036854775807) (hn : n ≤ 9223372036854775807) : Wi w (.slice (some ⟨g, 0, none⟩) n n) n x :=
  ⟨_, n, rfl, Nat.le_refl _, hn, hv, fun _ => ⟨g, 0, rfl, h.lt, fun j hj => by rw [Nat.zero_add]; exact h.cell hj⟩⟩
theorem Tryz.infoI : (Tryz.prog.info? 3).map (fun i => (i.zero, i.size, i.bytes)) = some (some (.int .i64 0), 1, 8) := by kernel_rfl
theorem Rowi.new (w : World) (n : Nat) : Rowi (w.alloc (.cells (madeCells #[.int .i64 0] (n * 1)) 3)) w.heap.size n (fun _ => 0) := by
  refine ⟨madeCells #[.int .i64 0] (n * 1), ?_, by simp [size_madeCells], fun j hj => ?_⟩
  · exact heap_alloc_new w _
  · simp [madeCells, hj, Nat.mod_one]
theorem wp_makei {ops : Array Oper} {rest : List Oper} {o : Oper} {a : Act} {Q : Exit → Act → World → Prop} (w : World) (hg : o.guard = none) (l c : Operand) (hop : o.op = Op.makeSlice 38 l c)
    (L C : Int) (n : Nat) (hl : a.eval l = .int .i64 L) (hc : a.eval c = .int .i64 C) (hL : L = (n : Int)) (hC : C = (n : Int)) (hn : n ≤ 1000000000)
    (hK : ∀ w', Rowi w' w.heap.size n (fun _ => 0) → Below w.heap.size w w' → w'.heap.size = w.heap.size + 1 → wpList Tryz.prog ops Q rest (a.put o.dst (.slice (some ⟨w.heap.size, 0, none⟩) n n)) w') :
    wpList Tryz.prog ops Q (o :: rest) a w := by
  obtain ⟨i0, hi, hz0, hz1, hz2⟩ := info_parts Tryz.infoI
  refine wpList_plain hg fun K hK' => ?_
  have hr := run_make (P := Tryz.prog) w 38 3 i0 (.int .i64 0) Tryz.underlying38 hi hz0 .i64 .i64 n n (by omega) (Int.le_refl _) (by rw [hz2]; omega) (by omega)
  simp only [Int.toNat_natCast] at hr
  rw [hz1] at hr
  subst hL; subst hC
  unfold Oper.wp
  simp [execOp, hop, hl, hc, hr, Result.andThen]
  refine hK' _ _ (hK _ ?_ ?_ ?_)
  · have := Rowi.new w n
    rw [Nat.mul_one] at this
    exact this
  · exact (Below.refl _ _).alloc (Nat.le_refl _) _
  · simp
end Go.Proofs.YtocfenjampmdlabGreatDoor
