/- 'make' and 'copy' as they stand in the walks: a new row of words 0; words copied into a row. -/
import Derived.Test.YtocfenjampmdlabGreatDoorBBase
import Derived.Laws.CopyOwn
namespace Go.Proofs.YtocfenjampmdlabGreatDoor.B
open Go.RowKit NumB

theorem Tryz.info22 : (Tryz.prog.info? 22).map (fun i => (i.zero, i.size, i.bytes)) = some (some (.int .u64 0), 1, 8) := by kernel_rfl
theorem Tryz.size22 : (Tryz.prog.info? 22).map (fun i => i.size) = some 1 := by kernel_rfl

theorem Row.new (w : World) (n : Nat) : Row (w.alloc (.cells (madeCells #[.int .u64 0] (n * 1)) 22)) w.heap.size n (fun _ => 0) := by
  refine ⟨madeCells #[.int .u64 0] (n * 1), ?_, by simp [size_madeCells], fun j hj => ?_⟩
  · exact heap_alloc_new w _
  · simp [madeCells, hj, Nat.mod_one]

theorem wp_make {ops : Array Oper} {rest : List Oper} {o : Oper} {a : Act} {Q : Exit → Act → World → Prop} (w : World) (hg : o.guard = none) (l c : Operand) (hop : o.op = Op.makeSlice 40 l c)
    (L C : Int) (n : Nat) (hl : a.eval l = .int .i64 L) (hc : a.eval c = .int .i64 C) (hL : L = (n : Int)) (hC : C = (n : Int)) (hn : n ≤ 1000000000)
    (hK : ∀ w', Row w' w.heap.size n (fun _ => 0) → Below w.heap.size w w' → w'.heap.size = w.heap.size + 1 → wpList Tryz.prog ops Q rest (a.put o.dst (.slice (some ⟨w.heap.size, 0, none⟩) n n)) w') :
    wpList Tryz.prog ops Q (o :: rest) a w := by
  obtain ⟨i0, hi, hz0, hz1, hz2⟩ := info_parts Tryz.info22
  refine wpList_plain hg fun K hK' => ?_
  have hr := run_make (P := Tryz.prog) w 40 22 i0 (.int .u64 0) Tryz.underlying40 hi hz0 .i64 .i64 n n (by omega) (Int.le_refl _) (by rw [hz2]; omega) (by omega)
  simp only [Int.toNat_natCast] at hr
  rw [hz1] at hr
  subst hL; subst hC
  unfold Oper.wp
  simp [execOp, hop, hl, hc, hr, Result.andThen]
  refine hK' _ _ (hK _ ?_ ?_ ?_)
  · have := Row.new w n
    rw [Nat.mul_one] at this
    exact this
  · exact (Below.refl _ _).alloc (Nat.le_refl _) _
  · simp

/-- x's words laid over those of X from place 'off' on. -/
def over (X : Nat → Int) (off n : Nat) (x : Nat → Int) (o : Nat) : Nat → Int := fun j => if off ≤ j ∧ j < off + n then x (o + (j - off)) else X j
theorem over_in {X x : Nat → Int} {off n o j : Nat} (h : j < n) : over X off n x o (off + j) = x (o + j) := by
  unfold over; rw [if_pos (by omega)]; congr 1; omega
theorem over_out {X x : Nat → Int} {off n o j : Nat} (h : j < off ∨ off + n ≤ j) : over X off n x o j = X j := by
  unfold over; rw [if_neg (by omega)]

theorem wp_copy {ops : Array Oper} {rest : List Oper} {q : Oper} {a : Act} {Q : Exit → Act → World → Prop} (w : World) (hgd : q.guard = none) (d s : Operand)
    (ho : q.op = .call { callee := .builtin .copy, args := #[d, s], argTypes := #[40, 40] })
    (g off dLen dCap N : Nat) (X : Nat → Int) (hd : a.eval d = .slice (some ⟨g, off, none⟩) dLen dCap) (v : Value) (hs : a.eval s = v)
    (n : Nat) (x : Nat → Int) (o : Nat) (hv : SlN g w v n x o) (hr : Row w g N X) (hfit : off + dLen ≤ N) (hnd : n ≤ dLen)
    (hK : ∀ w', Row w' g N (over X off n x o) → Only g w w' → wpList Tryz.prog ops Q rest (a.put q.dst (goInt n)) w') :
    wpList Tryz.prog ops Q (q :: rest) a w := by
  obtain ⟨ao, cap, rfl, h1, h2, h3, h4, h5⟩ := hv
  have hmin : Nat.min n dLen = n := Nat.min_eq_left hnd
  by_cases hn : n = 0
  · subst hn
    refine wpList_copy_nothing hgd d s 40 40 ho 22 Tryz.underlying40 Tryz.size22 _ ao dLen dCap 0 cap hd hs (by simp) ?_
    exact hK w (hr.congr fun j _ => (over_out (by omega)).symm) (Only.refl _ _)
  · obtain ⟨b, ob, rfl, hb, hbg, hc⟩ := h5 (by omega)
    obtain ⟨cur, hg, hsz, hcur⟩ := hr
    have hlen : ((List.range n).map (fun j => Value.int .u64 (x (o + j)))).length = n := by simp
    refine wpList_copy_own hgd d s 40 40 ho 22 Tryz.underlying40 Tryz.size22 g off dLen dCap ⟨b, ob, none⟩ n cap hd hs cur 22 hg
      ((List.range n).map (fun j => Value.int .u64 (x (o + j)))) (by rw [hlen, hmin]) ?_ (by rw [hlen, hsz]; omega) (by intro u hu; simp at hu; obtain ⟨j, _, rfl⟩ := hu; rfl) ?_
    · intro j u hj
      rw [List.getElem?_map] at hj
      simp only [Option.map_eq_some_iff] at hj
      obtain ⟨i, hi, rfl⟩ := hj
      have hjn : j < n := by
        have := (List.getElem?_eq_some_iff.1 hi).1
        simpa using this
      rw [List.getElem?_range hjn] at hi
      cases hi
      have := hc j hjn
      by_cases hj0 : j = 0
      · subst hj0; simpa [Addr.add] using this
      · simpa [Addr.add, hj0] using this
    · rw [hlen]
      refine hK _ ?_ ?_
      · refine ⟨_, setRow_heap w g _ _ 22 _ hg, ?_, ?_⟩
        · simp [hsz]; omega
        · intro j hj
          by_cases hin : off ≤ j ∧ j < off + n
          · obtain ⟨i, rfl⟩ := Nat.le.dest hin.1
            rw [over_in (by omega)]
            simp [List.getElem?_append, hsz]
            have hm : min off N = off := Nat.min_eq_left (by omega)
            rw [hm, if_neg (by omega), if_pos (by omega), show off + i - off = i by omega, List.getElem?_range (by omega)]
            rfl
          · rw [over_out (by omega)]
            simp [List.getElem?_append, hsz]
            have hm : min off N = off := Nat.min_eq_left (by omega)
            rw [hm]
            by_cases hjo : j < off
            · rw [if_pos hjo, List.getElem?_take, if_pos hjo]; simpa using hcur j hj
            · rw [if_neg hjo, if_neg (by omega), show off + n + (j - off - n) = j by omega]; exact hcur j hj
      · exact ⟨rfl, rfl, rfl, by simp [World.setRow], fun k hk => setRow_other w g k _ hk⟩
end Go.Proofs.YtocfenjampmdlabGreatDoor.B
