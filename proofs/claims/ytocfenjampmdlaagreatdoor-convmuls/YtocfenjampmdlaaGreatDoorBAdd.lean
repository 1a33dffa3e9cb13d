/- 'make' and 'copy' as they stand in the walks: a new row of words 0; words copied into a row. -/
/- What 'addTo' and 'Add' do: the sum of two numbers. -/
import Derived.Test.YtocfenjampmdlaaGreatDoorBBase
import Derived.Laws.CopyOwn
namespace Go.Proofs.YtocfenjampmdlaaGreatDoor.B
open Go.RowKit NumB

theorem Tryz.info23 : (Tryz.prog.info? 23).map (fun i => (i.zero, i.size, i.bytes)) = some (some (.int .u64 0), 1, 8) := by kernel_rfl
theorem Tryz.size23 : (Tryz.prog.info? 23).map (fun i => i.size) = some 1 := by kernel_rfl

theorem Row.new (w : World) (n : Nat) : Row (w.alloc (.cells (madeCells #[.int .u64 0] (n * 1)) 23)) w.heap.size n (fun _ => 0) := by
  refine ⟨madeCells #[.int .u64 0] (n * 1), ?_, by simp [size_madeCells], fun j hj => ?_⟩
  · exact heap_alloc_new w _
  · simp [madeCells, hj, Nat.mod_one]

theorem wp_make {ops : Array Oper} {rest : List Oper} {o : Oper} {a : Act} {Q : Exit → Act → World → Prop} (w : World) (hg : o.guard = none) (l c : Operand) (hop : o.op = Op.makeSlice 37 l c)
    (L C : Int) (n : Nat) (hl : a.eval l = .int .i64 L) (hc : a.eval c = .int .i64 C) (hL : L = (n : Int)) (hC : C = (n : Int)) (hn : n ≤ 1000000000)
    (hK : ∀ w', Row w' w.heap.size n (fun _ => 0) → Below w.heap.size w w' → w'.heap.size = w.heap.size + 1 → wpList Tryz.prog ops Q rest (a.put o.dst (.slice (some ⟨w.heap.size, 0, none⟩) n n)) w') :
    wpList Tryz.prog ops Q (o :: rest) a w := by
  obtain ⟨i0, hi, hz0, hz1, hz2⟩ := info_parts Tryz.info23
  refine wpList_plain hg fun K hK' => ?_
  have hr := run_make (P := Tryz.prog) w 37 23 i0 (.int .u64 0) Tryz.underlying37 hi hz0 .i64 .i64 n n (by omega) (Int.le_refl _) (by rw [hz2]; omega) (by omega)
  simp only [Int.toNat_natCast] at hr
  rw [hz1] at hr
  subst hL; subst hC
  unfold Oper.wp
  simp [execOp, hop, hl, hc, hr, Result.andThen]
  refine hK' _ _ (hK _ ?_ ?_ ?_)
  · have := Row.new w n
    rw [Nat.mul_one] at this
    exact this
  · exact (Below.refl _ _).alloc (Nat.le_refl _) _
  · simp

/-- x's words laid over those of X from place 'off' on. -/
def over (X : Nat → Int) (off n : Nat) (x : Nat → Int) (o : Nat) : Nat → Int := fun j => if off ≤ j ∧ j < off + n then x (o + (j - off)) else X j
theorem over_in {X x : Nat → Int} {off n o j : Nat} (h : j < n) : over X off n x o (off + j) = x (o + j) := by
  unfold over; rw [if_pos (by omega)]; congr 1; omega
theorem over_out {X x : Nat → Int} {off n o j : Nat} (h : j < off ∨ off + n ≤ j) : over X off n x o j = X j := by
  unfold over; rw [if_neg (by omega)]

theorem wp_copy {ops : Array Oper} {rest : List Oper} {q : Oper} {a : Act} {Q : Exit → Act → World → Prop} (w : World) (hgd : q.guard = none) (d s : Operand)
    (ho : q.op = .call { callee := .builtin .copy, args := #[d, s], argTypes := #[37, 37] })
    (g off dLen dCap N : Nat) (X : Nat → Int) (hd : a.eval d = .slice (some ⟨g, off, none⟩) dLen dCap) (v : Value) (hs : a.eval s = v)
    (n : Nat) (x : Nat → Int) (o : Nat) (hv : SlN g w v n x o) (hr : Row w g N X) (hfit : off + dLen ≤ N) (hnd : n ≤ dLen)
    (hK : ∀ w', Row w' g N (over X off n x o) → Only g w w' → wpList Tryz.prog ops Q rest (a.put q.dst (goInt n)) w') :
    wpList Tryz.prog ops Q (q :: rest) a w := by
  obtain ⟨ao, cap, rfl, h1, h2, h3, h4, h5⟩ := hv
  have hmin : Nat.min n dLen = n := Nat.min_eq_left hnd
  by_cases hn : n = 0
  · subst hn
    refine wpList_copy_nothing hgd d s 37 37 ho 23 Tryz.underlying37 Tryz.size23 _ ao dLen dCap 0 cap hd hs (by simp) ?_
    exact hK w (hr.congr fun j _ => (over_out (by omega)).symm) (Only.refl _ _)
  · obtain ⟨b, ob, rfl, hb, hbg, hc⟩ := h5 (by omega)
    obtain ⟨cur, hg, hsz, hcur⟩ := hr
    have hlen : ((List.range n).map (fun j => Value.int .u64 (x (o + j)))).length = n := by simp
    refine wpList_copy_own hgd d s 37 37 ho 23 Tryz.underlying37 Tryz.size23 g off dLen dCap ⟨b, ob, none⟩ n cap hd hs cur 23 hg
      ((List.range n).map (fun j => Value.int .u64 (x (o + j)))) (by rw [hlen, hmin]) ?_ (by rw [hlen, hsz]; omega) (by intro u hu; simp at hu; obtain ⟨j, _, rfl⟩ := hu; rfl) ?_
    · intro j u hj
      rw [List.getElem?_map] at hj
      simp only [Option.map_eq_some_iff] at hj
      obtain ⟨i, hi, rfl⟩ := hj
      have hjn : j < n := by
        have := (List.getElem?_eq_some_iff.1 hi).1
        simpa using this
      rw [List.getElem?_range hjn] at hi
      cases hi
      have := hc j hjn
      by_cases hj0 : j = 0
      · subst hj0; simpa [Addr.add] using this
      · simpa [Addr.add, hj0] using this
    · rw [hlen]
      refine hK _ ?_ ?_
      · refine ⟨_, setRow_heap w g _ _ 23 _ hg, ?_, ?_⟩
        · simp [hsz]; omega
        · intro j hj
          by_cases hin : off ≤ j ∧ j < off + n
          · obtain ⟨i, rfl⟩ := Nat.le.dest hin.1
            rw [over_in (by omega)]
            simp [List.getElem?_append, hsz]
            have hm : min off N = off := Nat.min_eq_left (by omega)
            rw [hm, if_neg (by omega), if_pos (by omega), show off + i - off = i by omega, List.getElem?_range (by omega)]
            rfl
          · rw [over_out (by omega)]
            simp [List.getElem?_append, hsz]
            have hm : min off N = off := Nat.min_eq_left (by omega)
            rw [hm]
            by_cases hjo : j < off
            · rw [if_pos hjo, List.getElem?_take, if_pos hjo]; simpa using hcur j hj
            · rw [if_neg hjo, if_neg (by omega), show off + n + (j - off - n) = j by omega]; exact hcur j hj
      · exact ⟨rfl, rfl, rfl, by simp [World.setRow], fun k hk => setRow_other w g k _ hk⟩
end Go.Proofs.YtocfenjampmdlaaGreatDoor.B
namespace Go.Proofs.YtocfenjampmdlaaGreatDoor.B
open Go.RowKit NumB

/-- what the first loop of 'addTo' keeps. -/
def AddRel (g N oz : Nat) (X : Nat → Int) (w : World) (k : Nat) (t c : Int) (X' : Nat → Int) (wr : World) : Prop :=
  Row wr g N X' ∧ Only g w wr ∧ V X' oz k + c * P k = t ∧ Wd X' oz k ∧ (∀ j, j < oz ∨ oz + k ≤ j → X' j = X j) ∧ 0 ≤ c ∧ c ≤ 1

theorem AddRel.step {g N oz : Nat} {X : Nat → Int} {w : World} {k : Nat} {t c : Int} {X' : Nat → Int} {wr : World} (h : AddRel g N oz X w k t c X' wr) (a : Int)
    (ha : 0 ≤ a ∧ a ≤ 18446744073709551615) (hx : 0 ≤ X (oz + k) ∧ X (oz + k) ≤ 18446744073709551615) :
    AddRel g N oz X w (k + 1) (t + X (oz + k) * P k + a * P k) (hi (X' (oz + k) + a + c)) (upd X' (oz + k) (lo (X' (oz + k) + a + c)))
      (wr.setCell ⟨g, oz + k, none⟩ (.int .u64 (lo (X' (oz + k) + a + c)))) := by
  obtain ⟨h1, h2, h3, h4, h5, h6, h7⟩ := h
  have e := h5 (oz + k) (Or.inr (Nat.le_refl _))
  have hs := carry_step X' oz k a c t h3
  refine ⟨h1.set _ _, h2.set _ _, ?_, ?_, ?_, ?_⟩
  · rw [hs, e]
  · intro j hj
    by_cases hjk : j = k
    · subst hjk; rw [upd_same]; exact ⟨lo_nonneg _, lo_le _⟩
    · rw [upd_other _ _ _ _ (by omega)]; exact h4 j (by omega)
  · intro j hj; rw [upd_other _ _ _ _ (by omega)]; exact h5 j (by omega)
  · rw [e]; exact hi_le1 _ (by omega) (by omega)

/-- 'v' is a slice of k words whose number is a. -/
def Nt (w : World) (v : Value) (k : Nat) (a : Int) : Prop := ∃ x o, Sl w v k x o ∧ V x o k = a
/-- .. and no word 0 stands at its end. -/
def Nz (w : World) (v : Value) (k : Nat) (a : Int) : Prop := ∃ x o, Sl w v k x o ∧ Nm x o k ∧ V x o k = a
theorem Nz.nt {w : World} {v : Value} {k : Nat} {a : Int} (h : Nz w v k a) : Nt w v k a := by
  obtain ⟨x, o, h1, _, h3⟩ := h; exact ⟨x, o, h1, h3⟩
theorem Nt.below {w w' : World} {v : Value} {k : Nat} {a : Int} (h : Nt w v k a) (hb : Below w.heap.size w w') : Nt w' v k a := by
  obtain ⟨x, o, h1, h3⟩ := h; exact ⟨x, o, h1.below hb, h3⟩
theorem Nz.below {w w' : World} {v : Value} {k : Nat} {a : Int} (h : Nz w v k a) (hb : Below w.heap.size w w') : Nz w' v k a := by
  obtain ⟨x, o, h1, h2, h3⟩ := h; exact ⟨x, o, h1.below hb, h2, h3⟩
theorem Nt.nonneg {w : World} {v : Value} {k : Nat} {a : Int} (h : Nt w v k a) : 0 ≤ a := by
  obtain ⟨x, o, ⟨_, _, _, _, _, hw, _⟩, rfl⟩ := h; exact (V_bd k hw).1
theorem Nt.lt {w : World} {v : Value} {k : Nat} {a : Int} (h : Nt w v k a) : a < P k := by
  obtain ⟨x, o, ⟨_, _, _, _, _, hw, _⟩, rfl⟩ := h; exact (V_bd k hw).2
theorem trimmed_nt (v : Value) (n : Nat) (a : Int) (w : World) (h : Nt w v n a) :
    Calls Tryz.prog 56 #[v] w fun e w' => (∃ v' k, e = .returned v' ∧ Nz w v' k a ∧ k ≤ n) ∧ w' = w := by
  obtain ⟨x, o, h1, rfl⟩ := h
  refine (trimmed_any v n x o w h1).mono ?_
  rintro e w' ⟨⟨v', rfl, s⟩, rfl⟩
  exact ⟨⟨v', _, rfl, ⟨x, o, s, tr_nm x o n, V_tr x o n⟩, tr_le x o n⟩, rfl⟩

/-- 'v' is the front of a row of the call's own (from block B on), without words 0 at its end, and its number is a. -/
def Own (B : Nat) (w : World) (v : Value) (k : Nat) (a : Int) : Prop :=
  ∃ g N X, v = .slice (some ⟨g, 0, none⟩) k k ∧ Row w g N X ∧ k ≤ N ∧ B ≤ g ∧ Wd X 0 k ∧ Nm X 0 k ∧ V X 0 k = a ∧ k ≤ 9223372036854775807
theorem Own.nz {B : Nat} {w : World} {v : Value} {k : Nat} {a : Int} (h : Own B w v k a) : Nz w v k a := by
  obtain ⟨g, N, X, rfl, h1, h2, _, h4, h5, h6, h7⟩ := h
  exact ⟨X, 0, h1.sl 0 k k (by omega) (Nat.le_refl _) h7 h4, h5, h6⟩
theorem trimmed_own (B g n N : Nat) (X : Nat → Int) (a : Int) (w : World) (hr : Row w g N X) (hn : n ≤ N) (hB : B ≤ g) (hw : Wd X 0 n) (hv : V X 0 n = a) (hb : n ≤ 9223372036854775807) :
    Calls Tryz.prog 56 #[.slice (some ⟨g, 0, none⟩) n n] w fun e w' => (∃ v k, e = .returned v ∧ Own B w v k a ∧ k ≤ n) ∧ w' = w := by
  refine (trimmed_pos g 0 n n X 0 w (Nat.le_refl _) hb (fun j hj => by rw [Nat.zero_add]; exact hr.cell (by omega))).mono ?_
  rintro e w' ⟨rfl, rfl⟩
  have hl := tr_le X 0 n
  exact ⟨⟨_, _, rfl, ⟨g, N, X, rfl, hr, by omega, hB, hw.mono hl, tr_nm X 0 n, by rw [V_tr, hv], by omega⟩, hl⟩, rfl⟩

theorem add_room {a b : Int} {n m : Nat} (ha : a < P n) (hb : b < P m) (h : m ≤ n) : a + b < P (n + 1) := by
  have := P_le h
  have := P_pos n
  simp only [P]
  omega

theorem over_wd {n : Nat} {y : Nat → Int} {p : Nat} (k : Nat) (h : Wd y p n) : Wd (over (fun _ => 0) 0 n y p) 0 k := by
  intro j _
  by_cases hj : j < n
  · rw [over_in hj]; exact h j hj
  · rw [over_out (by omega)]; decide
theorem over_V {n : Nat} {y : Nat → Int} {p : Nat} (k : Nat) (hk : n ≤ k) : V (over (fun _ => 0) 0 n y p) 0 k = V y p n := by
  obtain ⟨r, rfl⟩ := Nat.le.dest hk
  rw [V_split]
  rw [V_congr (y := y) (p := p) n (fun j hj => over_in hj), V_zero r (fun j hj => over_out (by omega))]
  omega
theorem Sl.wd {w : World} {v : Value} {n : Nat} {x : Nat → Int} {o : Nat} (h : Sl w v n x o) : Wd x o n := by
  obtain ⟨_, _, _, _, _, hw, _⟩ := h; exact hw
theorem sum_nt {w : World} {g k : Nat} {X : Nat → Int} {t s : Int} (hR : Row w g k X) (hW : Wd X 0 k) (hV : V X 0 k = t) (e : t = s) (hk : k ≤ 9223372036854775807) : Nt w (.slice (some ⟨g, 0, none⟩) k k) k s :=
  ⟨X, 0, hR.sl 0 k k (by omega) (Nat.le_refl _) hk hW, by rw [hV, e]⟩

end Go.Proofs.YtocfenjampmdlaaGreatDoor.B
