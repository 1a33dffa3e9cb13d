/- A region whose first four operations are moves that may come at any time, whose next ones only read, and whose others wait for all ahead of them but these moves. -/
import Derived.Test.YtbecdlibckbbcabDoorRgt
namespace Go.Proofs.YtbecdlibckbbcabDoor
section
variable {P : Program} {C : World → Prop} {Q : Exit → Act → World → Prop}

/-- does it wait for nothing? -/
def freeB (o : Oper) : Bool := o.after.all fun e => !Region.binds .any e
theorem freeB_said {o : Oper} (h : freeB o = true) : ∀ e ∈ o.after, Region.binds .any e = true → False := fun e he hb => by
  have := Array.all_eq_true_iff_forall_mem.1 h e he
  rw [hb] at this
  cases this
theorem wp_region_tail4 (n : Nat) {id : Nat} {a : Act} {w : World} {o0 o1 o2 o3 : Oper} {l : List Oper} (x0 x1 x2 x3 : Operand) (hx0 : o0.op = .move x0) (hx1 : o1.op = .move x1) (hx2 : o2.op = .move x2) (hx3 : o3.op = .move x3)
    (hg0 : o0.guard = none) (hg1 : o1.guard = none) (hg2 : o2.guard = none) (hg3 : o3.guard = none) (hQ0 : ∀ c a w v, Q (.panic c) (a.put o0.dst v) w → Q (.panic c) a w) (hQ1 : ∀ c a w v, Q (.panic c) (a.put o1.dst v) w → Q (.panic c) a w) (hQ2 : ∀ c a w v, Q (.panic c) (a.put o2.dst v) w → Q (.panic c) a w) (hQ3 : ∀ c a w v, Q (.panic c) (a.put o3.dst v) w → Q (.panic c) a w)
    (hm : P.follows .mixedOrders = true) (hs : Region.noSelect (o0 :: o1 :: o2 :: o3 :: l).toArray = true) (hs' : Region.noSelect (stillFrom (n + 4) (o0 :: o1 :: o2 :: o3 :: l)).toArray = true)
    (hf0 : Region.free .any (o0 :: o1 :: o2 :: o3 :: l).toArray (Array.replicate (l.length + 4) false) 0 = true) (hr0 : (Region.ready .any (o0 :: o1 :: o2 :: o3 :: l).toArray (Array.replicate (l.length + 4) false)).contains 0 = true)
    (hf1 : Region.free .any (o0 :: o1 :: o2 :: o3 :: l).toArray ((Array.replicate (l.length + 4) false).setIfInBounds 0 true) 1 = true) (hr1 : (Region.ready .any (o0 :: o1 :: o2 :: o3 :: l).toArray ((Array.replicate (l.length + 4) false).setIfInBounds 0 true)).contains 1 = true)
    (hf2 : Region.free .any (o0 :: o1 :: o2 :: o3 :: l).toArray (((Array.replicate (l.length + 4) false).setIfInBounds 0 true).setIfInBounds 1 true) 2 = true) (hr2 : (Region.ready .any (o0 :: o1 :: o2 :: o3 :: l).toArray (((Array.replicate (l.length + 4) false).setIfInBounds 0 true).setIfInBounds 1 true)).contains 2 = true)
    (hf3 : Region.free .any (o0 :: o1 :: o2 :: o3 :: l).toArray ((((Array.replicate (l.length + 4) false).setIfInBounds 0 true).setIfInBounds 1 true).setIfInBounds 2 true) 3 = true) (hr3 : (Region.ready .any (o0 :: o1 :: o2 :: o3 :: l).toArray ((((Array.replicate (l.length + 4) false).setIfInBounds 0 true).setIfInBounds 1 true).setIfInBounds 2 true)).contains 3 = true)
    (ha0 : freeB o0 = true) (ha1 : freeB o1 = true) (ha2 : freeB o2 = true) (ha3 : freeB o3 = true)
    (hB : Region.lexFrom .any (stillFrom (n + 4) (o0 :: o1 :: o2 :: o3 :: l)).toArray l.length 4 (((((Array.replicate (l.length + 4) false).setIfInBounds 0 true).setIfInBounds 1 true).setIfInBounds 2 true).setIfInBounds 3 true) = true) (hb : backB 0 (o0 :: o1 :: o2 :: o3 :: l) = true) (ht : tailB 4 (n + 4) (o0 :: o1 :: o2 :: o3 :: l) = true) (hn : n < l.length)
    (a1 a2 a3 a4 : Act) (e1 : a1 = a.put o0.dst (a.eval x0)) (e2 : a2 = a1.put o1.dst (a1.eval x1)) (e3 : a3 = a2.put o2.dst (a2.eval x2)) (e4 : a4 = a3.put o3.dst (a3.eval x3))
    (h : wpQuiet P (stillFrom (n + 4) (o0 :: o1 :: o2 :: o3 :: l)).toArray (fun w' => ∃ m, w' = w.drewN m) (fun a' => ∀ w', (∃ m, w' = w.drewN m) → wpList P (o0 :: o1 :: o2 :: o3 :: l).toArray Q (l.drop n) a' w') (stillFrom n l) a4) : (Code.region id (o0 :: o1 :: o2 :: o3 :: l).toArray true).wp P Q a w := by
  refine wp_region_any hm ?_
  show wpAny P .any (o0 :: o1 :: o2 :: o3 :: l).toArray Q (l.length + 4) (Array.replicate (l.length + 4) false) a _
  refine wpAny_take (i := 0) (oi := o0) (v := a.eval x0) rfl hs hf0 hr0 (fun c a w => hQ0 c a w _) (Or.inl ⟨by unfold Region.wanted; rw [hg0], fun w => BigFrame.run_move x0 hx0 w⟩) ?_
  rw [← e1]
  refine wpAny_take (i := 1) (oi := o1) (v := a1.eval x1) rfl hs hf1 hr1 (fun c a w => hQ1 c a w _) (Or.inl ⟨by unfold Region.wanted; rw [hg1], fun w => BigFrame.run_move x1 hx1 w⟩) ?_
  rw [← e2]
  refine wpAny_take (i := 2) (oi := o2) (v := a2.eval x2) rfl hs hf2 hr2 (fun c a w => hQ2 c a w _) (Or.inl ⟨by unfold Region.wanted; rw [hg2], fun w => BigFrame.run_move x2 hx2 w⟩) ?_
  rw [← e3]
  refine wpAny_take (i := 3) (oi := o3) (v := a3.eval x3) rfl hs hf3 hr3 (fun c a w => hQ3 c a w _) (Or.inl ⟨by unfold Region.wanted; rw [hg3], fun w => BigFrame.run_move x3 hx3 w⟩) ?_
  rw [← e4]
  have gd : ∀ j, 4 ≤ j → j < l.length + 4 → (((((Array.replicate (l.length + 4) false).setIfInBounds 0 true).setIfInBounds 1 true).setIfInBounds 2 true).setIfInBounds 3 true).getD j true = false := fun j h4 hj => by
    rw [getD_set_ne true (by omega), getD_set_ne true (by omega), getD_set_ne true (by omega), getD_set_ne true (by omega)]
    simp [Array.getD, hj]
  refine any_of_tail (C := fun w' => ∃ m, w' = w.drewN m) hb ht (by omega) (by simp; omega) _ _ _ _ ⟨1, rfl⟩ ?_ (by simp) (fun j hj _ => ?_) (fun j hj hj2 => ?_) ?_ ?_
  · intro j oj hoj hl e he hbe
    have hj : j < l.length + 4 := by simpa using (List.getElem?_eq_some_iff.1 hoj).1
    rcases (show j = 0 ∨ j = 1 ∨ j = 2 ∨ j = 3 ∨ 4 ≤ j by omega) with rfl | rfl | rfl | rfl | h4
    · obtain rfl : o0 = oj := by simpa using hoj
      exact (freeB_said ha0 e he hbe).elim
    · obtain rfl : o1 = oj := by simpa using hoj
      exact (freeB_said ha1 e he hbe).elim
    · obtain rfl : o2 = oj := by simpa using hoj
      exact (freeB_said ha2 e he hbe).elim
    · obtain rfl : o3 = oj := by simpa using hoj
      exact (freeB_said ha3 e he hbe).elim
    · rw [gd j h4 hj] at hl
      cases hl
  · rcases (show j = 0 ∨ j = 1 ∨ j = 2 ∨ j = 3 by omega) with rfl | rfl | rfl | rfl <;> simp [Array.getD]
  · exact gd j (by omega) (by simpa using hj2)
  · have u0 : (Array.replicate (l.length + 4) false).getD 0 true = false := by simp [Array.getD]
    have u1 : ((Array.replicate (l.length + 4) false).setIfInBounds 0 true).getD 1 true = false := by rw [getD_set_ne true (by omega)]; simp [Array.getD]
    have u2 : (((Array.replicate (l.length + 4) false).setIfInBounds 0 true).setIfInBounds 1 true).getD 2 true = false := by rw [getD_set_ne true (by omega), getD_set_ne true (by omega)]; simp [Array.getD]
    have u3 : ((((Array.replicate (l.length + 4) false).setIfInBounds 0 true).setIfInBounds 1 true).setIfInBounds 2 true).getD 3 true = false := by rw [getD_set_ne true (by omega), getD_set_ne true (by omega), getD_set_ne true (by omega)]; simp [Array.getD]
    have v0 := unl_set (n := (o0 :: o1 :: o2 :: o3 :: l).length) (i := 0) (by simp) u0
    have v1 := unl_set (n := (o0 :: o1 :: o2 :: o3 :: l).length) (i := 1) (by simp) u1
    have v2 := unl_set (n := (o0 :: o1 :: o2 :: o3 :: l).length) (i := 2) (by simp) u2
    have v3 := unl_set (n := (o0 :: o1 :: o2 :: o3 :: l).length) (i := 3) (by simp) u3
    have v4 : unl (o0 :: o1 :: o2 :: o3 :: l).length (Array.replicate (l.length + 4) false) ≤ l.length + 4 := by
      unfold unl
      exact Nat.le_trans (List.length_filter_le _ _) (by simp)
    omega
  · have := wpAnyQ_lex (P := P) (C := fun w' => ∃ m, w' = w.drewN m) (md := .any) hs' (stillFrom n l) 4 (((((Array.replicate (l.length + 4) false).setIfInBounds 0 true).setIfInBounds 1 true).setIfInBounds 2 true).setIfInBounds 3 true) a4 (fun j => by
      simp only [stillFrom, List.getElem?_toArray]
      rw [Nat.add_comm 4 j]
      rfl) (by rw [stillFrom_len]; exact hB) h
    rw [stillFrom_len] at this
    exact this
end
end Go.Proofs.YtbecdlibckbbcabDoor
