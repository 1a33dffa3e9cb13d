/- Whole numbers of the reference: signs, sums, quotients. -/
/- Whole numbers of the reference: differences and quotients. -/
/- Whole numbers of the reference: the quotient downwards. -/
import Derived.Test.YtnaiahjgdakneaaGreatDoorBgc
import Derived.Test.YtnaiahjgdakneaaGreatDoorIntd
import Derived.Deep.RegionHeld3
import Derived.Test.YtnaiahjgdakneaaGreatDoorInte
namespace Go.Proofs.YtnaiahjgdakneaaGreatDoor
open Go.RowKit Num
open Go.Lib (decDigits)

/-- the sign p and the digits S are the number A's. -/
def RI (p : Bool) (S : ByteArray) (A : Int) : Prop := p = decide (A < 0) ∧ S = dt A.natAbs
theorem dt_zero (a : Nat) : ((dt a).toList == [48]) = decide (a = 0) := by
  have e0 : decDigits 0 = [48] := by decide +kernel
  rw [dt_toList]
  by_cases h : a = 0
  · subst h; rw [e0]; rfl
  · rw [decide_eq_false h, beq_eq_false_iff_ne]
    intro e
    rw [← e0] at e
    have := congrArg dval e
    rw [dval_dec, dval_dec] at this
    exact h this
theorem RI.zero {p : Bool} {S : ByteArray} {A : Int} (h : RI p S A) : (S.toList == [48]) = decide (A = 0) := by
  rw [h.2, dt_zero]
  by_cases h : A = 0
  · rw [decide_eq_true h, decide_eq_true (by omega)]
  · rw [decide_eq_false h, decide_eq_false (by omega)]
theorem RI.made {p : Bool} {S : ByteArray} {A : Int} (a : Nat) (hS : S = dt a) (hA : A = sg p a) : RI (p && !(S.toList == [48])) S A := by
  subst hS hA
  rw [dt_zero]
  unfold RI sg
  by_cases h : a = 0
  · subst h; cases p <;> simp
  · rw [decide_eq_false h]
    cases p
    · refine ⟨?_, ?_⟩
      · simp
      · simp
    · refine ⟨?_, ?_⟩
      · simp; omega
      · simp
set_option maxHeartbeats 800000 in
theorem rsign_any (p : Bool) (S : ByteArray) (A : Int) (w : World) (h : RI p S A) :
    Calls Tryz.prog 15 #[.agg #[.bool p, .string S]] w fun e w' => e = .returned (.int .i64 (sgn A)) ∧ Below w.heap.size w w' := by
  have hz := h.zero
  have hp := h.1
  have HS : Hid (sgn A = if A = 0 then 0 else if p then -1 else 1) := by
    show _ = _
    unfold sgn
    rw [hp]
    by_cases h0 : A < 0
    · rw [if_pos h0, if_neg (by omega), if_pos (decide_eq_true h0)]
    · rw [if_neg h0]
      by_cases h1 : A = 0
      · rw [if_pos h1, if_pos h1]
      · rw [if_neg h1, if_neg h1, if_neg (by simpa using h0)]
  rw [HS.out]
  clear h HS hp
  by_cases h0 : A = 0
  · rw [decide_eq_true h0] at hz
    rw [if_pos h0]
    clear h0
    go_enter Tryz.func15, Tryz.ntmps15
    go_wp2
    go_ret
    exact ⟨rfl, below_new w _⟩
  · rw [decide_eq_false h0] at hz
    rw [if_neg h0]
    have hz' : ¬ S.toList = [48] := by simpa using hz
    clear h0
    go_enter Tryz.func15, Tryz.ntmps15
    cases p
    · go_wp2
      go_ret
      exact ⟨rfl, below_new w _⟩
    · go_wp2
      go_ret
      exact ⟨rfl, below_new w _⟩
set_option maxHeartbeats 800000 in
theorem rneg_any (p : Bool) (S : ByteArray) (A : Int) (w : World) (h : RI p S A) :
    Calls Tryz.prog 49 #[.agg #[.bool p, .string S]] w fun e w' => (∃ p', e = .returned (.agg #[.bool p', .string S]) ∧ RI p' S (-A)) ∧ Below w.heap.size w w' := by
  have h0 : Below w.heap.size w ((w.alloc (.cells #[.bool p, .string S] 40)).alloc (.cells #[.bool false, .string ⟨#[]⟩] 40)) := bt (below_new w _) (below_new _ _)
  have B0 := hid h0
  have M : Hid (RI (!p && !(S.toList == [48])) S (-A)) := RI.made A.natAbs h.2 (by rw [h.1]; by_cases hA : A < 0 <;> simp [hA, sg] <;> omega)
  have G0 : Hid (Blk ((w.alloc (.cells #[.bool p, .string S] 40)).alloc (.cells #[.bool false, .string ⟨#[]⟩] 40)) (w.heap.size + 1) #[.bool false, .string ⟨#[]⟩] 40) := by
    have := Blk.new (w.alloc (.cells #[.bool p, .string S] 40)) #[.bool false, .string ⟨#[]⟩] 40
    rw [World.size_alloc] at this
    exact this
  clear h h0
  go_enter Tryz.func49, Tryz.ntmps49
  go_wp2_with fail
  generalize (w.alloc (.cells #[.bool p, .string S] 40)).alloc (.cells #[.bool false, .string ⟨#[]⟩] 40) = wa at *
  refine (made_any _ S wa).mono ?_
  rintro e w1 ⟨rfl, C1⟩
  generalize (!p && !(S.toList == [48])) = p' at *
  have G1 := hid (G0.out.go2 C1)
  have B1 := hid (bt B0.out C1)
  obtain ⟨c0, c1, f0, f1, l0⟩ := Blk.two G1.out
  clear C1 G0 B0
  go_wp2
  refine bodyPost_ret (ret_ref (Blk.set2 G1.out) rfl rfl) rfl ?_
  exact ⟨⟨p', rfl, M.out⟩, B1.out.trans ((only_two _ _ _ _).below (by omega))⟩
/-- two numbers of the reference in their variables, and one for the answer. -/
structure Rf2 (W : World) (g : Nat) (p : Bool) (S : ByteArray) (q : Bool) (U : ByteArray) (w : World) : Prop where
  old : Below W.heap.size W w
  fx : Blk w g #[.bool p, .string S] 40
  fy : Blk w (g + 1) #[.bool q, .string U] 40
  fr : Blk w (g + 2) #[.bool false, .string ⟨#[]⟩] 40
theorem Rf2.go {W w w' : World} {g : Nat} {p q : Bool} {S U : ByteArray} (h : Rf2 W g p S q U w) (b : Below w.heap.size w w') : Rf2 W g p S q U w' :=
  ⟨bt h.old b, h.fx.go2 b, h.fy.go2 b, h.fr.go2 b⟩
theorem Rf2.new (w : World) (p : Bool) (S : ByteArray) (q : Bool) (U : ByteArray) : Rf2 w w.heap.size p S q U (((w.alloc (.cells #[.bool p, .string S] 40)).alloc (.cells #[.bool q, .string U] 40)).alloc (.cells #[.bool false, .string ⟨#[]⟩] 40)) := by
  refine ⟨bt (bt (below_new w _) (below_new _ _)) (below_new _ _), ((Blk.new _ _ _).go2 (below_new _ _)).go2 (below_new _ _), ?_, ?_⟩
  · have := (Blk.new (w.alloc (.cells #[.bool p, .string S] 40)) #[.bool q, .string U] 40).go2 (below_new _ (.cells #[.bool false, .string ⟨#[]⟩] 40))
    rw [World.size_alloc] at this
    exact this
  · have := Blk.new ((w.alloc (.cells #[.bool p, .string S] 40)).alloc (.cells #[.bool q, .string U] 40)) #[.bool false, .string ⟨#[]⟩] 40
    rw [World.size_alloc, World.size_alloc] at this
    exact this
theorem Rf2.cells {W w : World} {g : Nat} {p q : Bool} {S U : ByteArray} (h : Rf2 W g p S q U w) : w.cell? ⟨g, 0, none⟩ = some (.bool p) ∧ w.cell? ⟨g, 1, none⟩ = some (.string S) ∧ w.cell? ⟨g + 1, 0, none⟩ = some (.bool q) ∧ w.cell? ⟨g + 1, 1, none⟩ = some (.string U) :=
  ⟨(Blk.two h.fx).1, (Blk.two h.fx).2.1, (Blk.two h.fy).1, (Blk.two h.fy).2.1⟩
theorem Rf2.stored {W w : World} {g : Nat} {p q : Bool} {S U : ByteArray} (h : Rf2 W g p S q U w) (u v : Value) : ((w.setCell ⟨g + 1 + 1, 0, none⟩ u).setCell ⟨g + 1 + 1, 1, none⟩ v).cell? ⟨g, 0, none⟩ = some (.bool p) ∧ ((w.setCell ⟨g + 1 + 1, 0, none⟩ u).setCell ⟨g + 1 + 1, 1, none⟩ v).cell? ⟨g, 1, none⟩ = some (.string S) ∧ ((w.setCell ⟨g + 1 + 1, 0, none⟩ u).setCell ⟨g + 1 + 1, 1, none⟩ v).cell? ⟨g + 1, 0, none⟩ = some (.bool q) ∧ ((w.setCell ⟨g + 1 + 1, 0, none⟩ u).setCell ⟨g + 1 + 1, 1, none⟩ v).cell? ⟨g + 1, 1, none⟩ = some (.string U) := by
  have O := only_two (g + 1 + 1) w u v
  have x := Blk.two (h.fx.only O (by omega))
  have y := Blk.two (h.fy.only O (by omega))
  exact ⟨x.1, x.2.1, y.1, y.2.1⟩
theorem cmp_ge {a b : Nat} (h : b ≤ a) : (0 : Int) ≤ cmpI a b := by
  unfold cmpI
  rw [if_neg (by omega)]
  split <;> decide
theorem cmp_lt {a b : Nat} (h : a < b) : ¬ (0 : Int) ≤ cmpI a b := by unfold cmpI; rw [if_pos (by omega)]; decide
theorem sg_decide (A : Int) : sg (decide (A < 0)) (A.natAbs : Nat) = A := by unfold sg; by_cases h : A < 0 <;> simp [h] <;> omega
set_option maxHeartbeats 1600000 in
set_option maxRecDepth 100000 in
theorem rzadd_any (p : Bool) (S : ByteArray) (A : Int) (q : Bool) (U : ByteArray) (B : Int) (w : World) (hA : RI p S A) (hB : RI q U B) (hS : S.size ≤ 100000) (hU : U.size ≤ 100000) :
    Calls Tryz.prog 31 #[.agg #[.bool p, .string S], .agg #[.bool q, .string U]] w fun e w' => (∃ p' S', e = .returned (.agg #[.bool p', .string S']) ∧ RI p' S' (A + B)) ∧ Below w.heap.size w w' := by
  obtain ⟨hp, hS'⟩ := hA
  obtain ⟨hq, hU'⟩ := hB
  obtain ⟨a, ha⟩ : ∃ a, A.natAbs = a := ⟨_, rfl⟩
  obtain ⟨b, hb⟩ : ∃ b, B.natAbs = b := ⟨_, rfl⟩
  rw [ha] at hS'
  rw [hb] at hU'
  subst hS' hU'
  have K0 := hid (Rf2.new w p (dt a) q (dt b))
  by_cases hpq : p = q
  · subst hpq
    have HM : Hid (A + B = sg p ((a + b : Nat) : Int)) := by
      show _ = _
      rw [hp]
      have e : (A < 0) ↔ (B < 0) := by rw [hp] at hq; simpa using hq
      unfold sg; by_cases h : A < 0 <;> simp [h] <;> omega
    clear hp hq
    go_enter Tryz.func31, Tryz.ntmps31
    go_wp2_with fail
    generalize ((w.alloc (.cells #[.bool p, .string (dt a)] 40)).alloc (.cells #[.bool p, .string (dt b)] 40)).alloc (.cells #[.bool false, .string ⟨#[]⟩] 40) = wa at *
    have K0' := hid (K0.out.go (Below.refl _ _).drew)
    have H0 := K0'.out.cells
    go_region_held3 (fun W => W.cell? ⟨w.heap.size, 0, none⟩ = some (.bool p) ∧ W.cell? ⟨w.heap.size, 1, none⟩ = some (.string (dt a)) ∧ W.cell? ⟨w.heap.size + 1, 0, none⟩ = some (.bool p) ∧ W.cell? ⟨w.heap.size + 1, 1, none⟩ = some (.string (dt b))) (first | exact H0 | exact H1 | exact H9 | exact HE) (first
      | (go_at_call 50; go_must (refine (add_dt a b wa.drew hS hU).mono ?_; rintro e w1 ⟨rfl, C1⟩; have K1 := hid (K0'.out.go C1); have H1 := K1.out.cells; clear C1))
      | (go_at_call 36; go_must (refine (made_any p (dt (a + b)) w1).mono ?_; rintro e w9 ⟨rfl, C9⟩; have M := hid (RI.made (p := p) (a + b) rfl HM.out); generalize (p && !((dt (a + b)).toList == [48])) = p9 at *; have K9 := hid (K1.out.go C9); have H9 := K9.out.cells; have HE := K9.out.stored (.bool p9) (.string (dt (a + b))); obtain ⟨c0, c1, f0, f1, l0⟩ := Blk.two K9.out.fr; clear C9)))
    go_wp2
    refine bodyPost_ret (ret_ref (Blk.set2 K9.out.fr) rfl rfl) rfl ?_
    exact ⟨⟨p9, _, rfl, M.out⟩, K9.out.old.trans ((only_two _ _ _ _).below (by omega))⟩
  · have hpq' : (p == q) = false := by simpa using hpq
    by_cases hc : b ≤ a
    · have HM : Hid (A + B = sg p ((a - b : Nat) : Int)) := by
        show _ = _
        rw [hp]
        have e : ¬ ((A < 0) ↔ (B < 0)) := fun e => hpq (by rw [hp, hq]; simpa using e)
        unfold sg; by_cases h : A < 0 <;> simp [h] <;> omega
      have hcc := cmp_ge hc
      clear hp hq
      go_enter Tryz.func31, Tryz.ntmps31
      go_wp2_with fail
      generalize ((w.alloc (.cells #[.bool p, .string (dt a)] 40)).alloc (.cells #[.bool q, .string (dt b)] 40)).alloc (.cells #[.bool false, .string ⟨#[]⟩] 40) = wa at *
      refine (rcmp_any a b wa).mono ?_
      rintro e w0 ⟨rfl, rfl⟩
      generalize cmpI a b = cc at *
      go_wp2_with fail
      have K0' := hid (K0.out.go (Below.refl _ _).drew)
      have H0 := K0'.out.cells
      go_region_held3 (fun W => W.cell? ⟨w.heap.size, 0, none⟩ = some (.bool p) ∧ W.cell? ⟨w.heap.size, 1, none⟩ = some (.string (dt a)) ∧ W.cell? ⟨w.heap.size + 1, 0, none⟩ = some (.bool q) ∧ W.cell? ⟨w.heap.size + 1, 1, none⟩ = some (.string (dt b))) (first | exact H0 | exact H1 | exact H9 | exact HE) (first
        | (go_at_call 52; go_must (refine (rsub_any a b w0.drew (by omega) hc).mono ?_; rintro e w1 ⟨rfl, C1⟩; have K1 := hid (K0'.out.go C1); have H1 := K1.out.cells; clear C1))
        | (go_at_call 36; go_must (refine (made_any p (dt (a - b)) w1).mono ?_; rintro e w9 ⟨rfl, C9⟩; have M := hid (RI.made (p := p) (a - b) rfl HM.out); generalize (p && !((dt (a - b)).toList == [48])) = p9 at *; have K9 := hid (K1.out.go C9); have H9 := K9.out.cells; have HE := K9.out.stored (.bool p9) (.string (dt (a - b))); obtain ⟨c0, c1, f0, f1, l0⟩ := Blk.two K9.out.fr; clear C9)))
      go_wp2
      refine bodyPost_ret (ret_ref (Blk.set2 K9.out.fr) rfl rfl) rfl ?_
      exact ⟨⟨p9, _, rfl, M.out⟩, K9.out.old.trans ((only_two _ _ _ _).below (by omega))⟩
    · have HM : Hid (A + B = sg q ((b - a : Nat) : Int)) := by
        show _ = _
        rw [hq]
        have e : ¬ ((A < 0) ↔ (B < 0)) := fun e => hpq (by rw [hp, hq]; simpa using e)
        unfold sg; by_cases h : B < 0 <;> simp [h] <;> omega
      have hcc := cmp_lt (show a < b by omega)
      clear hp hq
      go_enter Tryz.func31, Tryz.ntmps31
      go_wp2_with fail
      generalize ((w.alloc (.cells #[.bool p, .string (dt a)] 40)).alloc (.cells #[.bool q, .string (dt b)] 40)).alloc (.cells #[.bool false, .string ⟨#[]⟩] 40) = wa at *
      refine (rcmp_any a b wa).mono ?_
      rintro e w0 ⟨rfl, rfl⟩
      generalize cmpI a b = cc at *
      go_wp2_with fail
      have K0' := hid (K0.out.go (Below.refl _ _).drew)
      have H0 := K0'.out.cells
      go_region_held3 (fun W => W.cell? ⟨w.heap.size, 0, none⟩ = some (.bool p) ∧ W.cell? ⟨w.heap.size, 1, none⟩ = some (.string (dt a)) ∧ W.cell? ⟨w.heap.size + 1, 0, none⟩ = some (.bool q) ∧ W.cell? ⟨w.heap.size + 1, 1, none⟩ = some (.string (dt b))) (first | exact H0 | exact H1 | exact H9 | exact HE) (first
        | (go_at_call 52; go_must (refine (rsub_any b a w0.drew (by omega) (by omega)).mono ?_; rintro e w1 ⟨rfl, C1⟩; have K1 := hid (K0'.out.go C1); have H1 := K1.out.cells; clear C1))
        | (go_at_call 36; go_must (refine (made_any q (dt (b - a)) w1).mono ?_; rintro e w9 ⟨rfl, C9⟩; have M := hid (RI.made (p := q) (b - a) rfl HM.out); generalize (q && !((dt (b - a)).toList == [48])) = p9 at *; have K9 := hid (K1.out.go C9); have H9 := K9.out.cells; have HE := K9.out.stored (.bool p9) (.string (dt (b - a))); obtain ⟨c0, c1, f0, f1, l0⟩ := Blk.two K9.out.fr; clear C9)))
      go_wp2
      refine bodyPost_ret (ret_ref (Blk.set2 K9.out.fr) rfl rfl) rfl ?_
      exact ⟨⟨p9, _, rfl, M.out⟩, K9.out.old.trans ((only_two _ _ _ _).below (by omega))⟩
end Go.Proofs.YtnaiahjgdakneaaGreatDoor
namespace Go.Proofs.YtnaiahjgdakneaaGreatDoor
open Go.RowKit Num
open Go.Lib (decDigits)
set_option maxHeartbeats 1600000 in
set_option maxRecDepth 100000 in
theorem rzsub_any (p : Bool) (S : ByteArray) (A : Int) (q : Bool) (U : ByteArray) (B : Int) (w : World) (hA : RI p S A) (hB : RI q U B) (hS : S.size ≤ 100000) (hU : U.size ≤ 100000) :
    Calls Tryz.prog 30 #[.agg #[.bool p, .string S], .agg #[.bool q, .string U]] w fun e w' => (∃ p' S', e = .returned (.agg #[.bool p', .string S']) ∧ RI p' S' (A - B)) ∧ Below w.heap.size w w' := by
  have K0 := hid (Rf2.new w p S q U)
  have HA := hid hA
  have HB := hid hB
  clear hA hB
  go_enter Tryz.func30, Tryz.ntmps30
  go_wp2_with fail
  generalize ((w.alloc (.cells #[.bool p, .string S] 40)).alloc (.cells #[.bool q, .string U] 40)).alloc (.cells #[.bool false, .string ⟨#[]⟩] 40) = wa at *
  have K0' := hid (K0.out.go (Below.refl _ _).drew)
  have H0 := K0'.out.cells
  go_region_held3 (fun W => W.cell? ⟨w.heap.size, 0, none⟩ = some (.bool p) ∧ W.cell? ⟨w.heap.size, 1, none⟩ = some (.string S) ∧ W.cell? ⟨w.heap.size + 1, 0, none⟩ = some (.bool q) ∧ W.cell? ⟨w.heap.size + 1, 1, none⟩ = some (.string U)) (first | exact H0 | exact H1 | exact H9 | exact HE) (first
    | (go_at_call 49; go_must (refine (rneg_any q U B wa.drew HB.out).mono ?_; rintro e w1 ⟨⟨p1, rfl, m1⟩, C1⟩; have M1 := hid m1; have K1 := hid (K0'.out.go C1); have H1 := K1.out.cells; clear C1 m1))
    | (go_at_call 31; go_must (refine (rzadd_any p S A p1 U (-B) w1 HA.out M1.out hS hU).mono ?_; rintro e w9 ⟨⟨p9, S9, rfl, m9⟩, C9⟩; have M := hid m9; have K9 := hid (K1.out.go C9); have H9 := K9.out.cells; have HE := K9.out.stored (.bool p9) (.string S9); obtain ⟨c0, c1, f0, f1, l0⟩ := Blk.two K9.out.fr; clear C9 m9)))
  go_wp2
  refine bodyPost_ret (ret_ref (Blk.set2 K9.out.fr) rfl rfl) rfl ?_
  exact ⟨⟨p9, _, rfl, by rw [Int.sub_eq_add_neg]; exact M.out⟩, K9.out.old.trans ((only_two _ _ _ _).below (by omega))⟩
theorem Rf2.stored2 {W w : World} {g : Nat} {p q : Bool} {S U : ByteArray} (h : Rf2 W g p S q U w) (u v u' v' : Value) : ((((w.setCell ⟨g + 1 + 1, 0, none⟩ u).setCell ⟨g + 1 + 1, 1, none⟩ v).setCell ⟨g + 1 + 1 + 1, 0, none⟩ u').setCell ⟨g + 1 + 1 + 1, 1, none⟩ v').cell? ⟨g, 0, none⟩ = some (.bool p) ∧ ((((w.setCell ⟨g + 1 + 1, 0, none⟩ u).setCell ⟨g + 1 + 1, 1, none⟩ v).setCell ⟨g + 1 + 1 + 1, 0, none⟩ u').setCell ⟨g + 1 + 1 + 1, 1, none⟩ v').cell? ⟨g, 1, none⟩ = some (.string S) ∧ ((((w.setCell ⟨g + 1 + 1, 0, none⟩ u).setCell ⟨g + 1 + 1, 1, none⟩ v).setCell ⟨g + 1 + 1 + 1, 0, none⟩ u').setCell ⟨g + 1 + 1 + 1, 1, none⟩ v').cell? ⟨g + 1, 0, none⟩ = some (.bool q) ∧ ((((w.setCell ⟨g + 1 + 1, 0, none⟩ u).setCell ⟨g + 1 + 1, 1, none⟩ v).setCell ⟨g + 1 + 1 + 1, 0, none⟩ u').setCell ⟨g + 1 + 1 + 1, 1, none⟩ v').cell? ⟨g + 1, 1, none⟩ = some (.string U) := by
  have O := only_two (g + 1 + 1) w u v
  have O2 := only_two (g + 1 + 1 + 1) ((w.setCell ⟨g + 1 + 1, 0, none⟩ u).setCell ⟨g + 1 + 1, 1, none⟩ v) u' v'
  have x := Blk.two ((h.fx.only O (by omega)).only O2 (by omega))
  have y := Blk.two ((h.fy.only O (by omega)).only O2 (by omega))
  exact ⟨x.1, x.2.1, y.1, y.2.1⟩
theorem ret_ref22 {fn : Func} {tmps : Array Value} {w : World} {t t' : Tmp} {g g' : Nat} {p p' : Bool} {S S' : ByteArray} (hv : Blk w g #[.bool p, .string S] 40) (hv' : Blk w g' #[.bool p', .string S'] 40) (h : fn.results = #[.cell t 40, .cell t' 40])
    (ht : tmps[t]?.getD undef = .pointer (some ⟨g, 0, none⟩)) (ht' : tmps[t']?.getD undef = .pointer (some ⟨g', 0, none⟩)) :
    (results fn tmps).run Tryz.prog w = .ok (.tuple #[.agg #[.bool p, .string S], .agg #[.bool p', .string S']]) w := by
  obtain ⟨c0, c1, _⟩ := hv.two
  obtain ⟨d0, d1, _⟩ := hv'.two
  simp [results, h, go_sem, ht, ht', c0, c1, d0, d1]
theorem size_quo (a b : Nat) : (dt (a / b)).size ≤ (dt a).size := by rw [dt_size, dt_size]; exact len_le (Nat.div_le_self a b)
theorem size_rem (a : Nat) {b : Nat} (h : 0 < b) : (dt (a % b)).size ≤ (dt b).size := by rw [dt_size, dt_size]; exact len_le (Nat.le_of_lt (Nat.mod_lt a h))
/-- what the reference's quotients answer. -/
def RQ (I : Int → Int → Prop) (n m : Nat) (e : Ending) : Prop := ∃ p1 S1 p2 S2 Q R, e = .returned (.tuple #[.agg #[.bool p1, .string S1], .agg #[.bool p2, .string S2]]) ∧ RI p1 S1 Q ∧ RI p2 S2 R ∧ I Q R ∧ S1.size ≤ n ∧ S2.size ≤ m
set_option maxHeartbeats 1600000 in
set_option maxRecDepth 100000 in
theorem rquo_any (p : Bool) (S : ByteArray) (A : Int) (q : Bool) (U : ByteArray) (B : Int) (w : World) (hA : RI p S A) (hB : RI q U B) (hS : S.size ≤ 100000) (hU : U.size ≤ 100000) (h0 : B ≠ 0) :
    Calls Tryz.prog 17 #[.agg #[.bool p, .string S], .agg #[.bool q, .string U]] w fun e w' => RQ (QuoIs A B) S.size U.size e ∧ Below w.heap.size w w' := by
  obtain ⟨hp, hS'⟩ := hA
  obtain ⟨hq, hU'⟩ := hB
  obtain ⟨a, ha⟩ : ∃ a, A.natAbs = a := ⟨_, rfl⟩
  obtain ⟨b, hb⟩ : ∃ b, B.natAbs = b := ⟨_, rfl⟩
  have eA : A = sg p (a : Int) := by rw [hp, ← ha]; exact (sg_decide A).symm
  have eB : B = sg q (b : Int) := by rw [hq, ← hb]; exact (sg_decide B).symm
  rw [ha] at hS'
  rw [hb] at hU'
  have b0 : 0 < b := by omega
  have HQ : Hid (QuoIs A B (sg (p != q) ((a / b : Nat) : Int)) (sg p ((a % b : Nat) : Int))) := by
    rw [eA, eB]
    refine quo_is p q a b _ _ (by omega) (by omega) ?_ (Int.natCast_nonneg _) (by have := Nat.mod_lt a b0; omega) (Int.natCast_nonneg _) (fun h => ?_)
    · have := Nat.div_add_mod a b
      rw [← Int.natCast_mul, ← Int.natCast_add]
      congr 1
      rw [Nat.mul_comm]; exact this
    · rw [h] at hp
      have : A < 0 := by simpa using hp.symm
      omega
  subst hS' hU'
  have SQ := size_quo a b
  have SR := size_rem a b0
  have V1 := hid (Rf2.new w p (dt a) q (dt b))
  have K0 := hid (V1.out.go (below_new _ (.cells #[.bool false, .string ⟨#[]⟩] 40)))
  have G0 : Hid (Blk ((((w.alloc (.cells #[.bool p, .string (dt a)] 40)).alloc (.cells #[.bool q, .string (dt b)] 40)).alloc (.cells #[.bool false, .string ⟨#[]⟩] 40)).alloc (.cells #[.bool false, .string ⟨#[]⟩] 40)) (w.heap.size + 1 + 1 + 1) #[.bool false, .string ⟨#[]⟩] 40) := by
    have := Blk.new (((w.alloc (.cells #[.bool p, .string (dt a)] 40)).alloc (.cells #[.bool q, .string (dt b)] 40)).alloc (.cells #[.bool false, .string ⟨#[]⟩] 40)) #[.bool false, .string ⟨#[]⟩] 40
    rw [World.size_alloc, World.size_alloc, World.size_alloc] at this
    exact this
  clear hp hq ha hb eA eB h0 V1
  go_enter Tryz.func17, Tryz.ntmps17
  go_wp2_with fail
  generalize (((w.alloc (.cells #[.bool p, .string (dt a)] 40)).alloc (.cells #[.bool q, .string (dt b)] 40)).alloc (.cells #[.bool false, .string ⟨#[]⟩] 40)).alloc (.cells #[.bool false, .string ⟨#[]⟩] 40) = wa at *
  refine (rdiv_any a b wa b0 hS hU).mono ?_
  rintro e w1 ⟨rfl, C1⟩
  have K1 := hid ((K0.out.go C1).go (Below.refl _ _).drew)
  have G1 := hid ((G0.out.go2 C1).go2 (Below.refl _ _).drew)
  have H0 := K1.out.cells
  obtain ⟨Sq, hSq⟩ : ∃ x, x = dt (a / b) := ⟨_, rfl⟩
  obtain ⟨Sr, hSr⟩ : ∃ x, x = dt (a % b) := ⟨_, rfl⟩
  rw [← hSq, ← hSr]
  have HSq := hid hSq
  have HSr := hid hSr
  clear C1 K0 G0 hSq hSr
  go_wp2_with fail
  go_region_held3 (fun W => W.cell? ⟨w.heap.size, 0, none⟩ = some (.bool p) ∧ W.cell? ⟨w.heap.size, 1, none⟩ = some (.string (dt a)) ∧ W.cell? ⟨w.heap.size + 1, 0, none⟩ = some (.bool q) ∧ W.cell? ⟨w.heap.size + 1, 1, none⟩ = some (.string (dt b))) (first | exact H0 | exact H1 | exact H9 | exact HE | exact HF) (first
    | (go_at_call_of 36 Sq; go_must (refine (made_any (p != q) Sq w1.drew).mono ?_; rintro e w2 ⟨rfl, C2⟩; have M1 := hid (RI.made (p := p != q) (a / b) HSq.out rfl); generalize ((p != q) && !(Sq.toList == [48])) = p2 at *; have K2 := hid (K1.out.go C2); have G2 := hid (G1.out.go2 C2); have H1 := K2.out.cells; clear C2))
    | (go_at_call_of 36 Sr; go_must (refine (made_any p Sr w2).mono ?_; rintro e w9 ⟨rfl, C9⟩; have M := hid (RI.made (p := p) (a % b) HSr.out rfl); generalize (p && !(Sr.toList == [48])) = p9 at *; have K9 := hid (K2.out.go C9); have G9 := hid (G2.out.go2 C9); have H9 := K9.out.cells; obtain ⟨c0, c1, f0, f1, l0⟩ := Blk.two K9.out.fr; have HE := K9.out.stored (.bool p2) (.string Sq); have HF := K9.out.stored2 (.bool p2) (.string Sq) (.bool p9) (.string Sr); have O1 := hid (only_two (w.heap.size + 1 + 1) w9 (.bool p2) (.string Sq)); have G8 := hid (G9.out.only O1.out (by omega)); obtain ⟨d0, d1, e0, e1, l1⟩ := Blk.two G8.out; clear C9)))
  go_wp2
  have O2 := only_two (w.heap.size + 1 + 1 + 1) ((w9.setCell ⟨w.heap.size + 1 + 1, 0, none⟩ (.bool p2)).setCell ⟨w.heap.size + 1 + 1, 1, none⟩ (.string Sq)) (.bool p9) (.string Sr)
  refine bodyPost_ret (ret_ref22 ((Blk.set2 K9.out.fr).only O2 (by omega)) (Blk.set2 G8.out) rfl rfl rfl) rfl ?_
  exact ⟨⟨p2, Sq, p9, Sr, _, _, rfl, M1.out, M.out, HQ.out, by rw [HSq.out]; exact SQ, by rw [HSr.out]; exact SR⟩, (K9.out.old.trans (O1.out.below (by omega))).trans (O2.below (by omega))⟩
end Go.Proofs.YtnaiahjgdakneaaGreatDoor
namespace Go.Proofs.YtnaiahjgdakneaaGreatDoor
open Go.RowKit Num
open Go.Lib (decDigits)
/-- the reference's DivMod: its arguments, its answers, q and left. -/
structure Rf4 (W : World) (g h : Nat) (p : Bool) (S : ByteArray) (q : Bool) (U : ByteArray) (p1 : Bool) (S1 : ByteArray) (p2 : Bool) (S2 : ByteArray) (w : World) : Prop where
  old : Below W.heap.size W w
  fx : Blk w g #[.bool p, .string S] 40
  fy : Blk w (g + 1) #[.bool q, .string U] 40
  fr : Blk w (g + 2) #[.bool false, .string ⟨#[]⟩] 40
  fs : Blk w (g + 3) #[.bool false, .string ⟨#[]⟩] 40
  fq : Blk w h #[.bool p1, .string S1] 40
  fl : Blk w (h + 1) #[.bool p2, .string S2] 40
theorem Rf4.go {W w w' : World} {g h : Nat} {p q p1 p2 : Bool} {S U S1 S2 : ByteArray} (r : Rf4 W g h p S q U p1 S1 p2 S2 w) (b : Below w.heap.size w w') : Rf4 W g h p S q U p1 S1 p2 S2 w' :=
  ⟨bt r.old b, r.fx.go2 b, r.fy.go2 b, r.fr.go2 b, r.fs.go2 b, r.fq.go2 b, r.fl.go2 b⟩
theorem Rf4.new {W w : World} {g : Nat} {p q : Bool} {S U : ByteArray} (r : Rf2 W g p S q U w) (fs : Blk w (g + 3) #[.bool false, .string ⟨#[]⟩] 40) (p1 : Bool) (S1 : ByteArray) (p2 : Bool) (S2 : ByteArray) :
    Rf4 W g w.heap.size p S q U p1 S1 p2 S2 ((w.alloc (.cells #[.bool p1, .string S1] 40)).alloc (.cells #[.bool p2, .string S2] 40)) := by
  have b : Below w.heap.size w ((w.alloc (.cells #[.bool p1, .string S1] 40)).alloc (.cells #[.bool p2, .string S2] 40)) := bt (below_new w _) (below_new _ _)
  refine ⟨bt r.old b, r.fx.go2 b, r.fy.go2 b, r.fr.go2 b, fs.go2 b, Blk.go2 (Blk.new _ _ _) (below_new _ _), ?_⟩
  have := Blk.new (w.alloc (.cells #[.bool p1, .string S1] 40)) #[.bool p2, .string S2] 40
  rw [World.size_alloc] at this
  exact this
theorem Rf4.setq {W w : World} {g h : Nat} {p q p1 p2 : Bool} {S U S1 S2 : ByteArray} (r : Rf4 W g h p S q U p1 S1 p2 S2 w) (hl : g + 3 < h) (hW : W.heap.size = g) (p6 : Bool) (S6 : ByteArray) :
    Rf4 W g h p S q U p6 S6 p2 S2 ((w.setCell ⟨h, 0, none⟩ (.bool p6)).setCell ⟨h, 1, none⟩ (.string S6)) := by
  have O := only_two h w (.bool p6) (.string S6)
  exact ⟨r.old.trans (O.below (by omega)), r.fx.only O (by omega), r.fy.only O (by omega), r.fr.only O (by omega), r.fs.only O (by omega), Blk.set2 r.fq, r.fl.only O (by omega)⟩
theorem Rf4.setl {W w : World} {g h : Nat} {p q p1 p2 : Bool} {S U S1 S2 : ByteArray} (r : Rf4 W g h p S q U p1 S1 p2 S2 w) (hl : g + 3 < h) (hW : W.heap.size = g) (p6 : Bool) (S6 : ByteArray) :
    Rf4 W g h p S q U p1 S1 p6 S6 ((w.setCell ⟨h + 1, 0, none⟩ (.bool p6)).setCell ⟨h + 1, 1, none⟩ (.string S6)) := by
  have O := only_two (h + 1) w (.bool p6) (.string S6)
  exact ⟨r.old.trans (O.below (by omega)), r.fx.only O (by omega), r.fy.only O (by omega), r.fr.only O (by omega), r.fs.only O (by omega), r.fq.only O (by omega), Blk.set2 r.fl⟩
theorem ri_one : RI false ⟨#[49]⟩ 1 := by
  refine ⟨by decide, ?_⟩
  unfold dt
  rw [show decDigits (1 : Int).natAbs = [49] by decide +kernel]
theorem sgn_ne2 {R : Int} (h : R ≠ 0) : ¬ sgn R = 0 := by
  unfold sgn
  by_cases h1 : R < 0
  · rw [if_pos h1]; decide
  · rw [if_neg h1, if_neg h]; decide
theorem sgn_eq {R B : Int} (h : R ≠ 0) (h' : B ≠ 0) (e : R < 0 ↔ B < 0) : sgn R = sgn B := by
  unfold sgn
  by_cases h1 : R < 0
  · rw [if_pos h1, if_pos (e.1 h1)]
  · rw [if_neg h1, if_neg (fun x => h1 (e.2 x)), if_neg h, if_neg h']
theorem sgn_far {R B : Int} (h : R ≠ 0) (h' : B ≠ 0) (e : ¬ (R < 0 ↔ B < 0)) : ¬ sgn R = sgn B := by
  unfold sgn
  by_cases h1 : R < 0
  · rw [if_pos h1, if_neg (fun x => e ⟨fun _ => x, fun _ => h1⟩), if_neg h']; decide
  · rw [if_neg h1, if_neg h, if_pos (show B < 0 by omega)]; decide
set_option maxHeartbeats 6400000 in
set_option maxRecDepth 100000 in
theorem rdivm_any (p : Bool) (S : ByteArray) (A : Int) (q : Bool) (U : ByteArray) (B : Int) (w : World) (hA : RI p S A) (hB : RI q U B) (hS : S.size ≤ 90000) (hU : U.size ≤ 90000) (h0 : B ≠ 0) :
    Calls Tryz.prog 12 #[.agg #[.bool p, .string S], .agg #[.bool q, .string U]] w fun e w' => (∃ p1 S1 p2 S2 Q R, e = .returned (.tuple #[.agg #[.bool p1, .string S1], .agg #[.bool p2, .string S2]]) ∧ RI p1 S1 Q ∧ RI p2 S2 R ∧ DivIs A B Q R) ∧ Below w.heap.size w w' := by
  have V1 := hid (Rf2.new w p S q U)
  have K0 := hid (V1.out.go (below_new _ (.cells #[.bool false, .string ⟨#[]⟩] 40)))
  have G0 : Hid (Blk ((((w.alloc (.cells #[.bool p, .string S] 40)).alloc (.cells #[.bool q, .string U] 40)).alloc (.cells #[.bool false, .string ⟨#[]⟩] 40)).alloc (.cells #[.bool false, .string ⟨#[]⟩] 40)) (w.heap.size + 1 + 1 + 1) #[.bool false, .string ⟨#[]⟩] 40) := by
    have := Blk.new (((w.alloc (.cells #[.bool p, .string S] 40)).alloc (.cells #[.bool q, .string U] 40)).alloc (.cells #[.bool false, .string ⟨#[]⟩] 40)) #[.bool false, .string ⟨#[]⟩] 40
    rw [World.size_alloc, World.size_alloc, World.size_alloc] at this
    exact this
  have HA := hid hA
  have HB := hid hB
  clear hA hB V1
  go_enter Tryz.func12, Tryz.ntmps12
  go_wp2_with fail
  generalize (((w.alloc (.cells #[.bool p, .string S] 40)).alloc (.cells #[.bool q, .string U] 40)).alloc (.cells #[.bool false, .string ⟨#[]⟩] 40)).alloc (.cells #[.bool false, .string ⟨#[]⟩] 40) = wa at *
  refine (rquo_any p S A q U B wa HA.out HB.out (by omega) (by omega) h0).mono ?_
  rintro e w1 ⟨⟨p1, S1, p2, S2, Q, R, rfl, m1, m2, hq, z1, z2⟩, C1⟩
  have M1 := hid m1
  have M2 := hid m2
  have HQ := hid hq
  have N1 := hid (Rf4.new (K0.out.go C1) (G0.out.go2 C1) p1 S1 p2 S2)
  have l0 := Blk.lt G0.out
  have l1 := C1.size
  clear m1 m2 hq C1 K0 G0
  go_wp2_with fail
  generalize (w1.alloc (.cells #[.bool p1, .string S1] 40)).alloc (.cells #[.bool p2, .string S2] 40) = w2 at *
  generalize hh : w1.heap.size = h at *
  generalize hg : w.heap.size = g at *
  have N2 := hid (N1.out.go (Below.refl _ _).drew)
  obtain ⟨a0, a1, a2, a3, a4⟩ := Blk.two N2.out.fl
  obtain ⟨b0, b1, b2, b3, b4⟩ := Blk.two N2.out.fy
  have n1 : h ≠ g + 1 + 1 := by omega
  have hl : g + 3 < h := by omega
  have n2 : h + 1 ≠ g + 1 + 1 := by omega
  clear N1
  by_cases hr : R = 0
  · have hs : sgn R = 0 := by rw [hr]; rfl
    have HD := hid (div_same HQ.out (Or.inl hr))
    have SG := hid (rsign_any p2 S2 R w2.drew M2.out)
    rw [hs] at SG
    go_region_with (first
      | (go_at_call 15; go_must (refine SG.out.mono ?_; rintro e w3 ⟨rfl, C3⟩; have N3 := hid (N2.out.go C3); clear C3)))
    all_goals
      clear a0 a1 a2 a3 a4 b0 b1 b2 b3 b4
      obtain ⟨c0, c1, c2, c3, c4⟩ := Blk.two N3.out.fq
      obtain ⟨d0, d1, d2, d3, d4⟩ := Blk.two N3.out.fl
      obtain ⟨e0, e1, e2, e3, e4⟩ := Blk.two N3.out.fr
      obtain ⟨f0, f1, f2, f3, f4⟩ := Blk.two N3.out.fs
      go_wp2_with fail
      go_region
      all_goals
        have O1 := only_two (g + 1 + 1) w3 (.bool p1) (.string S1)
        have F1 := N3.out.fs.only O1 (by omega)
        have O2 := only_two (g + 1 + 1 + 1) ((w3.setCell ⟨g + 1 + 1, 0, none⟩ (.bool p1)).setCell ⟨g + 1 + 1, 1, none⟩ (.string S1)) (.bool p2) (.string S2)
        go_wp2
        refine bodyPost_ret (ret_ref22 (((Blk.set2 N3.out.fr).only O2 (by omega)).go2 (Below.refl _ _).drew) ((Blk.set2 F1).go2 (Below.refl _ _).drew) rfl rfl rfl) rfl ?_
        exact ⟨⟨_, _, _, _, _, _, rfl, M1.out, M2.out, HD.out⟩, ((N3.out.old.trans (O1.below (by omega))).trans (O2.below (by omega))).drew⟩
  · have hs' := sgn_ne2 hr
    have hs0 : (sgn R == 0) = false := by simpa using hs'
    have hs1 : (sgn R != 0) = true := by simpa using hs'
    have SG := hid (fun w => rsign_any p2 S2 R w M2.out)
    have SH := hid (fun w => rsign_any q U B w HB.out)
    by_cases hd : (R < 0 ↔ B < 0)
    · have HD := hid (div_same HQ.out (Or.inr hd))
      have he := sgn_eq hr h0 hd
      rw [← he] at SH
      clear he hd hr
      generalize sgn R = sr at *
      go_region_with (first
        | (go_at_call_of 15 S2; go_must (refine (SG.out _).mono ?_; rintro e w3 ⟨rfl, C3⟩; first
          | (have N3 := hid (N2.out.go C3); clear C3; obtain ⟨a0, a1, a2, a3, a4⟩ := Blk.two N3.out.fl; obtain ⟨b0, b1, b2, b3, b4⟩ := Blk.two N3.out.fy)
          | (have N4 := hid (N3.out.go C3); clear C3; obtain ⟨a0, a1, a2, a3, a4⟩ := Blk.two N4.out.fl; obtain ⟨b0, b1, b2, b3, b4⟩ := Blk.two N4.out.fy)))
        | (go_at_call_of 15 U; go_must (refine (SH.out _).mono ?_; rintro e w5 ⟨rfl, C5⟩; have N5 := hid (N4.out.go C5); clear C5)))
      all_goals
        clear a0 a1 a2 a3 a4 b0 b1 b2 b3 b4 hs' hs0 hs1
        obtain ⟨c0, c1, c2, c3, c4⟩ := Blk.two N5.out.fq
        obtain ⟨d0, d1, d2, d3, d4⟩ := Blk.two N5.out.fl
        obtain ⟨e0, e1, e2, e3, e4⟩ := Blk.two N5.out.fr
        obtain ⟨f0, f1, f2, f3, f4⟩ := Blk.two N5.out.fs
        go_wp2_with fail
        go_region
        all_goals
          have O1 := only_two (g + 1 + 1) w5 (.bool p1) (.string S1)
          have F1 := N5.out.fs.only O1 (by omega)
          have O2 := only_two (g + 1 + 1 + 1) ((w5.setCell ⟨g + 1 + 1, 0, none⟩ (.bool p1)).setCell ⟨g + 1 + 1, 1, none⟩ (.string S1)) (.bool p2) (.string S2)
          go_wp2
          refine bodyPost_ret (ret_ref22 (((Blk.set2 N5.out.fr).only O2 (by omega)).go2 (Below.refl _ _).drew) ((Blk.set2 F1).go2 (Below.refl _ _).drew) rfl rfl rfl) rfl ?_
          exact ⟨⟨_, _, _, _, _, _, rfl, M1.out, M2.out, HD.out⟩, ((N5.out.old.trans (O1.below (by omega))).trans (O2.below (by omega))).drew⟩
    · have HD := hid (div_turn HQ.out hr hd)
      have he := sgn_far hr h0 hd
      have he' : (sgn R == sgn B) = false := by simpa using he
      have he2 : (sgn R != sgn B) = true := by simpa using he
      generalize sgn R = sr at *
      generalize sgn B = sb at *
      go_region_with (first
        | (go_at_call_of 15 S2; go_must (refine (SG.out _).mono ?_; rintro e w3 ⟨rfl, C3⟩; first
          | (have N3 := hid (N2.out.go C3); clear C3; obtain ⟨a0, a1, a2, a3, a4⟩ := Blk.two N3.out.fl; obtain ⟨b0, b1, b2, b3, b4⟩ := Blk.two N3.out.fy)
          | (have N4 := hid (N3.out.go C3); clear C3; obtain ⟨a0, a1, a2, a3, a4⟩ := Blk.two N4.out.fl; obtain ⟨b0, b1, b2, b3, b4⟩ := Blk.two N4.out.fy)))
        | (go_at_call_of 15 U; go_must (refine (SH.out _).mono ?_; rintro e w5 ⟨rfl, C5⟩; have N5 := hid (N4.out.go C5); clear C5)))
      all_goals
        clear a0 a1 a2 a3 a4 b0 b1 b2 b3 b4
        obtain ⟨c0, c1, c2, c3, c4⟩ := Blk.two N5.out.fq
        obtain ⟨d0, d1, d2, d3, d4⟩ := Blk.two N5.out.fl
        obtain ⟨e0, e1, e2, e3, e4⟩ := Blk.two N5.out.fy
        clear hs' hs0 hs1 he he' he2
        go_wp2_with fail
        refine (rzsub_any p1 S1 Q false ⟨#[49]⟩ 1 w5 M1.out ri_one (by omega) (by decide)).mono ?_
        rintro e w6 ⟨⟨p6, S6, rfl, m6⟩, C6⟩
        have M6 := hid m6
        have N6 := hid (N5.out.go C6)
        have N7 := hid (N6.out.setq hl hg p6 S6)
        clear C6 m6 c0 c1 c2 c3 c4 d0 d1 d2 d3 d4 e0 e1 e2 e3 e4
        obtain ⟨c0, c1, c2, c3, c4⟩ := Blk.two N6.out.fq
        obtain ⟨d0, d1, d2, d3, d4⟩ := Blk.two N7.out.fl
        obtain ⟨e0, e1, e2, e3, e4⟩ := Blk.two N7.out.fy
        go_wp2_with fail
        generalize (w6.setCell ⟨h, 0, none⟩ (.bool p6)).setCell ⟨h, 1, none⟩ (.string S6) = w7 at *
        refine (rzadd_any p2 S2 R q U B w7 M2.out HB.out (by omega) (by omega)).mono ?_
        rintro e w8 ⟨⟨p8, S8, rfl, m8⟩, C8⟩
        have M8 := hid m8
        have N8 := hid (N7.out.go C8)
        have N9 := hid (N8.out.setl hl hg p8 S8)
        clear C8 m8 c0 c1 c2 c3 c4 d0 d1 d2 d3 d4 e0 e1 e2 e3 e4
        obtain ⟨c0, c1, c2, c3, c4⟩ := Blk.two N8.out.fl
        go_wp2_with fail
        generalize (w8.setCell ⟨h + 1, 0, none⟩ (.bool p8)).setCell ⟨h + 1, 1, none⟩ (.string S8) = w9 at *
        clear c0 c1 c2 c3 c4
        obtain ⟨c0, c1, c2, c3, c4⟩ := Blk.two N9.out.fq
        obtain ⟨d0, d1, d2, d3, d4⟩ := Blk.two N9.out.fl
        obtain ⟨e0, e1, e2, e3, e4⟩ := Blk.two N9.out.fr
        obtain ⟨f0, f1, f2, f3, f4⟩ := Blk.two N9.out.fs
        go_region
        all_goals
          have O1 := only_two (g + 1 + 1) w9 (.bool p6) (.string S6)
          have F1 := N9.out.fs.only O1 (by omega)
          have O2 := only_two (g + 1 + 1 + 1) ((w9.setCell ⟨g + 1 + 1, 0, none⟩ (.bool p6)).setCell ⟨g + 1 + 1, 1, none⟩ (.string S6)) (.bool p8) (.string S8)
          go_wp2
          refine bodyPost_ret (ret_ref22 (((Blk.set2 N9.out.fr).only O2 (by omega)).go2 (Below.refl _ _).drew) ((Blk.set2 F1).go2 (Below.refl _ _).drew) rfl rfl rfl) rfl ?_
          exact ⟨⟨_, _, _, _, _, _, rfl, M6.out, M8.out, HD.out⟩, ((N9.out.old.trans (O1.below (by omega))).trans (O2.below (by omega))).drew⟩
end Go.Proofs.YtnaiahjgdakneaaGreatDoor
