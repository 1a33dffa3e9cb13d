/- A region whose first operations only read, and whose others wait for all ahead of them: one walk in the order of the text serves every order. -/
/- The reference's Turned, Point and values at points (chapter 7). -/
/- What is asked of tft's Back, and that it is told by its values. -/
/- Plans of the landed tft: their fields, and what the small calls answer. -/
/- Halves of a block, halved words, inverses of points, in the landed tft. -/
import Derived.Test.YtocfenjampmdlabGreatDoorVp
import Derived.Test.YtocfenjampmdlabGreatDoorVe
import Derived.Test.YtocfenjampmdlabGreatDoorReg
import Derived.BigQuiet
namespace Go.Proofs.YtocfenjampmdlabGreatDoor
section
variable {P : Program} {C : World → Prop} {Q : Exit → Act → World → Prop}

def stillFrom : Nat → List Oper → List Oper
  | 0, l => l.map still
  | _ + 1, [] => []
  | n + 1, o :: l => o :: stillFrom n l
theorem stillFrom_at : ∀ (n : Nat) (L : List Oper) (j : Nat), (stillFrom n L)[j]? = if j < n then L[j]? else (L[j]?).map still
  | 0, L, j => by rw [if_neg (by omega)]; exact List.getElem?_map
  | n + 1, [], j => by simp [stillFrom]
  | n + 1, o :: l, 0 => by rw [if_pos (by omega)]; rfl
  | n + 1, o :: l, j + 1 => by
    have := stillFrom_at n l j
    by_cases h : j < n
    · rw [if_pos h] at this; rw [if_pos (by omega)]; simpa [stillFrom] using this
    · rw [if_neg h] at this; rw [if_neg (by omega)]; simpa [stillFrom] using this
theorem stillFrom_len : ∀ (n : Nat) (L : List Oper), (stillFrom n L).length = L.length
  | 0, L => by simp [stillFrom]
  | _ + 1, [] => rfl
  | n + 1, o :: l => by simp only [stillFrom, List.length_cons]; rw [stillFrom_len n l]
theorem ready_from {n : Nat} {L : List Oper} {listed : Array Bool} {i : Nat} (h : i ∈ Region.ready .any L.toArray listed) : i ∈ Region.ready .any (stillFrom n L).toArray listed := by
  rw [mem_ready] at *
  obtain ⟨h1, o, ho, h2⟩ := h
  have ho' : L[i]? = some o := by simpa using ho
  have := stillFrom_at n L i
  by_cases hi : i < n
  · rw [if_pos hi, ho'] at this
    exact ⟨h1, o, by simpa using this, h2⟩
  · rw [if_neg hi, ho'] at this
    exact ⟨h1, still o, by simpa using this, h2⟩
/-- is each operation from c on but the last one waited for by a later one? -/
def usedC (c : Nat) (L : List Oper) : Bool := (List.range (L.length - 1)).all fun j => decide (j < c) || (List.range L.length).any fun k => decide (j < k) && waits L k j
theorem usedC_said {c : Nat} {L : List Oper} (h : usedC c L = true) {j : Nat} (hc : c ≤ j) (hj : j + 1 < L.length) : ∃ k o, j < k ∧ k < L.length ∧ L[k]? = some o ∧ ∃ e ∈ o.after, Region.binds .any e = true ∧ e.on = j := by
  have h0 := List.all_eq_true.1 h j (List.mem_range.2 (by omega))
  rw [Bool.or_eq_true, decide_eq_true_eq] at h0
  have h1 : ((List.range L.length).any fun k => decide (j < k) && waits L k j) = true := by
    rcases h0 with h0 | h0
    · omega
    · exact h0
  obtain ⟨k, hk, h2⟩ := List.any_eq_true.1 h1
  rw [Bool.and_eq_true, decide_eq_true_eq] at h2
  obtain ⟨h3, h4⟩ := h2
  unfold waits at h4
  have hk := List.mem_range.1 hk
  rw [List.getElem?_eq_getElem hk] at h4
  obtain ⟨e, he, h5⟩ := List.any_eq_true.1 h4
  rw [Bool.and_eq_true, beq_iff_eq] at h5
  exact ⟨k, L[k], h3, hk, List.getElem?_eq_getElem hk, e, by simpa using he, h5.1, h5.2⟩
/-- does each operation from n on wait, through others, for all ahead of it, but the first c? -/
def tailB (c n : Nat) (L : List Oper) : Bool := (List.range L.length).all fun i => decide (i < n) || usedC c (L.take (i + 1))
theorem tail_all {c n : Nat} {L : List Oper} {listed : Array Bool} (ht : tailB c n L = true) (hc : ∀ j, j < c → j < L.length → listed.getD j true = true) (hs : listed.size = L.length) (h : shut L listed) {i : Nat} (hi : n ≤ i) (hr : i ∈ Region.ready .any L.toArray listed) :
    ∀ j, j < i → listed.getD j true = true := by
  obtain ⟨_, o, ho, h2⟩ := mem_ready.1 hr
  have ho' : L[i]? = some o := by simpa using ho
  have hil := (List.getElem?_eq_some_iff.1 ho').1
  have hu : usedC c (L.take (i + 1)) = true := by
    have := List.all_eq_true.1 ht i (List.mem_range.2 hil)
    rw [Bool.or_eq_true, decide_eq_true_eq] at this
    rcases this with h | h
    · omega
    · exact h
  have hlen : (L.take (i + 1)).length = i + 1 := by rw [List.length_take]; omega
  have gen : ∀ m j, j < i → i ≤ j + m → listed.getD j true = true := by
    intro m
    induction m with
    | zero => intro j h1 h3; omega
    | succ m ih =>
      intro j h1 h3
      by_cases hjc : j < c
      · exact hc j hjc (by omega)
      obtain ⟨k, ok, hjk, hk, hok, e, he, hbe, rfl⟩ := usedC_said hu (j := j) (by omega) (by omega)
      have hok' : L[k]? = some ok := by
        rw [List.getElem?_take] at hok
        split at hok
        · exact hok
        · cases hok
      by_cases ek : k = i
      · subst ek
        obtain rfl := Option.some.inj (ho'.symm.trans hok')
        rw [getD_of hs (show e.on < L.length by omega) true false]
        exact h2 e he hbe
      · exact h k ok hok' (ih k (by omega) (by omega)) e he hbe
  exact fun j hj => gen i j hj (by omega)
/-- the tail, when all ahead of i are listed and nothing else. -/
theorem tail_run {c n : Nat} {L : List Oper} (hb : backB 0 L = true) (ht : tailB c n L = true) (hcn : c ≤ n) : ∀ (m i fuel : Nat) (listed : Array Bool) (a : Act) (w : World), L.length = i + m → n ≤ i → shut L listed → listed.size = L.length →
    (∀ j, j < L.length → (listed.getD j true = true ↔ j < i)) → wpList P L.toArray Q (L.drop i) a w → m ≤ fuel → wpAny P .any L.toArray Q fuel listed a w := by
  have gn : ∀ (i : Nat) (o : Oper), L[i]? = some o → o.guard = none := fun i o ho => (backB_said hb i o ho).2
  intro m
  induction m with
  | zero =>
    intro i fuel listed a w hl hi hsh hs hlist hw _
    have hr0 : Region.ready .any L.toArray listed = [] := ready_nil fun j hj => by
      have : j < L.length := by simpa using hj
      exact (hlist j this).2 (by omega)
    rw [List.drop_eq_nil_of_le (by omega)] at hw
    cases fuel with
    | zero => exact ⟨hr0, hw⟩
    | succ f => exact ⟨fun _ => hw, fun j hj => by rw [hr0] at hj; cases hj⟩
  | succ m ih =>
    intro i fuel listed a w hl hi hsh hs hlist hw hf
    obtain ⟨f, rfl⟩ : ∃ f, fuel = f + 1 := ⟨fuel - 1, by omega⟩
    have hil : i < L.length := by omega
    have back : ∀ (i : Nat) (o : Oper), L.toArray[i]? = some o → ∀ e ∈ o.after, Region.binds .any e = true → e.on < i := fun i o ho e he hbe => by
      have := (backB_said hb i o (by simpa using ho)).1 e he hbe
      omega
    have un : listed.getD i true = false := by
      cases h : listed.getD i true
      · rfl
      · have := (hlist i hil).1 h; omega
    refine ⟨fun hr => ?_, fun k hk => ?_⟩
    · have := ready_none back hr i (by simpa using hil)
      rw [un] at this
      cases this
    · obtain ⟨h1, o, ho, _⟩ := mem_ready.1 hk
      have ho' : L[k]? = some o := by simpa using ho
      have hkl := (List.getElem?_eq_some_iff.1 ho').1
      obtain rfl : k = i := by
        have hge : i ≤ k := by
          apply Nat.le_of_not_lt
          intro hlt
          rw [(hlist k hkl).2 hlt] at h1
          cases h1
        rcases Nat.lt_or_ge i k with hlt | hge'
        · have := tail_all ht (fun j hj hj2 => (hlist j hj2).2 (by omega)) hs hsh (by omega) hk i hlt
          rw [un] at this
          cases this
        · omega
      have hd : L.drop k = o :: L.drop (k + 1) := by
        rw [List.drop_eq_getElem_cons hkl]
        congr 1
        exact Option.some.inj ((List.getElem?_eq_getElem hkl).symm.trans ho')
      rw [hd] at hw
      have wn : ∀ (y : Nat → Option Bool), Region.wanted o y = true := fun y => by unfold Region.wanted; rw [gn k o ho']
      unfold wpOp
      rw [ho]
      simp only [wpList, wn, if_true] at hw ⊢
      refine hw.imp (Oper.wp_mono fun a' w' hq => ?_) id
      refine ih (k + 1) f _ a' w' (by omega) (by omega) (shut_set hb hs hsh hk) (by simpa using hs) (fun j hj => ?_) hq (by omega)
      by_cases e : k = j
      · subst e
        simp [Array.getD, show k < listed.size by omega]
      · rw [getD_set_ne true e, hlist j hj]
        omega
/-- the stilled tail does nothing. -/
theorem tail_still {n : Nat} {L : List Oper} {Q' : Act → Prop} (hb : backB 0 L = true) : ∀ (m i fuel : Nat) (listed : Array Bool) (a : Act), L.length = i + m → n ≤ i → shut L listed → listed.size = L.length →
    (∀ j, j < L.length → (listed.getD j true = true ↔ j < i)) → wpAnyQ P .any (stillFrom n L).toArray C Q' fuel listed a → Q' a := by
  have gn : ∀ (i : Nat) (o : Oper), L[i]? = some o → o.guard = none := fun i o ho => (backB_said hb i o ho).2
  intro m
  induction m with
  | zero =>
    intro i fuel listed a hl hi hsh hs hlist hq
    have hr0 : Region.ready .any (stillFrom n L).toArray listed = [] := ready_nil fun j hj => by
      have : j < L.length := by simpa [stillFrom_len] using hj
      exact (hlist j this).2 (by omega)
    cases fuel with
    | zero => exact hq.2
    | succ f => exact hq.1 hr0
  | succ m ih =>
    intro i fuel listed a hl hi hsh hs hlist hq
    have hil : i < L.length := by omega
    have un : listed.getD i true = false := by
      cases h : listed.getD i true
      · rfl
      · have := (hlist i hil).1 h; omega
    have hrL : i ∈ Region.ready .any L.toArray listed := by
      rw [mem_ready]
      refine ⟨un, L[i], by simp [hil], fun e he hbe => ?_⟩
      have hlt := (backB_said hb i L[i] (List.getElem?_eq_getElem hil)).1 e he hbe
      rw [← getD_of hs (show e.on < L.length by omega) true false]
      exact (hlist e.on (by omega)).2 (by omega)
    have hr := ready_from (n := n) hrL
    cases fuel with
    | zero => rw [hq.1] at hr; cases hr
    | succ f =>
      have h2 := hq.2 i hr
      unfold qOp at h2
      have hst : (stillFrom n L).toArray[i]? = some (still L[i]) := by
        have := stillFrom_at n L i
        rw [if_neg (by omega), List.getElem?_eq_getElem hil] at this
        simpa using this
      rw [hst] at h2
      have wn : ∀ (y : Nat → Option Bool), Region.wanted (still L[i]) y = true := fun y => by unfold Region.wanted; rw [show (still L[i]).guard = none from gn i L[i] (List.getElem?_eq_getElem hil)]
      simp only [wn, if_true] at h2
      obtain ⟨v, _, hk⟩ := h2
      refine ih (i + 1) f _ a (by omega) (by omega) (shut_set hb hs hsh hrL) (by simpa using hs) (fun j hj => ?_) hk
      by_cases e : i = j
      · subst e
        simp [Array.getD, show i < listed.size by omega]
      · rw [getD_set_ne true e, hlist j hj]
        omega
theorem any_of_tail {c n : Nat} {L : List Oper} (hb : backB 0 L = true) (ht : tailB c n L = true) (hcn : c ≤ n) (hn : n < L.length) :
    ∀ (fuel : Nat) (listed : Array Bool) (a : Act) (w : World), C w → shut L listed → listed.size = L.length → (∀ j, j < c → j < L.length → listed.getD j true = true) → (∀ j, n ≤ j → j < L.length → listed.getD j true = false) → unl L.length listed ≤ fuel →
      wpAnyQ P .any (stillFrom n L).toArray C (fun a' => ∀ w', C w' → wpList P L.toArray Q (L.drop n) a' w') fuel listed a → wpAny P .any L.toArray Q fuel listed a w := by
  have back : ∀ (i : Nat) (o : Oper), L.toArray[i]? = some o → ∀ e ∈ o.after, Region.binds .any e = true → e.on < i := fun i o ho e he hbe => by
    have := (backB_said hb i o (by simpa using ho)).1 e he hbe
    omega
  have gn : ∀ (i : Nat) (o : Oper), L[i]? = some o → o.guard = none := fun i o ho => (backB_said hb i o ho).2
  have some_ready : ∀ listed : Array Bool, listed.getD n true = false → Region.ready .any L.toArray listed ≠ [] := fun listed hl hr => by
    have := ready_none back hr n (by simpa using hn)
    rw [hl] at this
    cases this
  intro fuel
  induction fuel with
  | zero =>
    intro listed a w hC hsh hs hc hl hf h
    exfalso
    obtain ⟨i, hi⟩ := List.exists_mem_of_ne_nil _ (some_ready listed (hl n (Nat.le_refl _) hn))
    have := ready_from (n := n) hi
    rw [h.1] at this
    cases this
  | succ fuel ih =>
    intro listed a w hC hsh hs hc hl hf h
    refine ⟨fun hr => absurd hr (some_ready listed (hl n (Nat.le_refl _) hn)), fun i hi => ?_⟩
    obtain ⟨h1, oi, hoi, _⟩ := mem_ready.1 hi
    have hoi' : L[i]? = some oi := by simpa using hoi
    have hil := (List.getElem?_eq_some_iff.1 hoi').1
    by_cases hin : i < n
    · have hq := h.2 i (ready_from hi)
      have wn : ∀ (y : Nat → Option Bool), Region.wanted oi y = true := fun y => by unfold Region.wanted; rw [gn i oi hoi']
      unfold wpOp
      rw [hoi]
      unfold qOp at hq
      have hst : (stillFrom n L).toArray[i]? = some oi := by
        have := stillFrom_at n L i
        rw [if_pos hin, hoi'] at this
        simpa using this
      rw [hst] at hq
      simp only [wn, if_true] at hq ⊢
      refine Or.inl (Oper.wp_of_quiet hC (fun a' w' hC' hk => ih _ a' w' hC' (shut_set hb hs hsh hi) (by simpa using hs) (fun j h2 h3 => ?_) (fun j h2 h3 => ?_) ?_ hk) hq)
      · by_cases e : i = j
        · subst e; simp [Array.getD, show i < listed.size by omega]
        · rw [getD_set_ne true e]; exact hc j h2 h3
      · rw [getD_set_ne true (by omega)]
        exact hl j h2 h3
      · have := unl_set (n := L.length) hil h1
        omega
    · have all := tail_all ht hc hs hsh (by omega) hi
      obtain rfl : i = n := by
        rcases Nat.lt_or_ge n i with hlt | hge
        · have := all n hlt
          rw [hl n (Nat.le_refl _) hn] at this
          cases this
        · omega
      have hlist : ∀ j, j < L.length → (listed.getD j true = true ↔ j < i) := fun j hj => by
        constructor
        · intro h3
          apply Nat.lt_of_not_le
          intro h4
          rw [hl j h4 hj] at h3
          cases h3
        · exact all j
      have hw := tail_still hb (L.length - i) i (fuel + 1) listed a (by omega) (Nat.le_refl _) hsh hs hlist h w hC
      have hrun := tail_run (P := P) (Q := Q) hb ht hcn (L.length - i) i (fuel + 1) listed a w (by omega) (Nat.le_refl _) hsh hs hlist hw (by
        have : unl L.length listed = L.length - i := by
          unfold unl
          have e : (List.range L.length).filter (fun j => !listed.getD j true) = (List.range L.length).filter (fun j => decide (i ≤ j)) := by
            apply List.filter_congr
            intro j hj
            have := hlist j (List.mem_range.1 hj)
            by_cases h3 : j < i
            · rw [this.2 h3]; simp; omega
            · cases h4 : listed.getD j true
              · simp; omega
              · exact absurd (this.1 h4) h3
          rw [e]
          have gen : ∀ N, i ≤ N → ((List.range N).filter (fun j => decide (i ≤ j))).length = N - i := fun N => by
            induction N with
            | zero => intro _; simp
            | succ N ih2 =>
              intro hN
              rw [List.range_succ, List.filter_append, List.length_append]
              by_cases h5 : i ≤ N
              · rw [ih2 h5]; simp [h5]; omega
              · obtain rfl : i = N + 1 := by omega
                have : (List.range N).filter (fun j => decide (N + 1 ≤ j)) = [] := by
                  apply List.filter_eq_nil_iff.2
                  intro j hj
                  have := List.mem_range.1 hj
                  simp; omega
                rw [this]; simp
          exact gen L.length (by omega)
        omega)
      exact hrun.2 i hi
/-- the rule, for a region whose operations are written out; its first n only read. -/
theorem wp_region_tail (n : Nat) {id : Nat} {a : Act} {w : World} {L : List Oper} (hm : P.follows .mixedOrders = true) (hB : Region.lexB .any (stillFrom n L).toArray = true) (hb : backB 0 L = true) (ht : tailB 0 n L = true) (hn : n < L.length)
    (h : wpQuiet P (stillFrom n L).toArray (fun w' => ∃ m, w' = w.drewN m) (fun a' => ∀ w', (∃ m, w' = w.drewN m) → wpList P L.toArray Q (L.drop n) a' w') (stillFrom n L) a) : (Code.region id L.toArray true).wp P Q a w := by
  simp only [Region.lexB, Bool.and_eq_true] at hB
  refine wp_region_any hm (any_of_tail (C := fun w' => ∃ m, w' = w.drewN m) hb ht (Nat.zero_le _) hn _ _ a _ ⟨1, rfl⟩ ?_ (by simp) (fun j hj _ => absurd hj (by omega)) (fun j _ hj => ?_) ?_ ?_)
  · intro j o ho hl
    have hj := (List.getElem?_eq_some_iff.1 ho).1
    simp [Array.getD, hj] at hl
  · simp [Array.getD, hj]
  · unfold unl
    refine Nat.le_trans (List.length_filter_le _ _) (by simp)
  · have := wpAnyQ_lex (P := P) (C := fun w' => ∃ m, w' = w.drewN m) (md := .any) hB.1 (stillFrom n L) 0 (Array.replicate (stillFrom n L).toArray.size false) a (by simp) (by simpa using hB.2) h
    simpa [stillFrom_len] using this
/-- the same, where the first operation is a move that may come at any time. -/
theorem wp_region_tail1 (n : Nat) {id : Nat} {a : Act} {w : World} {o : Oper} {l : List Oper} (x : Operand) (hx : o.op = .move x) (hg : o.guard = none) (hQ : ∀ c a w v, Q (.panic c) (a.put o.dst v) w → Q (.panic c) a w)
    (hm : P.follows .mixedOrders = true) (hs : Region.noSelect (o :: l).toArray = true) (hs' : Region.noSelect (stillFrom (n + 1) (o :: l)).toArray = true)
    (hf : Region.free .any (o :: l).toArray (Array.replicate (l.length + 1) false) 0 = true) (hr : (Region.ready .any (o :: l).toArray (Array.replicate (l.length + 1) false)).contains 0 = true) (ha : o.after = #[])
    (hB : Region.lexFrom .any (stillFrom (n + 1) (o :: l)).toArray l.length 1 ((Array.replicate (l.length + 1) false).setIfInBounds 0 true) = true) (hb : backB 0 (o :: l) = true) (ht : tailB 1 (n + 1) (o :: l) = true) (hn : n < l.length)
    (h : wpQuiet P (stillFrom (n + 1) (o :: l)).toArray (fun w' => ∃ m, w' = w.drewN m) (fun a' => ∀ w', (∃ m, w' = w.drewN m) → wpList P (o :: l).toArray Q (l.drop n) a' w') (stillFrom n l) (a.put o.dst (a.eval x))) : (Code.region id (o :: l).toArray true).wp P Q a w := by
  refine wp_region_any hm ?_
  show wpAny P .any (o :: l).toArray Q (l.length + 1) (Array.replicate (l.length + 1) false) a _
  refine wpAny_take (i := 0) (oi := o) (v := a.eval x) rfl hs hf hr (fun c a w => hQ c a w _) (Or.inl ⟨by unfold Region.wanted; rw [hg], fun w => ?_⟩) ?_
  · exact BigFrame.run_move x hx w
  · refine any_of_tail (C := fun w' => ∃ m, w' = w.drewN m) hb ht (by omega) (by simp; omega) _ _ _ _ ⟨1, rfl⟩ ?_ (by simp) (fun j hj _ => ?_) (fun j hj hj2 => ?_) ?_ ?_
    · intro j oj hoj hl e he _
      have hj := (List.getElem?_eq_some_iff.1 hoj).1
      by_cases e0 : 0 = j
      · subst e0
        obtain rfl : o = oj := by simpa using hoj
        rw [ha] at he
        simp at he
      · rw [getD_set_ne true e0] at hl
        have hj' : j < l.length + 1 := by simpa using hj
        simp [Array.getD, hj'] at hl
    · obtain rfl : j = 0 := by omega
      simp [Array.getD]
    · have hj2' : j < l.length + 1 := by simpa using hj2
      rw [getD_set_ne true (by omega)]
      simp [Array.getD, hj2']
    · have h0 : (Array.replicate (l.length + 1) false).getD 0 true = false := by simp [Array.getD]
      have h1 := unl_set (n := (o :: l).length) (i := 0) (by simp) h0
      have h2 : unl (o :: l).length (Array.replicate (l.length + 1) false) ≤ l.length + 1 := by
        unfold unl
        exact Nat.le_trans (List.length_filter_le _ _) (by simp)
      omega
    · have := wpAnyQ_lex (P := P) (C := fun w' => ∃ m, w' = w.drewN m) (md := .any) hs' (stillFrom n l) 1 ((Array.replicate (l.length + 1) false).setIfInBounds 0 true) (a.put o.dst (a.eval x)) (fun j => by
        simp only [stillFrom, List.getElem?_toArray]
        rw [Nat.add_comm 1 j, List.getElem?_cons_succ]) (by rw [stillFrom_len]; exact hB) h
      rw [stillFrom_len] at this
      exact this
end
end Go.Proofs.YtocfenjampmdlabGreatDoor
namespace Go.Proofs.YtocfenjampmdlabGreatDoor
open Go.RowKit Num Nmb

theorem rv_mod : ∀ m b, rv m (b % 2 ^ m) = rv m b
  | 0, _ => rfl
  | m + 1, b => by
    show b % 2 ^ (m + 1) % 2 * 2 ^ m + rv m (b % 2 ^ (m + 1) / 2) = b % 2 * 2 ^ m + rv m (b / 2)
    have e1 : b % 2 ^ (m + 1) % 2 = b % 2 := Nat.mod_mod_of_dvd _ (by rw [Nat.pow_succ]; exact Nat.dvd_mul_left _ _)
    have e2 : b % 2 ^ (m + 1) / 2 = b / 2 % 2 ^ m := by rw [Nat.pow_succ, Nat.mul_comm, Nat.mod_mul_right_div_self]
    rw [e1, e2, rv_mod m (b / 2)]
theorem rv_step (m b : Nat) : rv (m + 1) b = 2 * rv m b + b / 2 ^ m % 2 := by rw [rv_up, rv_mod]
/-- what Turned answers. -/
def TurnIs (i k : Int) (r er : Int) : Prop := (0 ≤ k ∧ k ≤ 20 ∧ 0 ≤ i ∧ i < 2 ^ k.toNat ∧ r = (rv k.toNat i.toNat : Nat) ∧ er = 0) ∨ (¬ (0 ≤ k ∧ k ≤ 20 ∧ 0 ≤ i ∧ i < 2 ^ k.toNat) ∧ r = 0 ∧ er = 1)
theorem TurnIs.uniq {i k r er r' er' : Int} (h : TurnIs i k r er) (h' : TurnIs i k r' er') : r = r' ∧ er = er' := by
  rcases h with ⟨a, b, c, d, rfl, rfl⟩ | ⟨n, rfl, rfl⟩
  · rcases h' with ⟨_, _, _, _, rfl, rfl⟩ | ⟨n, _, _⟩
    · exact ⟨rfl, rfl⟩
    · exact absurd ⟨a, b, c, d⟩ n
  · rcases h' with ⟨a, b, c, d, _, _⟩ | ⟨_, rfl, rfl⟩
    · exact absurd ⟨a, b, c, d⟩ n
    · exact ⟨rfl, rfl⟩
/-- the first values at the points. -/
def PtR (a : Nat → Int) (r p k n : Nat) (X : List Nat) : Prop := (∀ j, j < X.length → lw X j = ev a n ((r : Int) ^ rv k j) % p) ∧ ∀ c, c ∈ X → c ≤ 18446744073709551615
theorem PtR.push {a : Nat → Int} {r p k n c : Nat} {X : List Nat} (h : PtR a r p k n X) (hp : 0 < p) (hp' : p ≤ 9223372036854775807) (hc : (c : Int) = ev a n (r ^ rv k X.length % p : Nat) % p) : PtR a r p k n (X ++ [c]) := by
  refine ⟨fun j hj => ?_, fun d hd => ?_⟩
  · rw [lw_push]
    by_cases e : j = X.length
    · rw [if_pos e, hc, e]
      have : Cg p ((r ^ rv k X.length % p : Nat) : Int) ((r : Int) ^ rv k X.length) := by
        rw [Int.natCast_emod, Int.natCast_pow]
        exact Cg.mod
      exact ev_cg (fun i _ => Cg.rfl) this
    · rw [if_neg e]
      exact h.1 j (by simp at hj; omega)
  · rcases List.mem_append.1 hd with hd | hd
    · exact h.2 d hd
    · simp at hd
      subst hd
      have := Int.emod_lt_of_pos (ev a n (r ^ rv k X.length % p : Nat)) (show 0 < (p : Int) by omega)
      omega
end Go.Proofs.YtocfenjampmdlabGreatDoor
namespace Go.Proofs.YtocfenjampmdlabGreatDoor
open Go.RowKit Num Nmb

/-- b is the polynomial of n coefficients that has the values a at the first points. -/
def Fnd (p k r n : Nat) (a b : Nat → Int) : Prop := ∀ j, j < n → 0 ≤ b j ∧ b j < p ∧ ev b n ((r : Int) ^ rv k j) % p = a j % p
theorem Fnd.is {p k r n : Nat} {a b c : Nat → Int} (h : Fnd p k r n a b) (T : TabOk p k r) (hn : n ≤ 2 ^ k) (hc : ∀ j, j < n → ev c n ((r : Int) ^ rv k j) % p = a j % p) (j : Nat) (hj : j < n) : b j = c j % p := by
  have h1 := T.pri.tell (n := n) (a := b) (b := c) (x := fun j => (r : Int) ^ rv k j) (fun i j hij hj => T.rt.points i j hij (by omega)) (fun i hi => (h i hi).2.2.trans (hc i hi).symm) j hj
  have h2 := h j hj
  unfold Cg at h1
  rw [Int.emod_eq_of_lt h2.1 h2.2.1] at h1
  exact h1
/-- Back of Go. -/
theorem Fnd.back {p k r n : Nat} {a b c : Nat → Int} (h : Fnd p k r n b c) (T : TabOk p k r) (hn : n ≤ 2 ^ k) (hb : ∀ j, j < n → b j = ev a n ((r : Int) ^ rv k j) % p) (j : Nat) (hj : j < n) : c j = a j % p :=
  h.is T hn (fun i hi => by rw [hb i hi, Int.emod_emod_of_dvd _ (Int.dvd_refl _)]) j hj
end Go.Proofs.YtocfenjampmdlabGreatDoor
namespace Go.Proofs.YtocfenjampmdlabGreatDoor
open Go.RowKit Num Nmb

/-- the form of the point at an even place. -/
def fmp (p r k j : Nat) : Int := (r : Int) ^ rv (k - 1) j * 18446744073709551616 % p
/-- block g holds the fields of a plan. -/
def PlnC (w : World) (g gf gm k r h : Nat) : Prop := w.heap[g]? = some (.cells #[.pointer (some ⟨gf, 0, none⟩), .int .i64 k, .int .u64 r, .slice (some ⟨gm, 0, none⟩) h h] 87 (0, 0))
theorem PlnC.lt {w : World} {g gf gm k r h : Nat} (t : PlnC w g gf gm k r h) : g < w.heap.size := (Array.getElem?_eq_some_iff.1 t).1
theorem PlnC.cell0 {w : World} {g gf gm k r h : Nat} (t : PlnC w g gf gm k r h) : w.cell? ⟨g, 0, none⟩ = some (.pointer (some ⟨gf, 0, none⟩)) := by unfold PlnC at t; simp only [World.cell?, t]; rfl
theorem PlnC.cell1 {w : World} {g gf gm k r h : Nat} (t : PlnC w g gf gm k r h) : w.cell? ⟨g, 1, none⟩ = some (.int .i64 k) := by unfold PlnC at t; simp only [World.cell?, t]; rfl
theorem PlnC.cell2 {w : World} {g gf gm k r h : Nat} (t : PlnC w g gf gm k r h) : w.cell? ⟨g, 2, none⟩ = some (.int .u64 r) := by unfold PlnC at t; simp only [World.cell?, t]; rfl
theorem PlnC.cell3 {w : World} {g gf gm k r h : Nat} (t : PlnC w g gf gm k r h) : w.cell? ⟨g, 3, none⟩ = some (.slice (some ⟨gm, 0, none⟩) h h) := by unfold PlnC at t; simp only [World.cell?, t]; rfl
/-- block g holds a plan, with its field and its forms. -/
structure PlnF (w : World) (g gf gm p k r h : Nat) (f s : Int) : Prop where
  tc : PlnC w g gf gm k r h
  fld : Fld w gf p f s
  row : Row w gm h (fmp p r k)
theorem PlnF.keep {w w' : World} {g gf gm p k r h : Nat} {f s : Int} (T : PlnF w g gf gm p k r h f s) (e1 : w'.heap[g]? = w.heap[g]?) (e2 : w'.heap[gf]? = w.heap[gf]?) (e3 : w'.heap[gm]? = w.heap[gm]?) : PlnF w' g gf gm p k r h f s := by
  obtain ⟨h1, h2, cur, h3, h4⟩ := T
  exact ⟨by unfold PlnC; rw [e1]; exact h1, by unfold Fld; rw [e2]; exact h2, cur, by rw [e3]; exact h3, h4⟩
theorem PlnF.lt {w : World} {g gf gm p k r h : Nat} {f s : Int} (T : PlnF w g gf gm p k r h f s) : g < w.heap.size ∧ gf < w.heap.size ∧ gm < w.heap.size := ⟨T.tc.lt, T.fld.lt, T.row.lt⟩
theorem PlnF.below {B : Nat} {w w' : World} {g gf gm p k r h : Nat} {f s : Int} (T : PlnF w g gf gm p k r h f s) (hb : Below B w w') (hB : g < B ∧ gf < B ∧ gm < B) : PlnF w' g gf gm p k r h f s :=
  T.keep (hb.block _ hB.1) (hb.block _ hB.2.1) (hb.block _ hB.2.2)
theorem PlnF.only {b : Nat} {w w' : World} {g gf gm p k r h : Nat} {f s : Int} (T : PlnF w g gf gm p k r h f s) (o : OnlyB b w w') (hB : g ≠ b ∧ gf ≠ b ∧ gm ≠ b) : PlnF w' g gf gm p k r h f s :=
  T.keep (o.block _ hB.1) (o.block _ hB.2.1) (o.block _ hB.2.2)
theorem PlnF.heap {w w' : World} {g gf gm p k r h : Nat} {f s : Int} (T : PlnF w g gf gm p k r h f s) (e : w'.heap = w.heap) : PlnF w' g gf gm p k r h f s :=
  T.keep (by rw [e]) (by rw [e]) (by rw [e])
theorem PlnF.drew {w : World} {g gf gm p k r h : Nat} {f s : Int} (T : PlnF w g gf gm p k r h f s) (n : Nat) : PlnF (w.drewN n) g gf gm p k r h f s := T.heap (by simp)
/-- block g holds a plan. -/
def Pln (w : World) (g p k r : Nat) : Prop := TabOk p k r ∧ ∃ gf gm h f s, PlnF w g gf gm p k r h f s ∧ h = 2 ^ k / 2 ∧ Ok p f s
theorem Pln.ok {w : World} {g p k r : Nat} (h : Pln w g p k r) : TabOk p k r := h.1
theorem Pln.below {w w' : World} {g p k r : Nat} (h : Pln w g p k r) (hb : Below w.heap.size w w') : Pln w' g p k r := by
  obtain ⟨h0, gf, gm, h, f, s, h1, h2, h3⟩ := h
  exact ⟨h0, gf, gm, h, f, s, h1.below hb h1.lt, h2, h3⟩
theorem Pln.heap {w w' : World} {g p k r : Nat} (h : Pln w g p k r) (e : w'.heap = w.heap) : Pln w' g p k r := by
  obtain ⟨h0, gf, gm, h, f, s, h1, h2, h3⟩ := h
  exact ⟨h0, gf, gm, h, f, s, h1.heap e, h2, h3⟩
theorem TabOk.odd {p k r : Nat} (T : TabOk p k r) (hk : 0 < k) : (p : Int) % 2 = 1 := by
  have h1 : p % 2 ≠ 0 := fun h => by
    rcases T.pri.2 2 (Nat.dvd_of_mod_eq_zero h) with h' | h'
    · omega
    · have := T.ktw
      rw [← h', tw2] at this
      omega
  omega
set_option maxHeartbeats 800000 in
theorem m_any (g : Nat) (m f s : Int) (w : World) (h : Fld w g m f s) : Calls Tryz.prog 101 #[.pointer (some ⟨g, 0, none⟩)] w fun e w' => e = .returned (.int .u64 m) ∧ w' = w := by
  have c := h.cell0
  clear h
  go_enter Tryz.func101, Tryz.ntmps101
  go_wp2
  go_ret
  exact ⟨rfl, rfl⟩
set_option maxHeartbeats 800000 in
theorem tmost_nil (w : World) : Calls Tryz.prog 37 #[.pointer none] w fun e w' => e = .returned (.int .i64 0) ∧ w' = w := by
  go_enter Tryz.func37, Tryz.ntmps37
  go_wp2
  go_ret
  exact ⟨rfl, rfl⟩
set_option maxHeartbeats 800000 in
theorem tmost_any (g p k r : Nat) (w : World) (T : Pln w g p k r) : Calls Tryz.prog 37 #[.pointer (some ⟨g, 0, none⟩)] w fun e w' => e = .returned (.int .i64 (2 ^ k : Nat)) ∧ w' = w := by
  have k20 := T.ok.k20
  obtain ⟨_, gf, gm, h, f, s, h1, _, _⟩ := T
  have c := h1.tc.cell1
  have e2 : (2 : Int) ^ k = ((2 ^ k : Nat) : Int) := (Int.natCast_pow 2 k).symm
  have l20 : 2 ^ k ≤ 2 ^ 20 := Nat.pow_le_pow_right (by decide) k20
  clear h1
  obtain ⟨N, hN⟩ : ∃ N, N = 2 ^ k := ⟨_, rfl⟩
  rw [← hN] at e2 l20 ⊢
  clear hN
  go_enter Tryz.func37, Tryz.ntmps37
  go_wp2
  go_ret
  exact ⟨rfl, rfl⟩
end Go.Proofs.YtocfenjampmdlabGreatDoor
namespace Go.Proofs.YtocfenjampmdlabGreatDoor
open Go.RowKit Num Nmb

set_option maxHeartbeats 1600000 in
theorem halves_any (gl off H : Nat) (w : World) (h0 : 0 < H) (hH : H ≤ 1048576) :
    Calls Tryz.prog 84 #[.slice (some ⟨gl, off, none⟩) (2 * H : Nat) (2 * H : Nat)] w fun e w' => e = .returned (.tuple #[.slice (some ⟨gl, off, none⟩) H H, .slice (some ⟨gl, off + H, none⟩) H H]) ∧ ∃ c, w' = w.drewN c := by
  have dq : Int.tdiv ((2 * H : Nat) : Int) 2 = (H : Int) := by rw [Int.tdiv_eq_ediv_of_nonneg (by omega)]; omega
  have q1 : (H : Int) ≤ ((2 * H : Nat) : Int) := by omega
  have q2 : 2 * H - H = H := by omega
  have q3 : (((2 * H : Nat) : Int) - (H : Int)).toNat = H := by omega
  go_enter Tryz.func84, Tryz.ntmps84
  go_wp2_with fail
  go_quiet (fail)
  rename_i nq
  go_wp2
  go_ret2
  refine ⟨?_, nq, rfl⟩
  show Ending.returned (Value.tuple #[Value.slice (some ⟨gl, off, none⟩) H H, Value.slice (some ⟨gl, off + H, none⟩) (2 * H - H) (2 * H - H)]) = _
  rw [q2]
/-- what x is twice of. -/
def hv (p : Nat) (x : Int) : Int := if x % 2 = 0 then x / 2 else (x + p) / 2
theorem hv_said {p : Nat} {x : Int} (hx : 0 ≤ x ∧ x < p) (ho : (p : Int) % 2 = 1) : (0 ≤ hv p x ∧ hv p x < p) ∧ Cg p (2 * hv p x) x := by
  unfold hv
  by_cases h : x % 2 = 0
  · rw [if_pos h]
    exact ⟨⟨by omega, by omega⟩, Cg.of_eq (by omega)⟩
  · rw [if_neg h]
    refine ⟨⟨by omega, by omega⟩, ?_⟩
    rw [show 2 * ((x + (p : Int)) / 2) = x + p by omega]
    unfold Cg
    rw [Int.add_emod_right]
set_option maxHeartbeats 1600000 in
theorem halved_any (g gf gm p k r h : Nat) (f s x : Int) (w : World) (T : PlnF w g gf gm p k r h f s) (h63 : p < 9223372036854775808) (hx : 0 ≤ x ∧ x < p) (ho : (p : Int) % 2 = 1) :
    Calls Tryz.prog 97 #[.pointer (some ⟨g, 0, none⟩), .int .u64 x] w fun e w' => e = .returned (.int .u64 (hv p x)) ∧ w' = w := by
  have c := T.tc.cell0
  have MM := hid (m_any gf p f s w T.fld)
  clear T
  rcases (show x % 2 = 0 ∨ x % 2 = 1 by omega) with h | h
  · have D : hv p x = x / 2 := by unfold hv; rw [if_pos h]
    rw [D]
    clear D
    have tm : Int.tmod x 2 = 0 := by rw [Int.tmod_eq_emod_of_nonneg (by omega)]; exact h
    have td : Int.tdiv x 2 = x / 2 := by rw [Int.tdiv_eq_ediv_of_nonneg (by omega)]
    go_enter Tryz.func97, Tryz.ntmps97
    go_wp2
    go_ret
    exact ⟨rfl, by first | trivial | rfl⟩
  · have D : hv p x = (x + p) / 2 := by unfold hv; rw [if_neg (by omega)]
    rw [D]
    clear D
    have tm : Int.tmod x 2 = 1 := by rw [Int.tmod_eq_emod_of_nonneg (by omega)]; exact h
    have td : Int.tdiv (x + p) 2 = (x + p) / 2 := by rw [Int.tdiv_eq_ediv_of_nonneg (by omega)]
    have wr : IntKind.u64.wrap (x + p) = x + p := by rw [IntKind.wrap_u64]; omega
    go_enter Tryz.func97, Tryz.ntmps97
    go_wp2_with fail
    refine MM.out.mono ?_
    rintro e w3 ⟨rfl, hw⟩
    obtain rfl := hw.symm
    go_wp2
    go_ret
    exact ⟨rfl, by first | trivial | rfl⟩
theorem add_q (g : Nat) (m f s x y : Int) (w : World) (h : Fld w g m f s) (hm : Ok m f s) (hx : 0 ≤ x) (hy : 0 ≤ y) :
    Calls Tryz.prog 85 #[.pointer (some ⟨g, 0, none⟩), .int .u64 x, .int .u64 y] w fun e w' => e = .returned (.int .u64 ((x + y) % m)) ∧ ∃ k, w' = w.drewN k := by
  refine (add_any g m f s x y w h hm hx hy).mono ?_
  rintro e w' ⟨rfl, rfl⟩
  exact ⟨rfl, 0, rfl⟩
theorem sub_q (g : Nat) (m f s x y : Int) (w : World) (h : Fld w g m f s) (hm : Ok m f s) (hx : 0 ≤ x) (hy : 0 ≤ y) :
    Calls Tryz.prog 69 #[.pointer (some ⟨g, 0, none⟩), .int .u64 x, .int .u64 y] w fun e w' => e = .returned (.int .u64 ((x - y) % m)) ∧ ∃ k, w' = w.drewN k := by
  refine (sub_any g m f s x y w h hm hx hy).mono ?_
  rintro e w' ⟨rfl, rfl⟩
  exact ⟨rfl, 0, rfl⟩
/-- the point at twice a place. -/
def pt (r k b : Nat) : Int := (r : Int) ^ rv k (2 * b)
theorem fmp_pt {p r k b : Nat} (hk : 0 < k) : fmp p r k b % p = pt r k b * 18446744073709551616 % p := by
  obtain ⟨k, rfl⟩ : ∃ j, k = j + 1 := ⟨k - 1, by omega⟩
  unfold fmp pt
  rw [rv_even, Int.emod_emod_of_dvd _ (Int.dvd_refl _)]
  rfl
theorem fmp_nn {p r k b : Nat} (hp : 0 < p) : 0 ≤ fmp p r k b ∧ fmp p r k b < p := ⟨Int.emod_nonneg _ (by omega), Int.emod_lt_of_pos _ (by omega)⟩
set_option maxHeartbeats 1600000 in
/-- the inverse of a point, in Montgomery's form. -/
theorem inverse_any (g gf gm p k r h b : Nat) (f s : Int) (OK : Ok p f s) (TO : TabOk p k r) (hh : h = 2 ^ k / 2) (hb : b < h) : ∃ v z : Int, (0 ≤ v ∧ v % p = z * 18446744073709551616 % p ∧ Cg p (pt r k b * z) 1) ∧ ∀ w, PlnF w g gf gm p k r h f s →
    Calls Tryz.prog 96 #[.pointer (some ⟨g, 0, none⟩), .int .i64 b] w fun e w' => e = .returned (.int .u64 v) ∧ ∃ c, w' = w.drewN c := by
  have p2 := TO.pri.1
  have k20 := TO.k20
  obtain ⟨k1, rfl⟩ : ∃ j, k = j + 1 := ⟨k - 1, by
    have : k ≠ 0 := by
      rintro rfl
      rw [hh] at hb
      simp at hb
    omega⟩
  have hh' : h = 2 ^ k1 := by rw [hh, Nat.pow_succ]; omega
  have l20 : 2 ^ k1 ≤ 2 ^ 19 := Nat.pow_le_pow_right (by decide) (by omega)
  by_cases b0 : b = 0
  · subst b0
    refine ⟨fmp p r (k1 + 1) 0, 1, ?_, fun w T => ?_⟩
    · show 0 ≤ fmp p r (k1 + 1) 0 ∧ fmp p r (k1 + 1) 0 % p = 1 * 18446744073709551616 % p ∧ Cg p (pt r (k1 + 1) 0 * 1) 1
      refine ⟨(fmp_nn (by omega)).1, ?_, ?_⟩
      · rw [fmp_pt (by omega)]
        unfold pt
        rw [rv_nil, Int.pow_zero]
      · unfold pt
        rw [rv_nil, Int.pow_zero]
        exact Cg.rfl
    have c0 := T.tc.cell0
    have c3 := T.tc.cell3
    have cm := T.row.cell (i := 0) hb
    have hb' : (0 : Int) < (h : Int) := by omega
    clear T
    generalize fmp p r (k1 + 1) 0 = v at *
    go_enter Tryz.func96, Tryz.ntmps96
    go_wp2
    go_ret
    exact ⟨rfl, 0, rfl⟩
  · obtain ⟨q, hq, hql⟩ := bl_low k1 b (by omega) (by omega) (by omega)
    have hb2 := (bl_said k1 b (by omega) (by omega)).1
    rw [hq, Nat.pow_succ] at hb2
    obtain ⟨t, rfl⟩ : ∃ t, b = 2 ^ q + t := ⟨b - 2 ^ q, by omega⟩
    have qk : q < k1 := by
      apply Nat.lt_of_not_le
      intro hle
      have : 2 ^ k1 ≤ 2 ^ q := Nat.pow_le_pow_right (by decide) hle
      omega
    have xf := xor_flip q t (by omega)
    have q62 : 2 ^ q ≤ 2 ^ 19 := Nat.pow_le_pow_right (by decide) (by omega)
    have l0 : 0 < 2 ^ q := Nat.two_pow_pos q
    have xi := xor_i64 (2 ^ q + t) (2 ^ q - 1) (by omega) (by omega)
    rw [xf] at xi
    have ll : 2 ^ q + (2 ^ q - 1 - t) < h := by
      have : 2 ^ (q + 1) ≤ 2 ^ k1 := Nat.pow_le_pow_right (by decide) (by omega)
      rw [Nat.pow_succ] at this
      omega
    have nn := (fmp_nn (p := p) (r := r) (k := k1 + 1) (b := 2 ^ q + (2 ^ q - 1 - t)) (by omega)).1
    refine ⟨(0 - fmp p r (k1 + 1) (2 ^ q + (2 ^ q - 1 - t))) % (p : Int), -pt r (k1 + 1) (2 ^ q + (2 ^ q - 1 - t)), ?_, fun w T => ?_⟩
    · refine ⟨Int.emod_nonneg _ (by omega), ?_, TO.rt.flip q t qk (by omega)⟩
      have h1 : Cg p (fmp p r (k1 + 1) (2 ^ q + (2 ^ q - 1 - t))) (pt r (k1 + 1) (2 ^ q + (2 ^ q - 1 - t)) * 18446744073709551616) := fmp_pt (by omega)
      have h2 := (Cg.rfl (p := p) (a := 0)).sub h1
      rw [Int.emod_emod_of_dvd _ (Int.dvd_refl _), Int.neg_mul]
      rw [Int.zero_sub (pt r (k1 + 1) (2 ^ q + (2 ^ q - 1 - t)) * 18446744073709551616)] at h2
      exact h2
    have c0 := T.tc.cell0
    have c3 := T.tc.cell3
    have cm := T.row.cell (i := 2 ^ q + (2 ^ q - 1 - t)) ll
    have SU := hid (fun c => sub_q gf p f s 0 (fmp p r (k1 + 1) (2 ^ q + (2 ^ q - 1 - t))) (w.drewN c) (T.fld.drew c) OK (Int.le_refl 0) nn)
    have BL := hid (blen_any (2 ^ q + t) w (by omega))
    rw [hq] at BL
    have sq : ((q : Int) + 1 - 1) = (q : Int) := by omega
    have e2 : (2 : Int) ^ q = ((2 ^ q : Nat) : Int) := (Int.natCast_pow 2 q).symm
    have e3 : ((2 ^ q : Nat) : Int) - 1 = ((2 ^ q - 1 : Nat) : Int) := by omega
    have n0 : (((2 ^ q + t : Nat) : Int) == 0) = false := beq_eq_false_iff_ne.2 (by omega)
    have w1 : IntKind.u64.wrap ((2 ^ q + t : Nat) : Int) = ((2 ^ q + t : Nat) : Int) := by rw [IntKind.wrap_u64]; omega
    have ll' : ((2 ^ q + (2 ^ q - 1 - t) : Nat) : Int) < (h : Int) := by omega
    clear T hh hh' OK TO xf hql hb2
    generalize 2 ^ q = Q at *
    have w2 : IntKind.i64.wrap ((Q - 1 : Nat) : Int) = ((Q - 1 : Nat) : Int) := by rw [IntKind.wrap_i64]; omega
    have w3 : IntKind.i64.wrap (Q : Int) = (Q : Int) := by rw [IntKind.wrap_i64]; omega
    generalize Q + (Q - 1 - t) = j at *
    generalize Q + t = b at *
    generalize Q - 1 = Q1 at *
    generalize fmp p r (k1 + 1) j = v at *
    go_enter Tryz.func96, Tryz.ntmps96
    go_wp2_with fail
    refine BL.out.mono ?_
    rintro e w3 ⟨rfl, hw⟩
    obtain rfl := hw.symm
    go_wp2_with fail
    go_quiet ((go_at_call 69; exact Calls.quiet_of (SU.out _)))
    rename_i nq
    go_wp2
    go_ret
    exact ⟨rfl, nq, rfl⟩
end Go.Proofs.YtocfenjampmdlabGreatDoor
