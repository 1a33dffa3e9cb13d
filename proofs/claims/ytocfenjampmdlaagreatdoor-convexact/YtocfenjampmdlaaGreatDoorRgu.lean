/- A region whose operations only read, but for the last one, which waits for all others: one walk in the order of the text serves every order. -/
/- A region whose first operations only read, and whose others wait for all ahead of them: one walk in the order of the text serves every order. -/
/- A region whose first four operations are moves that may come at any time, whose next ones only read, and whose others wait for all ahead of them but these moves. -/
import Derived.Deep.QuietTactic
import Derived.Test.YtocfenjampmdlaaGreatDoorRgx
import Derived.BigQuiet
import Derived.WalkSpells
import Derived.WalkLawsBesides
namespace Go.Proofs.YtocfenjampmdlaaGreatDoor
section
variable {P : Program} {C : World → Prop} {Q : Exit → Act → World → Prop}

/-- nothing, in the place of an operation. -/
def still (o : Oper) : Oper := { dst := none, op := .assign (.const (.int .i64 0)), type := o.type, pos := o.pos, after := o.after, guard := o.guard }
def stillLast : List Oper → List Oper
  | [] => []
  | [o] => [still o]
  | o :: o' :: l => o :: stillLast (o' :: l)
def lastOf : List Oper → List Oper
  | [] => []
  | [o] => [o]
  | _ :: o' :: l => lastOf (o' :: l)
theorem stillLast_at : ∀ (L : List Oper) (j : Nat), j + 1 < L.length → (stillLast L)[j]? = L[j]?
  | [], _, h => by simp at h
  | [_], _, h => by simp at h
  | o :: o' :: l, 0, _ => rfl
  | o :: o' :: l, j + 1, h => by
    have := stillLast_at (o' :: l) j (by simp only [List.length_cons] at h ⊢; omega)
    simpa [stillLast] using this
theorem stillLast_end : ∀ (L : List Oper) (j : Nat), j + 1 = L.length → ∃ o, L[j]? = some o ∧ (stillLast L)[j]? = some (still o) ∧ lastOf L = [o]
  | [], _, h => by simp at h
  | [o], 0, _ => ⟨o, rfl, rfl, rfl⟩
  | [_], j + 1, h => by simp at h
  | o :: o' :: l, 0, h => by simp at h
  | o :: o' :: l, j + 1, h => by
    obtain ⟨x, h1, h2, h3⟩ := stillLast_end (o' :: l) j (by simp only [List.length_cons] at h ⊢; omega)
    exact ⟨x, by simpa using h1, by simpa [stillLast] using h2, by simpa [lastOf] using h3⟩
theorem stillLast_len : ∀ (L : List Oper), (stillLast L).length = L.length
  | [] => rfl
  | [_] => rfl
  | o :: o' :: l => by simp only [stillLast, List.length_cons]; rw [stillLast_len (o' :: l)]; rfl
theorem stillLast_edges {L : List Oper} {j : Nat} {o : Oper} (h : L[j]? = some o) : ∃ o', (stillLast L)[j]? = some o' ∧ o'.after = o.after := by
  have hj := (List.getElem?_eq_some_iff.1 h).1
  by_cases e : j + 1 = L.length
  · obtain ⟨x, h1, h2, _⟩ := stillLast_end L j e
    obtain rfl := Option.some.inj (h.symm.trans h1)
    exact ⟨_, h2, rfl⟩
  · exact ⟨o, by rw [stillLast_at L j (by omega)]; exact h, rfl⟩
theorem ready_still {L : List Oper} {listed : Array Bool} {i : Nat} (h : i ∈ Region.ready .any L.toArray listed) : i ∈ Region.ready .any (stillLast L).toArray listed := by
  rw [mem_ready] at *
  obtain ⟨h1, o, ho, h2⟩ := h
  obtain ⟨o', h3, h4⟩ := stillLast_edges (L := L) (by simpa using ho)
  exact ⟨h1, o', by simpa using h3, by rw [h4]; exact h2⟩
/-- is each operation but the last one waited for by a later one? -/
def usedB (L : List Oper) : Bool := (List.range (L.length - 1)).all fun j => (List.range L.length).any fun k => decide (j < k) && waits L k j
theorem usedB_said {L : List Oper} (h : usedB L = true) {j : Nat} (hj : j + 1 < L.length) : ∃ k o, j < k ∧ k < L.length ∧ L[k]? = some o ∧ ∃ e ∈ o.after, Region.binds .any e = true ∧ e.on = j := by
  have h1 := List.all_eq_true.1 h j (List.mem_range.2 (by omega))
  obtain ⟨k, hk, h2⟩ := List.any_eq_true.1 h1
  rw [Bool.and_eq_true, decide_eq_true_eq] at h2
  obtain ⟨h3, h4⟩ := h2
  unfold waits at h4
  have hk := List.mem_range.1 hk
  rw [List.getElem?_eq_getElem hk] at h4
  obtain ⟨e, he, h5⟩ := List.any_eq_true.1 h4
  rw [Bool.and_eq_true, beq_iff_eq] at h5
  exact ⟨k, L[k], h3, hk, List.getElem?_eq_getElem hk, e, by simpa using he, h5.1, h5.2⟩
/-- what a listed one waits for is listed. -/
def shut (L : List Oper) (listed : Array Bool) : Prop := ∀ (j : Nat) (o : Oper), L[j]? = some o → listed.getD j true = true → ∀ e ∈ o.after, Region.binds .any e = true → listed.getD e.on true = true
theorem getD_of {listed : Array Bool} {n i : Nat} (hs : listed.size = n) (hi : i < n) (d d' : Bool) : listed.getD i d = listed.getD i d' := by
  have : i < listed.size := by omega
  simp [Array.getD, this]
theorem shut_set {L : List Oper} {listed : Array Bool} {i : Nat} (hb : backB 0 L = true) (hs : listed.size = L.length) (h : shut L listed) (hi : i ∈ Region.ready .any L.toArray listed) : shut L (listed.setIfInBounds i true) := by
  obtain ⟨h1, o, ho, h2⟩ := mem_ready.1 hi
  have hil : i < L.length := by have := (Array.getElem?_eq_some_iff.1 ho).1; simpa using this
  have keep : ∀ k, listed.getD k true = true → (listed.setIfInBounds i true).getD k true = true := fun k hk => by
    by_cases e : i = k
    · subst e; simp [Array.getD, show i < listed.size by omega]
    · rw [getD_set_ne true e]; exact hk
  intro j oj hoj hlj e he hbe
  have hjl := (List.getElem?_eq_some_iff.1 hoj).1
  have hlt := (backB_said hb j oj hoj).1 e he hbe
  by_cases ej : i = j
  · subst ej
    obtain rfl : o = oj := by
      have : L[i]? = some o := by simpa using ho
      exact Option.some.inj (this.symm.trans hoj)
    apply keep
    rw [getD_of hs (show e.on < L.length by omega) true false]
    exact h2 e he hbe
  · rw [getD_set_ne true ej] at hlj
    exact keep _ (h j oj hoj hlj e he hbe)
theorem all_listed {L : List Oper} {listed : Array Bool} (hu : usedB L = true) (hs : listed.size = L.length) (h : shut L listed) {n : Nat} (hn : n + 1 = L.length) (hr : n ∈ Region.ready .any L.toArray listed) :
    ∀ m j, j < n → n ≤ j + m → listed.getD j true = true := by
  obtain ⟨_, o, ho, h2⟩ := mem_ready.1 hr
  have ho' : L[n]? = some o := by simpa using ho
  intro m
  induction m with
  | zero => intro j h1 h3; omega
  | succ m ih =>
    intro j h1 h3
    obtain ⟨k, ok, hjk, hk, hok, e, he, hbe, rfl⟩ := usedB_said hu (j := j) (by omega)
    by_cases ek : k = n
    · subst ek
      obtain rfl := Option.some.inj (ho'.symm.trans hok)
      rw [getD_of hs (show e.on < L.length by omega) true false]
      exact h2 e he hbe
    · exact h k ok hok (ih k (by omega) (by omega)) e he hbe
theorem ready_nil {ops : Array Oper} {listed : Array Bool} (h : ∀ j, j < ops.size → listed.getD j true = true) : Region.ready .any ops listed = [] := by
  apply List.eq_nil_iff_forall_not_mem.2
  intro i hi
  obtain ⟨h1, o, ho, _⟩ := mem_ready.1 hi
  rw [h i (Array.getElem?_eq_some_iff.1 ho).1] at h1
  cases h1
theorem any_of_still {L : List Oper} (hb : backB 0 L = true) (hu : usedB L = true) {n : Nat} (hn : n + 1 = L.length) :
    ∀ (fuel : Nat) (listed : Array Bool) (a : Act) (w : World), C w → shut L listed → listed.size = L.length → listed.getD n true = false →
      wpAnyQ P .any (stillLast L).toArray C (fun a' => ∀ w', C w' → wpList P L.toArray Q (lastOf L) a' w') fuel listed a → wpAny P .any L.toArray Q fuel listed a w := by
  obtain ⟨o, ho, hst, hla⟩ := stillLast_end L n hn
  have back : ∀ (i : Nat) (o : Oper), L.toArray[i]? = some o → ∀ e ∈ o.after, Region.binds .any e = true → e.on < i := fun i o ho e he hbe => by
    have := (backB_said hb i o (by simpa using ho)).1 e he hbe
    omega
  have gn : ∀ (i : Nat) (o : Oper), L[i]? = some o → o.guard = none := fun i o ho => (backB_said hb i o ho).2
  have some_ready : ∀ listed : Array Bool, listed.getD n true = false → Region.ready .any L.toArray listed ≠ [] := fun listed hl hr => by
    have := ready_none back hr n (by simp; omega)
    rw [hl] at this
    cases this
  intro fuel
  induction fuel with
  | zero =>
    intro listed a w hC hsh hs hl h
    exfalso
    obtain ⟨i, hi⟩ := List.exists_mem_of_ne_nil _ (some_ready listed hl)
    have := ready_still hi
    rw [h.1] at this
    cases this
  | succ fuel ih =>
    intro listed a w hC hsh hs hl h
    refine ⟨fun hr => absurd hr (some_ready listed hl), fun i hi => ?_⟩
    have hq := h.2 i (ready_still hi)
    obtain ⟨h1, oi, hoi, _⟩ := mem_ready.1 hi
    have hoi' : L[i]? = some oi := by simpa using hoi
    have hil := (List.getElem?_eq_some_iff.1 hoi').1
    have wn : ∀ (o : Oper) (y : Nat → Option Bool), o.guard = none → Region.wanted o y = true := fun o y hg => by unfold Region.wanted; rw [hg]
    unfold wpOp
    rw [hoi]
    unfold qOp at hq
    by_cases ein : i = n
    · subst ein
      obtain rfl := Option.some.inj (ho.symm.trans hoi')
      have hst' : (stillLast L).toArray[i]? = some (still o) := by simpa using hst
      rw [hst'] at hq
      simp only [wn (still o) _ (gn i o ho), if_true] at hq
      obtain ⟨v, _, hk⟩ := hq
      have hall : ∀ j, j < L.toArray.size → (listed.setIfInBounds i true).getD j true = true := fun j hj => by
        have hj' : j < L.length := by simpa using hj
        by_cases e : i = j
        · subst e; simp [Array.getD, show i < listed.size by omega]
        · rw [getD_set_ne true e]
          exact all_listed hu hs hsh hn hi L.length j (by omega) (by omega)
      have hr0 := ready_nil hall
      have hr1 : Region.ready .any (stillLast L).toArray (listed.setIfInBounds i true) = [] := ready_nil fun j hj => hall j (by simpa [stillLast_len] using hj)
      have hw : wpList P L.toArray Q (lastOf L) a w := by
        have : a.put (still o).dst v = a := rfl
        rw [this] at hk
        cases fuel with
        | zero => exact hk.2 w hC
        | succ f => exact hk.1 hr1 w hC
      rw [hla] at hw
      simp only [wpList, wn o _ (gn i o ho), if_true] at hw
      simp only [wn o _ (gn i o ho), if_true]
      refine hw.imp (Oper.wp_mono fun a' w' hq => ?_) id
      cases fuel with
      | zero => exact ⟨hr0, hq⟩
      | succ f => exact ⟨fun _ => hq, fun j hj => by rw [hr0] at hj; cases hj⟩
    · have hst' : (stillLast L).toArray[i]? = some oi := by
        have := stillLast_at L i (by omega)
        rw [hoi'] at this
        simpa using this
      rw [hst'] at hq
      simp only [wn oi _ (gn i oi hoi'), if_true] at hq
      simp only [wn oi _ (gn i oi hoi'), if_true]
      refine Or.inl (Oper.wp_of_quiet hC (fun a' w' hC' hk => ih _ a' w' hC' (shut_set hb hs hsh hi) (by simpa using hs) ?_ hk) hq)
      rw [getD_set_ne true ein]
      exact hl
/-- the rule, for a region whose operations are written out. -/
theorem wp_region_last {id : Nat} {a : Act} {w : World} {L : List Oper} (hm : P.follows .mixedOrders = true) (hB : Region.lexB .any (stillLast L).toArray = true) (hb : backB 0 L = true) (hu : usedB L = true) (hne : 0 < L.length)
    (h : wpQuiet P (stillLast L).toArray (fun w' => ∃ n, w' = w.drewN n) (fun a' => ∀ w', (∃ n, w' = w.drewN n) → wpList P L.toArray Q (lastOf L) a' w') (stillLast L) a) : (Code.region id L.toArray true).wp P Q a w := by
  simp only [Region.lexB, Bool.and_eq_true] at hB
  refine wp_region_any hm (any_of_still (C := fun w' => ∃ n, w' = w.drewN n) hb hu (n := L.length - 1) (by omega) _ _ a _ ⟨1, rfl⟩ ?_ (by simp) ?_ ?_)
  · intro j o ho hl
    have hj := (List.getElem?_eq_some_iff.1 ho).1
    simp [Array.getD, hj] at hl
  · simp [Array.getD, show L.length - 1 < L.length by omega]
  · have := wpAnyQ_lex (P := P) (C := fun w' => ∃ n, w' = w.drewN n) (md := .any) hB.1 (stillLast L) 0 (Array.replicate (stillLast L).toArray.size false) a (by simp) (by simpa using hB.2) h
    simpa [stillLast_len] using this
end
end Go.Proofs.YtocfenjampmdlaaGreatDoor
namespace Go.Proofs.YtocfenjampmdlaaGreatDoor
section
variable {P : Program} {C : World → Prop} {Q : Exit → Act → World → Prop}

def stillFrom : Nat → List Oper → List Oper
  | 0, l => l.map still
  | _ + 1, [] => []
  | n + 1, o :: l => o :: stillFrom n l
theorem stillFrom_at : ∀ (n : Nat) (L : List Oper) (j : Nat), (stillFrom n L)[j]? = if j < n then L[j]? else (L[j]?).map still
  | 0, L, j => by rw [if_neg (by omega)]; exact List.getElem?_map
  | n + 1, [], j => by simp [stillFrom]
  | n + 1, o :: l, 0 => by rw [if_pos (by omega)]; rfl
  | n + 1, o :: l, j + 1 => by
    have := stillFrom_at n l j
    by_cases h : j < n
    · rw [if_pos h] at this; rw [if_pos (by omega)]; simpa [stillFrom] using this
    · rw [if_neg h] at this; rw [if_neg (by omega)]; simpa [stillFrom] using this
theorem stillFrom_len : ∀ (n : Nat) (L : List Oper), (stillFrom n L).length = L.length
  | 0, L => by simp [stillFrom]
  | _ + 1, [] => rfl
  | n + 1, o :: l => by simp only [stillFrom, List.length_cons]; rw [stillFrom_len n l]
theorem ready_from {n : Nat} {L : List Oper} {listed : Array Bool} {i : Nat} (h : i ∈ Region.ready .any L.toArray listed) : i ∈ Region.ready .any (stillFrom n L).toArray listed := by
  rw [mem_ready] at *
  obtain ⟨h1, o, ho, h2⟩ := h
  have ho' : L[i]? = some o := by simpa using ho
  have := stillFrom_at n L i
  by_cases hi : i < n
  · rw [if_pos hi, ho'] at this
    exact ⟨h1, o, by simpa using this, h2⟩
  · rw [if_neg hi, ho'] at this
    exact ⟨h1, still o, by simpa using this, h2⟩
/-- is each operation from c on but the last one waited for by a later one? -/
def usedC (c : Nat) (L : List Oper) : Bool := (List.range (L.length - 1)).all fun j => decide (j < c) || (List.range L.length).any fun k => decide (j < k) && waits L k j
theorem usedC_said {c : Nat} {L : List Oper} (h : usedC c L = true) {j : Nat} (hc : c ≤ j) (hj : j + 1 < L.length) : ∃ k o, j < k ∧ k < L.length ∧ L[k]? = some o ∧ ∃ e ∈ o.after, Region.binds .any e = true ∧ e.on = j := by
  have h0 := List.all_eq_true.1 h j (List.mem_range.2 (by omega))
  rw [Bool.or_eq_true, decide_eq_true_eq] at h0
  have h1 : ((List.range L.length).any fun k => decide (j < k) && waits L k j) = true := by
    rcases h0 with h0 | h0
    · omega
    · exact h0
  obtain ⟨k, hk, h2⟩ := List.any_eq_true.1 h1
  rw [Bool.and_eq_true, decide_eq_true_eq] at h2
  obtain ⟨h3, h4⟩ := h2
  unfold waits at h4
  have hk := List.mem_range.1 hk
  rw [List.getElem?_eq_getElem hk] at h4
  obtain ⟨e, he, h5⟩ := List.any_eq_true.1 h4
  rw [Bool.and_eq_true, beq_iff_eq] at h5
  exact ⟨k, L[k], h3, hk, List.getElem?_eq_getElem hk, e, by simpa using he, h5.1, h5.2⟩
/-- does each operation from n on wait, through others, for all ahead of it, but the first c? -/
def tailB (c n : Nat) (L : List Oper) : Bool := (List.range L.length).all fun i => decide (i < n) || usedC c (L.take (i + 1))
theorem tail_all {c n : Nat} {L : List Oper} {listed : Array Bool} (ht : tailB c n L = true) (hc : ∀ j, j < c → j < L.length → listed.getD j true = true) (hs : listed.size = L.length) (h : shut L listed) {i : Nat} (hi : n ≤ i) (hr : i ∈ Region.ready .any L.toArray listed) :
    ∀ j, j < i → listed.getD j true = true := by
  obtain ⟨_, o, ho, h2⟩ := mem_ready.1 hr
  have ho' : L[i]? = some o := by simpa using ho
  have hil := (List.getElem?_eq_some_iff.1 ho').1
  have hu : usedC c (L.take (i + 1)) = true := by
    have := List.all_eq_true.1 ht i (List.mem_range.2 hil)
    rw [Bool.or_eq_true, decide_eq_true_eq] at this
    rcases this with h | h
    · omega
    · exact h
  have hlen : (L.take (i + 1)).length = i + 1 := by rw [List.length_take]; omega
  have gen : ∀ m j, j < i → i ≤ j + m → listed.getD j true = true := by
    intro m
    induction m with
    | zero => intro j h1 h3; omega
    | succ m ih =>
      intro j h1 h3
      by_cases hjc : j < c
      · exact hc j hjc (by omega)
      obtain ⟨k, ok, hjk, hk, hok, e, he, hbe, rfl⟩ := usedC_said hu (j := j) (by omega) (by omega)
      have hok' : L[k]? = some ok := by
        rw [List.getElem?_take] at hok
        split at hok
        · exact hok
        · cases hok
      by_cases ek : k = i
      · subst ek
        obtain rfl := Option.some.inj (ho'.symm.trans hok')
        rw [getD_of hs (show e.on < L.length by omega) true false]
        exact h2 e he hbe
      · exact h k ok hok' (ih k (by omega) (by omega)) e he hbe
  exact fun j hj => gen i j hj (by omega)
/-- the tail, when all ahead of i are listed and nothing else. -/
theorem tail_run {c n : Nat} {L : List Oper} (hb : backB 0 L = true) (ht : tailB c n L = true) (hcn : c ≤ n) : ∀ (m i fuel : Nat) (listed : Array Bool) (a : Act) (w : World), L.length = i + m → n ≤ i → shut L listed → listed.size = L.length →
    (∀ j, j < L.length → (listed.getD j true = true ↔ j < i)) → wpList P L.toArray Q (L.drop i) a w → m ≤ fuel → wpAny P .any L.toArray Q fuel listed a w := by
  have gn : ∀ (i : Nat) (o : Oper), L[i]? = some o → o.guard = none := fun i o ho => (backB_said hb i o ho).2
  intro m
  induction m with
  | zero =>
    intro i fuel listed a w hl hi hsh hs hlist hw _
    have hr0 : Region.ready .any L.toArray listed = [] := ready_nil fun j hj => by
      have : j < L.length := by simpa using hj
      exact (hlist j this).2 (by omega)
    rw [List.drop_eq_nil_of_le (by omega)] at hw
    cases fuel with
    | zero => exact ⟨hr0, hw⟩
    | succ f => exact ⟨fun _ => hw, fun j hj => by rw [hr0] at hj; cases hj⟩
  | succ m ih =>
    intro i fuel listed a w hl hi hsh hs hlist hw hf
    obtain ⟨f, rfl⟩ : ∃ f, fuel = f + 1 := ⟨fuel - 1, by omega⟩
    have hil : i < L.length := by omega
    have back : ∀ (i : Nat) (o : Oper), L.toArray[i]? = some o → ∀ e ∈ o.after, Region.binds .any e = true → e.on < i := fun i o ho e he hbe => by
      have := (backB_said hb i o (by simpa using ho)).1 e he hbe
      omega
    have un : listed.getD i true = false := by
      cases h : listed.getD i true
      · rfl
      · have := (hlist i hil).1 h; omega
    refine ⟨fun hr => ?_, fun k hk => ?_⟩
    · have := ready_none back hr i (by simpa using hil)
      rw [un] at this
      cases this
    · obtain ⟨h1, o, ho, _⟩ := mem_ready.1 hk
      have ho' : L[k]? = some o := by simpa using ho
      have hkl := (List.getElem?_eq_some_iff.1 ho').1
      obtain rfl : k = i := by
        have hge : i ≤ k := by
          apply Nat.le_of_not_lt
          intro hlt
          rw [(hlist k hkl).2 hlt] at h1
          cases h1
        rcases Nat.lt_or_ge i k with hlt | hge'
        · have := tail_all ht (fun j hj hj2 => (hlist j hj2).2 (by omega)) hs hsh (by omega) hk i hlt
          rw [un] at this
          cases this
        · omega
      have hd : L.drop k = o :: L.drop (k + 1) := by
        rw [List.drop_eq_getElem_cons hkl]
        congr 1
        exact Option.some.inj ((List.getElem?_eq_getElem hkl).symm.trans ho')
      rw [hd] at hw
      have wn : ∀ (y : Nat → Option Bool), Region.wanted o y = true := fun y => by unfold Region.wanted; rw [gn k o ho']
      unfold wpOp
      rw [ho]
      simp only [wpList, wn, if_true] at hw ⊢
      refine hw.imp (Oper.wp_mono fun a' w' hq => ?_) id
      refine ih (k + 1) f _ a' w' (by omega) (by omega) (shut_set hb hs hsh hk) (by simpa using hs) (fun j hj => ?_) hq (by omega)
      by_cases e : k = j
      · subst e
        simp [Array.getD, show k < listed.size by omega]
      · rw [getD_set_ne true e, hlist j hj]
        omega
/-- the stilled tail does nothing. -/
theorem tail_still {n : Nat} {L : List Oper} {Q' : Act → Prop} (hb : backB 0 L = true) : ∀ (m i fuel : Nat) (listed : Array Bool) (a : Act), L.length = i + m → n ≤ i → shut L listed → listed.size = L.length →
    (∀ j, j < L.length → (listed.getD j true = true ↔ j < i)) → wpAnyQ P .any (stillFrom n L).toArray C Q' fuel listed a → Q' a := by
  have gn : ∀ (i : Nat) (o : Oper), L[i]? = some o → o.guard = none := fun i o ho => (backB_said hb i o ho).2
  intro m
  induction m with
  | zero =>
    intro i fuel listed a hl hi hsh hs hlist hq
    have hr0 : Region.ready .any (stillFrom n L).toArray listed = [] := ready_nil fun j hj => by
      have : j < L.length := by simpa [stillFrom_len] using hj
      exact (hlist j this).2 (by omega)
    cases fuel with
    | zero => exact hq.2
    | succ f => exact hq.1 hr0
  | succ m ih =>
    intro i fuel listed a hl hi hsh hs hlist hq
    have hil : i < L.length := by omega
    have un : listed.getD i true = false := by
      cases h : listed.getD i true
      · rfl
      · have := (hlist i hil).1 h; omega
    have hrL : i ∈ Region.ready .any L.toArray listed := by
      rw [mem_ready]
      refine ⟨un, L[i], by simp [hil], fun e he hbe => ?_⟩
      have hlt := (backB_said hb i L[i] (List.getElem?_eq_getElem hil)).1 e he hbe
      rw [← getD_of hs (show e.on < L.length by omega) true false]
      exact (hlist e.on (by omega)).2 (by omega)
    have hr := ready_from (n := n) hrL
    cases fuel with
    | zero => rw [hq.1] at hr; cases hr
    | succ f =>
      have h2 := hq.2 i hr
      unfold qOp at h2
      have hst : (stillFrom n L).toArray[i]? = some (still L[i]) := by
        have := stillFrom_at n L i
        rw [if_neg (by omega), List.getElem?_eq_getElem hil] at this
        simpa using this
      rw [hst] at h2
      have wn : ∀ (y : Nat → Option Bool), Region.wanted (still L[i]) y = true := fun y => by unfold Region.wanted; rw [show (still L[i]).guard = none from gn i L[i] (List.getElem?_eq_getElem hil)]
      simp only [wn, if_true] at h2
      obtain ⟨v, _, hk⟩ := h2
      refine ih (i + 1) f _ a (by omega) (by omega) (shut_set hb hs hsh hrL) (by simpa using hs) (fun j hj => ?_) hk
      by_cases e : i = j
      · subst e
        simp [Array.getD, show i < listed.size by omega]
      · rw [getD_set_ne true e, hlist j hj]
        omega
theorem any_of_tail {c n : Nat} {L : List Oper} (hb : backB 0 L = true) (ht : tailB c n L = true) (hcn : c ≤ n) (hn : n < L.length) :
    ∀ (fuel : Nat) (listed : Array Bool) (a : Act) (w : World), C w → shut L listed → listed.size = L.length → (∀ j, j < c → j < L.length → listed.getD j true = true) → (∀ j, n ≤ j → j < L.length → listed.getD j true = false) → unl L.length listed ≤ fuel →
      wpAnyQ P .any (stillFrom n L).toArray C (fun a' => ∀ w', C w' → wpList P L.toArray Q (L.drop n) a' w') fuel listed a → wpAny P .any L.toArray Q fuel listed a w := by
  have back : ∀ (i : Nat) (o : Oper), L.toArray[i]? = some o → ∀ e ∈ o.after, Region.binds .any e = true → e.on < i := fun i o ho e he hbe => by
    have := (backB_said hb i o (by simpa using ho)).1 e he hbe
    omega
  have gn : ∀ (i : Nat) (o : Oper), L[i]? = some o → o.guard = none := fun i o ho => (backB_said hb i o ho).2
  have some_ready : ∀ listed : Array Bool, listed.getD n true = false → Region.ready .any L.toArray listed ≠ [] := fun listed hl hr => by
    have := ready_none back hr n (by simpa using hn)
    rw [hl] at this
    cases this
  intro fuel
  induction fuel with
  | zero =>
    intro listed a w hC hsh hs hc hl hf h
    exfalso
    obtain ⟨i, hi⟩ := List.exists_mem_of_ne_nil _ (some_ready listed (hl n (Nat.le_refl _) hn))
    have := ready_from (n := n) hi
    rw [h.1] at this
    cases this
  | succ fuel ih =>
    intro listed a w hC hsh hs hc hl hf h
    refine ⟨fun hr => absurd hr (some_ready listed (hl n (Nat.le_refl _) hn)), fun i hi => ?_⟩
    obtain ⟨h1, oi, hoi, _⟩ := mem_ready.1 hi
    have hoi' : L[i]? = some oi := by simpa using hoi
    have hil := (List.getElem?_eq_some_iff.1 hoi').1
    by_cases hin : i < n
    · have hq := h.2 i (ready_from hi)
      have wn : ∀ (y : Nat → Option Bool), Region.wanted oi y = true := fun y => by unfold Region.wanted; rw [gn i oi hoi']
      unfold wpOp
      rw [hoi]
      unfold qOp at hq
      have hst : (stillFrom n L).toArray[i]? = some oi := by
        have := stillFrom_at n L i
        rw [if_pos hin, hoi'] at this
        simpa using this
      rw [hst] at hq
      simp only [wn, if_true] at hq ⊢
      refine Or.inl (Oper.wp_of_quiet hC (fun a' w' hC' hk => ih _ a' w' hC' (shut_set hb hs hsh hi) (by simpa using hs) (fun j h2 h3 => ?_) (fun j h2 h3 => ?_) ?_ hk) hq)
      · by_cases e : i = j
        · subst e; simp [Array.getD, show i < listed.size by omega]
        · rw [getD_set_ne true e]; exact hc j h2 h3
      · rw [getD_set_ne true (by omega)]
        exact hl j h2 h3
      · have := unl_set (n := L.length) hil h1
        omega
    · have all := tail_all ht hc hs hsh (by omega) hi
      obtain rfl : i = n := by
        rcases Nat.lt_or_ge n i with hlt | hge
        · have := all n hlt
          rw [hl n (Nat.le_refl _) hn] at this
          cases this
        · omega
      have hlist : ∀ j, j < L.length → (listed.getD j true = true ↔ j < i) := fun j hj => by
        constructor
        · intro h3
          apply Nat.lt_of_not_le
          intro h4
          rw [hl j h4 hj] at h3
          cases h3
        · exact all j
      have hw := tail_still hb (L.length - i) i (fuel + 1) listed a (by omega) (Nat.le_refl _) hsh hs hlist h w hC
      have hrun := tail_run (P := P) (Q := Q) hb ht hcn (L.length - i) i (fuel + 1) listed a w (by omega) (Nat.le_refl _) hsh hs hlist hw (by
        have : unl L.length listed = L.length - i := by
          unfold unl
          have e : (List.range L.length).filter (fun j => !listed.getD j true) = (List.range L.length).filter (fun j => decide (i ≤ j)) := by
            apply List.filter_congr
            intro j hj
            have := hlist j (List.mem_range.1 hj)
            by_cases h3 : j < i
            · rw [this.2 h3]; simp; omega
            · cases h4 : listed.getD j true
              · simp; omega
              · exact absurd (this.1 h4) h3
          rw [e]
          have gen : ∀ N, i ≤ N → ((List.range N).filter (fun j => decide (i ≤ j))).length = N - i := fun N => by
            induction N with
            | zero => intro _; simp
            | succ N ih2 =>
              intro hN
              rw [List.range_succ, List.filter_append, List.length_append]
              by_cases h5 : i ≤ N
              · rw [ih2 h5]; simp [h5]; omega
              · obtain rfl : i = N + 1 := by omega
                have : (List.range N).filter (fun j => decide (N + 1 ≤ j)) = [] := by
                  apply List.filter_eq_nil_iff.2
                  intro j hj
                  have := List.mem_range.1 hj
                  simp; omega
                rw [this]; simp
          exact gen L.length (by omega)
        omega)
      exact hrun.2 i hi
/-- the rule, for a region whose operations are written out; its first n only read. -/
theorem wp_region_tail (n : Nat) {id : Nat} {a : Act} {w : World} {L : List Oper} (hm : P.follows .mixedOrders = true) (hB : Region.lexB .any (stillFrom n L).toArray = true) (hb : backB 0 L = true) (ht : tailB 0 n L = true) (hn : n < L.length)
    (h : wpQuiet P (stillFrom n L).toArray (fun w' => ∃ m, w' = w.drewN m) (fun a' => ∀ w', (∃ m, w' = w.drewN m) → wpList P L.toArray Q (L.drop n) a' w') (stillFrom n L) a) : (Code.region id L.toArray true).wp P Q a w := by
  simp only [Region.lexB, Bool.and_eq_true] at hB
  refine wp_region_any hm (any_of_tail (C := fun w' => ∃ m, w' = w.drewN m) hb ht (Nat.zero_le _) hn _ _ a _ ⟨1, rfl⟩ ?_ (by simp) (fun j hj _ => absurd hj (by omega)) (fun j _ hj => ?_) ?_ ?_)
  · intro j o ho hl
    have hj := (List.getElem?_eq_some_iff.1 ho).1
    simp [Array.getD, hj] at hl
  · simp [Array.getD, hj]
  · unfold unl
    refine Nat.le_trans (List.length_filter_le _ _) (by simp)
  · have := wpAnyQ_lex (P := P) (C := fun w' => ∃ m, w' = w.drewN m) (md := .any) hB.1 (stillFrom n L) 0 (Array.replicate (stillFrom n L).toArray.size false) a (by simp) (by simpa using hB.2) h
    simpa [stillFrom_len] using this
/-- the same, where the first operation is a move that may come at any time. -/
theorem wp_region_tail1 (n : Nat) {id : Nat} {a : Act} {w : World} {o : Oper} {l : List Oper} (x : Operand) (hx : o.op = .move x) (hg : o.guard = none) (hQ : ∀ c a w v, Q (.panic c) (a.put o.dst v) w → Q (.panic c) a w)
    (hm : P.follows .mixedOrders = true) (hs : Region.noSelect (o :: l).toArray = true) (hs' : Region.noSelect (stillFrom (n + 1) (o :: l)).toArray = true)
    (hf : Region.free .any (o :: l).toArray (Array.replicate (l.length + 1) false) 0 = true) (hr : (Region.ready .any (o :: l).toArray (Array.replicate (l.length + 1) false)).contains 0 = true) (ha : o.after = #[])
    (hB : Region.lexFrom .any (stillFrom (n + 1) (o :: l)).toArray l.length 1 ((Array.replicate (l.length + 1) false).setIfInBounds 0 true) = true) (hb : backB 0 (o :: l) = true) (ht : tailB 1 (n + 1) (o :: l) = true) (hn : n < l.length)
    (h : wpQuiet P (stillFrom (n + 1) (o :: l)).toArray (fun w' => ∃ m, w' = w.drewN m) (fun a' => ∀ w', (∃ m, w' = w.drewN m) → wpList P (o :: l).toArray Q (l.drop n) a' w') (stillFrom n l) (a.put o.dst (a.eval x))) : (Code.region id (o :: l).toArray true).wp P Q a w := by
  refine wp_region_any hm ?_
  show wpAny P .any (o :: l).toArray Q (l.length + 1) (Array.replicate (l.length + 1) false) a _
  refine wpAny_take (i := 0) (oi := o) (v := a.eval x) rfl hs hf hr (fun c a w => hQ c a w _) (Or.inl ⟨by unfold Region.wanted; rw [hg], fun w => ?_⟩) ?_
  · exact BigFrame.run_move x hx w
  · refine any_of_tail (C := fun w' => ∃ m, w' = w.drewN m) hb ht (by omega) (by simp; omega) _ _ _ _ ⟨1, rfl⟩ ?_ (by simp) (fun j hj _ => ?_) (fun j hj hj2 => ?_) ?_ ?_
    · intro j oj hoj hl e he _
      have hj := (List.getElem?_eq_some_iff.1 hoj).1
      by_cases e0 : 0 = j
      · subst e0
        obtain rfl : o = oj := by simpa using hoj
        rw [ha] at he
        simp at he
      · rw [getD_set_ne true e0] at hl
        have hj' : j < l.length + 1 := by simpa using hj
        simp [Array.getD, hj'] at hl
    · obtain rfl : j = 0 := by omega
      simp [Array.getD]
    · have hj2' : j < l.length + 1 := by simpa using hj2
      rw [getD_set_ne true (by omega)]
      simp [Array.getD, hj2']
    · have h0 : (Array.replicate (l.length + 1) false).getD 0 true = false := by simp [Array.getD]
      have h1 := unl_set (n := (o :: l).length) (i := 0) (by simp) h0
      have h2 : unl (o :: l).length (Array.replicate (l.length + 1) false) ≤ l.length + 1 := by
        unfold unl
        exact Nat.le_trans (List.length_filter_le _ _) (by simp)
      omega
    · have := wpAnyQ_lex (P := P) (C := fun w' => ∃ m, w' = w.drewN m) (md := .any) hs' (stillFrom n l) 1 ((Array.replicate (l.length + 1) false).setIfInBounds 0 true) (a.put o.dst (a.eval x)) (fun j => by
        simp only [stillFrom, List.getElem?_toArray]
        rw [Nat.add_comm 1 j, List.getElem?_cons_succ]) (by rw [stillFrom_len]; exact hB) h
      rw [stillFrom_len] at this
      exact this
end
end Go.Proofs.YtocfenjampmdlaaGreatDoor
namespace Go.Proofs.YtocfenjampmdlaaGreatDoor
section
variable {P : Program} {C : World → Prop} {Q : Exit → Act → World → Prop}

/-- does it wait for nothing? -/
def freeB (o : Oper) : Bool := o.after.all fun e => !Region.binds .any e
theorem freeB_said {o : Oper} (h : freeB o = true) : ∀ e ∈ o.after, Region.binds .any e = true → False := fun e he hb => by
  have := Array.all_eq_true_iff_forall_mem.1 h e he
  rw [hb] at this
  cases this
theorem wp_region_tail4 (n : Nat) {id : Nat} {a : Act} {w : World} {o0 o1 o2 o3 : Oper} {l : List Oper} (x0 x1 x2 x3 : Operand) (hx0 : o0.op = .move x0) (hx1 : o1.op = .move x1) (hx2 : o2.op = .move x2) (hx3 : o3.op = .move x3)
    (hg0 : o0.guard = none) (hg1 : o1.guard = none) (hg2 : o2.guard = none) (hg3 : o3.guard = none) (hQ0 : ∀ c a w v, Q (.panic c) (a.put o0.dst v) w → Q (.panic c) a w) (hQ1 : ∀ c a w v, Q (.panic c) (a.put o1.dst v) w → Q (.panic c) a w) (hQ2 : ∀ c a w v, Q (.panic c) (a.put o2.dst v) w → Q (.panic c) a w) (hQ3 : ∀ c a w v, Q (.panic c) (a.put o3.dst v) w → Q (.panic c) a w)
    (hm : P.follows .mixedOrders = true) (hs : Region.noSelect (o0 :: o1 :: o2 :: o3 :: l).toArray = true) (hs' : Region.noSelect (stillFrom (n + 4) (o0 :: o1 :: o2 :: o3 :: l)).toArray = true)
    (hf0 : Region.free .any (o0 :: o1 :: o2 :: o3 :: l).toArray (Array.replicate (l.length + 4) false) 0 = true) (hr0 : (Region.ready .any (o0 :: o1 :: o2 :: o3 :: l).toArray (Array.replicate (l.length + 4) false)).contains 0 = true)
    (hf1 : Region.free .any (o0 :: o1 :: o2 :: o3 :: l).toArray ((Array.replicate (l.length + 4) false).setIfInBounds 0 true) 1 = true) (hr1 : (Region.ready .any (o0 :: o1 :: o2 :: o3 :: l).toArray ((Array.replicate (l.length + 4) false).setIfInBounds 0 true)).contains 1 = true)
    (hf2 : Region.free .any (o0 :: o1 :: o2 :: o3 :: l).toArray (((Array.replicate (l.length + 4) false).setIfInBounds 0 true).setIfInBounds 1 true) 2 = true) (hr2 : (Region.ready .any (o0 :: o1 :: o2 :: o3 :: l).toArray (((Array.replicate (l.length + 4) false).setIfInBounds 0 true).setIfInBounds 1 true)).contains 2 = true)
    (hf3 : Region.free .any (o0 :: o1 :: o2 :: o3 :: l).toArray ((((Array.replicate (l.length + 4) false).setIfInBounds 0 true).setIfInBounds 1 true).setIfInBounds 2 true) 3 = true) (hr3 : (Region.ready .any (o0 :: o1 :: o2 :: o3 :: l).toArray ((((Array.replicate (l.length + 4) false).setIfInBounds 0 true).setIfInBounds 1 true).setIfInBounds 2 true)).contains 3 = true)
    (ha0 : freeB o0 = true) (ha1 : freeB o1 = true) (ha2 : freeB o2 = true) (ha3 : freeB o3 = true)
    (hB : Region.lexFrom .any (stillFrom (n + 4) (o0 :: o1 :: o2 :: o3 :: l)).toArray l.length 4 (((((Array.replicate (l.length + 4) false).setIfInBounds 0 true).setIfInBounds 1 true).setIfInBounds 2 true).setIfInBounds 3 true) = true) (hb : backB 0 (o0 :: o1 :: o2 :: o3 :: l) = true) (ht : tailB 4 (n + 4) (o0 :: o1 :: o2 :: o3 :: l) = true) (hn : n < l.length)
    (a1 a2 a3 a4 : Act) (e1 : a1 = a.put o0.dst (a.eval x0)) (e2 : a2 = a1.put o1.dst (a1.eval x1)) (e3 : a3 = a2.put o2.dst (a2.eval x2)) (e4 : a4 = a3.put o3.dst (a3.eval x3))
    (h : wpQuiet P (stillFrom (n + 4) (o0 :: o1 :: o2 :: o3 :: l)).toArray (fun w' => ∃ m, w' = w.drewN m) (fun a' => ∀ w', (∃ m, w' = w.drewN m) → wpList P (o0 :: o1 :: o2 :: o3 :: l).toArray Q (l.drop n) a' w') (stillFrom n l) a4) : (Code.region id (o0 :: o1 :: o2 :: o3 :: l).toArray true).wp P Q a w := by
  refine wp_region_any hm ?_
  show wpAny P .any (o0 :: o1 :: o2 :: o3 :: l).toArray Q (l.length + 4) (Array.replicate (l.length + 4) false) a _
  refine wpAny_take (i := 0) (oi := o0) (v := a.eval x0) rfl hs hf0 hr0 (fun c a w => hQ0 c a w _) (Or.inl ⟨by unfold Region.wanted; rw [hg0], fun w => BigFrame.run_move x0 hx0 w⟩) ?_
  rw [← e1]
  refine wpAny_take (i := 1) (oi := o1) (v := a1.eval x1) rfl hs hf1 hr1 (fun c a w => hQ1 c a w _) (Or.inl ⟨by unfold Region.wanted; rw [hg1], fun w => BigFrame.run_move x1 hx1 w⟩) ?_
  rw [← e2]
  refine wpAny_take (i := 2) (oi := o2) (v := a2.eval x2) rfl hs hf2 hr2 (fun c a w => hQ2 c a w _) (Or.inl ⟨by unfold Region.wanted; rw [hg2], fun w => BigFrame.run_move x2 hx2 w⟩) ?_
  rw [← e3]
  refine wpAny_take (i := 3) (oi := o3) (v := a3.eval x3) rfl hs hf3 hr3 (fun c a w => hQ3 c a w _) (Or.inl ⟨by unfold Region.wanted; rw [hg3], fun w => BigFrame.run_move x3 hx3 w⟩) ?_
  rw [← e4]
  have gd : ∀ j, 4 ≤ j → j < l.length + 4 → (((((Array.replicate (l.length + 4) false).setIfInBounds 0 true).setIfInBounds 1 true).setIfInBounds 2 true).setIfInBounds 3 true).getD j true = false := fun j h4 hj => by
    rw [getD_set_ne true (by omega), getD_set_ne true (by omega), getD_set_ne true (by omega), getD_set_ne true (by omega)]
    simp [Array.getD, hj]
  refine any_of_tail (C := fun w' => ∃ m, w' = w.drewN m) hb ht (by omega) (by simp; omega) _ _ _ _ ⟨1, rfl⟩ ?_ (by simp) (fun j hj _ => ?_) (fun j hj hj2 => ?_) ?_ ?_
  · intro j oj hoj hl e he hbe
    have hj : j < l.length + 4 := by simpa using (List.getElem?_eq_some_iff.1 hoj).1
    rcases (show j = 0 ∨ j = 1 ∨ j = 2 ∨ j = 3 ∨ 4 ≤ j by omega) with rfl | rfl | rfl | rfl | h4
    · obtain rfl : o0 = oj := by simpa using hoj
      exact (freeB_said ha0 e he hbe).elim
    · obtain rfl : o1 = oj := by simpa using hoj
      exact (freeB_said ha1 e he hbe).elim
    · obtain rfl : o2 = oj := by simpa using hoj
      exact (freeB_said ha2 e he hbe).elim
    · obtain rfl : o3 = oj := by simpa using hoj
      exact (freeB_said ha3 e he hbe).elim
    · rw [gd j h4 hj] at hl
      cases hl
  · rcases (show j = 0 ∨ j = 1 ∨ j = 2 ∨ j = 3 by omega) with rfl | rfl | rfl | rfl <;> simp [Array.getD]
  · exact gd j (by omega) (by simpa using hj2)
  · have u0 : (Array.replicate (l.length + 4) false).getD 0 true = false := by simp [Array.getD]
    have u1 : ((Array.replicate (l.length + 4) false).setIfInBounds 0 true).getD 1 true = false := by rw [getD_set_ne true (by omega)]; simp [Array.getD]
    have u2 : (((Array.replicate (l.length + 4) false).setIfInBounds 0 true).setIfInBounds 1 true).getD 2 true = false := by rw [getD_set_ne true (by omega), getD_set_ne true (by omega)]; simp [Array.getD]
    have u3 : ((((Array.replicate (l.length + 4) false).setIfInBounds 0 true).setIfInBounds 1 true).setIfInBounds 2 true).getD 3 true = false := by rw [getD_set_ne true (by omega), getD_set_ne true (by omega), getD_set_ne true (by omega)]; simp [Array.getD]
    have v0 := unl_set (n := (o0 :: o1 :: o2 :: o3 :: l).length) (i := 0) (by simp) u0
    have v1 := unl_set (n := (o0 :: o1 :: o2 :: o3 :: l).length) (i := 1) (by simp) u1
    have v2 := unl_set (n := (o0 :: o1 :: o2 :: o3 :: l).length) (i := 2) (by simp) u2
    have v3 := unl_set (n := (o0 :: o1 :: o2 :: o3 :: l).length) (i := 3) (by simp) u3
    have v4 : unl (o0 :: o1 :: o2 :: o3 :: l).length (Array.replicate (l.length + 4) false) ≤ l.length + 4 := by
      unfold unl
      exact Nat.le_trans (List.length_filter_le _ _) (by simp)
    omega
  · have := wpAnyQ_lex (P := P) (C := fun w' => ∃ m, w' = w.drewN m) (md := .any) hs' (stillFrom n l) 4 (((((Array.replicate (l.length + 4) false).setIfInBounds 0 true).setIfInBounds 1 true).setIfInBounds 2 true).setIfInBounds 3 true) a4 (fun j => by
      simp only [stillFrom, List.getElem?_toArray]
      rw [Nat.add_comm 4 j]
      rfl) (by rw [stillFrom_len]; exact hB) h
    rw [stillFrom_len] at this
    exact this
end
end Go.Proofs.YtocfenjampmdlaaGreatDoor
