/- A region whose operations only read, but for the last one, which waits for all others: one walk in the order of the text serves every order. -/
import Derived.Deep.QuietTactic
import Derived.Test.YtjgipjiopagkiaaDoorRgx
import Derived.BigQuiet
import Derived.WalkSpells
import Derived.WalkLawsBesides
namespace Go.Proofs.YtjgipjiopagkiaaDoor
section
variable {P : Program} {C : World → Prop} {Q : Exit → Act → World → Prop}

/-- nothing, in the place of an operation. -/
def still (o : Oper) : Oper := { dst := none, op := .assign (.const (.int .i64 0)), type := o.type, pos := o.pos, after := o.after, guard := o.guard }
def stillLast : List Oper → List Oper
  | [] => []
  | [o] => [still o]
  | o :: o' :: l => o :: stillLast (o' :: l)
def lastOf : List Oper → List Oper
  | [] => []
  | [o] => [o]
  | _ :: o' :: l => lastOf (o' :: l)
theorem stillLast_at : ∀ (L : List Oper) (j : Nat), j + 1 < L.length → (stillLast L)[j]? = L[j]?
  | [], _, h => by simp at h
  | [_], _, h => by simp at h
  | o :: o' :: l, 0, _ => rfl
  | o :: o' :: l, j + 1, h => by
    have := stillLast_at (o' :: l) j (by simp only [List.length_cons] at h ⊢; omega)
    simpa [stillLast] using this
theorem stillLast_end : ∀ (L : List Oper) (j : Nat), j + 1 = L.length → ∃ o, L[j]? = some o ∧ (stillLast L)[j]? = some (still o) ∧ lastOf L = [o]
  | [], _, h => by simp at h
  | [o], 0, _ => ⟨o, rfl, rfl, rfl⟩
  | [_], j + 1, h => by simp at h
  | o :: o' :: l, 0, h => by simp at h
  | o :: o' :: l, j + 1, h => by
    obtain ⟨x, h1, h2, h3⟩ := stillLast_end (o' :: l) j (by simp only [List.length_cons] at h ⊢; omega)
    exact ⟨x, by simpa using h1, by simpa [stillLast] using h2, by simpa [lastOf] using h3⟩
theorem stillLast_len : ∀ (L : List Oper), (stillLast L).length = L.length
  | [] => rfl
  | [_] => rfl
  | o :: o' :: l => by simp only [stillLast, List.length_cons]; rw [stillLast_len (o' :: l)]; rfl
theorem stillLast_edges {L : List Oper} {j : Nat} {o : Oper} (h : L[j]? = some o) : ∃ o', (stillLast L)[j]? = some o' ∧ o'.after = o.after := by
  have hj := (List.getElem?_eq_some_iff.1 h).1
  by_cases e : j + 1 = L.length
  · obtain ⟨x, h1, h2, _⟩ := stillLast_end L j e
    obtain rfl := Option.some.inj (h.symm.trans h1)
    exact ⟨_, h2, rfl⟩
  · exact ⟨o, by rw [stillLast_at L j (by omega)]; exact h, rfl⟩
theorem ready_still {L : List Oper} {listed : Array Bool} {i : Nat} (h : i ∈ Region.ready .any L.toArray listed) : i ∈ Region.ready .any (stillLast L).toArray listed := by
  rw [mem_ready] at *
  obtain ⟨h1, o, ho, h2⟩ := h
  obtain ⟨o', h3, h4⟩ := stillLast_edges (L := L) (by simpa using ho)
  exact ⟨h1, o', by simpa using h3, by rw [h4]; exact h2⟩
/-- is each operation but the last one waited for by a later one? -/
def usedB (L : List Oper) : Bool := (List.range (L.length - 1)).all fun j => (List.range L.length).any fun k => decide (j < k) && waits L k j
theorem usedB_said {L : List Oper} (h : usedB L = true) {j : Nat} (hj : j + 1 < L.length) : ∃ k o, j < k ∧ k < L.length ∧ L[k]? = some o ∧ ∃ e ∈ o.after, Region.binds .any e = true ∧ e.on = j := by
  have h1 := List.all_eq_true.1 h j (List.mem_range.2 (by omega))
  obtain ⟨k, hk, h2⟩ := List.any_eq_true.1 h1
  rw [Bool.and_eq_true, decide_eq_true_eq] at h2
  obtain ⟨h3, h4⟩ := h2
  unfold waits at h4
  have hk := List.mem_range.1 hk
  rw [List.getElem?_eq_getElem hk] at h4
  obtain ⟨e, he, h5⟩ := List.any_eq_true.1 h4
  rw [Bool.and_eq_true, beq_iff_eq] at h5
  exact ⟨k, L[k], h3, hk, List.getElem?_eq_getElem hk, e, by simpa using he, h5.1, h5.2⟩
/-- what a listed one waits for is listed. -/
def shut (L : List Oper) (listed : Array Bool) : Prop := ∀ (j : Nat) (o : Oper), L[j]? = some o → listed.getD j true = true → ∀ e ∈ o.after, Region.binds .any e = true → listed.getD e.on true = true
theorem getD_of {listed : Array Bool} {n i : Nat} (hs : listed.size = n) (hi : i < n) (d d' : Bool) : listed.getD i d = listed.getD i d' := by
  have : i < listed.size := by omega
  simp [Array.getD, this]
theorem shut_set {L : List Oper} {listed : Array Bool} {i : Nat} (hb : backB 0 L = true) (hs : listed.size = L.length) (h : shut L listed) (hi : i ∈ Region.ready .any L.toArray listed) : shut L (listed.setIfInBounds i true) := by
  obtain ⟨h1, o, ho, h2⟩ := mem_ready.1 hi
  have hil : i < L.length := by have := (Array.getElem?_eq_some_iff.1 ho).1; simpa using this
  have keep : ∀ k, listed.getD k true = true → (listed.setIfInBounds i true).getD k true = true := fun k hk => by
    by_cases e : i = k
    · subst e; simp [Array.getD, show i < listed.size by omega]
    · rw [getD_set_ne true e]; exact hk
  intro j oj hoj hlj e he hbe
  have hjl := (List.getElem?_eq_some_iff.1 hoj).1
  have hlt := (backB_said hb j oj hoj).1 e he hbe
  by_cases ej : i = j
  · subst ej
    obtain rfl : o = oj := by
      have : L[i]? = some o := by simpa using ho
      exact Option.some.inj (this.symm.trans hoj)
    apply keep
    rw [getD_of hs (show e.on < L.length by omega) true false]
    exact h2 e he hbe
  · rw [getD_set_ne true ej] at hlj
    exact keep _ (h j oj hoj hlj e he hbe)
theorem all_listed {L : List Oper} {listed : Array Bool} (hu : usedB L = true) (hs : listed.size = L.length) (h : shut L listed) {n : Nat} (hn : n + 1 = L.length) (hr : n ∈ Region.ready .any L.toArray listed) :
    ∀ m j, j < n → n ≤ j + m → listed.getD j true = true := by
  obtain ⟨_, o, ho, h2⟩ := mem_ready.1 hr
  have ho' : L[n]? = some o := by simpa using ho
  intro m
  induction m with
  | zero => intro j h1 h3; omega
  | succ m ih =>
    intro j h1 h3
    obtain ⟨k, ok, hjk, hk, hok, e, he, hbe, rfl⟩ := usedB_said hu (j := j) (by omega)
    by_cases ek : k = n
    · subst ek
      obtain rfl := Option.some.inj (ho'.symm.trans hok)
      rw [getD_of hs (show e.on < L.length by omega) true false]
      exact h2 e he hbe
    · exact h k ok hok (ih k (by omega) (by omega)) e he hbe
theorem ready_nil {ops : Array Oper} {listed : Array Bool} (h : ∀ j, j < ops.size → listed.getD j true = true) : Region.ready .any ops listed = [] := by
  apply List.eq_nil_iff_forall_not_mem.2
  intro i hi
  obtain ⟨h1, o, ho, _⟩ := mem_ready.1 hi
  rw [h i (Array.getElem?_eq_some_iff.1 ho).1] at h1
  cases h1
theorem any_of_still {L : List Oper} (hb : backB 0 L = true) (hu : usedB L = true) {n : Nat} (hn : n + 1 = L.length) :
    ∀ (fuel : Nat) (listed : Array Bool) (a : Act) (w : World), C w → shut L listed → listed.size = L.length → listed.getD n true = false →
      wpAnyQ P .any (stillLast L).toArray C (fun a' => ∀ w', C w' → wpList P L.toArray Q (lastOf L) a' w') fuel listed a → wpAny P .any L.toArray Q fuel listed a w := by
  obtain ⟨o, ho, hst, hla⟩ := stillLast_end L n hn
  have back : ∀ (i : Nat) (o : Oper), L.toArray[i]? = some o → ∀ e ∈ o.after, Region.binds .any e = true → e.on < i := fun i o ho e he hbe => by
    have := (backB_said hb i o (by simpa using ho)).1 e he hbe
    omega
  have gn : ∀ (i : Nat) (o : Oper), L[i]? = some o → o.guard = none := fun i o ho => (backB_said hb i o ho).2
  have some_ready : ∀ listed : Array Bool, listed.getD n true = false → Region.ready .any L.toArray listed ≠ [] := fun listed hl hr => by
    have := ready_none back hr n (by simp; omega)
    rw [hl] at this
    cases this
  intro fuel
  induction fuel with
  | zero =>
    intro listed a w hC hsh hs hl h
    exfalso
    obtain ⟨i, hi⟩ := List.exists_mem_of_ne_nil _ (some_ready listed hl)
    have := ready_still hi
    rw [h.1] at this
    cases this
  | succ fuel ih =>
    intro listed a w hC hsh hs hl h
    refine ⟨fun hr => absurd hr (some_ready listed hl), fun i hi => ?_⟩
    have hq := h.2 i (ready_still hi)
    obtain ⟨h1, oi, hoi, _⟩ := mem_ready.1 hi
    have hoi' : L[i]? = some oi := by simpa using hoi
    have hil := (List.getElem?_eq_some_iff.1 hoi').1
    have wn : ∀ (o : Oper) (y : Nat → Option Bool), o.guard = none → Region.wanted o y = true := fun o y hg => by unfold Region.wanted; rw [hg]
    unfold wpOp
    rw [hoi]
    unfold qOp at hq
    by_cases ein : i = n
    · subst ein
      obtain rfl := Option.some.inj (ho.symm.trans hoi')
      have hst' : (stillLast L).toArray[i]? = some (still o) := by simpa using hst
      rw [hst'] at hq
      simp only [wn (still o) _ (gn i o ho), if_true] at hq
      obtain ⟨v, _, hk⟩ := hq
      have hall : ∀ j, j < L.toArray.size → (listed.setIfInBounds i true).getD j true = true := fun j hj => by
        have hj' : j < L.length := by simpa using hj
        by_cases e : i = j
        · subst e; simp [Array.getD, show i < listed.size by omega]
        · rw [getD_set_ne true e]
          exact all_listed hu hs hsh hn hi L.length j (by omega) (by omega)
      have hr0 := ready_nil hall
      have hr1 : Region.ready .any (stillLast L).toArray (listed.setIfInBounds i true) = [] := ready_nil fun j hj => hall j (by simpa [stillLast_len] using hj)
      have hw : wpList P L.toArray Q (lastOf L) a w := by
        have : a.put (still o).dst v = a := rfl
        rw [this] at hk
        cases fuel with
        | zero => exact hk.2 w hC
        | succ f => exact hk.1 hr1 w hC
      rw [hla] at hw
      simp only [wpList, wn o _ (gn i o ho), if_true] at hw
      simp only [wn o _ (gn i o ho), if_true]
      refine hw.imp (Oper.wp_mono fun a' w' hq => ?_) id
      cases fuel with
      | zero => exact ⟨hr0, hq⟩
      | succ f => exact ⟨fun _ => hq, fun j hj => by rw [hr0] at hj; cases hj⟩
    · have hst' : (stillLast L).toArray[i]? = some oi := by
        have := stillLast_at L i (by omega)
        rw [hoi'] at this
        simpa using this
      rw [hst'] at hq
      simp only [wn oi _ (gn i oi hoi'), if_true] at hq
      simp only [wn oi _ (gn i oi hoi'), if_true]
      refine Or.inl (Oper.wp_of_quiet hC (fun a' w' hC' hk => ih _ a' w' hC' (shut_set hb hs hsh hi) (by simpa using hs) ?_ hk) hq)
      rw [getD_set_ne true ein]
      exact hl
/-- the rule, for a region whose operations are written out. -/
theorem wp_region_last {id : Nat} {a : Act} {w : World} {L : List Oper} (hm : P.follows .mixedOrders = true) (hB : Region.lexB .any (stillLast L).toArray = true) (hb : backB 0 L = true) (hu : usedB L = true) (hne : 0 < L.length)
    (h : wpQuiet P (stillLast L).toArray (fun w' => ∃ n, w' = w.drewN n) (fun a' => ∀ w', (∃ n, w' = w.drewN n) → wpList P L.toArray Q (lastOf L) a' w') (stillLast L) a) : (Code.region id L.toArray true).wp P Q a w := by
  simp only [Region.lexB, Bool.and_eq_true] at hB
  refine wp_region_any hm (any_of_still (C := fun w' => ∃ n, w' = w.drewN n) hb hu (n := L.length - 1) (by omega) _ _ a _ ⟨1, rfl⟩ ?_ (by simp) ?_ ?_)
  · intro j o ho hl
    have hj := (List.getElem?_eq_some_iff.1 ho).1
    simp [Array.getD, hj] at hl
  · simp [Array.getD, show L.length - 1 < L.length by omega]
  · have := wpAnyQ_lex (P := P) (C := fun w' => ∃ n, w' = w.drewN n) (md := .any) hB.1 (stillLast L) 0 (Array.replicate (stillLast L).toArray.size false) a (by simp) (by simpa using hB.2) h
    simpa [stillLast_len] using this
end
end Go.Proofs.YtjgipjiopagkiaaDoor
