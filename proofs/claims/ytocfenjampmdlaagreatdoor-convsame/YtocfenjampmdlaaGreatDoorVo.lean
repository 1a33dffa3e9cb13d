/- A region whose operations may come in any order: each operation is shown once, by what it leaves behind. -/
/- A region whose operations only read, but for the last one, which waits for all others: one walk in the order of the text serves every order. -/
/- The reference's products of polynomials. -/
/- What the reference's Is answers. -/
/- What the reference's Twos answers; what is gathered. -/
/- What Of of a field answers. -/
import Derived.WalkKit
import Derived.Deep.QuietTactic
import Derived.BigQuiet
import Derived.WalkSpells
import Derived.WalkLawsBesides
import Derived.Test.YtocfenjampmdlaaGreatDoorQr
import Derived.Test.YtocfenjampmdlaaGreatDoorVw
namespace Go.Proofs.YtocfenjampmdlaaGreatDoor
section
variable {P : Program} {ops : Array Oper} {Q : Exit → Act → World → Prop} {md : Region.Mode}

theorem ready_dep {listed : Array Bool} {i : Nat} (h : i ∈ Region.ready md ops listed) :
    i < ops.size ∧ listed.getD i true = false ∧ ∃ o, ops[i]? = some o ∧ ∀ e ∈ o.after, Region.binds md e = true → listed.getD e.on false = true := by
  unfold Region.ready at h
  obtain ⟨h1, h2⟩ := List.mem_filter.1 h
  have hi := List.mem_range.1 h1
  simp only [Bool.and_eq_true, Bool.not_eq_true'] at h2
  refine ⟨hi, h2.1, ops[i], Array.getElem?_eq_getElem hi, fun e he hb => ?_⟩
  have h3 := h2.2
  rw [Array.getElem?_eq_getElem hi, Option.map_some, Option.getD_some] at h3
  have h4 := Array.all_eq_true'.1 h3 e he
  simpa [hb] using h4
theorem ready_none {listed : Array Bool} (hb : ∀ (i : Nat) (o : Oper), ops[i]? = some o → ∀ e ∈ o.after, Region.binds md e = true → e.on < i) (h : Region.ready md ops listed = []) : ∀ j, j < ops.size → listed.getD j true = true := by
  intro j
  induction j using Nat.strongRecOn with
  | _ j ih =>
    intro hj
    cases hl : listed.getD j true
    · exfalso
      have : j ∈ Region.ready md ops listed := by
        unfold Region.ready
        refine List.mem_filter.2 ⟨List.mem_range.2 hj, ?_⟩
        simp only [hl, Bool.not_false, Bool.true_and]
        rw [Array.getElem?_eq_getElem hj, Option.map_some, Option.getD_some]
        refine Array.all_eq_true'.2 fun e he => ?_
        cases hbe : Region.binds md e
        · rfl
        have hlt := hb j ops[j] (Array.getElem?_eq_getElem hj) e he hbe
        have := ih e.on hlt (by omega)
        have hs : e.on < listed.size := by
          apply Nat.lt_of_not_le
          intro hge
          have hj2 : listed.size ≤ j := by omega
          simp [Array.getD, Nat.not_lt.2 hj2] at hl
        have e2 : listed.getD e.on false = listed.getD e.on true := by simp [Array.getD, hs]
        rw [e2, this]
        simp
      rw [h] at this
      cases this
    · rfl
/-- how many are not listed yet. -/
def unl (n : Nat) (listed : Array Bool) : Nat := ((List.range n).filter fun i => !listed.getD i true).length
theorem filt_lt {α : Type} {p q : α → Bool} {x : α} : ∀ {l : List α}, x ∈ l → p x = true → q x = false → (∀ y, q y = true → p y = true) → (l.filter q).length < (l.filter p).length
  | [], h, _, _, _ => by cases h
  | y :: l, h, hp, hq, hh => by
    have hle : ∀ l : List α, (l.filter q).length ≤ (l.filter p).length := fun l => by
      induction l with
      | nil => simp
      | cons z l ih =>
        simp only [List.filter_cons]
        cases hz : q z
        · cases p z <;> simp <;> omega
        · rw [hh z hz]; simp; exact ih
    rcases List.mem_cons.1 h with rfl | h
    · simp only [List.filter_cons, hp, hq]
      have := hle l
      simp
      omega
    · have ih := filt_lt h hp hq hh
      simp only [List.filter_cons]
      cases hz : q y
      · cases p y <;> simp <;> omega
      · rw [hh y hz]; simp; exact ih
theorem unl_set {n i : Nat} {listed : Array Bool} (hi : i < n) (hl : listed.getD i true = false) : unl n (listed.setIfInBounds i true) < unl n listed := by
  have hs : i < listed.size := by
    apply Nat.lt_of_not_le
    intro hge
    simp [Array.getD, Nat.not_lt.2 hge] at hl
  unfold unl
  refine filt_lt (x := i) (List.mem_range.2 hi) (by simp only [hl]; rfl) (by simp [Array.getD, hs]) fun y hy => ?_
  by_cases hyi : y = i
  · subst hyi; simp only [hl]; rfl
  · by_cases hy2 : y < listed.size
    · simpa [Array.getD, hy2, Array.getElem_setIfInBounds, Ne.symm hyi] using hy
    · simp [Array.getD, hy2] at hy
/-- the rule: what holds of the listed ones is borne by each step. -/
theorem wpAny_inv (I : Array Bool → Act → World → Prop) (hb : ∀ (i : Nat) (o : Oper), ops[i]? = some o → ∀ e ∈ o.after, Region.binds md e = true → e.on < i)
    (step : ∀ listed a w, I listed a w → ∀ (i : Nat) (o : Oper), i < ops.size → ops[i]? = some o → listed.getD i true = false → (∀ e ∈ o.after, Region.binds md e = true → listed.getD e.on false = true) → wpOp P ops Q i (I (listed.setIfInBounds i true)) a w)
    (fin : ∀ listed a w, (∀ j, j < ops.size → listed.getD j true = true) → I listed a w → Q .normal a w) :
    ∀ fuel listed a w, unl ops.size listed ≤ fuel → I listed a w → wpAny P md ops Q fuel listed a w := by
  intro fuel
  induction fuel with
  | zero =>
    intro listed a w hu hI
    have hr : Region.ready md ops listed = [] := by
      cases hr : Region.ready md ops listed with
      | nil => rfl
      | cons i rs =>
        obtain ⟨h1, h2, _⟩ := ready_dep (md := md) (ops := ops) (listed := listed) (i := i) (by rw [hr]; simp)
        have := unl_set h1 h2
        omega
    exact ⟨hr, fin listed a w (ready_none hb hr) hI⟩
  | succ fuel ih =>
    intro listed a w hu hI
    refine ⟨fun hr => fin listed a w (ready_none hb hr) hI, fun i hi => ?_⟩
    obtain ⟨h1, h2, o, h3, h4⟩ := ready_dep hi
    refine wpOp_mono (fun a' w' h => ih _ a' w' ?_ h) (step listed a w hI i o h1 h3 h2 h4)
    have := unl_set h1 h2
    omega
/-- a slot more. -/
def upd (s : Nat → Value) (i : Nat) (v : Value) : Nat → Value := fun j => if j = i then v else s j
theorem upd_same (s : Nat → Value) (i : Nat) (v : Value) : upd s i v i = v := if_pos rfl
theorem upd_other (s : Nat → Value) {i j : Nat} (v : Value) (h : j ≠ i) : upd s i v j = s j := if_neg h
/-- each operation on its own. R j is what operation j leaves behind: it speaks of the values of j and of what j waits for. -/
theorem wpAny_local (mk : (Nat → Value) → Act) (R : Nat → (Nat → Value) → World → Prop) (C : (Nat → Value) → World → Prop)
    (hb : ∀ (i : Nat) (o : Oper), ops[i]? = some o → ∀ e ∈ o.after, Region.binds md e = true → e.on < i) (hg : ∀ (i : Nat) (o : Oper), ops[i]? = some o → o.guard = none)
    (step : ∀ (i : Nat) (o : Oper), ops[i]? = some o → ∀ s w, C s w → (∀ e ∈ o.after, Region.binds md e = true → R e.on s w) →
      o.wp P (mk s) w (fun a' w' => ∃ v, a' = mk (upd s i v) ∧ C (upd s i v) w' ∧ R i (upd s i v) w' ∧
        ∀ (j : Nat) (oj : Oper), ops[j]? = some oj → j ≠ i → (∀ e ∈ oj.after, Region.binds md e = true → e.on ≠ i) → R j s w → R j (upd s i v) w') Q)
    (fin : ∀ s w, C s w → (∀ j, j < ops.size → R j s w) → Q .normal (mk s) w)
    (s : Nat → Value) (w : World) (h0 : C s w) : wpAny P md ops Q ops.size (Array.replicate ops.size false) (mk s) w := by
  refine wpAny_inv (fun listed a w => ∃ s, a = mk s ∧ C s w ∧ listed.size = ops.size ∧ (∀ (j : Nat) (o : Oper), ops[j]? = some o → listed.getD j true = true → R j s w ∧ ∀ e ∈ o.after, Region.binds md e = true → listed.getD e.on true = true)) hb ?_ ?_ ops.size _ _ _ ?_ ?_
  · rintro listed a w ⟨s, rfl, hC, hsz, hR⟩ i o hi ho hl hd
    unfold wpOp
    rw [ho]
    have hw : Region.wanted o (yielded ops (mk s).tmps) = true := by unfold Region.wanted; rw [hg i o ho]
    simp only [hw, if_true]
    refine Or.inl (Oper.wp_mono ?_ (step i o ho s w hC fun e he hbe => ?_))
    · rintro a' w' ⟨v, rfl, hC', hRi, hRj⟩
      refine ⟨upd s i v, rfl, hC', by simpa using hsz, fun j oj hoj hlj => ?_⟩
      have hjs : j < ops.size := (Array.getElem?_eq_some_iff.1 hoj).1
      have keep : ∀ k, k < ops.size → k ≠ i → (listed.setIfInBounds i true).getD k true = listed.getD k true := fun k hk hki => by
        have hk2 : k < listed.size := by omega
        simp [Array.getD, hk2, Ne.symm hki]
      have at_i : (listed.setIfInBounds i true).getD i true = true := by
        have : i < listed.size := by omega
        simp [Array.getD, this]
      by_cases hji : j = i
      · subst hji
        obtain rfl := Option.some.inj (ho.symm.trans hoj)
        refine ⟨hRi, fun e he hbe => ?_⟩
        have hlt := hb j o ho e he hbe
        rw [keep e.on (by omega) (by omega)]
        have h5 := hd e he hbe
        have : e.on < listed.size := by omega
        simpa [Array.getD, this] using h5
      · rw [keep j hjs hji] at hlj
        obtain ⟨h6, h7⟩ := hR j oj hoj hlj
        refine ⟨hRj j oj hoj hji (fun e he hbe hei => ?_) h6, fun e he hbe => ?_⟩
        · have := h7 e he hbe
          rw [hei, hl] at this
          cases this
        · by_cases hei : e.on = i
          · rw [hei]; exact at_i
          · rw [keep e.on (by have := hb j oj hoj e he hbe; omega) hei]
            exact h7 e he hbe
    · have h5 := hd e he hbe
      have hlt := hb i o ho e he hbe
      have hes : e.on < listed.size := by omega
      have h6 : listed.getD e.on true = true := by simpa [Array.getD, hes] using h5
      exact (hR e.on _ (Array.getElem?_eq_getElem (by omega)) h6).1
  · rintro listed a w hall ⟨s, rfl, hC, hsz, hR⟩
    exact fin s w hC fun j hj => (hR j _ (Array.getElem?_eq_getElem hj) (hall j hj)).1
  · unfold unl
    exact Nat.le_trans (List.length_filter_le _ _) (by simp)
  · refine ⟨s, rfl, h0, by simp, fun j o ho hl => ?_⟩
    have hj : j < ops.size := (Array.getElem?_eq_some_iff.1 ho).1
    simp [Array.getD, hj] at hl
theorem wp_region_local {id : Nat} (hm : P.follows .mixedOrders = true) (mk : (Nat → Value) → Act) (R : Nat → (Nat → Value) → World → Prop) (C : (Nat → Value) → World → Prop)
    (hb : ∀ (i : Nat) (o : Oper), ops[i]? = some o → ∀ e ∈ o.after, Region.binds .any e = true → e.on < i) (hg : ∀ (i : Nat) (o : Oper), ops[i]? = some o → o.guard = none)
    (step : ∀ (i : Nat) (o : Oper), ops[i]? = some o → ∀ s w, C s w → (∀ e ∈ o.after, Region.binds .any e = true → R e.on s w) →
      o.wp P (mk s) w (fun a' w' => ∃ v, a' = mk (upd s i v) ∧ C (upd s i v) w' ∧ R i (upd s i v) w' ∧
        ∀ (j : Nat) (oj : Oper), ops[j]? = some oj → j ≠ i → (∀ e ∈ oj.after, Region.binds .any e = true → e.on ≠ i) → R j s w → R j (upd s i v) w') Q)
    (fin : ∀ s w, C s w → (∀ j, j < ops.size → R j s w) → Q .normal (mk s) w)
    (s : Nat → Value) (a : Act) (w : World) (ha : a = mk s) (h0 : C s w.drew) : (Code.region id ops true).wp P Q a w := by
  subst ha
  exact wp_region_any hm (wpAny_local mk R C hb hg step fin s w.drew h0)
/-- one by one over a list of operations. -/
def AllOps (Pr : Nat → Oper → Prop) : Nat → List Oper → Prop
  | _, [] => True
  | k, o :: l => Pr k o ∧ AllOps Pr (k + 1) l
theorem AllOps.at {Pr : Nat → Oper → Prop} : ∀ {l : List Oper} {k : Nat}, AllOps Pr k l → ∀ (i : Nat) (o : Oper), l[i]? = some o → Pr (k + i) o
  | [], _, _, i, o, h => by simp at h
  | o' :: l, k, ha, 0, o, h => by
    simp at h
    subst h
    exact ha.1
  | o' :: l, k, ha, i + 1, o, h => by
    have := AllOps.at ha.2 i o (by simpa using h)
    rw [show k + (i + 1) = k + 1 + i by omega]
    exact this
/-- what an operation waits for. -/
def Deps (R : Nat → (Nat → Value) → World → Prop) (s : Nat → Value) (w : World) : List Edge → Prop
  | [] => True
  | e :: l => (Region.binds .any e = true → R e.on s w) ∧ Deps R s w l
theorem Deps.of {R : Nat → (Nat → Value) → World → Prop} {s : Nat → Value} {w : World} : ∀ {l : List Edge}, (∀ e ∈ l, Region.binds .any e = true → R e.on s w) → Deps R s w l
  | [], _ => trivial
  | e :: _, h => ⟨h e (by simp), Deps.of fun e' he => h e' (by simp [he])⟩
def backB : Nat → List Oper → Bool
  | _, [] => true
  | k, o :: l => o.after.toList.all (fun e => !Region.binds .any e || decide (e.on < k)) && o.guard.isNone && backB (k + 1) l
theorem backB_said : ∀ {l : List Oper} {k : Nat}, backB k l = true → ∀ (i : Nat) (o : Oper), l[i]? = some o → (∀ e ∈ o.after, Region.binds .any e = true → e.on < k + i) ∧ o.guard = none
  | [], _, _, i, o, h => by simp at h
  | o' :: l, k, hb, 0, o, h => by
    simp at h
    subst h
    simp only [backB, Bool.and_eq_true] at hb
    refine ⟨fun e he hbe => ?_, by simpa using hb.1.2⟩
    have := List.all_eq_true.1 hb.1.1 e (by simpa using he)
    simpa [hbe] using this
  | o' :: l, k, hb, i + 1, o, h => by
    simp only [backB, Bool.and_eq_true] at hb
    have := backB_said hb.2 i o (by simpa using h)
    rw [show k + (i + 1) = k + 1 + i by omega]
    exact this
/-- whom does operation j wait for? -/
def waits (l : List Oper) (j i : Nat) : Bool := match l[j]? with
  | some o => o.after.toList.any fun e => Region.binds .any e && e.on == i
  | none => false
theorem wp_region_each {id : Nat} {l : List Oper} (hm : P.follows .mixedOrders = true) (mk : (Nat → Value) → Act) (R : Nat → (Nat → Value) → World → Prop) (C : (Nat → Value) → World → Prop)
    (hb : backB 0 l = true)
    (step : AllOps (fun i o => ∀ s w, C s w → Deps R s w o.after.toList → ∀ K : Act → World → Prop,
      (∀ v w', C (upd s i v) w' → R i (upd s i v) w' → (∀ j, j < l.length → j ≠ i → waits l j i = false → R j s w → R j (upd s i v) w') → K (mk (upd s i v)) w') → o.wp P (mk s) w K Q) 0 l)
    (fin : ∀ s w, C s w → (∀ j, j < l.length → R j s w) → Q .normal (mk s) w)
    (s : Nat → Value) (a : Act) (w : World) (ha : a = mk s) (h0 : C s w.drew) : (Code.region id l.toArray true).wp P Q a w := by
  refine wp_region_local hm mk R C (fun i o ho e he hbe => ?_) (fun i o ho => ?_) (fun i o ho s w hC hd => ?_) (fun s w hC hR => fin s w hC fun j hj => hR j (by simpa using hj)) s a w ha h0
  · have := (backB_said hb i o (by simpa using ho)).1 e he hbe
    omega
  · exact (backB_said hb i o (by simpa using ho)).2
  · have h := AllOps.at step i o (by simpa using ho)
    rw [Nat.zero_add] at h
    refine h s w hC (Deps.of fun e he hbe => hd e (by simpa using he) hbe) _ fun v w' h1 h2 h3 => ⟨v, rfl, h1, h2, fun j oj hoj hji hno hR => h3 j ?_ hji ?_ hR⟩
    · have := (Array.getElem?_eq_some_iff.1 hoj).1
      simpa using this
    · unfold waits
      have e : l[j]? = some oj := by simpa using hoj
      rw [e]
      simp only [List.any_eq_false, Bool.and_eq_true, beq_iff_eq]
      rintro e' he' ⟨h4, h5⟩
      exact hno e' (by simpa using he') h4 h5
end
end Go.Proofs.YtocfenjampmdlaaGreatDoor
namespace Go.Proofs.YtocfenjampmdlaaGreatDoor
section
variable {P : Program} {C : World → Prop} {Q : Exit → Act → World → Prop}

/-- nothing, in the place of an operation. -/
def still (o : Oper) : Oper := { dst := none, op := .assign (.const (.int .i64 0)), type := o.type, pos := o.pos, after := o.after, guard := o.guard }
def stillLast : List Oper → List Oper
  | [] => []
  | [o] => [still o]
  | o :: o' :: l => o :: stillLast (o' :: l)
def lastOf : List Oper → List Oper
  | [] => []
  | [o] => [o]
  | _ :: o' :: l => lastOf (o' :: l)
theorem stillLast_at : ∀ (L : List Oper) (j : Nat), j + 1 < L.length → (stillLast L)[j]? = L[j]?
  | [], _, h => by simp at h
  | [_], _, h => by simp at h
  | o :: o' :: l, 0, _ => rfl
  | o :: o' :: l, j + 1, h => by
    have := stillLast_at (o' :: l) j (by simp only [List.length_cons] at h ⊢; omega)
    simpa [stillLast] using this
theorem stillLast_end : ∀ (L : List Oper) (j : Nat), j + 1 = L.length → ∃ o, L[j]? = some o ∧ (stillLast L)[j]? = some (still o) ∧ lastOf L = [o]
  | [], _, h => by simp at h
  | [o], 0, _ => ⟨o, rfl, rfl, rfl⟩
  | [_], j + 1, h => by simp at h
  | o :: o' :: l, 0, h => by simp at h
  | o :: o' :: l, j + 1, h => by
    obtain ⟨x, h1, h2, h3⟩ := stillLast_end (o' :: l) j (by simp only [List.length_cons] at h ⊢; omega)
    exact ⟨x, by simpa using h1, by simpa [stillLast] using h2, by simpa [lastOf] using h3⟩
theorem stillLast_len : ∀ (L : List Oper), (stillLast L).length = L.length
  | [] => rfl
  | [_] => rfl
  | o :: o' :: l => by simp only [stillLast, List.length_cons]; rw [stillLast_len (o' :: l)]; rfl
theorem stillLast_edges {L : List Oper} {j : Nat} {o : Oper} (h : L[j]? = some o) : ∃ o', (stillLast L)[j]? = some o' ∧ o'.after = o.after := by
  have hj := (List.getElem?_eq_some_iff.1 h).1
  by_cases e : j + 1 = L.length
  · obtain ⟨x, h1, h2, _⟩ := stillLast_end L j e
    obtain rfl := Option.some.inj (h.symm.trans h1)
    exact ⟨_, h2, rfl⟩
  · exact ⟨o, by rw [stillLast_at L j (by omega)]; exact h, rfl⟩
theorem ready_still {L : List Oper} {listed : Array Bool} {i : Nat} (h : i ∈ Region.ready .any L.toArray listed) : i ∈ Region.ready .any (stillLast L).toArray listed := by
  rw [mem_ready] at *
  obtain ⟨h1, o, ho, h2⟩ := h
  obtain ⟨o', h3, h4⟩ := stillLast_edges (L := L) (by simpa using ho)
  exact ⟨h1, o', by simpa using h3, by rw [h4]; exact h2⟩
/-- is each operation but the last one waited for by a later one? -/
def usedB (L : List Oper) : Bool := (List.range (L.length - 1)).all fun j => (List.range L.length).any fun k => decide (j < k) && waits L k j
theorem usedB_said {L : List Oper} (h : usedB L = true) {j : Nat} (hj : j + 1 < L.length) : ∃ k o, j < k ∧ k < L.length ∧ L[k]? = some o ∧ ∃ e ∈ o.after, Region.binds .any e = true ∧ e.on = j := by
  have h1 := List.all_eq_true.1 h j (List.mem_range.2 (by omega))
  obtain ⟨k, hk, h2⟩ := List.any_eq_true.1 h1
  rw [Bool.and_eq_true, decide_eq_true_eq] at h2
  obtain ⟨h3, h4⟩ := h2
  unfold waits at h4
  have hk := List.mem_range.1 hk
  rw [List.getElem?_eq_getElem hk] at h4
  obtain ⟨e, he, h5⟩ := List.any_eq_true.1 h4
  rw [Bool.and_eq_true, beq_iff_eq] at h5
  exact ⟨k, L[k], h3, hk, List.getElem?_eq_getElem hk, e, by simpa using he, h5.1, h5.2⟩
/-- what a listed one waits for is listed. -/
def shut (L : List Oper) (listed : Array Bool) : Prop := ∀ (j : Nat) (o : Oper), L[j]? = some o → listed.getD j true = true → ∀ e ∈ o.after, Region.binds .any e = true → listed.getD e.on true = true
theorem getD_of {listed : Array Bool} {n i : Nat} (hs : listed.size = n) (hi : i < n) (d d' : Bool) : listed.getD i d = listed.getD i d' := by
  have : i < listed.size := by omega
  simp [Array.getD, this]
theorem shut_set {L : List Oper} {listed : Array Bool} {i : Nat} (hb : backB 0 L = true) (hs : listed.size = L.length) (h : shut L listed) (hi : i ∈ Region.ready .any L.toArray listed) : shut L (listed.setIfInBounds i true) := by
  obtain ⟨h1, o, ho, h2⟩ := mem_ready.1 hi
  have hil : i < L.length := by have := (Array.getElem?_eq_some_iff.1 ho).1; simpa using this
  have keep : ∀ k, listed.getD k true = true → (listed.setIfInBounds i true).getD k true = true := fun k hk => by
    by_cases e : i = k
    · subst e; simp [Array.getD, show i < listed.size by omega]
    · rw [getD_set_ne true e]; exact hk
  intro j oj hoj hlj e he hbe
  have hjl := (List.getElem?_eq_some_iff.1 hoj).1
  have hlt := (backB_said hb j oj hoj).1 e he hbe
  by_cases ej : i = j
  · subst ej
    obtain rfl : o = oj := by
      have : L[i]? = some o := by simpa using ho
      exact Option.some.inj (this.symm.trans hoj)
    apply keep
    rw [getD_of hs (show e.on < L.length by omega) true false]
    exact h2 e he hbe
  · rw [getD_set_ne true ej] at hlj
    exact keep _ (h j oj hoj hlj e he hbe)
theorem all_listed {L : List Oper} {listed : Array Bool} (hu : usedB L = true) (hs : listed.size = L.length) (h : shut L listed) {n : Nat} (hn : n + 1 = L.length) (hr : n ∈ Region.ready .any L.toArray listed) :
    ∀ m j, j < n → n ≤ j + m → listed.getD j true = true := by
  obtain ⟨_, o, ho, h2⟩ := mem_ready.1 hr
  have ho' : L[n]? = some o := by simpa using ho
  intro m
  induction m with
  | zero => intro j h1 h3; omega
  | succ m ih =>
    intro j h1 h3
    obtain ⟨k, ok, hjk, hk, hok, e, he, hbe, rfl⟩ := usedB_said hu (j := j) (by omega)
    by_cases ek : k = n
    · subst ek
      obtain rfl := Option.some.inj (ho'.symm.trans hok)
      rw [getD_of hs (show e.on < L.length by omega) true false]
      exact h2 e he hbe
    · exact h k ok hok (ih k (by omega) (by omega)) e he hbe
theorem ready_nil {ops : Array Oper} {listed : Array Bool} (h : ∀ j, j < ops.size → listed.getD j true = true) : Region.ready .any ops listed = [] := by
  apply List.eq_nil_iff_forall_not_mem.2
  intro i hi
  obtain ⟨h1, o, ho, _⟩ := mem_ready.1 hi
  rw [h i (Array.getElem?_eq_some_iff.1 ho).1] at h1
  cases h1
theorem any_of_still {L : List Oper} (hb : backB 0 L = true) (hu : usedB L = true) {n : Nat} (hn : n + 1 = L.length) :
    ∀ (fuel : Nat) (listed : Array Bool) (a : Act) (w : World), C w → shut L listed → listed.size = L.length → listed.getD n true = false →
      wpAnyQ P .any (stillLast L).toArray C (fun a' => ∀ w', C w' → wpList P L.toArray Q (lastOf L) a' w') fuel listed a → wpAny P .any L.toArray Q fuel listed a w := by
  obtain ⟨o, ho, hst, hla⟩ := stillLast_end L n hn
  have back : ∀ (i : Nat) (o : Oper), L.toArray[i]? = some o → ∀ e ∈ o.after, Region.binds .any e = true → e.on < i := fun i o ho e he hbe => by
    have := (backB_said hb i o (by simpa using ho)).1 e he hbe
    omega
  have gn : ∀ (i : Nat) (o : Oper), L[i]? = some o → o.guard = none := fun i o ho => (backB_said hb i o ho).2
  have some_ready : ∀ listed : Array Bool, listed.getD n true = false → Region.ready .any L.toArray listed ≠ [] := fun listed hl hr => by
    have := ready_none back hr n (by simp; omega)
    rw [hl] at this
    cases this
  intro fuel
  induction fuel with
  | zero =>
    intro listed a w hC hsh hs hl h
    exfalso
    obtain ⟨i, hi⟩ := List.exists_mem_of_ne_nil _ (some_ready listed hl)
    have := ready_still hi
    rw [h.1] at this
    cases this
  | succ fuel ih =>
    intro listed a w hC hsh hs hl h
    refine ⟨fun hr => absurd hr (some_ready listed hl), fun i hi => ?_⟩
    have hq := h.2 i (ready_still hi)
    obtain ⟨h1, oi, hoi, _⟩ := mem_ready.1 hi
    have hoi' : L[i]? = some oi := by simpa using hoi
    have hil := (List.getElem?_eq_some_iff.1 hoi').1
    have wn : ∀ (o : Oper) (y : Nat → Option Bool), o.guard = none → Region.wanted o y = true := fun o y hg => by unfold Region.wanted; rw [hg]
    unfold wpOp
    rw [hoi]
    unfold qOp at hq
    by_cases ein : i = n
    · subst ein
      obtain rfl := Option.some.inj (ho.symm.trans hoi')
      have hst' : (stillLast L).toArray[i]? = some (still o) := by simpa using hst
      rw [hst'] at hq
      simp only [wn (still o) _ (gn i o ho), if_true] at hq
      obtain ⟨v, _, hk⟩ := hq
      have hall : ∀ j, j < L.toArray.size → (listed.setIfInBounds i true).getD j true = true := fun j hj => by
        have hj' : j < L.length := by simpa using hj
        by_cases e : i = j
        · subst e; simp [Array.getD, show i < listed.size by omega]
        · rw [getD_set_ne true e]
          exact all_listed hu hs hsh hn hi L.length j (by omega) (by omega)
      have hr0 := ready_nil hall
      have hr1 : Region.ready .any (stillLast L).toArray (listed.setIfInBounds i true) = [] := ready_nil fun j hj => hall j (by simpa [stillLast_len] using hj)
      have hw : wpList P L.toArray Q (lastOf L) a w := by
        have : a.put (still o).dst v = a := rfl
        rw [this] at hk
        cases fuel with
        | zero => exact hk.2 w hC
        | succ f => exact hk.1 hr1 w hC
      rw [hla] at hw
      simp only [wpList, wn o _ (gn i o ho), if_true] at hw
      simp only [wn o _ (gn i o ho), if_true]
      refine hw.imp (Oper.wp_mono fun a' w' hq => ?_) id
      cases fuel with
      | zero => exact ⟨hr0, hq⟩
      | succ f => exact ⟨fun _ => hq, fun j hj => by rw [hr0] at hj; cases hj⟩
    · have hst' : (stillLast L).toArray[i]? = some oi := by
        have := stillLast_at L i (by omega)
        rw [hoi'] at this
        simpa using this
      rw [hst'] at hq
      simp only [wn oi _ (gn i oi hoi'), if_true] at hq
      simp only [wn oi _ (gn i oi hoi'), if_true]
      refine Or.inl (Oper.wp_of_quiet hC (fun a' w' hC' hk => ih _ a' w' hC' (shut_set hb hs hsh hi) (by simpa using hs) ?_ hk) hq)
      rw [getD_set_ne true ein]
      exact hl
/-- the rule, for a region whose operations are written out. -/
theorem wp_region_last {id : Nat} {a : Act} {w : World} {L : List Oper} (hm : P.follows .mixedOrders = true) (hB : Region.lexB .any (stillLast L).toArray = true) (hb : backB 0 L = true) (hu : usedB L = true) (hne : 0 < L.length)
    (h : wpQuiet P (stillLast L).toArray (fun w' => ∃ n, w' = w.drewN n) (fun a' => ∀ w', (∃ n, w' = w.drewN n) → wpList P L.toArray Q (lastOf L) a' w') (stillLast L) a) : (Code.region id L.toArray true).wp P Q a w := by
  simp only [Region.lexB, Bool.and_eq_true] at hB
  refine wp_region_any hm (any_of_still (C := fun w' => ∃ n, w' = w.drewN n) hb hu (n := L.length - 1) (by omega) _ _ a _ ⟨1, rfl⟩ ?_ (by simp) ?_ ?_)
  · intro j o ho hl
    have hj := (List.getElem?_eq_some_iff.1 ho).1
    simp [Array.getD, hj] at hl
  · simp [Array.getD, show L.length - 1 < L.length by omega]
  · have := wpAnyQ_lex (P := P) (C := fun w' => ∃ n, w' = w.drewN n) (md := .any) hB.1 (stillLast L) 0 (Array.replicate (stillLast L).toArray.size false) a (by simp) (by simpa using hB.2) h
    simpa [stillLast_len] using this
end
end Go.Proofs.YtocfenjampmdlaaGreatDoor
namespace Go.Proofs.YtocfenjampmdlaaGreatDoor
open Go.RowKit Num Nmb

/-- what stands at m when the products of the first i of a, and of the first k of b with the next one, were added. -/
def acc (f : Nat → Nat → Nat) (a b : Nat → Int) (lb i k m : Nat) : Int := sm (fun i' => sm (fun l => if f i' l = m then a i' * b l else 0) lb) i + sm (fun l => if f i l = m then a i * b l else 0) k
theorem acc_step (f : Nat → Nat → Nat) (a b : Nat → Int) (lb i k m : Nat) : acc f a b lb i (k + 1) m = acc f a b lb i k m + (if f i k = m then a i * b k else 0) := by
  unfold acc
  rw [sm_succ, Int.add_assoc]
theorem acc_next (f : Nat → Nat → Nat) (a b : Nat → Int) (lb i m : Nat) : acc f a b lb i lb m = acc f a b lb (i + 1) 0 m := by
  unfold acc
  rw [sm_succ]
  exact (Int.add_zero _).symm
theorem acc_zero (f : Nat → Nat → Nat) (a b : Nat → Int) (lb m : Nat) : acc f a b lb 0 0 m = 0 := rfl
theorem acc_prd (a b : Nat → Int) (la lb m : Nat) : acc (fun i l => i + l) a b lb la 0 m = prd a b la lb m := Int.add_zero _
theorem acc_rnd (a b : Nat → Int) (n m : Nat) : acc (fun i l => (i + l) % n) a b n n 0 m = rnd a b n m := Int.add_zero _
/-- the row's numbers are what is left of the sums. -/
def AcR (f : Nat → Nat → Nat) (a b : Nat → Int) (lb i k N : Nat) (p : Int) (z : Nat → Int) : Prop := ∀ m, m < N → z m = acc f a b lb i k m % p
theorem AcR.step {f : Nat → Nat → Nat} {a b : Nat → Int} {lb i k N : Nat} {p : Int} {z : Nat → Int} (h : AcR f a b lb i k N p z) (hf : f i k < N) :
    AcR f a b lb i (k + 1) N p (fun m => if m = f i k then (z (f i k) + a i * b k % p) % p else z m) := by
  intro m hm
  show (if m = f i k then _ else _) = _
  rw [acc_step]
  by_cases e : m = f i k
  · rw [if_pos e, e, if_pos rfl, h _ hf, ← Int.add_emod]
  · rw [if_neg e, if_neg (fun h' => e h'.symm), Int.add_zero]
    exact h m hm
theorem AcR.val {f : Nat → Nat → Nat} {a b : Nat → Int} {lb i k N : Nat} {p : Int} {z : Nat → Int} (h : AcR f a b lb i k N p z) (hp : 0 < p) {m : Nat} (hm : m < N) : 0 ≤ z m ∧ z m < p := by
  rw [h m hm]
  exact ⟨Int.emod_nonneg _ (by omega), Int.emod_lt_of_pos _ hp⟩
theorem Wl.cell {w : World} {ao : Option Addr} {n cap : Nat} {x : Nat → Int} (h : Wl w (.slice ao n cap) n x) {j : Nat} (hj : j < n) : ∃ b off, ao = some ⟨b, off, none⟩ ∧ b < w.heap.size ∧ w.cell? ⟨b, off + j, none⟩ = some (.int .u64 (x j)) := by
  obtain ⟨ao', cap', e, h1, h2, h3, h5⟩ := h
  cases e
  obtain ⟨b, off, h6, h7, h8⟩ := h5 (by omega)
  exact ⟨b, off, h6, h7, h8 j hj⟩
set_option maxHeartbeats 3200000 in
set_option maxRecDepth 100000 in
theorem rmulp_any (u v : Value) (la lb : Nat) (a b : Nat → Int) (p : Int) (w : World) (hu : Wl w u la a) (hv : Wl w v lb b) (ha : 0 < la) (hb : 0 < lb) (hla : la ≤ 100000) (hlb : lb ≤ 100000) (hp : 2 ≤ p) (hp' : p ≤ 9223372036854775807) :
    Calls Tryz.prog 13 #[u, v, .int .u64 p] w fun e w' => (∃ r, e = .returned r ∧ Wl w' r (la + lb - 1) (fun m => prd a b la lb m % p)) ∧ Below w.heap.size w w' := by
  have U := hid hu
  have V := hid hv
  obtain ⟨ao, cap, rfl, _⟩ := hu
  obtain ⟨bo, bap, rfl, _⟩ := hv
  have f1 : ((la : Int) == 0) = false := beq_eq_false_iff_ne.2 (by omega)
  have f2 : ((lb : Int) == 0) = false := beq_eq_false_iff_ne.2 (by omega)
  obtain ⟨N, hN⟩ : ∃ N, N = la + lb - 1 := ⟨_, rfl⟩
  have f3 : ((la : Int) + (lb : Int) - 1) = (N : Int) := by omega
  have HN := hid hN
  have nl : N ≤ 1000000 := by omega
  clear hN
  go_enter Tryz.func13, Tryz.ntmps13
  go_wp2_with (at_make; refine wp_make _ rfl _ _ rfl _ _ N rfl rfl (by omega) (by omega) (by omega) ?_; intro w1 R1 B1 Z1; have HR := hid R1; have HB := hid B1; have HZ := hid Z1; clear R1 B1 Z1)
  generalize hg : w.heap.size = g at *
  have HG := hid hg
  clear hg
  go_loopw [8] (fun iv wr => ∃ (i : Nat) (z : Nat → Int), iv = .int .i64 i ∧ i ≤ la ∧ Hid (Row wr g N z ∧ Below g w wr ∧ AcR (fun i l => i + l) a b lb i 0 N p z)) (fun iv _ => ((la : Int) - intOf iv).toNat)
  case atStart => exact ⟨0, _, rfl, Nat.zero_le _, HR.out, HB.out, fun m _ => (Int.zero_emod p).symm⟩
  case round =>
    obtain ⟨i, z, rfl, hi, H⟩ := hrel
    clear HR HB HZ
    by_cases hin : i = la
    · subst hin
      have D : Hid (Wl wr (.slice (some ⟨g, 0, none⟩) N N) N (fun m => prd a b i lb m % p)) := by
        refine Wl.eq (H.out.1.wl (fun j hj => ?_) (by omega)) fun j hj => ?_
        · have := H.out.2.2.val (by omega) hj
          omega
        · rw [H.out.2.2 j hj, acc_prd]
      have BB := hid H.out.2.1
      clear H
      go_wp2
      go_ret
      rw [HG.out, ← HN.out]
      exact ⟨⟨_, rfl, D.out⟩, BB.out⟩
    · have hin' : (i : Int) < (la : Int) := by omega
      go_wp2
      go_loopw [9] (fun kv wk => ∃ (k : Nat) (z : Nat → Int), kv = .int .i64 k ∧ k ≤ lb ∧ Hid (Row wk g N z ∧ Below g w wk ∧ AcR (fun i l => i + l) a b lb i k N p z)) (fun kv _ => ((lb : Int) - intOf kv).toNat)
      case atStart => exact ⟨0, z, rfl, Nat.zero_le _, H.out⟩
      case round =>
        obtain ⟨k, y, rfl, hk, J⟩ := hrel
        clear H
        by_cases hkn : k = lb
        · subst hkn
          have E : Hid (AcR (fun i l => i + l) a b k (i + 1) 0 N p y) := fun m hm => by rw [J.out.2.2 m hm, acc_next]
          go_wp2
          exact ⟨⟨i + 1, y, rfl, by omega, J.out.1, J.out.2.1, E.out⟩, by simp only [intOf]; omega⟩
        · have hkn' : (k : Int) < (lb : Int) := by omega
          obtain ⟨b1, o1, rfl, hb1, c1'⟩ := U.out.cell (j := i) (by omega)
          obtain ⟨b2, o2, rfl, hb2, c2'⟩ := V.out.cell (j := k) (by omega)
          have a0 := (U.out.val (j := i) (by omega)).1
          have b0 := (V.out.val (j := k) (by omega)).1
          have hik : i + k < N := by have := HN.out; omega
          have c1 : wr.cell? ⟨b1, o1 + i, none⟩ = some (.int .u64 (a i)) := by rw [J.out.2.1.cell (p := ⟨b1, o1 + i, none⟩) (by rw [HG.out] at hb1; exact hb1)]; exact c1'
          have c2 : wr.cell? ⟨b2, o2 + k, none⟩ = some (.int .u64 (b k)) := by rw [J.out.2.1.cell (p := ⟨b2, o2 + k, none⟩) (by rw [HG.out] at hb2; exact hb2)]; exact c2'
          have c3 := J.out.1.cell (i := i + k) hik
          have fz := J.out.1.frozen (i + k)
          have z0 := J.out.2.2.val (by omega) hik
          have ST : Hid (AcR (fun i l => i + l) a b lb i (k + 1) N p (fun m => if m = i + k then (y (i + k) + a i * b k % p) % p else y m)) := AcR.step J.out.2.2 hik
          have m0 := Int.emod_nonneg (a i * b k) (show p ≠ 0 by omega)
          have RS : Hid (∀ nq, Row ((wr.drewN nq).setCell ⟨g, i + k, none⟩ (.int .u64 ((y (i + k) + a i * b k % p) % p))) g N (fun m => if m = i + k then (y (i + k) + a i * b k % p) % p else y m)) := fun nq => (J.out.1.drew nq).set (i + k) _ (fun j _ => rfl)
          have BS : Hid (∀ nq x, Below g w ((wr.drewN nq).setCell ⟨g, i + k, none⟩ x)) := fun nq x => below_set (below_drewN J.out.2.1 nq) (Nat.le_refl _) _ _
          have M := hid (fun w => rmul_any (a i) (b k) p w a0 b0 hp hp')
          have A := hid (fun w => radd_any (y (i + k)) (a i * b k % p) p w z0.1 m0 hp hp')
          have q0 : (0 : Int) ≤ (i : Int) + (k : Int) := by omega
          have q1 : (i : Int) + (k : Int) < (N : Int) := by omega
          have qn : ((i : Int) + (k : Int)).toNat = i + k := by omega
          have qw : IntKind.i64.wrap ((i : Int) + (k : Int)) = (i : Int) + (k : Int) := by rw [IntKind.wrap_i64]; omega
          clear J c1' c2' z0
          generalize a i * b k % p = t1 at *
          generalize (y (i + k) + t1) % p = t2 at *
          go_wp2_with fail
          refine wp_region_last (by kernel_rfl) (by kernel_rfl) (by kernel_rfl) (by kernel_rfl) (by decide) ?_
          simp only [stillLast, still, lastOf]
          repeat (quiet_step (first
            | (go_at_call 27; exact Calls.quiet_of (M.out _))
            | (go_at_call 26; exact Calls.quiet_of (A.out _))))
          refine wpQuiet_nil ?_
          intro _ hw'
          obtain ⟨nq, hw''⟩ := hw'
          subst hw''
          go_wp2
          exact ⟨⟨k + 1, _, rfl, by omega, RS.out nq, BS.out nq _, ST.out⟩, by simp only [intOf]; omega⟩
set_option maxHeartbeats 1600000 in
theorem rmulp_none (u v : Value) (la lb : Nat) (a b : Nat → Int) (p : Int) (w : World) (hu : Wl w u la a) (hv : Wl w v lb b) (h : la = 0 ∨ lb = 0) :
    Calls Tryz.prog 13 #[u, v, .int .u64 p] w fun e w' => e = .returned (.slice none 0 0) ∧ w' = w := by
  obtain ⟨ao, cap, rfl, -⟩ := hu
  obtain ⟨bo, bap, rfl, -⟩ := hv
  by_cases ha : la = 0
  · subst ha
    clear h
    go_enter Tryz.func13, Tryz.ntmps13
    go_wp2
    go_ret
    exact ⟨rfl, rfl⟩
  · obtain rfl : lb = 0 := by omega
    have f1 : ((la : Int) == 0) = false := beq_eq_false_iff_ne.2 (by omega)
    clear h ha
    go_enter Tryz.func13, Tryz.ntmps13
    go_wp2
    go_ret
    exact ⟨rfl, rfl⟩
end Go.Proofs.YtocfenjampmdlaaGreatDoor
namespace Go.Proofs.YtocfenjampmdlaaGreatDoor
open Go.RowKit Num Nmb

theorem isB_no {n d : Nat} (hn : n ≤ 1002000) (h2 : 2 ≤ d) (hd : d * d ≤ n) (h : n % d = 0) : isB n = false := by
  cases hb : isB n
  · rfl
  · exact absurd (Nat.dvd_of_mod_eq_zero h) ((pri_of_isB hb hn).no_div h2 hd)
theorem isB_yes {n d : Nat} (hn : n ≤ 1002000) (h2 : 2 ≤ n) (hd : n < d * d) (h : ∀ e, 2 ≤ e → e < d → n % e ≠ 0) : isB n = true := by
  refine isB_of_pri (pri_of_root h2 fun e h3 h4 h5 => h e h3 ?_ (Nat.mod_eq_zero_of_dvd h5)) (by omega)
  apply Nat.lt_of_not_le
  intro h6
  have := Nat.mul_le_mul h6 h6
  omega
theorem root_lt {n d : Nat} (hn : n ≤ 1002000) (hd : d * d ≤ n) : d ≤ 1001 := by
  apply Nat.le_of_not_lt
  intro h
  have := Nat.mul_le_mul h h
  omega
end Go.Proofs.YtocfenjampmdlaaGreatDoor
namespace Go.Proofs.YtocfenjampmdlaaGreatDoor
open Go.RowKit Num Nmb

theorem two_le {k t m : Nat} (h : 2 ^ k ∣ 2 ^ t * (2 * m + 1)) : k ≤ t := by
  apply Nat.le_of_not_lt
  intro hl
  obtain ⟨d, rfl⟩ : ∃ d, k = t + 1 + d := ⟨k - t - 1, by omega⟩
  obtain ⟨c, hc⟩ := h
  have e : 2 ^ (t + 1 + d) * c = 2 ^ t * (2 * (2 ^ d * c)) := by
    rw [Nat.pow_add, Nat.pow_succ]
    simp only [Nat.mul_assoc]
  rw [e] at hc
  have := Nat.eq_of_mul_eq_mul_left (Nat.pow_pos (by decide)) hc
  omega
theorem two_uniq {a b m l : Nat} (h : 2 ^ a * (2 * m + 1) = 2 ^ b * (2 * l + 1)) : a = b :=
  Nat.le_antisymm (two_le (m := l) ⟨2 * m + 1, h.symm⟩) (two_le (m := m) ⟨2 * l + 1, h⟩)
/-- 2 goes into n just t times. -/
def Tw (n t : Nat) : Prop := ∃ m, n = 2 ^ t * (2 * m + 1)
theorem gath_mem {u x : Nat} : ∀ {q : Nat}, x ∈ gath u q → isB x = true ∧ ∃ j, 1 ≤ j ∧ j ≤ q ∧ x = 1 + u * j
  | 0, h => by cases h
  | q + 1, h => by
    rw [gath] at h
    split at h
    · rename_i hb
      rcases List.mem_cons.1 h with rfl | h
      · exact ⟨hb, q + 1, by omega, by omega, rfl⟩
      · obtain ⟨h1, j, h2, h3, h4⟩ := gath_mem h
        exact ⟨h1, j, h2, by omega, h4⟩
    · obtain ⟨h1, j, h2, h3, h4⟩ := gath_mem h
      exact ⟨h1, j, h2, by omega, h4⟩
theorem gath_down {u : Nat} (hu : 0 < u) : ∀ q, (gath u q).Pairwise (fun a b => b < a)
  | 0 => List.Pairwise.nil
  | q + 1 => by
    rw [gath]
    split
    · refine List.Pairwise.cons (fun x hx => ?_) (gath_down hu q)
      obtain ⟨_, j, _, h3, rfl⟩ := gath_mem hx
      have : u * j < u * (q + 1) := Nat.mul_lt_mul_of_pos_left (by omega) hu
      omega
    · exact gath_down hu q
theorem gath_lt {u x below : Nat} (_hu : 2 ≤ u) (hb : 2 ≤ below) (h : x ∈ gath u ((below - 2) / u)) : x < below := by
  obtain ⟨_, j, _, h3, rfl⟩ := gath_mem h
  have h4 : u * j ≤ u * ((below - 2) / u) := Nat.mul_le_mul_left u h3
  have h5 := Nat.mul_div_le (below - 2) u
  omega
end Go.Proofs.YtocfenjampmdlaaGreatDoor
namespace Go.Proofs.YtocfenjampmdlaaGreatDoor
open Go.RowKit Num
set_option maxHeartbeats 400000 in
theorem of_any (g : Nat) (m f s x : Int) (w : World) (h : Fld w g m f s) (hm : 0 < m) (hx : 0 ≤ x) :
    Calls Tryz.prog 110 #[.pointer (some ⟨g, 0, none⟩), .int .u64 x] w fun e w' => e = .returned (.int .u64 (x % m)) ∧ w' = w := by
  have H := hid h
  clear h
  go_enter Tryz.func110, Tryz.ntmps110
  go_wp2_with fail
  refine (left_any g m f s x w H.out hm hx).mono ?_
  rintro e w' ⟨rfl, rfl⟩
  go_wp2
  go_ret
  exact ⟨rfl, rfl⟩
end Go.Proofs.YtocfenjampmdlaaGreatDoor
