/- A region whose operations may come in any order: each operation is shown once, by what it leaves behind. -/
/- A region whose operations may come in any order: each is shown once, by what is known of its value alone in whatever world the others leave. -/
import Derived.WalkKit
namespace Go.Proofs.YtjgipjiopagkiaaDoor
section
variable {P : Program} {ops : Array Oper} {Q : Exit → Act → World → Prop} {md : Region.Mode}

theorem ready_dep {listed : Array Bool} {i : Nat} (h : i ∈ Region.ready md ops listed) :
    i < ops.size ∧ listed.getD i true = false ∧ ∃ o, ops[i]? = some o ∧ ∀ e ∈ o.after, Region.binds md e = true → listed.getD e.on false = true := by
  unfold Region.ready at h
  obtain ⟨h1, h2⟩ := List.mem_filter.1 h
  have hi := List.mem_range.1 h1
  simp only [Bool.and_eq_true, Bool.not_eq_true'] at h2
  refine ⟨hi, h2.1, ops[i], Array.getElem?_eq_getElem hi, fun e he hb => ?_⟩
  have h3 := h2.2
  rw [Array.getElem?_eq_getElem hi, Option.map_some, Option.getD_some] at h3
  have h4 := Array.all_eq_true'.1 h3 e he
  simpa [hb] using h4
theorem ready_none {listed : Array Bool} (hb : ∀ (i : Nat) (o : Oper), ops[i]? = some o → ∀ e ∈ o.after, Region.binds md e = true → e.on < i) (h : Region.ready md ops listed = []) : ∀ j, j < ops.size → listed.getD j true = true := by
  intro j
  induction j using Nat.strongRecOn with
  | _ j ih =>
    intro hj
    cases hl : listed.getD j true
    · exfalso
      have : j ∈ Region.ready md ops listed := by
        unfold Region.ready
        refine List.mem_filter.2 ⟨List.mem_range.2 hj, ?_⟩
        simp only [hl, Bool.not_false, Bool.true_and]
        rw [Array.getElem?_eq_getElem hj, Option.map_some, Option.getD_some]
        refine Array.all_eq_true'.2 fun e he => ?_
        cases hbe : Region.binds md e
        · rfl
        have hlt := hb j ops[j] (Array.getElem?_eq_getElem hj) e he hbe
        have := ih e.on hlt (by omega)
        have hs : e.on < listed.size := by
          apply Nat.lt_of_not_le
          intro hge
          have hj2 : listed.size ≤ j := by omega
          simp [Array.getD, Nat.not_lt.2 hj2] at hl
        have e2 : listed.getD e.on false = listed.getD e.on true := by simp [Array.getD, hs]
        rw [e2, this]
        simp
      rw [h] at this
      cases this
    · rfl
/-- how many are not listed yet. -/
def unl (n : Nat) (listed : Array Bool) : Nat := ((List.range n).filter fun i => !listed.getD i true).length
theorem filt_lt {α : Type} {p q : α → Bool} {x : α} : ∀ {l : List α}, x ∈ l → p x = true → q x = false → (∀ y, q y = true → p y = true) → (l.filter q).length < (l.filter p).length
  | [], h, _, _, _ => by cases h
  | y :: l, h, hp, hq, hh => by
    have hle : ∀ l : List α, (l.filter q).length ≤ (l.filter p).length := fun l => by
      induction l with
      | nil => simp
      | cons z l ih =>
        simp only [List.filter_cons]
        cases hz : q z
        · cases p z <;> simp <;> omega
        · rw [hh z hz]; simp; exact ih
    rcases List.mem_cons.1 h with rfl | h
    · simp only [List.filter_cons, hp, hq]
      have := hle l
      simp
      omega
    · have ih := filt_lt h hp hq hh
      simp only [List.filter_cons]
      cases hz : q y
      · cases p y <;> simp <;> omega
      · rw [hh y hz]; simp; exact ih
theorem unl_set {n i : Nat} {listed : Array Bool} (hi : i < n) (hl : listed.getD i true = false) : unl n (listed.setIfInBounds i true) < unl n listed := by
  have hs : i < listed.size := by
    apply Nat.lt_of_not_le
    intro hge
    simp [Array.getD, Nat.not_lt.2 hge] at hl
  unfold unl
  refine filt_lt (x := i) (List.mem_range.2 hi) (by simp only [hl]; rfl) (by simp [Array.getD, hs]) fun y hy => ?_
  by_cases hyi : y = i
  · subst hyi; simp only [hl]; rfl
  · by_cases hy2 : y < listed.size
    · simpa [Array.getD, hy2, Array.getElem_setIfInBounds, Ne.symm hyi] using hy
    · simp [Array.getD, hy2] at hy
/-- the rule: what holds of the listed ones is borne by each step. -/
theorem wpAny_inv (I : Array Bool → Act → World → Prop) (hb : ∀ (i : Nat) (o : Oper), ops[i]? = some o → ∀ e ∈ o.after, Region.binds md e = true → e.on < i)
    (step : ∀ listed a w, I listed a w → ∀ (i : Nat) (o : Oper), i < ops.size → ops[i]? = some o → listed.getD i true = false → (∀ e ∈ o.after, Region.binds md e = true → listed.getD e.on false = true) → wpOp P ops Q i (I (listed.setIfInBounds i true)) a w)
    (fin : ∀ listed a w, (∀ j, j < ops.size → listed.getD j true = true) → I listed a w → Q .normal a w) :
    ∀ fuel listed a w, unl ops.size listed ≤ fuel → I listed a w → wpAny P md ops Q fuel listed a w := by
  intro fuel
  induction fuel with
  | zero =>
    intro listed a w hu hI
    have hr : Region.ready md ops listed = [] := by
      cases hr : Region.ready md ops listed with
      | nil => rfl
      | cons i rs =>
        obtain ⟨h1, h2, _⟩ := ready_dep (md := md) (ops := ops) (listed := listed) (i := i) (by rw [hr]; simp)
        have := unl_set h1 h2
        omega
    exact ⟨hr, fin listed a w (ready_none hb hr) hI⟩
  | succ fuel ih =>
    intro listed a w hu hI
    refine ⟨fun hr => fin listed a w (ready_none hb hr) hI, fun i hi => ?_⟩
    obtain ⟨h1, h2, o, h3, h4⟩ := ready_dep hi
    refine wpOp_mono (fun a' w' h => ih _ a' w' ?_ h) (step listed a w hI i o h1 h3 h2 h4)
    have := unl_set h1 h2
    omega
/-- a slot more. -/
def upd (s : Nat → Value) (i : Nat) (v : Value) : Nat → Value := fun j => if j = i then v else s j
theorem upd_same (s : Nat → Value) (i : Nat) (v : Value) : upd s i v i = v := if_pos rfl
theorem upd_other (s : Nat → Value) {i j : Nat} (v : Value) (h : j ≠ i) : upd s i v j = s j := if_neg h
/-- each operation on its own. R j is what operation j leaves behind: it speaks of the values of j and of what j waits for. -/
theorem wpAny_local (mk : (Nat → Value) → Act) (R : Nat → (Nat → Value) → World → Prop) (C : (Nat → Value) → World → Prop)
    (hb : ∀ (i : Nat) (o : Oper), ops[i]? = some o → ∀ e ∈ o.after, Region.binds md e = true → e.on < i) (hg : ∀ (i : Nat) (o : Oper), ops[i]? = some o → o.guard = none)
    (step : ∀ (i : Nat) (o : Oper), ops[i]? = some o → ∀ s w, C s w → (∀ e ∈ o.after, Region.binds md e = true → R e.on s w) →
      o.wp P (mk s) w (fun a' w' => ∃ v, a' = mk (upd s i v) ∧ C (upd s i v) w' ∧ R i (upd s i v) w' ∧
        ∀ (j : Nat) (oj : Oper), ops[j]? = some oj → j ≠ i → (∀ e ∈ oj.after, Region.binds md e = true → e.on ≠ i) → R j s w → R j (upd s i v) w') Q)
    (fin : ∀ s w, C s w → (∀ j, j < ops.size → R j s w) → Q .normal (mk s) w)
    (s : Nat → Value) (w : World) (h0 : C s w) : wpAny P md ops Q ops.size (Array.replicate ops.size false) (mk s) w := by
  refine wpAny_inv (fun listed a w => ∃ s, a = mk s ∧ C s w ∧ listed.size = ops.size ∧ (∀ (j : Nat) (o : Oper), ops[j]? = some o → listed.getD j true = true → R j s w ∧ ∀ e ∈ o.after, Region.binds md e = true → listed.getD e.on true = true)) hb ?_ ?_ ops.size _ _ _ ?_ ?_
  · rintro listed a w ⟨s, rfl, hC, hsz, hR⟩ i o hi ho hl hd
    unfold wpOp
    rw [ho]
    have hw : Region.wanted o (yielded ops (mk s).tmps) = true := by unfold Region.wanted; rw [hg i o ho]
    simp only [hw, if_true]
    refine Or.inl (Oper.wp_mono ?_ (step i o ho s w hC fun e he hbe => ?_))
    · rintro a' w' ⟨v, rfl, hC', hRi, hRj⟩
      refine ⟨upd s i v, rfl, hC', by simpa using hsz, fun j oj hoj hlj => ?_⟩
      have hjs : j < ops.size := (Array.getElem?_eq_some_iff.1 hoj).1
      have keep : ∀ k, k < ops.size → k ≠ i → (listed.setIfInBounds i true).getD k true = listed.getD k true := fun k hk hki => by
        have hk2 : k < listed.size := by omega
        simp [Array.getD, hk2, Ne.symm hki]
      have at_i : (listed.setIfInBounds i true).getD i true = true := by
        have : i < listed.size := by omega
        simp [Array.getD, this]
      by_cases hji : j = i
      · subst hji
        obtain rfl := Option.some.inj (ho.symm.trans hoj)
        refine ⟨hRi, fun e he hbe => ?_⟩
        have hlt := hb j o ho e he hbe
        rw [keep e.on (by omega) (by omega)]
        have h5 := hd e he hbe
        have : e.on < listed.size := by omega
        simpa [Array.getD, this] using h5
      · rw [keep j hjs hji] at hlj
        obtain ⟨h6, h7⟩ := hR j oj hoj hlj
        refine ⟨hRj j oj hoj hji (fun e he hbe hei => ?_) h6, fun e he hbe => ?_⟩
        · have := h7 e he hbe
          rw [hei, hl] at this
          cases this
        · by_cases hei : e.on = i
          · rw [hei]; exact at_i
          · rw [keep e.on (by have := hb j oj hoj e he hbe; omega) hei]
            exact h7 e he hbe
    · have h5 := hd e he hbe
      have hlt := hb i o ho e he hbe
      have hes : e.on < listed.size := by omega
      have h6 : listed.getD e.on true = true := by simpa [Array.getD, hes] using h5
      exact (hR e.on _ (Array.getElem?_eq_getElem (by omega)) h6).1
  · rintro listed a w hall ⟨s, rfl, hC, hsz, hR⟩
    exact fin s w hC fun j hj => (hR j _ (Array.getElem?_eq_getElem hj) (hall j hj)).1
  · unfold unl
    exact Nat.le_trans (List.length_filter_le _ _) (by simp)
  · refine ⟨s, rfl, h0, by simp, fun j o ho hl => ?_⟩
    have hj : j < ops.size := (Array.getElem?_eq_some_iff.1 ho).1
    simp [Array.getD, hj] at hl
theorem wp_region_local {id : Nat} (hm : P.follows .mixedOrders = true) (mk : (Nat → Value) → Act) (R : Nat → (Nat → Value) → World → Prop) (C : (Nat → Value) → World → Prop)
    (hb : ∀ (i : Nat) (o : Oper), ops[i]? = some o → ∀ e ∈ o.after, Region.binds .any e = true → e.on < i) (hg : ∀ (i : Nat) (o : Oper), ops[i]? = some o → o.guard = none)
    (step : ∀ (i : Nat) (o : Oper), ops[i]? = some o → ∀ s w, C s w → (∀ e ∈ o.after, Region.binds .any e = true → R e.on s w) →
      o.wp P (mk s) w (fun a' w' => ∃ v, a' = mk (upd s i v) ∧ C (upd s i v) w' ∧ R i (upd s i v) w' ∧
        ∀ (j : Nat) (oj : Oper), ops[j]? = some oj → j ≠ i → (∀ e ∈ oj.after, Region.binds .any e = true → e.on ≠ i) → R j s w → R j (upd s i v) w') Q)
    (fin : ∀ s w, C s w → (∀ j, j < ops.size → R j s w) → Q .normal (mk s) w)
    (s : Nat → Value) (a : Act) (w : World) (ha : a = mk s) (h0 : C s w.drew) : (Code.region id ops true).wp P Q a w := by
  subst ha
  exact wp_region_any hm (wpAny_local mk R C hb hg step fin s w.drew h0)
/-- one by one over a list of operations. -/
def AllOps (Pr : Nat → Oper → Prop) : Nat → List Oper → Prop
  | _, [] => True
  | k, o :: l => Pr k o ∧ AllOps Pr (k + 1) l
theorem AllOps.at {Pr : Nat → Oper → Prop} : ∀ {l : List Oper} {k : Nat}, AllOps Pr k l → ∀ (i : Nat) (o : Oper), l[i]? = some o → Pr (k + i) o
  | [], _, _, i, o, h => by simp at h
  | o' :: l, k, ha, 0, o, h => by
    simp at h
    subst h
    exact ha.1
  | o' :: l, k, ha, i + 1, o, h => by
    have := AllOps.at ha.2 i o (by simpa using h)
    rw [show k + (i + 1) = k + 1 + i by omega]
    exact this
/-- what an operation waits for. -/
def Deps (R : Nat → (Nat → Value) → World → Prop) (s : Nat → Value) (w : World) : List Edge → Prop
  | [] => True
  | e :: l => (Region.binds .any e = true → R e.on s w) ∧ Deps R s w l
theorem Deps.of {R : Nat → (Nat → Value) → World → Prop} {s : Nat → Value} {w : World} : ∀ {l : List Edge}, (∀ e ∈ l, Region.binds .any e = true → R e.on s w) → Deps R s w l
  | [], _ => trivial
  | e :: _, h => ⟨h e (by simp), Deps.of fun e' he => h e' (by simp [he])⟩
def backB : Nat → List Oper → Bool
  | _, [] => true
  | k, o :: l => o.after.toList.all (fun e => !Region.binds .any e || decide (e.on < k)) && o.guard.isNone && backB (k + 1) l
theorem backB_said : ∀ {l : List Oper} {k : Nat}, backB k l = true → ∀ (i : Nat) (o : Oper), l[i]? = some o → (∀ e ∈ o.after, Region.binds .any e = true → e.on < k + i) ∧ o.guard = none
  | [], _, _, i, o, h => by simp at h
  | o' :: l, k, hb, 0, o, h => by
    simp at h
    subst h
    simp only [backB, Bool.and_eq_true] at hb
    refine ⟨fun e he hbe => ?_, by simpa using hb.1.2⟩
    have := List.all_eq_true.1 hb.1.1 e (by simpa using he)
    simpa [hbe] using this
  | o' :: l, k, hb, i + 1, o, h => by
    simp only [backB, Bool.and_eq_true] at hb
    have := backB_said hb.2 i o (by simpa using h)
    rw [show k + (i + 1) = k + 1 + i by omega]
    exact this
/-- whom does operation j wait for? -/
def waits (l : List Oper) (j i : Nat) : Bool := match l[j]? with
  | some o => o.after.toList.any fun e => Region.binds .any e && e.on == i
  | none => false
theorem wp_region_each {id : Nat} {l : List Oper} (hm : P.follows .mixedOrders = true) (mk : (Nat → Value) → Act) (R : Nat → (Nat → Value) → World → Prop) (C : (Nat → Value) → World → Prop)
    (hb : backB 0 l = true)
    (step : AllOps (fun i o => ∀ s w, C s w → Deps R s w o.after.toList → ∀ K : Act → World → Prop,
      (∀ v w', C (upd s i v) w' → R i (upd s i v) w' → (∀ j, j < l.length → j ≠ i → waits l j i = false → R j s w → R j (upd s i v) w') → K (mk (upd s i v)) w') → o.wp P (mk s) w K Q) 0 l)
    (fin : ∀ s w, C s w → (∀ j, j < l.length → R j s w) → Q .normal (mk s) w)
    (s : Nat → Value) (a : Act) (w : World) (ha : a = mk s) (h0 : C s w.drew) : (Code.region id l.toArray true).wp P Q a w := by
  refine wp_region_local hm mk R C (fun i o ho e he hbe => ?_) (fun i o ho => ?_) (fun i o ho s w hC hd => ?_) (fun s w hC hR => fin s w hC fun j hj => hR j (by simpa using hj)) s a w ha h0
  · have := (backB_said hb i o (by simpa using ho)).1 e he hbe
    omega
  · exact (backB_said hb i o (by simpa using ho)).2
  · have h := AllOps.at step i o (by simpa using ho)
    rw [Nat.zero_add] at h
    refine h s w hC (Deps.of fun e he hbe => hd e (by simpa using he) hbe) _ fun v w' h1 h2 h3 => ⟨v, rfl, h1, h2, fun j oj hoj hji hno hR => h3 j ?_ hji ?_ hR⟩
    · have := (Array.getElem?_eq_some_iff.1 hoj).1
      simpa using this
    · unfold waits
      have e : l[j]? = some oj := by simpa using hoj
      rw [e]
      simp only [List.any_eq_false, Bool.and_eq_true, beq_iff_eq]
      rintro e' he' ⟨h4, h5⟩
      exact hno e' (by simpa using he') h4 h5
end
end Go.Proofs.YtjgipjiopagkiaaDoor
namespace Go.Proofs.YtjgipjiopagkiaaDoor
section
variable {P : Program} {Q : Exit → Act → World → Prop}

theorem wp_region_mono {id : Nat} {l : List Oper} (hm : P.follows .mixedOrders = true) (mk : (Nat → Value) → Act) (Rp : Nat → Value → World → Prop) (Cw : World → Prop) (T : Nat → World → World → Prop)
    (mono : ∀ i j, j ≠ i → j < l.length → waits l j i = false → ∀ v w w', T i w w' → Rp j v w → Rp j v w') (keep : ∀ i w w', T i w w' → Cw w → Cw w') (hb : backB 0 l = true)
    (step : AllOps (fun i o => ∀ s w, Cw w → Deps (fun j s w => Rp j (s j) w) s w o.after.toList → ∀ K : Act → World → Prop, (∀ v w', T i w w' → Rp i v w' → K (mk (upd s i v)) w') → o.wp P (mk s) w K Q) 0 l)
    (fin : ∀ s w, Cw w → (∀ j, j < l.length → Rp j (s j) w) → Q .normal (mk s) w)
    (s : Nat → Value) (a : Act) (w : World) (ha : a = mk s) (h0 : Cw w.drew) : (Code.region id l.toArray true).wp P Q a w := by
  refine wp_region_each hm mk (fun j s w => Rp j (s j) w) (fun _ w => Cw w) hb ?_ fin s a w ha h0
  have gen : ∀ (L : List Oper) (k : Nat), AllOps (fun i o => ∀ s w, Cw w → Deps (fun j s w => Rp j (s j) w) s w o.after.toList → ∀ K : Act → World → Prop, (∀ v w', T i w w' → Rp i v w' → K (mk (upd s i v)) w') → o.wp P (mk s) w K Q) k L →
      AllOps (fun i o => ∀ s w, Cw w → Deps (fun j s w => Rp j (s j) w) s w o.after.toList → ∀ K : Act → World → Prop, (∀ v w', Cw w' → Rp i (upd s i v i) w' → (∀ j, j < l.length → j ≠ i → waits l j i = false → Rp j (s j) w → Rp j (upd s i v j) w') → K (mk (upd s i v)) w') → o.wp P (mk s) w K Q) k L := by
    intro L
    induction L with
    | nil => intro _ _; trivial
    | cons o L ih =>
      intro k h
      refine ⟨fun s w hC hd K hK => h.1 s w hC hd K fun v w' ht hr => hK v w' (keep k w w' ht hC) (by rw [upd_same]; exact hr) (fun j hj hne hw hr' => by rw [upd_other s v hne]; exact mono k j hne hj hw _ w w' ht hr'), ih (k + 1) h.2⟩
  exact gen l 0 step
end
end Go.Proofs.YtjgipjiopagkiaaDoor
