/- A region whose operations only read, but for the last one, which waits for all others but one that takes a part of a tuple which nobody asks for: one walk in the order of the text serves every order. -/
/- What newJoiner answers, in the landed conv. -/
/- Numbers below the product of three primes are told by what they leave; how such a number is found (after Garner). -/
import Derived.Test.YtocfenjampmdlabGreatDoorDc
import Derived.Test.YtocfenjampmdlabGreatDoorQt
namespace Go.Proofs.YtocfenjampmdlabGreatDoor
section
variable {P : Program} {C : World → Prop} {Q : Exit → Act → World → Prop}

/-- is each operation but x and the last one waited for by a later one that is not x? -/
def usedX (x : Nat) (L : List Oper) : Bool := (List.range (L.length - 1)).all fun j => j == x || (List.range L.length).any fun k => decide (j < k) && (!(k == x) && waits L k j)
theorem usedX_said {x : Nat} {L : List Oper} (h : usedX x L = true) {j : Nat} (hj : j + 1 < L.length) (hx : j ≠ x) : ∃ k o, j < k ∧ k ≠ x ∧ k < L.length ∧ L[k]? = some o ∧ ∃ e ∈ o.after, Region.binds .any e = true ∧ e.on = j := by
  have h0 := List.all_eq_true.1 h j (List.mem_range.2 (by omega))
  rw [Bool.or_eq_true, beq_iff_eq] at h0
  have h1 : ((List.range L.length).any fun k => decide (j < k) && (!(k == x) && waits L k j)) = true := by
    rcases h0 with h0 | h0
    · exact absurd h0 hx
    · exact h0
  obtain ⟨k, hk, h2⟩ := List.any_eq_true.1 h1
  rw [Bool.and_eq_true, decide_eq_true_eq, Bool.and_eq_true] at h2
  obtain ⟨h3, h4, h5⟩ := h2
  have hkx : k ≠ x := by
    rintro rfl
    simp at h4
  unfold waits at h5
  have hk := List.mem_range.1 hk
  rw [List.getElem?_eq_getElem hk] at h5
  obtain ⟨e, he, h6⟩ := List.any_eq_true.1 h5
  rw [Bool.and_eq_true, beq_iff_eq] at h6
  exact ⟨k, L[k], h3, hkx, hk, List.getElem?_eq_getElem hk, e, by simpa using he, h6.1, h6.2⟩
theorem all_listedX {x : Nat} {L : List Oper} {listed : Array Bool} (hu : usedX x L = true) (hs : listed.size = L.length) (h : shut L listed) {n : Nat} (hn : n + 1 = L.length) (hr : n ∈ Region.ready .any L.toArray listed) :
    ∀ m j, j < n → j ≠ x → n ≤ j + m → listed.getD j true = true := by
  obtain ⟨_, o, ho, h2⟩ := mem_ready.1 hr
  have ho' : L[n]? = some o := by simpa using ho
  intro m
  induction m with
  | zero => intro j h1 _ h3; omega
  | succ m ih =>
    intro j h1 hx h3
    obtain ⟨k, ok, hjk, hkx, hk, hok, e, he, hbe, rfl⟩ := usedX_said hu (j := j) (by omega) hx
    by_cases ek : k = n
    · subst ek
      obtain rfl := Option.some.inj (ho'.symm.trans hok)
      rw [getD_of hs (show e.on < L.length by omega) true false]
      exact h2 e he hbe
    · exact h k ok hok (ih k (by omega) hkx (by omega)) e he hbe
/-- a part of a tuple is the same in every world. -/
theorem extract_same {a : Act} {o : Oper} {t : Operand} {k : Nat} {v : Value} {w : World} (h : o.op = .extract t k) (hq : o.quietAt P a C w v) (w' : World) : (execOp a.eval o).run P w' = .ok (.value v) w' := by
  unfold Oper.quietAt execOp at *
  rw [h] at *
  simp only [Instr.extract] at *
  generalize a.eval t = tv at *
  cases tv with
  | tuple vs =>
    dsimp only at *
    generalize vs[k]? = r at *
    cases r with
    | some u =>
      have h1 : Oper.quietUpon P C w v (.ok (.value u) w) := hq
      rw [← h1.2]; rfl
    | none => exact False.elim hq
  | _ => exact False.elim hq
theorem any_of_still1 {L : List Oper} (hb : backB 0 L = true) (x : Nat) (hu : usedX x L = true) {n : Nat} (hn : n + 1 = L.length) (hx : x < n) {ox on : Oper} (hox : L[x]? = some ox) (hon : L[n]? = some on) {t : Operand} {k : Nat} (hop : ox.op = .extract t k) (hap : ox.apart L.toArray on = true)
    (hsel : Region.noSelect L.toArray = true) (hQ : ∀ c a w v, Q (.panic c) (a.put ox.dst v) w → Q (.panic c) a w) :
    ∀ (fuel : Nat) (listed : Array Bool) (a : Act) (w : World), C w → shut L listed → listed.size = L.length → listed.getD n true = false →
      wpAnyQ P .any (stillLast L).toArray C (fun a' => ∀ w', C w' → wpList P L.toArray Q (lastOf L) a' w') fuel listed a → wpAny P .any L.toArray Q fuel listed a w := by
  obtain ⟨o, ho, hst, hla⟩ := stillLast_end L n hn
  have back : ∀ (i : Nat) (o : Oper), L.toArray[i]? = some o → ∀ e ∈ o.after, Region.binds .any e = true → e.on < i := fun i o ho e he hbe => by
    have := (backB_said hb i o (by simpa using ho)).1 e he hbe
    omega
  have gn : ∀ (i : Nat) (o : Oper), L[i]? = some o → o.guard = none := fun i o ho => (backB_said hb i o ho).2
  have some_ready : ∀ listed : Array Bool, listed.getD n true = false → Region.ready .any L.toArray listed ≠ [] := fun listed hl hr => by
    have := ready_none back hr n (by simp; omega)
    rw [hl] at this
    cases this
  have wn : ∀ (o : Oper) (y : Nat → Option Bool), o.guard = none → Region.wanted o y = true := fun o y hg => by unfold Region.wanted; rw [hg]
  intro fuel
  induction fuel with
  | zero =>
    intro listed a w hC hsh hs hl h
    exfalso
    obtain ⟨i, hi⟩ := List.exists_mem_of_ne_nil _ (some_ready listed hl)
    have := ready_still hi
    rw [h.1] at this
    cases this
  | succ fuel ih =>
    intro listed a w hC hsh hs hl h
    by_cases hB : (∀ j, j < n → j ≠ x → listed.getD j true = true) ∧ listed.getD x true = false
    · obtain ⟨hB1, hB2⟩ := hB
      have hxr : x ∈ Region.ready .any L.toArray listed := by
        rw [mem_ready]
        refine ⟨hB2, ox, by simpa using hox, fun e he hbe => ?_⟩
        have hlt := back x ox (by simpa using hox) e he hbe
        rw [← getD_of hs (show e.on < L.length by omega) true false]
        exact hB1 e.on (by omega) (by omega)
      have hq := h.2 x (ready_still hxr)
      unfold qOp at hq
      have hst' : (stillLast L).toArray[x]? = some ox := by
        have := stillLast_at L x (by omega)
        rw [hox] at this
        simpa using this
      rw [hst'] at hq
      simp only [wn ox _ (gn x ox hox), if_true] at hq
      obtain ⟨v, h1, hk⟩ := hq
      refine wpAny_take (i := x) (oi := ox) (v := v) (by simpa using hox) hsel ?_ (by simpa using hxr) (fun c a w => hQ c a w v) (Or.inl ⟨wn ox _ (gn x ox hox), fun w' => extract_same hop (h1 w hC) w'⟩) ?_
      · have hx' : L.toArray[x]? = some ox := by simpa using hox
        simp only [Region.free, hx', List.all_eq_true, List.mem_range, Bool.or_eq_true, beq_iff_eq]
        intro j hj
        have hjl : j < L.length := by simpa using hj
        by_cases ejx : j = x
        · exact Or.inl (Or.inl ejx)
        · by_cases ejn : j = n
          · refine Or.inr ?_
            subst ejn
            have hn' : L.toArray[j]? = some on := by simpa using hon
            rw [hn']
            simp only [hap, Bool.or_true]
          · exact Or.inl (Or.inr (hB1 j (by omega) ejx))
      · exact ih _ _ w hC (shut_set hb hs hsh hxr) (by simpa using hs) (by rw [getD_set_ne true (by omega)]; exact hl) hk
    refine ⟨fun hr => absurd hr (some_ready listed hl), fun i hi => ?_⟩
    have hq := h.2 i (ready_still hi)
    obtain ⟨h1, oi, hoi, _⟩ := mem_ready.1 hi
    have hoi' : L[i]? = some oi := by simpa using hoi
    have hil := (List.getElem?_eq_some_iff.1 hoi').1
    unfold wpOp
    rw [hoi]
    unfold qOp at hq
    by_cases ein : i = n
    · subst ein
      have hx2 : listed.getD x true = true := by
        cases hc : listed.getD x true
        · exact absurd ⟨fun j hj hjx => all_listedX hu hs hsh hn hi L.length j hj hjx (by omega), hc⟩ hB
        · rfl
      obtain rfl := Option.some.inj (ho.symm.trans hoi')
      have hst' : (stillLast L).toArray[i]? = some (still o) := by simpa using hst
      rw [hst'] at hq
      simp only [wn (still o) _ (gn i o ho), if_true] at hq
      obtain ⟨v, _, hk⟩ := hq
      have hall : ∀ j, j < L.toArray.size → (listed.setIfInBounds i true).getD j true = true := fun j hj => by
        have hj' : j < L.length := by simpa using hj
        by_cases e : i = j
        · subst e; simp [Array.getD, show i < listed.size by omega]
        · rw [getD_set_ne true e]
          by_cases ejx : j = x
          · rw [ejx]; exact hx2
          · exact all_listedX hu hs hsh hn hi L.length j (by omega) ejx (by omega)
      have hr0 := ready_nil hall
      have hr1 : Region.ready .any (stillLast L).toArray (listed.setIfInBounds i true) = [] := ready_nil fun j hj => hall j (by simpa [stillLast_len] using hj)
      have hw : wpList P L.toArray Q (lastOf L) a w := by
        have : a.put (still o).dst v = a := rfl
        rw [this] at hk
        cases fuel with
        | zero => exact hk.2 w hC
        | succ f => exact hk.1 hr1 w hC
      rw [hla] at hw
      simp only [wpList, wn o _ (gn i o ho), if_true] at hw
      simp only [wn o _ (gn i o ho), if_true]
      refine hw.imp (Oper.wp_mono fun a' w' hq => ?_) id
      cases fuel with
      | zero => exact ⟨hr0, hq⟩
      | succ f => exact ⟨fun _ => hq, fun j hj => by rw [hr0] at hj; cases hj⟩
    · have hst' : (stillLast L).toArray[i]? = some oi := by
        have := stillLast_at L i (by omega)
        rw [hoi'] at this
        simpa using this
      rw [hst'] at hq
      simp only [wn oi _ (gn i oi hoi'), if_true] at hq
      simp only [wn oi _ (gn i oi hoi'), if_true]
      refine Or.inl (Oper.wp_of_quiet hC (fun a' w' hC' hk => ih _ a' w' hC' (shut_set hb hs hsh hi) (by simpa using hs) ?_ hk) hq)
      rw [getD_set_ne true ein]
      exact hl
/-- the rule, for a region whose operations are written out; operation x takes a part that nobody asks for. -/
theorem wp_region_last1 (x : Nat) {id : Nat} {a : Act} {w : World} {L : List Oper} {ox on : Oper} {t : Operand} {k : Nat} (hox : L[x]? = some ox) (hon : L[L.length - 1]? = some on) (hop : ox.op = .extract t k) (hap : ox.apart L.toArray on = true) (hQ : ∀ c a w v, Q (.panic c) (a.put ox.dst v) w → Q (.panic c) a w)
    (hm : P.follows .mixedOrders = true) (hsel : Region.noSelect L.toArray = true) (hB : Region.lexB .any (stillLast L).toArray = true) (hb : backB 0 L = true) (hu : usedX x L = true) (hx : x + 1 < L.length)
    (h : wpQuiet P (stillLast L).toArray (fun w' => ∃ n, w' = w.drewN n) (fun a' => ∀ w', (∃ n, w' = w.drewN n) → wpList P L.toArray Q (lastOf L) a' w') (stillLast L) a) : (Code.region id L.toArray true).wp P Q a w := by
  simp only [Region.lexB, Bool.and_eq_true] at hB
  refine wp_region_any hm (any_of_still1 (C := fun w' => ∃ n, w' = w.drewN n) hb x hu (n := L.length - 1) (by omega) (by omega) hox hon hop hap hsel hQ _ _ a _ ⟨1, rfl⟩ ?_ (by simp) ?_ ?_)
  · intro j o ho hl
    have hj := (List.getElem?_eq_some_iff.1 ho).1
    simp [Array.getD, hj] at hl
  · simp [Array.getD, show L.length - 1 < L.length by omega]
  · have := wpAnyQ_lex (P := P) (C := fun w' => ∃ n, w' = w.drewN n) (md := .any) hB.1 (stillLast L) 0 (Array.replicate (stillLast L).toArray.size false) a (by simp) (by simpa using hB.2) h
    simpa [stillLast_len] using this
end
end Go.Proofs.YtocfenjampmdlabGreatDoor
namespace Go.Proofs.YtocfenjampmdlabGreatDoor
open Go.RowKit Num Nmb

/-- the form of the inverse of the prime at j modulo that at i. -/
def fv (i j : Nat) : Int := (ivp (prm i) (prm j) : Nat) * 18446744073709551616 % (prm i : Nat)
/-- the cells of a joiner, k of whose fields are made. -/
def jc (F : Nat → Nat) (k : Nat) (I : Nat → Int) (j : Nat) : Value := if j < 3 then (if j < k then .pointer (some ⟨F j, 0, none⟩) else .pointer none) else .int .u64 (I (j - 3))
/-- k fields are made. -/
def JF (w : World) (k : Nat) (F : Nat → Nat) : Prop := ∀ t, t < k → ∃ f s, Fld w (F t) (prm t : Nat) f s ∧ Ok (prm t : Nat) f s
theorem JF.below {w w' : World} {k : Nat} {F : Nat → Nat} (h : JF w k F) (hb : Below w.heap.size w w') : JF w' k F := fun t ht => by
  obtain ⟨f, s, h1, h2⟩ := h t ht
  exact ⟨f, s, h1.below hb h1.lt, h2⟩
theorem JF.drew {w : World} {k : Nat} {F : Nat → Nat} (h : JF w k F) (n : Nat) : JF (w.drewN n) k F := fun t ht => by
  obtain ⟨f, s, h1, h2⟩ := h t ht
  exact ⟨f, s, h1.drew n, h2⟩
/-- a block of n cells that is no field's. -/
theorem Fld.rv {w : World} {g b n : Nat} {m f s : Int} {t : TypeId} {C : Nat → Value} (h : Fld w g m f s) (r : Rv w b t n C) (hn : n ≠ 3) : g ≠ b := by
  rintro rfl
  obtain ⟨cur, h1, h2, _⟩ := r
  unfold Fld at h
  rw [h] at h1
  injection h1 with h1
  injection h1 with h1
  rw [← h1] at h2
  exact hn h2.symm
theorem JF.set {w : World} {k b n : Nat} {F : Nat → Nat} {t : TypeId} {C : Nat → Value} (h : JF w k F) (r : Rv w b t n C) (hn : n ≠ 3) (i : Nat) (v : Value) : JF (w.setCell ⟨b, i, none⟩ v) k F := fun j hj => by
  obtain ⟨f, s, h1, h2⟩ := h j hj
  exact ⟨f, s, h1.other (h1.rv r hn) i v, h2⟩
def jz : Array Value := #[.pointer none, .pointer none, .pointer none, .int .u64 0, .int .u64 0, .int .u64 0, .int .u64 0, .int .u64 0, .int .u64 0, .int .u64 0, .int .u64 0, .int .u64 0]
theorem jz_new (w : World) (F : Nat → Nat) : Rv (w.alloc (.cells jz 62)) w.heap.size 62 12 (jc F 0 (fun _ => 0)) := Rv.new w _ _ _ _ rfl fun j hj => by
  match j, hj with
  | 0, _ => rfl
  | 1, _ => rfl
  | 2, _ => rfl
  | 3, _ => rfl
  | 4, _ => rfl
  | 5, _ => rfl
  | 6, _ => rfl
  | 7, _ => rfl
  | 8, _ => rfl
  | 9, _ => rfl
  | 10, _ => rfl
  | 11, _ => rfl
/-- values laid one by one into a block. -/
def setAll (g : Nat) : List Value → Nat → World → World
  | [], _, w => w
  | v :: l, i, w => setAll g l (i + 1) (w.setCell ⟨g, i, none⟩ v)
theorem setAll_only (g : Nat) : ∀ (l : List Value) (i : Nat) (w : World), OnlyB g w (setAll g l i w)
  | [], _, w => OnlyB.refl g w
  | v :: l, i, w => ((OnlyB.refl g w).set i v).trans (setAll_only g l (i + 1) _)
theorem setAll_rv {g n : Nat} {t : TypeId} : ∀ (l : List Value) (i : Nat) (w : World) (C : Nat → Value), Rv w g t n C → Rv (setAll g l i w) g t n (fun j => if i ≤ j ∧ j < i + l.length then l.getD (j - i) undef else C j)
  | [], i, w, C, h => h.eq fun j _ => by rw [if_neg (fun h => by have := h.2; simp at this; omega)]
  | v :: l, i, w, C, h => by
    have := setAll_rv l (i + 1) _ _ (h.set (D := fun j => if j = i then v else C j) i v (fun _ _ => rfl))
    refine this.eq fun j _ => ?_
    by_cases e : j = i
    · subst e
      rw [if_neg (by omega), if_pos rfl, if_pos (by simp)]
      rw [Nat.sub_self]
      rfl
    · by_cases e2 : i + 1 ≤ j ∧ j < i + 1 + l.length
      · rw [if_pos e2, if_pos (by simp only [List.length_cons]; omega)]
        obtain ⟨k, hk⟩ : ∃ k, j = i + 1 + k := ⟨j - (i + 1), by omega⟩
        subst hk
        rw [show i + 1 + k - (i + 1) = k by omega, show i + 1 + k - i = k + 1 by omega]
        rfl
      · rw [if_neg e2, if_neg e, if_neg (by simp only [List.length_cons]; omega)]
theorem JF.only {w w' : World} {k b : Nat} {F : Nat → Nat} (h : JF w k F) (o : OnlyB b w w') (hb : ∀ t, t < k → F t ≠ b) : JF w' k F := fun j hj => by
  obtain ⟨f, s, h1, h2⟩ := h j hj
  exact ⟨f, s, h1.only o (hb j hj), h2⟩
theorem JF.ne {w : World} {k b n : Nat} {F : Nat → Nat} {t : TypeId} {C : Nat → Value} (h : JF w k F) (r : Rv w b t n C) (hn : n ≠ 3) : ∀ j, j < k → F j ≠ b := fun j hj => by
  obtain ⟨f, s, h1, h2⟩ := h j hj
  exact h1.rv r hn
/-- what a joiner is, as a value. -/
def jv (F : Nat → Nat) (I : Nat → Int) : List Value := [.pointer (some ⟨F 0, 0, none⟩), .pointer (some ⟨F 1, 0, none⟩), .pointer (some ⟨F 2, 0, none⟩), .int .u64 (I 0), .int .u64 (I 1), .int .u64 (I 2), .int .u64 (I 3), .int .u64 (I 4), .int .u64 (I 5), .int .u64 (I 6), .int .u64 (I 7), .int .u64 (I 8)]
theorem jv_at (F : Nat → Nat) (I : Nat → Int) : ∀ j, j < 12 → (jv F I).getD j undef = jc F 3 I j := fun j hj => by
  match j, hj with
  | 0, _ => rfl
  | 1, _ => rfl
  | 2, _ => rfl
  | 3, _ => rfl
  | 4, _ => rfl
  | 5, _ => rfl
  | 6, _ => rfl
  | 7, _ => rfl
  | 8, _ => rfl
  | 9, _ => rfl
  | 10, _ => rfl
  | 11, _ => rfl
theorem jv_stored {w : World} {g : Nat} {t : TypeId} {C : Nat → Value} (h : Rv w g t 12 C) (F : Nat → Nat) (I : Nat → Int) : Rv (setAll g (jv F I) 0 w) g t 12 (jc F 3 I) :=
  (setAll_rv (jv F I) 0 w C h).eq fun j hj => by
    rw [if_pos ⟨Nat.zero_le _, by show j < 0 + 12; omega⟩]
    exact jv_at F I j hj
theorem jc_cells {w : World} {g : Nat} {t : TypeId} {F : Nat → Nat} {I : Nat → Int} (h : Rv w g t 12 (jc F 3 I)) :
    w.cell? ⟨g, 0, none⟩ = some (.pointer (some ⟨F 0, 0, none⟩)) ∧ w.cell? ⟨g, 1, none⟩ = some (.pointer (some ⟨F 1, 0, none⟩)) ∧ w.cell? ⟨g, 2, none⟩ = some (.pointer (some ⟨F 2, 0, none⟩)) ∧
    w.cell? ⟨g, 3, none⟩ = some (.int .u64 (I 0)) ∧ w.cell? ⟨g, 4, none⟩ = some (.int .u64 (I 1)) ∧ w.cell? ⟨g, 5, none⟩ = some (.int .u64 (I 2)) ∧ w.cell? ⟨g, 6, none⟩ = some (.int .u64 (I 3)) ∧ w.cell? ⟨g, 7, none⟩ = some (.int .u64 (I 4)) ∧ w.cell? ⟨g, 8, none⟩ = some (.int .u64 (I 5)) ∧ w.cell? ⟨g, 9, none⟩ = some (.int .u64 (I 6)) ∧ w.cell? ⟨g, 10, none⟩ = some (.int .u64 (I 7)) ∧ w.cell? ⟨g, 11, none⟩ = some (.int .u64 (I 8)) :=
  ⟨h.cell (i := 0) (by omega), h.cell (i := 1) (by omega), h.cell (i := 2) (by omega), h.cell (i := 3) (by omega), h.cell (i := 4) (by omega), h.cell (i := 5) (by omega), h.cell (i := 6) (by omega), h.cell (i := 7) (by omega), h.cell (i := 8) (by omega), h.cell (i := 9) (by omega), h.cell (i := 10) (by omega), h.cell (i := 11) (by omega)⟩
theorem ret_jn {fn : Func} {tmps : Array Value} {w : World} {t : Tmp} {g : Nat} {F : Nat → Nat} {I : Nat → Int} (h3 : Rv w g 62 12 (jc F 3 I)) (h : fn.results = #[.cell t 62]) (ht : tmps[t]?.getD undef = .pointer (some ⟨g, 0, none⟩)) :
    (results fn tmps).run Tryz.prog w = .ok (.agg #[.pointer (some ⟨F 0, 0, none⟩), .pointer (some ⟨F 1, 0, none⟩), .pointer (some ⟨F 2, 0, none⟩), .int .u64 (I 0), .int .u64 (I 1), .int .u64 (I 2), .int .u64 (I 3), .int .u64 (I 4), .int .u64 (I 5), .int .u64 (I 6), .int .u64 (I 7), .int .u64 (I 8)]) w := by
  obtain ⟨c0, c1, c2, c3, c4, c5, c6, c7, c8, c9, c10, c11⟩ := jc_cells h3
  simp [results, h, go_sem, ht, c0, c1, c2, c3, c4, c5, c6, c7, c8, c9, c10, c11]
set_option maxHeartbeats 1600000 in
theorem newJoiner_any (w : World) (L : PriA w) :
    Calls Tryz.prog 22 #[] w fun e w' => (∃ (F : Nat → Nat) (I : Nat → Int), e = .returned (.agg #[.pointer (some ⟨F 0, 0, none⟩), .pointer (some ⟨F 1, 0, none⟩), .pointer (some ⟨F 2, 0, none⟩), .int .u64 (I 0), .int .u64 (I 1), .int .u64 (I 2), .int .u64 (I 3), .int .u64 (I 4), .int .u64 (I 5), .int .u64 (I 6), .int .u64 (I 7), .int .u64 (I 8)]) ∧ JF w' 3 F ∧ ∀ i j, j < i → i < 3 → I (3 * i + j) = fv i j) ∧ Below w.heap.size w w' := by
  have l0 := L.lt
  have Ba : Below w.heap.size w ((w.alloc (.cells jz 62)).alloc (.cells jz 62)) := (below_new' w _).trans ((below_new' _ _).mono (by simp))
  have BA := hid Ba
  have La := L.below Ba l0
  have LA := hid La
  have R0 := hid (fun F => (jz_new w F).below (below_new' _ (.cells jz 62)) (by simp))
  have R1 : Hid (∀ F, Rv ((w.alloc (.cells jz 62)).alloc (.cells jz 62)) (w.heap.size + 1) 62 12 (jc F 0 (fun _ => 0))) := fun F => by
    have := jz_new (w.alloc (.cells jz 62)) F
    simpa using this
  have c0 := La.cell (i := 0) (by omega)
  have c1 := La.cell (i := 1) (by omega)
  have c2 := La.cell (i := 2) (by omega)
  have IX : Hid (∀ i : Nat, i < 3 → ∀ W : World, (Instr.index 47 (.agg #[.int .u64 (prm 0 : Nat), .int .u64 (prm 1 : Nat), .int .u64 (prm 2 : Nat)]) (.int .i64 (i : Int))).run Tryz.prog W = .ok (.int .u64 (prm i : Nat)) W) := fun i hi W => index_a3 (fun i => (prm i : Nat)) hi W
  clear Ba La L
  unfold jz at *
  go_enter Tryz.func22, Tryz.ntmps22
  go_wp2
  clear c0 c1 c2
  go_loopw [10] (fun iv wr => ∃ (i : Nat) (F : Nat → Nat) (I : Nat → Int), iv = .int .i64 i ∧ i ≤ 3 ∧ Hid (Rv wr (w.heap.size + 1) 62 12 (jc F i I)) ∧ Hid (JF wr i F) ∧ Hid (∀ a b, b < a → a < i → I (3 * a + b) = fv a b) ∧ Hid (PriA wr) ∧ Hid (Rv wr w.heap.size 62 12 (jc F 0 (fun _ => 0))) ∧ Hid (Below w.heap.size w wr)) (fun iv _ => (3 - intOf iv).toNat)
  case atStart => exact ⟨0, fun _ => 0, fun _ => 0, rfl, by omega, R1.out _, fun t ht => absurd ht (by omega), fun a b _ h => absurd h (by omega), LA.out, R0.out _, BA.out⟩
  case round =>
    obtain ⟨i, F, I, rfl, hi, RJ, HF, HI, LR, RZ, HB⟩ := hrel
    by_cases i3 : i = 3
    · subst i3
      obtain ⟨c0, c1, c2, c3, c4, c5, c6, c7, c8, c9, c10, c11⟩ := jc_cells RJ.out
      have f0 := RZ.out.frozen 0
      have f1 := RZ.out.frozen 1
      have f2 := RZ.out.frozen 2
      have f3 := RZ.out.frozen 3
      have f4 := RZ.out.frozen 4
      have f5 := RZ.out.frozen 5
      have f6 := RZ.out.frozen 6
      have f7 := RZ.out.frozen 7
      have f8 := RZ.out.frozen 8
      have f9 := RZ.out.frozen 9
      have f10 := RZ.out.frozen 10
      have f11 := RZ.out.frozen 11
      have d0 := RZ.out.cell (i := 0) (by omega)
      have d1 := RZ.out.cell (i := 1) (by omega)
      have d2 := RZ.out.cell (i := 2) (by omega)
      have d3 := RZ.out.cell (i := 3) (by omega)
      have d4 := RZ.out.cell (i := 4) (by omega)
      have d5 := RZ.out.cell (i := 5) (by omega)
      have d6 := RZ.out.cell (i := 6) (by omega)
      have d7 := RZ.out.cell (i := 7) (by omega)
      have d8 := RZ.out.cell (i := 8) (by omega)
      have d9 := RZ.out.cell (i := 9) (by omega)
      have d10 := RZ.out.cell (i := 10) (by omega)
      have d11 := RZ.out.cell (i := 11) (by omega)
      have O := setAll_only w.heap.size (jv F I) 0 wr
      have S := hid (jv_stored RZ.out F I)
      have JJ := hid (HF.out.only O (HF.out.ne RZ.out (by decide)))
      have B2 := hid (HB.out.trans O.below)
      clear O RJ HF LR RZ HB IX R0 R1 LA BA
      go_wp2
      refine bodyPost_ret (ret_jn S.out rfl rfl) rfl ?_
      exact ⟨⟨F, I, rfl, JJ.out, fun a b h1 h2 => HI.out a b h1 h2⟩, B2.out⟩
    · have hi' : i < 3 := by omega
      have hil : (i : Int) < 3 := by omega
      have ix := IX.out i hi'
      have bd := prm_bd hi'
      have PB := hid bd
      have NW := hid (new_any (prm i : Nat) wr (by omega) (by omega))
      have glt : w.heap.size + 1 < wr.heap.size := RJ.out.lt
      have K : Hid (∀ w2 f s, Below wr.heap.size wr w2 → Fld w2 wr.heap.size (prm i : Nat) f s → Ok (prm i : Nat) f s → ∃ F', F' i = wr.heap.size ∧ Rv (w2.setCell ⟨w.heap.size + 1, i, none⟩ (.pointer (some ⟨wr.heap.size, 0, none⟩))) (w.heap.size + 1) 62 12 (jc F' (i + 1) I) ∧ JF (w2.setCell ⟨w.heap.size + 1, i, none⟩ (.pointer (some ⟨wr.heap.size, 0, none⟩))) (i + 1) F' ∧ PriA (w2.setCell ⟨w.heap.size + 1, i, none⟩ (.pointer (some ⟨wr.heap.size, 0, none⟩))) ∧ Rv (w2.setCell ⟨w.heap.size + 1, i, none⟩ (.pointer (some ⟨wr.heap.size, 0, none⟩))) w.heap.size 62 12 (jc F' 0 (fun _ => 0)) ∧ Below w.heap.size w (w2.setCell ⟨w.heap.size + 1, i, none⟩ (.pointer (some ⟨wr.heap.size, 0, none⟩))) ∧ w2.frozen? ⟨w.heap.size + 1, i, none⟩ = false ∧ ∃ v, w2.cell? ⟨w.heap.size + 1, i, none⟩ = some v) := by
        intro w2 f s B2 F2 O2
        have r2 := RJ.out.below B2 glt
        have j2 := HF.out.below B2
        have Bs : Below w.heap.size w (w2.setCell ⟨w.heap.size + 1, i, none⟩ (.pointer (some ⟨wr.heap.size, 0, none⟩))) := below_set (HB.out.trans (B2.mono (by omega))) (by omega) _ _
        refine ⟨fun t => if t = i then wr.heap.size else F t, if_pos rfl, r2.set i _ (fun j hj => ?_), fun t ht => ?_, ?_, ((RZ.out.below B2 (by omega)).other (by omega) _ _).eq (fun j hj => ?_), Bs, r2.frozen i, _, r2.cell (by omega)⟩
        · unfold jc
          by_cases e : j = i
          · rw [if_pos e, if_pos (by omega), if_pos (by omega)]
            show Value.pointer (some ⟨if j = i then wr.heap.size else F j, 0, none⟩) = _
            rw [if_pos e]
          · rw [if_neg e]
            show (if j < 3 then (if j < i + 1 then Value.pointer (some ⟨if j = i then wr.heap.size else F j, 0, none⟩) else _) else _) = _
            rw [if_neg e]
            by_cases e2 : j < 3
            · rw [if_pos e2, if_pos e2]
              by_cases e3 : j < i
              · rw [if_pos (by omega), if_pos e3]
              · rw [if_neg (by omega), if_neg e3]
            · rw [if_neg e2, if_neg e2]
        · dsimp only
          by_cases e : t = i
          · subst e
            rw [if_pos rfl]
            exact ⟨f, s, F2.other (F2.rv r2 (by decide)) _ _, O2⟩
          · rw [if_neg e]
            exact j2.set r2 (by decide) _ _ t (by omega)
        · exact (LR.out.below B2 (by omega)).below ((Below.refl (w.heap.size + 1) w2) |> fun h => below_set h (Nat.le_refl _) _ _) (by omega)
        · unfold jc
          by_cases e2 : j < 3
          · rw [if_pos e2, if_pos e2, if_neg (by omega), if_neg (by omega)]
          · rw [if_neg e2, if_neg e2]
      clear RJ HF LR RZ HB IX R0 R1 LA BA bd
      go_wp2_with fail
      refine NW.out.mono ?_
      rintro e w2 ⟨rfl, B2, f, s, F2, O2⟩
      obtain ⟨F', e', r3, j3, l3, z3, b3, fz, v, cz⟩ := K.out w2 f s B2 F2 O2
      have R3 := hid r3
      have J3 := hid j3
      have L3 := hid l3
      have Z3 := hid z3
      have B3 := hid b3
      clear r3 j3 l3 z3 b3 K NW B2 F2 O2
      rw [← e'] at *
      generalize wr.heap.size = gf at *
      go_wp2
      clear fz cz
      go_loopw [24] (fun jv wq => ∃ (j : Nat) (I' : Nat → Int), jv = .int .i64 j ∧ j ≤ i ∧ Hid (Rv wq (w.heap.size + 1) 62 12 (jc F' (i + 1) I')) ∧ Hid (JF wq (i + 1) F') ∧ Hid (∀ a b, b < a → a < i → I' (3 * a + b) = fv a b) ∧ Hid (∀ b, b < j → I' (3 * i + b) = fv i b) ∧ Hid (PriA wq) ∧ Hid (Rv wq w.heap.size 62 12 (jc F' 0 (fun _ => 0))) ∧ Hid (Below w.heap.size w wq)) (fun jv _ => ((i : Int) - intOf jv).toNat)
      case atStart => exact ⟨0, I, rfl, Nat.zero_le _, R3, J3, HI, fun b hb => absurd hb (by omega), L3, Z3, B3⟩
      case round =>
        clear R3 J3 HI L3 Z3 B3
        obtain ⟨j, I', rfl, hj, R3, J3, HI, HJ, L3, Z3, B3⟩ := hrel
        by_cases hji : j = i
        · have hji' : ¬ (j : Int) < (i : Int) := by omega
          have HI2 : Hid (∀ a b, b < a → a < i + 1 → I' (3 * a + b) = fv a b) := fun a b h1 h2 => by
            by_cases e : a = i
            · subst e; exact HJ.out b (by omega)
            · exact HI.out a b h1 (by omega)
          clear HJ HI
          go_wp2
          exact ⟨⟨i + 1, F', I', rfl, by omega, R3, J3, HI2, L3, Z3, B3⟩, by simp only [intOf]; omega⟩
        · have hji' : (j : Int) < (i : Int) := by omega
          have hjl : (j : Int) < 3 := by omega
          obtain ⟨f, s, FJ, OJ⟩ := J3.out i (by omega)
          have cp := L3.out.cell (i := j) (by omega)
          have INV := hid (inv_pri (F' i) (prm i) (prm j) f s wr FJ OJ (prm_pri hi') (prm_nz hi' (by omega)))
          have INF := hid (fun q => in_form (F' i) (prm i : Nat) f s (ivp (prm i) (prm j) : Nat) (wr.drewN q) (FJ.drew q) OJ (by omega) (by have := PB.out; omega))
          have cl := R3.out.cell (i := 3 + i * 3 + j) (by omega)
          have fl := R3.out.frozen (3 + i * 3 + j)
          have NX : Hid (∀ q, Rv ((wr.drewN q).setCell ⟨w.heap.size + 1, 3 + i * 3 + j, none⟩ (.int .u64 (fv i j))) (w.heap.size + 1) 62 12 (jc F' (i + 1) (fun t => if t = 3 * i + j then fv i j else I' t)) ∧ JF ((wr.drewN q).setCell ⟨w.heap.size + 1, 3 + i * 3 + j, none⟩ (.int .u64 (fv i j))) (i + 1) F' ∧ PriA ((wr.drewN q).setCell ⟨w.heap.size + 1, 3 + i * 3 + j, none⟩ (.int .u64 (fv i j))) ∧ Rv ((wr.drewN q).setCell ⟨w.heap.size + 1, 3 + i * 3 + j, none⟩ (.int .u64 (fv i j))) w.heap.size 62 12 (jc F' 0 (fun _ => 0)) ∧ Below w.heap.size w ((wr.drewN q).setCell ⟨w.heap.size + 1, 3 + i * 3 + j, none⟩ (.int .u64 (fv i j)))) := fun q => by
            have r := R3.out.drew q
            have Bq := below_drewN B3.out q
            refine ⟨r.set _ _ (fun t ht => ?_), (J3.out.drew q).set r (by decide) _ _, (L3.out.below (below_drewN (Below.refl wr.heap.size wr) q) L3.out.lt).below (below_set (Below.refl (w.heap.size + 1) _) (Nat.le_refl _) _ _) (by omega), (Z3.out.drew q).other (by omega) _ _, below_set Bq (by omega) _ _⟩
            unfold jc
            dsimp only
            by_cases e : t = 3 + i * 3 + j
            · rw [if_pos e, if_neg (by omega), if_pos (by omega)]
            · rw [if_neg e]
              by_cases e2 : t < 3
              · rw [if_pos e2, if_pos e2]
              · rw [if_neg e2, if_neg e2, if_neg (by omega)]
          have HI2 : Hid (∀ a b, b < a → a < i → (fun t => if t = 3 * i + j then fv i j else I' t) (3 * a + b) = fv a b) := fun a b h1 h2 => by
            show (if 3 * a + b = 3 * i + j then fv i j else I' (3 * a + b)) = _
            rw [if_neg (by omega)]
            exact HI.out a b h1 h2
          have HJ2 : Hid (∀ b, b < j + 1 → (fun t => if t = 3 * i + j then fv i j else I' t) (3 * i + b) = fv i b) := fun b h1 => by
            show (if 3 * i + b = 3 * i + j then fv i j else I' (3 * i + b)) = _
            by_cases e : b = j
            · rw [e, if_pos rfl]
            · rw [if_neg (by omega)]
              exact HJ.out b (by omega)
          clear FJ OJ R3 J3 HI HJ L3 Z3 B3 PB
          have FV : Hid ((ivp (prm i) (prm j) : Nat) * 18446744073709551616 % (prm i : Nat) = fv i j) := rfl
          rw [FV.out] at INF
          clear FV
          generalize ivp (prm i) (prm j) = iv at *
          go_wp2_with fail
          refine INV.out.mono ?_
          rintro e w3 ⟨rfl, hw⟩
          obtain rfl := hw.symm
          clear INV cp
          go_wp2_with fail
          refine wp_region_last1 7 rfl rfl rfl (by kernel_rfl) (fun _ _ _ _ h => h) (by kernel_rfl) (by kernel_rfl) (by kernel_rfl) (by kernel_rfl) (by kernel_rfl) (by decide) ?_
          simp only [stillLast, still, lastOf]
          repeat (quiet_step ((go_at_call 43; exact Calls.quiet_of (INF.out _))))
          refine wpQuiet_nil ?_
          intro _ hw'
          obtain ⟨nq, hw''⟩ := hw'
          subst hw''
          have N2 := hid (NX.out nq)
          have fl2 : (wr.drewN nq).frozen? ⟨w.heap.size + 1, 3 + i * 3 + j, none⟩ = false := by simpa using fl
          have cl2 : (wr.drewN nq).cell? ⟨w.heap.size + 1, 3 + i * 3 + j, none⟩ = some (jc F' (i + 1) I' (3 + i * 3 + j)) := by simpa using cl
          clear INF fl cl NX
          generalize wr.drewN nq = w8 at *
          go_wp2
          exact ⟨⟨j + 1, _, rfl, by omega, N2.out.1, N2.out.2.1, HI2, HJ2, N2.out.2.2.1, N2.out.2.2.2.1, N2.out.2.2.2.2⟩, by simp only [intOf]; omega⟩
end Go.Proofs.YtocfenjampmdlabGreatDoor
namespace Nmb

theorem Pri.apart {p q : Nat} (hp : Pri p) (hq : Pri q) (h : p ≠ q) : Nat.Coprime p q := by
  rcases hp.2 (Nat.gcd p q) (Nat.gcd_dvd_left p q) with h1 | h1
  · exact h1
  · have h2 : p ∣ q := h1 ▸ Nat.gcd_dvd_right p q
    rcases hq.2 p h2 with h3 | h3
    · have := hp.1; omega
    · exact absurd h3 h
theorem Cg.natAbs {p : Nat} {A B : Int} (h : Cg p A B) : p ∣ (A - B).natAbs := Int.ofNat_dvd_left.1 (Cg.dvd.1 h)
theorem crt2 {p q : Nat} (h : Nat.Coprime p q) {A B : Int} (h1 : Cg p A B) (h2 : Cg q A B) : Cg (p * q) A B :=
  Cg.dvd.2 (Int.ofNat_dvd_left.2 (Nat.Coprime.mul_dvd_of_dvd_of_dvd h h1.natAbs h2.natAbs))
theorem cg_eq {m : Nat} {A B : Int} (h : Cg m A B) (hA : 0 ≤ A ∧ A < m) (hB : 0 ≤ B ∧ B < m) : A = B := by
  unfold Cg at h
  rwa [Int.emod_eq_of_lt hA.1 hA.2, Int.emod_eq_of_lt hB.1 hB.2] at h
/-- three primes tell a number below their product. -/
theorem crt3 {p q r : Nat} (hp : Pri p) (hq : Pri q) (hr : Pri r) (pq : p ≠ q) (pr : p ≠ r) (qr : q ≠ r) {A B : Int} (h1 : Cg p A B) (h2 : Cg q A B) (h3 : Cg r A B) (hA : 0 ≤ A ∧ A < (p * q * r : Nat)) (hB : 0 ≤ B ∧ B < (p * q * r : Nat)) : A = B :=
  cg_eq (crt2 (Nat.Coprime.mul_left (hp.apart hr pr) (hq.apart hr qr)) (crt2 (hp.apart hq pq) h1 h2) h3) hA hB
/-- one step: a number that leaves what A does by P, and r by m. -/
theorem garner_step {P m : Nat} {A r u t : Int} (hu : Cg m (u * P) 1) (ht : t = (r - A) * u % m) : Cg P (A + P * t) A ∧ Cg m (A + P * t) r := by
  constructor
  · unfold Cg
    rw [Int.add_mul_emod_self_left]
  · have h1 : Cg m t ((r - A) * u) := by rw [ht]; exact Cg.mod
    have h2 : Cg m (P * t) (r - A) := by
      have h3 := (Cg.rfl (p := m) (a := (P : Int))).mul h1
      have h4 := (Cg.rfl (p := m) (a := r - A)).mul hu
      rw [Int.mul_one] at h4
      exact h3.trans ((Cg.of_eq (by rw [Int.mul_left_comm, Int.mul_comm (P : Int) u])).trans h4)
    have h5 := (Cg.rfl (p := m) (a := A)).add h2
    exact h5.trans (Cg.of_eq (by omega))
theorem garner_lt {P m : Nat} {A t : Int} (hA : 0 ≤ A ∧ A < P) (ht : 0 ≤ t ∧ t < m) : 0 ≤ A + P * t ∧ A + P * t < (P * m : Nat) := by
  have h1 := Int.mul_nonneg (show 0 ≤ (P : Int) by omega) ht.1
  have h2 : (P : Int) * (t + 1) ≤ P * m := Int.mul_le_mul_of_nonneg_left (by omega) (by omega)
  rw [Int.mul_add, Int.mul_one] at h2
  rw [Int.natCast_mul]
  omega
end Nmb
