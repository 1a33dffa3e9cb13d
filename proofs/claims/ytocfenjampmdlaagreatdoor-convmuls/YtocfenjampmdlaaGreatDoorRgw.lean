/- A region whose operations, and callees, leave what lay in memory as it was, in whatever order. -/
/- A region whose operations, and callees, leave what lay in memory as it was, but for its last one, in whatever order. -/
/- A region whose operations only read, but for the last one, which waits for all others but one that takes a part of a tuple which nobody asks for: one walk in the order of the text serves every order. -/
import Derived.Test.YtocfenjampmdlaaGreatDoorVr
import Derived.Test.YtocfenjampmdlaaGreatDoorRgu
namespace Go.Proofs.YtocfenjampmdlaaGreatDoor
open Go.RowKit Num
section
variable {P : Program} {Q : Exit → Act → World → Prop}

/-- the worlds in which what lay in w lies as it was. -/
def Beh (w : World) : Type := { w' : World // Below w.heap.size w w' }
theorem Beh.size {w : World} (x : Beh w) : w.heap.size ≤ x.1.heap.size := x.2.size
theorem Calls.beh_of {f : FuncId} {args : Array Value} {w : World} {x : Beh w} {v : Value} (h : Calls P f args x.1 fun e w' => e = .returned v ∧ Below x.1.heap.size x.1 w') :
    Calls P f args x.1 fun e w'' => e = .returned v ∧ ∃ y : Beh w, w'' = y.1 := h.mono fun _ w'' ⟨he, hb⟩ => ⟨he, ⟨w'', x.2.trans (hb.mono x.size)⟩, rfl⟩
theorem Calls.beh_same {f : FuncId} {args : Array Value} {w : World} {x : Beh w} {v : Value} (h : Calls P f args x.1 fun e w' => e = .returned v ∧ w' = x.1) :
    Calls P f args x.1 fun e w'' => e = .returned v ∧ ∃ y : Beh w, w'' = y.1 := h.mono fun _ _ ⟨he, hb⟩ => ⟨he, x, hb⟩
theorem Calls.beh_drew {f : FuncId} {args : Array Value} {w : World} {x : Beh w} {v : Value} (h : Calls P f args x.1 fun e w' => e = .returned v ∧ ∃ n, w' = x.1.drewN n) :
    Calls P f args x.1 fun e w'' => e = .returned v ∧ ∃ y : Beh w, w'' = y.1 := h.mono fun _ w'' ⟨he, n, hb⟩ => ⟨he, ⟨w'', by rw [hb]; exact below_drewN x.2 n⟩, rfl⟩
theorem Beh.some (w : World) : Nonempty (Beh w) := ⟨⟨w, Below.refl _ _⟩⟩
/-- a region whose operations, and callees, leave what lay in w as it was: one walk in the order of the text. -/
theorem wp_region_beh {id : Nat} {a : Act} {w : World} {l : List Oper} (hm : P.follows .mixedOrders = true) (hB : Region.lexB .any l.toArray = true)
    (h : wpQuiet P l.toArray (fun w' => ∃ x : Beh w, w' = x.1) (fun a' => ∀ w', (∃ x : Beh w, w' = x.1) → Q .normal a' w') l a) : (Code.region id l.toArray true).wp P Q a w :=
  wp_region_quiet (C := fun w' => ∃ x : Beh w, w' = x.1) hm hB ⟨⟨w.drewN 1, below_drewN (Below.refl _ _) 1⟩, rfl⟩ (by simpa using h)
end
end Go.Proofs.YtocfenjampmdlaaGreatDoor
namespace Go.Proofs.YtocfenjampmdlaaGreatDoor
open Go.RowKit Num
section
variable {P : Program} {Q : Exit → Act → World → Prop}

theorem wp_region_last_beh {id : Nat} {a : Act} {w : World} {L : List Oper} (hm : P.follows .mixedOrders = true) (hB : Region.lexB .any (stillLast L).toArray = true) (hb : backB 0 L = true) (hu : usedB L = true) (hne : 0 < L.length)
    (h : wpQuiet P (stillLast L).toArray (fun w' => ∃ x : Beh w, w' = x.1) (fun a' => ∀ w', (∃ x : Beh w, w' = x.1) → wpList P L.toArray Q (lastOf L) a' w') (stillLast L) a) : (Code.region id L.toArray true).wp P Q a w := by
  simp only [Region.lexB, Bool.and_eq_true] at hB
  refine wp_region_any hm (any_of_still (C := fun w' => ∃ x : Beh w, w' = x.1) hb hu (n := L.length - 1) (by omega) _ _ a _ ⟨⟨w.drewN 1, below_drewN (Below.refl _ _) 1⟩, rfl⟩ ?_ (by simp) ?_ ?_)
  · intro j o ho hl
    have hj := (List.getElem?_eq_some_iff.1 ho).1
    simp [Array.getD, hj] at hl
  · simp [Array.getD, show L.length - 1 < L.length by omega]
  · have := wpAnyQ_lex (P := P) (C := fun w' => ∃ x : Beh w, w' = x.1) (md := .any) hB.1 (stillLast L) 0 (Array.replicate (stillLast L).toArray.size false) a (by simp) (by simpa using hB.2) h
    simpa [stillLast_len] using this
end
end Go.Proofs.YtocfenjampmdlaaGreatDoor
namespace Go.Proofs.YtocfenjampmdlaaGreatDoor
section
variable {P : Program} {C : World → Prop} {Q : Exit → Act → World → Prop}

/-- is each operation but x and the last one waited for by a later one that is not x? -/
def usedX (x : Nat) (L : List Oper) : Bool := (List.range (L.length - 1)).all fun j => j == x || (List.range L.length).any fun k => decide (j < k) && (!(k == x) && waits L k j)
theorem usedX_said {x : Nat} {L : List Oper} (h : usedX x L = true) {j : Nat} (hj : j + 1 < L.length) (hx : j ≠ x) : ∃ k o, j < k ∧ k ≠ x ∧ k < L.length ∧ L[k]? = some o ∧ ∃ e ∈ o.after, Region.binds .any e = true ∧ e.on = j := by
  have h0 := List.all_eq_true.1 h j (List.mem_range.2 (by omega))
  rw [Bool.or_eq_true, beq_iff_eq] at h0
  have h1 : ((List.range L.length).any fun k => decide (j < k) && (!(k == x) && waits L k j)) = true := by
    rcases h0 with h0 | h0
    · exact absurd h0 hx
    · exact h0
  obtain ⟨k, hk, h2⟩ := List.any_eq_true.1 h1
  rw [Bool.and_eq_true, decide_eq_true_eq, Bool.and_eq_true] at h2
  obtain ⟨h3, h4, h5⟩ := h2
  have hkx : k ≠ x := by
    rintro rfl
    simp at h4
  unfold waits at h5
  have hk := List.mem_range.1 hk
  rw [List.getElem?_eq_getElem hk] at h5
  obtain ⟨e, he, h6⟩ := List.any_eq_true.1 h5
  rw [Bool.and_eq_true, beq_iff_eq] at h6
  exact ⟨k, L[k], h3, hkx, hk, List.getElem?_eq_getElem hk, e, by simpa using he, h6.1, h6.2⟩
theorem all_listedX {x : Nat} {L : List Oper} {listed : Array Bool} (hu : usedX x L = true) (hs : listed.size = L.length) (h : shut L listed) {n : Nat} (hn : n + 1 = L.length) (hr : n ∈ Region.ready .any L.toArray listed) :
    ∀ m j, j < n → j ≠ x → n ≤ j + m → listed.getD j true = true := by
  obtain ⟨_, o, ho, h2⟩ := mem_ready.1 hr
  have ho' : L[n]? = some o := by simpa using ho
  intro m
  induction m with
  | zero => intro j h1 _ h3; omega
  | succ m ih =>
    intro j h1 hx h3
    obtain ⟨k, ok, hjk, hkx, hk, hok, e, he, hbe, rfl⟩ := usedX_said hu (j := j) (by omega) hx
    by_cases ek : k = n
    · subst ek
      obtain rfl := Option.some.inj (ho'.symm.trans hok)
      rw [getD_of hs (show e.on < L.length by omega) true false]
      exact h2 e he hbe
    · exact h k ok hok (ih k (by omega) hkx (by omega)) e he hbe
/-- a part of a tuple is the same in every world. -/
theorem extract_same {a : Act} {o : Oper} {t : Operand} {k : Nat} {v : Value} {w : World} (h : o.op = .extract t k) (hq : o.quietAt P a C w v) (w' : World) : (execOp a.eval o).run P w' = .ok (.value v) w' := by
  unfold Oper.quietAt execOp at *
  rw [h] at *
  simp only [Instr.extract] at *
  generalize a.eval t = tv at *
  cases tv with
  | tuple vs =>
    dsimp only at *
    generalize vs[k]? = r at *
    cases r with
    | some u =>
      have h1 : Oper.quietUpon P C w v (.ok (.value u) w) := hq
      rw [← h1.2]; rfl
    | none => exact False.elim hq
  | _ => exact False.elim hq
theorem any_of_still1 {L : List Oper} (hb : backB 0 L = true) (x : Nat) (hu : usedX x L = true) {n : Nat} (hn : n + 1 = L.length) (hx : x < n) {ox on : Oper} (hox : L[x]? = some ox) (hon : L[n]? = some on) {t : Operand} {k : Nat} (hop : ox.op = .extract t k) (hap : ox.apart L.toArray on = true)
    (hsel : Region.noSelect L.toArray = true) (hQ : ∀ c a w v, Q (.panic c) (a.put ox.dst v) w → Q (.panic c) a w) :
    ∀ (fuel : Nat) (listed : Array Bool) (a : Act) (w : World), C w → shut L listed → listed.size = L.length → listed.getD n true = false →
      wpAnyQ P .any (stillLast L).toArray C (fun a' => ∀ w', C w' → wpList P L.toArray Q (lastOf L) a' w') fuel listed a → wpAny P .any L.toArray Q fuel listed a w := by
  obtain ⟨o, ho, hst, hla⟩ := stillLast_end L n hn
  have back : ∀ (i : Nat) (o : Oper), L.toArray[i]? = some o → ∀ e ∈ o.after, Region.binds .any e = true → e.on < i := fun i o ho e he hbe => by
    have := (backB_said hb i o (by simpa using ho)).1 e he hbe
    omega
  have gn : ∀ (i : Nat) (o : Oper), L[i]? = some o → o.guard = none := fun i o ho => (backB_said hb i o ho).2
  have some_ready : ∀ listed : Array Bool, listed.getD n true = false → Region.ready .any L.toArray listed ≠ [] := fun listed hl hr => by
    have := ready_none back hr n (by simp; omega)
    rw [hl] at this
    cases this
  have wn : ∀ (o : Oper) (y : Nat → Option Bool), o.guard = none → Region.wanted o y = true := fun o y hg => by unfold Region.wanted; rw [hg]
  intro fuel
  induction fuel with
  | zero =>
    intro listed a w hC hsh hs hl h
    exfalso
    obtain ⟨i, hi⟩ := List.exists_mem_of_ne_nil _ (some_ready listed hl)
    have := ready_still hi
    rw [h.1] at this
    cases this
  | succ fuel ih =>
    intro listed a w hC hsh hs hl h
    by_cases hB : (∀ j, j < n → j ≠ x → listed.getD j true = true) ∧ listed.getD x true = false
    · obtain ⟨hB1, hB2⟩ := hB
      have hxr : x ∈ Region.ready .any L.toArray listed := by
        rw [mem_ready]
        refine ⟨hB2, ox, by simpa using hox, fun e he hbe => ?_⟩
        have hlt := back x ox (by simpa using hox) e he hbe
        rw [← getD_of hs (show e.on < L.length by omega) true false]
        exact hB1 e.on (by omega) (by omega)
      have hq := h.2 x (ready_still hxr)
      unfold qOp at hq
      have hst' : (stillLast L).toArray[x]? = some ox := by
        have := stillLast_at L x (by omega)
        rw [hox] at this
        simpa using this
      rw [hst'] at hq
      simp only [wn ox _ (gn x ox hox), if_true] at hq
      obtain ⟨v, h1, hk⟩ := hq
      refine wpAny_take (i := x) (oi := ox) (v := v) (by simpa using hox) hsel ?_ (by simpa using hxr) (fun c a w => hQ c a w v) (Or.inl ⟨wn ox _ (gn x ox hox), fun w' => extract_same hop (h1 w hC) w'⟩) ?_
      · have hx' : L.toArray[x]? = some ox := by simpa using hox
        simp only [Region.free, hx', List.all_eq_true, List.mem_range, Bool.or_eq_true, beq_iff_eq]
        intro j hj
        have hjl : j < L.length := by simpa using hj
        by_cases ejx : j = x
        · exact Or.inl (Or.inl ejx)
        · by_cases ejn : j = n
          · refine Or.inr ?_
            subst ejn
            have hn' : L.toArray[j]? = some on := by simpa using hon
            rw [hn']
            simp only [hap, Bool.or_true]
          · exact Or.inl (Or.inr (hB1 j (by omega) ejx))
      · exact ih _ _ w hC (shut_set hb hs hsh hxr) (by simpa using hs) (by rw [getD_set_ne true (by omega)]; exact hl) hk
    refine ⟨fun hr => absurd hr (some_ready listed hl), fun i hi => ?_⟩
    have hq := h.2 i (ready_still hi)
    obtain ⟨h1, oi, hoi, _⟩ := mem_ready.1 hi
    have hoi' : L[i]? = some oi := by simpa using hoi
    have hil := (List.getElem?_eq_some_iff.1 hoi').1
    unfold wpOp
    rw [hoi]
    unfold qOp at hq
    by_cases ein : i = n
    · subst ein
      have hx2 : listed.getD x true = true := by
        cases hc : listed.getD x true
        · exact absurd ⟨fun j hj hjx => all_listedX hu hs hsh hn hi L.length j hj hjx (by omega), hc⟩ hB
        · rfl
      obtain rfl := Option.some.inj (ho.symm.trans hoi')
      have hst' : (stillLast L).toArray[i]? = some (still o) := by simpa using hst
      rw [hst'] at hq
      simp only [wn (still o) _ (gn i o ho), if_true] at hq
      obtain ⟨v, _, hk⟩ := hq
      have hall : ∀ j, j < L.toArray.size → (listed.setIfInBounds i true).getD j true = true := fun j hj => by
        have hj' : j < L.length := by simpa using hj
        by_cases e : i = j
        · subst e; simp [Array.getD, show i < listed.size by omega]
        · rw [getD_set_ne true e]
          by_cases ejx : j = x
          · rw [ejx]; exact hx2
          · exact all_listedX hu hs hsh hn hi L.length j (by omega) ejx (by omega)
      have hr0 := ready_nil hall
      have hr1 : Region.ready .any (stillLast L).toArray (listed.setIfInBounds i true) = [] := ready_nil fun j hj => hall j (by simpa [stillLast_len] using hj)
      have hw : wpList P L.toArray Q (lastOf L) a w := by
        have : a.put (still o).dst v = a := rfl
        rw [this] at hk
        cases fuel with
        | zero => exact hk.2 w hC
        | succ f => exact hk.1 hr1 w hC
      rw [hla] at hw
      simp only [wpList, wn o _ (gn i o ho), if_true] at hw
      simp only [wn o _ (gn i o ho), if_true]
      refine hw.imp (Oper.wp_mono fun a' w' hq => ?_) id
      cases fuel with
      | zero => exact ⟨hr0, hq⟩
      | succ f => exact ⟨fun _ => hq, fun j hj => by rw [hr0] at hj; cases hj⟩
    · have hst' : (stillLast L).toArray[i]? = some oi := by
        have := stillLast_at L i (by omega)
        rw [hoi'] at this
        simpa using this
      rw [hst'] at hq
      simp only [wn oi _ (gn i oi hoi'), if_true] at hq
      simp only [wn oi _ (gn i oi hoi'), if_true]
      refine Or.inl (Oper.wp_of_quiet hC (fun a' w' hC' hk => ih _ a' w' hC' (shut_set hb hs hsh hi) (by simpa using hs) ?_ hk) hq)
      rw [getD_set_ne true ein]
      exact hl
/-- the rule, for a region whose operations are written out; operation x takes a part that nobody asks for. -/
theorem wp_region_last1 (x : Nat) {id : Nat} {a : Act} {w : World} {L : List Oper} {ox on : Oper} {t : Operand} {k : Nat} (hox : L[x]? = some ox) (hon : L[L.length - 1]? = some on) (hop : ox.op = .extract t k) (hap : ox.apart L.toArray on = true) (hQ : ∀ c a w v, Q (.panic c) (a.put ox.dst v) w → Q (.panic c) a w)
    (hm : P.follows .mixedOrders = true) (hsel : Region.noSelect L.toArray = true) (hB : Region.lexB .any (stillLast L).toArray = true) (hb : backB 0 L = true) (hu : usedX x L = true) (hx : x + 1 < L.length)
    (h : wpQuiet P (stillLast L).toArray (fun w' => ∃ n, w' = w.drewN n) (fun a' => ∀ w', (∃ n, w' = w.drewN n) → wpList P L.toArray Q (lastOf L) a' w') (stillLast L) a) : (Code.region id L.toArray true).wp P Q a w := by
  simp only [Region.lexB, Bool.and_eq_true] at hB
  refine wp_region_any hm (any_of_still1 (C := fun w' => ∃ n, w' = w.drewN n) hb x hu (n := L.length - 1) (by omega) (by omega) hox hon hop hap hsel hQ _ _ a _ ⟨1, rfl⟩ ?_ (by simp) ?_ ?_)
  · intro j o ho hl
    have hj := (List.getElem?_eq_some_iff.1 ho).1
    simp [Array.getD, hj] at hl
  · simp [Array.getD, show L.length - 1 < L.length by omega]
  · have := wpAnyQ_lex (P := P) (C := fun w' => ∃ n, w' = w.drewN n) (md := .any) hB.1 (stillLast L) 0 (Array.replicate (stillLast L).toArray.size false) a (by simp) (by simpa using hB.2) h
    simpa [stillLast_len] using this
end
end Go.Proofs.YtocfenjampmdlaaGreatDoor
