/- A region whose operations only read, but for the last one, which waits for all others: one walk in the order of the text serves every order. -/
/- The reference's products of polynomials. -/
/- What the reference's Is answers. -/
/- What the reference's Twos answers; what is gathered. -/
/- What Of of a field answers. -/
/- What prime's Root and Order answer, whatever they are given. -/
/- What the reference's Order answers. -/
/- What the reference's Root answers. -/
/- The reference's Round and Go. -/
/- The reference's New, and the law's own Sized and great. -/
/- What the law's great answers, and slices that are written out. -/
/- The inverse modulo a prime, and that roots and powers of 2 have one. -/
import Derived.Deep.QuietTactic
import Derived.Test.YtocfenjampmdlabGreatDoorReg
import Derived.BigQuiet
import Derived.WalkSpells
import Derived.WalkLawsBesides
import Derived.Test.YtocfenjampmdlabGreatDoorVw
import Derived.Deep.RegionHeld3
import Derived.Test.YtocfenjampmdlabGreatDoorVe
namespace Go.Proofs.YtocfenjampmdlabGreatDoor
section
variable {P : Program} {C : World → Prop} {Q : Exit → Act → World → Prop}

/-- nothing, in the place of an operation. -/
def still (o : Oper) : Oper := { dst := none, op := .assign (.const (.int .i64 0)), type := o.type, pos := o.pos, after := o.after, guard := o.guard }
def stillLast : List Oper → List Oper
  | [] => []
  | [o] => [still o]
  | o :: o' :: l => o :: stillLast (o' :: l)
def lastOf : List Oper → List Oper
  | [] => []
  | [o] => [o]
  | _ :: o' :: l => lastOf (o' :: l)
theorem stillLast_at : ∀ (L : List Oper) (j : Nat), j + 1 < L.length → (stillLast L)[j]? = L[j]?
  | [], _, h => by simp at h
  | [_], _, h => by simp at h
  | o :: o' :: l, 0, _ => rfl
  | o :: o' :: l, j + 1, h => by
    have := stillLast_at (o' :: l) j (by simp only [List.length_cons] at h ⊢; omega)
    simpa [stillLast] using this
theorem stillLast_end : ∀ (L : List Oper) (j : Nat), j + 1 = L.length → ∃ o, L[j]? = some o ∧ (stillLast L)[j]? = some (still o) ∧ lastOf L = [o]
  | [], _, h => by simp at h
  | [o], 0, _ => ⟨o, rfl, rfl, rfl⟩
  | [_], j + 1, h => by simp at h
  | o :: o' :: l, 0, h => by simp at h
  | o :: o' :: l, j + 1, h => by
    obtain ⟨x, h1, h2, h3⟩ := stillLast_end (o' :: l) j (by simp only [List.length_cons] at h ⊢; omega)
    exact ⟨x, by simpa using h1, by simpa [stillLast] using h2, by simpa [lastOf] using h3⟩
theorem stillLast_len : ∀ (L : List Oper), (stillLast L).length = L.length
  | [] => rfl
  | [_] => rfl
  | o :: o' :: l => by simp only [stillLast, List.length_cons]; rw [stillLast_len (o' :: l)]; rfl
theorem stillLast_edges {L : List Oper} {j : Nat} {o : Oper} (h : L[j]? = some o) : ∃ o', (stillLast L)[j]? = some o' ∧ o'.after = o.after := by
  have hj := (List.getElem?_eq_some_iff.1 h).1
  by_cases e : j + 1 = L.length
  · obtain ⟨x, h1, h2, _⟩ := stillLast_end L j e
    obtain rfl := Option.some.inj (h.symm.trans h1)
    exact ⟨_, h2, rfl⟩
  · exact ⟨o, by rw [stillLast_at L j (by omega)]; exact h, rfl⟩
theorem ready_still {L : List Oper} {listed : Array Bool} {i : Nat} (h : i ∈ Region.ready .any L.toArray listed) : i ∈ Region.ready .any (stillLast L).toArray listed := by
  rw [mem_ready] at *
  obtain ⟨h1, o, ho, h2⟩ := h
  obtain ⟨o', h3, h4⟩ := stillLast_edges (L := L) (by simpa using ho)
  exact ⟨h1, o', by simpa using h3, by rw [h4]; exact h2⟩
/-- is each operation but the last one waited for by a later one? -/
def usedB (L : List Oper) : Bool := (List.range (L.length - 1)).all fun j => (List.range L.length).any fun k => decide (j < k) && waits L k j
theorem usedB_said {L : List Oper} (h : usedB L = true) {j : Nat} (hj : j + 1 < L.length) : ∃ k o, j < k ∧ k < L.length ∧ L[k]? = some o ∧ ∃ e ∈ o.after, Region.binds .any e = true ∧ e.on = j := by
  have h1 := List.all_eq_true.1 h j (List.mem_range.2 (by omega))
  obtain ⟨k, hk, h2⟩ := List.any_eq_true.1 h1
  rw [Bool.and_eq_true, decide_eq_true_eq] at h2
  obtain ⟨h3, h4⟩ := h2
  unfold waits at h4
  have hk := List.mem_range.1 hk
  rw [List.getElem?_eq_getElem hk] at h4
  obtain ⟨e, he, h5⟩ := List.any_eq_true.1 h4
  rw [Bool.and_eq_true, beq_iff_eq] at h5
  exact ⟨k, L[k], h3, hk, List.getElem?_eq_getElem hk, e, by simpa using he, h5.1, h5.2⟩
/-- what a listed one waits for is listed. -/
def shut (L : List Oper) (listed : Array Bool) : Prop := ∀ (j : Nat) (o : Oper), L[j]? = some o → listed.getD j true = true → ∀ e ∈ o.after, Region.binds .any e = true → listed.getD e.on true = true
theorem getD_of {listed : Array Bool} {n i : Nat} (hs : listed.size = n) (hi : i < n) (d d' : Bool) : listed.getD i d = listed.getD i d' := by
  have : i < listed.size := by omega
  simp [Array.getD, this]
theorem shut_set {L : List Oper} {listed : Array Bool} {i : Nat} (hb : backB 0 L = true) (hs : listed.size = L.length) (h : shut L listed) (hi : i ∈ Region.ready .any L.toArray listed) : shut L (listed.setIfInBounds i true) := by
  obtain ⟨h1, o, ho, h2⟩ := mem_ready.1 hi
  have hil : i < L.length := by have := (Array.getElem?_eq_some_iff.1 ho).1; simpa using this
  have keep : ∀ k, listed.getD k true = true → (listed.setIfInBounds i true).getD k true = true := fun k hk => by
    by_cases e : i = k
    · subst e; simp [Array.getD, show i < listed.size by omega]
    · rw [getD_set_ne true e]; exact hk
  intro j oj hoj hlj e he hbe
  have hjl := (List.getElem?_eq_some_iff.1 hoj).1
  have hlt := (backB_said hb j oj hoj).1 e he hbe
  by_cases ej : i = j
  · subst ej
    obtain rfl : o = oj := by
      have : L[i]? = some o := by simpa using ho
      exact Option.some.inj (this.symm.trans hoj)
    apply keep
    rw [getD_of hs (show e.on < L.length by omega) true false]
    exact h2 e he hbe
  · rw [getD_set_ne true ej] at hlj
    exact keep _ (h j oj hoj hlj e he hbe)
theorem all_listed {L : List Oper} {listed : Array Bool} (hu : usedB L = true) (hs : listed.size = L.length) (h : shut L listed) {n : Nat} (hn : n + 1 = L.length) (hr : n ∈ Region.ready .any L.toArray listed) :
    ∀ m j, j < n → n ≤ j + m → listed.getD j true = true := by
  obtain ⟨_, o, ho, h2⟩ := mem_ready.1 hr
  have ho' : L[n]? = some o := by simpa using ho
  intro m
  induction m with
  | zero => intro j h1 h3; omega
  | succ m ih =>
    intro j h1 h3
    obtain ⟨k, ok, hjk, hk, hok, e, he, hbe, rfl⟩ := usedB_said hu (j := j) (by omega)
    by_cases ek : k = n
    · subst ek
      obtain rfl := Option.some.inj (ho'.symm.trans hok)
      rw [getD_of hs (show e.on < L.length by omega) true false]
      exact h2 e he hbe
    · exact h k ok hok (ih k (by omega) (by omega)) e he hbe
theorem ready_nil {ops : Array Oper} {listed : Array Bool} (h : ∀ j, j < ops.size → listed.getD j true = true) : Region.ready .any ops listed = [] := by
  apply List.eq_nil_iff_forall_not_mem.2
  intro i hi
  obtain ⟨h1, o, ho, _⟩ := mem_ready.1 hi
  rw [h i (Array.getElem?_eq_some_iff.1 ho).1] at h1
  cases h1
theorem any_of_still {L : List Oper} (hb : backB 0 L = true) (hu : usedB L = true) {n : Nat} (hn : n + 1 = L.length) :
    ∀ (fuel : Nat) (listed : Array Bool) (a : Act) (w : World), C w → shut L listed → listed.size = L.length → listed.getD n true = false →
      wpAnyQ P .any (stillLast L).toArray C (fun a' => ∀ w', C w' → wpList P L.toArray Q (lastOf L) a' w') fuel listed a → wpAny P .any L.toArray Q fuel listed a w := by
  obtain ⟨o, ho, hst, hla⟩ := stillLast_end L n hn
  have back : ∀ (i : Nat) (o : Oper), L.toArray[i]? = some o → ∀ e ∈ o.after, Region.binds .any e = true → e.on < i := fun i o ho e he hbe => by
    have := (backB_said hb i o (by simpa using ho)).1 e he hbe
    omega
  have gn : ∀ (i : Nat) (o : Oper), L[i]? = some o → o.guard = none := fun i o ho => (backB_said hb i o ho).2
  have some_ready : ∀ listed : Array Bool, listed.getD n true = false → Region.ready .any L.toArray listed ≠ [] := fun listed hl hr => by
    have := ready_none back hr n (by simp; omega)
    rw [hl] at this
    cases this
  intro fuel
  induction fuel with
  | zero =>
    intro listed a w hC hsh hs hl h
    exfalso
    obtain ⟨i, hi⟩ := List.exists_mem_of_ne_nil _ (some_ready listed hl)
    have := ready_still hi
    rw [h.1] at this
    cases this
  | succ fuel ih =>
    intro listed a w hC hsh hs hl h
    refine ⟨fun hr => absurd hr (some_ready listed hl), fun i hi => ?_⟩
    have hq := h.2 i (ready_still hi)
    obtain ⟨h1, oi, hoi, _⟩ := mem_ready.1 hi
    have hoi' : L[i]? = some oi := by simpa using hoi
    have hil := (List.getElem?_eq_some_iff.1 hoi').1
    have wn : ∀ (o : Oper) (y : Nat → Option Bool), o.guard = none → Region.wanted o y = true := fun o y hg => by unfold Region.wanted; rw [hg]
    unfold wpOp
    rw [hoi]
    unfold qOp at hq
    by_cases ein : i = n
    · subst ein
      obtain rfl := Option.some.inj (ho.symm.trans hoi')
      have hst' : (stillLast L).toArray[i]? = some (still o) := by simpa using hst
      rw [hst'] at hq
      simp only [wn (still o) _ (gn i o ho), if_true] at hq
      obtain ⟨v, _, hk⟩ := hq
      have hall : ∀ j, j < L.toArray.size → (listed.setIfInBounds i true).getD j true = true := fun j hj => by
        have hj' : j < L.length := by simpa using hj
        by_cases e : i = j
        · subst e; simp [Array.getD, show i < listed.size by omega]
        · rw [getD_set_ne true e]
          exact all_listed hu hs hsh hn hi L.length j (by omega) (by omega)
      have hr0 := ready_nil hall
      have hr1 : Region.ready .any (stillLast L).toArray (listed.setIfInBounds i true) = [] := ready_nil fun j hj => hall j (by simpa [stillLast_len] using hj)
      have hw : wpList P L.toArray Q (lastOf L) a w := by
        have : a.put (still o).dst v = a := rfl
        rw [this] at hk
        cases fuel with
        | zero => exact hk.2 w hC
        | succ f => exact hk.1 hr1 w hC
      rw [hla] at hw
      simp only [wpList, wn o _ (gn i o ho), if_true] at hw
      simp only [wn o _ (gn i o ho), if_true]
      refine hw.imp (Oper.wp_mono fun a' w' hq => ?_) id
      cases fuel with
      | zero => exact ⟨hr0, hq⟩
      | succ f => exact ⟨fun _ => hq, fun j hj => by rw [hr0] at hj; cases hj⟩
    · have hst' : (stillLast L).toArray[i]? = some oi := by
        have := stillLast_at L i (by omega)
        rw [hoi'] at this
        simpa using this
      rw [hst'] at hq
      simp only [wn oi _ (gn i oi hoi'), if_true] at hq
      simp only [wn oi _ (gn i oi hoi'), if_true]
      refine Or.inl (Oper.wp_of_quiet hC (fun a' w' hC' hk => ih _ a' w' hC' (shut_set hb hs hsh hi) (by simpa using hs) ?_ hk) hq)
      rw [getD_set_ne true ein]
      exact hl
/-- the rule, for a region whose operations are written out. -/
theorem wp_region_last {id : Nat} {a : Act} {w : World} {L : List Oper} (hm : P.follows .mixedOrders = true) (hB : Region.lexB .any (stillLast L).toArray = true) (hb : backB 0 L = true) (hu : usedB L = true) (hne : 0 < L.length)
    (h : wpQuiet P (stillLast L).toArray (fun w' => ∃ n, w' = w.drewN n) (fun a' => ∀ w', (∃ n, w' = w.drewN n) → wpList P L.toArray Q (lastOf L) a' w') (stillLast L) a) : (Code.region id L.toArray true).wp P Q a w := by
  simp only [Region.lexB, Bool.and_eq_true] at hB
  refine wp_region_any hm (any_of_still (C := fun w' => ∃ n, w' = w.drewN n) hb hu (n := L.length - 1) (by omega) _ _ a _ ⟨1, rfl⟩ ?_ (by simp) ?_ ?_)
  · intro j o ho hl
    have hj := (List.getElem?_eq_some_iff.1 ho).1
    simp [Array.getD, hj] at hl
  · simp [Array.getD, show L.length - 1 < L.length by omega]
  · have := wpAnyQ_lex (P := P) (C := fun w' => ∃ n, w' = w.drewN n) (md := .any) hB.1 (stillLast L) 0 (Array.replicate (stillLast L).toArray.size false) a (by simp) (by simpa using hB.2) h
    simpa [stillLast_len] using this
end
end Go.Proofs.YtocfenjampmdlabGreatDoor
namespace Go.Proofs.YtocfenjampmdlabGreatDoor
open Go.RowKit Num Nmb

/-- what stands at m when the products of the first i of a, and of the first k of b with the next one, were added. -/
def acc (f : Nat → Nat → Nat) (a b : Nat → Int) (lb i k m : Nat) : Int := sm (fun i' => sm (fun l => if f i' l = m then a i' * b l else 0) lb) i + sm (fun l => if f i l = m then a i * b l else 0) k
theorem acc_step (f : Nat → Nat → Nat) (a b : Nat → Int) (lb i k m : Nat) : acc f a b lb i (k + 1) m = acc f a b lb i k m + (if f i k = m then a i * b k else 0) := by
  unfold acc
  rw [sm_succ, Int.add_assoc]
theorem acc_next (f : Nat → Nat → Nat) (a b : Nat → Int) (lb i m : Nat) : acc f a b lb i lb m = acc f a b lb (i + 1) 0 m := by
  unfold acc
  rw [sm_succ]
  exact (Int.add_zero _).symm
theorem acc_zero (f : Nat → Nat → Nat) (a b : Nat → Int) (lb m : Nat) : acc f a b lb 0 0 m = 0 := rfl
theorem acc_prd (a b : Nat → Int) (la lb m : Nat) : acc (fun i l => i + l) a b lb la 0 m = prd a b la lb m := Int.add_zero _
theorem acc_rnd (a b : Nat → Int) (n m : Nat) : acc (fun i l => (i + l) % n) a b n n 0 m = rnd a b n m := Int.add_zero _
/-- the row's numbers are what is left of the sums. -/
def AcR (f : Nat → Nat → Nat) (a b : Nat → Int) (lb i k N : Nat) (p : Int) (z : Nat → Int) : Prop := ∀ m, m < N → z m = acc f a b lb i k m % p
theorem AcR.step {f : Nat → Nat → Nat} {a b : Nat → Int} {lb i k N : Nat} {p : Int} {z : Nat → Int} (h : AcR f a b lb i k N p z) (hf : f i k < N) :
    AcR f a b lb i (k + 1) N p (fun m => if m = f i k then (z (f i k) + a i * b k % p) % p else z m) := by
  intro m hm
  show (if m = f i k then _ else _) = _
  rw [acc_step]
  by_cases e : m = f i k
  · rw [if_pos e, e, if_pos rfl, h _ hf, ← Int.add_emod]
  · rw [if_neg e, if_neg (fun h' => e h'.symm), Int.add_zero]
    exact h m hm
theorem AcR.val {f : Nat → Nat → Nat} {a b : Nat → Int} {lb i k N : Nat} {p : Int} {z : Nat → Int} (h : AcR f a b lb i k N p z) (hp : 0 < p) {m : Nat} (hm : m < N) : 0 ≤ z m ∧ z m < p := by
  rw [h m hm]
  exact ⟨Int.emod_nonneg _ (by omega), Int.emod_lt_of_pos _ hp⟩
theorem Wl.cell {w : World} {ao : Option Addr} {n cap : Nat} {x : Nat → Int} (h : Wl w (.slice ao n cap) n x) {j : Nat} (hj : j < n) : ∃ b off, ao = some ⟨b, off, none⟩ ∧ b < w.heap.size ∧ w.cell? ⟨b, off + j, none⟩ = some (.int .u64 (x j)) := by
  obtain ⟨ao', cap', e, h1, h2, h3, h5⟩ := h
  cases e
  obtain ⟨b, off, h6, h7, h8⟩ := h5 (by omega)
  exact ⟨b, off, h6, h7, h8 j hj⟩
end Go.Proofs.YtocfenjampmdlabGreatDoor
namespace Go.Proofs.YtocfenjampmdlabGreatDoor
open Go.RowKit Num Nmb

theorem isB_no {n d : Nat} (hn : n ≤ 1002000) (h2 : 2 ≤ d) (hd : d * d ≤ n) (h : n % d = 0) : isB n = false := by
  cases hb : isB n
  · rfl
  · exact absurd (Nat.dvd_of_mod_eq_zero h) ((pri_of_isB hb hn).no_div h2 hd)
theorem isB_yes {n d : Nat} (hn : n ≤ 1002000) (h2 : 2 ≤ n) (hd : n < d * d) (h : ∀ e, 2 ≤ e → e < d → n % e ≠ 0) : isB n = true := by
  refine isB_of_pri (pri_of_root h2 fun e h3 h4 h5 => h e h3 ?_ (Nat.mod_eq_zero_of_dvd h5)) (by omega)
  apply Nat.lt_of_not_le
  intro h6
  have := Nat.mul_le_mul h6 h6
  omega
theorem root_lt {n d : Nat} (hn : n ≤ 1002000) (hd : d * d ≤ n) : d ≤ 1001 := by
  apply Nat.le_of_not_lt
  intro h
  have := Nat.mul_le_mul h h
  omega
end Go.Proofs.YtocfenjampmdlabGreatDoor
namespace Go.Proofs.YtocfenjampmdlabGreatDoor
open Go.RowKit Num Nmb

theorem two_le {k t m : Nat} (h : 2 ^ k ∣ 2 ^ t * (2 * m + 1)) : k ≤ t := by
  apply Nat.le_of_not_lt
  intro hl
  obtain ⟨d, rfl⟩ : ∃ d, k = t + 1 + d := ⟨k - t - 1, by omega⟩
  obtain ⟨c, hc⟩ := h
  have e : 2 ^ (t + 1 + d) * c = 2 ^ t * (2 * (2 ^ d * c)) := by
    rw [Nat.pow_add, Nat.pow_succ]
    simp only [Nat.mul_assoc]
  rw [e] at hc
  have := Nat.eq_of_mul_eq_mul_left (Nat.pow_pos (by decide)) hc
  omega
theorem two_uniq {a b m l : Nat} (h : 2 ^ a * (2 * m + 1) = 2 ^ b * (2 * l + 1)) : a = b :=
  Nat.le_antisymm (two_le (m := l) ⟨2 * m + 1, h.symm⟩) (two_le (m := m) ⟨2 * l + 1, h⟩)
/-- 2 goes into n just t times. -/
def Tw (n t : Nat) : Prop := ∃ m, n = 2 ^ t * (2 * m + 1)
theorem gath_mem {u x : Nat} : ∀ {q : Nat}, x ∈ gath u q → isB x = true ∧ ∃ j, 1 ≤ j ∧ j ≤ q ∧ x = 1 + u * j
  | 0, h => by cases h
  | q + 1, h => by
    rw [gath] at h
    split at h
    · rename_i hb
      rcases List.mem_cons.1 h with rfl | h
      · exact ⟨hb, q + 1, by omega, by omega, rfl⟩
      · obtain ⟨h1, j, h2, h3, h4⟩ := gath_mem h
        exact ⟨h1, j, h2, by omega, h4⟩
    · obtain ⟨h1, j, h2, h3, h4⟩ := gath_mem h
      exact ⟨h1, j, h2, by omega, h4⟩
theorem gath_down {u : Nat} (hu : 0 < u) : ∀ q, (gath u q).Pairwise (fun a b => b < a)
  | 0 => List.Pairwise.nil
  | q + 1 => by
    rw [gath]
    split
    · refine List.Pairwise.cons (fun x hx => ?_) (gath_down hu q)
      obtain ⟨_, j, _, h3, rfl⟩ := gath_mem hx
      have : u * j < u * (q + 1) := Nat.mul_lt_mul_of_pos_left (by omega) hu
      omega
    · exact gath_down hu q
theorem gath_lt {u x below : Nat} (_hu : 2 ≤ u) (hb : 2 ≤ below) (h : x ∈ gath u ((below - 2) / u)) : x < below := by
  obtain ⟨_, j, _, h3, rfl⟩ := gath_mem h
  have h4 : u * j ≤ u * ((below - 2) / u) := Nat.mul_le_mul_left u h3
  have h5 := Nat.mul_div_le (below - 2) u
  omega
end Go.Proofs.YtocfenjampmdlabGreatDoor
namespace Go.Proofs.YtocfenjampmdlabGreatDoor
open Go.RowKit Num
set_option maxHeartbeats 400000 in
theorem of_any (g : Nat) (m f s x : Int) (w : World) (h : Fld w g m f s) (hm : 0 < m) (hx : 0 ≤ x) :
    Calls Tryz.prog 83 #[.pointer (some ⟨g, 0, none⟩), .int .u64 x] w fun e w' => e = .returned (.int .u64 (x % m)) ∧ w' = w := by
  have H := hid h
  clear h
  go_enter Tryz.func83, Tryz.ntmps83
  go_wp2_with fail
  refine (left_any g m f s x w H.out hm hx).mono ?_
  rintro e w' ⟨rfl, rfl⟩
  go_wp2
  go_ret
  exact ⟨rfl, rfl⟩
end Go.Proofs.YtocfenjampmdlabGreatDoor
namespace Go.Proofs.YtocfenjampmdlabGreatDoor
open Go.RowKit Num Nmb

set_option maxHeartbeats 1600000 in
theorem root_no (p : Nat) (k : Int) (w : World) (hn : p ≤ 18446744073709551615) (hp : isB p = false) (L : Lay w) :
    Calls Tryz.prog 56 #[.int .u64 p, .int .i64 k] w fun e w' => e = .returned (.tuple #[.int .u64 0, .int .i64 14]) ∧ ∃ c, w' = w.drewN c := by
  have FN := hid (field_no p w hn (Or.inr hp) L)
  clear L hp
  go_enter Tryz.func56, Tryz.ntmps56
  go_wp2_with fail
  refine FN.out.mono ?_
  rintro e w2 ⟨rfl, c, rfl⟩
  go_wp2
  go_ret2
  exact ⟨rfl, c, rfl⟩
set_option maxHeartbeats 1600000 in
theorem root_arg (p : Nat) (k : Int) (w : World) (hp : isB p = true) (h63 : p < 9223372036854775808) (hk : k < 0 ∨ (tw p : Int) < k) (L : Lay w) :
    Calls Tryz.prog 56 #[.int .u64 p, .int .i64 k] w fun e w' => e = .returned (.tuple #[.int .u64 0, .int .i64 1]) ∧ Below w.heap.size w w' := by
  have FA := hid (field_any p w hp h63 L)
  generalize (tw p : Int) = t at *
  clear L hp
  by_cases h0 : k < 0
  · clear hk
    go_enter Tryz.func56, Tryz.ntmps56
    go_wp2_with fail
    refine FA.out.mono ?_
    rintro e w1 ⟨rfl, B, f, s, F, O⟩
    have BB := hid B
    clear F O B FA
    go_wp2
    go_ret2
    exact ⟨rfl, BB.out⟩
  · have h1 : t < k := by omega
    clear hk
    go_enter Tryz.func56, Tryz.ntmps56
    go_wp2_with fail
    refine FA.out.mono ?_
    rintro e w1 ⟨rfl, B, f, s, F, O⟩
    have BB := hid B
    clear F O B FA
    go_wp2
    go_ret2
    exact ⟨rfl, BB.out⟩
theorem of_nat (g : Nat) (p x : Nat) (f s : Int) (w : World) (h : Fld w g p f s) (hp : 0 < p) :
    Calls Tryz.prog 83 #[.pointer (some ⟨g, 0, none⟩), .int .u64 x] w fun e w' => e = .returned (.int .u64 (x % p : Nat)) ∧ w' = w := by
  have h := of_any g p f s x w h (by omega) (by omega)
  rw [← Int.natCast_emod] at h
  exact h
/-- what Order answers of a prime. -/
def OrdIs (p x : Nat) (n : Nat) (er : Int) : Prop := (x % p = 0 ∧ n = 0 ∧ er = 1) ∨ (x % p ≠ 0 ∧ er = 0 ∧ n ≤ tw p ∧ Ord p (x % p) n) ∨ (x % p ≠ 0 ∧ er = 19 ∧ n = 0 ∧ ∀ i, i ≤ tw p → (x % p) ^ 2 ^ i % p ≠ 1)
end Go.Proofs.YtocfenjampmdlabGreatDoor
namespace Go.Proofs.YtocfenjampmdlabGreatDoor
open Go.RowKit Num Nmb

theorem rmul_nat (x y m : Nat) (w : World) (hm : 2 ≤ m) (hm' : m ≤ 9223372036854775807) :
    Calls Tryz.prog 7 #[.int .u64 x, .int .u64 y, .int .u64 m] w fun e w' => e = .returned (.int .u64 (x * y % m : Nat)) ∧ ∃ k, w' = w.drewN k := by
  have h := rmul_any x y m w (by omega) (by omega) (by omega) (by omega)
  rw [← Int.natCast_mul, ← Int.natCast_emod] at h
  exact h
/-- what the reference's Order answers. -/
def RO (p x : Nat) (m : Int) : Prop := (∃ k : Nat, m = k ∧ k < 64 ∧ Ord p x k) ∨ (m = -1 ∧ ∀ i, i < 64 → x ^ 2 ^ i % p ≠ 1)
theorem Ord.uniq {p x a b : Nat} (h : Ord p x a) (h' : Ord p x b) : a = b := by
  rcases Nat.lt_trichotomy a b with hl | hl | hl
  · exact absurd h.1 (h'.2 a hl)
  · exact hl
  · exact absurd h'.1 (h.2 b hl)
theorem RO.ord {p x k : Nat} {m : Int} (h : RO p x m) (hk : k < 64) : m = k ↔ Ord p x k := by
  constructor
  · intro e
    rcases h with ⟨j, h1, _, h3⟩ | ⟨h1, _⟩
    · obtain rfl : j = k := by omega
      exact h3
    · omega
  · intro ho
    rcases h with ⟨j, h1, _, h3⟩ | ⟨_, h2⟩
    · rw [h1, h3.uniq ho]
    · exact absurd ho.1 (h2 k hk)
end Go.Proofs.YtocfenjampmdlabGreatDoor
namespace Go.Proofs.YtocfenjampmdlabGreatDoor
open Go.RowKit Num Nmb

theorem tw_uniq {p t : Nat} (h2 : 2 ≤ p) (hn : p ≤ 18446744073709551615) (h : Tw (p - 1) t) : t = tw p := by
  obtain ⟨m, hm⟩ := h
  obtain ⟨e1, e2, _⟩ := tw_said (n := p) (by omega) hn
  rw [e1, show od p = 2 * (od p / 2) + 1 by omega, Nat.mul_comm] at hm
  exact (two_uniq hm).symm
theorem root2 : RootIs 2 0 1 := ⟨1, by decide, by decide, ⟨by decide, fun i hi => absurd hi (by omega)⟩, fun x h1 h2 => absurd h2 (by omega)⟩
end Go.Proofs.YtocfenjampmdlabGreatDoor
namespace Go.Proofs.YtocfenjampmdlabGreatDoor
open Go.RowKit Num Nmb

/-- the first i values. -/
def GoR (a : Nat → Int) (r p n : Nat) (X : List Nat) : Prop := (∀ j, j < X.length → lw X j = dft a r n j % p) ∧ ∀ c, c ∈ X → c ≤ 18446744073709551615
theorem GoR.push {a : Nat → Int} {r p n c : Nat} {X : List Nat} (h : GoR a r p n X) (hp : 0 < p) (hp' : p ≤ 9223372036854775807) (hc : (c : Int) = ev a n (r ^ X.length % p : Nat) % p) : GoR a r p n (X ++ [c]) := by
  refine ⟨fun j hj => ?_, fun d hd => ?_⟩
  · rw [lw_push]
    by_cases e : j = X.length
    · rw [if_pos e, hc, dft_ev, e]
      have : Cg p ((r ^ X.length % p : Nat) : Int) ((r : Int) ^ X.length) := by
        rw [Int.natCast_emod, Int.natCast_pow]
        exact Cg.mod
      exact ev_cg (fun i _ => Cg.rfl) this
    · rw [if_neg e]
      exact h.1 j (by simp at hj; omega)
  · rcases List.mem_append.1 hd with hd | hd
    · exact h.2 d hd
    · simp at hd
      subst hd
      have := Int.emod_lt_of_pos (ev a n (r ^ X.length % p : Nat)) (show 0 < (p : Int) by omega)
      omega
theorem pushedW {w w2 w3 : World} {v v' : Value} {L : List Nat} {c : Nat} {o : Obj} (h : OwW w2 w.heap.size v L) (B : Below w.heap.size w w2) (hb : w.heap.size ≤ w2.heap.size)
    (own : w3.ownsRow w.heap.size 22 1 v' (L.length + 1) (wordCells L ++ [.int .u64 (c : Int)])) (grow : (w2.alloc o).grownBy w3 v.ownBlock) :
    ∃ ao cap, v' = .slice ao (L.length + 1) cap ∧ Hid (OwW w3 w.heap.size (.slice ao (L.length + 1) cap) (L ++ [c])) ∧ Hid (Below w.heap.size w w3) ∧ w.heap.size ≤ w3.heap.size := by
  obtain ⟨h1, h2, h3⟩ := OwW.push h hb rfl own grow
  obtain ⟨ao, cap, hv⟩ := h1.slice
  rw [List.length_append, List.length_singleton] at hv
  subst hv
  exact ⟨ao, cap, rfl, h1, B.trans h2, h3⟩
end Go.Proofs.YtocfenjampmdlabGreatDoor
namespace Go.Proofs.YtocfenjampmdlabGreatDoor
open Go.RowKit Num Nmb

/-- numbers, cut or 0 behind them. -/
def szd (a : Nat → Int) (n : Nat) (j : Nat) : Int := if j < n then a j else 0
end Go.Proofs.YtocfenjampmdlabGreatDoor
namespace Go.Proofs.YtocfenjampmdlabGreatDoor
open Go.RowKit Num Nmb

theorem priA : Pri 4179340454199820289 := proth2 (c := 29) (k := 57) (a := 3) (i := 56) (by decide) (by decide) (by decide) (by decide) (by decide) (by decide +kernel)
theorem priB : Pri 180143985094819841 := proth2 (c := 5) (k := 55) (a := 3) (i := 54) (by decide) (by decide) (by decide) (by decide) (by decide) (by decide +kernel)
theorem pri7 : Pri 7 := low_pri 7 (by decide) (by decide) (by decide)
theorem Rt.of_ord {p r k : Nat} (hp : Pri p) (h : Ord p r k) (hk : k ≤ tw p) (hl : p ≤ 18446744073709551615) : Rt p r k := by
  have h2 := hp.1
  have one : Cg p ((r : Int) ^ 2 ^ k) 1 := by
    rw [← Int.natCast_pow]
    refine (Cg.nat (b := 1)).2 ?_
    rw [h.1, Nat.mod_eq_of_lt (by omega)]
  refine ⟨hp, one, fun h0 => ?_, fun h0 e => ?_⟩
  · have hn := h.2 (k - 1) (by omega)
    have e1 : r ^ 2 ^ (k - 1) * r ^ 2 ^ (k - 1) = r ^ 2 ^ k := by
      have := two_twice r (k - 1)
      rw [show k - 1 + 1 = k by omega] at this
      exact this.symm
    rcases hp.sqrt1 (x := r ^ 2 ^ (k - 1)) (by rw [e1]; exact h.1) with h3 | h3
    · exact absurd h3 hn
    · have e2 : Cg p ((r : Int) ^ 2 ^ (k - 1)) ((p - 1 : Nat) : Int) := by
        rw [← Int.natCast_pow]
        refine Cg.nat.2 ?_
        rw [h3, Nat.mod_eq_of_lt (by omega)]
      refine e2.trans (Cg.dvd.2 ⟨1, ?_⟩)
      rw [Int.natCast_sub (by omega)]
      omega
  · subst e
    rw [tw2] at hk
    omega
theorem RootIs.rt {p r k : Nat} (h : RootIs p k r) (hp : Pri p) (hk : k ≤ tw p) (hl : p ≤ 18446744073709551615) : Rt p r k := by
  obtain ⟨x, _, _, h3, _⟩ := h
  exact Rt.of_ord hp h3 hk hl
/-- one of the law's primes. -/
def GreatP (p : Nat) : Prop := p = 998244353 ∨ p = 4179340454199820289 ∨ p = 180143985094819841 ∨ p = 7 ∨ p = 17 ∨ p = 97
theorem GreatP.pri {p : Nat} (h : GreatP p) : Pri p := by
  rcases h with rfl | rfl | rfl | rfl | rfl | rfl
  · exact pri998
  · exact priA
  · exact priB
  · exact pri7
  · exact pri17
  · exact pri97
theorem GreatP.le {p : Nat} (h : GreatP p) : p ≤ 4179340454199820289 := by
  rcases h with rfl | rfl | rfl | rfl | rfl | rfl <;> decide
theorem Wl.lit (w : World) (l : List Nat) (o : Obj) (ho : o = .cells (wordCells l).toArray 22 (0, 0)) (hl : l.length ≤ 100) (hb : ∀ x, x ∈ l → x ≤ 18446744073709551615) :
    Wl (w.alloc o) (.slice (some ⟨w.heap.size, 0, none⟩) l.length l.length) l.length (lw l) := by
  have hc : (w.alloc o).heap[w.heap.size]? = some o := heap_alloc_new w o
  refine ⟨_, _, rfl, Nat.le_refl _, by omega, fun j hj => ?_, fun _ => ⟨_, 0, rfl, by simp, fun j hj => ?_⟩⟩
  · unfold lw
    have : l.getD j 0 ∈ l := by rw [List.getD_eq_getElem?_getD, List.getElem?_eq_getElem hj]; exact List.getElem_mem _
    have := hb _ this
    omega
  · rw [ho] at hc ⊢
    unfold World.cell?
    simp only [hc]
    have e2 : l.getD j 0 = l[j] := by rw [List.getD_eq_getElem?_getD, List.getElem?_eq_getElem hj]; rfl
    unfold lw
    rw [e2, Nat.zero_add]
    simp [wordCells, hj]
/-- what is known of a table's numbers. -/
structure TabOk (p k r : Nat) : Prop where
  pri : Pri p
  h63 : p < 9223372036854775808
  k20 : k ≤ 20
  ktw : k ≤ tw p
  root : RootIs p k r
/-- b is what Back answers of the values a. -/
def Bk (p k r : Nat) (a b : Nat → Int) : Prop := ∃ v c : Int, Cg p (v * r) 1 ∧ Cg p (c * (2 ^ k : Nat)) 1 ∧ ∀ j, j < 2 ^ k → b j = c * dft a v (2 ^ k) j % p
theorem TabOk.rt {p k r : Nat} (h : TabOk p k r) : Rt p r k := h.root.rt h.pri h.ktw (by have := h.h63; omega)
theorem Cg.mod_eq {p : Nat} {a b : Int} (h : Cg p a b) : a % p = b % p := h
/-- Back of Go. -/
theorem Bk.there {p k r : Nat} {a b c : Nat → Int} (h : Bk p k r b c) (T : TabOk p k r) (hb : ∀ j, j < 2 ^ k → b j = dft a r (2 ^ k) j % p) (j : Nat) (hj : j < 2 ^ k) : c j = a j % p := by
  obtain ⟨v, e, hv, he, hc⟩ := h
  rw [hc j hj]
  refine Cg.mod_eq (Cg.trans (Cg.rfl.mul (dft_cg (fun i hi => ?_) j)) (T.rt.there hv he a j hj))
  rw [hb i hi]
  exact Cg.mod
/-- Go of Back. -/
theorem Bk.again {p k r : Nat} {a b : Nat → Int} (h : Bk p k r a b) (T : TabOk p k r) (j : Nat) (hj : j < 2 ^ k) : dft b r (2 ^ k) j % p = a j % p := by
  obtain ⟨v, e, hv, he, hc⟩ := h
  refine Cg.mod_eq (Cg.trans (dft_cg (fun i hi => ?_) j) (T.rt.again hv he a j hj))
  rw [hc i hi]
  exact Cg.mod
end Go.Proofs.YtocfenjampmdlabGreatDoor
namespace Go.Proofs.YtocfenjampmdlabGreatDoor
open Go.RowKit Num Nmb

theorem ec_pri {p x : Nat} (hp : Pri p) (h : x % p ≠ 0) : ec (x : Int) (p : Int) = 0 := by
  have h2 := hp.1
  apply ec_pos _ (by omega)
  unfold gc
  have e : ((x : Int) % (p : Int)).toNat = x % p := by rw [← Int.natCast_emod]; rfl
  rw [e]
  have hc : Nat.gcd (x % p) p = 1 := by
    rcases hp.2 _ (Nat.gcd_dvd_right (x % p) p) with h1 | h1
    · exact h1
    · have h3 := Nat.gcd_dvd_left (x % p) p
      rw [h1] at h3
      have := Nat.le_of_dvd (by omega) h3
      have := Nat.mod_lt x (show 0 < p by omega)
      omega
  rw [Int.toNat_natCast, Nat.gcd_comm]
  exact hc
/-- the inverse modulo a prime. -/
def ivp (p x : Nat) : Nat := x ^ (p - 2) % p
theorem ivp_said {p x : Nat} (hp : Pri p) (h : x % p ≠ 0) : x * ivp p x % p = 1 := by
  have h2 := hp.1
  unfold ivp
  rw [Nat.mul_mod_mod, ← Nat.pow_succ', show (p - 2).succ = p - 1 by omega]
  exact hp.fermat1 h
theorem inv_pri (g p x : Nat) (f s : Int) (w : World) (h : Fld w g p f s) (hm : Ok p f s) (hp : Pri p) (hx : x % p ≠ 0) :
    Calls Tryz.prog 42 #[.pointer (some ⟨g, 0, none⟩), .int .u64 x] w fun e w' => e = .returned (.tuple #[.int .u64 (ivp p x : Nat), .int .i64 0]) ∧ w' = w := by
  have e0 := ec_pri hp hx
  have h2 := hp.1
  refine (inv_any g p f s x w h hm (by omega)).mono ?_
  rintro e w' ⟨⟨y, rfl, I⟩, rfl⟩
  obtain ⟨y0, y1, y2⟩ := I.good e0
  rw [e0]
  have c1 : Cg p (y * x) (((ivp p x : Nat) : Int) * x) := by
    have a1 := ivp_said hp hx
    unfold Cg
    rw [Int.mul_comm, y2, Int.mul_comm, ← Int.natCast_mul, ← Int.natCast_emod, a1]
    rfl
  have c2 := hp.cancel (c := (x : Int)) (fun hc => hx (by
    have := (Cg.nat (b := 0)).1 hc
    rw [Nat.zero_mod] at this
    exact this)) c1
  have l1 : ivp p x < p := Nat.mod_lt _ (by omega)
  have : y = ((ivp p x : Nat) : Int) := by
    unfold Cg at c2
    rw [Int.emod_eq_of_lt y0 y1, Int.emod_eq_of_lt (by omega) (by omega)] at c2
    exact c2
  rw [this]
  exact ⟨rfl, rfl⟩
theorem root_nz {p k r : Nat} (T : TabOk p k r) : r % p ≠ 0 := by
  intro h
  have h1 := T.rt.one
  have h2 := T.pri.1
  have h3 : Cg p (r : Int) 0 := (Cg.nat (b := 0)).2 (by rw [h, Nat.zero_mod])
  have h4 := h3.pow (2 ^ k)
  rw [Int.zero_pow (Nat.ne_of_gt (Nat.two_pow_pos k))] at h4
  have h5 := (Cg.nat (p := p) (a := 1) (b := 0)).1 (h1.symm.trans h4)
  rw [Nat.mod_eq_of_lt (by omega), Nat.zero_mod] at h5
  omega
theorem two_nz {p k r : Nat} (T : TabOk p k r) : 2 ^ k % p ≠ 0 := by
  intro h
  have h2 := T.pri.1
  have h3 := T.pri.pow k (Nat.dvd_of_mod_eq_zero h)
  have h4 := Nat.le_of_dvd (by omega) h3
  obtain rfl : p = 2 := by omega
  have h5 := T.ktw
  rw [tw2] at h5
  obtain rfl : k = 0 := by omega
  simp at h
end Go.Proofs.YtocfenjampmdlabGreatDoor
