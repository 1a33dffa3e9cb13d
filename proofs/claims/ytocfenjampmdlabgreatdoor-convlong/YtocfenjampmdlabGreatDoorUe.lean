/- A region whose first four operations are moves that may come at any time, whose next ones only read, and whose others wait for all ahead of them but these moves. -/
/- Values by halves: what down leaves, in the landed tft. -/
import Derived.Test.YtocfenjampmdlabGreatDoorUd
import Derived.Deep.RegionHeld3
namespace Go.Proofs.YtocfenjampmdlabGreatDoor
section
variable {P : Program} {C : World → Prop} {Q : Exit → Act → World → Prop}

/-- does it wait for nothing? -/
def freeB (o : Oper) : Bool := o.after.all fun e => !Region.binds .any e
theorem freeB_said {o : Oper} (h : freeB o = true) : ∀ e ∈ o.after, Region.binds .any e = true → False := fun e he hb => by
  have := Array.all_eq_true_iff_forall_mem.1 h e he
  rw [hb] at this
  cases this
theorem wp_region_tail4 (n : Nat) {id : Nat} {a : Act} {w : World} {o0 o1 o2 o3 : Oper} {l : List Oper} (x0 x1 x2 x3 : Operand) (hx0 : o0.op = .move x0) (hx1 : o1.op = .move x1) (hx2 : o2.op = .move x2) (hx3 : o3.op = .move x3)
    (hg0 : o0.guard = none) (hg1 : o1.guard = none) (hg2 : o2.guard = none) (hg3 : o3.guard = none) (hQ0 : ∀ c a w v, Q (.panic c) (a.put o0.dst v) w → Q (.panic c) a w) (hQ1 : ∀ c a w v, Q (.panic c) (a.put o1.dst v) w → Q (.panic c) a w) (hQ2 : ∀ c a w v, Q (.panic c) (a.put o2.dst v) w → Q (.panic c) a w) (hQ3 : ∀ c a w v, Q (.panic c) (a.put o3.dst v) w → Q (.panic c) a w)
    (hm : P.follows .mixedOrders = true) (hs : Region.noSelect (o0 :: o1 :: o2 :: o3 :: l).toArray = true) (hs' : Region.noSelect (stillFrom (n + 4) (o0 :: o1 :: o2 :: o3 :: l)).toArray = true)
    (hf0 : Region.free .any (o0 :: o1 :: o2 :: o3 :: l).toArray (Array.replicate (l.length + 4) false) 0 = true) (hr0 : (Region.ready .any (o0 :: o1 :: o2 :: o3 :: l).toArray (Array.replicate (l.length + 4) false)).contains 0 = true)
    (hf1 : Region.free .any (o0 :: o1 :: o2 :: o3 :: l).toArray ((Array.replicate (l.length + 4) false).setIfInBounds 0 true) 1 = true) (hr1 : (Region.ready .any (o0 :: o1 :: o2 :: o3 :: l).toArray ((Array.replicate (l.length + 4) false).setIfInBounds 0 true)).contains 1 = true)
    (hf2 : Region.free .any (o0 :: o1 :: o2 :: o3 :: l).toArray (((Array.replicate (l.length + 4) false).setIfInBounds 0 true).setIfInBounds 1 true) 2 = true) (hr2 : (Region.ready .any (o0 :: o1 :: o2 :: o3 :: l).toArray (((Array.replicate (l.length + 4) false).setIfInBounds 0 true).setIfInBounds 1 true)).contains 2 = true)
    (hf3 : Region.free .any (o0 :: o1 :: o2 :: o3 :: l).toArray ((((Array.replicate (l.length + 4) false).setIfInBounds 0 true).setIfInBounds 1 true).setIfInBounds 2 true) 3 = true) (hr3 : (Region.ready .any (o0 :: o1 :: o2 :: o3 :: l).toArray ((((Array.replicate (l.length + 4) false).setIfInBounds 0 true).setIfInBounds 1 true).setIfInBounds 2 true)).contains 3 = true)
    (ha0 : freeB o0 = true) (ha1 : freeB o1 = true) (ha2 : freeB o2 = true) (ha3 : freeB o3 = true)
    (hB : Region.lexFrom .any (stillFrom (n + 4) (o0 :: o1 :: o2 :: o3 :: l)).toArray l.length 4 (((((Array.replicate (l.length + 4) false).setIfInBounds 0 true).setIfInBounds 1 true).setIfInBounds 2 true).setIfInBounds 3 true) = true) (hb : backB 0 (o0 :: o1 :: o2 :: o3 :: l) = true) (ht : tailB 4 (n + 4) (o0 :: o1 :: o2 :: o3 :: l) = true) (hn : n < l.length)
    (a1 a2 a3 a4 : Act) (e1 : a1 = a.put o0.dst (a.eval x0)) (e2 : a2 = a1.put o1.dst (a1.eval x1)) (e3 : a3 = a2.put o2.dst (a2.eval x2)) (e4 : a4 = a3.put o3.dst (a3.eval x3))
    (h : wpQuiet P (stillFrom (n + 4) (o0 :: o1 :: o2 :: o3 :: l)).toArray (fun w' => ∃ m, w' = w.drewN m) (fun a' => ∀ w', (∃ m, w' = w.drewN m) → wpList P (o0 :: o1 :: o2 :: o3 :: l).toArray Q (l.drop n) a' w') (stillFrom n l) a4) : (Code.region id (o0 :: o1 :: o2 :: o3 :: l).toArray true).wp P Q a w := by
  refine wp_region_any hm ?_
  show wpAny P .any (o0 :: o1 :: o2 :: o3 :: l).toArray Q (l.length + 4) (Array.replicate (l.length + 4) false) a _
  refine wpAny_take (i := 0) (oi := o0) (v := a.eval x0) rfl hs hf0 hr0 (fun c a w => hQ0 c a w _) (Or.inl ⟨by unfold Region.wanted; rw [hg0], fun w => BigFrame.run_move x0 hx0 w⟩) ?_
  rw [← e1]
  refine wpAny_take (i := 1) (oi := o1) (v := a1.eval x1) rfl hs hf1 hr1 (fun c a w => hQ1 c a w _) (Or.inl ⟨by unfold Region.wanted; rw [hg1], fun w => BigFrame.run_move x1 hx1 w⟩) ?_
  rw [← e2]
  refine wpAny_take (i := 2) (oi := o2) (v := a2.eval x2) rfl hs hf2 hr2 (fun c a w => hQ2 c a w _) (Or.inl ⟨by unfold Region.wanted; rw [hg2], fun w => BigFrame.run_move x2 hx2 w⟩) ?_
  rw [← e3]
  refine wpAny_take (i := 3) (oi := o3) (v := a3.eval x3) rfl hs hf3 hr3 (fun c a w => hQ3 c a w _) (Or.inl ⟨by unfold Region.wanted; rw [hg3], fun w => BigFrame.run_move x3 hx3 w⟩) ?_
  rw [← e4]
  have gd : ∀ j, 4 ≤ j → j < l.length + 4 → (((((Array.replicate (l.length + 4) false).setIfInBounds 0 true).setIfInBounds 1 true).setIfInBounds 2 true).setIfInBounds 3 true).getD j true = false := fun j h4 hj => by
    rw [getD_set_ne true (by omega), getD_set_ne true (by omega), getD_set_ne true (by omega), getD_set_ne true (by omega)]
    simp [Array.getD, hj]
  refine any_of_tail (C := fun w' => ∃ m, w' = w.drewN m) hb ht (by omega) (by simp; omega) _ _ _ _ ⟨1, rfl⟩ ?_ (by simp) (fun j hj _ => ?_) (fun j hj hj2 => ?_) ?_ ?_
  · intro j oj hoj hl e he hbe
    have hj : j < l.length + 4 := by simpa using (List.getElem?_eq_some_iff.1 hoj).1
    rcases (show j = 0 ∨ j = 1 ∨ j = 2 ∨ j = 3 ∨ 4 ≤ j by omega) with rfl | rfl | rfl | rfl | h4
    · obtain rfl : o0 = oj := by simpa using hoj
      exact (freeB_said ha0 e he hbe).elim
    · obtain rfl : o1 = oj := by simpa using hoj
      exact (freeB_said ha1 e he hbe).elim
    · obtain rfl : o2 = oj := by simpa using hoj
      exact (freeB_said ha2 e he hbe).elim
    · obtain rfl : o3 = oj := by simpa using hoj
      exact (freeB_said ha3 e he hbe).elim
    · rw [gd j h4 hj] at hl
      cases hl
  · rcases (show j = 0 ∨ j = 1 ∨ j = 2 ∨ j = 3 by omega) with rfl | rfl | rfl | rfl <;> simp [Array.getD]
  · exact gd j (by omega) (by simpa using hj2)
  · have u0 : (Array.replicate (l.length + 4) false).getD 0 true = false := by simp [Array.getD]
    have u1 : ((Array.replicate (l.length + 4) false).setIfInBounds 0 true).getD 1 true = false := by rw [getD_set_ne true (by omega)]; simp [Array.getD]
    have u2 : (((Array.replicate (l.length + 4) false).setIfInBounds 0 true).setIfInBounds 1 true).getD 2 true = false := by rw [getD_set_ne true (by omega), getD_set_ne true (by omega)]; simp [Array.getD]
    have u3 : ((((Array.replicate (l.length + 4) false).setIfInBounds 0 true).setIfInBounds 1 true).setIfInBounds 2 true).getD 3 true = false := by rw [getD_set_ne true (by omega), getD_set_ne true (by omega), getD_set_ne true (by omega)]; simp [Array.getD]
    have v0 := unl_set (n := (o0 :: o1 :: o2 :: o3 :: l).length) (i := 0) (by simp) u0
    have v1 := unl_set (n := (o0 :: o1 :: o2 :: o3 :: l).length) (i := 1) (by simp) u1
    have v2 := unl_set (n := (o0 :: o1 :: o2 :: o3 :: l).length) (i := 2) (by simp) u2
    have v3 := unl_set (n := (o0 :: o1 :: o2 :: o3 :: l).length) (i := 3) (by simp) u3
    have v4 : unl (o0 :: o1 :: o2 :: o3 :: l).length (Array.replicate (l.length + 4) false) ≤ l.length + 4 := by
      unfold unl
      exact Nat.le_trans (List.length_filter_le _ _) (by simp)
    omega
  · have := wpAnyQ_lex (P := P) (C := fun w' => ∃ m, w' = w.drewN m) (md := .any) hs' (stillFrom n l) 4 (((((Array.replicate (l.length + 4) false).setIfInBounds 0 true).setIfInBounds 1 true).setIfInBounds 2 true).setIfInBounds 3 true) a4 (fun j => by
      simp only [stillFrom, List.getElem?_toArray]
      rw [Nat.add_comm 4 j]
      rfl) (by rw [stillFrom_len]; exact hB) h
    rw [stillFrom_len] at this
    exact this
end
end Go.Proofs.YtocfenjampmdlabGreatDoor
namespace Go.Proofs.YtocfenjampmdlabGreatDoor
open Go.RowKit Num Nmb

/-- a plan, and a block's row of words below the modulus, apart from it. -/
structure EnvT (w : World) (g gf gm gl p k r h N : Nat) (f s : Int) (X : Nat → Int) : Prop where
  pln : PlnF w g gf gm p k r h f s
  row : Row w gl N X
  bnd : ∀ j, j < N → 0 ≤ X j ∧ X j < p
  d : g ≠ gl ∧ gf ≠ gl ∧ gm ≠ gl
theorem EnvT.drew {w : World} {g gf gm gl p k r h N : Nat} {f s : Int} {X : Nat → Int} (E : EnvT w g gf gm gl p k r h N f s X) (n : Nat) : EnvT (w.drewN n) g gf gm gl p k r h N f s X :=
  ⟨E.pln.drew n, E.row.drew n, E.bnd, E.d⟩
theorem PlnF.other {w : World} {b g gf gm p k r h : Nat} {f s : Int} (T : PlnF w g gf gm p k r h f s) (hB : g ≠ b ∧ gf ≠ b ∧ gm ≠ b) (i : Nat) (v : Value) : PlnF (w.setCell ⟨b, i, none⟩ v) g gf gm p k r h f s :=
  T.only ((OnlyB.refl b w).set i v) hB
theorem EnvT.set {w : World} {g gf gm gl p k r h N : Nat} {f s : Int} {X Y : Nat → Int} (E : EnvT w g gf gm gl p k r h N f s X) (i : Nat) (v : Int) (hv : 0 ≤ v ∧ v < p) (e : ∀ j, j < N → Y j = if j = i then v else X j) : EnvT (w.setCell ⟨gl, i, none⟩ (.int .u64 v)) g gf gm gl p k r h N f s Y :=
  ⟨E.pln.other E.d _ _, E.row.set i v e, fun j hj => by
    rw [e j hj]
    by_cases ej : j = i
    · rw [if_pos ej]; exact hv
    · rw [if_neg ej]; exact E.bnd j hj, E.d⟩
theorem EnvT.eq {w : World} {g gf gm gl p k r h N : Nat} {f s : Int} {X Y : Nat → Int} (E : EnvT w g gf gm gl p k r h N f s X) (e : ∀ j, j < N → X j = Y j) : EnvT w g gf gm gl p k r h N f s Y :=
  ⟨E.pln, E.row.eq e, fun j hj => by rw [← e j hj]; exact E.bnd j hj, E.d⟩
/-- the first i pairs of a block's halves, made sum and difference. -/
def dwn (X : Nat → Int) (p : Nat) (c : Int) (off H i j : Nat) : Int :=
  if off ≤ j ∧ j < off + i then (X j + X (j + H) * c % p) % p else if off + H ≤ j ∧ j < off + H + i then (X (j - H) - X j * c % p) % p else X j
theorem dwn_at {X : Nat → Int} {p : Nat} {c : Int} {off H i : Nat} (hi : i < H) : dwn X p c off H i (off + i) = X (off + i) ∧ dwn X p c off H i (off + H + i) = X (off + H + i) := by
  unfold dwn
  exact ⟨by rw [if_neg (by omega), if_neg (by omega)], by rw [if_neg (by omega), if_neg (by omega)]⟩
theorem dwn_step {X : Nat → Int} {p : Nat} {c : Int} {off H i : Nat} (hi : i < H) (j : Nat) :
    dwn X p c off H (i + 1) j = if j = off + H + i then (X (off + i) - X (off + H + i) * c % p) % p else if j = off + i then (X (off + i) + X (off + H + i) * c % p) % p else dwn X p c off H i j := by
  unfold dwn
  by_cases h1 : j = off + H + i
  · subst h1
    rw [if_neg (by omega), if_pos (by omega), if_pos rfl, show off + H + i - H = off + i by omega]
  · rw [if_neg h1]
    by_cases h2 : j = off + i
    · subst h2
      rw [if_pos (by omega), if_pos rfl, show off + i + H = off + H + i by omega]
    · rw [if_neg h2]
      by_cases h3 : off ≤ j ∧ j < off + i
      · rw [if_pos h3, if_pos (by omega)]
      · rw [if_neg h3, if_neg (by omega)]
        by_cases h4 : off + H ≤ j ∧ j < off + H + i
        · rw [if_pos h4, if_pos (by omega)]
        · rw [if_neg h4, if_neg (by omega)]
theorem dwn_zero {X : Nat → Int} {p : Nat} {c : Int} {off H : Nat} (j : Nat) : dwn X p c off H 0 j = X j := by
  unfold dwn
  rw [if_neg (by omega), if_neg (by omega)]
set_option maxHeartbeats 800000 in
theorem down_none (g gl off L b n : Nat) (w : World) (h : n = 0 ∨ L = 1) :
    Calls Tryz.prog 59 #[.pointer (some ⟨g, 0, none⟩), .slice (some ⟨gl, off, none⟩) L L, .int .i64 b, .int .i64 n] w fun e w' => e = .returned (.tuple #[]) ∧ w' = w := by
  by_cases n0 : n = 0
  · subst n0
    go_enter Tryz.func59, Tryz.ntmps59
    go_wp2
    (try simp only [Exit.inBlock, Exit.then])
    refine bodyPost_ret (results_none rfl _ _ _) rfl ?_
    exact ⟨rfl, rfl⟩
  · obtain rfl : L = 1 := by omega
    have n0' : ((n : Int) == 0) = false := beq_eq_false_iff_ne.2 (by omega)
    go_enter Tryz.func59, Tryz.ntmps59
    go_wp2
    (try simp only [Exit.inBlock, Exit.then])
    refine bodyPost_ret (results_none rfl _ _ _) rfl ?_
    exact ⟨rfl, rfl⟩
/-- what down promises of blocks of 2 to the mth numbers. -/
def DownIs (g gf gm gl p k r h N : Nat) (f s : Int) (m H : Nat) : Prop :=
  ∀ (b n off : Nat) (X : Nat → Int) (w : World), EnvT w g gf gm gl p k r h N f s X → off + H ≤ N → b < 2 ^ (k - m) → n ≤ H →
    Calls Tryz.prog 59 #[.pointer (some ⟨g, 0, none⟩), .slice (some ⟨gl, off, none⟩) H H, .int .i64 b, .int .i64 n] w fun e w' =>
      e = .returned (.tuple #[]) ∧ ∃ Y, EnvT w' g gf gm gl p k r h N f s Y ∧ OnlyB gl w w' ∧ (∀ j, j < N → (j < off ∨ off + H ≤ j) → Y j = X j) ∧ ∀ i, i < n → Cg p (Y (off + i)) (lf r k m b (fun j => X (off + j)) i)
set_option maxHeartbeats 800000 in
set_option maxRecDepth 100000 in
theorem down_step {g gf gm gl p k r h N : Nat} {f s : Int} (OK : Ok p f s) (TO : TabOk p k r) (hh : h = 2 ^ k / 2) (hN : N ≤ 1048576) (m H : Nat) (hm : m + 1 ≤ k) (hH : H = 2 ^ m) (IH : DownIs g gf gm gl p k r h N f s m H) : DownIs g gf gm gl p k r h N f s (m + 1) (2 * H) := by
  intro b n off X w E hoff hb hn
  have H0 : 0 < H := by rw [hH]; exact Nat.two_pow_pos m
  by_cases n0 : n = 0
  · subst n0
    refine (down_none g gl off (2 * H) b 0 w (Or.inl rfl)).mono ?_
    rintro e w' ⟨rfl, rfl⟩
    exact ⟨rfl, X, E, OnlyB.refl _ _, fun _ _ _ => rfl, fun i hi => absurd hi (by omega)⟩
  have k0 : 0 < k := by omega
  have ho := TO.odd k0
  have p2 := TO.pri.1
  have kk : 2 * 2 ^ (k - (m + 1)) = 2 ^ (k - m) := by
    rw [show k - m = k - (m + 1) + 1 by omega, Nat.pow_succ]
    omega
  have hb1 : 2 * b < 2 ^ (k - m) := by omega
  have hb2 : 2 * b + 1 < 2 ^ (k - m) := by omega
  have hbh : b < h := by
    have h1 : 2 ^ (k - m) ≤ 2 ^ k := Nat.pow_le_pow_right (by decide) (by omega)
    omega
  have hc : nd r k (k - m) (2 * b) = pt r k b := nd_pt _ (by omega) hb1
  have h20 : h ≤ 1048576 := by
    have : 2 ^ k ≤ 2 ^ 20 := Nat.pow_le_pow_right (by decide) TO.k20
    omega
  have fv := fmp_nn (p := p) (r := r) (k := k) (b := b) (by omega)
  have fz := fmp_pt (p := p) (r := r) (b := b) k0
  obtain ⟨c, hcd⟩ : ∃ c, c = pt r k b := ⟨_, rfl⟩
  rw [← hcd] at hc fz
  have HV := hid (halves_any gl off H w H0 (by omega))
  have TM : Hid (∀ W X i, EnvT W g gf gm gl p k r h N f s X → i < N → Calls Tryz.prog 68 #[.pointer (some ⟨gf, 0, none⟩), .int .u64 (X i), .int .u64 (fmp p r k b)] W fun e w' => e = .returned (.tuple #[.int .u64 (X i * c % p), .int .i64 0]) ∧ ∃ k, w' = W.drewN k) :=
    fun W X i E hi => times_form gf p f s (X i) (fmp p r k b) c W E.pln.fld OK (E.bnd i hi).1 fv.1 ho fz
  have AD : Hid (∀ W X x y, EnvT W g gf gm gl p k r h N f s X → 0 ≤ x → 0 ≤ y → Calls Tryz.prog 85 #[.pointer (some ⟨gf, 0, none⟩), .int .u64 x, .int .u64 y] W fun e w' => e = .returned (.int .u64 ((x + y) % p)) ∧ ∃ k, w' = W.drewN k) :=
    fun W X x y E hx hy => add_q gf p f s x y W E.pln.fld OK hx hy
  have SU : Hid (∀ W X x y, EnvT W g gf gm gl p k r h N f s X → 0 ≤ x → 0 ≤ y → Calls Tryz.prog 69 #[.pointer (some ⟨gf, 0, none⟩), .int .u64 x, .int .u64 y] W fun e w' => e = .returned (.int .u64 ((x - y) % p)) ∧ ∃ k, w' = W.drewN k) :=
    fun W X x y E hx hy => sub_q gf p f s x y W E.pln.fld OK hx hy
  have c3 : Hid (∀ W X, EnvT W g gf gm gl p k r h N f s X → W.cell? ⟨g, 3, none⟩ = some (.slice (some ⟨gm, 0, none⟩) h h) ∧ W.cell? ⟨gm, b, none⟩ = some (.int .u64 (fmp p r k b))) := fun W X E => ⟨E.pln.tc.cell3, E.pln.row.cell hbh⟩
  have FIN : Hid (∀ (w' : World) (Y1 Y2 : Nat → Int), (∀ j, j < N → (j < off ∨ off + H ≤ j) → Y1 j = dwn X p c off H H j) → (∀ i, i < min n H → Cg p (Y1 (off + i)) (lf r k m (2 * b) (fun j => dwn X p c off H H (off + j)) i)) →
      (∀ j, j < N → (j < off + H ∨ off + H + H ≤ j) → Y2 j = Y1 j) → (∀ i, i < n - H → Cg p (Y2 (off + H + i)) (lf r k m (2 * b + 1) (fun j => Y1 (off + H + j)) i)) → EnvT w' g gf gm gl p k r h N f s Y2 → OnlyB gl w w' →
      ∃ Y, EnvT w' g gf gm gl p k r h N f s Y ∧ OnlyB gl w w' ∧ (∀ j, j < N → (j < off ∨ off + 2 * H ≤ j) → Y j = X j) ∧ ∀ i, i < n → Cg p (Y (off + i)) (lf r k (m + 1) b (fun j => X (off + j)) i)) := by
    intro w' Y1 Y2 a1 a2 b1 b2 E2 O2
    refine ⟨Y2, E2, O2, fun j hj hr => ?_, fun i hi => ?_⟩
    · rw [b1 j hj (by omega), a1 j hj (by omega)]
      unfold dwn
      rw [if_neg (by omega), if_neg (by omega)]
    · show Cg p (Y2 (off + i)) (if i < 2 ^ m then _ else _)
      rw [← hH, hc]
      by_cases hl : i < H
      · rw [if_pos hl, b1 (off + i) (by omega) (by omega)]
        refine (a2 i (by omega)).trans (lf_cg m _ _ _ i (fun j hj => ?_) (by omega))
        show Cg p (dwn X p c off H H (off + j)) (X (off + j) + c * X (off + (j + H)))
        unfold dwn
        rw [if_pos (by omega), show off + j + H = off + (j + H) by omega, Int.mul_comm c]
        exact Cg.mod.trans (Cg.rfl.add Cg.mod)
      · rw [if_neg hl]
        have := b2 (i - H) (by omega)
        rw [show off + H + (i - H) = off + i by omega] at this
        refine this.trans (lf_cg m _ _ _ (i - H) (fun j hj => ?_) (by omega))
        show Cg p (Y1 (off + H + j)) (X (off + j) - c * X (off + (j + H)))
        rw [a1 (off + H + j) (by omega) (by omega)]
        unfold dwn
        rw [if_neg (by omega), if_pos (by omega), show off + H + j - H = off + j by omega, show off + H + j = off + (j + H) by omega, Int.mul_comm c]
        exact Cg.mod.trans (Cg.rfl.sub Cg.mod)
  have EE := hid E
  have HIH := hid IH
  have n0' : ((n : Int) == 0) = false := beq_eq_false_iff_ne.2 (by omega)
  obtain ⟨D, hD⟩ : ∃ D, D = 2 * H := ⟨_, rfl⟩
  obtain ⟨b2, hb2e⟩ : ∃ b2, b2 = 2 * b := ⟨_, rfl⟩
  obtain ⟨b3, hb3e⟩ : ∃ b3, b3 = 2 * b + 1 := ⟨_, rfl⟩
  have q1 : ((D : Int) == 1) = false := beq_eq_false_iff_ne.2 (by omega)
  have hbh' : (b : Int) < (h : Int) := by omega
  have w1 : IntKind.i64.wrap (b2 : Int) = (b2 : Int) := by rw [IntKind.wrap_i64]; omega
  have w2 : IntKind.i64.wrap (b3 : Int) = (b3 : Int) := by rw [IntKind.wrap_i64]; omega
  have c2b : 2 * (b : Int) = (b2 : Int) := by omega
  have c2c : (b2 : Int) + 1 = (b3 : Int) := by omega
  rw [← hb3e, ← hb2e, ← hD] at FIN
  rw [← hb2e] at hb1
  rw [← hb3e] at hb2
  rw [← hD] at HV hoff hn ⊢
  have HD := hid hD
  have H20 : H ≤ 1048576 := by omega
  clear E IH hb kk fv fz hcd hc hb2e hb3e hH hh hD
  generalize fmp p r k b = v at *
  go_enter Tryz.func59, Tryz.ntmps59
  go_wp2_with fail
  refine HV.out.mono ?_
  rintro e w3 ⟨rfl, q, rfl⟩
  have E1 := hid (EE.out.drew q)
  have O1 := hid ((OnlyB.refl gl w).drew q)
  have cc := c3.out _ _ E1.out
  obtain ⟨cc3, ccb⟩ := cc
  clear HV
  generalize w.drewN q = w1 at *
  go_wp2
  go_loopw [35] (fun iv wr => ∃ (i : Nat), iv = .int .i64 i ∧ i ≤ H ∧ Hid (EnvT wr g gf gm gl p k r h N f s (dwn X p c off H i)) ∧ Hid (OnlyB gl w wr)) (fun iv _ => ((H : Int) - intOf iv).toNat)
  case atStart => exact ⟨0, rfl, Nat.zero_le _, E1.out.eq (fun j _ => (dwn_zero j).symm), O1.out⟩
  case round =>
    obtain ⟨i, rfl, hi, Ei, Oi⟩ := hrel
    have hD := HD.out
    by_cases him : i = H
    · have him' : ¬ (i : Int) < (H : Int) := by omega
      obtain rfl := him
      have I1 := hid (HIH.out b2 (min n i) off _ wr Ei.out (by omega) hb1 (by omega))
      have mn : min (n : Int) (i : Int) = ((min n i : Nat) : Int) := by omega
      have HM := hid mn
      have mx : max ((n : Int) - (i : Int)) 0 = ((n - i : Nat) : Int) := by omega
      have HX := hid mx
      have z1 : off + i + i ≤ N := by omega
      have z2 : n - i ≤ i := by omega
      clear mn mx TM AD SU c3 cc3 ccb EE E1 O1 HD hD
      go_wp2_with fail
      rw [HM.out]
      refine I1.out.mono ?_
      rintro e w4 ⟨rfl, Y1, E4, O4, a1, a2⟩
      have I2 := hid (HIH.out b3 (n - i) (off + i) _ w4 E4 z1 hb2 z2)
      have O5 := hid (Oi.out.trans O4)
      have F2 := hid (fun w' Y2 => FIN.out w' Y1 Y2 a1 a2)
      clear I1 HM E4 O4 a1 a2 Ei Oi HIH FIN
      go_wp2_with fail
      rw [HX.out]
      refine I2.out.mono ?_
      rintro e w5 ⟨rfl, Y2, E5, O6, b1, b2⟩
      have F3 := hid (F2.out w5 Y2 b1 b2 E5 (O5.out.trans O6))
      clear I2 E5 O6 b1 b2 F2 HX O5
      go_wp2
      go_end0
      exact ⟨rfl, F3.out⟩
    · have him' : (i : Int) < (H : Int) := by omega
      have hiH : i < H := by omega
      have cf := Ei.out.pln.tc.cell0
      have cl := Ei.out.row.cell (i := off + i) (by omega)
      have ch := Ei.out.row.cell (i := off + H + i) (by omega)
      have fl := Ei.out.row.frozen (off + i)
      have fh := Ei.out.row.frozen (off + H + i)
      have T1 := hid (fun q => TM.out _ _ (off + H + i) (Ei.out.drew q) (by omega))
      obtain ⟨d1, d2⟩ := dwn_at (X := X) (p := p) (c := c) (off := off) hiH
      rw [d1] at cl
      rw [d2] at ch T1
      have X0 := Ei.out.bnd (off + i) (by omega)
      rw [d1] at X0
      have t0 := Int.emod_nonneg (X (off + H + i) * c) (show (p : Int) ≠ 0 by omega)
      have v1b : 0 ≤ (X (off + i) + X (off + H + i) * c % p) % p ∧ (X (off + i) + X (off + H + i) * c % p) % p < p := ⟨Int.emod_nonneg _ (by omega), Int.emod_lt_of_pos _ (by omega)⟩
      have v2b : 0 ≤ (X (off + i) - X (off + H + i) * c % p) % p ∧ (X (off + i) - X (off + H + i) * c % p) % p < p := ⟨Int.emod_nonneg _ (by omega), Int.emod_lt_of_pos _ (by omega)⟩
      have A1 := hid (fun W E => AD.out W (dwn X p c off H i) (X (off + i)) (X (off + H + i) * c % p) E X0.1 t0)
      have S1 := hid (fun W E => SU.out W (dwn X p c off H i) (X (off + i)) (X (off + H + i) * c % p) E X0.1 t0)
      have FI : Hid (∀ W : World, EnvT W g gf gm gl p k r h N f s (dwn X p c off H i) → OnlyB gl w W → EnvT ((W.setCell ⟨gl, off + i, none⟩ (.int .u64 ((X (off + i) + X (off + H + i) * c % p) % p))).setCell ⟨gl, off + H + i, none⟩ (.int .u64 ((X (off + i) - X (off + H + i) * c % p) % p))) g gf gm gl p k r h N f s (dwn X p c off H (i + 1)) ∧
          OnlyB gl w ((W.setCell ⟨gl, off + i, none⟩ (.int .u64 ((X (off + i) + X (off + H + i) * c % p) % p))).setCell ⟨gl, off + H + i, none⟩ (.int .u64 ((X (off + i) - X (off + H + i) * c % p) % p)))) := by
        intro W E O
        refine ⟨(E.set (off + i) _ v1b (fun j _ => rfl)).set (off + H + i) _ v2b (fun j _ => ?_), (O.set _ _).set _ _⟩
        rw [dwn_step hiH j]
      have dg := EE.out.d.1
      clear v1b v2b t0 X0 d1 d2 EE cc3 ccb c3 HIH FIN TM AD SU hD HD E1 O1
      generalize X (off + H + i) * c % (p : Int) = t at *
      generalize (X (off + i) + t) % (p : Int) = v1 at *
      generalize (X (off + i) - t) % (p : Int) = v2 at *
      go_wp2_with fail
      go_quiet ((go_at_call 68; exact Calls.quiet_of (T1.out _)))
      rename_i nq
      have E2 := hid (Ei.out.drew nq)
      have O2 := hid (Oi.out.drew nq)
      have cf' : (wr.drewN nq).cell? ⟨g, 0, none⟩ = some (.pointer (some ⟨gf, 0, none⟩)) := by simpa using cf
      have cl' : (wr.drewN nq).cell? ⟨gl, off + i, none⟩ = some (.int .u64 (X (off + i))) := by simpa using cl
      have ch' : (wr.drewN nq).cell? ⟨gl, off + H + i, none⟩ = some (.int .u64 (X (off + H + i))) := by simpa using ch
      have fl' : (wr.drewN nq).frozen? ⟨gl, off + i, none⟩ = false := by simpa using fl
      have fh' : (wr.drewN nq).frozen? ⟨gl, off + H + i, none⟩ = false := by simpa using fh
      clear cf cl ch fl fh T1 Ei Oi
      generalize wr.drewN nq = w2 at *
      have A2 := hid (fun q => A1.out _ (E2.out.drew q))
      have S2 := hid (fun q => S1.out _ (E2.out.drew q))
      go_wp2_with fail
      refine wp_region_tail4 20 (.tmp 8) (.tmp 11) (.tmp 9) (.tmp 11) rfl rfl rfl rfl rfl rfl rfl rfl (fun _ _ _ _ h => h) (fun _ _ _ _ h => h) (fun _ _ _ _ h => h) (fun _ _ _ _ h => h) (by kernel_rfl) (by kernel_rfl) (by kernel_rfl) (by kernel_rfl) (by kernel_rfl) (by kernel_rfl) (by kernel_rfl) (by kernel_rfl) (by kernel_rfl) (by kernel_rfl) (by kernel_rfl) (by kernel_rfl) (by kernel_rfl) (by kernel_rfl) (by kernel_rfl) (by kernel_rfl) (by kernel_rfl) (by kernel_rfl) (by decide) _ _ _ _ rfl rfl rfl rfl ?_
      simp only [stillFrom, still, List.map, List.drop]
      go_simp
      repeat (quiet_step (first
        | (go_at_call 85; exact Calls.quiet_of (A2.out _))
        | (go_at_call 69; exact Calls.quiet_of (S2.out _))))
      refine wpQuiet_nil ?_
      intro nq2
      have F2 := hid (FI.out _ (E2.out.drew nq2) (O2.out.drew nq2))
      have cl2 : (w2.drewN nq2).cell? ⟨gl, off + i, none⟩ = some (.int .u64 (X (off + i))) := by simpa using cl'
      have ch2 : (w2.drewN nq2).cell? ⟨gl, off + H + i, none⟩ = some (.int .u64 (X (off + H + i))) := by simpa using ch'
      have fl2 : (w2.drewN nq2).frozen? ⟨gl, off + i, none⟩ = false := by simpa using fl'
      have fh2 : (w2.drewN nq2).frozen? ⟨gl, off + H + i, none⟩ = false := by simpa using fh'
      clear A1 S1 A2 S2 E2 O2 FI cl' ch' fl' fh' cf'
      generalize w2.drewN nq2 = w3 at *
      go_wp2
      exact ⟨⟨i + 1, rfl, by omega, F2.out.1, F2.out.2⟩, by simp only [intOf]; omega⟩
theorem down_any {g gf gm gl p k r h N : Nat} {f s : Int} (OK : Ok p f s) (TO : TabOk p k r) (hh : h = 2 ^ k / 2) (hN : N ≤ 1048576) : ∀ m, m ≤ k → DownIs g gf gm gl p k r h N f s m (2 ^ m)
  | 0, _ => by
    intro b n off X w E hoff hb hn
    refine (down_none g gl off (2 ^ 0) b n w (Or.inr rfl)).mono ?_
    rintro e w' ⟨rfl, rfl⟩
    refine ⟨rfl, X, E, OnlyB.refl _ _, fun _ _ _ => rfl, fun i hi => ?_⟩
    obtain rfl : i = 0 := by rw [Nat.pow_zero] at hn; omega
    exact Cg.rfl
  | m + 1, hm => by
    rw [Nat.pow_succ, Nat.mul_comm]
    exact down_step OK TO hh hN m (2 ^ m) hm rfl (down_any OK TO hh hN m (by omega))
end Go.Proofs.YtocfenjampmdlabGreatDoor
