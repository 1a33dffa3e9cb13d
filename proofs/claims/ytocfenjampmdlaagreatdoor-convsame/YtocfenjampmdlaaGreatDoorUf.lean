/- Values by halves: what down leaves, in the landed tft. -/
/- The way back where no value is one of the higher half's: what upByLow leaves, in the landed tft. -/
import Derived.Test.YtocfenjampmdlaaGreatDoorRgu
import Derived.Deep.RegionHeld3
import Derived.Test.YtocfenjampmdlaaGreatDoorVo
namespace Go.Proofs.YtocfenjampmdlaaGreatDoor
open Go.RowKit Num Nmb

/-- a plan, and a block's row of words below the modulus, apart from it. -/
structure EnvT (w : World) (g gf gm gl p k r h N : Nat) (f s : Int) (X : Nat → Int) : Prop where
  pln : PlnF w g gf gm p k r h f s
  row : Row w gl N X
  bnd : ∀ j, j < N → 0 ≤ X j ∧ X j < p
  d : g ≠ gl ∧ gf ≠ gl ∧ gm ≠ gl
theorem EnvT.drew {w : World} {g gf gm gl p k r h N : Nat} {f s : Int} {X : Nat → Int} (E : EnvT w g gf gm gl p k r h N f s X) (n : Nat) : EnvT (w.drewN n) g gf gm gl p k r h N f s X :=
  ⟨E.pln.drew n, E.row.drew n, E.bnd, E.d⟩
theorem PlnF.other {w : World} {b g gf gm p k r h : Nat} {f s : Int} (T : PlnF w g gf gm p k r h f s) (hB : g ≠ b ∧ gf ≠ b ∧ gm ≠ b) (i : Nat) (v : Value) : PlnF (w.setCell ⟨b, i, none⟩ v) g gf gm p k r h f s :=
  T.only ((OnlyB.refl b w).set i v) hB
theorem EnvT.set {w : World} {g gf gm gl p k r h N : Nat} {f s : Int} {X Y : Nat → Int} (E : EnvT w g gf gm gl p k r h N f s X) (i : Nat) (v : Int) (hv : 0 ≤ v ∧ v < p) (e : ∀ j, j < N → Y j = if j = i then v else X j) : EnvT (w.setCell ⟨gl, i, none⟩ (.int .u64 v)) g gf gm gl p k r h N f s Y :=
  ⟨E.pln.other E.d _ _, E.row.set i v e, fun j hj => by
    rw [e j hj]
    by_cases ej : j = i
    · rw [if_pos ej]; exact hv
    · rw [if_neg ej]; exact E.bnd j hj, E.d⟩
theorem EnvT.eq {w : World} {g gf gm gl p k r h N : Nat} {f s : Int} {X Y : Nat → Int} (E : EnvT w g gf gm gl p k r h N f s X) (e : ∀ j, j < N → X j = Y j) : EnvT w g gf gm gl p k r h N f s Y :=
  ⟨E.pln, E.row.eq e, fun j hj => by rw [← e j hj]; exact E.bnd j hj, E.d⟩
/-- the first i pairs of a block's halves, made sum and difference. -/
def dwn (X : Nat → Int) (p : Nat) (c : Int) (off H i j : Nat) : Int :=
  if off ≤ j ∧ j < off + i then (X j + X (j + H) * c % p) % p else if off + H ≤ j ∧ j < off + H + i then (X (j - H) - X j * c % p) % p else X j
theorem dwn_at {X : Nat → Int} {p : Nat} {c : Int} {off H i : Nat} (hi : i < H) : dwn X p c off H i (off + i) = X (off + i) ∧ dwn X p c off H i (off + H + i) = X (off + H + i) := by
  unfold dwn
  exact ⟨by rw [if_neg (by omega), if_neg (by omega)], by rw [if_neg (by omega), if_neg (by omega)]⟩
theorem dwn_step {X : Nat → Int} {p : Nat} {c : Int} {off H i : Nat} (hi : i < H) (j : Nat) :
    dwn X p c off H (i + 1) j = if j = off + H + i then (X (off + i) - X (off + H + i) * c % p) % p else if j = off + i then (X (off + i) + X (off + H + i) * c % p) % p else dwn X p c off H i j := by
  unfold dwn
  by_cases h1 : j = off + H + i
  · subst h1
    rw [if_neg (by omega), if_pos (by omega), if_pos rfl, show off + H + i - H = off + i by omega]
  · rw [if_neg h1]
    by_cases h2 : j = off + i
    · subst h2
      rw [if_pos (by omega), if_pos rfl, show off + i + H = off + H + i by omega]
    · rw [if_neg h2]
      by_cases h3 : off ≤ j ∧ j < off + i
      · rw [if_pos h3, if_pos (by omega)]
      · rw [if_neg h3, if_neg (by omega)]
        by_cases h4 : off + H ≤ j ∧ j < off + H + i
        · rw [if_pos h4, if_pos (by omega)]
        · rw [if_neg h4, if_neg (by omega)]
theorem dwn_zero {X : Nat → Int} {p : Nat} {c : Int} {off H : Nat} (j : Nat) : dwn X p c off H 0 j = X j := by
  unfold dwn
  rw [if_neg (by omega), if_neg (by omega)]
set_option maxHeartbeats 800000 in
theorem down_none (g gl off L b n : Nat) (w : World) (h : n = 0 ∨ L = 1) :
    Calls Tryz.prog 86 #[.pointer (some ⟨g, 0, none⟩), .slice (some ⟨gl, off, none⟩) L L, .int .i64 b, .int .i64 n] w fun e w' => e = .returned (.tuple #[]) ∧ w' = w := by
  by_cases n0 : n = 0
  · subst n0
    go_enter Tryz.func86, Tryz.ntmps86
    go_wp2
    (try simp only [Exit.inBlock, Exit.then])
    refine bodyPost_ret (results_none rfl _ _ _) rfl ?_
    exact ⟨rfl, rfl⟩
  · obtain rfl : L = 1 := by omega
    have n0' : ((n : Int) == 0) = false := beq_eq_false_iff_ne.2 (by omega)
    go_enter Tryz.func86, Tryz.ntmps86
    go_wp2
    (try simp only [Exit.inBlock, Exit.then])
    refine bodyPost_ret (results_none rfl _ _ _) rfl ?_
    exact ⟨rfl, rfl⟩
/-- what down promises of blocks of 2 to the mth numbers. -/
def DownIs (g gf gm gl p k r h N : Nat) (f s : Int) (m H : Nat) : Prop :=
  ∀ (b n off : Nat) (X : Nat → Int) (w : World), EnvT w g gf gm gl p k r h N f s X → off + H ≤ N → b < 2 ^ (k - m) → n ≤ H →
    Calls Tryz.prog 86 #[.pointer (some ⟨g, 0, none⟩), .slice (some ⟨gl, off, none⟩) H H, .int .i64 b, .int .i64 n] w fun e w' =>
      e = .returned (.tuple #[]) ∧ ∃ Y, EnvT w' g gf gm gl p k r h N f s Y ∧ OnlyB gl w w' ∧ (∀ j, j < N → (j < off ∨ off + H ≤ j) → Y j = X j) ∧ ∀ i, i < n → Cg p (Y (off + i)) (lf r k m b (fun j => X (off + j)) i)
set_option maxHeartbeats 800000 in
set_option maxRecDepth 100000 in
theorem down_step {g gf gm gl p k r h N : Nat} {f s : Int} (OK : Ok p f s) (TO : TabOk p k r) (hh : h = 2 ^ k / 2) (hN : N ≤ 1048576) (m H : Nat) (hm : m + 1 ≤ k) (hH : H = 2 ^ m) (IH : DownIs g gf gm gl p k r h N f s m H) : DownIs g gf gm gl p k r h N f s (m + 1) (2 * H) := by
  intro b n off X w E hoff hb hn
  have H0 : 0 < H := by rw [hH]; exact Nat.two_pow_pos m
  by_cases n0 : n = 0
  · subst n0
    refine (down_none g gl off (2 * H) b 0 w (Or.inl rfl)).mono ?_
    rintro e w' ⟨rfl, rfl⟩
    exact ⟨rfl, X, E, OnlyB.refl _ _, fun _ _ _ => rfl, fun i hi => absurd hi (by omega)⟩
  have k0 : 0 < k := by omega
  have ho := TO.odd k0
  have p2 := TO.pri.1
  have kk : 2 * 2 ^ (k - (m + 1)) = 2 ^ (k - m) := by
    rw [show k - m = k - (m + 1) + 1 by omega, Nat.pow_succ]
    omega
  have hb1 : 2 * b < 2 ^ (k - m) := by omega
  have hb2 : 2 * b + 1 < 2 ^ (k - m) := by omega
  have hbh : b < h := by
    have h1 : 2 ^ (k - m) ≤ 2 ^ k := Nat.pow_le_pow_right (by decide) (by omega)
    omega
  have hc : nd r k (k - m) (2 * b) = pt r k b := nd_pt _ (by omega) hb1
  have h20 : h ≤ 1048576 := by
    have : 2 ^ k ≤ 2 ^ 20 := Nat.pow_le_pow_right (by decide) TO.k20
    omega
  have fv := fmp_nn (p := p) (r := r) (k := k) (b := b) (by omega)
  have fz := fmp_pt (p := p) (r := r) (b := b) k0
  obtain ⟨c, hcd⟩ : ∃ c, c = pt r k b := ⟨_, rfl⟩
  rw [← hcd] at hc fz
  have HV := hid (halves_any gl off H w H0 (by omega))
  have TM : Hid (∀ W X i, EnvT W g gf gm gl p k r h N f s X → i < N → Calls Tryz.prog 95 #[.pointer (some ⟨gf, 0, none⟩), .int .u64 (X i), .int .u64 (fmp p r k b)] W fun e w' => e = .returned (.tuple #[.int .u64 (X i * c % p), .int .i64 0]) ∧ ∃ k, w' = W.drewN k) :=
    fun W X i E hi => times_form gf p f s (X i) (fmp p r k b) c W E.pln.fld OK (E.bnd i hi).1 fv.1 ho fz
  have AD : Hid (∀ W X x y, EnvT W g gf gm gl p k r h N f s X → 0 ≤ x → 0 ≤ y → Calls Tryz.prog 112 #[.pointer (some ⟨gf, 0, none⟩), .int .u64 x, .int .u64 y] W fun e w' => e = .returned (.int .u64 ((x + y) % p)) ∧ ∃ k, w' = W.drewN k) :=
    fun W X x y E hx hy => add_q gf p f s x y W E.pln.fld OK hx hy
  have SU : Hid (∀ W X x y, EnvT W g gf gm gl p k r h N f s X → 0 ≤ x → 0 ≤ y → Calls Tryz.prog 96 #[.pointer (some ⟨gf, 0, none⟩), .int .u64 x, .int .u64 y] W fun e w' => e = .returned (.int .u64 ((x - y) % p)) ∧ ∃ k, w' = W.drewN k) :=
    fun W X x y E hx hy => sub_q gf p f s x y W E.pln.fld OK hx hy
  have c3 : Hid (∀ W X, EnvT W g gf gm gl p k r h N f s X → W.cell? ⟨g, 3, none⟩ = some (.slice (some ⟨gm, 0, none⟩) h h) ∧ W.cell? ⟨gm, b, none⟩ = some (.int .u64 (fmp p r k b))) := fun W X E => ⟨E.pln.tc.cell3, E.pln.row.cell hbh⟩
  have FIN : Hid (∀ (w' : World) (Y1 Y2 : Nat → Int), (∀ j, j < N → (j < off ∨ off + H ≤ j) → Y1 j = dwn X p c off H H j) → (∀ i, i < min n H → Cg p (Y1 (off + i)) (lf r k m (2 * b) (fun j => dwn X p c off H H (off + j)) i)) →
      (∀ j, j < N → (j < off + H ∨ off + H + H ≤ j) → Y2 j = Y1 j) → (∀ i, i < n - H → Cg p (Y2 (off + H + i)) (lf r k m (2 * b + 1) (fun j => Y1 (off + H + j)) i)) → EnvT w' g gf gm gl p k r h N f s Y2 → OnlyB gl w w' →
      ∃ Y, EnvT w' g gf gm gl p k r h N f s Y ∧ OnlyB gl w w' ∧ (∀ j, j < N → (j < off ∨ off + 2 * H ≤ j) → Y j = X j) ∧ ∀ i, i < n → Cg p (Y (off + i)) (lf r k (m + 1) b (fun j => X (off + j)) i)) := by
    intro w' Y1 Y2 a1 a2 b1 b2 E2 O2
    refine ⟨Y2, E2, O2, fun j hj hr => ?_, fun i hi => ?_⟩
    · rw [b1 j hj (by omega), a1 j hj (by omega)]
      unfold dwn
      rw [if_neg (by omega), if_neg (by omega)]
    · show Cg p (Y2 (off + i)) (if i < 2 ^ m then _ else _)
      rw [← hH, hc]
      by_cases hl : i < H
      · rw [if_pos hl, b1 (off + i) (by omega) (by omega)]
        refine (a2 i (by omega)).trans (lf_cg m _ _ _ i (fun j hj => ?_) (by omega))
        show Cg p (dwn X p c off H H (off + j)) (X (off + j) + c * X (off + (j + H)))
        unfold dwn
        rw [if_pos (by omega), show off + j + H = off + (j + H) by omega, Int.mul_comm c]
        exact Cg.mod.trans (Cg.rfl.add Cg.mod)
      · rw [if_neg hl]
        have := b2 (i - H) (by omega)
        rw [show off + H + (i - H) = off + i by omega] at this
        refine this.trans (lf_cg m _ _ _ (i - H) (fun j hj => ?_) (by omega))
        show Cg p (Y1 (off + H + j)) (X (off + j) - c * X (off + (j + H)))
        rw [a1 (off + H + j) (by omega) (by omega)]
        unfold dwn
        rw [if_neg (by omega), if_pos (by omega), show off + H + j - H = off + j by omega, show off + H + j = off + (j + H) by omega, Int.mul_comm c]
        exact Cg.mod.trans (Cg.rfl.sub Cg.mod)
  have EE := hid E
  have HIH := hid IH
  have n0' : ((n : Int) == 0) = false := beq_eq_false_iff_ne.2 (by omega)
  obtain ⟨D, hD⟩ : ∃ D, D = 2 * H := ⟨_, rfl⟩
  obtain ⟨b2, hb2e⟩ : ∃ b2, b2 = 2 * b := ⟨_, rfl⟩
  obtain ⟨b3, hb3e⟩ : ∃ b3, b3 = 2 * b + 1 := ⟨_, rfl⟩
  have q1 : ((D : Int) == 1) = false := beq_eq_false_iff_ne.2 (by omega)
  have hbh' : (b : Int) < (h : Int) := by omega
  have w1 : IntKind.i64.wrap (b2 : Int) = (b2 : Int) := by rw [IntKind.wrap_i64]; omega
  have w2 : IntKind.i64.wrap (b3 : Int) = (b3 : Int) := by rw [IntKind.wrap_i64]; omega
  have c2b : 2 * (b : Int) = (b2 : Int) := by omega
  have c2c : (b2 : Int) + 1 = (b3 : Int) := by omega
  rw [← hb3e, ← hb2e, ← hD] at FIN
  rw [← hb2e] at hb1
  rw [← hb3e] at hb2
  rw [← hD] at HV hoff hn ⊢
  have HD := hid hD
  have H20 : H ≤ 1048576 := by omega
  clear E IH hb kk fv fz hcd hc hb2e hb3e hH hh hD
  generalize fmp p r k b = v at *
  go_enter Tryz.func86, Tryz.ntmps86
  go_wp2_with fail
  refine HV.out.mono ?_
  rintro e w3 ⟨rfl, q, rfl⟩
  have E1 := hid (EE.out.drew q)
  have O1 := hid ((OnlyB.refl gl w).drew q)
  have cc := c3.out _ _ E1.out
  obtain ⟨cc3, ccb⟩ := cc
  clear HV
  generalize w.drewN q = w1 at *
  go_wp2
  go_loopw [35] (fun iv wr => ∃ (i : Nat), iv = .int .i64 i ∧ i ≤ H ∧ Hid (EnvT wr g gf gm gl p k r h N f s (dwn X p c off H i)) ∧ Hid (OnlyB gl w wr)) (fun iv _ => ((H : Int) - intOf iv).toNat)
  case atStart => exact ⟨0, rfl, Nat.zero_le _, E1.out.eq (fun j _ => (dwn_zero j).symm), O1.out⟩
  case round =>
    obtain ⟨i, rfl, hi, Ei, Oi⟩ := hrel
    have hD := HD.out
    by_cases him : i = H
    · have him' : ¬ (i : Int) < (H : Int) := by omega
      obtain rfl := him
      have I1 := hid (HIH.out b2 (min n i) off _ wr Ei.out (by omega) hb1 (by omega))
      have mn : min (n : Int) (i : Int) = ((min n i : Nat) : Int) := by omega
      have HM := hid mn
      have mx : max ((n : Int) - (i : Int)) 0 = ((n - i : Nat) : Int) := by omega
      have HX := hid mx
      have z1 : off + i + i ≤ N := by omega
      have z2 : n - i ≤ i := by omega
      clear mn mx TM AD SU c3 cc3 ccb EE E1 O1 HD hD
      go_wp2_with fail
      rw [HM.out]
      refine I1.out.mono ?_
      rintro e w4 ⟨rfl, Y1, E4, O4, a1, a2⟩
      have I2 := hid (HIH.out b3 (n - i) (off + i) _ w4 E4 z1 hb2 z2)
      have O5 := hid (Oi.out.trans O4)
      have F2 := hid (fun w' Y2 => FIN.out w' Y1 Y2 a1 a2)
      clear I1 HM E4 O4 a1 a2 Ei Oi HIH FIN
      go_wp2_with fail
      rw [HX.out]
      refine I2.out.mono ?_
      rintro e w5 ⟨rfl, Y2, E5, O6, b1, b2⟩
      have F3 := hid (F2.out w5 Y2 b1 b2 E5 (O5.out.trans O6))
      clear I2 E5 O6 b1 b2 F2 HX O5
      go_wp2
      go_end0
      exact ⟨rfl, F3.out⟩
    · have him' : (i : Int) < (H : Int) := by omega
      have hiH : i < H := by omega
      have cf := Ei.out.pln.tc.cell0
      have cl := Ei.out.row.cell (i := off + i) (by omega)
      have ch := Ei.out.row.cell (i := off + H + i) (by omega)
      have fl := Ei.out.row.frozen (off + i)
      have fh := Ei.out.row.frozen (off + H + i)
      have T1 := hid (fun q => TM.out _ _ (off + H + i) (Ei.out.drew q) (by omega))
      obtain ⟨d1, d2⟩ := dwn_at (X := X) (p := p) (c := c) (off := off) hiH
      rw [d1] at cl
      rw [d2] at ch T1
      have X0 := Ei.out.bnd (off + i) (by omega)
      rw [d1] at X0
      have t0 := Int.emod_nonneg (X (off + H + i) * c) (show (p : Int) ≠ 0 by omega)
      have v1b : 0 ≤ (X (off + i) + X (off + H + i) * c % p) % p ∧ (X (off + i) + X (off + H + i) * c % p) % p < p := ⟨Int.emod_nonneg _ (by omega), Int.emod_lt_of_pos _ (by omega)⟩
      have v2b : 0 ≤ (X (off + i) - X (off + H + i) * c % p) % p ∧ (X (off + i) - X (off + H + i) * c % p) % p < p := ⟨Int.emod_nonneg _ (by omega), Int.emod_lt_of_pos _ (by omega)⟩
      have A1 := hid (fun W E => AD.out W (dwn X p c off H i) (X (off + i)) (X (off + H + i) * c % p) E X0.1 t0)
      have S1 := hid (fun W E => SU.out W (dwn X p c off H i) (X (off + i)) (X (off + H + i) * c % p) E X0.1 t0)
      have FI : Hid (∀ W : World, EnvT W g gf gm gl p k r h N f s (dwn X p c off H i) → OnlyB gl w W → EnvT ((W.setCell ⟨gl, off + i, none⟩ (.int .u64 ((X (off + i) + X (off + H + i) * c % p) % p))).setCell ⟨gl, off + H + i, none⟩ (.int .u64 ((X (off + i) - X (off + H + i) * c % p) % p))) g gf gm gl p k r h N f s (dwn X p c off H (i + 1)) ∧
          OnlyB gl w ((W.setCell ⟨gl, off + i, none⟩ (.int .u64 ((X (off + i) + X (off + H + i) * c % p) % p))).setCell ⟨gl, off + H + i, none⟩ (.int .u64 ((X (off + i) - X (off + H + i) * c % p) % p)))) := by
        intro W E O
        refine ⟨(E.set (off + i) _ v1b (fun j _ => rfl)).set (off + H + i) _ v2b (fun j _ => ?_), (O.set _ _).set _ _⟩
        rw [dwn_step hiH j]
      have dg := EE.out.d.1
      clear v1b v2b t0 X0 d1 d2 EE cc3 ccb c3 HIH FIN TM AD SU hD HD E1 O1
      generalize X (off + H + i) * c % (p : Int) = t at *
      generalize (X (off + i) + t) % (p : Int) = v1 at *
      generalize (X (off + i) - t) % (p : Int) = v2 at *
      go_wp2_with fail
      go_quiet ((go_at_call 95; exact Calls.quiet_of (T1.out _)))
      rename_i nq
      have E2 := hid (Ei.out.drew nq)
      have O2 := hid (Oi.out.drew nq)
      have cf' : (wr.drewN nq).cell? ⟨g, 0, none⟩ = some (.pointer (some ⟨gf, 0, none⟩)) := by simpa using cf
      have cl' : (wr.drewN nq).cell? ⟨gl, off + i, none⟩ = some (.int .u64 (X (off + i))) := by simpa using cl
      have ch' : (wr.drewN nq).cell? ⟨gl, off + H + i, none⟩ = some (.int .u64 (X (off + H + i))) := by simpa using ch
      have fl' : (wr.drewN nq).frozen? ⟨gl, off + i, none⟩ = false := by simpa using fl
      have fh' : (wr.drewN nq).frozen? ⟨gl, off + H + i, none⟩ = false := by simpa using fh
      clear cf cl ch fl fh T1 Ei Oi
      generalize wr.drewN nq = w2 at *
      have A2 := hid (fun q => A1.out _ (E2.out.drew q))
      have S2 := hid (fun q => S1.out _ (E2.out.drew q))
      go_wp2_with fail
      refine wp_region_tail4 20 (.tmp 8) (.tmp 11) (.tmp 9) (.tmp 11) rfl rfl rfl rfl rfl rfl rfl rfl (fun _ _ _ _ h => h) (fun _ _ _ _ h => h) (fun _ _ _ _ h => h) (fun _ _ _ _ h => h) (by kernel_rfl) (by kernel_rfl) (by kernel_rfl) (by kernel_rfl) (by kernel_rfl) (by kernel_rfl) (by kernel_rfl) (by kernel_rfl) (by kernel_rfl) (by kernel_rfl) (by kernel_rfl) (by kernel_rfl) (by kernel_rfl) (by kernel_rfl) (by kernel_rfl) (by kernel_rfl) (by kernel_rfl) (by kernel_rfl) (by decide) _ _ _ _ rfl rfl rfl rfl ?_
      simp only [stillFrom, still, List.map, List.drop]
      go_simp
      repeat (quiet_step (first
        | (go_at_call 112; exact Calls.quiet_of (A2.out _))
        | (go_at_call 96; exact Calls.quiet_of (S2.out _))))
      refine wpQuiet_nil ?_
      intro nq2
      have F2 := hid (FI.out _ (E2.out.drew nq2) (O2.out.drew nq2))
      have cl2 : (w2.drewN nq2).cell? ⟨gl, off + i, none⟩ = some (.int .u64 (X (off + i))) := by simpa using cl'
      have ch2 : (w2.drewN nq2).cell? ⟨gl, off + H + i, none⟩ = some (.int .u64 (X (off + H + i))) := by simpa using ch'
      have fl2 : (w2.drewN nq2).frozen? ⟨gl, off + i, none⟩ = false := by simpa using fl'
      have fh2 : (w2.drewN nq2).frozen? ⟨gl, off + H + i, none⟩ = false := by simpa using fh'
      clear A1 S1 A2 S2 E2 O2 FI cl' ch' fl' fh' cf'
      generalize w2.drewN nq2 = w3 at *
      go_wp2
      exact ⟨⟨i + 1, rfl, by omega, F2.out.1, F2.out.2⟩, by simp only [intOf]; omega⟩
theorem down_any {g gf gm gl p k r h N : Nat} {f s : Int} (OK : Ok p f s) (TO : TabOk p k r) (hh : h = 2 ^ k / 2) (hN : N ≤ 1048576) : ∀ m, m ≤ k → DownIs g gf gm gl p k r h N f s m (2 ^ m)
  | 0, _ => by
    intro b n off X w E hoff hb hn
    refine (down_none g gl off (2 ^ 0) b n w (Or.inr rfl)).mono ?_
    rintro e w' ⟨rfl, rfl⟩
    refine ⟨rfl, X, E, OnlyB.refl _ _, fun _ _ _ => rfl, fun i hi => ?_⟩
    obtain rfl : i = 0 := by rw [Nat.pow_zero] at hn; omega
    exact Cg.rfl
  | m + 1, hm => by
    rw [Nat.pow_succ, Nat.mul_comm]
    exact down_step OK TO hh hN m (2 ^ m) hm rfl (down_any OK TO hh hN m (by omega))
end Go.Proofs.YtocfenjampmdlaaGreatDoor
namespace Go.Proofs.YtocfenjampmdlaaGreatDoor
open Go.RowKit Num Nmb

/-- the words from place a up to b are F's, the others X's. -/
def updw (F X : Nat → Int) (a b j : Nat) : Int := if a ≤ j ∧ j < b then F j else X j
theorem updw_zero {F X : Nat → Int} {a : Nat} (j : Nat) : updw F X a a j = X j := by unfold updw; rw [if_neg (by omega)]
theorem updw_off {F X : Nat → Int} {a b j : Nat} (h : j < a ∨ b ≤ j) : updw F X a b j = X j := by unfold updw; rw [if_neg (by omega)]
theorem updw_in {F X : Nat → Int} {a b j : Nat} (h : a ≤ j ∧ j < b) : updw F X a b j = F j := by unfold updw; rw [if_pos h]
theorem updw_step {F X : Nat → Int} {a b : Nat} (h : a ≤ b) (j : Nat) : updw F X a (b + 1) j = if j = b then F b else updw F X a b j := by
  unfold updw
  by_cases h1 : j = b
  · subst h1; rw [if_pos (by omega), if_pos rfl]
  · rw [if_neg h1]
    by_cases h2 : a ≤ j ∧ j < b
    · rw [if_pos h2, if_pos (by omega)]
    · rw [if_neg h2, if_neg (by omega)]
/-- what up promises of blocks of 2 to the mth numbers, H. -/
def UpIs (g gf gm gl p k r h N : Nat) (f s : Int) (m H : Nat) : Prop :=
  ∀ (b n off : Nat) (X : Nat → Int) (w : World), EnvT w g gf gm gl p k r h N f s X → off + H ≤ N → b < 2 ^ (k - m) → n ≤ H →
    Calls Tryz.prog 89 #[.pointer (some ⟨g, 0, none⟩), .slice (some ⟨gl, off, none⟩) H H, .int .i64 b, .int .i64 n] w fun e w' =>
      e = .returned (.tuple #[]) ∧ ∃ Y, EnvT w' g gf gm gl p k r h N f s Y ∧ OnlyB gl w w' ∧ (∀ j, j < N → (j < off ∨ off + H ≤ j) → Y j = X j) ∧ Mxd p r k m b n (fun j => Y (off + j)) (fun j => X (off + j))
set_option maxHeartbeats 1600000 in
set_option maxRecDepth 100000 in
theorem low_step {g gf gm gl p k r h N : Nat} {f s : Int} (OK : Ok p f s) (TO : TabOk p k r) (hh : h = 2 ^ k / 2) (hN : N ≤ 1048576) (m H : Nat) (hm : m + 1 ≤ k) (hH : H = 2 ^ m) (IH : UpIs g gf gm gl p k r h N f s m H)
    (b n off : Nat) (X : Nat → Int) (w : World) (E : EnvT w g gf gm gl p k r h N f s X) (hoff : off + 2 * H ≤ N) (hb : b < 2 ^ (k - (m + 1))) (hn : n ≤ H) :
    Calls Tryz.prog 113 #[.pointer (some ⟨g, 0, none⟩), .slice (some ⟨gl, off, none⟩) (2 * H : Nat) (2 * H : Nat), .int .i64 b, .int .i64 n] w fun e w' =>
      e = .returned (.tuple #[]) ∧ ∃ Y, EnvT w' g gf gm gl p k r h N f s Y ∧ OnlyB gl w w' ∧ (∀ j, j < N → (j < off ∨ off + 2 * H ≤ j) → Y j = X j) ∧ Mxd p r k (m + 1) b n (fun j => Y (off + j)) (fun j => X (off + j)) := by
  have H0 : 0 < H := by rw [hH]; exact Nat.two_pow_pos m
  have k0 : 0 < k := by omega
  have ho := TO.odd k0
  have p2 := TO.pri.1
  have kk : 2 * 2 ^ (k - (m + 1)) = 2 ^ (k - m) := by
    rw [show k - m = k - (m + 1) + 1 by omega, Nat.pow_succ]
    omega
  have hb1 : 2 * b < 2 ^ (k - m) := by omega
  have hbh : b < h := by
    have h1 : 2 ^ (k - m) ≤ 2 ^ k := Nat.pow_le_pow_right (by decide) (by omega)
    omega
  have hc : nd r k (k - m) (2 * b) = pt r k b := nd_pt _ (by omega) hb1
  have h20 : h ≤ 1048576 := by
    have : 2 ^ k ≤ 2 ^ 20 := Nat.pow_le_pow_right (by decide) TO.k20
    omega
  have fv := fmp_nn (p := p) (r := r) (k := k) (b := b) (by omega)
  have fz := fmp_pt (p := p) (r := r) (b := b) k0
  obtain ⟨c, hcd⟩ : ∃ c, c = pt r k b := ⟨_, rfl⟩
  rw [← hcd] at hc fz
  have HV := hid (halves_any gl off H w H0 (by omega))
  have TM : Hid (∀ W X i, EnvT W g gf gm gl p k r h N f s X → i < N → Calls Tryz.prog 95 #[.pointer (some ⟨gf, 0, none⟩), .int .u64 (X i), .int .u64 (fmp p r k b)] W fun e w' => e = .returned (.tuple #[.int .u64 (X i * c % p), .int .i64 0]) ∧ ∃ k, w' = W.drewN k) :=
    fun W X i E hi => times_form gf p f s (X i) (fmp p r k b) c W E.pln.fld OK (E.bnd i hi).1 fv.1 ho fz
  have AD : Hid (∀ W X x y, EnvT W g gf gm gl p k r h N f s X → 0 ≤ x → 0 ≤ y → Calls Tryz.prog 112 #[.pointer (some ⟨gf, 0, none⟩), .int .u64 x, .int .u64 y] W fun e w' => e = .returned (.int .u64 ((x + y) % p)) ∧ ∃ k, w' = W.drewN k) :=
    fun W X x y E hx hy => add_q gf p f s x y W E.pln.fld OK hx hy
  have SU : Hid (∀ W X x y, EnvT W g gf gm gl p k r h N f s X → 0 ≤ x → 0 ≤ y → Calls Tryz.prog 96 #[.pointer (some ⟨gf, 0, none⟩), .int .u64 x, .int .u64 y] W fun e w' => e = .returned (.int .u64 ((x - y) % p)) ∧ ∃ k, w' = W.drewN k) :=
    fun W X x y E hx hy => sub_q gf p f s x y W E.pln.fld OK hx hy
  have c3 : Hid (∀ W X, EnvT W g gf gm gl p k r h N f s X → W.cell? ⟨g, 3, none⟩ = some (.slice (some ⟨gm, 0, none⟩) h h) ∧ W.cell? ⟨gm, b, none⟩ = some (.int .u64 (fmp p r k b))) := fun W X E => ⟨E.pln.tc.cell3, E.pln.row.cell hbh⟩
  obtain ⟨F1, hF1⟩ : ∃ F1 : Nat → Int, F1 = fun j => (X j + X (j + H) * c % p) % p := ⟨_, rfl⟩
  have FIN : Hid (∀ (w' : World) (Y1 F2 : Nat → Int), (∀ j, j < N → (j < off ∨ off + H ≤ j) → Y1 j = updw F1 X (off + n) (off + H) j) → Mxd p r k m (2 * b) n (fun j => Y1 (off + j)) (fun j => updw F1 X (off + n) (off + H) (off + j)) →
      (F2 = fun j => (Y1 j - Y1 (j + H) * c % p) % p) → EnvT w' g gf gm gl p k r h N f s (updw F2 Y1 off (off + H)) → OnlyB gl w w' →
      ∃ Y, EnvT w' g gf gm gl p k r h N f s Y ∧ OnlyB gl w w' ∧ (∀ j, j < N → (j < off ∨ off + 2 * H ≤ j) → Y j = X j) ∧ Mxd p r k (m + 1) b n (fun j => Y (off + j)) (fun j => X (off + j))) := by
    intro w' Y1 F2 a1 a2 hF2 E2 O2
    have hi : ∀ j, j < H → Y1 (off + j + H) = X (off + (j + H)) := fun j hj => by
      rw [a1 _ (by omega) (by omega), updw_off (by omega), Nat.add_assoc]
    refine ⟨_, E2, O2, fun j hj hr => ?_, ?_⟩
    · rw [updw_off (by omega), a1 j hj (by omega), updw_off (by omega)]
    · refine Mxd.small (lo := fun j => Y1 (off + j)) (by omega) (a2.cg fun i hi => ?_) (fun j hj => ?_) (fun j hj => ?_)
      · show Cg p (if i < n then X (off + i) else X (off + i) + nd r k (k - m) (2 * b) * X (off + (i + 2 ^ m))) (updw F1 X (off + n) (off + H) (off + i))
        by_cases e : i < n
        · rw [if_pos e, updw_off (by omega)]; exact Cg.rfl
        · rw [if_neg e, updw_in (by omega), hF1, hc, ← hH, Int.mul_comm c, ← Nat.add_assoc]
          exact (Cg.mod.trans (Cg.rfl.add Cg.mod)).symm
      · show Cg p (updw F2 Y1 off (off + H) (off + j)) (Y1 (off + j) - nd r k (k - m) (2 * b) * X (off + (j + 2 ^ m)))
        rw [updw_in (by omega), hF2, hc, ← hH, Int.mul_comm c, ← hi j (by omega)]
        exact Cg.mod.trans (Cg.rfl.sub Cg.mod)
      · show Cg p (updw F2 Y1 off (off + H) (off + (j + 2 ^ m))) (X (off + (j + 2 ^ m)))
        rw [updw_off (by omega), ← hH, ← hi j (by omega), Nat.add_assoc]
        exact Cg.rfl
  have EE := hid E
  have HIH := hid IH
  obtain ⟨D, hD⟩ : ∃ D, D = 2 * H := ⟨_, rfl⟩
  obtain ⟨b2, hb2e⟩ : ∃ b2, b2 = 2 * b := ⟨_, rfl⟩
  have hbh' : (b : Int) < (h : Int) := by omega
  have w1 : IntKind.i64.wrap (b2 : Int) = (b2 : Int) := by rw [IntKind.wrap_i64]; omega
  have c2b : 2 * (b : Int) = (b2 : Int) := by omega
  rw [← hb2e, ← hD] at FIN
  rw [← hb2e] at hb1
  have z1 : off + H + H ≤ N := by omega
  rw [← hD] at HV ⊢
  have H20 : H ≤ 1048576 := by omega
  have HF1 := hid hF1
  clear E IH hb kk fv fz hcd hc hb2e hH hh hD hoff hF1
  generalize fmp p r k b = v at *
  go_enter Tryz.func113, Tryz.ntmps113
  go_wp2_with fail
  refine HV.out.mono ?_
  rintro e w3 ⟨rfl, q, rfl⟩
  have E1 := hid (EE.out.drew q)
  have O1 := hid ((OnlyB.refl gl w).drew q)
  have cc := c3.out _ _ E1.out
  obtain ⟨cc3, ccb⟩ := cc
  clear HV
  generalize w.drewN q = w1 at *
  go_wp2
  go_loopw [11] (fun iv wr => ∃ (i : Nat), iv = .int .i64 i ∧ n ≤ i ∧ i ≤ H ∧ Hid (EnvT wr g gf gm gl p k r h N f s (updw F1 X (off + n) (off + i))) ∧ Hid (OnlyB gl w wr)) (fun iv _ => ((H : Int) - intOf iv).toNat)
  case atStart => exact ⟨n, rfl, Nat.le_refl _, hn, E1.out.eq (fun j _ => (updw_zero j).symm), O1.out⟩
  case round =>
    obtain ⟨i, rfl, hni, hi, Ei, Oi⟩ := hrel
    by_cases him : i = H
    · have him' : ¬ (i : Int) < (H : Int) := by omega
      obtain rfl := him
      have I1 := hid (HIH.out b2 n off _ wr Ei.out (by omega) hb1 hn)
      clear EE cc3 ccb c3 HIH E1 O1 AD
      go_wp2_with fail
      refine I1.out.mono ?_
      rintro e w4 ⟨rfl, Y1, E4, O4, a1, a2⟩
      have O5 := hid (Oi.out.trans O4)
      obtain ⟨F2, hF2⟩ : ∃ F2 : Nat → Int, F2 = fun j => (Y1 j - Y1 (j + i) * c % p) % p := ⟨_, rfl⟩
      have F9 := hid (fun w' => FIN.out w' Y1 F2 a1 a2 hF2)
      have E5 := hid E4
      have HF2 := hid hF2
      clear I1 E4 O4 a1 a2 Ei Oi FIN HF1 hF2
      go_wp2
      go_loopw [70] (fun iv wr => ∃ (t : Nat), iv = .int .i64 t ∧ t ≤ i ∧ Hid (EnvT wr g gf gm gl p k r h N f s (updw F2 Y1 off (off + t))) ∧ Hid (OnlyB gl w wr)) (fun iv _ => ((i : Int) - intOf iv).toNat)
      case atStart => exact ⟨0, rfl, Nat.zero_le _, E5.out.eq (fun j _ => (updw_zero j).symm), O5.out⟩
      case round =>
        obtain ⟨t, rfl, ht, Et, Ot⟩ := hrel
        by_cases htm : t = i
        · have htm' : ¬ (t : Int) < (i : Int) := by omega
          obtain rfl := htm
          have F10 := hid (F9.out _ Et.out Ot.out)
          clear F9 Et Ot E5 O5 HF2 TM SU
          go_wp2
          go_end0
          exact ⟨rfl, F10.out⟩
        · have htm' : (t : Int) < (i : Int) := by omega
          have ht' : t < i := by omega
          have cf := Et.out.pln.tc.cell0
          have cl := Et.out.row.cell (i := off + t) (by omega)
          have ch := Et.out.row.cell (i := off + i + t) (by omega)
          have fl := Et.out.row.frozen (off + t)
          have T1 := hid (fun q => TM.out _ _ (off + i + t) (Et.out.drew q) (by omega))
          have X0 := Et.out.bnd (off + t) (by omega)
          rw [updw_off (by omega)] at cl ch T1 X0
          have t0 := Int.emod_nonneg (Y1 (off + i + t) * c) (show (p : Int) ≠ 0 by omega)
          have vb : 0 ≤ F2 (off + t) ∧ F2 (off + t) < p := by rw [HF2.out]; exact ⟨Int.emod_nonneg _ (by omega), Int.emod_lt_of_pos _ (by omega)⟩
          have S1 := hid (fun (W : World) (E' : EnvT W g gf gm gl p k r h N f s (updw F2 Y1 off (off + t))) => SU.out W _ (Y1 (off + t)) (Y1 (off + i + t) * c % p) E' X0.1 t0)
          have ve : (Y1 (off + t) - Y1 (off + i + t) * c % p) % p = F2 (off + t) := by rw [HF2.out, show off + i + t = off + t + i by omega]
          rw [ve] at S1
          have FI : Hid (∀ W : World, EnvT W g gf gm gl p k r h N f s (updw F2 Y1 off (off + t)) → OnlyB gl w W → EnvT (W.setCell ⟨gl, off + t, none⟩ (.int .u64 (F2 (off + t)))) g gf gm gl p k r h N f s (updw F2 Y1 off (off + (t + 1))) ∧ OnlyB gl w (W.setCell ⟨gl, off + t, none⟩ (.int .u64 (F2 (off + t))))) := fun W E' O' =>
            ⟨E'.set (off + t) _ vb (fun j _ => updw_step (a := off) (b := off + t) (by omega) j), O'.set _ _⟩
          clear vb ve t0 X0 F9 E5 O5 HF2 TM SU
          generalize Y1 (off + i + t) * c % (p : Int) = tt at *
          generalize F2 (off + t) = v1 at *
          go_wp2_with fail
          go_quiet ((go_at_call 95; exact Calls.quiet_of (T1.out _)))
          rename_i nq
          have cf' : (wr.drewN nq).cell? ⟨g, 0, none⟩ = some (.pointer (some ⟨gf, 0, none⟩)) := by simpa using cf
          have cl' : (wr.drewN nq).cell? ⟨gl, off + t, none⟩ = some (.int .u64 (Y1 (off + t))) := by simpa using cl
          have fl' : (wr.drewN nq).frozen? ⟨gl, off + t, none⟩ = false := by simpa using fl
          have E2 := hid (Et.out.drew nq)
          have O2 := hid (Ot.out.drew nq)
          clear Et Ot
          clear cf cl ch fl T1
          generalize wr.drewN nq = w2 at *
          have S2 := hid (fun q => S1.out _ (E2.out.drew q))
          go_wp2_with fail
          refine wp_region_last (by kernel_rfl) (by kernel_rfl) (by kernel_rfl) (by kernel_rfl) (by decide) ?_
          simp only [stillLast, still, lastOf]
          repeat (quiet_step ((go_at_call 96; exact Calls.quiet_of (S2.out _))))
          refine wpQuiet_nil ?_
          intro _ hw'
          obtain ⟨nq, hw''⟩ := hw'
          subst hw''
          have F3 := hid (FI.out _ (E2.out.drew nq) (O2.out.drew nq))
          have cl2 : (w2.drewN nq).cell? ⟨gl, off + t, none⟩ = some (.int .u64 (Y1 (off + t))) := by simpa using cl'
          have fl2 : (w2.drewN nq).frozen? ⟨gl, off + t, none⟩ = false := by simpa using fl'
          clear cf' cl' fl' S1 S2 FI E2 O2
          generalize w2.drewN nq = w3 at *
          go_wp2
          exact ⟨⟨t + 1, rfl, by omega, F3.out.1, F3.out.2⟩, by simp only [intOf]; omega⟩
    · have him' : (i : Int) < (H : Int) := by omega
      have hi' : i < H := by omega
      have cf := Ei.out.pln.tc.cell0
      have cl := Ei.out.row.cell (i := off + i) (by omega)
      have ch := Ei.out.row.cell (i := off + H + i) (by omega)
      have fl := Ei.out.row.frozen (off + i)
      have T1 := hid (fun q => TM.out _ _ (off + H + i) (Ei.out.drew q) (by omega))
      have X0 := Ei.out.bnd (off + i) (by omega)
      rw [updw_off (by omega)] at cl ch T1 X0
      have t0 := Int.emod_nonneg (X (off + H + i) * c) (show (p : Int) ≠ 0 by omega)
      have vb : 0 ≤ F1 (off + i) ∧ F1 (off + i) < p := by rw [HF1.out]; exact ⟨Int.emod_nonneg _ (by omega), Int.emod_lt_of_pos _ (by omega)⟩
      have S1 := hid (fun (W : World) (E' : EnvT W g gf gm gl p k r h N f s (updw F1 X (off + n) (off + i))) => AD.out W _ (X (off + i)) (X (off + H + i) * c % p) E' X0.1 t0)
      have ve : (X (off + i) + X (off + H + i) * c % p) % p = F1 (off + i) := by rw [HF1.out, show off + H + i = off + i + H by omega]
      rw [ve] at S1
      have FI : Hid (∀ W : World, EnvT W g gf gm gl p k r h N f s (updw F1 X (off + n) (off + i)) → OnlyB gl w W → EnvT (W.setCell ⟨gl, off + i, none⟩ (.int .u64 (F1 (off + i)))) g gf gm gl p k r h N f s (updw F1 X (off + n) (off + (i + 1))) ∧ OnlyB gl w (W.setCell ⟨gl, off + i, none⟩ (.int .u64 (F1 (off + i))))) := fun W E' O' =>
            ⟨E'.set (off + i) _ vb (fun j _ => updw_step (a := (off + n)) (b := off + i) (by omega) j), O'.set _ _⟩
      clear vb ve t0 X0 FIN E1 O1 HF1 TM SU AD EE cc3 ccb c3 HIH
      generalize X (off + H + i) * c % (p : Int) = tt at *
      generalize F1 (off + i) = v1 at *
      go_wp2_with fail
      go_quiet ((go_at_call 95; exact Calls.quiet_of (T1.out _)))
      rename_i nq
      have cf' : (wr.drewN nq).cell? ⟨g, 0, none⟩ = some (.pointer (some ⟨gf, 0, none⟩)) := by simpa using cf
      have cl' : (wr.drewN nq).cell? ⟨gl, off + i, none⟩ = some (.int .u64 (X (off + i))) := by simpa using cl
      have fl' : (wr.drewN nq).frozen? ⟨gl, off + i, none⟩ = false := by simpa using fl
      have E2 := hid (Ei.out.drew nq)
      have O2 := hid (Oi.out.drew nq)
      clear Ei Oi
      clear cf cl ch fl T1
      generalize wr.drewN nq = w2 at *
      have S2 := hid (fun q => S1.out _ (E2.out.drew q))
      go_wp2_with fail
      refine wp_region_last (by kernel_rfl) (by kernel_rfl) (by kernel_rfl) (by kernel_rfl) (by decide) ?_
      simp only [stillLast, still, lastOf]
      repeat (quiet_step ((go_at_call 112; exact Calls.quiet_of (S2.out _))))
      refine wpQuiet_nil ?_
      intro _ hw'
      obtain ⟨nq, hw''⟩ := hw'
      subst hw''
      have F3 := hid (FI.out _ (E2.out.drew nq) (O2.out.drew nq))
      have cl2 : (w2.drewN nq).cell? ⟨gl, off + i, none⟩ = some (.int .u64 (X (off + i))) := by simpa using cl'
      have fl2 : (w2.drewN nq).frozen? ⟨gl, off + i, none⟩ = false := by simpa using fl'
      clear cf' cl' fl' S1 S2 FI E2 O2
      generalize w2.drewN nq = w3 at *
      go_wp2
      exact ⟨⟨i + 1, rfl, by omega, by omega, F3.out.1, F3.out.2⟩, by simp only [intOf]; omega⟩
end Go.Proofs.YtocfenjampmdlaaGreatDoor
