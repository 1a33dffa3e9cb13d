/- The way back where no value is one of the higher half's: what upByLow leaves, in the landed tft. -/
/- The way back where all values of the lower half are known: what upByBoth leaves, in the landed tft. -/
import Derived.Test.YtocfenjampmdlabGreatDoorUe
import Derived.Test.YtocfenjampmdlabGreatDoorVp
namespace Go.Proofs.YtocfenjampmdlabGreatDoor
open Go.RowKit Num Nmb

/-- the words from place a up to b are F's, the others X's. -/
def updw (F X : Nat → Int) (a b j : Nat) : Int := if a ≤ j ∧ j < b then F j else X j
theorem updw_zero {F X : Nat → Int} {a : Nat} (j : Nat) : updw F X a a j = X j := by unfold updw; rw [if_neg (by omega)]
theorem updw_off {F X : Nat → Int} {a b j : Nat} (h : j < a ∨ b ≤ j) : updw F X a b j = X j := by unfold updw; rw [if_neg (by omega)]
theorem updw_in {F X : Nat → Int} {a b j : Nat} (h : a ≤ j ∧ j < b) : updw F X a b j = F j := by unfold updw; rw [if_pos h]
theorem updw_step {F X : Nat → Int} {a b : Nat} (h : a ≤ b) (j : Nat) : updw F X a (b + 1) j = if j = b then F b else updw F X a b j := by
  unfold updw
  by_cases h1 : j = b
  · subst h1; rw [if_pos (by omega), if_pos rfl]
  · rw [if_neg h1]
    by_cases h2 : a ≤ j ∧ j < b
    · rw [if_pos h2, if_pos (by omega)]
    · rw [if_neg h2, if_neg (by omega)]
/-- what up promises of blocks of 2 to the mth numbers, H. -/
def UpIs (g gf gm gl p k r h N : Nat) (f s : Int) (m H : Nat) : Prop :=
  ∀ (b n off : Nat) (X : Nat → Int) (w : World), EnvT w g gf gm gl p k r h N f s X → off + H ≤ N → b < 2 ^ (k - m) → n ≤ H →
    Calls Tryz.prog 62 #[.pointer (some ⟨g, 0, none⟩), .slice (some ⟨gl, off, none⟩) H H, .int .i64 b, .int .i64 n] w fun e w' =>
      e = .returned (.tuple #[]) ∧ ∃ Y, EnvT w' g gf gm gl p k r h N f s Y ∧ OnlyB gl w w' ∧ (∀ j, j < N → (j < off ∨ off + H ≤ j) → Y j = X j) ∧ Mxd p r k m b n (fun j => Y (off + j)) (fun j => X (off + j))
set_option maxHeartbeats 1600000 in
set_option maxRecDepth 100000 in
theorem low_step {g gf gm gl p k r h N : Nat} {f s : Int} (OK : Ok p f s) (TO : TabOk p k r) (hh : h = 2 ^ k / 2) (hN : N ≤ 1048576) (m H : Nat) (hm : m + 1 ≤ k) (hH : H = 2 ^ m) (IH : UpIs g gf gm gl p k r h N f s m H)
    (b n off : Nat) (X : Nat → Int) (w : World) (E : EnvT w g gf gm gl p k r h N f s X) (hoff : off + 2 * H ≤ N) (hb : b < 2 ^ (k - (m + 1))) (hn : n ≤ H) :
    Calls Tryz.prog 86 #[.pointer (some ⟨g, 0, none⟩), .slice (some ⟨gl, off, none⟩) (2 * H : Nat) (2 * H : Nat), .int .i64 b, .int .i64 n] w fun e w' =>
      e = .returned (.tuple #[]) ∧ ∃ Y, EnvT w' g gf gm gl p k r h N f s Y ∧ OnlyB gl w w' ∧ (∀ j, j < N → (j < off ∨ off + 2 * H ≤ j) → Y j = X j) ∧ Mxd p r k (m + 1) b n (fun j => Y (off + j)) (fun j => X (off + j)) := by
  have H0 : 0 < H := by rw [hH]; exact Nat.two_pow_pos m
  have k0 : 0 < k := by omega
  have ho := TO.odd k0
  have p2 := TO.pri.1
  have kk : 2 * 2 ^ (k - (m + 1)) = 2 ^ (k - m) := by
    rw [show k - m = k - (m + 1) + 1 by omega, Nat.pow_succ]
    omega
  have hb1 : 2 * b < 2 ^ (k - m) := by omega
  have hbh : b < h := by
    have h1 : 2 ^ (k - m) ≤ 2 ^ k := Nat.pow_le_pow_right (by decide) (by omega)
    omega
  have hc : nd r k (k - m) (2 * b) = pt r k b := nd_pt _ (by omega) hb1
  have h20 : h ≤ 1048576 := by
    have : 2 ^ k ≤ 2 ^ 20 := Nat.pow_le_pow_right (by decide) TO.k20
    omega
  have fv := fmp_nn (p := p) (r := r) (k := k) (b := b) (by omega)
  have fz := fmp_pt (p := p) (r := r) (b := b) k0
  obtain ⟨c, hcd⟩ : ∃ c, c = pt r k b := ⟨_, rfl⟩
  rw [← hcd] at hc fz
  have HV := hid (halves_any gl off H w H0 (by omega))
  have TM : Hid (∀ W X i, EnvT W g gf gm gl p k r h N f s X → i < N → Calls Tryz.prog 68 #[.pointer (some ⟨gf, 0, none⟩), .int .u64 (X i), .int .u64 (fmp p r k b)] W fun e w' => e = .returned (.tuple #[.int .u64 (X i * c % p), .int .i64 0]) ∧ ∃ k, w' = W.drewN k) :=
    fun W X i E hi => times_form gf p f s (X i) (fmp p r k b) c W E.pln.fld OK (E.bnd i hi).1 fv.1 ho fz
  have AD : Hid (∀ W X x y, EnvT W g gf gm gl p k r h N f s X → 0 ≤ x → 0 ≤ y → Calls Tryz.prog 85 #[.pointer (some ⟨gf, 0, none⟩), .int .u64 x, .int .u64 y] W fun e w' => e = .returned (.int .u64 ((x + y) % p)) ∧ ∃ k, w' = W.drewN k) :=
    fun W X x y E hx hy => add_q gf p f s x y W E.pln.fld OK hx hy
  have SU : Hid (∀ W X x y, EnvT W g gf gm gl p k r h N f s X → 0 ≤ x → 0 ≤ y → Calls Tryz.prog 69 #[.pointer (some ⟨gf, 0, none⟩), .int .u64 x, .int .u64 y] W fun e w' => e = .returned (.int .u64 ((x - y) % p)) ∧ ∃ k, w' = W.drewN k) :=
    fun W X x y E hx hy => sub_q gf p f s x y W E.pln.fld OK hx hy
  have c3 : Hid (∀ W X, EnvT W g gf gm gl p k r h N f s X → W.cell? ⟨g, 3, none⟩ = some (.slice (some ⟨gm, 0, none⟩) h h) ∧ W.cell? ⟨gm, b, none⟩ = some (.int .u64 (fmp p r k b))) := fun W X E => ⟨E.pln.tc.cell3, E.pln.row.cell hbh⟩
  obtain ⟨F1, hF1⟩ : ∃ F1 : Nat → Int, F1 = fun j => (X j + X (j + H) * c % p) % p := ⟨_, rfl⟩
  have FIN : Hid (∀ (w' : World) (Y1 F2 : Nat → Int), (∀ j, j < N → (j < off ∨ off + H ≤ j) → Y1 j = updw F1 X (off + n) (off + H) j) → Mxd p r k m (2 * b) n (fun j => Y1 (off + j)) (fun j => updw F1 X (off + n) (off + H) (off + j)) →
      (F2 = fun j => (Y1 j - Y1 (j + H) * c % p) % p) → EnvT w' g gf gm gl p k r h N f s (updw F2 Y1 off (off + H)) → OnlyB gl w w' →
      ∃ Y, EnvT w' g gf gm gl p k r h N f s Y ∧ OnlyB gl w w' ∧ (∀ j, j < N → (j < off ∨ off + 2 * H ≤ j) → Y j = X j) ∧ Mxd p r k (m + 1) b n (fun j => Y (off + j)) (fun j => X (off + j))) := by
    intro w' Y1 F2 a1 a2 hF2 E2 O2
    have hi : ∀ j, j < H → Y1 (off + j + H) = X (off + (j + H)) := fun j hj => by
      rw [a1 _ (by omega) (by omega), updw_off (by omega), Nat.add_assoc]
    refine ⟨_, E2, O2, fun j hj hr => ?_, ?_⟩
    · rw [updw_off (by omega), a1 j hj (by omega), updw_off (by omega)]
    · refine Mxd.small (lo := fun j => Y1 (off + j)) (by omega) (a2.cg fun i hi => ?_) (fun j hj => ?_) (fun j hj => ?_)
      · show Cg p (if i < n then X (off + i) else X (off + i) + nd r k (k - m) (2 * b) * X (off + (i + 2 ^ m))) (updw F1 X (off + n) (off + H) (off + i))
        by_cases e : i < n
        · rw [if_pos e, updw_off (by omega)]; exact Cg.rfl
        · rw [if_neg e, updw_in (by omega), hF1, hc, ← hH, Int.mul_comm c, ← Nat.add_assoc]
          exact (Cg.mod.trans (Cg.rfl.add Cg.mod)).symm
      · show Cg p (updw F2 Y1 off (off + H) (off + j)) (Y1 (off + j) - nd r k (k - m) (2 * b) * X (off + (j + 2 ^ m)))
        rw [updw_in (by omega), hF2, hc, ← hH, Int.mul_comm c, ← hi j (by omega)]
        exact Cg.mod.trans (Cg.rfl.sub Cg.mod)
      · show Cg p (updw F2 Y1 off (off + H) (off + (j + 2 ^ m))) (X (off + (j + 2 ^ m)))
        rw [updw_off (by omega), ← hH, ← hi j (by omega), Nat.add_assoc]
        exact Cg.rfl
  have EE := hid E
  have HIH := hid IH
  obtain ⟨D, hD⟩ : ∃ D, D = 2 * H := ⟨_, rfl⟩
  obtain ⟨b2, hb2e⟩ : ∃ b2, b2 = 2 * b := ⟨_, rfl⟩
  have hbh' : (b : Int) < (h : Int) := by omega
  have w1 : IntKind.i64.wrap (b2 : Int) = (b2 : Int) := by rw [IntKind.wrap_i64]; omega
  have c2b : 2 * (b : Int) = (b2 : Int) := by omega
  rw [← hb2e, ← hD] at FIN
  rw [← hb2e] at hb1
  have z1 : off + H + H ≤ N := by omega
  rw [← hD] at HV ⊢
  have H20 : H ≤ 1048576 := by omega
  have HF1 := hid hF1
  clear E IH hb kk fv fz hcd hc hb2e hH hh hD hoff hF1
  generalize fmp p r k b = v at *
  go_enter Tryz.func86, Tryz.ntmps86
  go_wp2_with fail
  refine HV.out.mono ?_
  rintro e w3 ⟨rfl, q, rfl⟩
  have E1 := hid (EE.out.drew q)
  have O1 := hid ((OnlyB.refl gl w).drew q)
  have cc := c3.out _ _ E1.out
  obtain ⟨cc3, ccb⟩ := cc
  clear HV
  generalize w.drewN q = w1 at *
  go_wp2
  go_loopw [11] (fun iv wr => ∃ (i : Nat), iv = .int .i64 i ∧ n ≤ i ∧ i ≤ H ∧ Hid (EnvT wr g gf gm gl p k r h N f s (updw F1 X (off + n) (off + i))) ∧ Hid (OnlyB gl w wr)) (fun iv _ => ((H : Int) - intOf iv).toNat)
  case atStart => exact ⟨n, rfl, Nat.le_refl _, hn, E1.out.eq (fun j _ => (updw_zero j).symm), O1.out⟩
  case round =>
    obtain ⟨i, rfl, hni, hi, Ei, Oi⟩ := hrel
    by_cases him : i = H
    · have him' : ¬ (i : Int) < (H : Int) := by omega
      obtain rfl := him
      have I1 := hid (HIH.out b2 n off _ wr Ei.out (by omega) hb1 hn)
      clear EE cc3 ccb c3 HIH E1 O1 AD
      go_wp2_with fail
      refine I1.out.mono ?_
      rintro e w4 ⟨rfl, Y1, E4, O4, a1, a2⟩
      have O5 := hid (Oi.out.trans O4)
      obtain ⟨F2, hF2⟩ : ∃ F2 : Nat → Int, F2 = fun j => (Y1 j - Y1 (j + i) * c % p) % p := ⟨_, rfl⟩
      have F9 := hid (fun w' => FIN.out w' Y1 F2 a1 a2 hF2)
      have E5 := hid E4
      have HF2 := hid hF2
      clear I1 E4 O4 a1 a2 Ei Oi FIN HF1 hF2
      go_wp2
      go_loopw [70] (fun iv wr => ∃ (t : Nat), iv = .int .i64 t ∧ t ≤ i ∧ Hid (EnvT wr g gf gm gl p k r h N f s (updw F2 Y1 off (off + t))) ∧ Hid (OnlyB gl w wr)) (fun iv _ => ((i : Int) - intOf iv).toNat)
      case atStart => exact ⟨0, rfl, Nat.zero_le _, E5.out.eq (fun j _ => (updw_zero j).symm), O5.out⟩
      case round =>
        obtain ⟨t, rfl, ht, Et, Ot⟩ := hrel
        by_cases htm : t = i
        · have htm' : ¬ (t : Int) < (i : Int) := by omega
          obtain rfl := htm
          have F10 := hid (F9.out _ Et.out Ot.out)
          clear F9 Et Ot E5 O5 HF2 TM SU
          go_wp2
          go_end0
          exact ⟨rfl, F10.out⟩
        · have htm' : (t : Int) < (i : Int) := by omega
          have ht' : t < i := by omega
          have cf := Et.out.pln.tc.cell0
          have cl := Et.out.row.cell (i := off + t) (by omega)
          have ch := Et.out.row.cell (i := off + i + t) (by omega)
          have fl := Et.out.row.frozen (off + t)
          have T1 := hid (fun q => TM.out _ _ (off + i + t) (Et.out.drew q) (by omega))
          have X0 := Et.out.bnd (off + t) (by omega)
          rw [updw_off (by omega)] at cl ch T1 X0
          have t0 := Int.emod_nonneg (Y1 (off + i + t) * c) (show (p : Int) ≠ 0 by omega)
          have vb : 0 ≤ F2 (off + t) ∧ F2 (off + t) < p := by rw [HF2.out]; exact ⟨Int.emod_nonneg _ (by omega), Int.emod_lt_of_pos _ (by omega)⟩
          have S1 := hid (fun (W : World) (E' : EnvT W g gf gm gl p k r h N f s (updw F2 Y1 off (off + t))) => SU.out W _ (Y1 (off + t)) (Y1 (off + i + t) * c % p) E' X0.1 t0)
          have ve : (Y1 (off + t) - Y1 (off + i + t) * c % p) % p = F2 (off + t) := by rw [HF2.out, show off + i + t = off + t + i by omega]
          rw [ve] at S1
          have FI : Hid (∀ W : World, EnvT W g gf gm gl p k r h N f s (updw F2 Y1 off (off + t)) → OnlyB gl w W → EnvT (W.setCell ⟨gl, off + t, none⟩ (.int .u64 (F2 (off + t)))) g gf gm gl p k r h N f s (updw F2 Y1 off (off + (t + 1))) ∧ OnlyB gl w (W.setCell ⟨gl, off + t, none⟩ (.int .u64 (F2 (off + t))))) := fun W E' O' =>
            ⟨E'.set (off + t) _ vb (fun j _ => updw_step (a := off) (b := off + t) (by omega) j), O'.set _ _⟩
          clear vb ve t0 X0 F9 E5 O5 HF2 TM SU
          generalize Y1 (off + i + t) * c % (p : Int) = tt at *
          generalize F2 (off + t) = v1 at *
          go_wp2_with fail
          go_quiet ((go_at_call 68; exact Calls.quiet_of (T1.out _)))
          rename_i nq
          have cf' : (wr.drewN nq).cell? ⟨g, 0, none⟩ = some (.pointer (some ⟨gf, 0, none⟩)) := by simpa using cf
          have cl' : (wr.drewN nq).cell? ⟨gl, off + t, none⟩ = some (.int .u64 (Y1 (off + t))) := by simpa using cl
          have fl' : (wr.drewN nq).frozen? ⟨gl, off + t, none⟩ = false := by simpa using fl
          have E2 := hid (Et.out.drew nq)
          have O2 := hid (Ot.out.drew nq)
          clear Et Ot
          clear cf cl ch fl T1
          generalize wr.drewN nq = w2 at *
          have S2 := hid (fun q => S1.out _ (E2.out.drew q))
          go_wp2_with fail
          refine wp_region_last (by kernel_rfl) (by kernel_rfl) (by kernel_rfl) (by kernel_rfl) (by decide) ?_
          simp only [stillLast, still, lastOf]
          repeat (quiet_step ((go_at_call 69; exact Calls.quiet_of (S2.out _))))
          refine wpQuiet_nil ?_
          intro _ hw'
          obtain ⟨nq, hw''⟩ := hw'
          subst hw''
          have F3 := hid (FI.out _ (E2.out.drew nq) (O2.out.drew nq))
          have cl2 : (w2.drewN nq).cell? ⟨gl, off + t, none⟩ = some (.int .u64 (Y1 (off + t))) := by simpa using cl'
          have fl2 : (w2.drewN nq).frozen? ⟨gl, off + t, none⟩ = false := by simpa using fl'
          clear cf' cl' fl' S1 S2 FI E2 O2
          generalize w2.drewN nq = w3 at *
          go_wp2
          exact ⟨⟨t + 1, rfl, by omega, F3.out.1, F3.out.2⟩, by simp only [intOf]; omega⟩
    · have him' : (i : Int) < (H : Int) := by omega
      have hi' : i < H := by omega
      have cf := Ei.out.pln.tc.cell0
      have cl := Ei.out.row.cell (i := off + i) (by omega)
      have ch := Ei.out.row.cell (i := off + H + i) (by omega)
      have fl := Ei.out.row.frozen (off + i)
      have T1 := hid (fun q => TM.out _ _ (off + H + i) (Ei.out.drew q) (by omega))
      have X0 := Ei.out.bnd (off + i) (by omega)
      rw [updw_off (by omega)] at cl ch T1 X0
      have t0 := Int.emod_nonneg (X (off + H + i) * c) (show (p : Int) ≠ 0 by omega)
      have vb : 0 ≤ F1 (off + i) ∧ F1 (off + i) < p := by rw [HF1.out]; exact ⟨Int.emod_nonneg _ (by omega), Int.emod_lt_of_pos _ (by omega)⟩
      have S1 := hid (fun (W : World) (E' : EnvT W g gf gm gl p k r h N f s (updw F1 X (off + n) (off + i))) => AD.out W _ (X (off + i)) (X (off + H + i) * c % p) E' X0.1 t0)
      have ve : (X (off + i) + X (off + H + i) * c % p) % p = F1 (off + i) := by rw [HF1.out, show off + H + i = off + i + H by omega]
      rw [ve] at S1
      have FI : Hid (∀ W : World, EnvT W g gf gm gl p k r h N f s (updw F1 X (off + n) (off + i)) → OnlyB gl w W → EnvT (W.setCell ⟨gl, off + i, none⟩ (.int .u64 (F1 (off + i)))) g gf gm gl p k r h N f s (updw F1 X (off + n) (off + (i + 1))) ∧ OnlyB gl w (W.setCell ⟨gl, off + i, none⟩ (.int .u64 (F1 (off + i))))) := fun W E' O' =>
            ⟨E'.set (off + i) _ vb (fun j _ => updw_step (a := (off + n)) (b := off + i) (by omega) j), O'.set _ _⟩
      clear vb ve t0 X0 FIN E1 O1 HF1 TM SU AD EE cc3 ccb c3 HIH
      generalize X (off + H + i) * c % (p : Int) = tt at *
      generalize F1 (off + i) = v1 at *
      go_wp2_with fail
      go_quiet ((go_at_call 68; exact Calls.quiet_of (T1.out _)))
      rename_i nq
      have cf' : (wr.drewN nq).cell? ⟨g, 0, none⟩ = some (.pointer (some ⟨gf, 0, none⟩)) := by simpa using cf
      have cl' : (wr.drewN nq).cell? ⟨gl, off + i, none⟩ = some (.int .u64 (X (off + i))) := by simpa using cl
      have fl' : (wr.drewN nq).frozen? ⟨gl, off + i, none⟩ = false := by simpa using fl
      have E2 := hid (Ei.out.drew nq)
      have O2 := hid (Oi.out.drew nq)
      clear Ei Oi
      clear cf cl ch fl T1
      generalize wr.drewN nq = w2 at *
      have S2 := hid (fun q => S1.out _ (E2.out.drew q))
      go_wp2_with fail
      refine wp_region_last (by kernel_rfl) (by kernel_rfl) (by kernel_rfl) (by kernel_rfl) (by decide) ?_
      simp only [stillLast, still, lastOf]
      repeat (quiet_step ((go_at_call 85; exact Calls.quiet_of (S2.out _))))
      refine wpQuiet_nil ?_
      intro _ hw'
      obtain ⟨nq, hw''⟩ := hw'
      subst hw''
      have F3 := hid (FI.out _ (E2.out.drew nq) (O2.out.drew nq))
      have cl2 : (w2.drewN nq).cell? ⟨gl, off + i, none⟩ = some (.int .u64 (X (off + i))) := by simpa using cl'
      have fl2 : (w2.drewN nq).frozen? ⟨gl, off + i, none⟩ = false := by simpa using fl'
      clear cf' cl' fl' S1 S2 FI E2 O2
      generalize w2.drewN nq = w3 at *
      go_wp2
      exact ⟨⟨i + 1, rfl, by omega, by omega, F3.out.1, F3.out.2⟩, by simp only [intOf]; omega⟩
end Go.Proofs.YtocfenjampmdlabGreatDoor
namespace Go.Proofs.YtocfenjampmdlabGreatDoor
open Go.RowKit Num Nmb

/-- the first i pairs of a block's halves, made what they are half of. -/
def upb (F G X : Nat → Int) (off H i j : Nat) : Int := if off ≤ j ∧ j < off + i then F j else if off + H ≤ j ∧ j < off + H + i then G j else X j
theorem upb_at {F G X : Nat → Int} {off H i : Nat} (hi : i < H) : upb F G X off H i (off + i) = X (off + i) ∧ upb F G X off H i (off + H + i) = X (off + H + i) := by
  unfold upb
  exact ⟨by rw [if_neg (by omega), if_neg (by omega)], by rw [if_neg (by omega), if_neg (by omega)]⟩
theorem upb_step {F G X : Nat → Int} {off H i : Nat} (hi : i < H) (j : Nat) :
    upb F G X off H (i + 1) j = if j = off + H + i then G (off + H + i) else if j = off + i then F (off + i) else upb F G X off H i j := by
  unfold upb
  by_cases h1 : j = off + H + i
  · subst h1
    rw [if_neg (by omega), if_pos (by omega), if_pos rfl]
  · rw [if_neg h1]
    by_cases h2 : j = off + i
    · subst h2
      rw [if_pos (by omega), if_pos rfl]
    · rw [if_neg h2]
      by_cases h3 : off ≤ j ∧ j < off + i
      · rw [if_pos h3, if_pos (by omega)]
      · rw [if_neg h3, if_neg (by omega)]
        by_cases h4 : off + H ≤ j ∧ j < off + H + i
        · rw [if_pos h4, if_pos (by omega)]
        · rw [if_neg h4, if_neg (by omega)]
theorem upb_zero {F G X : Nat → Int} {off H : Nat} (j : Nat) : upb F G X off H 0 j = X j := by
  unfold upb
  rw [if_neg (by omega), if_neg (by omega)]
set_option maxHeartbeats 1600000 in
set_option maxRecDepth 100000 in
theorem both_step {g gf gm gl p k r h N : Nat} {f s : Int} (OK : Ok p f s) (TO : TabOk p k r) (hh : h = 2 ^ k / 2) (hN : N ≤ 1048576) (m H : Nat) (hm : m + 1 ≤ k) (hH : H = 2 ^ m) (IH : UpIs g gf gm gl p k r h N f s m H)
    (b n off : Nat) (X : Nat → Int) (w : World) (E : EnvT w g gf gm gl p k r h N f s X) (hoff : off + 2 * H ≤ N) (hb : b < 2 ^ (k - (m + 1))) (hn1 : H ≤ n) (hn : n ≤ 2 * H) :
    Calls Tryz.prog 87 #[.pointer (some ⟨g, 0, none⟩), .slice (some ⟨gl, off, none⟩) (2 * H : Nat) (2 * H : Nat), .int .i64 b, .int .i64 n] w fun e w' =>
      e = .returned (.tuple #[]) ∧ ∃ Y, EnvT w' g gf gm gl p k r h N f s Y ∧ OnlyB gl w w' ∧ (∀ j, j < N → (j < off ∨ off + 2 * H ≤ j) → Y j = X j) ∧ Mxd p r k (m + 1) b n (fun j => Y (off + j)) (fun j => X (off + j)) := by
  have H0 : 0 < H := by rw [hH]; exact Nat.two_pow_pos m
  have k0 : 0 < k := by omega
  have ho := TO.odd k0
  have p2 := TO.pri.1
  have kk : 2 * 2 ^ (k - (m + 1)) = 2 ^ (k - m) := by
    rw [show k - m = k - (m + 1) + 1 by omega, Nat.pow_succ]
    omega
  have hb1 : 2 * b < 2 ^ (k - m) := by omega
  have hbh : b < h := by
    have h1 : 2 ^ (k - m) ≤ 2 ^ k := Nat.pow_le_pow_right (by decide) (by omega)
    omega
  have hc : nd r k (k - m) (2 * b) = pt r k b := nd_pt _ (by omega) hb1
  have h20 : h ≤ 1048576 := by
    have : 2 ^ k ≤ 2 ^ 20 := Nat.pow_le_pow_right (by decide) TO.k20
    omega
  have fv := fmp_nn (p := p) (r := r) (k := k) (b := b) (by omega)
  have fz := fmp_pt (p := p) (r := r) (b := b) k0
  obtain ⟨c, hcd⟩ : ∃ c, c = pt r k b := ⟨_, rfl⟩
  rw [← hcd] at hc fz
  have HV := hid (halves_any gl off H w H0 (by omega))
  have TM : Hid (∀ W X i, EnvT W g gf gm gl p k r h N f s X → i < N → Calls Tryz.prog 68 #[.pointer (some ⟨gf, 0, none⟩), .int .u64 (X i), .int .u64 (fmp p r k b)] W fun e w' => e = .returned (.tuple #[.int .u64 (X i * c % p), .int .i64 0]) ∧ ∃ k, w' = W.drewN k) :=
    fun W X i E hi => times_form gf p f s (X i) (fmp p r k b) c W E.pln.fld OK (E.bnd i hi).1 fv.1 ho fz
  have AD : Hid (∀ W X x y, EnvT W g gf gm gl p k r h N f s X → 0 ≤ x → 0 ≤ y → Calls Tryz.prog 85 #[.pointer (some ⟨gf, 0, none⟩), .int .u64 x, .int .u64 y] W fun e w' => e = .returned (.int .u64 ((x + y) % p)) ∧ ∃ k, w' = W.drewN k) :=
    fun W X x y E hx hy => add_q gf p f s x y W E.pln.fld OK hx hy
  have SU : Hid (∀ W X x y, EnvT W g gf gm gl p k r h N f s X → 0 ≤ x → 0 ≤ y → Calls Tryz.prog 69 #[.pointer (some ⟨gf, 0, none⟩), .int .u64 x, .int .u64 y] W fun e w' => e = .returned (.int .u64 ((x - y) % p)) ∧ ∃ k, w' = W.drewN k) :=
    fun W X x y E hx hy => sub_q gf p f s x y W E.pln.fld OK hx hy
  have c3 : Hid (∀ W X, EnvT W g gf gm gl p k r h N f s X → W.cell? ⟨g, 3, none⟩ = some (.slice (some ⟨gm, 0, none⟩) h h) ∧ W.cell? ⟨gm, b, none⟩ = some (.int .u64 (fmp p r k b))) := fun W X E => ⟨E.pln.tc.cell3, E.pln.row.cell hbh⟩
  have hb2 : 2 * b + 1 < 2 ^ (k - m) := by omega
  obtain ⟨iv, z, ⟨iv0, ivz, izc⟩, IVC⟩ := inverse_any g gf gm p k r h b f s OK TO hh hbh
  rw [← hcd] at izc
  have IV := hid (fun q => IVC (w.drewN q) (E.pln.drew q))
  have IV2 : Hid (∀ q q', Calls Tryz.prog 96 #[.pointer (some ⟨g, 0, none⟩), .int .i64 b] ((w.drewN q).drewN q') fun e w' => e = .returned (.int .u64 iv) ∧ ∃ c, w' = ((w.drewN q).drewN q').drewN c) := fun q q' => IVC _ ((E.pln.drew q).drew q')
  have TI : Hid (∀ W X x, EnvT W g gf gm gl p k r h N f s X → 0 ≤ x → Calls Tryz.prog 68 #[.pointer (some ⟨gf, 0, none⟩), .int .u64 x, .int .u64 iv] W fun e w' => e = .returned (.tuple #[.int .u64 (x * z % p), .int .i64 0]) ∧ ∃ k, w' = W.drewN k) :=
    fun W X x E hx => times_form gf p f s x iv z W E.pln.fld OK hx iv0 ho ivz
  have HL : Hid (∀ W X (x : Int), EnvT W g gf gm gl p k r h N f s X → 0 ≤ x ∧ x < p → Calls Tryz.prog 97 #[.pointer (some ⟨g, 0, none⟩), .int .u64 x] W fun e w' => e = .returned (.int .u64 (hv p x)) ∧ w' = W) :=
    fun W X x E hx => halved_any g gf gm p k r h f s x W E.pln TO.h63 hx ho
  have FIN : Hid (∀ (w' : World) (Y1 G1 Y2 F2 G2 : Nat → Int), (∀ j, j < N → (j < off ∨ off + H ≤ j) → Y1 j = X j) → Mxd p r k m (2 * b) H (fun j => Y1 (off + j)) (fun j => X (off + j)) →
      (G1 = fun j => (Y1 (j - H) - (Y1 j * c % p + Y1 j * c % p) % p) % p) →
      (∀ j, j < N → (j < off + H ∨ off + H + H ≤ j) → Y2 j = updw G1 Y1 (off + H + (n - H)) (off + H + H) j) → Mxd p r k m (2 * b + 1) (n - H) (fun j => Y2 (off + H + j)) (fun j => updw G1 Y1 (off + H + (n - H)) (off + H + H) (off + H + j)) →
      (F2 = fun j => hv p ((Y2 j + Y2 (j + H)) % p)) → (G2 = fun j => hv p ((Y2 (j - H) - Y2 j) % p * z % p)) → EnvT w' g gf gm gl p k r h N f s (upb F2 G2 Y2 off H H) → OnlyB gl w w' →
      ∃ Y, EnvT w' g gf gm gl p k r h N f s Y ∧ OnlyB gl w w' ∧ (∀ j, j < N → (j < off ∨ off + 2 * H ≤ j) → Y j = X j) ∧ Mxd p r k (m + 1) b n (fun j => Y (off + j)) (fun j => X (off + j))) := by
    intro w' Y1 G1 Y2 F2 G2 a1 a2 hG1 b1 b2 hF2 hG2 E2 O2
    have lo : ∀ j, j < H → Y2 (off + j) = Y1 (off + j) := fun j hj => by rw [b1 _ (by omega) (by omega), updw_off (by omega)]
    have hx1 : ∀ j, j < H → Y1 (off + H + j) = X (off + (j + H)) := fun j hj => by rw [a1 _ (by omega) (by omega), show off + H + j = off + (j + H) by omega]
    have hf := half_is ho
    have em : ∀ x : Int, 0 ≤ x % (p : Int) ∧ x % (p : Int) < p := fun x => ⟨Int.emod_nonneg _ (by omega), Int.emod_lt_of_pos _ (by omega)⟩
    have up : ∀ j, upb F2 G2 Y2 off H H (off + j) = if j < H then F2 (off + j) else if j < H + H then G2 (off + j) else Y2 (off + j) := fun j => by
      unfold upb
      by_cases q1 : j < H
      · rw [if_pos (by omega), if_pos q1]
      · rw [if_neg (by omega), if_neg q1]
        by_cases q2 : j < H + H
        · rw [if_pos (by omega), if_pos q2]
        · rw [if_neg (by omega), if_neg q2]
    refine ⟨_, E2, O2, fun j hj hr => ?_, ?_⟩
    · show upb F2 G2 Y2 off H H j = X j
      unfold upb
      rw [if_neg (by omega), if_neg (by omega), b1 j hj (by omega), updw_off (by omega), a1 j hj (by omega)]
    · refine Mxd.great (lo := fun j => Y1 (off + j)) (hi := fun j => Y2 (off + H + j)) (c := ((p : Int) + 1) / 2) (d := z * (((p : Int) + 1) / 2)) (by omega) hf ?_ (fun i hi => a2.1 i (by omega) hi) ?_ (fun j hj => ?_) (fun j hj => ?_)
      · rw [hc]
        have := (izc).mul (Cg.rfl (p := p) (a := ((p : Int) + 1) / 2))
        rw [Int.one_mul] at this
        exact (Cg.of_eq (by rw [Int.mul_right_comm, Int.mul_comm z c])).trans this
      · rw [← hH]
        refine b2.cg fun i hi => ?_
        show Cg p (if i < n - H then X (off + (i + H)) else Y1 (off + i) - 2 * (nd r k (k - m) (2 * b) * X (off + (i + H)))) (updw G1 Y1 (off + H + (n - H)) (off + H + H) (off + H + i))
        by_cases e : i < n - H
        · rw [if_pos e, updw_off (by omega), hx1 i (by omega)]; exact Cg.rfl
        · rw [if_neg e, updw_in (by omega), hG1, hc]
          show Cg p _ ((Y1 (off + H + i - H) - (Y1 (off + H + i) * c % p + Y1 (off + H + i) * c % p) % p) % p)
          rw [hx1 i (by omega), show off + H + i - H = off + i by omega]
          refine Cg.symm (Cg.mod.trans (Cg.rfl.sub (Cg.mod.trans ?_)))
          have q := (Cg.mod (p := p) (a := X (off + (i + H)) * c)).add (Cg.mod (p := p) (a := X (off + (i + H)) * c))
          exact q.trans (Cg.of_eq (by rw [Int.mul_comm c]; omega))
      · show Cg p (upb F2 G2 Y2 off H H (off + j)) ((Y1 (off + j) + Y2 (off + H + j)) * (((p : Int) + 1) / 2))
        rw [up j, if_pos (by omega), hF2]
        show Cg p (hv p ((Y2 (off + j) + Y2 (off + j + H)) % p)) _
        rw [lo j (by omega), show off + j + H = off + H + j by omega]
        exact (half_said hf (hv_said (em _) ho).2).trans (Cg.mod.mul Cg.rfl)
      · show Cg p (upb F2 G2 Y2 off H H (off + (j + 2 ^ m))) ((Y1 (off + j) - Y2 (off + H + j)) * (z * (((p : Int) + 1) / 2)))
        rw [up (j + 2 ^ m), if_neg (by omega), if_pos (by omega), hG2, ← hH]
        show Cg p (hv p ((Y2 (off + (j + H) - H) - Y2 (off + (j + H))) % p * z % p)) _
        rw [show off + (j + H) - H = off + j by omega, show off + (j + H) = off + H + j by omega, lo j (by omega), ← Int.mul_assoc]
        exact (half_said hf (hv_said (em _) ho).2).trans ((Cg.mod.trans (Cg.mod.mul Cg.rfl)).mul Cg.rfl)
  have EE := hid E
  have HIH := hid IH
  obtain ⟨D, hD⟩ : ∃ D, D = 2 * H := ⟨_, rfl⟩
  obtain ⟨b2, hb2e⟩ : ∃ b2, b2 = 2 * b := ⟨_, rfl⟩
  obtain ⟨b3, hb3e⟩ : ∃ b3, b3 = 2 * b + 1 := ⟨_, rfl⟩
  obtain ⟨mo, hmo⟩ : ∃ mo, mo = n - H := ⟨_, rfl⟩
  have hbh' : (b : Int) < (h : Int) := by omega
  have w1 : IntKind.i64.wrap (b2 : Int) = (b2 : Int) := by rw [IntKind.wrap_i64]; omega
  have w2 : IntKind.i64.wrap (b3 : Int) = (b3 : Int) := by rw [IntKind.wrap_i64]; omega
  have w4 : IntKind.i64.wrap (mo : Int) = (mo : Int) := by rw [IntKind.wrap_i64]; omega
  have c2b : 2 * (b : Int) = (b2 : Int) := by omega
  have c2c : (b2 : Int) + 1 = (b3 : Int) := by omega
  have cmo : (n : Int) - (H : Int) = (mo : Int) := by omega
  rw [← hb3e, ← hb2e, ← hD, ← hmo] at FIN
  rw [← hb2e] at hb1
  rw [← hb3e] at hb2
  have z1 : off + H + H ≤ N := by omega
  have z2 : mo ≤ H := by omega
  rw [← hD] at HV ⊢
  have H20 : H ≤ 1048576 := by omega
  clear E IH hb kk fv fz hcd hc hb2e hb3e hH hh hD hoff hmo IVC iv0 ivz izc
  generalize fmp p r k b = v at *
  go_enter Tryz.func87, Tryz.ntmps87
  go_wp2_with fail
  refine HV.out.mono ?_
  rintro e w3 ⟨rfl, q, rfl⟩
  have E1 := hid (EE.out.drew q)
  have O1 := hid ((OnlyB.refl gl w).drew q)
  have cc := c3.out _ _ E1.out
  obtain ⟨cc3, ccb⟩ := cc
  have IV3 := hid (IV2.out q)
  clear HV IV IV2
  generalize w.drewN q = w1 at *
  go_wp2_with fail
  go_quiet ((go_at_call 96; exact Calls.quiet_of (IV3.out _)))
  rename_i nq
  have E2 := hid (E1.out.drew nq)
  have O2 := hid (O1.out.drew nq)
  have I1 := hid (HIH.out b2 H off _ _ E2.out (by omega) hb1 (Nat.le_refl _))
  clear E1 O1 IV3 cc3 ccb c3 EE
  generalize w1.drewN nq = w5 at *
  go_wp2_with fail
  refine I1.out.mono ?_
  rintro e w4 ⟨rfl, Y1, E4, O4, a1, a2⟩
  have O5 := hid (O2.out.trans O4)
  have E5 := hid E4
  obtain ⟨G1, hG1⟩ : ∃ G1 : Nat → Int, G1 = fun j => (Y1 (j - H) - (Y1 j * c % p + Y1 j * c % p) % p) % p := ⟨_, rfl⟩
  have F8 := hid (fun w' Y2 F2 G2 => FIN.out w' Y1 G1 Y2 F2 G2 a1 a2 hG1)
  have HG1 := hid hG1
  clear I1 E4 O4 a1 a2 FIN hG1 E2 O2
  go_wp2
  go_loopw [13] (fun iv wr => ∃ (i : Nat), iv = .int .i64 i ∧ mo ≤ i ∧ i ≤ H ∧ Hid (EnvT wr g gf gm gl p k r h N f s (updw G1 Y1 (off + H + mo) (off + H + i))) ∧ Hid (OnlyB gl w wr)) (fun iv _ => ((H : Int) - intOf iv).toNat)
  case atStart => exact ⟨mo, rfl, Nat.le_refl _, z2, E5.out.eq (fun j _ => (updw_zero j).symm), O5.out⟩
  case round =>
    obtain ⟨i, rfl, hni, hi, Ei, Oi⟩ := hrel
    by_cases him : i = H
    · have him' : ¬ (i : Int) < (H : Int) := by omega
      obtain rfl := him
      have I1 := hid (HIH.out b3 mo (off + i) _ wr Ei.out z1 hb2 z2)
      clear HIH E5 O5 HG1
      go_wp2_with fail
      refine I1.out.mono ?_
      rintro e w4 ⟨rfl, Y2, E4, O4, a1, a2⟩
      have O6 := hid (Oi.out.trans O4)
      have E6 := hid E4
      obtain ⟨F2, hF2⟩ : ∃ F2 : Nat → Int, F2 = fun j => hv p ((Y2 j + Y2 (j + i)) % p) := ⟨_, rfl⟩
      obtain ⟨G2, hG2⟩ : ∃ G2 : Nat → Int, G2 = fun j => hv p ((Y2 (j - i) - Y2 j) % p * z % p) := ⟨_, rfl⟩
      have F9 := hid (fun w' => F8.out w' Y2 F2 G2 a1 a2 hF2 hG2)
      have HF2 := hid hF2
      have HG2 := hid hG2
      clear I1 E4 O4 a1 a2 F8 hF2 hG2 Ei Oi
      go_wp2
      go_loopw [93] (fun iv wr => ∃ (t : Nat), iv = .int .i64 t ∧ t ≤ i ∧ Hid (EnvT wr g gf gm gl p k r h N f s (upb F2 G2 Y2 off i t)) ∧ Hid (OnlyB gl w wr)) (fun iv _ => ((i : Int) - intOf iv).toNat)
      case atStart => exact ⟨0, rfl, Nat.zero_le _, E6.out.eq (fun j _ => (upb_zero j).symm), O6.out⟩
      case round =>
        obtain ⟨t, rfl, ht, Et, Ot⟩ := hrel
        by_cases htm : t = i
        · have htm' : ¬ (t : Int) < (i : Int) := by omega
          obtain rfl := htm
          have F10 := hid (F9.out _ Et.out Ot.out)
          clear F9 Et Ot E6 O6 HF2 HG2 TM SU AD TI HL
          go_wp2
          go_end0
          exact ⟨rfl, F10.out⟩
        · have htm' : (t : Int) < (i : Int) := by omega
          have ht' : t < i := by omega
          have cf := Et.out.pln.tc.cell0
          have cl := Et.out.row.cell (i := off + t) (by omega)
          have ch := Et.out.row.cell (i := off + i + t) (by omega)
          have fl := Et.out.row.frozen (off + t)
          have fh := Et.out.row.frozen (off + i + t)
          have X0 := Et.out.bnd (off + t) (by omega)
          have X1 := Et.out.bnd (off + i + t) (by omega)
          obtain ⟨d1, d2⟩ := upb_at (F := F2) (G := G2) (X := Y2) (off := off) ht'
          rw [d1] at cl X0
          rw [d2] at ch X1
          have A1 := hid (fun q => AD.out _ _ (Y2 (off + t)) (Y2 (off + i + t)) (Et.out.drew q) X0.1 X1.1)
          have S1 := hid (fun q => SU.out _ _ (Y2 (off + t)) (Y2 (off + i + t)) (Et.out.drew q) X0.1 X1.1)
          have em : ∀ x : Int, 0 ≤ x % (p : Int) ∧ x % (p : Int) < p := fun x => ⟨Int.emod_nonneg _ (by omega), Int.emod_lt_of_pos _ (by omega)⟩
          have T1 := hid (fun (W : World) (E' : EnvT W g gf gm gl p k r h N f s (upb F2 G2 Y2 off i t)) => TI.out W _ ((Y2 (off + t) - Y2 (off + i + t)) % p) E' (em _).1)
          have L1 := hid (fun (W : World) (E' : EnvT W g gf gm gl p k r h N f s (upb F2 G2 Y2 off i t)) => HL.out W _ ((Y2 (off + t) + Y2 (off + i + t)) % p) E' (em _))
          have L2 := hid (fun (W : World) (E' : EnvT W g gf gm gl p k r h N f s (upb F2 G2 Y2 off i t)) => HL.out W _ ((Y2 (off + t) - Y2 (off + i + t)) % p * z % p) E' (em _))
          have v1e : F2 (off + t) = hv p ((Y2 (off + t) + Y2 (off + i + t)) % p) := by rw [HF2.out, show off + i + t = off + t + i by omega]
          have v2e : G2 (off + i + t) = hv p ((Y2 (off + t) - Y2 (off + i + t)) % p * z % p) := by
            rw [HG2.out]
            show hv p ((Y2 (off + i + t - i) - Y2 (off + i + t)) % p * z % p) = _
            rw [show off + i + t - i = off + t by omega]
          have v1b := (hv_said (em (Y2 (off + t) + Y2 (off + i + t))) ho).1
          have v2b := (hv_said (em ((Y2 (off + t) - Y2 (off + i + t)) % p * z)) ho).1
          rw [← v1e] at L1 v1b
          rw [← v2e] at L2 v2b
          have FI : Hid (∀ W : World, EnvT W g gf gm gl p k r h N f s (upb F2 G2 Y2 off i t) → OnlyB gl w W → EnvT ((W.setCell ⟨gl, off + t, none⟩ (.int .u64 (F2 (off + t)))).setCell ⟨gl, off + i + t, none⟩ (.int .u64 (G2 (off + i + t)))) g gf gm gl p k r h N f s (upb F2 G2 Y2 off i (t + 1)) ∧
              OnlyB gl w ((W.setCell ⟨gl, off + t, none⟩ (.int .u64 (F2 (off + t)))).setCell ⟨gl, off + i + t, none⟩ (.int .u64 (G2 (off + i + t))))) := by
            intro W E' O'
            refine ⟨(E'.set (off + t) _ v1b (fun j _ => rfl)).set (off + i + t) _ v2b (fun j _ => ?_), (O'.set _ _).set _ _⟩
            rw [upb_step ht' j]
          clear v1e v2e v1b v2b em d1 d2 X0 X1 HF2 HG2 TM SU AD TI HL F9 E6 O6
          generalize F2 (off + t) = v1 at *
          generalize G2 (off + i + t) = v2 at *
          generalize (Y2 (off + t) + Y2 (off + i + t)) % (p : Int) = s1 at *
          generalize (Y2 (off + t) - Y2 (off + i + t)) % (p : Int) = s2 at *
          generalize s2 * z % (p : Int) = s3 at *
          go_wp2_with fail
          go_quiet (first
            | (go_at_call 85; exact Calls.quiet_of (A1.out _))
            | (go_at_call 69; exact Calls.quiet_of (S1.out _)))
          rename_i nq
          have E2 := hid (Et.out.drew nq)
          have O2 := hid (Ot.out.drew nq)
          have cf' : (wr.drewN nq).cell? ⟨g, 0, none⟩ = some (.pointer (some ⟨gf, 0, none⟩)) := by simpa using cf
          have cl' : (wr.drewN nq).cell? ⟨gl, off + t, none⟩ = some (.int .u64 (Y2 (off + t))) := by simpa using cl
          have ch' : (wr.drewN nq).cell? ⟨gl, off + i + t, none⟩ = some (.int .u64 (Y2 (off + i + t))) := by simpa using ch
          have fl' : (wr.drewN nq).frozen? ⟨gl, off + t, none⟩ = false := by simpa using fl
          have fh' : (wr.drewN nq).frozen? ⟨gl, off + i + t, none⟩ = false := by simpa using fh
          clear cf cl ch fl fh A1 S1 Et Ot
          generalize wr.drewN nq = w2 at *
          go_wp2_with fail
          refine (T1.out _ E2.out).mono ?_
          rintro e w3 ⟨rfl, q3, rfl⟩
          have E3 := hid (E2.out.drew q3)
          have O3 := hid (O2.out.drew q3)
          have cl2 : (w2.drewN q3).cell? ⟨gl, off + t, none⟩ = some (.int .u64 (Y2 (off + t))) := by simpa using cl'
          have ch2 : (w2.drewN q3).cell? ⟨gl, off + i + t, none⟩ = some (.int .u64 (Y2 (off + i + t))) := by simpa using ch'
          have fl2 : (w2.drewN q3).frozen? ⟨gl, off + t, none⟩ = false := by simpa using fl'
          have fh2 : (w2.drewN q3).frozen? ⟨gl, off + i + t, none⟩ = false := by simpa using fh'
          clear cf' cl' ch' fl' fh' T1 E2 O2
          generalize w2.drewN q3 = w6 at *
          have F3 := hid (FI.out _ E3.out O3.out)
          go_wp2_with fail
          refine (L1.out _ E3.out).mono ?_
          rintro e w7 ⟨rfl, hw⟩
          obtain rfl := hw.symm
          go_wp2_with fail
          refine (L2.out _ E3.out).mono ?_
          rintro e w8 ⟨rfl, hw⟩
          obtain rfl := hw.symm
          clear L1 L2 FI E3 O3
          go_wp2
          exact ⟨⟨t + 1, rfl, by omega, F3.out.1, F3.out.2⟩, by simp only [intOf]; omega⟩
    · have him' : (i : Int) < (H : Int) := by omega
      have hi' : i < H := by omega
      have cf := Ei.out.pln.tc.cell0
      have cl := Ei.out.row.cell (i := off + i) (by omega)
      have ch := Ei.out.row.cell (i := off + H + i) (by omega)
      have fh := Ei.out.row.frozen (off + H + i)
      have T1 := hid (fun q => TM.out _ _ (off + H + i) (Ei.out.drew q) (by omega))
      have X0 := Ei.out.bnd (off + i) (by omega)
      rw [updw_off (by omega)] at cl ch T1 X0
      have em : ∀ x : Int, 0 ≤ x % (p : Int) ∧ x % (p : Int) < p := fun x => ⟨Int.emod_nonneg _ (by omega), Int.emod_lt_of_pos _ (by omega)⟩
      have A1 := hid (fun (W : World) (E' : EnvT W g gf gm gl p k r h N f s (updw G1 Y1 (off + H + mo) (off + H + i))) => AD.out W _ (Y1 (off + H + i) * c % p) (Y1 (off + H + i) * c % p) E' (em _).1 (em _).1)
      have S1 := hid (fun (W : World) (E' : EnvT W g gf gm gl p k r h N f s (updw G1 Y1 (off + H + mo) (off + H + i))) => SU.out W _ (Y1 (off + i)) ((Y1 (off + H + i) * c % p + Y1 (off + H + i) * c % p) % p) E' X0.1 (em _).1)
      have ve : G1 (off + H + i) = (Y1 (off + i) - (Y1 (off + H + i) * c % p + Y1 (off + H + i) * c % p) % p) % p := by
        rw [HG1.out]
        show (Y1 (off + H + i - H) - (Y1 (off + H + i) * c % p + Y1 (off + H + i) * c % p) % p) % p = _
        rw [show off + H + i - H = off + i by omega]
      rw [← ve] at S1
      have vb : 0 ≤ G1 (off + H + i) ∧ G1 (off + H + i) < p := by rw [ve]; exact em _
      have FI : Hid (∀ W : World, EnvT W g gf gm gl p k r h N f s (updw G1 Y1 (off + H + mo) (off + H + i)) → OnlyB gl w W → EnvT (W.setCell ⟨gl, off + H + i, none⟩ (.int .u64 (G1 (off + H + i)))) g gf gm gl p k r h N f s (updw G1 Y1 (off + H + mo) (off + H + (i + 1))) ∧ OnlyB gl w (W.setCell ⟨gl, off + H + i, none⟩ (.int .u64 (G1 (off + H + i))))) := fun W E' O' =>
        ⟨E'.set (off + H + i) _ vb (fun j _ => updw_step (a := off + H + mo) (b := off + H + i) (by omega) j), O'.set _ _⟩
      clear vb ve em X0 F8 E5 O5 HG1 TM SU AD HIH TI HL
      generalize Y1 (off + H + i) * c % (p : Int) = tt at *
      generalize (tt + tt) % (p : Int) = t2 at *
      generalize G1 (off + H + i) = v1 at *
      go_wp2_with fail
      go_quiet ((go_at_call 68; exact Calls.quiet_of (T1.out _)))
      rename_i nq
      have cf' : (wr.drewN nq).cell? ⟨g, 0, none⟩ = some (.pointer (some ⟨gf, 0, none⟩)) := by simpa using cf
      have cl' : (wr.drewN nq).cell? ⟨gl, off + i, none⟩ = some (.int .u64 (Y1 (off + i))) := by simpa using cl
      have ch' : (wr.drewN nq).cell? ⟨gl, off + H + i, none⟩ = some (.int .u64 (Y1 (off + H + i))) := by simpa using ch
      have fh' : (wr.drewN nq).frozen? ⟨gl, off + H + i, none⟩ = false := by simpa using fh
      have E2 := hid (Ei.out.drew nq)
      have O2 := hid (Oi.out.drew nq)
      clear Ei Oi
      clear cf cl ch fh T1
      generalize wr.drewN nq = w2 at *
      have A2 := hid (fun q => A1.out _ (E2.out.drew q))
      have S2 := hid (fun q => S1.out _ (E2.out.drew q))
      go_wp2_with fail
      refine wp_region_last (by kernel_rfl) (by kernel_rfl) (by kernel_rfl) (by kernel_rfl) (by decide) ?_
      simp only [stillLast, still, lastOf]
      repeat (quiet_step (first
        | (go_at_call 85; exact Calls.quiet_of (A2.out _))
        | (go_at_call 69; exact Calls.quiet_of (S2.out _))))
      refine wpQuiet_nil ?_
      intro _ hw'
      obtain ⟨nq, hw''⟩ := hw'
      subst hw''
      have F3 := hid (FI.out _ (E2.out.drew nq) (O2.out.drew nq))
      have ch2 : (w2.drewN nq).cell? ⟨gl, off + H + i, none⟩ = some (.int .u64 (Y1 (off + H + i))) := by simpa using ch'
      have fh2 : (w2.drewN nq).frozen? ⟨gl, off + H + i, none⟩ = false := by simpa using fh'
      clear cf' cl' ch' fh' A1 A2 S1 S2 FI E2 O2
      generalize w2.drewN nq = w3 at *
      go_wp2
      exact ⟨⟨i + 1, rfl, by omega, by omega, F3.out.1, F3.out.2⟩, by simp only [intOf]; omega⟩
end Go.Proofs.YtocfenjampmdlabGreatDoor
