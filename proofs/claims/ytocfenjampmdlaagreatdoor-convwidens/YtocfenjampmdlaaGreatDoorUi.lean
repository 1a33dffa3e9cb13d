/- The way back where all values of the lower half are known: what upByBoth leaves, in the landed tft. -/
/- Blocks up and down, and what values and coefficients answer, in the landed tft. -/
/- What values and coefficients answer, in the landed tft. -/
import Derived.Test.YtocfenjampmdlaaGreatDoorUf
import Derived.Test.YtocfenjampmdlaaGreatDoorVo
import Derived.OwnWalk
namespace Go.Proofs.YtocfenjampmdlaaGreatDoor
open Go.RowKit Num Nmb

/-- the first i pairs of a block's halves, made what they are half of. -/
def upb (F G X : Nat → Int) (off H i j : Nat) : Int := if off ≤ j ∧ j < off + i then F j else if off + H ≤ j ∧ j < off + H + i then G j else X j
theorem upb_at {F G X : Nat → Int} {off H i : Nat} (hi : i < H) : upb F G X off H i (off + i) = X (off + i) ∧ upb F G X off H i (off + H + i) = X (off + H + i) := by
  unfold upb
  exact ⟨by rw [if_neg (by omega), if_neg (by omega)], by rw [if_neg (by omega), if_neg (by omega)]⟩
theorem upb_step {F G X : Nat → Int} {off H i : Nat} (hi : i < H) (j : Nat) :
    upb F G X off H (i + 1) j = if j = off + H + i then G (off + H + i) else if j = off + i then F (off + i) else upb F G X off H i j := by
  unfold upb
  by_cases h1 : j = off + H + i
  · subst h1
    rw [if_neg (by omega), if_pos (by omega), if_pos rfl]
  · rw [if_neg h1]
    by_cases h2 : j = off + i
    · subst h2
      rw [if_pos (by omega), if_pos rfl]
    · rw [if_neg h2]
      by_cases h3 : off ≤ j ∧ j < off + i
      · rw [if_pos h3, if_pos (by omega)]
      · rw [if_neg h3, if_neg (by omega)]
        by_cases h4 : off + H ≤ j ∧ j < off + H + i
        · rw [if_pos h4, if_pos (by omega)]
        · rw [if_neg h4, if_neg (by omega)]
theorem upb_zero {F G X : Nat → Int} {off H : Nat} (j : Nat) : upb F G X off H 0 j = X j := by
  unfold upb
  rw [if_neg (by omega), if_neg (by omega)]
set_option maxHeartbeats 1600000 in
set_option maxRecDepth 100000 in
theorem both_step {g gf gm gl p k r h N : Nat} {f s : Int} (OK : Ok p f s) (TO : TabOk p k r) (hh : h = 2 ^ k / 2) (hN : N ≤ 1048576) (m H : Nat) (hm : m + 1 ≤ k) (hH : H = 2 ^ m) (IH : UpIs g gf gm gl p k r h N f s m H)
    (b n off : Nat) (X : Nat → Int) (w : World) (E : EnvT w g gf gm gl p k r h N f s X) (hoff : off + 2 * H ≤ N) (hb : b < 2 ^ (k - (m + 1))) (hn1 : H ≤ n) (hn : n ≤ 2 * H) :
    Calls Tryz.prog 114 #[.pointer (some ⟨g, 0, none⟩), .slice (some ⟨gl, off, none⟩) (2 * H : Nat) (2 * H : Nat), .int .i64 b, .int .i64 n] w fun e w' =>
      e = .returned (.tuple #[]) ∧ ∃ Y, EnvT w' g gf gm gl p k r h N f s Y ∧ OnlyB gl w w' ∧ (∀ j, j < N → (j < off ∨ off + 2 * H ≤ j) → Y j = X j) ∧ Mxd p r k (m + 1) b n (fun j => Y (off + j)) (fun j => X (off + j)) := by
  have H0 : 0 < H := by rw [hH]; exact Nat.two_pow_pos m
  have k0 : 0 < k := by omega
  have ho := TO.odd k0
  have p2 := TO.pri.1
  have kk : 2 * 2 ^ (k - (m + 1)) = 2 ^ (k - m) := by
    rw [show k - m = k - (m + 1) + 1 by omega, Nat.pow_succ]
    omega
  have hb1 : 2 * b < 2 ^ (k - m) := by omega
  have hbh : b < h := by
    have h1 : 2 ^ (k - m) ≤ 2 ^ k := Nat.pow_le_pow_right (by decide) (by omega)
    omega
  have hc : nd r k (k - m) (2 * b) = pt r k b := nd_pt _ (by omega) hb1
  have h20 : h ≤ 1048576 := by
    have : 2 ^ k ≤ 2 ^ 20 := Nat.pow_le_pow_right (by decide) TO.k20
    omega
  have fv := fmp_nn (p := p) (r := r) (k := k) (b := b) (by omega)
  have fz := fmp_pt (p := p) (r := r) (b := b) k0
  obtain ⟨c, hcd⟩ : ∃ c, c = pt r k b := ⟨_, rfl⟩
  rw [← hcd] at hc fz
  have HV := hid (halves_any gl off H w H0 (by omega))
  have TM : Hid (∀ W X i, EnvT W g gf gm gl p k r h N f s X → i < N → Calls Tryz.prog 95 #[.pointer (some ⟨gf, 0, none⟩), .int .u64 (X i), .int .u64 (fmp p r k b)] W fun e w' => e = .returned (.tuple #[.int .u64 (X i * c % p), .int .i64 0]) ∧ ∃ k, w' = W.drewN k) :=
    fun W X i E hi => times_form gf p f s (X i) (fmp p r k b) c W E.pln.fld OK (E.bnd i hi).1 fv.1 ho fz
  have AD : Hid (∀ W X x y, EnvT W g gf gm gl p k r h N f s X → 0 ≤ x → 0 ≤ y → Calls Tryz.prog 112 #[.pointer (some ⟨gf, 0, none⟩), .int .u64 x, .int .u64 y] W fun e w' => e = .returned (.int .u64 ((x + y) % p)) ∧ ∃ k, w' = W.drewN k) :=
    fun W X x y E hx hy => add_q gf p f s x y W E.pln.fld OK hx hy
  have SU : Hid (∀ W X x y, EnvT W g gf gm gl p k r h N f s X → 0 ≤ x → 0 ≤ y → Calls Tryz.prog 96 #[.pointer (some ⟨gf, 0, none⟩), .int .u64 x, .int .u64 y] W fun e w' => e = .returned (.int .u64 ((x - y) % p)) ∧ ∃ k, w' = W.drewN k) :=
    fun W X x y E hx hy => sub_q gf p f s x y W E.pln.fld OK hx hy
  have c3 : Hid (∀ W X, EnvT W g gf gm gl p k r h N f s X → W.cell? ⟨g, 3, none⟩ = some (.slice (some ⟨gm, 0, none⟩) h h) ∧ W.cell? ⟨gm, b, none⟩ = some (.int .u64 (fmp p r k b))) := fun W X E => ⟨E.pln.tc.cell3, E.pln.row.cell hbh⟩
  have hb2 : 2 * b + 1 < 2 ^ (k - m) := by omega
  obtain ⟨iv, z, ⟨iv0, ivz, izc⟩, IVC⟩ := inverse_any g gf gm p k r h b f s OK TO hh hbh
  rw [← hcd] at izc
  have IV := hid (fun q => IVC (w.drewN q) (E.pln.drew q))
  have IV2 : Hid (∀ q q', Calls Tryz.prog 123 #[.pointer (some ⟨g, 0, none⟩), .int .i64 b] ((w.drewN q).drewN q') fun e w' => e = .returned (.int .u64 iv) ∧ ∃ c, w' = ((w.drewN q).drewN q').drewN c) := fun q q' => IVC _ ((E.pln.drew q).drew q')
  have TI : Hid (∀ W X x, EnvT W g gf gm gl p k r h N f s X → 0 ≤ x → Calls Tryz.prog 95 #[.pointer (some ⟨gf, 0, none⟩), .int .u64 x, .int .u64 iv] W fun e w' => e = .returned (.tuple #[.int .u64 (x * z % p), .int .i64 0]) ∧ ∃ k, w' = W.drewN k) :=
    fun W X x E hx => times_form gf p f s x iv z W E.pln.fld OK hx iv0 ho ivz
  have HL : Hid (∀ W X (x : Int), EnvT W g gf gm gl p k r h N f s X → 0 ≤ x ∧ x < p → Calls Tryz.prog 124 #[.pointer (some ⟨g, 0, none⟩), .int .u64 x] W fun e w' => e = .returned (.int .u64 (hv p x)) ∧ w' = W) :=
    fun W X x E hx => halved_any g gf gm p k r h f s x W E.pln TO.h63 hx ho
  have FIN : Hid (∀ (w' : World) (Y1 G1 Y2 F2 G2 : Nat → Int), (∀ j, j < N → (j < off ∨ off + H ≤ j) → Y1 j = X j) → Mxd p r k m (2 * b) H (fun j => Y1 (off + j)) (fun j => X (off + j)) →
      (G1 = fun j => (Y1 (j - H) - (Y1 j * c % p + Y1 j * c % p) % p) % p) →
      (∀ j, j < N → (j < off + H ∨ off + H + H ≤ j) → Y2 j = updw G1 Y1 (off + H + (n - H)) (off + H + H) j) → Mxd p r k m (2 * b + 1) (n - H) (fun j => Y2 (off + H + j)) (fun j => updw G1 Y1 (off + H + (n - H)) (off + H + H) (off + H + j)) →
      (F2 = fun j => hv p ((Y2 j + Y2 (j + H)) % p)) → (G2 = fun j => hv p ((Y2 (j - H) - Y2 j) % p * z % p)) → EnvT w' g gf gm gl p k r h N f s (upb F2 G2 Y2 off H H) → OnlyB gl w w' →
      ∃ Y, EnvT w' g gf gm gl p k r h N f s Y ∧ OnlyB gl w w' ∧ (∀ j, j < N → (j < off ∨ off + 2 * H ≤ j) → Y j = X j) ∧ Mxd p r k (m + 1) b n (fun j => Y (off + j)) (fun j => X (off + j))) := by
    intro w' Y1 G1 Y2 F2 G2 a1 a2 hG1 b1 b2 hF2 hG2 E2 O2
    have lo : ∀ j, j < H → Y2 (off + j) = Y1 (off + j) := fun j hj => by rw [b1 _ (by omega) (by omega), updw_off (by omega)]
    have hx1 : ∀ j, j < H → Y1 (off + H + j) = X (off + (j + H)) := fun j hj => by rw [a1 _ (by omega) (by omega), show off + H + j = off + (j + H) by omega]
    have hf := half_is ho
    have em : ∀ x : Int, 0 ≤ x % (p : Int) ∧ x % (p : Int) < p := fun x => ⟨Int.emod_nonneg _ (by omega), Int.emod_lt_of_pos _ (by omega)⟩
    have up : ∀ j, upb F2 G2 Y2 off H H (off + j) = if j < H then F2 (off + j) else if j < H + H then G2 (off + j) else Y2 (off + j) := fun j => by
      unfold upb
      by_cases q1 : j < H
      · rw [if_pos (by omega), if_pos q1]
      · rw [if_neg (by omega), if_neg q1]
        by_cases q2 : j < H + H
        · rw [if_pos (by omega), if_pos q2]
        · rw [if_neg (by omega), if_neg q2]
    refine ⟨_, E2, O2, fun j hj hr => ?_, ?_⟩
    · show upb F2 G2 Y2 off H H j = X j
      unfold upb
      rw [if_neg (by omega), if_neg (by omega), b1 j hj (by omega), updw_off (by omega), a1 j hj (by omega)]
    · refine Mxd.great (lo := fun j => Y1 (off + j)) (hi := fun j => Y2 (off + H + j)) (c := ((p : Int) + 1) / 2) (d := z * (((p : Int) + 1) / 2)) (by omega) hf ?_ (fun i hi => a2.1 i (by omega) hi) ?_ (fun j hj => ?_) (fun j hj => ?_)
      · rw [hc]
        have := (izc).mul (Cg.rfl (p := p) (a := ((p : Int) + 1) / 2))
        rw [Int.one_mul] at this
        exact (Cg.of_eq (by rw [Int.mul_right_comm, Int.mul_comm z c])).trans this
      · rw [← hH]
        refine b2.cg fun i hi => ?_
        show Cg p (if i < n - H then X (off + (i + H)) else Y1 (off + i) - 2 * (nd r k (k - m) (2 * b) * X (off + (i + H)))) (updw G1 Y1 (off + H + (n - H)) (off + H + H) (off + H + i))
        by_cases e : i < n - H
        · rw [if_pos e, updw_off (by omega), hx1 i (by omega)]; exact Cg.rfl
        · rw [if_neg e, updw_in (by omega), hG1, hc]
          show Cg p _ ((Y1 (off + H + i - H) - (Y1 (off + H + i) * c % p + Y1 (off + H + i) * c % p) % p) % p)
          rw [hx1 i (by omega), show off + H + i - H = off + i by omega]
          refine Cg.symm (Cg.mod.trans (Cg.rfl.sub (Cg.mod.trans ?_)))
          have q := (Cg.mod (p := p) (a := X (off + (i + H)) * c)).add (Cg.mod (p := p) (a := X (off + (i + H)) * c))
          exact q.trans (Cg.of_eq (by rw [Int.mul_comm c]; omega))
      · show Cg p (upb F2 G2 Y2 off H H (off + j)) ((Y1 (off + j) + Y2 (off + H + j)) * (((p : Int) + 1) / 2))
        rw [up j, if_pos (by omega), hF2]
        show Cg p (hv p ((Y2 (off + j) + Y2 (off + j + H)) % p)) _
        rw [lo j (by omega), show off + j + H = off + H + j by omega]
        exact (half_said hf (hv_said (em _) ho).2).trans (Cg.mod.mul Cg.rfl)
      · show Cg p (upb F2 G2 Y2 off H H (off + (j + 2 ^ m))) ((Y1 (off + j) - Y2 (off + H + j)) * (z * (((p : Int) + 1) / 2)))
        rw [up (j + 2 ^ m), if_neg (by omega), if_pos (by omega), hG2, ← hH]
        show Cg p (hv p ((Y2 (off + (j + H) - H) - Y2 (off + (j + H))) % p * z % p)) _
        rw [show off + (j + H) - H = off + j by omega, show off + (j + H) = off + H + j by omega, lo j (by omega), ← Int.mul_assoc]
        exact (half_said hf (hv_said (em _) ho).2).trans ((Cg.mod.trans (Cg.mod.mul Cg.rfl)).mul Cg.rfl)
  have EE := hid E
  have HIH := hid IH
  obtain ⟨D, hD⟩ : ∃ D, D = 2 * H := ⟨_, rfl⟩
  obtain ⟨b2, hb2e⟩ : ∃ b2, b2 = 2 * b := ⟨_, rfl⟩
  obtain ⟨b3, hb3e⟩ : ∃ b3, b3 = 2 * b + 1 := ⟨_, rfl⟩
  obtain ⟨mo, hmo⟩ : ∃ mo, mo = n - H := ⟨_, rfl⟩
  have hbh' : (b : Int) < (h : Int) := by omega
  have w1 : IntKind.i64.wrap (b2 : Int) = (b2 : Int) := by rw [IntKind.wrap_i64]; omega
  have w2 : IntKind.i64.wrap (b3 : Int) = (b3 : Int) := by rw [IntKind.wrap_i64]; omega
  have w4 : IntKind.i64.wrap (mo : Int) = (mo : Int) := by rw [IntKind.wrap_i64]; omega
  have c2b : 2 * (b : Int) = (b2 : Int) := by omega
  have c2c : (b2 : Int) + 1 = (b3 : Int) := by omega
  have cmo : (n : Int) - (H : Int) = (mo : Int) := by omega
  rw [← hb3e, ← hb2e, ← hD, ← hmo] at FIN
  rw [← hb2e] at hb1
  rw [← hb3e] at hb2
  have z1 : off + H + H ≤ N := by omega
  have z2 : mo ≤ H := by omega
  rw [← hD] at HV ⊢
  have H20 : H ≤ 1048576 := by omega
  clear E IH hb kk fv fz hcd hc hb2e hb3e hH hh hD hoff hmo IVC iv0 ivz izc
  generalize fmp p r k b = v at *
  go_enter Tryz.func114, Tryz.ntmps114
  go_wp2_with fail
  refine HV.out.mono ?_
  rintro e w3 ⟨rfl, q, rfl⟩
  have E1 := hid (EE.out.drew q)
  have O1 := hid ((OnlyB.refl gl w).drew q)
  have cc := c3.out _ _ E1.out
  obtain ⟨cc3, ccb⟩ := cc
  have IV3 := hid (IV2.out q)
  clear HV IV IV2
  generalize w.drewN q = w1 at *
  go_wp2_with fail
  go_quiet ((go_at_call 123; exact Calls.quiet_of (IV3.out _)))
  rename_i nq
  have E2 := hid (E1.out.drew nq)
  have O2 := hid (O1.out.drew nq)
  have I1 := hid (HIH.out b2 H off _ _ E2.out (by omega) hb1 (Nat.le_refl _))
  clear E1 O1 IV3 cc3 ccb c3 EE
  generalize w1.drewN nq = w5 at *
  go_wp2_with fail
  refine I1.out.mono ?_
  rintro e w4 ⟨rfl, Y1, E4, O4, a1, a2⟩
  have O5 := hid (O2.out.trans O4)
  have E5 := hid E4
  obtain ⟨G1, hG1⟩ : ∃ G1 : Nat → Int, G1 = fun j => (Y1 (j - H) - (Y1 j * c % p + Y1 j * c % p) % p) % p := ⟨_, rfl⟩
  have F8 := hid (fun w' Y2 F2 G2 => FIN.out w' Y1 G1 Y2 F2 G2 a1 a2 hG1)
  have HG1 := hid hG1
  clear I1 E4 O4 a1 a2 FIN hG1 E2 O2
  go_wp2
  go_loopw [13] (fun iv wr => ∃ (i : Nat), iv = .int .i64 i ∧ mo ≤ i ∧ i ≤ H ∧ Hid (EnvT wr g gf gm gl p k r h N f s (updw G1 Y1 (off + H + mo) (off + H + i))) ∧ Hid (OnlyB gl w wr)) (fun iv _ => ((H : Int) - intOf iv).toNat)
  case atStart => exact ⟨mo, rfl, Nat.le_refl _, z2, E5.out.eq (fun j _ => (updw_zero j).symm), O5.out⟩
  case round =>
    obtain ⟨i, rfl, hni, hi, Ei, Oi⟩ := hrel
    by_cases him : i = H
    · have him' : ¬ (i : Int) < (H : Int) := by omega
      obtain rfl := him
      have I1 := hid (HIH.out b3 mo (off + i) _ wr Ei.out z1 hb2 z2)
      clear HIH E5 O5 HG1
      go_wp2_with fail
      refine I1.out.mono ?_
      rintro e w4 ⟨rfl, Y2, E4, O4, a1, a2⟩
      have O6 := hid (Oi.out.trans O4)
      have E6 := hid E4
      obtain ⟨F2, hF2⟩ : ∃ F2 : Nat → Int, F2 = fun j => hv p ((Y2 j + Y2 (j + i)) % p) := ⟨_, rfl⟩
      obtain ⟨G2, hG2⟩ : ∃ G2 : Nat → Int, G2 = fun j => hv p ((Y2 (j - i) - Y2 j) % p * z % p) := ⟨_, rfl⟩
      have F9 := hid (fun w' => F8.out w' Y2 F2 G2 a1 a2 hF2 hG2)
      have HF2 := hid hF2
      have HG2 := hid hG2
      clear I1 E4 O4 a1 a2 F8 hF2 hG2 Ei Oi
      go_wp2
      go_loopw [93] (fun iv wr => ∃ (t : Nat), iv = .int .i64 t ∧ t ≤ i ∧ Hid (EnvT wr g gf gm gl p k r h N f s (upb F2 G2 Y2 off i t)) ∧ Hid (OnlyB gl w wr)) (fun iv _ => ((i : Int) - intOf iv).toNat)
      case atStart => exact ⟨0, rfl, Nat.zero_le _, E6.out.eq (fun j _ => (upb_zero j).symm), O6.out⟩
      case round =>
        obtain ⟨t, rfl, ht, Et, Ot⟩ := hrel
        by_cases htm : t = i
        · have htm' : ¬ (t : Int) < (i : Int) := by omega
          obtain rfl := htm
          have F10 := hid (F9.out _ Et.out Ot.out)
          clear F9 Et Ot E6 O6 HF2 HG2 TM SU AD TI HL
          go_wp2
          go_end0
          exact ⟨rfl, F10.out⟩
        · have htm' : (t : Int) < (i : Int) := by omega
          have ht' : t < i := by omega
          have cf := Et.out.pln.tc.cell0
          have cl := Et.out.row.cell (i := off + t) (by omega)
          have ch := Et.out.row.cell (i := off + i + t) (by omega)
          have fl := Et.out.row.frozen (off + t)
          have fh := Et.out.row.frozen (off + i + t)
          have X0 := Et.out.bnd (off + t) (by omega)
          have X1 := Et.out.bnd (off + i + t) (by omega)
          obtain ⟨d1, d2⟩ := upb_at (F := F2) (G := G2) (X := Y2) (off := off) ht'
          rw [d1] at cl X0
          rw [d2] at ch X1
          have A1 := hid (fun q => AD.out _ _ (Y2 (off + t)) (Y2 (off + i + t)) (Et.out.drew q) X0.1 X1.1)
          have S1 := hid (fun q => SU.out _ _ (Y2 (off + t)) (Y2 (off + i + t)) (Et.out.drew q) X0.1 X1.1)
          have em : ∀ x : Int, 0 ≤ x % (p : Int) ∧ x % (p : Int) < p := fun x => ⟨Int.emod_nonneg _ (by omega), Int.emod_lt_of_pos _ (by omega)⟩
          have T1 := hid (fun (W : World) (E' : EnvT W g gf gm gl p k r h N f s (upb F2 G2 Y2 off i t)) => TI.out W _ ((Y2 (off + t) - Y2 (off + i + t)) % p) E' (em _).1)
          have L1 := hid (fun (W : World) (E' : EnvT W g gf gm gl p k r h N f s (upb F2 G2 Y2 off i t)) => HL.out W _ ((Y2 (off + t) + Y2 (off + i + t)) % p) E' (em _))
          have L2 := hid (fun (W : World) (E' : EnvT W g gf gm gl p k r h N f s (upb F2 G2 Y2 off i t)) => HL.out W _ ((Y2 (off + t) - Y2 (off + i + t)) % p * z % p) E' (em _))
          have v1e : F2 (off + t) = hv p ((Y2 (off + t) + Y2 (off + i + t)) % p) := by rw [HF2.out, show off + i + t = off + t + i by omega]
          have v2e : G2 (off + i + t) = hv p ((Y2 (off + t) - Y2 (off + i + t)) % p * z % p) := by
            rw [HG2.out]
            show hv p ((Y2 (off + i + t - i) - Y2 (off + i + t)) % p * z % p) = _
            rw [show off + i + t - i = off + t by omega]
          have v1b := (hv_said (em (Y2 (off + t) + Y2 (off + i + t))) ho).1
          have v2b := (hv_said (em ((Y2 (off + t) - Y2 (off + i + t)) % p * z)) ho).1
          rw [← v1e] at L1 v1b
          rw [← v2e] at L2 v2b
          have FI : Hid (∀ W : World, EnvT W g gf gm gl p k r h N f s (upb F2 G2 Y2 off i t) → OnlyB gl w W → EnvT ((W.setCell ⟨gl, off + t, none⟩ (.int .u64 (F2 (off + t)))).setCell ⟨gl, off + i + t, none⟩ (.int .u64 (G2 (off + i + t)))) g gf gm gl p k r h N f s (upb F2 G2 Y2 off i (t + 1)) ∧
              OnlyB gl w ((W.setCell ⟨gl, off + t, none⟩ (.int .u64 (F2 (off + t)))).setCell ⟨gl, off + i + t, none⟩ (.int .u64 (G2 (off + i + t))))) := by
            intro W E' O'
            refine ⟨(E'.set (off + t) _ v1b (fun j _ => rfl)).set (off + i + t) _ v2b (fun j _ => ?_), (O'.set _ _).set _ _⟩
            rw [upb_step ht' j]
          clear v1e v2e v1b v2b em d1 d2 X0 X1 HF2 HG2 TM SU AD TI HL F9 E6 O6
          generalize F2 (off + t) = v1 at *
          generalize G2 (off + i + t) = v2 at *
          generalize (Y2 (off + t) + Y2 (off + i + t)) % (p : Int) = s1 at *
          generalize (Y2 (off + t) - Y2 (off + i + t)) % (p : Int) = s2 at *
          generalize s2 * z % (p : Int) = s3 at *
          go_wp2_with fail
          go_quiet (first
            | (go_at_call 112; exact Calls.quiet_of (A1.out _))
            | (go_at_call 96; exact Calls.quiet_of (S1.out _)))
          rename_i nq
          have E2 := hid (Et.out.drew nq)
          have O2 := hid (Ot.out.drew nq)
          have cf' : (wr.drewN nq).cell? ⟨g, 0, none⟩ = some (.pointer (some ⟨gf, 0, none⟩)) := by simpa using cf
          have cl' : (wr.drewN nq).cell? ⟨gl, off + t, none⟩ = some (.int .u64 (Y2 (off + t))) := by simpa using cl
          have ch' : (wr.drewN nq).cell? ⟨gl, off + i + t, none⟩ = some (.int .u64 (Y2 (off + i + t))) := by simpa using ch
          have fl' : (wr.drewN nq).frozen? ⟨gl, off + t, none⟩ = false := by simpa using fl
          have fh' : (wr.drewN nq).frozen? ⟨gl, off + i + t, none⟩ = false := by simpa using fh
          clear cf cl ch fl fh A1 S1 Et Ot
          generalize wr.drewN nq = w2 at *
          go_wp2_with fail
          refine (T1.out _ E2.out).mono ?_
          rintro e w3 ⟨rfl, q3, rfl⟩
          have E3 := hid (E2.out.drew q3)
          have O3 := hid (O2.out.drew q3)
          have cl2 : (w2.drewN q3).cell? ⟨gl, off + t, none⟩ = some (.int .u64 (Y2 (off + t))) := by simpa using cl'
          have ch2 : (w2.drewN q3).cell? ⟨gl, off + i + t, none⟩ = some (.int .u64 (Y2 (off + i + t))) := by simpa using ch'
          have fl2 : (w2.drewN q3).frozen? ⟨gl, off + t, none⟩ = false := by simpa using fl'
          have fh2 : (w2.drewN q3).frozen? ⟨gl, off + i + t, none⟩ = false := by simpa using fh'
          clear cf' cl' ch' fl' fh' T1 E2 O2
          generalize w2.drewN q3 = w6 at *
          have F3 := hid (FI.out _ E3.out O3.out)
          go_wp2_with fail
          refine (L1.out _ E3.out).mono ?_
          rintro e w7 ⟨rfl, hw⟩
          obtain rfl := hw.symm
          go_wp2_with fail
          refine (L2.out _ E3.out).mono ?_
          rintro e w8 ⟨rfl, hw⟩
          obtain rfl := hw.symm
          clear L1 L2 FI E3 O3
          go_wp2
          exact ⟨⟨t + 1, rfl, by omega, F3.out.1, F3.out.2⟩, by simp only [intOf]; omega⟩
    · have him' : (i : Int) < (H : Int) := by omega
      have hi' : i < H := by omega
      have cf := Ei.out.pln.tc.cell0
      have cl := Ei.out.row.cell (i := off + i) (by omega)
      have ch := Ei.out.row.cell (i := off + H + i) (by omega)
      have fh := Ei.out.row.frozen (off + H + i)
      have T1 := hid (fun q => TM.out _ _ (off + H + i) (Ei.out.drew q) (by omega))
      have X0 := Ei.out.bnd (off + i) (by omega)
      rw [updw_off (by omega)] at cl ch T1 X0
      have em : ∀ x : Int, 0 ≤ x % (p : Int) ∧ x % (p : Int) < p := fun x => ⟨Int.emod_nonneg _ (by omega), Int.emod_lt_of_pos _ (by omega)⟩
      have A1 := hid (fun (W : World) (E' : EnvT W g gf gm gl p k r h N f s (updw G1 Y1 (off + H + mo) (off + H + i))) => AD.out W _ (Y1 (off + H + i) * c % p) (Y1 (off + H + i) * c % p) E' (em _).1 (em _).1)
      have S1 := hid (fun (W : World) (E' : EnvT W g gf gm gl p k r h N f s (updw G1 Y1 (off + H + mo) (off + H + i))) => SU.out W _ (Y1 (off + i)) ((Y1 (off + H + i) * c % p + Y1 (off + H + i) * c % p) % p) E' X0.1 (em _).1)
      have ve : G1 (off + H + i) = (Y1 (off + i) - (Y1 (off + H + i) * c % p + Y1 (off + H + i) * c % p) % p) % p := by
        rw [HG1.out]
        show (Y1 (off + H + i - H) - (Y1 (off + H + i) * c % p + Y1 (off + H + i) * c % p) % p) % p = _
        rw [show off + H + i - H = off + i by omega]
      rw [← ve] at S1
      have vb : 0 ≤ G1 (off + H + i) ∧ G1 (off + H + i) < p := by rw [ve]; exact em _
      have FI : Hid (∀ W : World, EnvT W g gf gm gl p k r h N f s (updw G1 Y1 (off + H + mo) (off + H + i)) → OnlyB gl w W → EnvT (W.setCell ⟨gl, off + H + i, none⟩ (.int .u64 (G1 (off + H + i)))) g gf gm gl p k r h N f s (updw G1 Y1 (off + H + mo) (off + H + (i + 1))) ∧ OnlyB gl w (W.setCell ⟨gl, off + H + i, none⟩ (.int .u64 (G1 (off + H + i))))) := fun W E' O' =>
        ⟨E'.set (off + H + i) _ vb (fun j _ => updw_step (a := off + H + mo) (b := off + H + i) (by omega) j), O'.set _ _⟩
      clear vb ve em X0 F8 E5 O5 HG1 TM SU AD HIH TI HL
      generalize Y1 (off + H + i) * c % (p : Int) = tt at *
      generalize (tt + tt) % (p : Int) = t2 at *
      generalize G1 (off + H + i) = v1 at *
      go_wp2_with fail
      go_quiet ((go_at_call 95; exact Calls.quiet_of (T1.out _)))
      rename_i nq
      have cf' : (wr.drewN nq).cell? ⟨g, 0, none⟩ = some (.pointer (some ⟨gf, 0, none⟩)) := by simpa using cf
      have cl' : (wr.drewN nq).cell? ⟨gl, off + i, none⟩ = some (.int .u64 (Y1 (off + i))) := by simpa using cl
      have ch' : (wr.drewN nq).cell? ⟨gl, off + H + i, none⟩ = some (.int .u64 (Y1 (off + H + i))) := by simpa using ch
      have fh' : (wr.drewN nq).frozen? ⟨gl, off + H + i, none⟩ = false := by simpa using fh
      have E2 := hid (Ei.out.drew nq)
      have O2 := hid (Oi.out.drew nq)
      clear Ei Oi
      clear cf cl ch fh T1
      generalize wr.drewN nq = w2 at *
      have A2 := hid (fun q => A1.out _ (E2.out.drew q))
      have S2 := hid (fun q => S1.out _ (E2.out.drew q))
      go_wp2_with fail
      refine wp_region_last (by kernel_rfl) (by kernel_rfl) (by kernel_rfl) (by kernel_rfl) (by decide) ?_
      simp only [stillLast, still, lastOf]
      repeat (quiet_step (first
        | (go_at_call 112; exact Calls.quiet_of (A2.out _))
        | (go_at_call 96; exact Calls.quiet_of (S2.out _))))
      refine wpQuiet_nil ?_
      intro _ hw'
      obtain ⟨nq, hw''⟩ := hw'
      subst hw''
      have F3 := hid (FI.out _ (E2.out.drew nq) (O2.out.drew nq))
      have ch2 : (w2.drewN nq).cell? ⟨gl, off + H + i, none⟩ = some (.int .u64 (Y1 (off + H + i))) := by simpa using ch'
      have fh2 : (w2.drewN nq).frozen? ⟨gl, off + H + i, none⟩ = false := by simpa using fh'
      clear cf' cl' ch' fh' A1 A2 S1 S2 FI E2 O2
      generalize w2.drewN nq = w3 at *
      go_wp2
      exact ⟨⟨i + 1, rfl, by omega, by omega, F3.out.1, F3.out.2⟩, by simp only [intOf]; omega⟩
end Go.Proofs.YtocfenjampmdlaaGreatDoor
namespace Go.Proofs.YtocfenjampmdlaaGreatDoor
open Go.RowKit Num Nmb

set_option maxHeartbeats 800000 in
theorem up_none (g gl off L b n : Nat) (w : World) (h : n = 0 ∨ L = 1) :
    Calls Tryz.prog 89 #[.pointer (some ⟨g, 0, none⟩), .slice (some ⟨gl, off, none⟩) L L, .int .i64 b, .int .i64 n] w fun e w' => e = .returned (.tuple #[]) ∧ w' = w := by
  by_cases n0 : n = 0
  · subst n0
    go_enter Tryz.func89, Tryz.ntmps89
    go_wp2
    go_end0
    exact ⟨rfl, rfl⟩
  · obtain rfl : L = 1 := by omega
    have n0' : ((n : Int) == 0) = false := beq_eq_false_iff_ne.2 (by omega)
    go_enter Tryz.func89, Tryz.ntmps89
    go_wp2
    go_end0
    exact ⟨rfl, rfl⟩
set_option maxHeartbeats 1600000 in
theorem up_step {g gf gm gl p k r h N : Nat} {f s : Int} (OK : Ok p f s) (TO : TabOk p k r) (hh : h = 2 ^ k / 2) (hN : N ≤ 1048576) (m H : Nat) (hm : m + 1 ≤ k) (hH : H = 2 ^ m) (IH : UpIs g gf gm gl p k r h N f s m H) : UpIs g gf gm gl p k r h N f s (m + 1) (2 * H) := by
  intro b n off X w E hoff hb hn
  have H0 : 0 < H := by rw [hH]; exact Nat.two_pow_pos m
  by_cases n0 : n = 0
  · subst n0
    refine (up_none g gl off (2 * H) b 0 w (Or.inl rfl)).mono ?_
    rintro e w' ⟨rfl, rfl⟩
    exact ⟨rfl, X, E, OnlyB.refl _ _, fun _ _ _ => rfl, fun i hi => absurd hi (by omega), fun _ _ _ => Cg.rfl⟩
  have n0' : ((n : Int) == 0) = false := beq_eq_false_iff_ne.2 (by omega)
  by_cases hl : n ≤ H
  · have LS := hid (low_step OK TO hh hN m H hm hH IH b n off X w E hoff hb hl)
    obtain ⟨D, hD⟩ : ∃ D, D = 2 * H := ⟨_, rfl⟩
    have q1 : ((D : Int) == 1) = false := beq_eq_false_iff_ne.2 (by omega)
    have dq : Int.tdiv (D : Int) 2 = (H : Int) := by rw [Int.tdiv_eq_ediv_of_nonneg (by omega)]; omega
    have hl' : (n : Int) ≤ (H : Int) := by omega
    have D20 : D ≤ 1048576 := by omega
    have H20 : H ≤ 1048576 := by omega
    rw [← hD] at LS ⊢
    clear IH E hoff hb hD hH hh
    go_enter Tryz.func89, Tryz.ntmps89
    go_wp2_with fail
    refine LS.out.mono ?_
    rintro e w4 ⟨rfl, R⟩
    have RR := hid R
    clear R LS
    go_wp2
    go_end0
    exact ⟨rfl, RR.out⟩
  · have LS := hid (both_step OK TO hh hN m H hm hH IH b n off X w E hoff hb (by omega) hn)
    obtain ⟨D, hD⟩ : ∃ D, D = 2 * H := ⟨_, rfl⟩
    have q1 : ((D : Int) == 1) = false := beq_eq_false_iff_ne.2 (by omega)
    have dq : Int.tdiv (D : Int) 2 = (H : Int) := by rw [Int.tdiv_eq_ediv_of_nonneg (by omega)]; omega
    have hl' : ¬ (n : Int) ≤ (H : Int) := by omega
    have D20 : D ≤ 1048576 := by omega
    have H20 : H ≤ 1048576 := by omega
    rw [← hD] at LS ⊢
    clear IH E hoff hb hD hH hh
    go_enter Tryz.func89, Tryz.ntmps89
    go_wp2_with fail
    refine LS.out.mono ?_
    rintro e w4 ⟨rfl, R⟩
    have RR := hid R
    clear R LS
    go_wp2
    go_end0
    exact ⟨rfl, RR.out⟩
theorem up_any {g gf gm gl p k r h N : Nat} {f s : Int} (OK : Ok p f s) (TO : TabOk p k r) (hh : h = 2 ^ k / 2) (hN : N ≤ 1048576) : ∀ m, m ≤ k → UpIs g gf gm gl p k r h N f s m (2 ^ m)
  | 0, _ => by
    intro b n off X w E hoff hb hn
    refine (up_none g gl off (2 ^ 0) b n w (Or.inr rfl)).mono ?_
    rintro e w' ⟨rfl, rfl⟩
    exact ⟨rfl, X, E, OnlyB.refl _ _, fun _ _ _ => rfl, Mxd.zero⟩
  | m + 1, hm => by
    rw [Nat.pow_succ, Nat.mul_comm]
    exact up_step OK TO hh hN m (2 ^ m) hm rfl (up_any OK TO hh hN m (by omega))
/-- what was handed in, below the modulus, and nothing behind it. -/
def exm (p : Nat) (a : Nat → Int) (n j : Nat) : Int := if j < n then a j % p else 0
set_option maxHeartbeats 1600000 in
theorem block_any {g gf gm p k r h : Nat} {f s : Int} (u : Value) (n M kk N : Nat) (a : Nat → Int) (w : World) (T : PlnF w g gf gm p k r h f s) (OK : Ok p f s) (U : Wl w u n a) (hn : n ≤ M) (hM : 0 < M) (hM2 : M ≤ 1048576) (hk : kk = Lib.bitLen (M - 1)) (hN : N = 2 ^ kk) (hN2 : N ≤ 1048576) (hMN : M ≤ N) :
    Calls Tryz.prog 85 #[.pointer (some ⟨g, 0, none⟩), u, .int .i64 M] w fun e w' => e = .returned (.slice (some ⟨w.heap.size, 0, none⟩) N N) ∧ EnvT w' g gf gm w.heap.size p k r h N f s (exm p a n) ∧ Below w.heap.size w w' := by
  have p2 := OK.h2
  have BL := hid (blen_any (M - 1) w (by omega))
  rw [← hk] at BL
  have k20 : kk ≤ 62 := by
    apply Nat.le_of_not_lt
    intro hlt
    have : 2 ^ 63 ≤ 2 ^ kk := Nat.pow_le_pow_right (by decide) hlt
    omega
  have e2 : (2 : Int) ^ kk = (N : Int) := by rw [hN, Int.natCast_pow]; rfl
  have TT := hid T
  have UU := hid U
  have lt := T.lt
  have OF : Hid (∀ W x, Fld W gf p f s → 0 ≤ x → Calls Tryz.prog 110 #[.pointer (some ⟨gf, 0, none⟩), .int .u64 x] W fun e w' => e = .returned (.int .u64 (x % p)) ∧ w' = W) := fun W x F hx => of_any gf p f s x W F (by omega) hx
  have w1 : (M : Int) - 1 = ((M - 1 : Nat) : Int) := by omega
  obtain ⟨ao, cap, rfl, hcap, hcap2, -, -⟩ := U
  have hnN : n ≤ N := by omega
  have M1 : M - 1 ≤ 1048576 := by omega
  generalize M - 1 = m1 at *
  have HLT := hid lt
  clear T hk hN OK lt hn hMN
  go_enter Tryz.func85, Tryz.ntmps85
  go_wp2_with fail
  refine BL.out.mono ?_
  rintro e w3 ⟨rfl, hw⟩
  obtain rfl := hw.symm
  clear BL
  go_wp2_with (at_make; refine wp_make _ rfl _ _ rfl _ _ N rfl rfl (by omega) (by omega) (by omega) ?_; intro w1 R1 C1 Z1; have HR := hid R1; have HC := hid C1; have HZ1 := hid Z1; clear R1 C1 Z1)
  have lt := HLT.out
  have B0 := hid (HC.out)
  have E0 : Hid (EnvT w1 g gf gm w.heap.size p k r h N f s (fun _ => 0)) := ⟨TT.out.below B0.out lt, HR.out, fun j _ => ⟨Int.le_refl 0, by omega⟩, by omega, by omega, by omega⟩
  clear HR HC HZ1
  go_loopw [18] (fun iv wr => ∃ (i : Nat), iv = .int .i64 i ∧ i ≤ n ∧ Hid (EnvT wr g gf gm w.heap.size p k r h N f s (exm p a i)) ∧ Hid (Below w.heap.size w wr)) (fun iv _ => ((n : Int) - intOf iv).toNat)
  case atStart => exact ⟨0, rfl, Nat.zero_le _, E0.out.eq (fun j _ => by unfold exm; rw [if_neg (by omega)]), B0.out⟩
  case round =>
    obtain ⟨i, rfl, hi, Ei, Bi⟩ := hrel
    by_cases him : i = n
    · have him' : ¬ (i : Int) < (n : Int) := by omega
      obtain rfl := him
      clear E0 B0 TT UU OF HLT
      go_wp2
      go_ret
      exact ⟨rfl, Ei.out, Bi.out⟩
    · have him' : (i : Int) < (n : Int) := by omega
      have Ui := UU.out.below Bi.out
      obtain ⟨ao', cap', hu, -, -, hv, hcell⟩ := Ui
      injection hu with hu1 hu2 hu3
      subst hu1 hu3
      clear hu2
      obtain ⟨ub, uo, hao, hub, hc⟩ := hcell (by omega)
      subst hao
      have ci := hc i (by omega)
      have ai := hv i (by omega)
      have cf := Ei.out.pln.tc.cell0
      have cl := Ei.out.row.cell (i := i) (by omega)
      have fl := Ei.out.row.frozen i
      have O1 := hid (OF.out wr (a i) Ei.out.pln.fld ai.1)
      have F3 : Hid (EnvT (wr.setCell ⟨w.heap.size, i, none⟩ (.int .u64 (a i % p))) g gf gm w.heap.size p k r h N f s (exm p a (i + 1)) ∧ Below w.heap.size w (wr.setCell ⟨w.heap.size, i, none⟩ (.int .u64 (a i % p)))) :=
        ⟨Ei.out.set i _ ⟨Int.emod_nonneg _ (by omega), Int.emod_lt_of_pos _ (by omega)⟩ (fun j _ => by
          unfold exm
          by_cases e : j = i
          · rw [if_pos e, e, if_pos (by omega)]
          · rw [if_neg e]
            by_cases e2 : j < i
            · rw [if_pos e2, if_pos (by omega)]
            · rw [if_neg e2, if_neg (by omega)]), below_set Bi.out (Nat.le_refl _) _ _⟩
      have hiN : (i : Int) < (N : Int) := by omega
      clear Ei Bi UU OF hc hv hcell E0 B0 TT HLT
      generalize a i % (p : Int) = v1 at *
      go_wp2_with fail
      refine O1.out.mono ?_
      rintro e w7 ⟨rfl, hw⟩
      obtain rfl := hw.symm
      clear O1
      go_wp2
      exact ⟨⟨i + 1, rfl, by omega, F3.out.1, F3.out.2⟩, by simp only [intOf]; omega⟩
end Go.Proofs.YtocfenjampmdlaaGreatDoor
namespace Go.Proofs.YtocfenjampmdlaaGreatDoor
open Go.RowKit Num Nmb

theorem ev_cut {p n N : Nat} {A : Nat → Int} (hn : n ≤ N) (h : ∀ j, n ≤ j → j < N → Cg p (A j) 0) (x : Int) : Cg p (ev A N x) (ev A n x) := by
  have h2 : Cg p (ev A N x) (ev (fun j => if j < n then A j else 0) N x) := ev_cg (fun j hj => by
    show Cg p (A j) (if j < n then A j else 0)
    by_cases e : j < n
    · rw [if_pos e]; exact Cg.rfl
    · rw [if_neg e]; exact h j (by omega) hj) Cg.rfl
  refine h2.trans (Cg.of_eq ?_)
  rw [ev_long (m := n) hn (fun j h3 _ => if_neg (by omega))]
  exact sm_eq _ fun j hj => by show (if j < n then A j else 0) * _ = _; rw [if_pos hj]
/-- what is asked of a list of M words: how great its block is. -/
theorem size_said {k M : Nat} (hk : k ≤ 20) (hM : 0 < M) (hM2 : M ≤ 2 ^ k) : ∃ kk N, kk = Lib.bitLen (M - 1) ∧ N = 2 ^ kk ∧ kk ≤ k ∧ M ≤ N ∧ N ≤ 1048576 := by
  have bl := bl_said k (M - 1) (by omega) (by omega)
  have : 2 ^ Lib.bitLen (M - 1) ≤ 2 ^ 20 := Nat.pow_le_pow_right (by decide) (by omega)
  exact ⟨_, _, rfl, rfl, bl.2, by omega, by omega⟩
set_option maxHeartbeats 1600000 in
theorem values_some (g p k r : Nat) (u : Value) (n m : Nat) (a : Nat → Int) (w : World) (T : Pln w g p k r) (U : Wl w u n a) (hn : n ≤ 2 ^ k) (hm : m ≤ 2 ^ k) (m0 : 0 < m) :
    Calls Tryz.prog 66 #[.pointer (some ⟨g, 0, none⟩), u, .int .i64 m] w fun e w' => e = .returned (.slice (some ⟨w.heap.size, 0, none⟩) m m) ∧ (∃ N X, Row w' w.heap.size N X ∧ m ≤ N ∧ N ≤ 1048576 ∧ ∀ j, j < m → X j = ev a n ((r : Int) ^ rv k j) % p) ∧ Below w.heap.size w w' := by
  obtain ⟨TO, gf, gm, h, f, s, TF, hh, OK⟩ := T
  have p2 := TO.pri.1
  obtain ⟨M, hM⟩ : ∃ M, M = max n m := ⟨_, rfl⟩
  obtain ⟨kk, N, hkk, hN, hk, hMN, hN2⟩ := size_said (k := k) (M := M) TO.k20 (by omega) (by omega)
  have BK := hid (block_any u n M kk N a w TF OK U (by omega) (by omega) (by omega) hkk hN hN2 hMN)
  have DN := down_any (g := g) (gf := gf) (gm := gm) (gl := w.heap.size) (N := N) OK TO hh hN2 kk hk
  rw [← hN] at DN
  have HDN := hid DN
  have l0 : 0 < 2 ^ (k - kk) := Nat.two_pow_pos _
  have FIN : Hid (∀ Y : Nat → Int, (∀ j, j < N → 0 ≤ Y j ∧ Y j < p) → (∀ i, i < m → Cg p (Y (0 + i)) (lf r k kk 0 (fun j => exm p a n (0 + j)) i)) → ∀ j, j < m → Y j = ev a n ((r : Int) ^ rv k j) % p) := by
    intro Y bd h1 j hj
    have b := bd j (by omega)
    have h2 := h1 j hj
    rw [Nat.zero_add] at h2
    have h3 := h2.trans (TO.rt.lf_ev kk hk 0 (fun j => exm p a n (0 + j)) j (by omega))
    rw [Nat.zero_mul, Nat.zero_add] at h3
    have h4 := h3.trans (ev_cut (n := n) (by omega) (fun j hj _ => by
      show Cg p (exm p a n (0 + j)) 0
      unfold exm
      rw [if_neg (by omega)]
      exact Cg.rfl) _)
    have h5 := h4.trans (ev_cg (b := a) (y := (r : Int) ^ rv k j) (fun j hj => by
      show Cg p (exm p a n (0 + j)) (a j)
      unfold exm
      rw [Nat.zero_add, if_pos hj]
      exact Cg.mod) Cg.rfl)
    have h6 : Y j % p = ev a n ((r : Int) ^ rv k j) % p := h5
    rw [Int.emod_eq_of_lt b.1 b.2] at h6
    exact h6
  have mx : max (n : Int) (m : Int) = (M : Int) := by omega
  have HX := hid mx
  have m0' : ((m : Int) == 0) = false := beq_eq_false_iff_ne.2 (by omega)
  have mN : m ≤ N := by omega
  have mN' : (m : Int) ≤ (N : Int) := by omega
  obtain ⟨ao, cap, rfl, -⟩ := U
  clear TF hh OK hM hkk hN mx DN
  go_enter Tryz.func66, Tryz.ntmps66
  go_wp2_with fail
  rw [HX.out]
  refine BK.out.mono ?_
  rintro e w3 ⟨rfl, E3, B3⟩
  have D3 := hid (HDN.out 0 m 0 _ w3 E3 (by omega) l0 mN)
  have BB := hid B3
  clear BK HX E3 B3 HDN
  go_wp2_with fail
  refine D3.out.mono ?_
  rintro e w4 ⟨rfl, Y, E4, O4, -, a2⟩
  have R4 : Hid (∃ N X, Row w4 w.heap.size N X ∧ m ≤ N ∧ N ≤ 1048576 ∧ ∀ j, j < m → X j = ev a n ((r : Int) ^ rv k j) % p) := ⟨N, Y, E4.row, mN, hN2, FIN.out Y E4.bnd a2⟩
  have B4 := hid (BB.out.trans (O4.below))
  clear D3 E4 O4 a2 BB FIN
  go_wp2
  go_ret
  exact ⟨rfl, R4.out, B4.out⟩
set_option maxHeartbeats 800000 in
theorem values_none (g : Nat) (u : Value) (w : World) :
    Calls Tryz.prog 66 #[.pointer (some ⟨g, 0, none⟩), u, .int .i64 0] w fun e w' => e = .returned (.slice none 0 0) ∧ w' = w := by
  go_enter Tryz.func66, Tryz.ntmps66
  go_wp2
  go_ret
  exact ⟨rfl, rfl⟩
set_option maxHeartbeats 1600000 in
theorem coefs_some (g p k r : Nat) (u : Value) (n : Nat) (a : Nat → Int) (w : World) (T : Pln w g p k r) (U : Wl w u n a) (hn : n ≤ 2 ^ k) (n0 : 0 < n) :
    Calls Tryz.prog 68 #[.pointer (some ⟨g, 0, none⟩), u] w fun e w' => e = .returned (.slice (some ⟨w.heap.size, 0, none⟩) n n) ∧ (∃ b, Wl w' (.slice (some ⟨w.heap.size, 0, none⟩) n n) n b ∧ Fnd p k r n a b) ∧ Below w.heap.size w w' := by
  obtain ⟨TO, gf, gm, h, f, s, TF, hh, OK⟩ := T
  have p2 := TO.pri.1
  have p63 := TO.h63
  obtain ⟨kk, N, hkk, hN, hk, hMN, hN2⟩ := size_said (k := k) (M := n) TO.k20 (by omega) (by omega)
  have BK := hid (block_any u n n kk N a w TF OK U (by omega) (by omega) (by omega) hkk hN hN2 hMN)
  have DN := up_any (g := g) (gf := gf) (gm := gm) (gl := w.heap.size) (N := N) OK TO hh hN2 kk hk
  rw [← hN] at DN
  have HDN := hid DN
  have l0 : 0 < 2 ^ (k - kk) := Nat.two_pow_pos _
  have FIN : Hid (∀ Y : Nat → Int, (∀ j, j < N → 0 ≤ Y j ∧ Y j < p) → Mxd p r k kk 0 n (fun j => Y (0 + j)) (fun j => exm p a n (0 + j)) → Fnd p k r n a Y) := by
    intro Y bd h1 j hj
    have b := bd j (by omega)
    refine ⟨b.1, b.2, ?_⟩
    have h2 : Cg p (exm p a n (0 + j)) (lf r k kk 0 (fun j => Y (0 + j)) j) := h1.1 j hj (by omega)
    have h3 := h2.trans (TO.rt.lf_ev kk hk 0 (fun j => Y (0 + j)) j (by omega))
    rw [Nat.zero_mul, Nat.zero_add] at h3
    have h4 := h3.trans (ev_cut (n := n) (by omega) (fun j hj hj2 => by
      have q : Cg p (exm p a n (0 + j)) (Y (0 + j)) := h1.2 j hj hj2
      unfold exm at q
      rw [if_neg (by omega)] at q
      exact q.symm) _)
    unfold exm at h4
    rw [if_pos hj] at h4
    have h5 : Cg p (a j) (ev (fun j => Y (0 + j)) n ((r : Int) ^ rv k j)) := Cg.mod.symm.trans h4
    have e : (fun j => Y (0 + j)) = Y := funext fun j => by rw [Nat.zero_add]
    rw [e] at h5
    exact h5.symm
  have n0' : ((n : Int) == 0) = false := beq_eq_false_iff_ne.2 (by omega)
  have mN' : (n : Int) ≤ (N : Int) := by omega
  obtain ⟨ao, cap, rfl, -⟩ := U
  clear TF hh OK hkk hN DN TO
  go_enter Tryz.func68, Tryz.ntmps68
  go_wp2_with fail
  refine BK.out.mono ?_
  rintro e w3 ⟨rfl, E3, B3⟩
  have D3 := hid (HDN.out 0 n 0 _ w3 E3 (by omega) l0 hMN)
  have BB := hid B3
  clear BK E3 B3 HDN
  go_wp2_with fail
  refine D3.out.mono ?_
  rintro e w4 ⟨rfl, Y, E4, O4, -, a2⟩
  have R4 : Hid (∃ b, Wl w4 (.slice (some ⟨w.heap.size, 0, none⟩) n n) n b ∧ Fnd p k r n a b) := ⟨Y, ⟨_, n, rfl, Nat.le_refl _, by omega, fun j hj => by
    have := E4.bnd j (by omega)
    omega, fun _ => ⟨w.heap.size, 0, rfl, E4.row.lt, fun j hj => by rw [Nat.zero_add]; exact E4.row.cell (by omega)⟩⟩, FIN.out Y E4.bnd a2⟩
  have B4 := hid (BB.out.trans (O4.below))
  clear D3 E4 O4 a2 BB FIN
  go_wp2
  go_ret
  exact ⟨rfl, R4.out, B4.out⟩
set_option maxHeartbeats 800000 in
theorem coefs_none (g : Nat) (ao : Option Addr) (cap : Nat) (w : World) :
    Calls Tryz.prog 68 #[.pointer (some ⟨g, 0, none⟩), .slice ao 0 cap] w fun e w' => e = .returned (.slice none 0 0) ∧ w' = w := by
  go_enter Tryz.func68, Tryz.ntmps68
  go_wp2
  go_ret
  exact ⟨rfl, rfl⟩
end Go.Proofs.YtocfenjampmdlaaGreatDoor
