/- The coefficients of a box at their places in a wider one, in the landed conv. -/
/- Spread, packed, and what may be a box, in the landed conv. -/
/- What may be a box, and a box packed, in the landed conv. -/
import Derived.Test.YtocfenjampmdlaaGreatDoorDm
import Derived.Test.YtocfenjampmdlaaGreatDoorDn
import Derived.Test.YtocfenjampmdlaaGreatDoorDg
namespace Go.Proofs.YtocfenjampmdlaaGreatDoor
open Go.RowKit Num Nmb

theorem OnlyB.cell {g b i : Nat} {w w' : World} (h : OnlyB b w w') (hg : g ≠ b) : w'.cell? ⟨g, i, none⟩ = w.cell? ⟨g, i, none⟩ := by
  unfold World.cell?
  rw [h.block g hg]
/-- what the walk's variables hold. -/
structure EnvS (w W : World) (gD gA gL gW gr n ka K : Nat) (fo xo lo : Option Addr) (fc dc lc : Nat) : Prop where
  bel : Below w.heap.size w W
  cD : W.cell? ⟨gD, 0, none⟩ = some (.slice fo n fc)
  cA0 : W.cell? ⟨gA, 0, none⟩ = some (.slice xo n dc)
  cA1 : W.cell? ⟨gA, 1, none⟩ = some (.slice lo ka lc)
  cL : W.cell? ⟨gL, 0, none⟩ = some (.slice (some ⟨gr, 0, none⟩) K K)
  cW : W.cell? ⟨gW, 0, none⟩ = some (.func (.func 62) #[] #[.pointer (some ⟨gD, 0, none⟩), .pointer (some ⟨gA, 0, none⟩), .pointer (some ⟨gL, 0, none⟩), .pointer (some ⟨gW, 0, none⟩)])
  ne : gD ≠ gr ∧ gA ≠ gr ∧ gL ≠ gr ∧ gW ≠ gr
  le : w.heap.size ≤ gr
theorem EnvS.only {w W W' : World} {gD gA gL gW gr n ka K : Nat} {fo xo lo : Option Addr} {fc dc lc : Nat} (h : EnvS w W gD gA gL gW gr n ka K fo xo lo fc dc lc) (o : OnlyB gr W W') : EnvS w W' gD gA gL gW gr n ka K fo xo lo fc dc lc :=
  ⟨h.bel.trans (o.below.mono h.le), by rw [o.cell h.ne.1]; exact h.cD, by rw [o.cell h.ne.2.1]; exact h.cA0, by rw [o.cell h.ne.2.1]; exact h.cA1, by rw [o.cell h.ne.2.2.1]; exact h.cL, by rw [o.cell h.ne.2.2.2]; exact h.cW, h.ne, h.le⟩
theorem Wi.spot {w : World} {a : Option Addr} {n c : Nat} {x : Nat → Int} (h : Wi w (.slice a n c) n x) (hn : 0 < n) : ∃ b off, a = some ⟨b, off, none⟩ ∧ b < w.heap.size ∧ ∀ j, j < n → w.cell? ⟨b, off + j, none⟩ = some (.int .i64 (x j)) := by
  obtain ⟨ao, cap, e, h1, h2, h3, h5⟩ := h
  injection e with e1 e2 e3
  subst e1
  exact h5 hn
theorem Wl.spot' {w : World} {a : Option Addr} {n c : Nat} {x : Nat → Int} (h : Wl w (.slice a n c) n x) (hn : 0 < n) : ∃ b off, a = some ⟨b, off, none⟩ ∧ b < w.heap.size ∧ ∀ j, j < n → w.cell? ⟨b, off + j, none⟩ = some (.int .u64 (x j)) := by
  obtain ⟨ao, cap, e, h1, h2, h3, h5⟩ := h
  injection e with e1 e2 e3
  subst e1
  exact h5 hn
/-- what is known of the two boxes. -/
structure WlkH (w : World) (n ka K : Nat) (fo xo lo : Option Addr) (fc dc lc : Nat) (d f a : Nat → Int) : Prop where
  hF : Wi w (.slice fo n fc) n f
  hD : Wi w (.slice xo n dc) n d
  hA : Wl w (.slice lo ka lc) ka a
  hd : ∀ t, t < n → 1 ≤ d t
  hf : ∀ t, t < n → d t ≤ f t
  hka : pd d n = ka
  hk6 : ka ≤ 65536
  hf6 : pd f n ≤ 65536
  hK : ∀ i, i < ka → ph d f n i < K
  hK6 : K ≤ 65536
  hn8 : n ≤ 8
set_option maxHeartbeats 1600000 in
theorem walk_end (w : World) (gD gA gL gW gr n ka K : Nat) (fo xo lo : Option Addr) (fc dc lc : Nat) (d f a : Nat → Int) (H : WlkH w n ka K fo xo lo fc dc lc d f a) (p : Nat) (W : World) (hp : p < ka) (E : EnvS w W gD gA gL gW gr n ka K fo xo lo fc dc lc) (R : Row W gr K (wdp d f n a p)) :
    Calls Tryz.prog 62 #[.int .i64 n, .int .i64 p, .int .i64 (ph d f n p : Nat), .pointer (some ⟨gD, 0, none⟩), .pointer (some ⟨gA, 0, none⟩), .pointer (some ⟨gL, 0, none⟩), .pointer (some ⟨gW, 0, none⟩)] W fun e w' => e = .returned (.tuple #[]) ∧ Row w' gr K (wdp d f n a (p + 1)) ∧ OnlyB gr W w' := by
  obtain ⟨hF, hD, hA, hd, hf, hka, hk6, hf6, hK, hK6, hn8⟩ := H
  have q := hK p hp
  obtain ⟨lb, loff, rfl, llt, lcell⟩ := hA.spot' (by omega)
  have cv : W.cell? ⟨lb, loff + p, none⟩ = some (.int .u64 (a p)) := by
    rw [E.bel.cell (p := ⟨lb, loff + p, none⟩) llt]; exact lcell p hp
  have c1 := E.cD
  have c2 := E.cA1
  have c3 := E.cL
  have cl := R.cell q
  have fl := R.frozen (ph d f n p)
  have NX : Hid (∀ m, Row ((W.drewN m).setCell ⟨gr, ph d f n p, none⟩ (.int .u64 (a p))) gr K (wdp d f n a (p + 1)) ∧ OnlyB gr W ((W.drewN m).setCell ⟨gr, ph d f n p, none⟩ (.int .u64 (a p)))) := fun m =>
    ⟨(R.drew m).set _ _ (fun j _ => wdp_step hd hf a hka hp j), ((OnlyB.refl gr W).drew m).set _ _⟩
  have q' : ((ph d f n p : Nat) : Int) < (K : Int) := by omega
  have p' : (p : Int) < (ka : Int) := by omega
  clear hF hD hA hd hf hka hf6 hK E R lcell llt
  generalize ph d f n p = t at *
  generalize a p = ap at *
  go_enter Tryz.func62, Tryz.ntmps62
  go_wp2_with fail
  refine wp_region_last (by kernel_rfl) (by kernel_rfl) (by kernel_rfl) (by kernel_rfl) (by decide) ?_
  simp only [stillLast, still, lastOf]
  repeat (quiet_step (fail))
  refine wpQuiet_nil ?_
  intro _ hw'
  obtain ⟨nq, hw''⟩ := hw'
  subst hw''
  have N2 := hid (NX.out nq)
  have fl2 : (W.drewN nq).frozen? ⟨gr, t, none⟩ = false := by simpa using fl
  have cl2 : (W.drewN nq).cell? ⟨gr, t, none⟩ = some (.int .u64 (wdp d f n a p t)) := by simpa using cl
  clear NX c1 c2 c3 cv fl cl
  generalize W.drewN nq = w8 at *
  go_wp2
  (try simp only [Exit.inBlock, Exit.then])
  refine bodyPost_ret (results_none rfl _ _ _) rfl ?_
  exact ⟨rfl, N2.out.1, N2.out.2⟩
set_option maxHeartbeats 1600000 in
theorem walk_step (w : World) (gD gA gL gW gr n ka K : Nat) (fo xo lo : Option Addr) (fc dc lc : Nat) (d f a : Nat → Int) (H : WlkH w n ka K fo xo lo fc dc lc d f a) (k v p : Nat) (W : World) (hv : v + (k + 1) = n) (hp : (p : Int) < pd d v) (E : EnvS w W gD gA gL gW gr n ka K fo xo lo fc dc lc) (R : Row W gr K (wdp d f n a (p * sp d v (k + 1))))
    (IH : ∀ (q : Nat) (W : World), (q : Int) < pd d (v + 1) → EnvS w W gD gA gL gW gr n ka K fo xo lo fc dc lc → Row W gr K (wdp d f n a (q * sp d (v + 1) k)) → Calls Tryz.prog 62 #[.int .i64 (v + 1 : Nat), .int .i64 q, .int .i64 (pl f (dg d (v + 1) q) (v + 1)), .pointer (some ⟨gD, 0, none⟩), .pointer (some ⟨gA, 0, none⟩), .pointer (some ⟨gL, 0, none⟩), .pointer (some ⟨gW, 0, none⟩)] W fun e w' => e = .returned (.tuple #[]) ∧ Row w' gr K (wdp d f n a ((q + 1) * sp d (v + 1) k)) ∧ OnlyB gr W w') :
    Calls Tryz.prog 62 #[.int .i64 v, .int .i64 p, .int .i64 (pl f (dg d v p) v), .pointer (some ⟨gD, 0, none⟩), .pointer (some ⟨gA, 0, none⟩), .pointer (some ⟨gL, 0, none⟩), .pointer (some ⟨gW, 0, none⟩)] W fun e w' => e = .returned (.tuple #[]) ∧ Row w' gr K (wdp d f n a ((p + 1) * sp d v (k + 1))) ∧ OnlyB gr W w' := by
  obtain ⟨hF, hD, hA, hd, hf, hka, hk6, hf6, hK, hK6, hn8⟩ := H
  have hvn : v < n := by omega
  obtain ⟨fb, foff, rfl, flt, fcell⟩ := hF.spot (by omega)
  obtain ⟨db, doff, rfl, dlt, dcell⟩ := hD.spot (by omega)
  have d1 := hd v hvn
  have f1 := hf v hvn
  obtain ⟨dv, hdv⟩ : ∃ dv : Nat, d v = dv := ⟨(d v).toNat, by omega⟩
  have pm := pd_mono hd (v + 1) (by omega)
  have fm := pd_mono (d := f) (n := n) (fun t ht => by have := hd t ht; have := hf t ht; omega) (v + 1) (by omega)
  have f65 : f v ≤ 65536 := Int.le_trans (pd_step (d := f) (n := v) (fun t ht => by have := hd t (by omega); have := hf t (by omega); omega)).2 (by omega)
  obtain ⟨T, hT⟩ : ∃ T, T = pl f (dg d v p) v := ⟨_, rfl⟩
  have Tlt := pl_lt (d := f) (e := dg d v p) (n := v) (fun t ht => ⟨(dg_in (fun i hi => hd i (by omega)) t ht).1, Int.lt_of_lt_of_le (dg_in (p := (p : Int)) (fun i hi => hd i (by omega)) t ht).2 (hf t (by omega))⟩)
  rw [← hT] at Tlt
  have TF : T * f v + f v ≤ pd f (v + 1) := by
    have : (T + 1) * f v ≤ pd f v * f v := Int.mul_le_mul_of_nonneg_right (by omega) (by omega)
    rw [Int.add_mul, Int.one_mul] at this
    exact this
  have TF0 : 0 ≤ T * f v := Int.mul_nonneg Tlt.1 (by omega)
  have PD : (p : Int) * dv + dv ≤ pd d (v + 1) := by
    have : ((p : Int) + 1) * d v ≤ pd d v * d v := Int.mul_le_mul_of_nonneg_right (by omega) (by omega)
    rw [Int.add_mul, Int.one_mul, hdv] at this
    show _ ≤ pd d v * d v
    rw [hdv]
    exact this
  have PD0 : 0 ≤ (p : Int) * dv := Int.mul_nonneg (by omega) (by omega)
  have SP : sp d v (k + 1) = dv * sp d (v + 1) k := by
    show (d v).toNat * _ = _
    rw [hdv, Int.toNat_natCast]
  have NXT : Hid (∀ e : Nat, e < dv → pl f (dg d (v + 1) ((p * dv + e : Nat) : Int)) (v + 1) = T * f v + e) := fun e he => by
    rw [hT, ← dg_next d f v p e (by omega), hdv, Int.natCast_add, Int.natCast_mul]
  have S0 : Hid (p * sp d v (k + 1) = (p * dv + 0) * sp d (v + 1) k) := by show _ = _; rw [SP, Nat.add_zero (p * dv), Nat.mul_assoc]
  have S1 : Hid ((p * dv + dv) * sp d (v + 1) k = (p + 1) * sp d v (k + 1)) := by show _ = _; rw [SP, Nat.add_mul (p * dv) dv, Nat.add_mul p 1, Nat.one_mul, Nat.mul_assoc]
  have HI := hid IH
  have HE := hid E
  have HR := hid R
  have vn' : ((v : Int) == (n : Int)) = false := beq_eq_false_iff_ne.2 (by omega)
  have vn2 : (v : Int) < (n : Int) := by omega
  have CE : Hid (∀ W', EnvS w W' gD gA gL gW gr n ka K (some ⟨fb, foff, none⟩) (some ⟨db, doff, none⟩) lo fc dc lc → W'.cell? ⟨fb, foff + v, none⟩ = some (.int .i64 (f v)) ∧ W'.cell? ⟨db, doff + v, none⟩ = some (.int .i64 dv)) := fun W' E' => by
    rw [E'.bel.cell (p := ⟨fb, foff + v, none⟩) flt, E'.bel.cell (p := ⟨db, doff + v, none⟩) dlt, ← hdv]
    exact ⟨fcell v hvn, dcell v hvn⟩
  have pn : pd d (v + 1) ≤ 65536 := by omega
  have fn : pd f (v + 1) ≤ 65536 := by omega
  have PDL : Hid (∀ e : Nat, e < dv → ((p * dv + e : Nat) : Int) < pd d (v + 1)) := fun e he => by
    rw [Int.natCast_add, Int.natCast_mul]
    omega
  rw [← hT]
  clear hF hD hA hd hf hka hf6 hK IH E R pm fm hT SP Tlt flt fcell dlt dcell
  generalize pd d (v + 1) = pdv at *
  generalize pd f (v + 1) = pfv at *
  generalize f v = fv at *
  clear hdv
  obtain ⟨Tf, hTf⟩ : ∃ Tf, T * fv = Tf := ⟨_, rfl⟩
  obtain ⟨pdd, hpd⟩ : ∃ pdd, (p : Int) * (dv : Int) = pdd := ⟨_, rfl⟩
  rw [hTf] at TF TF0 NXT
  rw [hpd] at PD PD0
  have c1 := HE.out.cD
  have c2 := HE.out.cA0
  have c3 := (CE.out W HE.out).2
  go_enter Tryz.func62, Tryz.ntmps62
  go_wp2
  clear c1 c2 c3
  go_loopw [28] (fun ev wr => ∃ (e : Nat), ev = .int .i64 e ∧ e ≤ dv ∧ Hid (Row wr gr K (wdp d f n a ((p * dv + e) * sp d (v + 1) k))) ∧ Hid (OnlyB gr W wr)) (fun ev _ => ((dv : Int) - intOf ev).toNat)
  case atStart => exact ⟨0, rfl, Nat.zero_le _, by rw [← S0.out]; exact HR.out, OnlyB.refl _ _⟩
  case round =>
    clear HR
    obtain ⟨e, rfl, he, HR, HO⟩ := hrel
    by_cases hed : e = dv
    · have hed' : ¬ (e : Int) < (dv : Int) := by omega
      subst hed
      have RF : Hid (Row wr gr K (wdp d f n a ((p + 1) * sp d v (k + 1)))) := by rw [← S1.out]; exact HR.out
      clear HR HI HE CE NXT S0 S1 PDL
      go_wp2
      go_end0
      exact ⟨rfl, RF.out, HO.out⟩
    · have hed' : (e : Int) < (dv : Int) := by omega
      have Ew := HE.out.only HO.out
      have c1 := Ew.cD
      have c2 := Ew.cA0
      have c4 := Ew.cW
      obtain ⟨c5, c6⟩ := CE.out wr Ew
      have nx := NXT.out e (by omega)
      have ql := PDL.out e (by omega)
      have CL : Hid (∀ q, Calls Tryz.prog 62 #[.int .i64 ((v : Int) + 1), .int .i64 (pdd + e), .int .i64 (Tf + e), .pointer (some ⟨gD, 0, none⟩), .pointer (some ⟨gA, 0, none⟩), .pointer (some ⟨gL, 0, none⟩), .pointer (some ⟨gW, 0, none⟩)] (wr.drewN q) fun e' w' => e' = .returned (.tuple #[]) ∧ Row w' gr K (wdp d f n a ((p * dv + (e + 1)) * sp d (v + 1) k)) ∧ OnlyB gr (wr.drewN q) w') := fun q => by
        have := HI.out (p * dv + e) (wr.drewN q) ql (Ew.only ((OnlyB.refl gr wr).drew q)) (HR.out.drew q)
        have ec : ((p * dv + e : Nat) : Int) = pdd + e := by rw [Int.natCast_add, Int.natCast_mul, hpd]
        have ev : ((v + 1 : Nat) : Int) = (v : Int) + 1 := by omega
        rw [nx, ec, ev] at this
        exact this
      have OO : Hid (∀ q W', OnlyB gr (wr.drewN q) W' → OnlyB gr W W') := fun q W' o => (HO.out.drew q).trans o
      have w1 : IntKind.i64.wrap pdd = pdd := by rw [IntKind.wrap_i64]; omega
      have w2 : IntKind.i64.wrap (pdd + e) = pdd + e := by rw [IntKind.wrap_i64]; omega
      have w3 : IntKind.i64.wrap Tf = Tf := by rw [IntKind.wrap_i64]; omega
      have w4 : IntKind.i64.wrap (Tf + e) = Tf + e := by rw [IntKind.wrap_i64]; omega
      clear HR HI HE CE NXT S0 S1 PDL nx ql Ew HO
      go_wp2_with fail
      refine wp_region_last (by kernel_rfl) (by kernel_rfl) (by kernel_rfl) (by kernel_rfl) (by decide) ?_
      simp only [stillLast, still, lastOf]
      repeat (quiet_step (fail))
      refine wpQuiet_nil ?_
      intro _ hw'
      obtain ⟨nq, hw''⟩ := hw'
      subst hw''
      have CQ := hid (CL.out nq)
      have OQ := hid (OO.out nq)
      clear CL OO c1 c2 c4 c5 c6
      generalize wr.drewN nq = w8 at *
      go_wp2_with fail
      refine CQ.out.mono ?_
      rintro e' w9 ⟨rfl, R9, O9⟩
      have RR := hid R9
      have O2 := hid (OQ.out w9 O9)
      clear CQ OQ R9 O9
      go_wp2
      exact ⟨⟨e + 1, rfl, by omega, RR, O2⟩, by simp only [intOf]; omega⟩
theorem walk_any (w : World) (gD gA gL gW gr n ka K : Nat) (fo xo lo : Option Addr) (fc dc lc : Nat) (d f a : Nat → Int) (H : WlkH w n ka K fo xo lo fc dc lc d f a) : ∀ (k v p : Nat) (W : World), v + k = n → (p : Int) < pd d v → EnvS w W gD gA gL gW gr n ka K fo xo lo fc dc lc → Row W gr K (wdp d f n a (p * sp d v k)) →
    Calls Tryz.prog 62 #[.int .i64 v, .int .i64 p, .int .i64 (pl f (dg d v p) v), .pointer (some ⟨gD, 0, none⟩), .pointer (some ⟨gA, 0, none⟩), .pointer (some ⟨gL, 0, none⟩), .pointer (some ⟨gW, 0, none⟩)] W fun e w' => e = .returned (.tuple #[]) ∧ Row w' gr K (wdp d f n a ((p + 1) * sp d v k)) ∧ OnlyB gr W w'
  | 0, v, p, W, hv, hp, E, R => by
    obtain rfl : v = n := by omega
    have e1 : p * sp d v 0 = p := Nat.mul_one p
    have e2 : (p + 1) * sp d v 0 = p + 1 := Nat.mul_one (p + 1)
    rw [e1] at R
    rw [e2, ← ph_cast H.hd H.hf p]
    exact walk_end w gD gA gL gW gr v ka K fo xo lo fc dc lc d f a H p W (by have := H.hka; omega) E R
  | k + 1, v, p, W, hv, hp, E, R =>
    walk_step w gD gA gL gW gr n ka K fo xo lo fc dc lc d f a H k v p W hv hp E R fun q W' hq E' R' => walk_any w gD gA gL gW gr n ka K fo xo lo fc dc lc d f a H k (v + 1) q W' (by omega) hq E' R'
end Go.Proofs.YtocfenjampmdlaaGreatDoor
namespace Go.Proofs.YtocfenjampmdlaaGreatDoor
open Go.RowKit Num Nmb

set_option maxHeartbeats 1600000 in
theorem spread_any (ud ul v : Value) (n ka K : Nat) (d f a : Nat → Int) (w : World) (UD : Wi w ud n d) (UL : Wl w ul ka a) (V : Wi w v n f)
    (hd : ∀ t, t < n → 1 ≤ d t) (hf : ∀ t, t < n → d t ≤ f t) (hka : pd d n = ka) (hk6 : ka ≤ 65536) (hf6 : pd f n ≤ 65536) (hK : ∀ i, i < ka → ph d f n i < K) (hK6 : K ≤ 65536) (hn8 : n ≤ 8) :
    Calls Tryz.prog 42 #[.agg #[ud, ul], v, .int .i64 K] w fun e w' => (∃ gr, e = .returned (.slice (some ⟨gr, 0, none⟩) K K) ∧ Row w' gr K (wdp d f n a ka) ∧ w.heap.size ≤ gr) ∧ Below w.heap.size w w' := by
  obtain ⟨xo, dc, rfl, UD1⟩ := UD
  obtain ⟨lo, lc, rfl, UL1⟩ := UL
  obtain ⟨fo, fc, rfl, V1⟩ := V
  have WA := hid (fun gL gW => walk_any w (w.heap.size + 1) w.heap.size gL gW (w.heap.size + 1 + 1) n ka K fo xo lo fc dc lc d f a ⟨⟨fo, fc, rfl, V1⟩, ⟨xo, dc, rfl, UD1⟩, ⟨lo, lc, rfl, UL1⟩, hd, hf, hka, hk6, hf6, hK, hK6, hn8⟩ n 0 0)
  clear UD1 UL1 V1
  have hsf := fun (a : Addr) (c : Array Value) (w : World) => run_store Tryz.prog w a (.func (.func 62) #[] c) .plain rfl
  go_enter Tryz.func42, Tryz.ntmps42
  go_wp2_with (at_make; refine wp_make _ rfl _ _ rfl _ _ K rfl rfl (by omega) (by omega) (by omega) ?_; intro w1 R1 C1 Z1; have HR := hid R1; have HC := hid C1; have HZ := hid Z1; clear R1 C1 Z1)
  have SE : Hid ((0 + 1) * sp d 0 n = ka ∧ 0 * sp d 0 n = 0) := by
    have := sp_said n 0 (fun t ht => hd t (by omega))
    rw [Nat.zero_add, hka] at this
    have e : pd d 0 = 1 := rfl
    rw [e, Int.one_mul] at this
    show _ ∧ _
    rw [Nat.zero_mul, Nat.zero_add, Nat.one_mul]
    omega
  have Z1 : w1.heap.size = w.heap.size + 1 + 1 + 1 := by
    have := HZ.out
    simpa using this
  obtain ⟨W6, hW6⟩ : ∃ W6, W6 = (w1.alloc (.cells #[.slice (some ⟨w.heap.size + 1 + 1, 0, none⟩) K K] 22)).alloc (.cells #[.func (.func 62) #[] #[.pointer (some ⟨w.heap.size + 1, 0, none⟩), .pointer (some ⟨w.heap.size, 0, none⟩), .pointer (some ⟨w1.heap.size, 0, none⟩), .pointer (some ⟨w1.heap.size + 1, 0, none⟩)]] 104) := ⟨_, rfl⟩
  have b1 : Below w.heap.size w ((w.alloc (.cells #[.slice xo n dc, .slice lo ka lc] 47)).alloc (.cells #[.slice fo n fc] 41)) := (below_new' w _).trans ((below_new' _ _).mono (by simp))
  have zz : ((w.alloc (.cells #[.slice xo n dc, .slice lo ka lc] 47)).alloc (.cells #[.slice fo n fc] 41)).heap.size = w.heap.size + 1 + 1 := by simp
  have b2 := HC.out
  have r2 := HR.out
  rw [zz] at b2 r2
  have b3 : Below w1.heap.size w1 W6 := by rw [hW6]; exact (below_new' w1 _).trans ((below_new' _ _).mono (by simp))
  have b4 := b2.trans (b3.mono (by omega))
  have q0 : Rv (w.alloc (.cells #[.slice xo n dc, .slice lo ka lc] 47)) w.heap.size 47 2 (fun j => if j = 0 then .slice xo n dc else .slice lo ka lc) := Rv.new w _ _ _ _ rfl fun j hj => by
    match j, hj with
    | 0, _ => rfl
    | 1, _ => rfl
  have q1 := (q0.below (below_new' _ (.cells #[.slice fo n fc] 41)) (by simp)).below b4 (by omega)
  have q2 : Rv ((w.alloc (.cells #[.slice xo n dc, .slice lo ka lc] 47)).alloc (.cells #[.slice fo n fc] 41)) (w.heap.size + 1) 41 1 (fun _ => .slice fo n fc) := by
    have := Rv.new (w.alloc (.cells #[.slice xo n dc, .slice lo ka lc] 47)) 41 #[.slice fo n fc] 1 (fun _ => .slice fo n fc) rfl (fun j hj => by
      obtain rfl : j = 0 := by omega
      rfl)
    simpa using this
  have q3 := q2.below b4 (by omega)
  have q4 : Rv W6 w1.heap.size 22 1 (fun _ => .slice (some ⟨w.heap.size + 1 + 1, 0, none⟩) K K) := by
    rw [hW6]
    exact (Rv.new w1 _ _ 1 _ rfl (fun j hj => by
      obtain rfl : j = 0 := by omega
      rfl)).below (below_new' _ _) (by simp)
  have q5 : Rv W6 (w1.heap.size + 1) 104 1 (fun _ => .func (.func 62) #[] #[.pointer (some ⟨w.heap.size + 1, 0, none⟩), .pointer (some ⟨w.heap.size, 0, none⟩), .pointer (some ⟨w1.heap.size, 0, none⟩), .pointer (some ⟨w1.heap.size + 1, 0, none⟩)]) := by
    rw [hW6]
    have := Rv.new (w1.alloc (.cells #[.slice (some ⟨w.heap.size + 1 + 1, 0, none⟩) K K] 22)) 104 #[.func (.func 62) #[] #[.pointer (some ⟨w.heap.size + 1, 0, none⟩), .pointer (some ⟨w.heap.size, 0, none⟩), .pointer (some ⟨w1.heap.size, 0, none⟩), .pointer (some ⟨w1.heap.size + 1, 0, none⟩)]] 1 (fun _ => .func (.func 62) #[] #[.pointer (some ⟨w.heap.size + 1, 0, none⟩), .pointer (some ⟨w.heap.size, 0, none⟩), .pointer (some ⟨w1.heap.size, 0, none⟩), .pointer (some ⟨w1.heap.size + 1, 0, none⟩)]) rfl (fun j hj => by
      obtain rfl : j = 0 := by omega
      rfl)
    simpa using this
  have bw := b1.trans (b4.mono (by omega))
  have EE : EnvS w W6 (w.heap.size + 1) w.heap.size w1.heap.size (w1.heap.size + 1) (w.heap.size + 1 + 1) n ka K fo xo lo fc dc lc := ⟨bw, q3.cell (by omega), q1.cell (i := 0) (by omega), q1.cell (i := 1) (by omega), q4.cell (by omega), q5.cell (by omega), by omega, by omega⟩
  have r6 := r2.below b3 (by omega)
  have CA := hid (WA.out w1.heap.size (w1.heap.size + 1) W6 (Nat.zero_add n) (by show (0 : Int) < 1; omega) EE (by rw [SE.out.2]; exact r6))
  rw [SE.out.1] at CA
  have HL := hid EE.cL
  have HW := hid bw
  have NE := hid EE.ne.2.2.1
  clear hsf WA HR HC HZ hd hf hka hf6 hK b1 zz b2 r2 b3 b4 q0 q1 q2 q3 q4 q5 bw EE r6 SE
  rw [← hW6]
  clear hW6
  refine CA.out.mono ?_
  rintro e w7 ⟨rfl, R7, O7⟩
  have c7 : w7.cell? ⟨w1.heap.size, 0, none⟩ = some (.slice (some ⟨w.heap.size + 1 + 1, 0, none⟩) K K) := by rw [O7.cell NE.out]; exact HL.out
  have RR := hid R7
  have B7 := hid (HW.out.trans (O7.below.mono (by omega)))
  clear CA HL HW NE R7 O7
  have g9 : w.heap.size ≤ w.heap.size + 1 + 1 := by omega
  clear Z1
  go_wp2
  go_ret
  exact ⟨⟨_, rfl, RR.out, g9⟩, B7.out⟩
end Go.Proofs.YtocfenjampmdlaaGreatDoor
namespace Go.Proofs.YtocfenjampmdlaaGreatDoor
open Go.RowKit Num Nmb

/-- a box that lies in a block. -/
theorem box_new (w : World) (xo lo : Option Addr) (n dc ka lc : Nat) : Rv (w.alloc (.cells #[.slice xo n dc, .slice lo ka lc] 47)) w.heap.size 47 2 (fun j => if j = 0 then .slice xo n dc else .slice lo ka lc) := Rv.new w _ _ _ _ rfl fun j hj => by
  match j, hj with
  | 0, _ => rfl
  | 1, _ => rfl
set_option maxHeartbeats 800000 in
theorem mayBe_any (ud ul : Value) (n ka : Nat) (d a : Nat → Int) (w : World) (UD : Wi w ud n d) (UL : Wl w ul ka a) :
    Calls Tryz.prog 40 #[.agg #[ud, ul]] w fun e w' => (∃ b, e = .returned (.bool b) ∧ (b = true ∧ SzIs d n ka 0 ∨ b = false ∧ ¬ SzIs d n ka 0)) ∧ Below w.heap.size w w' := by
  obtain ⟨xo, dc, rfl, UD1⟩ := UD
  obtain ⟨lo, lc, rfl, UL1⟩ := UL
  have B1 := hid (below_new' w (.cells #[.slice xo n dc, .slice lo ka lc] 47))
  have q0 := box_new w xo lo n dc ka lc
  have c0 := q0.cell (i := 0) (by omega)
  have c1 := q0.cell (i := 1) (by omega)
  rw [if_pos rfl] at c0
  rw [if_neg (by decide)] at c1
  have SZ := hid (size_same _ n d _ (Wi.below (w := w) ⟨xo, dc, rfl, UD1⟩ B1.out))
  clear UD1 UL1 q0
  go_enter Tryz.func40, Tryz.ntmps40
  go_wp2_with fail
  refine SZ.out.mono ?_
  rintro e w3 ⟨⟨r, er, rfl, S⟩, hw⟩
  obtain rfl := hw.symm
  clear SZ
  by_cases e0 : er = 0
  · subst e0
    by_cases hr : (ka : Int) = r
    · subst hr
      have HS := hid S
      clear S
      go_wp2
      go_ret
      exact ⟨⟨_, rfl, Or.inl ⟨rfl, HS.out⟩⟩, B1.out⟩
    · have NS : Hid (¬ SzIs d n ka 0) := fun h => hr (h.uniq S).1
      have hr' : ((ka : Int) == r) = false := beq_eq_false_iff_ne.2 hr
      clear S
      go_wp2
      go_ret
      exact ⟨⟨_, rfl, Or.inr ⟨rfl, NS.out⟩⟩, B1.out⟩
  · have NS : Hid (¬ SzIs d n ka 0) := fun h => e0 (h.uniq S).2.symm
    have e0' : (er == 0) = false := beq_eq_false_iff_ne.2 e0
    clear S c1
    go_wp2
    go_ret
    exact ⟨⟨_, rfl, Or.inr ⟨rfl, NS.out⟩⟩, B1.out⟩
set_option maxHeartbeats 1600000 in
theorem packed_any (ud ul v : Value) (n ka K na : Nat) (d f a : Nat → Int) (w : World) (UD : Wi w ud n d) (UL : Wl w ul ka a) (V : Wi w v n f) (S1 : SzIs d n ka 0) (hf : ∀ t, t < n → d t ≤ f t) (S3 : SzIs f n K 0) (hna : pl f (fun t => d t - 1) n + 1 = na) :
    Calls Tryz.prog 43 #[.agg #[ud, ul], v] w fun e w' => (∃ gr, e = .returned (.slice (some ⟨gr, 0, none⟩) na na) ∧ Row w' gr na (wdp d f n a ka) ∧ w.heap.size ≤ gr) ∧ Below w.heap.size w w' := by
  obtain ⟨n8, hd, h65, hka⟩ := S1.ok rfl
  obtain ⟨-, hf1, hf65, hKK⟩ := S3.ok rfl
  have lt1 := pl_lt (d := f) (e := fun t => d t - 1) (n := n) (fun t ht => by have := hd t ht; have := hf t ht; omega)
  have hK : ∀ i, i < ka → ph d f n i < na := fun i _ => by have := ph_lt hd hf i; omega
  have SPR : Hid (∀ W, Below w.heap.size w W → Calls Tryz.prog 42 #[.agg #[ud, ul], v, .int .i64 na] W fun e w' => (∃ gr, e = .returned (.slice (some ⟨gr, 0, none⟩) na na) ∧ Row w' gr na (wdp d f n a ka) ∧ W.heap.size ≤ gr) ∧ Below W.heap.size W w') := fun W B => spread_any ud ul v n ka na d f a W (UD.below B) (UL.below B) (V.below B) hd hf hka.symm (by omega) hf65 hK (by omega) n8
  have PLA : Hid (∀ W g, Below w.heap.size w W → Rowi W g n (fun t => d t - 1) → Calls Tryz.prog 19 #[v, .slice (some ⟨g, 0, none⟩) n n] W fun e w' => e = .returned (.tuple #[.int .i64 ((na : Int) - 1), .int .i64 0]) ∧ w' = W) := fun W g B R => by
    refine (place_same v _ n n f (fun t => d t - 1) W (V.below B) (R.wi (fun j hj => by have := hd j hj; have := UD.val hj; omega) (by omega))).mono ?_
    rintro e w' ⟨⟨r, er, rfl, P⟩, hw⟩
    have P2 : PlIs f n (fun t => d t - 1) n (pl f (fun t => d t - 1) n) 0 := Or.inr ⟨⟨K, S3⟩, Or.inr ⟨rfl, fun i hi => by have := hd i hi; have := hf i hi; show 0 ≤ d i - 1 ∧ d i - 1 < f i; omega, rfl, rfl⟩⟩
    obtain ⟨rfl, rfl⟩ := P.uniq P2
    exact ⟨by rw [show (na : Int) - 1 = pl f (fun t => d t - 1) n by omega], hw⟩
  have UU := hid UD
  obtain ⟨xo, dc, rfl, -⟩ := UD
  obtain ⟨lo, lc, rfl, -⟩ := UL
  obtain ⟨fo, fc, rfl, -⟩ := V
  have B1 := hid (below_new' w (.cells #[.slice xo n dc, .slice lo ka lc] 47))
  have Q0 := hid (box_new w xo lo n dc ka lc)
  have HD := hid hd
  have na1 : (na : Int) ≤ 65536 ∧ 1 ≤ (na : Int) := by omega
  clear hd S1 S3 hf hna lt1 hK hf1 hka hKK hf65 h65
  go_enter Tryz.func43, Tryz.ntmps43
  go_wp2_with (at_make; refine wp_makei _ rfl _ _ rfl _ _ n rfl rfl (by omega) (by omega) (by omega) ?_; intro w1 R1 C1 Z1; have HR := hid R1; have HC := hid C1; have HZ := hid Z1; clear R1 C1 Z1; have qq := Q0.out.below HC.out Q0.out.lt; have c0 := qq.cell (i := 0) (by omega); have c1 := qq.cell (i := 1) (by omega); rw [if_pos rfl] at c0; rw [if_neg (by decide)] at c1; clear qq)
  clear c0 c1
  have zz : (w.alloc (.cells #[.slice xo n dc, .slice lo ka lc] 47)).heap.size = w.heap.size + 1 := by simp
  rw [zz] at HR HC
  generalize w.alloc (.cells #[.slice xo n dc, .slice lo ka lc] 47) = W1 at *
  go_loopw [16] (fun iv wr => ∃ (i : Nat), iv = .int .i64 i ∧ i ≤ n ∧ Hid (Rowi wr (w.heap.size + 1) n (fun t => if t < i then d t - 1 else 0)) ∧ Hid (Below (w.heap.size + 1) W1 wr)) (fun iv _ => ((n : Int) - intOf iv).toNat)
  case atStart => exact ⟨0, rfl, Nat.zero_le _, by
      obtain ⟨cur, h1, h2, h3⟩ := HR.out
      exact ⟨cur, h1, h2, fun j hj => by dsimp only; rw [if_neg (by omega)]; exact h3 j hj⟩, HC.out⟩
  case round =>
    clear HR HC HZ
    obtain ⟨i, rfl, hi, HR, HC⟩ := hrel
    have bw := B1.out.trans (HC.out.mono (by omega))
    have HB := hid bw
    have qq := Q0.out.below HC.out (by omega)
    have c0 := qq.cell (i := 0) (by omega)
    have c1 := qq.cell (i := 1) (by omega)
    rw [if_pos rfl] at c0
    rw [if_neg (by decide)] at c1
    by_cases hin : i = n
    · have hin' : ¬ (i : Int) < (n : Int) := by omega
      subst hin
      have RI : Rowi wr (w.heap.size + 1) i (fun t => d t - 1) := by
        obtain ⟨cur, h1, h2, h3⟩ := HR.out
        exact ⟨cur, h1, h2, fun j hj => by rw [h3 j hj]; dsimp only; rw [if_pos hj]⟩
      have PL := hid (PLA.out wr _ bw RI)
      have SP := hid (SPR.out wr bw)
      have lw := bw.size
      have w1 : IntKind.i64.wrap ((na : Int) - 1 + 1) = (na : Int) := by rw [IntKind.wrap_i64]; omega
      have w1' : (na : Int) - 1 + 1 = (na : Int) := by omega
      clear RI bw qq HR HC PLA SPR UU HD Q0 B1
      go_wp2_with fail
      refine PL.out.mono ?_
      rintro e w3 ⟨rfl, hw⟩
      obtain rfl := hw.symm
      clear PL
      go_wp2_with fail
      refine SP.out.mono ?_
      rintro e w4 ⟨⟨gr, rfl, R4, l4⟩, B4⟩
      have RR := hid R4
      have BB := hid (HB.out.trans (B4.mono HB.out.size))
      clear SP R4 B4 HB c0 c1
      go_wp2
      go_ret
      exact ⟨⟨gr, rfl, RR.out, by omega⟩, BB.out⟩
    · have hin' : (i : Int) < (n : Int) := by omega
      obtain ⟨db, doff, rfl, dlt, dcell⟩ := UU.out.spot (by omega)
      have cd : wr.cell? ⟨db, doff + i, none⟩ = some (.int .i64 (d i)) := by
        rw [bw.cell (p := ⟨db, doff + i, none⟩) dlt]; exact dcell i (by omega)
      have vd := UU.out.val (j := i) (by omega)
      have d1 := HD.out i (by omega)
      have w1 : IntKind.i64.wrap (d i - 1) = d i - 1 := by rw [IntKind.wrap_i64]; omega
      have cl := HR.out.cell (i := i) (by omega)
      have fl := HR.out.frozen i
      have R2 := hid (HR.out.set (y := fun t => if t < i + 1 then d t - 1 else 0) i (d i - 1) (fun j _ => by
        by_cases e : j = i
        · rw [if_pos e, if_pos (by omega), e]
        · rw [if_neg e]
          by_cases e2 : j < i
          · rw [if_pos e2, if_pos (by omega)]
          · rw [if_neg e2, if_neg (by omega)]))
      have B2 := hid (below_set HC.out (Nat.le_refl _) i (.int .i64 (d i - 1)))
      clear bw qq HR HC PLA SPR UU HD Q0 B1 HB dlt dcell c0 c1
      generalize hdd : d i = di at *
      clear hdd
      go_wp2
      exact ⟨⟨i + 1, rfl, by omega, R2, B2⟩, by simp only [intOf]; omega⟩
end Go.Proofs.YtocfenjampmdlaaGreatDoor
