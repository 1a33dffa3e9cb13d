/- The law NttLinear. -/
import Derived.Test.YtcclkahoonlieaaDoorLnv
namespace Go.Proofs.YtcclkahoonlieaaDoor
open Go.RowKit Num Nmb

/-- the sums, as far as they are laid. -/
def smz (a b : Nat → Int) (p : Nat) (i j : Nat) : Int := if j < i then (a j + b j) % p else 0
theorem smz_next (a b : Nat → Int) (p i j : Nat) : smz a b p (i + 1) j = if j = i then (a i + b i) % p else smz a b p i j := by
  unfold smz
  by_cases e : j = i
  · rw [if_pos (by omega), if_pos e, e]
  · by_cases e' : j < i
    · rw [if_pos (by omega), if_neg e, if_pos e']
    · rw [if_neg (by omega), if_neg e, if_neg e']
theorem go_sum {a b s : Nat → Int} {p r q : Nat} (hs : ∀ j, j < q → s j = (a j + b j) % p) (j : Nat) : dft s r q j % p = (dft a r q j % p + dft b r q j % p) % p := by
  rw [← Int.add_emod, ← dft_add]
  refine Cg.mod_eq (dft_cg (fun i hi => ?_) j)
  rw [hs i hi]
  exact Cg.mod
theorem go_round {a b c : Nat → Int} {p r k q : Nat} (T : TabOk p k r) (hq : q = 2 ^ k) (hc : ∀ j, j < q → c j = rnd a b q j % p) (j : Nat) : dft c r q j % p = (dft a r q j % p) * (dft b r q j % p) % p := by
  rw [← Int.mul_emod]
  subst hq
  refine Cg.mod_eq (Cg.trans (dft_cg (fun i hi => ?_) j) (T.rt.round a b j))
  rw [hc i hi]
  exact Cg.mod
set_option maxHeartbeats 3200000 in
set_option maxRecDepth 100000 in
theorem linear_law (n0 : Int) (u v : Value) (n m : Nat) (a b : Nat → Int) (w : World) (U : Wl w u n a) (V : Wl w v m b) (L : Lay w) :
    Calls Tryd.prog 7 #[.int .i64 n0, u, v] w fun e w' => e = .returned (.bool true) ∧ Below w.heap.size w w' := by
  have AWA : Hid (∀ w', Below w.heap.size w w' → Calls Tryd.prog 9 #[] w' fun e w'' => e = .returned (.bool true) ∧ Below w'.heap.size w' w'') := fun w' B => awake_yes w' (L.below B L.size)
  have LL := hid L
  have U0 := hid U
  have V0 := hid V
  obtain ⟨ao, cap, rfl, -⟩ := U
  obtain ⟨bo, bap, rfl, -⟩ := V
  clear L
  by_cases hl : 256 < n
  · have h2' : (256 : Int) < (n : Int) := by omega
    have B0 := hid (Below.refl w.heap.size w)
    go_enter Tryd.func7, Tryd.ntmps7
    go_wp2_with fail
    refine (AWA.out _ B0.out).mono ?_
    rintro e w9 ⟨rfl, B9⟩
    have BB9 := hid (B0.out.trans (B9.mono B0.out.size))
    clear B9
    go_wp2
    go_ret
    exact ⟨rfl, BB9.out⟩
  have hn' : ¬ (256 : Int) < (n : Int) := by omega
  by_cases hm : 256 < m
  · have h2' : (256 : Int) < (m : Int) := by omega
    have B0 := hid (Below.refl w.heap.size w)
    go_enter Tryd.func7, Tryd.ntmps7
    go_wp2_with fail
    refine (AWA.out _ B0.out).mono ?_
    rintro e w9 ⟨rfl, B9⟩
    have BB9 := hid (B0.out.trans (B9.mono B0.out.size))
    clear B9
    go_wp2
    go_ret
    exact ⟨rfl, BB9.out⟩
  have hm' : ¬ (256 : Int) < (m : Int) := by omega
  have GR := hid (great_any n0 w)
  have q0 := Int.tmod_lt_of_pos n0 (show (0 : Int) < 9 by decide)
  have q1 := Int.lt_tmod_of_pos n0 (show (0 : Int) < 9 by decide)
  obtain ⟨K, hK, hK8⟩ : ∃ K : Nat, Int.tmod (Int.tmod n0 9 + 9) 9 = (K : Int) ∧ K ≤ 8 := by
    rw [Int.tmod_eq_emod_of_nonneg (show 0 ≤ Int.tmod n0 9 + 9 by omega)]
    exact ⟨((Int.tmod n0 9 + 9) % 9).toNat, by omega, by omega⟩
  go_enter Tryd.func7, Tryd.ntmps7
  go_wp2_with fail
  refine GR.out.mono ?_
  rintro e w1 ⟨⟨p, rfl, GP⟩, B1⟩
  have hP := hid GP.pri
  have pl := GP.le
  have p2 := GP.pri.1
  have BB1 := hid B1
  have L1 := hid (LL.out.below B1 LL.out.size)
  have U1 := hid (U0.out.below B1)
  have V1 := hid (V0.out.below B1)
  clear GP B1 GR LL U0 V0
  by_cases hA : K ≤ tw p
  rotate_left
  · have AR := hid (nnew_arg p K w1 hP.out (by omega) (by omega) (Or.inr (by omega)) L1.out)
    clear hA L1 U1 V1
    go_wp2_with fail
    refine AR.out.mono ?_
    rintro e w2 ⟨rfl, B2⟩
    have BB2 := hid (BB1.out.trans (B2.mono BB1.out.size))
    clear B2 AR BB1
    go_wp2_with fail
    refine (AWA.out _ BB2.out).mono ?_
    rintro e w9 ⟨rfl, B9⟩
    have BB9 := hid (BB2.out.trans (B9.mono BB2.out.size))
    clear B9
    go_wp2
    go_ret
    exact ⟨rfl, BB9.out⟩
  have NW := hid (nnew_yes p K w1 hP.out (by omega) (by omega) hA L1.out)
  clear hA L1
  go_wp2_with fail
  refine NW.out.mono ?_
  rintro e w2 ⟨⟨g, r, rfl, T⟩, B2⟩
  have T2 := hid T
  have U2 := hid (U1.out.below B2)
  have V2 := hid (V1.out.below B2)
  have BB2 := hid (BB1.out.trans (B2.mono BB1.out.size))
  clear B2 NW BB1 U1 V1 T hK q0 q1
  go_wp2
  go_loopw [11, 12] (fun mv iv wr => ∃ (i q : Nat), iv = .int .i64 i ∧ mv = .int .i64 q ∧ i ≤ K ∧ q ≤ 1024 ∧ Hid (q = 2 ^ i) ∧ wr = w2) (fun _ iv _ => ((K : Int) - intOf iv).toNat)
  case atStart => exact ⟨0, 1, rfl, rfl, Nat.zero_le _, by omega, rfl, rfl⟩
  case round =>
    obtain ⟨i, q, rfl, rfl, hi, hq, Q, hwr⟩ := hrel
    obtain rfl := hwr.symm
    by_cases hik : i = K
    rotate_left
    · have hik' : (i : Int) < (K : Int) := by omega
      have hle : 2 ^ (i + 1) ≤ 2 ^ 10 := Nat.pow_le_pow_right (by omega) (by omega)
      have Q' : Hid (2 * q = 2 ^ (i + 1)) := by show _ = _; rw [Q.out, Nat.pow_succ, Nat.mul_comm]
      have hq2 : 2 * q ≤ 1024 := by rw [Q'.out]; exact hle
      clear Q hle
      go_wp2
      exact ⟨⟨i + 1, 2 * q, rfl, by rw [Int.natCast_mul]; rfl, by omega, hq2, Q', by first | trivial | rfl⟩, by simp only [intOf]; omega⟩
    have hik' : ¬ (i : Int) < (K : Int) := by omega
    subst hik
    have q1 : 1 ≤ q := by rw [Q.out]; exact Nat.two_pow_pos i
    go_wp2_with fail
    refine (sized_any _ n q a _ U2.out (by omega)).mono ?_
    rintro e w3 ⟨⟨u', rfl, X⟩, B3⟩
    have T3 := hid (T2.out.below B3)
    have V3 := hid (V2.out.below B3)
    have BB3 := hid (BB2.out.trans (B3.mono BB2.out.size))
    clear B3 BB2 T2 V2
    have U3 := hid X
    clear X U2
    obtain ⟨uo, uc, hu, -⟩ := U3.out
    subst hu
    go_wp2_with fail
    refine (sized_any _ m q b _ V3.out (by omega)).mono ?_
    rintro e w4 ⟨⟨v', rfl, X⟩, B4⟩
    have T4 := hid (T3.out.below B4)
    have U4 := hid (U3.out.below B4)
    have BB4 := hid (BB3.out.trans (B4.mono BB3.out.size))
    clear B4 BB3 T3 U3
    have V4 := hid X
    clear X V3
    obtain ⟨vo, vc, hv, -⟩ := V4.out
    subst hv
    generalize szd a n = A at *
    generalize szd b m = B at *
    go_wp2_with (at_make; refine wp_make _ rfl _ _ rfl _ _ q rfl rfl (by omega) (by omega) (by omega) ?_; intro w5 R5 B5 Z5; have HR := hid R5; have HB := hid B5; clear R5 B5 Z5)
    generalize hg5 : w4.heap.size = g5 at *
    have HG := hid hg5
    clear hg5
    go_loopw [14, 15] (fun lv iv wr => ∃ (i : Nat) (s : Int), iv = .int .i64 i ∧ lv = .int .u64 s ∧ i ≤ q ∧ 0 ≤ s ∧ s < p ∧ Hid (s = sm A i % p) ∧ Hid (Row wr g5 q (smz A B p i) ∧ Below g5 w4 wr)) (fun _ iv _ => ((q : Int) - intOf iv).toNat)
    case atStart => exact ⟨0, 0, rfl, rfl, Nat.zero_le _, Int.le_refl _, by omega, (Int.zero_emod _).symm, by
      have : smz A B p 0 = fun _ => 0 := funext fun j => if_neg (by omega)
      rw [this]
      exact HR.out, HB.out⟩
    case round =>
      obtain ⟨t, s, rfl, rfl, ht, s0, s1, SE, R⟩ := hrel
      clear HR HB
      by_cases htq : t = q
      rotate_left
      · have htq' : (t : Int) < (q : Int) := by omega
        obtain ⟨x1, o1, rfl, hx1, c1'⟩ := U4.out.cell (j := t) (by omega)
        obtain ⟨x2, o2, rfl, hx2, c2'⟩ := V4.out.cell (j := t) (by omega)
        have a0 := (U4.out.val (j := t) (by omega)).1
        have b0 := (V4.out.val (j := t) (by omega)).1
        have c1 : wr.cell? ⟨x1, o1 + t, none⟩ = some (.int .u64 (A t)) := by rw [R.out.2.cell (p := ⟨x1, o1 + t, none⟩) (by rw [HG.out] at hx1; exact hx1)]; exact c1'
        have c2 : wr.cell? ⟨x2, o2 + t, none⟩ = some (.int .u64 (B t)) := by rw [R.out.2.cell (p := ⟨x2, o2 + t, none⟩) (by rw [HG.out] at hx2; exact hx2)]; exact c2'
        have c3 := R.out.1.cell (i := t) (by omega)
        have fz := R.out.1.frozen t
        have e0 := Int.emod_nonneg (s + A t) (show (p : Int) ≠ 0 by omega)
        have e1 := Int.emod_lt_of_pos (s + A t) (show (0 : Int) < (p : Int) by omega)
        have SE' : Hid ((s + A t) % p = sm A (t + 1) % p) := by
          show _ = _
          rw [sm_succ, SE.out, Int.add_emod, Int.emod_emod_of_dvd _ (Int.dvd_refl _), ← Int.add_emod]
        have RS : Hid (∀ nq, Row ((wr.drewN nq).setCell ⟨g5, t, none⟩ (.int .u64 ((A t + B t) % p))) g5 q (smz A B p (t + 1))) := fun nq => (R.out.1.drew nq).set t _ (fun j _ => smz_next A B p t j)
        have BS : Hid (∀ nq x, Below g5 w4 ((wr.drewN nq).setCell ⟨g5, t, none⟩ x)) := fun nq x => below_set (below_drewN R.out.2 nq) (Nat.le_refl _) _ _
        have A1 := hid (fun w => radd_any (A t) (B t) p w a0 b0 (by omega) (by omega))
        have A2 := hid (fun w => radd_any s (A t) p w s0 a0 (by omega) (by omega))
        have c1s : Hid (∀ nq x, ((wr.drewN nq).setCell ⟨g5, t, none⟩ x).cell? ⟨x1, o1 + t, none⟩ = some (.int .u64 (A t))) := fun nq x => by
          rw [(BS.out nq x).cell (p := ⟨x1, o1 + t, none⟩) (by rw [HG.out] at hx1; exact hx1)]
          exact c1'
        clear R c1' c2' SE
        generalize (s + A t) % (p : Int) = s' at *
        generalize (A t + B t) % (p : Int) = t2 at *
        go_wp2_with fail
        refine wp_region_last (by kernel_rfl) (by kernel_rfl) (by kernel_rfl) (by kernel_rfl) (by decide) ?_
        simp only [stillLast, still, lastOf]
        repeat (quiet_step ((go_at_call 25; exact Calls.quiet_of (A1.out _))))
        refine wpQuiet_nil ?_
        intro _ hw'
        obtain ⟨nq, hw''⟩ := hw'
        subst hw''
        have c1n := c1s.out nq (.int .u64 t2)
        have RN := hid (RS.out nq)
        have BN := hid (BS.out nq (.int .u64 t2))
        clear c2 c1s RS BS
        go_wp2_with fail
        generalize (wr.drewN nq).setCell ⟨g5, t, none⟩ (.int .u64 t2) = w6 at *
        refine (A2.out _).mono ?_
        rintro e w7 ⟨rfl, c, rfl⟩
        go_wp2
        exact ⟨⟨t + 1, s', rfl, rfl, by omega, e0, e1, SE', RN.out.drew c, below_drewN BN.out c⟩, by simp only [intOf]; omega⟩
      · have htq' : ¬ (t : Int) < (q : Int) := by omega
        subst htq
        have S5 : Hid (Wl wr (.slice (some ⟨g5, 0, none⟩) t t) t (smz A B p t)) := R.out.1.wl (fun j hj => by
          unfold smz
          rw [if_pos hj]
          have h0 := Int.emod_nonneg (A j + B j) (show (p : Int) ≠ 0 by omega)
          have h1 := Int.emod_lt_of_pos (A j + B j) (show (0 : Int) < (p : Int) by omega)
          omega) (by omega)
        have hB5 : Below w4.heap.size w4 wr := by rw [HG.out]; exact R.out.2
        have T5 := hid (T4.out.below hB5)
        have U5 := hid (U4.out.below hB5)
        have V5 := hid (V4.out.below hB5)
        have BB5 := hid (BB4.out.trans (hB5.mono BB4.out.size))
        have ES : Hid (∀ j, j < t → smz A B p t j = (A j + B j) % p) := fun j hj => if_pos hj
        clear hB5 T4 U4 V4 BB4 R
        generalize smz A B p t = Z at *
        go_wp2_with fail
        refine (ngo_any g p i r _ t A _ T5.out U5.out Q.out).mono ?_
        rintro e w6 ⟨⟨xo, xc, rfl, G⟩, B6⟩
        have T6 := hid (T5.out.below B6)
        have U6 := hid (U5.out.below B6)
        have V6 := hid (V5.out.below B6)
        have S6 := hid (S5.out.below B6)
        have BB6 := hid (BB5.out.trans (B6.mono BB5.out.size))
        clear B6 BB5 T5 U5 V5 S5
        have X6 := hid G
        clear G
        go_wp2_with fail
        refine (ngo_any g p i r _ t B _ T6.out V6.out Q.out).mono ?_
        rintro e w7 ⟨⟨yo, yc, rfl, G⟩, B7⟩
        have T7 := hid (T6.out.below B7)
        have U7 := hid (U6.out.below B7)
        have V7 := hid (V6.out.below B7)
        have S7 := hid (S6.out.below B7)
        have X7 := hid (X6.out.below B7)
        have BB7 := hid (BB6.out.trans (B7.mono BB6.out.size))
        clear B7 BB6 T6 U6 V6 S6 X6
        have Y7 := hid G
        clear G
        go_wp2_with fail
        refine (ngo_any g p i r _ t Z _ T7.out S7.out Q.out).mono ?_
        rintro e w8 ⟨⟨zo, zc, rfl, G⟩, B8⟩
        have T8 := hid (T7.out.below B8)
        have U8 := hid (U7.out.below B8)
        have V8 := hid (V7.out.below B8)
        have X8 := hid (X7.out.below B8)
        have Y8 := hid (Y7.out.below B8)
        have BB8 := hid (BB7.out.trans (B8.mono BB7.out.size))
        clear B8 BB7 T7 U7 V7 X7 Y7
        have Z8 := hid (G.eq (fun j _ => go_sum ES.out j))
        clear G ES S7
        go_wp2_with fail
        refine (nround_any g p i r _ _ t A B _ T8.out U8.out V8.out Q.out).mono ?_
        rintro e w9 ⟨⟨co, cc, rfl, G⟩, B9⟩
        have T9 := hid (T8.out.below B9)
        have X9 := hid (X8.out.below B9)
        have Y9 := hid (Y8.out.below B9)
        have Z9 := hid (Z8.out.below B9)
        have BB9 := hid (BB8.out.trans (B9.mono BB8.out.size))
        clear B9 BB8 T8 X8 Y8 Z8
        have C9 := hid G
        clear G U8 V8
        go_wp2_with fail
        refine (ngo_any g p i r _ t _ _ T9.out C9.out Q.out).mono ?_
        rintro e w10 ⟨⟨wo, wc, rfl, G⟩, B10⟩
        have X10 := hid (X9.out.below B10)
        have Y10 := hid (Y9.out.below B10)
        have Z10 := hid (Z9.out.below B10)
        have BB10 := hid (BB9.out.trans (B10.mono BB9.out.size))
        clear B10 BB9 X9 Y9 Z9
        have W10 := hid (G.eq (fun j _ => go_round T9.out.ok Q.out (fun _ _ => rfl) j))
        have s_x : Hid (dft A r t 0 % p = s) := by show _ = _; rw [dft_zero, SE.out]
        obtain ⟨x1, o1, rfl, -, cx0⟩ := X10.out.cell (j := 0) (by omega)
        rw [s_x.out, Nat.add_zero] at cx0
        clear G T9 C9 SE s_x
        have px : ∀ j, 0 ≤ dft A r t j % p := fun j => Int.emod_nonneg _ (by omega)
        have py : ∀ j, 0 ≤ dft B r t j % p := fun j => Int.emod_nonneg _ (by omega)
        have PX := hid px
        have PY := hid py
        clear px py
        obtain ⟨dx, hdx⟩ : ∃ d : Nat → Int, d = fun j => dft A r t j % p := ⟨_, rfl⟩
        obtain ⟨dy, hdy⟩ : ∃ d : Nat → Int, d = fun j => dft B r t j % p := ⟨_, rfl⟩
        have X11 : Hid (Wl w10 (.slice (some ⟨x1, o1, none⟩) t xc) t dx) := by rw [hdx]; exact X10.out
        have Y11 : Hid (Wl w10 (.slice yo t yc) t dy) := by rw [hdy]; exact Y10.out
        have Z11 : Hid (Wl w10 (.slice zo t zc) t (fun j => (dx j + dy j) % p)) := by rw [hdx, hdy]; exact Z10.out
        have W11 : Hid (Wl w10 (.slice wo t wc) t (fun j => dx j * dy j % p)) := by rw [hdx, hdy]; exact W10.out
        have PX' : Hid (∀ j, 0 ≤ dx j) := by rw [hdx]; exact PX.out
        have PY' : Hid (∀ j, 0 ≤ dy j) := by rw [hdy]; exact PY.out
        clear hdx hdy X10 Y10 Z10 W10 PX PY
        have t0 : (0 : Int) < (t : Int) := by omega
        have ss : (s != s) = false := by simp
        go_wp2
        clear cx0
        go_loopw [26] (fun jv wr => ∃ (j : Nat), jv = .int .i64 j ∧ j ≤ t ∧ ∃ c, wr = w10.drewN c) (fun jv _ => ((t : Int) - intOf jv).toNat)
        case atStart => exact ⟨0, rfl, Nat.zero_le _, 0, rfl⟩
        case round =>
          obtain ⟨j, rfl, hj, c0, rfl⟩ := hrel
          by_cases hjq : j = t
          · subst hjq
            have BB11 := hid (below_drewN BB10.out c0)
            go_wp2_with fail
            refine (AWA.out _ BB11.out).mono ?_
            rintro e w9 ⟨rfl, B9⟩
            have BB9 := hid (BB11.out.trans (B9.mono BB11.out.size))
            clear B9
            go_wp2
            go_ret
            exact ⟨rfl, BB9.out⟩
          · have hjq' : (j : Int) < (t : Int) := by omega
            obtain ⟨b1, p1, hb1, -, c1'⟩ := X11.out.cell (j := j) (by omega)
            cases hb1
            obtain ⟨b2, p2', rfl, -, c2'⟩ := Y11.out.cell (j := j) (by omega)
            obtain ⟨b3, p3, rfl, -, c3'⟩ := Z11.out.cell (j := j) (by omega)
            obtain ⟨b4, p4, rfl, -, c4'⟩ := W11.out.cell (j := j) (by omega)
            have c1 : (w10.drewN c0).cell? ⟨x1, o1 + j, none⟩ = some (.int .u64 (dx j)) := by simpa using c1'
            have c2 : (w10.drewN c0).cell? ⟨b2, p2' + j, none⟩ = some (.int .u64 (dy j)) := by simpa using c2'
            have c3 : (w10.drewN c0).cell? ⟨b3, p3 + j, none⟩ = some (.int .u64 ((dx j + dy j) % p)) := by simpa using c3'
            have c4 : (w10.drewN c0).cell? ⟨b4, p4 + j, none⟩ = some (.int .u64 (dx j * dy j % p)) := by simpa using c4'
            have M1 := hid (fun w => rmul_any (dx j) (dy j) p w (PX'.out j) (PY'.out j) (by omega) (by omega))
            have A1 := hid (fun w => radd_any (dx j) (dy j) p w (PX'.out j) (PY'.out j) (by omega) (by omega))
            clear c1' c2' c3' c4'
            generalize (dx j + dy j) % (p : Int) = v1 at *
            generalize dx j * dy j % (p : Int) = v2 at *
            generalize dx j = v3 at *
            generalize dy j = v4 at *
            generalize hw : w10.drewN c0 = w11 at *
            have HE := hid hw
            clear hw
            go_wp2_with fail
            go_quiet (first
              | (go_at_call 26; exact Calls.quiet_of (M1.out _))
              | (go_at_call 25; exact Calls.quiet_of (A1.out _)))
            rename_i nq
            go_wp2
            exact ⟨⟨j + 1, rfl, by omega, c0 + nq, by rw [← HE.out]; simp⟩, by simp only [intOf]; omega⟩
end Go.Proofs.YtcclkahoonlieaaDoor
