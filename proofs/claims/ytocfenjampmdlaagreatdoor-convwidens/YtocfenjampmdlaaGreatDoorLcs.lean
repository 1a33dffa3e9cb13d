/- The law ConvSame, walked. -/
import Derived.Test.YtocfenjampmdlaaGreatDoorLce
namespace Go.Proofs.YtocfenjampmdlaaGreatDoor
open Go.RowKit Num Nmb

theorem prd_comm (a b : Nat → Int) (n m j : Nat) : prd b a m n j = prd a b n m j := by
  unfold prd
  rw [sm_swap]
  refine sm_eq _ fun i _ => sm_eq _ fun l _ => ?_
  rw [Nat.add_comm l i, Int.mul_comm]
/-- boxes of one variable. -/
theorem bxp_one {a b : Nat → Int} {n m : Nat} {d e f : Nat → Int} (hd : d 0 = n) (he : e 0 = m) (j : Nat) : bxp d e f 1 a b n m j = prd a b n m j := by
  unfold bxp prd
  refine sm_eq _ fun i hi => sm_eq _ fun k hk => ?_
  have h1 : dg d 1 i 0 = i := by
    show (if 0 = 0 then (i : Int) % d 0 else _) = _
    rw [if_pos rfl, hd, Int.emod_eq_of_lt (by omega) (by omega)]
  have h2 : dg e 1 k 0 = k := by
    show (if 0 = 0 then (k : Int) % e 0 else _) = _
    rw [if_pos rfl, he, Int.emod_eq_of_lt (by omega) (by omega)]
  have h3 : pl f (fun t => dg d 1 i t + dg e 1 k t) 1 = i + k := by
    show (0 : Int) * f 0 + (dg d 1 i 0 + dg e 1 k 0) = _
    rw [h1, h2, Int.zero_mul, Int.zero_add]
  rw [h3]
  by_cases q : i + k = j
  · rw [if_pos q, if_pos (by omega)]
  · rw [if_neg q, if_neg (by omega)]
theorem sz_one (d : Nat → Int) (n : Nat) (hd : d 0 = n) (hn : 1 ≤ n) (hn2 : n ≤ 65536) : SzIs d 1 n 0 := by
  have e : pd d 1 = n := by show (1 : Int) * d 0 = _; rw [hd, Int.one_mul]
  exact Or.inr ⟨by decide, fun i hi => by
    obtain rfl : i = 0 := by omega
    omega, Or.inr ⟨by rw [e]; omega, by rw [e], rfl⟩⟩
theorem mod_is {A : Int} {f : Nat} {r : Int} (h : B.ModIs A f r) : r = A % f := by
  obtain ⟨h1, h2, q, h3⟩ := h
  rw [← h3, Int.add_comm, Int.add_mul_emod_self_right, Int.emod_eq_of_lt h1 h2]
set_option maxHeartbeats 3200000 in
set_option maxRecDepth 100000 in
theorem csame_law (u v : Value) (n m : Nat) (a b : Nat → Int) (M : Nat) (w : World) (hM : M ≤ 18446744073709551615) (U : Wl w u n a) (V : Wl w v m b) (L : LayB w) :
    Calls Tryz.prog 8 #[u, v, .int .u64 M] w fun e w' => e = .returned (.bool true) ∧ Below w.heap.size w w' := by
  have AWA : Hid (∀ w', Below w.heap.size w w' → Calls Tryz.prog 9 #[] w' fun e w'' => e = .returned (.bool true) ∧ Below w'.heap.size w' w'') := fun w' B => awake8 w' (L.below B)
  have UU := hid U
  have VV := hid V
  have LL := hid L
  have B0 := hid (Below.refl w.heap.size w)
  obtain ⟨ao, cap, rfl, -⟩ := U
  obtain ⟨bo, bap, rfl, -⟩ := V
  clear L
  by_cases hbad : 100 < n ∨ 100 < m ∨ M < 2 ∨ 9223372036854775808 ≤ M
  · by_cases h1 : 100 < n
    · have h1' : (100 : Int) < (n : Int) := by omega
      clear hbad
      go_enter Tryz.func8, Tryz.ntmps8
      go_wp2_with fail
      refine (AWA.out _ B0.out).mono ?_
      rintro e w9 ⟨rfl, B9⟩
      have BB9 := hid (B0.out.trans (B9.mono B0.out.size))
      clear B9
      go_wp2
      go_ret
      exact ⟨rfl, BB9.out⟩
    have h1' : ¬ (100 : Int) < (n : Int) := by omega
    by_cases h2 : 100 < m
    · have h2' : (100 : Int) < (m : Int) := by omega
      clear hbad
      go_enter Tryz.func8, Tryz.ntmps8
      go_wp2_with fail
      refine (AWA.out _ B0.out).mono ?_
      rintro e w9 ⟨rfl, B9⟩
      have BB9 := hid (B0.out.trans (B9.mono B0.out.size))
      clear B9
      go_wp2
      go_ret
      exact ⟨rfl, BB9.out⟩
    have h2' : ¬ (100 : Int) < (m : Int) := by omega
    by_cases h3 : M < 2
    · have h3' : (M : Int) < 2 := by omega
      clear hbad
      go_enter Tryz.func8, Tryz.ntmps8
      go_wp2_with fail
      refine (AWA.out _ B0.out).mono ?_
      rintro e w9 ⟨rfl, B9⟩
      have BB9 := hid (B0.out.trans (B9.mono B0.out.size))
      clear B9
      go_wp2
      go_ret
      exact ⟨rfl, BB9.out⟩
    have h3' : ¬ (M : Int) < 2 := by omega
    have h4' : (9223372036854775808 : Int) ≤ (M : Int) := by omega
    clear hbad
    go_enter Tryz.func8, Tryz.ntmps8
    go_wp2_with fail
    refine (AWA.out _ B0.out).mono ?_
    rintro e w9 ⟨rfl, B9⟩
    have BB9 := hid (B0.out.trans (B9.mono B0.out.size))
    clear B9
    go_wp2
    go_ret
    exact ⟨rfl, BB9.out⟩
  have h1' : ¬ (100 : Int) < (n : Int) := by omega
  have h2' : ¬ (100 : Int) < (m : Int) := by omega
  have h3' : ¬ (M : Int) < 2 := by omega
  have h4' : ¬ (9223372036854775808 : Int) ≤ (M : Int) := by omega
  have M2 : 2 ≤ M := by omega
  have M63 : M ≤ 9223372036854775807 := by omega
  have n100 : n ≤ 100 := by omega
  have m100 : m ≤ 100 := by omega
  clear hbad
  obtain ⟨K, hK⟩ : ∃ K, K = if n = 0 ∨ m = 0 then 0 else n + m - 1 := ⟨_, rfl⟩
  have K2 : K ≤ 200 := by
    rw [hK]
    split <;> omega
  have HK := hid hK
  have CV : Hid (∀ w1 (u' v' : Value) (n' m' : Nat) (a' b' : Nat → Int), LayB w1 → Wl w1 u' n' a' → Wl w1 v' m' b' → (n' = n ∧ m' = m ∨ n' = m ∧ m' = n) → Calls Tryz.prog 10 #[u', v', .int .u64 M] w1 fun e w' => (∃ lo lc, e = .returned (.tuple #[.slice lo K lc, .int .i64 0]) ∧ Wl w' (.slice lo K lc) K (fun j => prd a' b' n' m' j % M)) ∧ Below w1.heap.size w1 w') := by
    intro w1 u' v' n' m' a' b' L' U' V' hnm
    by_cases z : n = 0 ∨ m = 0
    · rw [if_pos z] at hK
      subst hK
      refine (conv_none _ _ n' m' a' b' M w1 U' V' M2 M63 (by omega)).mono ?_
      rintro e w' ⟨⟨lo, lc, rfl, W⟩, B⟩
      exact ⟨⟨lo, lc, rfl, W.eq (fun j hj => absurd hj (by omega))⟩, B⟩
    · rw [if_neg z] at hK
      have e : K = n' + m' - 1 := by omega
      rw [e]
      exact conv_yes _ _ n' m' a' b' M w1 L' U' V' M2 M63 (by omega) (by omega) (by omega)
  have CE : Hid (∀ w1, Below w.heap.size w w1 → Calls Tryz.prog 14 #[.slice ao n cap, .slice bo m bap] w1 fun e w' => (∃ lo lc, e = .returned (.tuple #[.slice lo K lc, .int .i64 0]) ∧ Zl w' (.slice lo K lc) K (prd a b n m)) ∧ Below w1.heap.size w1 w') := by
    intro w1 B
    by_cases z : n = 0 ∨ m = 0
    · rw [if_pos z] at hK
      subst hK
      refine (exact_none _ _ n m a b w1 (UU.out.below B) (VV.out.below B) z).mono ?_
      rintro e w' ⟨⟨lo, lc, rfl, hlc⟩, B⟩
      exact ⟨⟨lo, lc, rfl, _, lc, rfl, Nat.zero_le _, hlc, fun h => absurd h (by omega)⟩, B⟩
    · rw [if_neg z] at hK
      subst hK
      exact exact_yes _ _ n m a b w1 (LL.out.below B) (UU.out.below B) (VV.out.below B) (by omega) (by omega) (by omega)
  clear hK
  go_enter Tryz.func8, Tryz.ntmps8
  go_wp2_with fail
  refine (CV.out w _ _ n m a b LL.out UU.out VV.out (Or.inl ⟨rfl, rfl⟩)).mono ?_
  rintro e1 w1 ⟨⟨xo, xc, rfl, X⟩, B1⟩
  have X1 := hid X
  have BB1 := hid B1
  clear X B1
  go_wp2_with fail
  refine (CV.out w1 _ _ m n b a (LL.out.below BB1.out) (VV.out.below BB1.out) (UU.out.below BB1.out) (Or.inr ⟨rfl, rfl⟩)).mono ?_
  rintro e2 w2 ⟨⟨yo, yc, rfl, Y⟩, B2⟩
  have Y2 := hid (Y.eq (y := fun j => prd a b n m j % M) (fun j _ => by rw [prd_comm]))
  have X2 := hid (X1.out.below B2)
  have BB2 := hid (BB1.out.trans (B2.mono BB1.out.size))
  clear Y B2 X1 BB1 CV
  go_wp2_with fail
  refine (CE.out w2 BB2.out).mono ?_
  rintro e3 w3 ⟨⟨zo, zc, rfl, Z⟩, B3⟩
  have Z3 := hid Z
  have X3 := hid (X2.out.below B3)
  have Y3 := hid (Y2.out.below B3)
  have BB3 := hid (BB2.out.trans (B3.mono BB2.out.size))
  clear Z B3 X2 Y2 BB2 CE
  go_wp2_with fail
  refine (same_yes8 _ _ K _ _ w3 X3.out Y3.out (fun j hj => rfl)).mono ?_
  rintro e4 w4 ⟨rfl, c, rfl⟩
  have Z4 := hid (Z3.out.drew c)
  have X4 := hid (X3.out.drew c)
  have BB4 := hid (below_drewN BB3.out c)
  clear Z3 X3 Y3 BB3
  generalize w3.drewN c = w4 at *
  go_wp2
  go_loopw [13] (fun iv wr => ∃ (i : Nat), iv = .int .i64 i ∧ i ≤ K ∧ Hid (Below w4.heap.size w4 wr)) (fun iv _ => ((K : Int) - intOf iv).toNat)
  case atStart => exact ⟨0, rfl, Nat.zero_le _, Below.refl _ _⟩
  case round =>
    obtain ⟨i, rfl, hi, Bi⟩ := hrel
    have BBi := hid (BB4.out.trans (Bi.out.mono BB4.out.size))
    by_cases him : i = K
    · have him' : ¬ (i : Int) < (K : Int) := by omega
      obtain rfl := him
      have Xi := hid (X4.out.below Bi.out)
      by_cases z : n = 0 ∨ m = 0
      · have k0 : i = 0 := by rw [HK.out, if_pos z]
        subst k0
        have z' : n = 0 ∨ m = 0 ∧ ¬ n = 0 := by omega
        clear HK Z4 X4 UU VV z Xi
        rcases z' with z | ⟨z, zn⟩
        · subst z
          go_wp2_with fail
          refine (AWA.out _ BBi.out).mono ?_
          rintro e w9 ⟨rfl, B9⟩
          have BB9 := hid (BBi.out.trans (B9.mono BBi.out.size))
          clear B9
          go_wp2
          go_ret
          exact ⟨rfl, BB9.out⟩
        · subst z
          have zn' : ((n : Int) == 0) = false := beq_eq_false_iff_ne.2 (by omega)
          go_wp2_with fail
          refine (AWA.out _ BBi.out).mono ?_
          rintro e w9 ⟨rfl, B9⟩
          have BB9 := hid (BBi.out.trans (B9.mono BBi.out.size))
          clear B9
          go_wp2
          go_ret
          exact ⟨rfl, BB9.out⟩
      · have kn : i = n + m - 1 := by rw [HK.out, if_neg z]
        have zn' : ((n : Int) == 0) = false := beq_eq_false_iff_ne.2 (by omega)
        have zm' : ((m : Int) == 0) = false := beq_eq_false_iff_ne.2 (by omega)
        obtain ⟨A1, A2, A3⟩ := litsi wr [n] [m] (.cells #[.int .i64 n] 3 (0, 0)) (.cells #[.int .i64 m] 3 (0, 0)) rfl rfl (by simp) (by simp) (by intro x hx; simp at hx; omega) (by intro x hx; simp at hx; omega)
        have BA := hid (BBi.out.trans (A3.mono BBi.out.size))
        have MB := hid (cmulb_yes _ _ _ _ 1 n m i (lw [n]) (lw [m]) a b M _ (LL.out.below BA.out) A1 (UU.out.below BA.out) A2 (VV.out.below BA.out) M2 M63 (sz_one _ n rfl (by omega) (by omega)) (sz_one _ m rfl (by omega) (by omega)) (sz_one _ i (by show (n : Int) + m - 1 = i; omega) (by omega) (by omega)))
        have XA := hid (Xi.out.below A3)
        clear kn
        clear A1 A2 A3 HK Z4 X4 UU VV Xi z
        go_wp2_with fail
        refine MB.out.mono ?_
        rintro e6 w6 ⟨⟨do_, dc, lo, lc, rfl, -, W6⟩, B6⟩
        have W7 := hid (W6.eq (y := fun j => prd a b n m j % M) (fun j _ => by rw [bxp_one (n := n) (m := m) (d := lw [n]) (e := lw [m]) rfl rfl]))
        have X7 := hid (XA.out.below B6)
        have BB7 := hid (BA.out.trans (B6.mono BA.out.size))
        clear W6 B6 MB XA BA
        have BN : Hid (Below w6.heap.size w6 (w6.alloc (.cells #[.slice do_ 1 dc, .slice lo i lc] 47 (0, 0)))) := (Below.refl _ _).alloc (Nat.le_refl _) _
        go_wp2_with fail
        refine (same_yes8 _ _ i _ _ _ (W7.out.below BN.out) (X7.out.below BN.out) (fun j hj => rfl)).mono ?_
        rintro e8 w8 ⟨rfl, c8, rfl⟩
        have BB8 := hid (below_drewN (BB7.out.trans (BN.out.mono BB7.out.size)) c8)
        clear W7 X7 BN BB7
        go_wp2_with fail
        refine (AWA.out _ BB8.out).mono ?_
        rintro e w9 ⟨rfl, B9⟩
        have BB9 := hid (BB8.out.trans (B9.mono BB8.out.size))
        clear B9
        go_wp2
        go_ret
        exact ⟨rfl, BB9.out⟩
    · have him' : (i : Int) < (K : Int) := by omega
      obtain ⟨zo', zc', hl, -, -, hz⟩ := Z4.out.below Bi.out
      injection hl with hl1 hl2 hl3
      subst hl1 hl3
      clear hl2
      obtain ⟨zb, zf, hzo, hzb, hzc⟩ := hz (by omega)
      subst hzo
      obtain ⟨p, za, zk, zcc, c1, c2, I⟩ := hzc i (by omega)
      have MO := hid (B.Mod_any _ 100 _ (M : Int) wr I (by omega) (by omega) (by omega))
      have Xi := hid (X4.out.below Bi.out)
      clear I hz hzc
      go_wp2_with fail
      refine MO.out.mono ?_
      rintro e5 w5 ⟨⟨r, rfl, R⟩, B5⟩
      have hr := mod_is R
      subst hr
      obtain ⟨xb, xf, hxo, hxb, cx⟩ := (Xi.out.below B5).cell (j := i) (by omega)
      subst hxo
      have BB5 := hid (Bi.out.trans (B5.mono Bi.out.size))
      clear R B5 MO Xi
      generalize prd a b n m i % (M : Int) = rr at *
      go_wp2
      exact ⟨⟨i + 1, rfl, by omega, BB5.out⟩, by simp only [intOf]; omega⟩
end Go.Proofs.YtocfenjampmdlaaGreatDoor
