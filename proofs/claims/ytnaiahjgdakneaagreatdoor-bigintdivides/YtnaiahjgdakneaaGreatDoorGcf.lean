/- What 'Gcd' answers: the greatest number that divides both. -/
import Derived.Test.YtnaiahjgdakneaaGreatDoorGce
namespace Go.Proofs.YtnaiahjgdakneaaGreatDoor
open Go.RowKit Num

theorem Nt.one_num {w : World} {v : Value} {m m' : Nat} {Y Y' : Int} (h : Nt w v m Y) (k : Nt w v m' Y') : Y = Y' := by
  obtain ⟨y, p, ⟨ao, cap, rfl, _, _, _, _, h5⟩, rfl⟩ := h
  obtain ⟨z, q, ⟨bo, cap', e, _, _, _, _, k5⟩, rfl⟩ := k
  cases e
  refine V_congr m (fun j hj => ?_)
  obtain ⟨b, off, e1, _, hc⟩ := h5 (by omega)
  obtain ⟨b', off', e2, _, kc⟩ := k5 (by omega)
  rw [e1] at e2
  cases e2
  have := (hc j hj).symm.trans (kc j hj)
  simpa using this
/-- there is a function that reads a number out of memory. -/
theorem numOf_is : ∃ f : World → Value → Nat, ∀ (w : World) (v : Value) (m : Nat) (Y : Int), Nt w v m Y → f w v = Y.toNat := by
  classical
  refine ⟨fun w v => if h : ∃ p : Nat × Int, Nt w v p.1 p.2 then (Classical.choose h).2.toNat else 0, fun w v m Y h => ?_⟩
  have hh : ∃ p : Nat × Int, Nt w v p.1 p.2 := ⟨(m, Y), h⟩
  show (if h : ∃ p : Nat × Int, Nt w v p.1 p.2 then (Classical.choose h).2.toNat else 0) = _
  rw [dif_pos hh, (Classical.choose_spec hh).one_num h]
theorem Nz.one (w : World) (a : Int) (h0 : 0 < a) (h1 : a ≤ 18446744073709551615) : Nz (w.alloc (.cells #[.int .u64 a] 26)) (.slice (some ⟨w.heap.size, 0, none⟩) 1 1) 1 a := by
  obtain ⟨x, o, s, e⟩ := Nt.one w a (by omega) h1
  refine ⟨x, o, s, Or.inr ?_, e⟩
  have : V x o 1 = x (o + 0) := by simp [V, P]
  rw [this] at e
  show x (o + 0) ≠ 0
  omega
theorem cmpI_lt' {a b : Int} (h : a < b) : cmpI a b = -1 := by unfold cmpI; rw [if_pos h]
theorem cmpI_ge' {a b : Int} (h : ¬ a < b) : ¬ cmpI a b < 0 := by unfold cmpI; rw [if_neg h]; split <;> decide
/-- what the loop of 'Gcd' keeps. -/
def Grel (G L : Nat) (w : World) (xv yv : Value) (wr : World) : Prop := ∃ (n m : Nat) (X Y : Int), Nz wr xv n X ∧ Nz wr yv m Y ∧ Y ≤ X ∧ X < P L ∧ Int.gcd X Y = G ∧ Below w.heap.size w wr
set_option maxHeartbeats 1600000 in
set_option maxRecDepth 100000 in
theorem gcd_any (vx vy : Value) (n m : Nat) (A B : Int) (w : World) (hx : Nt w vx n A) (hy : Nt w vy m B) (hn : n ≤ 100000000) (hm : m ≤ 100000000) :
    Calls Tryz.prog 38 #[vx, vy] w fun e w' => (∃ v, e = .returned v ∧ ∃ k, Nz w' v k (Int.gcd A B : Nat) ∧ k ≤ max n m) ∧ Below w.heap.size w w' := by
  obtain ⟨mf, hmf⟩ := numOf_is
  have MF := hid hmf
  clear hmf
  have HX := hid hx
  have HY := hid hy
  have LA : A < P (max n m) := Int.lt_of_lt_of_le hx.lt (P_le (by omega))
  have LB : B < P (max n m) := Int.lt_of_lt_of_le hy.lt (P_le (by omega))
  have LL := hid (And.intro LA LB)
  obtain ⟨_, _, ⟨xo, xc, rfl, _⟩, _⟩ := hx
  obtain ⟨_, _, ⟨yo, yc, rfl, _⟩, _⟩ := hy
  obtain ⟨G, hG⟩ : ∃ G, G = Int.gcd A B := ⟨_, rfl⟩
  rw [← hG]
  have HG := hid hG
  clear LA LB hG
  go_enter Tryz.func38, Tryz.ntmps38
  go_wp2_with fail
  refine (norm_any _ n A _ HX.out hn).mono ?_
  rintro e w1 ⟨k1, X1, rfl, R1, W1, N1, V1, l1, B1, z1⟩
  have NX := hid (Nz.of_row R1 W1 N1 V1 (by omega))
  have HY1 := hid (HY.out.below B1)
  have BB := hid B1
  clear R1 W1 N1 V1 B1 z1
  go_wp2_with fail
  refine (norm_any _ m B _ HY1.out hm).mono ?_
  rintro e w2 ⟨k2, X2, rfl, R2, W2, N2, V2, l2, B2, z2⟩
  have NY := hid (Nz.of_row R2 W2 N2 V2 (by omega))
  have NX2 := hid (NX.out.below B2)
  have BB2 := hid (BB.out.trans (B2.mono BB.out.size))
  clear R2 W2 N2 V2 B2 NX BB HY1 z2
  go_wp2_with fail
  refine (cmp_nt _ _ k1 k2 A B _ NX2.out.nt NY.out.nt).mono ?_
  rintro e w3 ⟨rfl, ic, hwc⟩
  have B3 : Below w2.heap.size w2 w3 := by rw [hwc]; exact below_drewN (Below.refl _ _) ic
  have NX3 := hid (NX2.out.below B3)
  have NY3 := hid (NY.out.below B3)
  have BB3 := hid (BB2.out.trans (B3.mono BB2.out.size))
  clear hwc B3 NX2 NY BB2
  have A0 := HX.out.nonneg
  have B0 := HY.out.nonneg
  by_cases hlt : A < B
  · rw [cmpI_lt' hlt]
    have R0 : Hid (Grel G (max n m) w (.slice (some ⟨w1.heap.size, 0, none⟩) k2 k2) (.slice (some ⟨w.heap.size, 0, none⟩) k1 k1) w3) := ⟨k2, k1, B, A, NY3.out, NX3.out, by omega, LL.out.2, by rw [HG.out, Int.gcd_comm], BB3.out⟩
    clear NX3 NY3 BB3 HG LL HX HY
    go_wp2
    go_loopw [0, 1] (fun xv yv wr => Grel G (max n m) w xv yv wr) (fun _ yv wr => mf wr yv)
    case atStart => exact R0.out
    case round =>
      clear R0
      obtain ⟨n', m', X, Y, NX, NY, hle, hL, hg, BW⟩ := hrel
      have hn' : n' ≤ max n m := NX.len_le hL
      have NU := hid (MF.out wr _ _ _ NY.nt)
      have HNX := hid NX
      have HNY := hid NY
      have HBW := hid BW
      have HL := hid hL
      have Hg := hid hg
      obtain ⟨_, _, ⟨xo', xc', rfl, _⟩, _⟩ := NX
      obtain ⟨y, p, ⟨yo', yc', rfl, ya, yb, yw, yn, y5⟩, ym, ey⟩ := NY
      have Y5 := hid y5
      have YW := hid yw
      clear BW hL hg y5 yw
      by_cases h1 : 1 < m'
      · have h1' : (1 : Int) < m' := by omega
        go_wp2_with fail
        refine (euclid_any _ _ n' m' X Y _ HNX.out HNY.out hle (by omega) (by omega)).mono ?_
        rintro e w5 ⟨⟨v1, v2, q1, q2, X', Y', rfl, S1, S2, EU⟩, B5⟩
        have HS1 := hid S1
        have HS2 := hid S2
        have HE := hid EU
        have HB5 := hid (HBW.out.trans (B5.mono HBW.out.size))
        have N2 := hid (MF.out w5 _ _ _ S2.nt)
        obtain ⟨_, _, ⟨vo1, vc1, rfl, _⟩, _⟩ := S1
        obtain ⟨_, _, ⟨vo2, vc2, rfl, _⟩, _⟩ := S2
        clear B5 EU
        go_wp2
        refine ⟨⟨q1, q2, X', Y', HS1.out, HS2.out, HE.out.h2, ?_, by rw [HE.out.g]; exact Hg.out, HB5.out⟩, ?_⟩
        · have := HE.out.h3; have := HL.out; omega
        · rw [N2.out, NU.out]
          have := HE.out.h0; have := HE.out.h1
          omega
      · have h1' : ¬ (1 : Int) < m' := by omega
        by_cases h0 : m' = 0
        · subst h0
          have hY : Y = 0 := HNY.out.len.1.2 rfl
          have hX : X = (G : Int) := by
            have := Hg.out
            rw [hY, Int.gcd_zero_right] at this
            have := HNX.out.nt.nonneg
            omega
          have FIN : Hid (Nz wr (.slice xo' n' xc') n' (G : Int)) := by rw [← hX]; exact HNX.out
          go_wp2
          go_ret
          exact ⟨⟨_, rfl, n', FIN.out, hn'⟩, HBW.out⟩
        · have h01 : m' = 1 := by omega
          subst h01
          obtain ⟨b, off, rfl, hbs, hc⟩ := Y5.out (by omega)
          have c0 := hc 0 (by omega)
          obtain ⟨u0, u1⟩ := YW.out 0 (by omega)
          have eY : y (p + 0) = Y := by rw [← ey]; simp [V, P]
          rw [Nat.add_zero] at c0
          rw [eY] at c0 u0 u1
          have hne : Y ≠ 0 := fun h => absurd (HNY.out.len.1.1 h) (by decide)
          have hY0 : 0 < Y := by omega
          have hYb : ¬ (Y : Int) = 0 := by omega
          clear hc ey eY Y5 YW
          go_wp2_with fail
          refine (divWord_any _ n' X Y _ HNX.out.nt (by omega) hY0 u1).mono ?_
          rintro e w5 ⟨v1, q1, qq, r, rfl, S1, e1, r0, r1, l1, B5⟩
          have c5 : w5.cell? ⟨b, off, none⟩ = some (.int .u64 Y) := (B5.cell (p := ⟨b, off, none⟩) hbs).trans c0
          have HB5 := hid (HBW.out.trans (B5.mono HBW.out.size))
          have GD := hid (gcd_div e1)
          clear S1 e1 l1 B5 c0
          obtain ⟨yn', hyn⟩ := Int.eq_ofNat_of_zero_le (show 0 ≤ Y by omega)
          obtain ⟨rn, hrn⟩ := Int.eq_ofNat_of_zero_le r0
          have W := hid (fun w => gcdWords_any yn' rn w (by omega) (by omega))
          have eG : Nat.gcd yn' rn = G := by
            have := GD.out
            rw [Hg.out, hyn, hrn] at this
            exact this
          have gpos : 0 < G := by rw [← eG]; exact Nat.gcd_pos_of_pos_left _ (by omega)
          have gle : G ≤ yn' := by rw [← eG]; exact Nat.gcd_le_left _ (by omega)
          rw [eG] at W
          have hn1 : 1 ≤ n' := by
            have := HNX.out.len.1
            omega
          clear eG GD
          go_wp2_with fail
          refine (W.out w5).mono ?_
          rintro e w6 ⟨rfl, kk, hw6⟩
          have FIN := hid (Nz.one w6 (G : Int) (by omega) (by omega))
          have BF := hid ((HB5.out.trans ((show Below w5.heap.size w5 w6 by rw [hw6]; exact below_drewN (Below.refl _ _) kk).mono HB5.out.size)).trans (((Below.refl w6.heap.size w6).alloc (Nat.le_refl _) (.cells #[.int .u64 (G : Int)] 26)).mono (by rw [hw6]; simpa using HB5.out.size)))
          clear hw6
          go_wp2
          go_ret
          exact ⟨⟨_, rfl, 1, FIN.out, by omega⟩, BF.out⟩
  · have hc := cmpI_ge' hlt
    have hcb : decide (cmpI A B < 0) = false := by simpa using hc
    have R0 : Hid (Grel G (max n m) w (.slice (some ⟨w.heap.size, 0, none⟩) k1 k1) (.slice (some ⟨w1.heap.size, 0, none⟩) k2 k2) w3) := ⟨k1, k2, A, B, NX3.out, NY3.out, by omega, LL.out.1, by rw [HG.out], BB3.out⟩
    clear NX3 NY3 BB3 HG LL HX HY
    generalize cmpI A B = cv at *
    go_wp2
    go_loopw [0, 1] (fun xv yv wr => Grel G (max n m) w xv yv wr) (fun _ yv wr => mf wr yv)
    case atStart => exact R0.out
    case round =>
      clear R0
      obtain ⟨n', m', X, Y, NX, NY, hle, hL, hg, BW⟩ := hrel
      have hn' : n' ≤ max n m := NX.len_le hL
      have NU := hid (MF.out wr _ _ _ NY.nt)
      have HNX := hid NX
      have HNY := hid NY
      have HBW := hid BW
      have HL := hid hL
      have Hg := hid hg
      obtain ⟨_, _, ⟨xo', xc', rfl, _⟩, _⟩ := NX
      obtain ⟨y, p, ⟨yo', yc', rfl, ya, yb, yw, yn, y5⟩, ym, ey⟩ := NY
      have Y5 := hid y5
      have YW := hid yw
      clear BW hL hg y5 yw
      by_cases h1 : 1 < m'
      · have h1' : (1 : Int) < m' := by omega
        go_wp2_with fail
        refine (euclid_any _ _ n' m' X Y _ HNX.out HNY.out hle (by omega) (by omega)).mono ?_
        rintro e w5 ⟨⟨v1, v2, q1, q2, X', Y', rfl, S1, S2, EU⟩, B5⟩
        have HS1 := hid S1
        have HS2 := hid S2
        have HE := hid EU
        have HB5 := hid (HBW.out.trans (B5.mono HBW.out.size))
        have N2 := hid (MF.out w5 _ _ _ S2.nt)
        obtain ⟨_, _, ⟨vo1, vc1, rfl, _⟩, _⟩ := S1
        obtain ⟨_, _, ⟨vo2, vc2, rfl, _⟩, _⟩ := S2
        clear B5 EU
        go_wp2
        refine ⟨⟨q1, q2, X', Y', HS1.out, HS2.out, HE.out.h2, ?_, by rw [HE.out.g]; exact Hg.out, HB5.out⟩, ?_⟩
        · have := HE.out.h3; have := HL.out; omega
        · rw [N2.out, NU.out]
          have := HE.out.h0; have := HE.out.h1
          omega
      · have h1' : ¬ (1 : Int) < m' := by omega
        by_cases h0 : m' = 0
        · subst h0
          have hY : Y = 0 := HNY.out.len.1.2 rfl
          have hX : X = (G : Int) := by
            have := Hg.out
            rw [hY, Int.gcd_zero_right] at this
            have := HNX.out.nt.nonneg
            omega
          have FIN : Hid (Nz wr (.slice xo' n' xc') n' (G : Int)) := by rw [← hX]; exact HNX.out
          go_wp2
          go_ret
          exact ⟨⟨_, rfl, n', FIN.out, hn'⟩, HBW.out⟩
        · have h01 : m' = 1 := by omega
          subst h01
          obtain ⟨b, off, rfl, hbs, hc⟩ := Y5.out (by omega)
          have c0 := hc 0 (by omega)
          obtain ⟨u0, u1⟩ := YW.out 0 (by omega)
          have eY : y (p + 0) = Y := by rw [← ey]; simp [V, P]
          rw [Nat.add_zero] at c0
          rw [eY] at c0 u0 u1
          have hne : Y ≠ 0 := fun h => absurd (HNY.out.len.1.1 h) (by decide)
          have hY0 : 0 < Y := by omega
          have hYb : ¬ (Y : Int) = 0 := by omega
          clear hc ey eY Y5 YW
          go_wp2_with fail
          refine (divWord_any _ n' X Y _ HNX.out.nt (by omega) hY0 u1).mono ?_
          rintro e w5 ⟨v1, q1, qq, r, rfl, S1, e1, r0, r1, l1, B5⟩
          have c5 : w5.cell? ⟨b, off, none⟩ = some (.int .u64 Y) := (B5.cell (p := ⟨b, off, none⟩) hbs).trans c0
          have HB5 := hid (HBW.out.trans (B5.mono HBW.out.size))
          have GD := hid (gcd_div e1)
          clear S1 e1 l1 B5 c0
          obtain ⟨yn', hyn⟩ := Int.eq_ofNat_of_zero_le (show 0 ≤ Y by omega)
          obtain ⟨rn, hrn⟩ := Int.eq_ofNat_of_zero_le r0
          have W := hid (fun w => gcdWords_any yn' rn w (by omega) (by omega))
          have eG : Nat.gcd yn' rn = G := by
            have := GD.out
            rw [Hg.out, hyn, hrn] at this
            exact this
          have gpos : 0 < G := by rw [← eG]; exact Nat.gcd_pos_of_pos_left _ (by omega)
          have gle : G ≤ yn' := by rw [← eG]; exact Nat.gcd_le_left _ (by omega)
          rw [eG] at W
          have hn1 : 1 ≤ n' := by
            have := HNX.out.len.1
            omega
          clear eG GD
          go_wp2_with fail
          refine (W.out w5).mono ?_
          rintro e w6 ⟨rfl, kk, hw6⟩
          have FIN := hid (Nz.one w6 (G : Int) (by omega) (by omega))
          have BF := hid ((HB5.out.trans ((show Below w5.heap.size w5 w6 by rw [hw6]; exact below_drewN (Below.refl _ _) kk).mono HB5.out.size)).trans (((Below.refl w6.heap.size w6).alloc (Nat.le_refl _) (.cells #[.int .u64 (G : Int)] 26)).mono (by rw [hw6]; simpa using HB5.out.size)))
          clear hw6
          go_wp2
          go_ret
          exact ⟨⟨_, rfl, 1, FIN.out, by omega⟩, BF.out⟩
end Go.Proofs.YtnaiahjgdakneaaGreatDoor
