/- The law ConvBoxes, walked. -/
import Derived.Test.YtocfenjampmdlaaGreatDoorCh
namespace Go.Proofs.YtocfenjampmdlaaGreatDoor
open Go.RowKit Num Nmb

/-- two boxes laid one behind the other. -/
theorem boxes (w : World) (u v u' v' : Value) : BoxAt ((w.alloc (.cells #[u, v] 47 (0, 0))).alloc (.cells #[u', v'] 47 (0, 0))) w.heap.size u v ∧ BoxAt ((w.alloc (.cells #[u, v] 47 (0, 0))).alloc (.cells #[u', v'] 47 (0, 0))) (w.heap.size + 1) u' v' ∧ Below w.heap.size w ((w.alloc (.cells #[u, v] 47 (0, 0))).alloc (.cells #[u', v'] 47 (0, 0))) := by
  have h1 := BoxAt.new w u v
  have h2 := BoxAt.new (w.alloc (.cells #[u, v] 47 (0, 0))) u' v'
  have b1 : Below w.heap.size w (w.alloc (.cells #[u, v] 47 (0, 0))) := (Below.refl _ _).alloc (Nat.le_refl _) _
  have b2 : Below (w.alloc (.cells #[u, v] 47 (0, 0))).heap.size (w.alloc (.cells #[u, v] 47 (0, 0))) ((w.alloc (.cells #[u, v] 47 (0, 0))).alloc (.cells #[u', v'] 47 (0, 0))) := (Below.refl _ _).alloc (Nat.le_refl _) _
  have e : (w.alloc (.cells #[u, v] 47 (0, 0))).heap.size = w.heap.size + 1 := by simp
  rw [e] at h2
  exact ⟨h1.below b2 h1.lt, h2, b1.trans (b2.mono b1.size)⟩
theorem Rowi.eq {w : World} {g n : Nat} {x y : Nat → Int} (h : Rowi w g n x) (e : ∀ j, j < n → x j = y j) : Rowi w g n y := by
  obtain ⟨cur, h1, h2, h3⟩ := h
  exact ⟨cur, h1, h2, fun j hj => by rw [← e j hj]; exact h3 j hj⟩
theorem Rowi.drew {w : World} {g n : Nat} {x : Nat → Int} (h : Rowi w g n x) (k : Nat) : Rowi (w.drewN k) g n x := by
  obtain ⟨cur, h1, h2, h3⟩ := h
  exact ⟨cur, by simpa using h1, h2, h3⟩
set_option maxHeartbeats 6400000 in
set_option maxRecDepth 100000 in
theorem cboxes_law (ud ul vd vl : Value) (n m ka kb : Nat) (d e a b : Nat → Int) (M : Nat) (w : World) (hM : M ≤ 18446744073709551615) (UD : Wi w ud n d) (UL : Wl w ul ka a) (VD : Wi w vd m e) (VL : Wl w vl kb b) (L : LayB w) :
    Calls Tryz.prog 7 #[.agg #[ud, ul], .agg #[vd, vl], .int .u64 M] w fun e w' => e = .returned (.bool true) ∧ Below w.heap.size w w' := by
  have AWA : Hid (∀ w', Below w.heap.size w w' → Calls Tryz.prog 9 #[] w' fun e w'' => e = .returned (.bool true) ∧ Below w'.heap.size w' w'') := fun w' B => awake8 w' (L.below B)
  have LL := hid L
  obtain ⟨x0, x1, bA⟩ := boxes w ud ul vd vl
  have BA := hid bA
  have X0 := hid x0
  have X1 := hid x1
  have c0 := x0.cell0
  have c1 := x0.cell1
  have c2 := x1.cell0
  have c3 := x1.cell1
  have U1 := hid (UD.below bA)
  have U2 := hid (UL.below bA)
  have V1 := hid (VD.below bA)
  have V2 := hid (VL.below bA)
  obtain ⟨ao, cap, rfl, -⟩ := UD
  obtain ⟨bo, bap, rfl, -⟩ := UL
  obtain ⟨co, cap3, rfl, -⟩ := VD
  obtain ⟨eo, eap, rfl, -⟩ := VL
  clear L x0 x1 bA
  by_cases small : ka ≤ 60 ∧ kb ≤ 60 ∧ n ≤ 10 ∧ m ≤ 10
  · obtain ⟨s1, s2, s3, s4⟩ := small
    have s1' : ¬ (60 : Int) < (ka : Int) := by omega
    have s2' : ¬ (60 : Int) < (kb : Int) := by omega
    have s3' : ¬ (10 : Int) < (n : Int) := by omega
    have s4' : ¬ (10 : Int) < (m : Int) := by omega
    by_cases good : (2 ≤ M ∧ M ≤ 9223372036854775807) ∧ MayM d e n m ka kb
    · obtain ⟨⟨M2, M63⟩, S1, S2, hnm⟩ := good
      subst hnm
      have HS1 := hid S1
      have HS2 := hid S2
      have CM := hid (cmulb_good _ _ _ _ n ka kb d e a b M _ (LL.out.below BA.out) U1.out U2.out V1.out V2.out M2 M63 S1 S2)
      clear S1 S2
      go_enter Tryz.func7, Tryz.ntmps7
      go_wp2_with fail
      refine CM.out.mono ?_
      rintro e1 w1 ⟨⟨xo, xn, xc, lo, ln, lc, er1, rfl, R⟩, B1⟩
      have S1 : Below w1.heap.size w1 (w1.alloc (.cells #[.slice xo xn xc, .slice lo ln lc] 47 (0, 0))) := (Below.refl _ _).alloc (Nat.le_refl _) _
      have T1 := B1.trans (S1.mono B1.size)
      have Y2 := hid (BoxAt.new w1 (.slice xo xn xc) (.slice lo ln lc))
      have X02 := hid (X0.out.below T1 X0.out.lt)
      have X12 := hid (X1.out.below T1 X1.out.lt)
      have D2 := hid (U1.out.below T1)
      have L2 := hid (U2.out.below T1)
      have E2 := hid (V1.out.below T1)
      have K2 := hid (V2.out.below T1)
      have BB2 := hid (BA.out.trans (T1.mono BA.out.size))
      have R2 : Hid (MulR d e a b n ka kb M xo xn xc lo ln lc er1 (w1.alloc (.cells #[.slice xo xn xc, .slice lo ln lc] 47 (0, 0)))) := by
        rcases R with h | ⟨h1, h2, h3, h4, h5⟩
        · exact Or.inl h
        · exact Or.inr ⟨h1, h2, h3, h4.below S1, h5.below S1⟩
      clear R B1 S1 T1 CM U1 U2 V1 V2 BA X0 X1 c0 c1 c2 c3
      have c0 := X02.out.cell0
      have c1 := X02.out.cell1
      have c2 := X12.out.cell0
      have c3 := X12.out.cell1
      go_wp2_with fail
      refine (rmay_yes M _ (by omega) (by omega)).mono ?_
      rintro e2 w2 ⟨rfl, hw⟩
      rw [hw]
      clear hw
      generalize w1.alloc (.cells #[.slice xo xn xc, .slice lo ln lc] 47 (0, 0)) = w2 at *
      go_wp2_with fail
      refine (may_any _ _ n ka d a w2 D2.out L2.out true ⟨fun _ => HS1.out, fun _ => rfl⟩).mono ?_
      rintro e3 w3 ⟨rfl, B3⟩
      have X03 := X02.out.below B3 X02.out.lt
      have X13 := X12.out.below B3 X12.out.lt
      have f0 := X03.cell0
      have f2 := X13.cell0
      have f3 := X13.cell1
      have MB := hid (may_any _ _ n kb e b w3 (E2.out.below B3) (K2.out.below B3) true ⟨fun _ => HS2.out, fun _ => rfl⟩)
      have HB3 := hid B3
      clear B3 X03 X13
      go_wp2_with fail
      refine MB.out.mono ?_
      rintro e4 w4 ⟨rfl, B4⟩
      have b4 : Below w2.heap.size w2 w4 := HB3.out.trans (B4.mono HB3.out.size)
      have Y4 := hid (Y2.out.below b4 Y2.out.lt)
      have X04 := hid (X02.out.below b4 X02.out.lt)
      have X14 := hid (X12.out.below b4 X12.out.lt)
      have D4 := hid (D2.out.below b4)
      have L4 := hid (L2.out.below b4)
      have E4 := hid (E2.out.below b4)
      have K4 := hid (K2.out.below b4)
      have BB4 := hid (BB2.out.trans (b4.mono BB2.out.size))
      have R4 : Hid (MulR d e a b n ka kb M xo xn xc lo ln lc er1 w4) := by
        rcases R2.out with h | ⟨h1, h2, h3, h4, h5⟩
        · exact Or.inl h
        · exact Or.inr ⟨h1, h2, h3, h4.below b4, h5.below b4⟩
      clear B4 b4 HB3 MB Y2 X02 X12 D2 L2 E2 K2 BB2 R2 f0 f2 f3 c0 c1 c2 c3
      have c0 := X04.out.cell0
      have c1 := X04.out.cell1
      have c2 := X14.out.cell0
      have c3 := X14.out.cell1
      go_wp2
      obtain ⟨n8, hd1, hd6, hka⟩ := HS1.out.ok rfl
      obtain ⟨-, he1, he6, hkb⟩ := HS2.out.ok rfl
      have HD1 := hid hd1
      have HE1 := hid he1
      have HDB : Hid (∀ t, t < n → (1 ≤ d t ∧ d t ≤ 65536) ∧ (1 ≤ e t ∧ e t ≤ 65536)) := fun t ht => by
        have h1 := (pd_step (d := d) (n := t) (fun i hi => hd1 i (by omega))).2
        have h2 := pd_mono (d := d) (n := n) hd1 (t + 1) (by omega)
        have h3 := (pd_step (d := e) (n := t) (fun i hi => he1 i (by omega))).2
        have h4 := pd_mono (d := e) (n := n) he1 (t + 1) (by omega)
        have := hd1 t ht
        have := he1 t ht
        omega
      have HKA := hid hka
      have HKB := hid hkb
      clear hd1 he1 hd6 he6 hka hkb HS1 HS2 c0 c1 c2 c3
      obtain ⟨i0, hi0, hz0, hz1, hz2⟩ := info_parts Tryz.infoI
      go_loopw [9, 10] (fun dv iv wr => ∃ (i : Nat), iv = .int .i64 i ∧ i ≤ n ∧ Hid (OwI wr w4.heap.size dv (lst (fun t => d t + e t - 1) i)) ∧ Hid (Below w4.heap.size w4 wr) ∧ w4.heap.size ≤ wr.heap.size) (fun _ iv _ => ((n : Int) - intOf iv).toNat)
      case atStart => exact ⟨0, rfl, Nat.zero_le _, World.ownsRow_nil _ _ _ _, Below.refl _ _, Nat.le_refl _⟩
      case round =>
        obtain ⟨i, rfl, hi, OW, BW, hsz⟩ := hrel
        have X0r := hid (X04.out.below BW.out X04.out.lt)
        have X1r := hid (X14.out.below BW.out X14.out.lt)
        have Dr := hid (D4.out.below BW.out)
        have Er := hid (E4.out.below BW.out)
        have c0 := X0r.out.cell0
        have c1 := X0r.out.cell1
        have c2 := X1r.out.cell0
        have c3 := X1r.out.cell1
        obtain ⟨ow, cw, hv⟩ := OW.out.slice
        rw [lst_len] at hv
        subst hv
        by_cases hin : i = n
        · have hin' : ¬ (i : Int) < (n : Int) := by omega
          have hin2 := hin.symm
          subst hin2
          have DW : Hid (Wi wr (.slice ow n cw) n (fun t => d t + e t - 1)) := by
            have h1 := OW.out.wi (fun x hx => by
              obtain ⟨j, hj, rfl⟩ := lst_mem n hx
              have := HDB.out j hj
              omega)
            rw [lst_len] at h1
            exact h1.eq (fun j hj => lst_at _ n j hj)
          have Yr := hid (Y4.out.below BW.out Y4.out.lt)
          have Lr := hid (L4.out.below BW.out)
          have Kr := hid (K4.out.below BW.out)
          have BBr := hid (BB4.out.trans (BW.out.mono BB4.out.size))
          have Rr : Hid (MulR d e a b n ka kb M xo xn xc lo ln lc er1 wr) := by
            rcases R4.out with h | ⟨h1, h2, h3, h4, h5⟩
            · exact Or.inl h
            · exact Or.inr ⟨h1, h2, h3, h4.below BW.out, h5.below BW.out⟩
          clear OW BW Y4 L4 K4 BB4 R4 X04 X14 D4 E4 hin
          go_wp2_with fail
          refine (rsize_any _ n _ wr DW.out).mono ?_
          rintro e5 w5 ⟨⟨s, er2, rfl, S4⟩, hw⟩
          obtain rfl := hw.symm
          have y0 := Yr.out.cell0
          have y1 := Yr.out.cell1
          rcases Rr.out with ⟨S3, hx1, hx2⟩ | ⟨S3, hx1, hx2, W1, W2⟩
          · obtain ⟨q1, q2⟩ := S4.uniq S3
            subst q1 q2 hx1 hx2
            clear S3 S4 Rr DW Yr Lr Kr X0r X1r Dr Er HDB HKA HKB HD1 HE1
            go_wp2_with fail
            refine (AWA.out _ BBr.out).mono ?_
            rintro e w9 ⟨rfl, B9⟩
            have BB9 := hid (BBr.out.trans (B9.mono BBr.out.size))
            clear B9
            go_wp2
            go_ret
            exact ⟨rfl, BB9.out⟩
          · obtain ⟨q1, q2⟩ := S4.uniq S3
            have hx3 := hx2.symm
            subst q1 q2 hx1 hx3
            have HS3 := hid S3
            have ln6 : ln ≤ 65536 := by have := (S3.ok rfl).2.2; omega
            have HW1 := hid W1
            have HW2 := hid W2
            clear S3 S4 Rr W1 W2
            by_cases hbig : 5000 < ln
            · have hbig' : (5000 : Int) < (ln : Int) := by omega
              clear HW1 HW2 HS3 DW Yr Lr Kr X0r X1r Dr Er HDB HKA HKB HD1 HE1
              go_wp2_with fail
              refine (AWA.out _ BBr.out).mono ?_
              rintro e w9 ⟨rfl, B9⟩
              have BB9 := hid (BBr.out.trans (B9.mono BBr.out.size))
              clear B9
              go_wp2
              go_ret
              exact ⟨rfl, BB9.out⟩
            · have hbig' : ¬ (5000 : Int) < (ln : Int) := by omega
              go_wp2_with fail
              refine (ints_yes _ _ n _ _ wr HW1.out DW.out (fun j _ => rfl)).mono ?_
              rintro e6 w6 ⟨rfl, c6, hw6⟩
              have b6 : Below wr.heap.size wr w6 := by rw [hw6]; exact below_drewN (Below.refl _ _) c6
              have D6 := hid (Dr.out.below b6)
              have E6 := hid (Er.out.below b6)
              have L6 := hid (Lr.out.below b6)
              have K6 := hid (Kr.out.below b6)
              have F6 := hid (DW.out.below b6)
              have X06 := hid (X0r.out.below b6 X0r.out.lt)
              have X16 := hid (X1r.out.below b6 X1r.out.lt)
              have Y6 := hid (Yr.out.below b6 Yr.out.lt)
              have W6 := hid (HW2.out.below b6)
              have BB6 := hid (BBr.out.trans (b6.mono BBr.out.size))
              have y60 := Y6.out.cell0
              have y61 := Y6.out.cell1
              clear hw6 b6 HW1 HW2 DW Yr Lr Kr X0r X1r Dr Er BBr y0 y1 c0 c1 c2 c3
              go_wp2_with (at_make; refine wp_make _ rfl _ _ rfl _ _ ln rfl rfl (by omega) (by omega) (by omega) ?_; intro w7 R7 C7 Z7; have HR7 := hid R7; have HC7 := hid C7; clear R7 C7 Z7)
              obtain ⟨g7, hg7⟩ : ∃ g7, g7 = w6.heap.size := ⟨_, rfl⟩
              have HG7 := hid hg7
              rw [← hg7] at HR7 HC7 ⊢
              have C7 := hid HC7.out
              clear hg7 y60 y61
              have MPOS : Hid (0 < (M : Int)) := by show 0 < (M : Int); omega
              go_loopw [14] (fun iv wr => ∃ (t : Nat) (z : Nat → Int), iv = .int .i64 t ∧ t ≤ ka ∧ Hid (AcR (atp d e n) a b kb t 0 ln M z) ∧ Hid (Row wr g7 ln z) ∧ Hid (Below g7 w6 wr)) (fun iv _ => ((ka : Int) - intOf iv).toNat)
              case atStart => exact ⟨0, _, rfl, Nat.zero_le _, fun j _ => (Int.zero_emod _).symm, HR7.out, HC7.out⟩
              case round =>
                obtain ⟨t, z, rfl, ht, AZ, RZ, BZ⟩ := hrel
                clear HR7 HC7
                have b9 : Below w6.heap.size w6 wr := by rw [← HG7.out]; exact BZ.out
                have X09 := hid (X06.out.below b9 X06.out.lt)
                have x90 := X09.out.cell0
                have x91 := X09.out.cell1
                by_cases htk : t = ka
                · have htk' : ¬ (t : Int) < (ka : Int) := by omega
                  have W9 := hid (W6.out.below b9)
                  have Y9 := hid (Y6.out.below b9 Y6.out.lt)
                  have y91 := Y9.out.cell1
                  have BB9 := hid (BB6.out.trans (b9.mono BB6.out.size))
                  have ZW : Hid (Wl wr (.slice (some ⟨g7, 0, none⟩) ln ln) ln z) := RZ.out.wl (fun j hj => by have := AZ.out.val MPOS.out hj; omega) (by omega)
                  have SA := hid (same_yes8 _ _ ln _ _ wr W9.out ZW.out (fun j hj => by rw [AZ.out j hj, htk, bxp_acc HD1.out HE1.out]))
                  clear AZ RZ BZ X09 W9 Y9 ZW b9 D6 E6 L6 K6 F6 X06 X16 Y6 W6 BB6
                  go_wp2_with fail
                  refine SA.out.mono ?_
                  rintro e8 w8 ⟨rfl, c8, rfl⟩
                  have BB8 := hid (below_drewN BB9.out c8)
                  clear SA
                  go_wp2_with fail
                  refine (AWA.out _ BB8.out).mono ?_
                  rintro e w9 ⟨rfl, B9⟩
                  have BB10 := hid (BB8.out.trans (B9.mono BB8.out.size))
                  clear B9
                  go_wp2
                  go_ret
                  exact ⟨rfl, BB10.out⟩
                · have htk' : (t : Int) < (ka : Int) := by omega
                  clear b9 X09
                  go_wp2
                  go_loopw [15] (fun iv wr => ∃ (k : Nat) (z : Nat → Int), iv = .int .i64 k ∧ k ≤ kb ∧ Hid (AcR (atp d e n) a b kb t k ln M z) ∧ Hid (Row wr g7 ln z) ∧ Hid (Below g7 w6 wr)) (fun iv _ => ((kb : Int) - intOf iv).toNat)
                  case atStart => exact ⟨0, z, rfl, Nat.zero_le _, AZ.out, RZ.out, BZ.out⟩
                  case round =>
                    clear x90 x91 AZ RZ BZ
                    obtain ⟨k, y, rfl, hk, AK, RK, BK⟩ := hrel
                    have b9 : Below w6.heap.size w6 wr := by rw [← HG7.out]; exact BK.out
                    have X09 := hid (X06.out.below b9 X06.out.lt)
                    have X19 := hid (X16.out.below b9 X16.out.lt)
                    have x90 := X09.out.cell0
                    have x91 := X09.out.cell1
                    have x10 := X19.out.cell0
                    have x11 := X19.out.cell1
                    by_cases hkk : k = kb
                    · have hkk' : ¬ (k : Int) < (kb : Int) := by omega
                      have A8 : Hid (AcR (atp d e n) a b kb (t + 1) 0 ln M y) := fun j hj => by rw [AK.out j hj, hkk, acc_next]
                      clear AK X09 X19 b9
                      go_wp2
                      exact ⟨⟨t + 1, y, rfl, by omega, A8.out, RK.out, BK.out⟩, by simp only [intOf]; omega⟩
                    · have hkk' : (k : Int) < (kb : Int) := by omega
                      have D9 := hid (D6.out.below b9)
                      have E9 := hid (E6.out.below b9)
                      have EX := hid (rexps_any _ n d (t : Int) wr D9.out HD1.out (by omega) (by omega))
                      clear b9
                      go_wp2_with fail
                      refine EX.out.mono ?_
                      rintro e8 w8 ⟨rfl, R8, B8⟩
                      obtain ⟨gx, hgx⟩ : ∃ gx, gx = wr.heap.size := ⟨_, rfl⟩
                      have HGX := hid hgx
                      rw [← hgx] at R8 B8 ⊢
                      have X18 := X19.out.below B8 (by rw [hgx]; exact X19.out.lt)
                      have x80 := X18.cell0
                      have EY := hid (rexps_any _ n e (k : Int) w8 (E9.out.below (by rw [← hgx]; exact B8)) HE1.out (by omega) (by omega))
                      have HR8 := hid R8
                      have HB8 := hid B8
                      have gx8 : gx < w8.heap.size := R8.lt
                      clear EX R8 B8 X18 hgx
                      go_wp2_with fail
                      refine EY.out.mono ?_
                      rintro e9 w9 ⟨rfl, R9, B9⟩
                      have RX := hid (HR8.out.below B9 gx8)
                      have RY := hid R9
                      have b9 := hid (HB8.out.trans (B9.mono (Nat.le_of_lt gx8)))
                      obtain ⟨gy, hgy⟩ : ∃ gy, gy = w8.heap.size := ⟨_, rfl⟩
                      rw [← hgy] at RY ⊢
                      have gxy : gx ≠ gy := by omega
                      clear EY R9 B9 HR8 HB8 gx8 x80 hgy
                      go_wp2
                      generalize wr = wB at *
                      clear x90 x91 x10 x11
                      go_loopw [18] (fun iv ws => ∃ (j : Nat), iv = .int .i64 j ∧ j ≤ n ∧ Hid (Rowi ws gx n (fun s => if s < j then dg d n t s + dg e n k s else dg d n t s)) ∧ Hid (OnlyB gx w9 ws)) (fun iv _ => ((n : Int) - intOf iv).toNat)
                      case atStart => exact ⟨0, rfl, Nat.zero_le _, RX.out.eq (fun s _ => by rw [if_neg (by omega)]), OnlyB.refl _ _⟩
                      case round =>
                        obtain ⟨j, rfl, hj, RJ, OJ⟩ := hrel
                        have RYj : Hid (Rowi wr gy n (dg e n k)) := by
                          obtain ⟨cur, h1, h2, h3⟩ := RY.out
                          exact ⟨cur, by rw [OJ.out.block gy (Ne.symm gxy)]; exact h1, h2, h3⟩
                        by_cases hjn : j = n
                        · have hjn' : ¬ (j : Int) < (n : Int) := by omega
                          have bws : Below wB.heap.size wB wr := by
                            rw [← HGX.out]
                            exact b9.out.trans OJ.out.below
                          have SX : Wi wr (.slice (some ⟨gx, 0, none⟩) n n) n (fun s => dg d n t s + dg e n k s) := (RJ.out.eq (y := fun s => dg d n t s + dg e n k s) (fun s hs => by rw [if_pos (by omega)])).wi (fun s hs => by have := atp_in HD1.out HE1.out t k s hs; have := HDB.out s hs; omega) (by omega)
                          have b6s : Below w6.heap.size w6 wB := by rw [← HG7.out]; exact BK.out
                          have b6 := b6s.trans (bws.mono b6s.size)
                          have PC := hid (rplace_any _ _ n n (fun t => d t + e t - 1) (fun s => dg d n t s + dg e n k s) wr (F6.out.below b6) SX)
                          have RK2 := hid (RK.out.below bws RK.out.lt)
                          have BK2 : Hid (Below g7 w6 wr) := BK.out.trans (bws.mono (Nat.le_of_lt RK.out.lt))
                          have L10 := hid (L6.out.below b6)
                          have K10 := hid (K6.out.below b6)
                          have X010 := hid (X06.out.below b6 X06.out.lt)
                          have X110 := hid (X16.out.below b6 X16.out.lt)
                          clear bws SX b6s b6 RJ OJ RYj RX RY b9 X09 X19 D9 E9 RK BK
                          go_wp2_with fail
                          refine PC.out.mono ?_
                          rintro e10 w10 ⟨⟨pr, per, rfl, P10⟩, c10, hw10⟩
                          obtain ⟨p1, p2⟩ := atp_said HD1.out HE1.out t k
                          obtain ⟨-, -, -, hln⟩ := HS3.out.ok rfl
                          obtain ⟨hp1, hp2⟩ := P10.uniq (r' := (atp d e n t k : Int)) (er' := 0) (Or.inr ⟨⟨_, HS3.out⟩, Or.inr ⟨rfl, atp_in HD1.out HE1.out t k, p1.symm, rfl⟩⟩)
                          subst hp1 hp2
                          have pnl : atp d e n t k < ln := by omega
                          have b10 : Below wr.heap.size wr w10 := by rw [hw10]; exact below_drewN (Below.refl _ _) c10
                          have X011 := X010.out.below b10 X010.out.lt
                          have X111 := X110.out.below b10 X110.out.lt
                          have x1a := X011.cell1
                          have x1b := X111.cell1
                          obtain ⟨lb, lof, hlo, -, cla⟩ := (L10.out.below b10).cell (j := t) (by omega)
                          subst hlo
                          obtain ⟨kb2, kof, hko, -, clb⟩ := (K10.out.below b10).cell (j := k) (by omega)
                          subst hko
                          have a0 := (L10.out.val (j := t) (by omega)).1
                          have b0 := (K10.out.val (j := k) (by omega)).1
                          have RK3 := RK2.out.below b10 RK2.out.lt
                          have BK3 := BK2.out.trans (b10.mono (Nat.le_of_lt RK2.out.lt))
                          have zc := RK3.cell (i := atp d e n t k) pnl
                          have zf := RK3.frozen (atp d e n t k)
                          have z0 := AK.out.val MPOS.out pnl
                          have ST : Hid (AcR (atp d e n) a b kb t (k + 1) ln M (fun j => if j = atp d e n t k then (y (atp d e n t k) + a t * b k % M) % M else y j)) := AcR.step AK.out pnl
                          have m0 := Int.emod_nonneg (a t * b k) (show (M : Int) ≠ 0 by omega)
                          have RS : Hid (∀ q, Row ((w10.drewN q).setCell ⟨g7, atp d e n t k, none⟩ (.int .u64 ((y (atp d e n t k) + a t * b k % M) % M))) g7 ln (fun j => if j = atp d e n t k then (y (atp d e n t k) + a t * b k % M) % M else y j)) := fun q => (RK3.drew q).set _ _ (fun _ _ => rfl)
                          have BS : Hid (∀ q v, Below g7 w6 ((w10.drewN q).setCell ⟨g7, atp d e n t k, none⟩ v)) := fun q v => below_set (below_drewN BK3 q) (Nat.le_refl _) _ _
                          have RM := hid (fun W => rmul_any (a t) (b k) (M : Int) W a0 b0 (by omega) (by omega))
                          have RA := hid (fun W => radd_any (y (atp d e n t k)) (a t * b k % M) (M : Int) W z0.1 m0 (by omega) (by omega))
                          have pnl' : ((atp d e n t k : Nat) : Int) < (ln : Int) := by omega
                          clear P10 hw10 p1 p2 hln b10 X011 X111 RK3 BK3 z0 m0 AK RK2 BK2 L10 K10 X010 X110 PC
                          generalize atp d e n t k = pn at *
                          generalize a t * b k % (M : Int) = t1 at *
                          generalize (y pn + t1) % (M : Int) = t2 at *
                          go_wp2_with fail
                          refine wp_region_last (by kernel_rfl) (by kernel_rfl) (by kernel_rfl) (by kernel_rfl) (by decide) ?_
                          simp only [stillLast, still, lastOf]
                          repeat (quiet_step (first
                            | (go_at_call 27; exact Calls.quiet_of (RM.out _))
                            | (go_at_call 26; exact Calls.quiet_of (RA.out _))))
                          refine wpQuiet_nil ?_
                          intro _ hw'
                          obtain ⟨nq, hw''⟩ := hw'
                          subst hw''
                          have R5 := hid (RS.out nq)
                          have B5 := hid (BS.out nq (.int .u64 t2))
                          have zc2 : (w10.drewN nq).cell? ⟨g7, pn, none⟩ = some (.int .u64 (y pn)) := by simpa using zc
                          have zf2 : (w10.drewN nq).frozen? ⟨g7, pn, none⟩ = false := by simpa using zf
                          clear RS BS zc zf RM RA x1a x1b cla clb
                          generalize w10.drewN nq = w12 at *
                          go_wp2
                          exact ⟨⟨k + 1, _, rfl, by omega, ST.out, R5.out, B5.out⟩, by simp only [intOf]; omega⟩
                        · have hjn' : (j : Int) < (n : Int) := by omega
                          have cx := RJ.out.cell (i := j) (by omega)
                          rw [if_neg (by omega)] at cx
                          have cy := RYj.out.cell (i := j) (by omega)
                          have fx := RJ.out.frozen j
                          have bj := atp_in HD1.out HE1.out t k j (by omega)
                          have dj := HDB.out j (by omega)
                          have g1 := dg_in (p := (t : Int)) HD1.out j (by omega)
                          have g2 := dg_in (p := (k : Int)) HE1.out j (by omega)
                          have RN : Hid (∀ q, Rowi ((wr.drewN q).setCell ⟨gx, j, none⟩ (.int .i64 (dg d n t j + dg e n k j))) gx n (fun s => if s < j + 1 then dg d n t s + dg e n k s else dg d n t s)) := fun q => (RJ.out.drew q).set j _ (fun s _ => by
                            by_cases e1 : s = j
                            · rw [if_pos e1, if_pos (by omega), e1]
                            · rw [if_neg e1]
                              by_cases e2 : s < j
                              · rw [if_pos e2, if_pos (by omega)]
                              · rw [if_neg e2, if_neg (by omega)])
                          have ON : Hid (∀ q v, OnlyB gx w9 ((wr.drewN q).setCell ⟨gx, j, none⟩ v)) := fun q v => (OJ.out.drew q).set _ _
                          clear RJ OJ RYj
                          generalize dg d n t j = dj1 at *
                          generalize dg e n k j = dj2 at *
                          have w11 : IntKind.i64.wrap (dj1 + dj2) = dj1 + dj2 := by rw [IntKind.wrap_i64]; omega
                          go_wp2_with fail
                          refine wp_region_last (by kernel_rfl) (by kernel_rfl) (by kernel_rfl) (by kernel_rfl) (by decide) ?_
                          simp only [stillLast, still, lastOf]
                          repeat (quiet_step (fail))
                          refine wpQuiet_nil ?_
                          intro _ hw'
                          obtain ⟨nq, hw''⟩ := hw'
                          subst hw''
                          have R5 := hid (RN.out nq)
                          have O5 := hid (ON.out nq (.int .i64 (dj1 + dj2)))
                          have cx2 : (wr.drewN nq).cell? ⟨gx, j, none⟩ = some (.int .i64 dj1) := by simpa using cx
                          have fx2 : (wr.drewN nq).frozen? ⟨gx, j, none⟩ = false := by simpa using fx
                          clear RN ON cx cy fx bj dj g1 g2
                          generalize wr.drewN nq = w12 at *
                          go_wp2
                          exact ⟨⟨j + 1, rfl, by omega, R5.out, O5.out⟩, by simp only [intOf]; omega⟩
        · have hin' : (i : Int) < (n : Int) := by omega
          obtain ⟨ao', cap', hu, -, -, -, hcell⟩ := Dr.out
          injection hu with hu1 hu2 hu3
          subst hu1 hu3
          clear hu2
          obtain ⟨ub, uo, hao, -, hcd⟩ := hcell (by omega)
          subst hao
          obtain ⟨bo', bap', hu, -, -, -, hcell2⟩ := Er.out
          injection hu with hu1 hu2 hu3
          subst hu1 hu3
          clear hu2
          obtain ⟨vb, vf, hbo, -, hce⟩ := hcell2 (by omega)
          subst hbo
          have cd := hcd i (by omega)
          have ce := hce i (by omega)
          obtain ⟨⟨a1, a2⟩, a3, a4⟩ := HDB.out i (by omega)
          have LS : Hid (lst (fun t => d t + e t - 1) (i + 1) = lst (fun t => d t + e t - 1) i ++ [d i + e i - 1]) := rfl
          have OWH : Hid (∀ q, OwI (wr.drewN q) w4.heap.size (.slice ow i cw) (lst (fun t => d t + e t - 1) i)) := fun q => OW.out.heap (by simp)
          have BWH : Hid (∀ q, Below w4.heap.size w4 (wr.drewN q)) := fun q => below_drewN BW.out q
          clear hcd hce hcell hcell2 X0r X1r Dr Er OW BW
          generalize d i = di at *
          generalize e i = ei at *
          have w1 : IntKind.i64.wrap (di + ei) = di + ei := by rw [IntKind.wrap_i64]; omega
          have w2 : IntKind.i64.wrap (di + ei - 1) = di + ei - 1 := by rw [IntKind.wrap_i64]; omega
          go_wp2_with fail
          refine wp_region_tail1 12 (.tmp 9) rfl rfl (fun _ _ _ _ h => h) (by kernel_rfl) (by kernel_rfl) (by kernel_rfl) (by kernel_rfl) (by kernel_rfl) rfl (by kernel_rfl) (by kernel_rfl) (by kernel_rfl) (by decide) ?_
          simp only [stillFrom, still, List.map, List.drop]
          go_simp
          repeat (quiet_step (fail))
          refine wpQuiet_nil ?_
          intro q9
          have O2 := hid (OWH.out q9)
          have B2 := hid (BWH.out q9)
          have hs2 : w4.heap.size ≤ (wr.drewN q9).heap.size := by simpa using hsz
          clear OWH BWH c0 c1 c2 c3 cd ce hsz
          generalize wr.drewN q9 = w5 at *
          go_wp2_with (at_builtin; refine wpList_append_own _ rfl (.tmp 91) (.tmp 104) 41 rfl w4.heap.size 3 i0 (.int .i64 0) 1 8 Tryz.underlying41 hi0 hz0 hz1 hz2 rfl (by decide) _ i (intCells (lst (fun t => d t + e t - 1) i)) rfl (by have := World.ownsRow.alloc O2.out (.cells #[.int .i64 (di + ei - 1)] 3 (0, 0)); rw [lst_len] at this; exact this) ⟨w5.heap.size, 0, none⟩ 1 1 [.int .i64 (di + ei - 1)] rfl rfl (cell_one_new _ _ _) (by intro u hu; simp at hu; subst hu; rfl) (by unfold maxLen; omega) (by omega) (by simp; omega) ?_; intro v' w3 own3 grow3 iff3; clear iff3; obtain ⟨ao3, cap3', hv, O3, B3, hp3⟩ := pushedI (w := w4) (w2 := w5) (L := lst (fun t => d t + e t - 1) i) (c := di + ei - 1) O2.out B2.out hs2 (by rw [lst_len]; exact own3) grow3; clear own3 grow3; rw [lst_len] at hv; subst hv)
          have O4 : Hid (OwI w3 w4.heap.size (.slice ao3 (i + 1) cap3') (lst (fun t => d t + e t - 1) (i + 1))) := by
            have := O3.out
            rw [lst_len, ← LS.out] at this
            exact this
          exact ⟨⟨i + 1, rfl, by omega, O4.out, B3.out, hp3⟩, by simp only [intOf]; omega⟩
    · have hbad : ((M : Int) < 2 ∨ 9223372036854775807 < (M : Int)) ∨ ¬ SzIs d n ka 0 ∨ ¬ SzIs e m kb 0 ∨ n ≠ m := by
        by_cases q1 : SzIs d n ka 0
        · by_cases q2 : SzIs e m kb 0
          · by_cases q3 : n = m
            · left
              apply Classical.byContradiction
              intro q4
              exact good ⟨by omega, q1, q2, q3⟩
            · exact Or.inr (Or.inr (Or.inr q3))
          · exact Or.inr (Or.inr (Or.inl q2))
        · exact Or.inr (Or.inl q1)
      obtain ⟨r1, hr1⟩ : ∃ r : Bool, r = true ↔ SzIs d n ka 0 := by
        by_cases h : SzIs d n ka 0
        · exact ⟨true, by simp [h]⟩
        · exact ⟨false, by simp [h]⟩
      obtain ⟨r2, hr2⟩ : ∃ r : Bool, r = true ↔ SzIs e m kb 0 := by
        by_cases h : SzIs e m kb 0
        · exact ⟨true, by simp [h]⟩
        · exact ⟨false, by simp [h]⟩
      have HR1 := hid hr1
      have HR2 := hid hr2
      have HB := hid hbad
      have CM := hid (cmulb_arg _ _ _ _ n m ka kb d e a b (M : Int) _ U1.out U2.out V1.out V2.out (by omega) hbad)
      clear good hbad hr1 hr2
      go_enter Tryz.func7, Tryz.ntmps7
      go_wp2_with fail
      refine CM.out.mono ?_
      rintro e1 w1 ⟨⟨xo, xc, lo, lc, rfl⟩, B1⟩
      have S1 : Below w1.heap.size w1 (w1.alloc (.cells #[.slice xo 0 xc, .slice lo 0 lc] 47 (0, 0))) := (Below.refl _ _).alloc (Nat.le_refl _) _
      have T1 := B1.trans (S1.mono B1.size)
      have Y2 := hid (BoxAt.new w1 (.slice xo 0 xc) (.slice lo 0 lc))
      have X02 := hid (X0.out.below T1 X0.out.lt)
      have X12 := hid (X1.out.below T1 X1.out.lt)
      have D2 := hid (U1.out.below T1)
      have L2 := hid (U2.out.below T1)
      have E2 := hid (V1.out.below T1)
      have K2 := hid (V2.out.below T1)
      have BB2 := hid (BA.out.trans (T1.mono BA.out.size))
      clear B1 S1 T1 CM U1 U2 V1 V2 BA X0 X1 c0 c1 c2 c3
      have c0 := X02.out.cell0
      have c1 := X02.out.cell1
      have c2 := X12.out.cell0
      have c3 := X12.out.cell1
      have y0 := Y2.out.cell0
      have y1 := Y2.out.cell1
      by_cases hMb : (M : Int) < 2 ∨ 9223372036854775807 < (M : Int)
      · go_wp2_with fail
        refine (rmay_no M _ hMb).mono ?_
        rintro e2 w2 ⟨rfl, hw⟩
        rw [hw]
        clear hw hMb HB HR1 HR2 Y2 X02 X12 D2 L2 E2 K2
        generalize w1.alloc (.cells #[.slice xo 0 xc, .slice lo 0 lc] 47 (0, 0)) = w2 at *
        go_wp2_with fail
        refine (AWA.out _ BB2.out).mono ?_
        rintro e w9 ⟨rfl, B9⟩
        have BB9 := hid (BB2.out.trans (B9.mono BB2.out.size))
        clear B9
        go_wp2
        go_ret
        exact ⟨rfl, BB9.out⟩
      · go_wp2_with fail
        refine (rmay_yes M _ (by omega) (by omega)).mono ?_
        rintro e2 w2 ⟨rfl, hw⟩
        rw [hw]
        clear hw
        have HB2 : Hid (¬ SzIs d n ka 0 ∨ ¬ SzIs e m kb 0 ∨ n ≠ m) := by
          rcases HB.out with h | h
          · exact absurd h hMb
          · exact h
        clear HB hMb
        generalize w1.alloc (.cells #[.slice xo 0 xc, .slice lo 0 lc] 47 (0, 0)) = w2 at *
        go_wp2_with fail
        refine (may_any _ _ n ka d a w2 D2.out L2.out r1 HR1.out).mono ?_
        rintro e3 w3 ⟨rfl, B3⟩
        have X03 := X02.out.below B3 X02.out.lt
        have X13 := X12.out.below B3 X12.out.lt
        have Y3 := Y2.out.below B3 Y2.out.lt
        have f0 := X03.cell0
        have f2 := X13.cell0
        have f3 := X13.cell1
        have y30 := Y3.cell0
        have y31 := Y3.cell1
        have BB3 := hid (BB2.out.trans (B3.mono BB2.out.size))
        have MB := hid (may_any _ _ m kb e b w3 (E2.out.below B3) (K2.out.below B3) r2 HR2.out)
        have HB3 := hid B3
        clear B3 c0 c1 c2 c3 y0 y1 BB2
        cases h1 : r1
        · clear MB HB2 HR1 HR2 X03 X13 Y3 X02 X12 Y2 D2 L2 E2 K2
          go_wp2_with fail
          refine (AWA.out _ BB3.out).mono ?_
          rintro e w9 ⟨rfl, B9⟩
          have BB9 := hid (BB3.out.trans (B9.mono BB3.out.size))
          clear B9
          go_wp2
          go_ret
          exact ⟨rfl, BB9.out⟩
        · go_wp2_with fail
          refine MB.out.mono ?_
          rintro e4 w4 ⟨rfl, B4⟩
          have X04 := X03.below B4 X03.lt
          have X14 := X13.below B4 X13.lt
          have Y4 := Y3.below B4 Y3.lt
          have g0 := X04.cell0
          have g2 := X14.cell0
          have y40 := Y4.cell0
          have y41 := Y4.cell1
          have BB4 := hid (BB3.out.trans (B4.mono BB3.out.size))
          have hh : r2 = false ∨ r2 = true ∧ n ≠ m := by
            cases h2 : r2
            · exact Or.inl rfl
            · refine Or.inr ⟨rfl, ?_⟩
              rcases HB2.out with h | h | h
              · exact absurd (HR1.out.1 h1) h
              · exact absurd (HR2.out.1 h2) h
              · exact h
          clear MB HB2 HR1 HR2 X03 X13 Y3 X02 X12 Y2 D2 L2 E2 K2 B4 X04 X14 Y4 BB3 f0 f2 f3 y30 y31
          rcases hh with h2 | ⟨h2, hnm⟩
          · go_wp2_with fail
            refine (AWA.out _ BB4.out).mono ?_
            rintro e w9 ⟨rfl, B9⟩
            have BB9 := hid (BB4.out.trans (B9.mono BB4.out.size))
            clear B9
            go_wp2
            go_ret
            exact ⟨rfl, BB9.out⟩
          · have hnm' : ((n : Int) != (m : Int)) = true := bne_iff_ne.2 (by omega)
            go_wp2_with fail
            refine (AWA.out _ BB4.out).mono ?_
            rintro e w9 ⟨rfl, B9⟩
            have BB9 := hid (BB4.out.trans (B9.mono BB4.out.size))
            clear B9
            go_wp2
            go_ret
            exact ⟨rfl, BB9.out⟩
  · go_enter Tryz.func7, Tryz.ntmps7
    go_wp2_with fail
    all_goals
      first
        | (exfalso; omega)
        | skip
    all_goals
      refine (AWA.out _ BA.out).mono ?_
      rintro e w9 ⟨rfl, B9⟩
      have BB9 := hid (BA.out.trans (B9.mono BA.out.size))
      clear B9
      go_wp2
      go_ret
      exact ⟨rfl, BB9.out⟩
end Go.Proofs.YtocfenjampmdlaaGreatDoor
