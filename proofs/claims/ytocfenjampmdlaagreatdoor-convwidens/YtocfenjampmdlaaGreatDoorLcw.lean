/- The law ConvWidens, walked. -/
import Derived.Test.YtocfenjampmdlaaGreatDoorCg
namespace Go.Proofs.YtocfenjampmdlaaGreatDoor
open Go.RowKit Num Nmb

/-- may a box be widened so? -/
def MayW (d f : Nat → Int) (n m ka : Nat) : Prop := SzIs d n ka 0 ∧ n = m ∧ ∀ t, t < n → d t ≤ f t
/-- what Widened answers. -/
def WidR (d f a : Nat → Int) (n m ka : Nat) (xo : Option Addr) (xn xc : Nat) (lo : Option Addr) (ln lc : Nat) (er : Int) (w : World) : Prop :=
  (¬ MayW d f n m ka ∧ er = 1 ∧ xn = 0 ∧ ln = 0) ∨ (MayW d f n m ka ∧ SzIs f n 0 er ∧ er ≠ 0 ∧ xn = 0 ∧ ln = 0) ∨
    (MayW d f n m ka ∧ SzIs f n ln 0 ∧ er = 0 ∧ xn = n ∧ Wi w (.slice xo xn xc) n f ∧ Wl w (.slice lo ln lc) ln (wdp d f n a ka))
theorem sz_tot (f : Nat → Int) (n : Nat) : ∃ s er, SzIs f n s er := by
  by_cases h : 8 < n ∨ ∃ i, i < n ∧ f i < 1
  · exact ⟨0, 1, Or.inl ⟨h, rfl, rfl⟩⟩
  · have h1 : n ≤ 8 := by
      apply Nat.le_of_not_lt
      intro q
      exact h (Or.inl q)
    have h2 : ∀ i, i < n → 1 ≤ f i := fun i hi => by
      apply Int.not_lt.1
      intro q
      exact h (Or.inr ⟨i, hi, by omega⟩)
    by_cases h3 : 65536 < pd f n
    · exact ⟨0, 13, Or.inr ⟨h1, h2, Or.inl ⟨h3, rfl, rfl⟩⟩⟩
    · exact ⟨pd f n, 0, Or.inr ⟨h1, h2, Or.inr ⟨by omega, rfl, rfl⟩⟩⟩
theorem sz_err {f : Nat → Int} {n : Nat} {s er : Int} (h : SzIs f n s er) (he : er ≠ 0) : s = 0 := by
  rcases h with ⟨h1, h2, h3⟩ | ⟨h1, h2, h3⟩ <;> omega
theorem cwid_any (ud ul v : Value) (n m ka : Nat) (d f a : Nat → Int) (w : World) (UD : Wi w ud n d) (UL : Wl w ul ka a) (V : Wi w v m f) :
    Calls Tryz.prog 21 #[.agg #[ud, ul], v] w fun e' w' => (∃ xo xn xc lo ln lc er, e' = .returned (.tuple #[.agg #[.slice xo xn xc, .slice lo ln lc], .int .i64 er]) ∧ WidR d f a n m ka xo xn xc lo ln lc er w') ∧ Below w.heap.size w w' := by
  by_cases h : MayW d f n m ka
  · obtain ⟨S1, rfl, hf⟩ := h
    obtain ⟨s, er, S3⟩ := sz_tot f n
    by_cases he : er = 0
    · subst he
      have hs := S3.ok rfl
      have p1 := pd_pos hs.2.1
      obtain ⟨K, rfl⟩ : ∃ K : Nat, s = K := ⟨s.toNat, by omega⟩
      refine (cwid_yes ud ul v n ka K d f a w UD UL V S1 hf S3).mono ?_
      rintro e w' ⟨⟨xo, xc, lo, lc, rfl, h1, h2⟩, B⟩
      exact ⟨⟨xo, n, xc, lo, K, lc, 0, rfl, Or.inr (Or.inr ⟨⟨S1, rfl, hf⟩, S3, rfl, rfl, h1, h2⟩)⟩, B⟩
    · obtain rfl := sz_err S3 he
      refine (cwid_err ud ul v n ka d f a er w UD UL V S1 hf S3 he).mono ?_
      rintro e w' ⟨⟨xo, xc, lo, lc, rfl⟩, B⟩
      exact ⟨⟨xo, 0, xc, lo, 0, lc, er, rfl, Or.inr (Or.inl ⟨⟨S1, rfl, hf⟩, S3, he, rfl, rfl⟩)⟩, B⟩
  · refine (cwid_arg ud ul v n m ka d f a w UD UL V ?_).mono ?_
    · by_cases h1 : SzIs d n ka 0
      · by_cases h2 : n = m
        · refine Or.inr (Or.inr ?_)
          apply Classical.byContradiction
          intro h3
          exact h ⟨h1, h2, fun t ht => Int.not_lt.1 fun q => h3 ⟨t, ht, q⟩⟩
        · exact Or.inr (Or.inl h2)
      · exact Or.inl h1
    · rintro e w' ⟨⟨xo, xc, lo, lc, rfl⟩, B⟩
      exact ⟨⟨xo, 0, xc, lo, 0, lc, 1, rfl, Or.inl ⟨h, rfl, rfl, rfl⟩⟩, B⟩
set_option maxHeartbeats 3200000 in
set_option maxRecDepth 100000 in
theorem cwidens_law (ud ul v : Value) (n m ka : Nat) (d a f : Nat → Int) (w : World) (UD : Wi w ud n d) (UL : Wl w ul ka a) (V : Wi w v m f) (L : LayB w) :
    Calls Tryz.prog 6 #[.agg #[ud, ul], v] w fun e w' => e = .returned (.bool true) ∧ Below w.heap.size w w' := by
  have AWA : Hid (∀ w', Below w.heap.size w w' → Calls Tryz.prog 9 #[] w' fun e w'' => e = .returned (.bool true) ∧ Below w'.heap.size w' w'') := fun w' B => awake8 w' (L.below B)
  have BA : Hid (Below w.heap.size w (w.alloc (.cells #[ud, ul] 47 (0, 0)))) := (Below.refl _ _).alloc (Nat.le_refl _) _
  have BX := hid (BoxAt.new w ud ul)
  have c0 := BX.out.cell0
  have c1 := BX.out.cell1
  have U1 := hid (UD.below BA.out)
  have U2 := hid (UL.below BA.out)
  have V1 := hid (V.below BA.out)
  obtain ⟨ao, cap, rfl, -⟩ := UD
  obtain ⟨bo, bap, rfl, -⟩ := UL
  obtain ⟨vo, vap, rfl, -⟩ := V
  clear L
  by_cases h1 : 300 < ka
  · have h1' : (300 : Int) < (ka : Int) := by omega
    go_enter Tryz.func6, Tryz.ntmps6
    go_wp2_with fail
    refine (AWA.out _ BA.out).mono ?_
    rintro e w9 ⟨rfl, B9⟩
    have BB9 := hid (BA.out.trans (B9.mono BA.out.size))
    clear B9
    go_wp2
    go_ret
    exact ⟨rfl, BB9.out⟩
  have h1' : ¬ (300 : Int) < (ka : Int) := by omega
  by_cases h2 : 10 < m
  · have h2' : (10 : Int) < (m : Int) := by omega
    go_enter Tryz.func6, Tryz.ntmps6
    go_wp2_with fail
    refine (AWA.out _ BA.out).mono ?_
    rintro e w9 ⟨rfl, B9⟩
    have BB9 := hid (BA.out.trans (B9.mono BA.out.size))
    clear B9
    go_wp2
    go_ret
    exact ⟨rfl, BB9.out⟩
  have h2' : ¬ (10 : Int) < (m : Int) := by omega
  by_cases h3 : 10 < n
  · have h3' : (10 : Int) < (n : Int) := by omega
    go_enter Tryz.func6, Tryz.ntmps6
    go_wp2_with fail
    refine (AWA.out _ BA.out).mono ?_
    rintro e w9 ⟨rfl, B9⟩
    have BB9 := hid (BA.out.trans (B9.mono BA.out.size))
    clear B9
    go_wp2
    go_ret
    exact ⟨rfl, BB9.out⟩
  have h3' : ¬ (10 : Int) < (n : Int) := by omega
  have WR := hid (cwid_any _ _ _ n m ka d f a _ U1.out U2.out V1.out)
  go_enter Tryz.func6, Tryz.ntmps6
  go_wp2_with fail
  refine WR.out.mono ?_
  rintro e1 w1 ⟨⟨xo, xn, xc, lo, ln, lc, er1, rfl, R⟩, B1⟩
  have S1 : Below w1.heap.size w1 (w1.alloc (.cells #[.slice xo xn xc, .slice lo ln lc] 47 (0, 0))) := (Below.refl _ _).alloc (Nat.le_refl _) _
  have T1 := B1.trans (S1.mono B1.size)
  have Y2 := hid (BoxAt.new w1 (.slice xo xn xc) (.slice lo ln lc))
  have X2 := hid (BX.out.below T1 BX.out.lt)
  have D2 := hid (U1.out.below T1)
  have L2 := hid (U2.out.below T1)
  have V2 := hid (V1.out.below T1)
  have BB2 := hid (BA.out.trans (T1.mono BA.out.size))
  have R2 : Hid (WidR d f a n m ka xo xn xc lo ln lc er1 (w1.alloc (.cells #[.slice xo xn xc, .slice lo ln lc] 47 (0, 0)))) := by
    rcases R with h | h | ⟨h1, h2, h3, h4, h5, h6⟩
    · exact Or.inl h
    · exact Or.inr (Or.inl h)
    · exact Or.inr (Or.inr ⟨h1, h2, h3, h4, h5.below S1, h6.below S1⟩)
  have gx : w.heap.size ≠ w1.heap.size := by have := B1.size; have := BX.out.lt; omega
  clear R B1 S1 T1 WR U1 U2 V1 BA BX c0 c1
  have c0 := X2.out.cell0
  have c1 := X2.out.cell1
  go_wp2
  generalize w1.alloc (.cells #[.slice xo xn xc, .slice lo ln lc] 47 (0, 0)) = w2 at *
  go_loopw [8, 7] (fun iv mv wr => ∃ (i c : Nat) (q : Bool), iv = .int .i64 i ∧ mv = .bool q ∧ i ≤ m ∧ Hid (q = true ↔ n = m ∧ ∀ j, j < i → d j ≤ f j) ∧ Hid (wr = w2.drewN c)) (fun iv _ _ => ((m : Int) - intOf iv).toNat)
  case atStart =>
    refine ⟨0, 0, _, rfl, rfl, Nat.zero_le _, ?_, rfl⟩
    show _ ↔ _
    constructor
    · intro h
      have h' : (m : Int) = (n : Int) := by simpa using h
      exact ⟨by omega, fun j hj => absurd hj (by omega)⟩
    · intro h
      simp [h.1]
  case round =>
    obtain ⟨i, c, q, rfl, rfl, hi, HQ, HW⟩ := hrel
    have bw : Below w2.heap.size w2 wr := by rw [HW.out]; exact below_drewN (Below.refl _ _) c
    have Dr := hid (D2.out.below bw)
    have Vr := hid (V2.out.below bw)
    have Lr := hid (L2.out.below bw)
    have Xr := hid (X2.out.below bw X2.out.lt)
    have Yr := hid (Y2.out.below bw Y2.out.lt)
    have BBr := hid (BB2.out.trans (bw.mono BB2.out.size))
    have Rr : Hid (WidR d f a n m ka xo xn xc lo ln lc er1 wr) := by
      rcases R2.out with h | h | ⟨h1, h2, h3, h4, h5, h6⟩
      · exact Or.inl h
      · exact Or.inr (Or.inl h)
      · exact Or.inr (Or.inr ⟨h1, h2, h3, h4, h5.below bw, h6.below bw⟩)
    have cr0 := Xr.out.cell0
    have cr1 := Xr.out.cell1
    clear bw c0 c1
    by_cases hgo : i < m ∧ q = true
    · obtain ⟨him, hq⟩ := hgo
      subst hq
      have him' : (i : Int) < (m : Int) := by omega
      obtain ⟨hnm, hle⟩ := HQ.out.1 rfl
      have HLE := hid hle
      obtain ⟨ao', cap', hu, -, -, -, hcell⟩ := Dr.out
      injection hu with hu1 hu2 hu3
      subst hu1 hu3
      clear hu2
      obtain ⟨ub, uo, hao, -, hcd⟩ := hcell (by omega)
      subst hao
      obtain ⟨bo', bap', hu, -, -, -, hcell2⟩ := Vr.out
      injection hu with hu1 hu2 hu3
      subst hu1 hu3
      clear hu2
      obtain ⟨vb, vf, hbo, -, hce⟩ := hcell2 (by omega)
      subst hbo
      have cd := hcd i (by omega)
      have ce := hce i (by omega)
      have HQ2 : Hid (decide (d i ≤ f i) = true ↔ n = m ∧ ∀ j, j < i + 1 → d j ≤ f j) := by
        show _ ↔ _
        rw [decide_eq_true_iff]
        constructor
        · intro h
          refine ⟨hnm, fun j hj => ?_⟩
          by_cases e : j = i
          · rw [e]; exact h
          · exact HLE.out j (by omega)
        · intro h
          exact h.2 i (by omega)
      obtain ⟨cf, HW2⟩ : ∃ g : Nat → Nat, Hid (∀ q, wr.drewN q = w2.drewN (g q)) := ⟨fun q => c + q, fun q => by rw [HW.out]; simp [World.drewN, Nat.add_assoc]⟩
      have hin' : (i : Int) < (n : Int) := by omega
      clear hcd hce hcell hcell2 HW HQ HLE hle hnm Dr Vr Lr Xr Yr BBr Rr
      generalize d i = di at *
      generalize f i = fi at *
      go_wp2_with fail
      go_quiet (fail)
      rename_i nq
      go_wp2
      exact ⟨⟨i + 1, _, _, rfl, rfl, by omega, HQ2.out, HW2.out _⟩, by simp only [intOf]; omega⟩
    · have EX : Hid (q = true ↔ n = m ∧ ∀ j, j < m → d j ≤ f j) := by
        show _ ↔ _
        by_cases him : i = m
        · subst him
          exact HQ.out
        · have hq : q = false := by
            cases q
            · rfl
            · exact absurd ⟨by omega, rfl⟩ hgo
          rw [hq]
          constructor
          · intro h; cases h
          · intro h
            have := HQ.out.2 ⟨h.1, fun j hj => h.2 j (by omega)⟩
            rw [hq] at this
            cases this
      have hx : ¬ (i : Int) < (m : Int) ∨ (i : Int) < (m : Int) ∧ q = false := by
        by_cases him : i = m
        · left; omega
        · right
          refine ⟨by omega, ?_⟩
          cases q
          · rfl
          · exact absurd ⟨by omega, rfl⟩ hgo
      obtain ⟨r, hr⟩ : ∃ r : Bool, r = true ↔ SzIs d n ka 0 := by
        by_cases h : SzIs d n ka 0
        · exact ⟨true, by simp [h]⟩
        · exact ⟨false, by simp [h]⟩
      have HR := hid hr
      clear HQ HW hgo X2 Y2 D2 V2 L2 BB2 R2 hr
      rcases hx with him' | ⟨him', hq⟩
      all_goals
        go_wp2_with fail
        refine (rsize_any _ m f wr Vr.out).mono ?_
        rintro e3 w3 ⟨⟨s, er2, rfl, S3⟩, hw⟩
        obtain rfl := hw.symm
        have HS3 := hid S3
        clear S3
        go_wp2_with fail
        refine (may_any _ _ n ka d a wr Dr.out Lr.out r HR.out).mono ?_
        rintro e4 w4 ⟨rfl, B4⟩
        have Y4 := hid (Yr.out.below B4 Yr.out.lt)
        have BB4 := hid (BBr.out.trans (B4.mono BBr.out.size))
        have d0 := Y4.out.cell0
        have d1 := Y4.out.cell1
        by_cases hmay : MayW d f n m ka
        · obtain rfl : r = true := HR.out.2 hmay.1
          have hq1 : q = true := EX.out.2 ⟨hmay.2.1, fun j hj => hmay.2.2 j (by have := hmay.2.1; omega)⟩
          try (exfalso; rw [hq] at hq1; cases hq1; done)
          all_goals
            subst hq1
            obtain ⟨S1, hnm, hf⟩ := hmay
            subst hnm
            have HF := hid hf
            have HS1 := hid S1
            have W3 := hid (Rr.out)
            clear hf S1 EX HR Rr
            rcases W3.out with h | ⟨-, Sf, he, hx1, hx2⟩ | ⟨-, Sf, hx0, hx1, W1, W2⟩
            · exact absurd ⟨HS1.out, rfl, HF.out⟩ h.1
            · obtain ⟨q1, q2⟩ := HS3.out.uniq Sf
              subst q1 q2 hx1 hx2
              have e1 : (er2 != 0) = true := bne_iff_ne.2 he
              have e2 : (er2 == 0) = false := beq_eq_false_iff_ne.2 he
              clear W3 Sf HS3 HS1 HF Yr Xr Lr Dr Vr BBr B4 he
              go_wp2_with fail
              refine (AWA.out _ BB4.out).mono ?_
              rintro e w9 ⟨rfl, B9⟩
              have BB9 := hid (BB4.out.trans (B9.mono BB4.out.size))
              clear B9
              go_wp2
              go_ret
              exact ⟨rfl, BB9.out⟩
            · obtain ⟨q1, q2⟩ := HS3.out.uniq Sf
              subst q1 q2 hx0
              have hx1' := hx1.symm
              subst hx1'
              have W1' := hid (W1.below B4)
              have W2' := hid (W2.below B4)
              have HSf := hid Sf
              have ln65 : ln ≤ 65536 := by have := (Sf.ok rfl).2.2; omega
              by_cases hbig : 5000 < ln
              · have hbig' : (5000 : Int) < (ln : Int) := by omega
                clear W1 W2 W1' W2' W3 Sf HS3 HS1 HF Yr Xr Lr Dr Vr BBr B4
                go_wp2_with fail
                refine (AWA.out _ BB4.out).mono ?_
                rintro e w9 ⟨rfl, B9⟩
                have BB9 := hid (BB4.out.trans (B9.mono BB4.out.size))
                clear B9
                go_wp2
                go_ret
                exact ⟨rfl, BB9.out⟩
              · have hbig' : ¬ (5000 : Int) < (ln : Int) := by omega
                have D4 := hid (Dr.out.below B4)
                have V4 := hid (Vr.out.below B4)
                have L4 := hid (Lr.out.below B4)
                have X4 := hid (Xr.out.below B4 Xr.out.lt)
                clear W1 W2 W3 Sf HS3 Yr Xr Lr Dr Vr BBr B4 cr0 cr1
                go_wp2_with fail
                refine (ints_yes _ _ n _ _ w4 W1'.out V4.out (fun j _ => rfl)).mono ?_
                rintro e5 w5 ⟨rfl, c5, hw5⟩
                have b5 : Below w4.heap.size w4 w5 := by rw [hw5]; exact below_drewN (Below.refl _ _) c5
                have D5 := hid (D4.out.below b5)
                have V5 := hid (V4.out.below b5)
                have L5 := hid (L4.out.below b5)
                have X5 := hid (X4.out.below b5 X4.out.lt)
                have Y5 := hid (Y4.out.below b5 Y4.out.lt)
                have W5 := hid (W2'.out.below b5)
                have BB5 := hid (BB4.out.trans (b5.mono BB4.out.size))
                have d50 := Y5.out.cell0
                have d51 := Y5.out.cell1
                clear hw5 b5 D4 V4 L4 X4 Y4 W1' W2' BB4 d0 d1
                go_wp2_with (at_make; refine wp_make _ rfl _ _ rfl _ _ ln rfl rfl (by omega) (by omega) (by omega) ?_; intro w6 R6 C6 Z6; have HR6 := hid R6; have HC6 := hid C6; clear R6 C6 Z6)
                obtain ⟨g6, hg6⟩ : ∃ g6, g6 = w5.heap.size := ⟨_, rfl⟩
                have HG6 := hid hg6
                rw [← hg6] at HR6 HC6 ⊢
                clear hg6
                obtain ⟨n8, hd1, -, hka⟩ := HS1.out.ok rfl
                obtain ⟨-, -, -, hln⟩ := HSf.out.ok rfl
                have HD1 := hid hd1
                have HKA := hid hka
                have HLN := hid hln
                clear hd1 hka hln HS1 HSf d50 d51
                go_loopw [12] (fun iv wr => ∃ (i : Nat) (z : Nat → Int), iv = .int .i64 i ∧ i ≤ ka ∧ Hid (∀ j, j < ln → z j = wds d f n a i j) ∧ Hid (Row wr g6 ln z) ∧ Hid (Below g6 w5 wr)) (fun iv _ => ((ka : Int) - intOf iv).toNat)
                case atStart => exact ⟨0, _, rfl, Nat.zero_le _, fun j _ => rfl, HR6.out, HC6.out⟩
                case round =>
                  obtain ⟨t, z, rfl, ht, HZ, RZ, BZ⟩ := hrel
                  have b9 : Below w5.heap.size w5 wr := by rw [← HG6.out]; exact BZ.out
                  have D9 := hid (D5.out.below b9)
                  have V9 := hid (V5.out.below b9)
                  have L9 := hid (L5.out.below b9)
                  have X9 := hid (X5.out.below b9 X5.out.lt)
                  have Y9 := hid (Y5.out.below b9 Y5.out.lt)
                  have W9 := hid (W5.out.below b9)
                  have BB9 := hid (BB5.out.trans (b9.mono BB5.out.size))
                  have x90 := X9.out.cell0
                  have x91 := X9.out.cell1
                  have y91 := Y9.out.cell1
                  clear b9
                  by_cases htk : t = ka
                  · have htk' : ¬ (t : Int) < (ka : Int) := by omega
                    have ZW : Hid (Wl wr (.slice (some ⟨g6, 0, none⟩) ln ln) ln z) := by
                      refine RZ.out.wl (fun j hj => ?_) (by omega)
                      have := W9.out.val hj
                      rw [HZ.out j hj, htk]
                      exact this
                    have SA := hid (same_yes8 _ _ ln _ _ wr W9.out ZW.out (fun j hj => by rw [HZ.out j hj, htk]; rfl))
                    clear HZ RZ BZ D9 V9 L9 X9 Y9 W9 D5 V5 L5 X5 Y5 W5 HR6 HC6 ZW
                    go_wp2_with fail
                    refine SA.out.mono ?_
                    rintro e8 w8 ⟨rfl, c8, rfl⟩
                    have BB8 := hid (below_drewN BB9.out c8)
                    clear SA
                    go_wp2_with fail
                    refine (AWA.out _ BB8.out).mono ?_
                    rintro e w9 ⟨rfl, B9⟩
                    have BB10 := hid (BB8.out.trans (B9.mono BB8.out.size))
                    clear B9
                    go_wp2
                    go_ret
                    exact ⟨rfl, BB10.out⟩
                  · have htk' : (t : Int) < (ka : Int) := by omega
                    have EX := hid (rexps_any _ n d (t : Int) wr D9.out HD1.out (by omega) (by omega))
                    have wl := wide_lt (p := (t : Int)) HD1.out HF.out
                    have wst := wds_step (a := a) (i := t) HD1.out HF.out HKA.out.symm (by omega)
                    have rlt := RZ.out.lt
                    have WST := hid wst
                    clear wst D5 V5 L5 X5 Y5 W5 HR6 HC6 Y9 W9 BB9 BB5
                    go_wp2_with fail
                    refine EX.out.mono ?_
                    rintro e7 w7 ⟨rfl, R7, B7⟩
                    have E7 : Wi w7 (.slice (some ⟨wr.heap.size, 0, none⟩) n n) n (dg d n t) := R7.wi (fun j hj => by have := dg_in (p := (t : Int)) HD1.out j hj; have := D9.out.val hj; omega) (by omega)
                    have PC := hid (rplace_any _ _ n n f (dg d n t) w7 (V9.out.below B7) E7)
                    have RZ7 := hid (RZ.out.below B7 rlt)
                    have BZ7 := hid (BZ.out.trans (B7.mono (Nat.le_of_lt rlt)))
                    have L7 := hid (L9.out.below B7)
                    have X7 := hid (X9.out.below B7 X9.out.lt)
                    clear R7 B7 E7 D9 V9 L9 X9 EX RZ BZ rlt x90 x91 y91
                    go_wp2_with fail
                    refine PC.out.mono ?_
                    rintro e8 w8 ⟨⟨pr, per, rfl, P8⟩, c8, hw8⟩
                    obtain ⟨hp1, hp2⟩ := P8.uniq (r' := pl f (dg d n t) n) (er' := 0) (Or.inr ⟨⟨_, Or.inr ⟨n8, fun i hi => by have := HD1.out i hi; have := HF.out i hi; omega, Or.inr ⟨by rw [← HLN.out]; omega, rfl, rfl⟩⟩⟩, Or.inr ⟨rfl, fun i hi => by have := dg_in (p := (t : Int)) HD1.out i hi; have := HF.out i hi; omega, rfl, rfl⟩⟩)
                    subst hp1 hp2
                    have b8 : Below w7.heap.size w7 w8 := by rw [hw8]; exact below_drewN (Below.refl _ _) c8
                    have X8 := X7.out.below b8 X7.out.lt
                    have x80 := X8.cell0
                    have x81 := X8.cell1
                    obtain ⟨lb, lof, hlo, -, cl8⟩ := (L7.out.below b8).cell (j := t) (by omega)
                    subst hlo
                    have RZ8 := RZ7.out.below b8 RZ7.out.lt
                    have BZ8 := BZ7.out.trans (b8.mono (Nat.le_of_lt RZ7.out.lt))
                    obtain ⟨pn, hpn⟩ : ∃ pn : Nat, pl f (dg d n t) n = pn := ⟨(pl f (dg d n t) n).toNat, by omega⟩
                    have hln := HLN.out
                    have pnl : pn < ln := by omega
                    have wst := WST.out
                    rw [hpn, Int.toNat_natCast] at wst
                    have zc := RZ8.cell (i := pn) pnl
                    have zf := RZ8.frozen pn
                    have RS : Hid (Row (w8.setCell ⟨g6, pn, none⟩ (.int .u64 (a t))) g6 ln (fun j => if j = pn then a t else z j)) := RZ8.set pn _ (fun _ _ => rfl)
                    have BS : Hid (Below g6 w5 (w8.setCell ⟨g6, pn, none⟩ (.int .u64 (a t)))) := below_set BZ8 (Nat.le_refl _) _ _
                    have ZS : Hid (∀ j, j < ln → (fun j => if j = pn then a t else z j) j = wds d f n a (t + 1) j) := fun j hj => by
                      show (if j = pn then a t else z j) = _
                      rw [wst j]
                      by_cases e : j = pn
                      · rw [if_pos e, if_pos e]
                      · rw [if_neg e, if_neg e]; exact HZ.out j hj
                    have pnl' : (pn : Int) < (ln : Int) := by omega
                    rw [hpn]
                    clear P8 wl hw8 b8 X8 RZ8 BZ8 hpn hln wst WST HZ RZ7 BZ7 L7 X7 PC HD1 HF HKA HLN
                    generalize a t = at_ at *
                    go_wp2
                    exact ⟨⟨t + 1, _, rfl, by omega, ZS.out, RS.out, BS.out⟩, by simp only [intOf]; omega⟩
        · obtain ⟨rfl, rfl, rfl⟩ : er1 = 1 ∧ xn = 0 ∧ ln = 0 := by
            rcases Rr.out with h | h | h
            · exact h.2
            · exact absurd h.1 hmay
            · exact absurd h.1 hmay
          have hrq : r = false ∨ r = true ∧ q = false := by
            cases hr : r
            · exact Or.inl rfl
            · refine Or.inr ⟨rfl, ?_⟩
              cases hq2 : q
              · rfl
              · exfalso
                have h1 := HR.out.1 hr
                have h2 := EX.out.1 hq2
                exact hmay ⟨h1, h2.1, fun t ht => h2.2 t (by have := h2.1; omega)⟩
          clear Rr Yr Xr Lr Dr Vr BBr B4 HS3 EX HR hmay
          rcases hrq with hr | ⟨hr, hq9⟩
          · go_wp2_with fail
            refine (AWA.out _ BB4.out).mono ?_
            rintro e w9 ⟨rfl, B9⟩
            have BB9 := hid (BB4.out.trans (B9.mono BB4.out.size))
            clear B9
            go_wp2
            go_ret
            exact ⟨rfl, BB9.out⟩
          · go_wp2_with fail
            refine (AWA.out _ BB4.out).mono ?_
            rintro e w9 ⟨rfl, B9⟩
            have BB9 := hid (BB4.out.trans (B9.mono BB4.out.size))
            clear B9
            go_wp2
            go_ret
            exact ⟨rfl, BB9.out⟩
end Go.Proofs.YtocfenjampmdlaaGreatDoor
