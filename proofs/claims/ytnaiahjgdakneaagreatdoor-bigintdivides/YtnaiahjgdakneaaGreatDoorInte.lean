/- Whole numbers: quotients downwards. -/
import Derived.Test.YtnaiahjgdakneaaGreatDoorIntd
import Derived.Deep.Cut
import Derived.Deep.QuietTactic
import Derived.BigQuiet
import Derived.BigRegion
namespace Go.Proofs.YtnaiahjgdakneaaGreatDoor
open Go.RowKit Num

theorem sgn_ne {R : Int} (h : R ≠ 0) : (sgn R != 0) = true := by
  unfold sgn
  by_cases h1 : R < 0
  · rw [if_pos h1]; rfl
  · rw [if_neg h1, if_neg h]; rfl
theorem It.sign {w : World} {p : Bool} {ao : Option Addr} {k cap n : Nat} {A : Int} (h : It w (.agg #[.bool p, .slice ao k cap]) n A) : p = decide (A < 0) := by
  obtain ⟨neg, ao', k', cap', a, e, h1, h2, rfl, h4, h5⟩ := h
  simp only [Value.agg.injEq, Array.mk.injEq, List.cons.injEq, Value.bool.injEq] at e
  obtain ⟨rfl, -⟩ := e
  cases p
  · simp [sg]; omega
  · have := h4 rfl; simp [sg]; omega
theorem Var.drew {w : World} {g : Nat} {p : Bool} {ao : Option Addr} {n c : Nat} (h : Var w g p ao n c) : Var w.drew g p ao n c := h
theorem pair (w : World) (p : Bool) (ao : Option Addr) (n c : Nat) (q : Bool) (bo : Option Addr) (m d : Nat) :
    Var ((w.alloc (.cells #[.bool p, .slice ao n c] 30)).alloc (.cells #[.bool q, .slice bo m d] 30)) w.heap.size p ao n c ∧
    Var ((w.alloc (.cells #[.bool p, .slice ao n c] 30)).alloc (.cells #[.bool q, .slice bo m d] 30)) (w.heap.size + 1) q bo m d ∧
    Below w.heap.size w ((w.alloc (.cells #[.bool p, .slice ao n c] 30)).alloc (.cells #[.bool q, .slice bo m d] 30)) :=
  ⟨(var_mk w p ao n c).alloc _, by simpa using var_mk (w.alloc (.cells #[.bool p, .slice ao n c] 30)) q bo m d, bt (below_new w _) (below_new _ _)⟩
/-- what the two variables hold ahead of the return. -/
def DM (w : World) (gq gl n m : Nat) (Q R : Int) (w' : World) : Prop :=
  ∃ p1 ao1 k1 c1 p2 ao2 k2 c2, Var w' gq p1 ao1 k1 c1 ∧ Var w' gl p2 ao2 k2 c2 ∧ Var w' (w.heap.size + 2) false none 0 0 ∧ Var w' (w.heap.size + 3) false none 0 0 ∧
    It w' (.agg #[.bool p1, .slice ao1 k1 c1]) (n + 2) Q ∧ It w' (.agg #[.bool p2, .slice ao2 k2 c2]) (max n m + 1) R ∧ Below w.heap.size w w'
set_option maxHeartbeats 40000000 in
theorem DivMod_any (vx vy : Value) (n m : Nat) (A B : Int) (w : World) (hx : It w vx n A) (hy : It w vy m B) (hn : n ≤ 10000) (hm : m ≤ 10000) (hB : B ≠ 0) :
    Calls Tryz.prog 9 #[vx, vy] w fun e w' => ∃ v1 v2 Q R, e = .returned (.tuple #[v1, v2, .int .i64 0]) ∧ It w' v1 (n + 2) Q ∧ It w' v2 (max n m + 1) R ∧ DivIs A B Q R ∧ Below w.heap.size w w' := by
  obtain ⟨neg, ao, k, cap, rfl⟩ := hx.shape
  obtain ⟨neg', ao', k', cap', rfl⟩ := hy.shape
  have hpb := hy.sign
  obtain ⟨v0, w0, r0, q0, t0⟩ := entry22 w neg ao k cap neg' ao' k' cap'
  have H := hid (QuoRem_any _ _ n m A B _ (hx.below t0) (hy.below t0) (by omega) (by omega) hB)
  have HY := hid (hy.below t0)
  have W0 := hid w0
  have R0 := hid r0
  have Q0 := hid q0
  have T0 := hid t0
  have HP := hid hpb
  clear hx hy v0 w0 r0 q0 t0 hpb
  go_enter Tryz.func9, Tryz.ntmps9
  go_wp2_with fail
  generalize (((w.alloc (.cells #[.bool neg, .slice ao k cap] 30)).alloc (.cells #[.bool neg', .slice ao' k' cap'] 30)).alloc (.cells #[.bool false, .slice none 0 0] 30)).alloc (.cells #[.bool false, .slice none 0 0] 30) = wa at *
  refine H.out.mono ?_
  rintro e w1 ⟨v1, v2, Q, R, rfl, s1, s2, hq, C1⟩
  have S1 := hid s1
  have S2 := hid s2
  have HQ := hid hq
  obtain ⟨g1, ao1, k1, cap1, rfl⟩ := s1.shape
  obtain ⟨g2, ao2, k2, cap2, rfl⟩ := s2.shape
  clear s1 s2 hq H
  obtain ⟨v1, v2, t2⟩ := pair w1 g1 ao1 k1 cap1 g2 ao2 k2 cap2
  have S3 := hid (S1.out.below t2)
  have S4 := hid (S2.out.below t2)
  have T2 := hid (bt C1 t2)
  have V1 := hid v1
  have V2 := hid v2
  have hg2 := S2.out.sign
  have HG := hid hg2
  have z0 := Blk.lt Q0.out
  have z1 := C1.size
  clear v1 v2 t2 S1 S2 C1 hg2
  go_wp2_with fail
  generalize (w1.alloc (.cells #[.bool g1, .slice ao1 k1 cap1] 30)).alloc (.cells #[.bool g2, .slice ao2 k2 cap2] 30) = w2 at *
  refine (Sign_any _ _ _ _ S4.out).mono ?_
  rintro e w3 ⟨rfl, C3⟩
  have T3 := hid (bt T2.out C3)
  have V3 := hid (V1.out.go C3)
  have V4 := hid (V2.out.go C3)
  have S5 := hid (S3.out.below C3)
  have S6 := hid (S4.out.below C3)
  obtain ⟨x0, x1, x2, x3, x4⟩ := Var.facts V4.out
  obtain ⟨y0, y1, y2, y3, y4⟩ := Var.facts (W0.out.go T3.out)
  clear V1 V2 T2 S3 S4 C3
  by_cases hr : R = 0
  · have hs : sgn R = 0 := by rw [hr]; rfl
    rw [hs]
    have HD := hid (div_same HQ.out (Or.inl hr))
    have HM : Hid (DM w w1.heap.size (w1.heap.size + 1) n m Q R w3) := ⟨_, _, _, _, _, _, _, _, V3.out, V4.out, R0.out.go T3.out, Q0.out.go T3.out, S5.out.mono (by omega), S6.out.mono (by omega), bt T0.out T3.out⟩
    clear hs hr V3 V4 S5 S6 HY
    go_upto_if 26 with fail
    go_cut [] from 10 (fun wx => ∃ Q' R', DivIs A B Q' R' ∧ DM w w1.heap.size (w1.heap.size + 1) n m Q' R' wx)
    case first =>
      go_wp2_with fail
      go_meet
      exact ⟨Q, R, HD.out, HM.out⟩
    case rest =>
      obtain ⟨Q', R', hd, p1, bo1, j1, d1, p2, bo2, j2, d2, v1, v2, r1, r2, i1, i2, tt⟩ := hcut
      have R1 := hid r1
      have R2 := hid r2
      have I1 := hid i1
      have I2 := hid i2
      have TT := hid tt
      have HD' := hid hd
      obtain ⟨a0, a1, a2, a3, a4⟩ := Var.facts v1
      obtain ⟨b0, b1, b2, b3, b4⟩ := Var.facts v2
      obtain ⟨c0, c1, c2, c3, c4⟩ := Var.facts r1
      obtain ⟨e0, e1, e2, e3, e4⟩ := Var.facts r2
      have n1 : w1.heap.size ≠ w.heap.size + 2 := by omega
      have n2 : w1.heap.size + 1 ≠ w.heap.size + 2 := by omega
      clear v1 v2 r1 r2 i1 i2 tt hd x0 x1 x2 x3 x4 y0 y1 y2 y3 y4
      go_wp2_with fail
      go_region
      all_goals
        have O1 := only_two (w.heap.size + 2) wc (.bool p1) (.slice bo1 j1 d1)
        have Q4 := R2.out.at O1 (by omega)
        have R4 := Var.set (q := p1) (bo := bo1) (m := j1) (d := d1) R1.out
        have J8 := hid (I1.out.off R1.out O1)
        have J9 := hid (I2.out.off R1.out O1)
        go_wp2
        have O2 := only_two (w.heap.size + 3) ((wc.setCell ⟨w.heap.size + 2, 0, none⟩ (.bool p1)).setCell ⟨w.heap.size + 2, 1, none⟩ (.slice bo1 j1 d1)) (.bool p2) (.slice bo2 j2 d2)
        refine bodyPost_ret (ret_var3 (R4.at O2 (by omega)).drew (Var.set Q4).drew rfl rfl rfl rfl) rfl ?_
        exact ⟨_, _, _, _, rfl, (J8.out.off Q4 O2).below (Below.refl _ _).drew, (J9.out.off Q4 O2).below (Below.refl _ _).drew, HD'.out, (((TT.out.trans (O1.below (by omega))).trans (O2.below (by omega)))).drew⟩
  · have hs : (sgn R != 0) = true := sgn_ne hr
    generalize sgn R = sr at *
    by_cases hd : g2 = neg'
    · have HD := hid (div_same HQ.out (Or.inr (by have e := HG.out.symm.trans (hd.trans HP.out); simpa using e)))
      have HM : Hid (DM w w1.heap.size (w1.heap.size + 1) n m Q R w3) := ⟨_, _, _, _, _, _, _, _, V3.out, V4.out, R0.out.go T3.out, Q0.out.go T3.out, S5.out.mono (by omega), S6.out.mono (by omega), bt T0.out T3.out⟩
      have hgp : (g2 == neg') = true := by simpa using hd
      clear hr hd V3 V4 S5 S6 HY
      go_upto_if 26 with fail
      go_cut [] from 10 (fun wx => ∃ Q' R', DivIs A B Q' R' ∧ DM w w1.heap.size (w1.heap.size + 1) n m Q' R' wx)
      case first =>
        go_wp2_with fail
        go_meet
        exact ⟨Q, R, HD.out, HM.out⟩
      case rest =>
        obtain ⟨Q', R', hd, p1, bo1, j1, d1, p2, bo2, j2, d2, v1, v2, r1, r2, i1, i2, tt⟩ := hcut
        have R1 := hid r1
        have R2 := hid r2
        have I1 := hid i1
        have I2 := hid i2
        have TT := hid tt
        have HD' := hid hd
        obtain ⟨a0, a1, a2, a3, a4⟩ := Var.facts v1
        obtain ⟨b0, b1, b2, b3, b4⟩ := Var.facts v2
        obtain ⟨c0, c1, c2, c3, c4⟩ := Var.facts r1
        obtain ⟨e0, e1, e2, e3, e4⟩ := Var.facts r2
        have n1 : w1.heap.size ≠ w.heap.size + 2 := by omega
        have n2 : w1.heap.size + 1 ≠ w.heap.size + 2 := by omega
        clear v1 v2 r1 r2 i1 i2 tt hd x0 x1 x2 x3 x4 y0 y1 y2 y3 y4
        go_wp2_with fail
        go_region
        all_goals
          have O1 := only_two (w.heap.size + 2) wc (.bool p1) (.slice bo1 j1 d1)
          have Q4 := R2.out.at O1 (by omega)
          have R4 := Var.set (q := p1) (bo := bo1) (m := j1) (d := d1) R1.out
          have J8 := hid (I1.out.off R1.out O1)
          have J9 := hid (I2.out.off R1.out O1)
          go_wp2
          have O2 := only_two (w.heap.size + 3) ((wc.setCell ⟨w.heap.size + 2, 0, none⟩ (.bool p1)).setCell ⟨w.heap.size + 2, 1, none⟩ (.slice bo1 j1 d1)) (.bool p2) (.slice bo2 j2 d2)
          refine bodyPost_ret (ret_var3 (R4.at O2 (by omega)).drew (Var.set Q4).drew rfl rfl rfl rfl) rfl ?_
          exact ⟨_, _, _, _, rfl, (J8.out.off Q4 O2).below (Below.refl _ _).drew, (J9.out.off Q4 O2).below (Below.refl _ _).drew, HD'.out, (((TT.out.trans (O1.below (by omega))).trans (O2.below (by omega)))).drew⟩
    · have HD := hid (div_turn HQ.out hr (by intro h; exact hd (by rw [HG.out, HP.out]; simp [h])))
      have hgp : (g2 == neg') = false := by simpa using hd
      have YY := hid (HY.out.below T3.out)
      obtain ⟨a0, a1, a2, a3, a4⟩ := Var.facts V3.out
      clear hr hd HQ HG HP HY
      go_upto_if 26 with fail
      go_cut [] from 10 (fun wx => ∃ Q' R', DivIs A B Q' R' ∧ DM w w1.heap.size (w1.heap.size + 1) n m Q' R' wx)
      case first =>
        clear hs
        go_wp2_with fail
        go_region_with (first
          | (go_at_call 22; go_must (refine (Of_any 1 _ (by decide) (by decide)).mono ?_; rintro e w4 ⟨v4, rfl, i4, C4⟩; have I4 := hid i4; have T4 : Below w3.heap.size w3 w4 := undrew C4; obtain ⟨a0, a1, a2, a3, a4⟩ := Var.facts (V3.out.go T4); obtain ⟨x0, x1, x2, x3, x4⟩ := Var.facts (V4.out.go T4); obtain ⟨y0, y1, y2, y3, y4⟩ := Var.facts (W0.out.go (bt T3.out T4)); clear i4 C4))
          | (go_at_call 27; go_must (refine (Sub_any _ _ _ _ _ _ _ (S5.out.below T4) I4.out (by omega) (by omega)).mono ?_; rintro e w5 ⟨v5, rfl, i5, C5⟩; obtain ⟨p5, ao5, k5, cap5, rfl⟩ := i5.shape; have I5 := hid i5; have T5 := bt T4 C5; obtain ⟨x0, x1, x2, x3, x4⟩ := Var.facts (V4.out.go T5); obtain ⟨y0, y1, y2, y3, y4⟩ := Var.facts (W0.out.go (bt T3.out T5)); clear i5))
          | (go_at_call 28; go_must (refine (Add_any _ _ _ _ _ _ _ (S6.out.below T5) (YY.out.below T5) (by omega) (by omega)).mono ?_; rintro e w6 ⟨v6, rfl, i6, C6⟩; obtain ⟨p6, ao6, k6, cap6, rfl⟩ := i6.shape; have I6 := hid i6; have T6 := bt T5 C6; have V7 := hid (V3.out.go T6); have V8 := hid (V4.out.go T6); obtain ⟨a0, a1, a2, a3, a4⟩ := Var.facts V7.out; obtain ⟨x0, x1, x2, x3, x4⟩ := Var.facts V8.out; clear i6)))
        all_goals
          have O1 := only_two w1.heap.size w6 (.bool p5) (.slice ao5 k5 cap5)
          have U1 := Var.set (q := p5) (bo := ao5) (m := k5) (d := cap5) V7.out
          have U2 := V8.out.at O1 (by omega)
          have O2 := only_two (w1.heap.size + 1) ((w6.setCell ⟨w1.heap.size, 0, none⟩ (.bool p5)).setCell ⟨w1.heap.size, 1, none⟩ (.slice ao5 k5 cap5)) (.bool p6) (.slice ao6 k6 cap6)
          have J5 := ((I5.out.below C6).off V7.out O1).off U2 O2
          have J6 := (I6.out.off V7.out O1).off U2 O2
          go_wp2_with fail
          go_meet
          exact ⟨_, _, HD.out, _, _, _, _, _, _, _, _, U1.at O2 (by omega), Var.set U2, ((R0.out.go (bt T3.out T6)).at O1 (by omega)).at O2 (by omega), ((Q0.out.go (bt T3.out T6)).at O1 (by omega)).at O2 (by omega), J5.mono (by omega), J6.mono (by omega), ((bt T0.out (bt T3.out T6)).trans (O1.below (by omega))).trans (O2.below (by omega))⟩
      case rest =>
        obtain ⟨Q', R', hd, p1, bo1, j1, d1, p2, bo2, j2, d2, v1, v2, r1, r2, i1, i2, tt⟩ := hcut
        have R1 := hid r1
        have R2 := hid r2
        have I1 := hid i1
        have I2 := hid i2
        have TT := hid tt
        have HD' := hid hd
        obtain ⟨a0, a1, a2, a3, a4⟩ := Var.facts v1
        obtain ⟨b0, b1, b2, b3, b4⟩ := Var.facts v2
        obtain ⟨c0, c1, c2, c3, c4⟩ := Var.facts r1
        obtain ⟨e0, e1, e2, e3, e4⟩ := Var.facts r2
        have n1 : w1.heap.size ≠ w.heap.size + 2 := by omega
        have n2 : w1.heap.size + 1 ≠ w.heap.size + 2 := by omega
        clear v1 v2 r1 r2 i1 i2 tt hd x0 x1 x2 x3 x4 y0 y1 y2 y3 y4
        go_wp2_with fail
        go_region
        all_goals
          have O1 := only_two (w.heap.size + 2) wc (.bool p1) (.slice bo1 j1 d1)
          have Q4 := R2.out.at O1 (by omega)
          have R4 := Var.set (q := p1) (bo := bo1) (m := j1) (d := d1) R1.out
          have J8 := hid (I1.out.off R1.out O1)
          have J9 := hid (I2.out.off R1.out O1)
          go_wp2
          have O2 := only_two (w.heap.size + 3) ((wc.setCell ⟨w.heap.size + 2, 0, none⟩ (.bool p1)).setCell ⟨w.heap.size + 2, 1, none⟩ (.slice bo1 j1 d1)) (.bool p2) (.slice bo2 j2 d2)
          refine bodyPost_ret (ret_var3 (R4.at O2 (by omega)).drew (Var.set Q4).drew rfl rfl rfl rfl) rfl ?_
          exact ⟨_, _, _, _, rfl, (J8.out.off Q4 O2).below (Below.refl _ _).drew, (J9.out.off Q4 O2).below (Below.refl _ _).drew, HD'.out, (((TT.out.trans (O1.below (by omega))).trans (O2.below (by omega)))).drew⟩
end Go.Proofs.YtnaiahjgdakneaaGreatDoor
