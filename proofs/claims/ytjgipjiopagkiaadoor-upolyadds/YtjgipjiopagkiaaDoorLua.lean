/- The law of sums, differences, derivatives (chapter 9), of the landed upoly. -/
import Derived.Test.YtjgipjiopagkiaaDoorLud
namespace Go.Proofs.YtjgipjiopagkiaaDoor
open Go.RowKit Num Nmb

theorem monic_one {p k : Nat} {A G H : Nat → Int} (g : MonicIs p k A G) (h : MonicIs p k A H) : Ct p G H := by
  obtain ⟨c, d, cd, e1, n1, t1⟩ := g
  obtain ⟨c', d', cd', e2, n2, t2⟩ := h
  cases k with
  | zero => exact fun j => by rw [n1.nil, n2.nil]; exact Cg.rfl
  | succ k =>
    have g1 : G k = 1 := by
      rcases t1 with t | t
      · omega
      · exact t
    have h1 : H k = 1 := by
      rcases t2 with t | t
      · omega
      · exact t
    have a1 := e1 k
    have a2 := e2 k
    rw [g1] at a1
    rw [h1] at a2
    have k1 : Cg p c c' := by
      have x1 : Cg p (c * (c' * A k)) c := (Cg.rfl.mul a2.symm).trans (Cg.of_eq (Int.mul_one _))
      have x2 : Cg p (c' * (c * A k)) c' := (Cg.rfl.mul a1.symm).trans (Cg.of_eq (Int.mul_one _))
      exact x1.symm.trans ((Cg.of_eq (Int.mul_left_comm _ _ _)).trans x2)
    exact fun j => (e1 j).trans ((k1.mul Cg.rfl).trans (e2 j).symm)
set_option maxHeartbeats 3200000 in
theorem adds_law (p : Nat) (u v : Value) (n m : Nat) (a b : Nat → Int) (w : World) (h64 : p ≤ 18446744073709551615) (U : Wl w u n a) (V : Wl w v m b) (L : Lay w) :
    Calls Tryd.prog 3 #[.int .u64 p, u, v] w fun e w' => e = .returned (.bool true) ∧ Below w.heap.size w w' := by
  have AW : Hid (∀ W, Below w.heap.size w W → Calls Tryd.prog 7 #[] W fun e w' => e = .returned (.bool true) ∧ Below w.heap.size w w') := fun W B => (uawake W (L.bel B)).mono (by rintro e w' ⟨rfl, B'⟩; exact ⟨rfl, B.trans (B'.mono B.size)⟩)
  by_cases hA : Asked p
  · have FD := hid (field9_yes upc p w L hA)
    have p63 := hA.le
    have p2 := hA.pri.1
    have HP := hid hA.pri
    have FE : Hid (∀ W, Below w.heap.size w W → Calls Tryd.prog 6 #[u, v] W fun e w' => e = .returned (.bool (decide (n ≤ 40 ∧ m ≤ 40))) ∧ w' = W) := fun W B => few9 u v n m a b W (U.below B) (V.below B)
    by_cases hf : n ≤ 40 ∧ m ≤ 40
    · rw [decide_eq_true hf] at FE
      obtain ⟨kb, kbn, hB⟩ := np_ex (p := p) (by omega) (ax a n) n (fun j hj => Cg.of_eq (ax_out a hj))
      have RN : Hid (∀ W, Below w.heap.size w W → Calls Tryd.prog 8 #[u, .int .u64 p] W fun e w' => (∃ o c, e = .returned (.slice o kb c) ∧ Wl w' (.slice o kb c) kb (fun j => ax a n j % p)) ∧ Below W.heap.size W w') := fun W B => by
        refine (rnorm9 u n a p W (U.below B) (by omega) p2 (by omega)).mono ?_
        rintro e w' ⟨⟨x, rfl, k, hk, WX⟩, B'⟩
        obtain ⟨_, rfl⟩ := hk.eq hB (Ct.refl _ _)
        have WY := WX
        obtain ⟨o, c, rfl, -⟩ := WX
        exact ⟨⟨o, c, rfl, WY⟩, B'⟩
      have UN : Hid (∀ W g, Below w.heap.size w W → UF W g p → Calls Tryd.prog 10 #[.pointer (some ⟨g, 0, none⟩), u] W fun e w' => (∃ x, e = .returned x ∧ Wl w' x kb (fun j => ax a n j % p)) ∧ Below W.heap.size W w') := fun W g B F => unorm_any g p u n kb a W F (U.below B) (by omega) hB
      have UD : Hid (∀ W g, Below w.heap.size w W → UF W g p → Calls Tryd.prog 11 #[.pointer (some ⟨g, 0, none⟩), u] W fun e w' => e = .returned (.int .i64 ((kb : Int) - 1)) ∧ ∃ k, w' = W.drewN k) := fun W g B F => udeg_any g p u n kb a W F (U.below B) hB
      have CAdd : Hid (∀ W g, Below w.heap.size w W → UF W g p → Calls Tryd.prog 12 #[.pointer (some ⟨g, 0, none⟩), u, v] W fun e w' => (∃ x, e = .returned x ∧ PV w' x p (fun j => (ax a n j + ax b m j) % p)) ∧ Below W.heap.size W w') := fun W g B F => uadd_any g p u v n m a b W F (U.below B) (V.below B) (by omega) (by omega)
      have RAdd : Hid (∀ W, Below w.heap.size w W → Calls Tryd.prog 13 #[u, v, .int .u64 p] W fun e w' => (∃ x, e = .returned x ∧ PV w' x p (fun j => (ax a n j + ax b m j) % p)) ∧ Below W.heap.size W w') := fun W B => radd9 u v n m a b p W (U.below B) (V.below B) (by omega) (by omega) p2 (by omega)
      have CSub : Hid (∀ W g, Below w.heap.size w W → UF W g p → Calls Tryd.prog 14 #[.pointer (some ⟨g, 0, none⟩), u, v] W fun e w' => (∃ x, e = .returned x ∧ PV w' x p (fun j => (ax a n j - ax b m j) % p)) ∧ Below W.heap.size W w') := fun W g B F => usub_any g p u v n m a b W F (U.below B) (V.below B) (by omega) (by omega)
      have RSub : Hid (∀ W, Below w.heap.size w W → Calls Tryd.prog 15 #[u, v, .int .u64 p] W fun e w' => (∃ x, e = .returned x ∧ PV w' x p (fun j => (ax a n j - ax b m j) % p)) ∧ Below W.heap.size W w') := fun W B => rsub9 u v n m a b p W (U.below B) (V.below B) (by omega) (by omega) p2 (by omega)
      have CDerive : Hid (∀ W g, Below w.heap.size w W → UF W g p → Calls Tryd.prog 16 #[.pointer (some ⟨g, 0, none⟩), u] W fun e w' => (∃ x, e = .returned x ∧ PV w' x p (fun j => drv (ax a n) j % p)) ∧ Below W.heap.size W w') := fun W g B F => uderive_any g p u n a W F (U.below B) (by omega)
      have RDerive : Hid (∀ W, Below w.heap.size w W → Calls Tryd.prog 17 #[u, .int .u64 p] W fun e w' => (∃ x, e = .returned x ∧ PV w' x p (fun j => drv (ax a n) j % p)) ∧ Below W.heap.size W w') := fun W B => rderive9 u n a p W (U.below B) (by omega) p2 (by omega)
      have CMonic : Hid (∀ W g, Below w.heap.size w W → UF W g p → Calls Tryd.prog 18 #[.pointer (some ⟨g, 0, none⟩), u] W fun e w' => (∃ x G, e = .returned x ∧ PV w' x p G ∧ MonicIs p kb (ax a n) G) ∧ Below W.heap.size W w') := fun W g B F => (umonic_any g p u n kb a W HP.out F (U.below B) (by omega) hB).mono (by rintro e w' ⟨⟨x, G, rfl, WG, M⟩, B'⟩; exact ⟨⟨x, G, rfl, ⟨kb, by obtain ⟨_, _, _, _, h, _⟩ := M; exact h, WG⟩, M⟩, B'⟩)
      have RMonic : Hid (∀ W, Below w.heap.size w W → Calls Tryd.prog 19 #[u, .int .u64 p] W fun e w' => (∃ x G, e = .returned x ∧ PV w' x p G ∧ MonicIs p kb (ax a n) G) ∧ Below W.heap.size W w') := fun W B => (rmonic9 u n kb a p W HP.out (U.below B) (by omega) (by omega) hB).mono (by rintro e w' ⟨⟨x, G, rfl, WG, M⟩, B'⟩; exact ⟨⟨x, G, rfl, ⟨kb, by obtain ⟨_, _, _, _, h, _⟩ := M; exact h, WG⟩, M⟩, B'⟩)
      obtain ⟨uo, ucap, rfl, -⟩ := U
      obtain ⟨vo, vcap, rfl, -⟩ := V
      have wk : IntKind.i64.wrap ((kb : Int) - 1) = (kb : Int) - 1 := by rw [IntKind.wrap_i64]; omega
      clear hA L hB hf HP
      generalize (fun j => ax a n j % (p : Int)) = XN at *
      generalize (fun j => (ax a n j + ax b m j) % (p : Int)) = XA at *
      generalize (fun j => (ax a n j - ax b m j) % (p : Int)) = XS at *
      generalize (fun j => drv (ax a n) j % (p : Int)) = XD at *
      generalize ax a n = A0 at *
      go_enter Tryd.func3, Tryd.ntmps3
      go_wp2_with fail
      refine FD.out.mono ?_
      rintro e w1 ⟨⟨g, rfl, F⟩, B1⟩
      have HF := hid F
      have HB := hid B1
      clear FD F B1
      go_wp2_with fail
      refine (FE.out _ HB.out).mono ?_
      rintro e w2 ⟨rfl, hw⟩
      obtain rfl := hw.symm
      clear FE
      go_wp2_with fail
      refine (RN.out _ HB.out).mono ?_
      rintro e w2 ⟨⟨no, nc, rfl, WN⟩, B2⟩
      have HB2 := hid (HB.out.trans (B2.mono HB.out.size))
      have HF2 := hid (HF.out.below B2)
      have HN := hid WN
      clear RN WN B2 HB HF
      go_wp2_with fail
      refine (UN.out _ g HB2.out HF2.out).mono ?_
      rintro e w3 ⟨⟨x, rfl, WX⟩, B3⟩
      have HB3 := hid (HB2.out.trans (B3.mono HB2.out.size))
      have HF3 := hid (HF2.out.below B3)
      have S1 := hid (same_yes _ _ kb _ _ w3 WX (HN.out.below B3) (fun _ _ => rfl))
      obtain ⟨xo, xc, rfl, -⟩ := WX
      clear UN B3 HB2 HF2 HN
      go_wp2_with fail
      refine S1.out.mono ?_
      rintro e w4 ⟨rfl, c4, rfl⟩
      have HB4 := hid (below_drewN HB3.out c4)
      have HF4 := hid (HF3.out.drew c4)
      clear S1 HB3 HF3
      generalize w3.drewN c4 = w4 at *
      go_wp2_with fail
      refine (UD.out _ g HB4.out HF4.out).mono ?_
      rintro e w5 ⟨rfl, c5, rfl⟩
      have HB5 := hid (below_drewN HB4.out c5)
      have HF5 := hid (HF4.out.drew c5)
      clear UD HB4 HF4
      generalize w4.drewN c5 = w5 at *
      go_wp2_with fail
      refine (CAdd.out _ g HB5.out HF5.out).mono ?_
      rintro e w6 ⟨⟨x5, rfl, P1⟩, B1⟩
      have HB6 := hid (HB5.out.trans (B1.mono HB5.out.size))
      have HF6 := hid (HF5.out.below B1)
      have HP1 := hid P1
      skip
      obtain ⟨o5, l5, c5, rfl, -⟩ := P1.ps
      clear CAdd P1 B1 HB5 HF5 
      go_wp2_with fail
      refine (RAdd.out _ HB6.out).mono ?_
      rintro e w7 ⟨⟨y5, rfl, P2⟩, B2⟩
      have HB7 := hid (HB6.out.trans (B2.mono HB6.out.size))
      have HF7 := hid (HF6.out.below B2)
      have S1 := hid (same_pv _ _ p _ _ w7 (HP1.out.below B2) P2 (Ct.refl _ _))
      obtain ⟨o6, l6, c6, rfl, -⟩ := P2.ps
      clear RAdd P2 B2 HB6 HF6 HP1 
      go_wp2_with fail
      refine S1.out.mono ?_
      rintro e w8 ⟨rfl, q5, rfl⟩
      have HB8 := hid (below_drewN HB7.out q5)
      have HF8 := hid (HF7.out.drew q5)
      clear S1 HB7 HF7
      generalize w7.drewN q5 = w8 at *
      go_wp2_with fail
      refine (CSub.out _ g HB8.out HF8.out).mono ?_
      rintro e w9 ⟨⟨x8, rfl, P1⟩, B1⟩
      have HB9 := hid (HB8.out.trans (B1.mono HB8.out.size))
      have HF9 := hid (HF8.out.below B1)
      have HP1 := hid P1
      skip
      obtain ⟨o8, l8, c8, rfl, -⟩ := P1.ps
      clear CSub P1 B1 HB8 HF8 
      go_wp2_with fail
      refine (RSub.out _ HB9.out).mono ?_
      rintro e w10 ⟨⟨y8, rfl, P2⟩, B2⟩
      have HB10 := hid (HB9.out.trans (B2.mono HB9.out.size))
      have HF10 := hid (HF9.out.below B2)
      have S1 := hid (same_pv _ _ p _ _ w10 (HP1.out.below B2) P2 (Ct.refl _ _))
      obtain ⟨o9, l9, c9, rfl, -⟩ := P2.ps
      clear RSub P2 B2 HB9 HF9 HP1 
      go_wp2_with fail
      refine S1.out.mono ?_
      rintro e w11 ⟨rfl, q8, rfl⟩
      have HB11 := hid (below_drewN HB10.out q8)
      have HF11 := hid (HF10.out.drew q8)
      clear S1 HB10 HF10
      generalize w10.drewN q8 = w11 at *
      go_wp2_with fail
      refine (CDerive.out _ g HB11.out HF11.out).mono ?_
      rintro e w12 ⟨⟨x11, rfl, P1⟩, B1⟩
      have HB12 := hid (HB11.out.trans (B1.mono HB11.out.size))
      have HF12 := hid (HF11.out.below B1)
      have HP1 := hid P1
      skip
      obtain ⟨o11, l11, c11, rfl, -⟩ := P1.ps
      clear CDerive P1 B1 HB11 HF11 
      go_wp2_with fail
      refine (RDerive.out _ HB12.out).mono ?_
      rintro e w13 ⟨⟨y11, rfl, P2⟩, B2⟩
      have HB13 := hid (HB12.out.trans (B2.mono HB12.out.size))
      have HF13 := hid (HF12.out.below B2)
      have S1 := hid (same_pv _ _ p _ _ w13 (HP1.out.below B2) P2 (Ct.refl _ _))
      obtain ⟨o12, l12, c12, rfl, -⟩ := P2.ps
      clear RDerive P2 B2 HB12 HF12 HP1 
      go_wp2_with fail
      refine S1.out.mono ?_
      rintro e w14 ⟨rfl, q11, rfl⟩
      have HB14 := hid (below_drewN HB13.out q11)
      have HF14 := hid (HF13.out.drew q11)
      clear S1 HB13 HF13
      generalize w13.drewN q11 = w14 at *
      go_wp2_with fail
      refine (CMonic.out _ g HB14.out HF14.out).mono ?_
      rintro e w15 ⟨⟨x14, G1, rfl, P1, M1⟩, B1⟩
      have HB15 := hid (HB14.out.trans (B1.mono HB14.out.size))
      have HF15 := hid (HF14.out.below B1)
      have HP1 := hid P1
      have HM1 := hid M1
      obtain ⟨o14, l14, c14, rfl, -⟩ := P1.ps
      clear CMonic P1 B1 HB14 HF14 M1
      go_wp2_with fail
      refine (RMonic.out _ HB15.out).mono ?_
      rintro e w16 ⟨⟨y14, G2, rfl, P2, M2⟩, B2⟩
      have HB16 := hid (HB15.out.trans (B2.mono HB15.out.size))
      have HF16 := hid (HF15.out.below B2)
      have S1 := hid (same_pv _ _ p _ _ w16 (HP1.out.below B2) P2 (monic_one HM1.out M2))
      obtain ⟨o15, l15, c15, rfl, -⟩ := P2.ps
      clear RMonic P2 B2 HB15 HF15 HP1 M2 HM1
      go_wp2_with fail
      refine S1.out.mono ?_
      rintro e w17 ⟨rfl, q14, rfl⟩
      have HB17 := hid (below_drewN HB16.out q14)
      have HF17 := hid (HF16.out.drew q14)
      clear S1 HB16 HF16
      generalize w16.drewN q14 = w17 at *
      go_wp2_with fail
      refine (AW.out _ HB17.out).mono ?_
      rintro e w8 ⟨rfl, B8⟩
      have HB8 := hid B8
      clear B8 HB17 AW HF17
      go_wp2
      go_ret
      exact ⟨rfl, HB8.out⟩
    · rw [decide_eq_false hf] at FE
      obtain ⟨uo, ucap, rfl, -⟩ := U
      obtain ⟨vo, vcap, rfl, -⟩ := V
      clear hA L hf HP
      go_enter Tryd.func3, Tryd.ntmps3
      go_wp2_with fail
      refine FD.out.mono ?_
      rintro e w1 ⟨⟨g, rfl, F⟩, B1⟩
      have HB := hid B1
      clear FD F B1
      go_wp2_with fail
      refine (FE.out _ HB.out).mono ?_
      rintro e w2 ⟨rfl, hw⟩
      obtain rfl := hw.symm
      clear FE
      go_wp2_with fail
      refine (AW.out _ HB.out).mono ?_
      rintro e w5 ⟨rfl, B5⟩
      have HB5 := hid B5
      clear B5 HB AW
      go_wp2
      go_ret
      exact ⟨rfl, HB5.out⟩
  · have FD := hid (field9_no upc p w L h64 hA)
    obtain ⟨uo, ucap, rfl, -⟩ := U
    obtain ⟨vo, vcap, rfl, -⟩ := V
    clear hA L
    go_enter Tryd.func3, Tryd.ntmps3
    go_wp2_with fail
    refine FD.out.mono ?_
    rintro e w1 ⟨rfl, B1⟩
    have HB := hid B1
    clear FD B1
    go_wp2_with fail
    refine (AW.out _ HB.out).mono ?_
    rintro e w5 ⟨rfl, B5⟩
    have HB5 := hid B5
    clear B5 HB AW
    go_wp2
    go_ret
    exact ⟨rfl, HB5.out⟩
end Go.Proofs.YtjgipjiopagkiaaDoor
