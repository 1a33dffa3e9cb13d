/- The law BigintDivides, walked. -/
import Derived.Test.YtnaiahjgdakneaaGreatDoorRgb
import Derived.Test.YtnaiahjgdakneaaGreatDoorRdy
import Derived.Test.YtnaiahjgdakneaaGreatDoorLbg
namespace Go.Proofs.YtnaiahjgdakneaaGreatDoor
open Go.RowKit Num
/-- a number in its variable. -/
structure VI (g : Nat) (p : Bool) (ao : Option Addr) (k c n : Nat) (A : Int) (w : World) : Prop where
  var : Var w g p ao k c
  num : It w (.agg #[.bool p, .slice ao k c]) n A
theorem VI.go {g : Nat} {p : Bool} {ao : Option Addr} {k c n : Nat} {A : Int} {w w' : World} (h : VI g p ao k c n A w) (b : Below w.heap.size w w') : VI g p ao k c n A w' := ⟨h.var.go b, h.num.below b⟩
theorem VI.new {p : Bool} {ao : Option Addr} {k c n : Nat} {A : Int} {w : World} (h : It w (.agg #[.bool p, .slice ao k c]) n A) : VI w.heap.size p ao k c n A (w.alloc (.cells #[.bool p, .slice ao k c] 30)) := ⟨var_mk _ _ _ _ _, h.alloc _⟩
theorem VI.two {p : Bool} {ao : Option Addr} {k c n : Nat} {A : Int} {p' : Bool} {ao' : Option Addr} {k' c' n' : Nat} {A' : Int} {w : World} (h : It w (.agg #[.bool p, .slice ao k c]) n A) (h' : It w (.agg #[.bool p', .slice ao' k' c']) n' A') :
    VI w.heap.size p ao k c n A ((w.alloc (.cells #[.bool p, .slice ao k c] 30)).alloc (.cells #[.bool p', .slice ao' k' c'] 30)) ∧
    VI (w.heap.size + 1) p' ao' k' c' n' A' ((w.alloc (.cells #[.bool p, .slice ao k c] 30)).alloc (.cells #[.bool p', .slice ao' k' c'] 30)) ∧
    Below w.heap.size w ((w.alloc (.cells #[.bool p, .slice ao k c] 30)).alloc (.cells #[.bool p', .slice ao' k' c'] 30)) := by
  obtain ⟨v1, v2, t⟩ := pair w p ao k c p' ao' k' c'
  exact ⟨⟨v1, h.below t⟩, ⟨v2, h'.below t⟩, t⟩
structure RBk (g : Nat) (A : Int) (w : World) : Prop where
  blk : Blk w g #[.bool (decide (A < 0)), .string (dt A.natAbs)] 40
theorem RBk.go {g : Nat} {A : Int} {w w' : World} (h : RBk g A w) (b : Below w.heap.size w w') : RBk g A w' := ⟨h.blk.go2 b⟩
theorem It.len {w : World} {v : Value} {n : Nat} {A : Int} (h : It w v n A) : (dt A.natAbs).size ≤ 20 * n + 1 := by
  obtain ⟨neg, ao, k, cap, a, rfl, hz, hk, rfl, _, h0⟩ := h
  have e : (sg neg a).natAbs = a.toNat := by cases neg <;> simp only [sg, if_true, Bool.false_eq_true, if_false] <;> omega
  rw [e, dt_size]
  have := len_of (u := a.toNat) (k := k) (by have := hz.nt.lt; omega)
  omega
theorem ne_ref {w : World} {g g' : Nat} {a p : Bool} {x : Option Addr} {y z : Nat} {t : TypeId} {S : ByteArray} (h : Blk w g #[.bool a, .slice x y z] t) (h' : Blk w g' #[.bool p, .string S] 40) : g ≠ g' := by
  rintro rfl
  unfold Blk at h h'
  rw [h] at h'
  simp at h'
theorem Sl.offr {w : World} {v : Value} {n : Nat} {x : Nat → Int} {o g : Nat} {p : Bool} {S : ByteArray} (h : Sl w v n x o) (hb : Blk w g #[.bool p, .string S] 40) : SlN g w v n x o := by
  obtain ⟨ao', cap, rfl, h1, h2, h3, h4, h5⟩ := h
  refine ⟨ao', cap, rfl, h1, h2, h3, h4, fun hn => ?_⟩
  obtain ⟨b, off, rfl, hbs, hc⟩ := h5 hn
  refine ⟨b, off, rfl, hbs, ?_, hc⟩
  rintro rfl
  have := hc 0 hn
  unfold Blk at hb
  simp only [World.cell?, hb] at this
  match off with
  | 0 => simp at this
  | 1 => simp at this
  | k + 2 => simp at this
theorem It.offr {w w' : World} {v : Value} {n : Nat} {A : Int} {g : Nat} {p : Bool} {S : ByteArray} (h : It w v n A) (hv : Blk w g #[.bool p, .string S] 40) (ho : Only g w w') : It w' v n A := by
  obtain ⟨neg, ao, k, cap, a, rfl, ⟨x, o, h1, h1', h1''⟩, h2, h3, h4, h5⟩ := h
  exact ⟨neg, ao, k, cap, a, rfl, ⟨x, o, ((h1.offr hv).only ho).sl, h1', h1''⟩, h2, h3, h4, h5⟩
theorem VI.setr {g : Nat} {p : Bool} {ao : Option Addr} {k c n : Nat} {A : Int} {w w' : World} {gv : Nat} {q : Bool} {S : ByteArray} (h : VI g p ao k c n A w) (hv : Blk w gv #[.bool q, .string S] 40) (ho : Only gv w w') : VI g p ao k c n A w' :=
  ⟨h.var.at ho (ne_ref h.var hv), h.num.offr hv ho⟩
theorem Two.setr {W w w' : World} {g : Nat} {na nb : Bool} {aa ab : Option Addr} {n ca m cb : Nat} {xa xb : Nat → Int} {oa ob : Nat} {gv : Nat} {q : Bool} {S : ByteArray} (h : Two W g na aa n ca xa oa nb ab m cb xb ob w) (hT : Tab W) (hv : Blk w gv #[.bool q, .string S] 40) (ho : Only gv w w') (hg : W.heap.size ≤ gv) : Two W g na aa n ca xa oa nb ab m cb xb ob w' :=
  ⟨h.old.trans (ho.below hg), h.fa.only ho (ne_ref h.fa hv), h.fb.only ho (ne_ref h.fb hv), ((h.sa.offr hv).only ho).sl, ((h.sb.offr hv).only ho).sl, h.tab.below (ho.below hg) hT.lt⟩
theorem ri_nat (u : Nat) : RI false (dt u) (u : Int) := ⟨by simp, by simp⟩
theorem mod_one {A f Q R r : Int} (h : DivIs A f Q R) (k : ModIs A f r) : R = r := by
  obtain ⟨k1, k2, q, k3⟩ := k
  exact (div_one (by omega) h ⟨k3, by omega, by omega⟩).2
set_option maxHeartbeats 3200000 in
set_option maxRecDepth 100000 in
theorem divides_a (na : Bool) (aa : Option Addr) (n ca : Nat) (xa : Nat → Int) (oa : Nat) (nb : Bool) (ab : Option Addr) (m cb : Nat) (xb : Nat → Int) (ob : Nat) (u : Nat) (A B : Int) (w : World)
    (ha : Sl w (.slice aa n ca) n xa oa) (hb : Sl w (.slice ab m cb) m xb ob) (hn : n ≤ 8) (hm : m ≤ 8) (ht : Tab w) (hA : A = sg na (V xa oa n)) (hBB : B = sg nb (V xb ob m)) (hu : u ≤ 18446744073709551615) (hB : B ≠ 0) (_hU : 0 < u) :
    Calls Tryz.prog 3 #[.agg #[.bool na, .slice aa n ca], .agg #[.bool nb, .slice ab m cb], .int .u64 u] w fun e w' => e = .returned (.bool true) ∧ Below w.heap.size w w' := by
  have h0 : Below w.heap.size w ((w.alloc (.cells #[.bool na, .slice aa n ca] 25)).alloc (.cells #[.bool nb, .slice ab m cb] 25)) := bt (below_new w _) (below_new _ _)
  have K0 : Hid (Two w w.heap.size na aa n ca xa oa nb ab m cb xb ob ((w.alloc (.cells #[.bool na, .slice aa n ca] 25)).alloc (.cells #[.bool nb, .slice ab m cb] 25))) := by
    refine ⟨h0, Blk.go2 (Blk.new _ _ _) (below_new _ _), ?_, ha.below h0, hb.below h0, ht.below h0 ht.lt⟩
    have := Blk.new (w.alloc (.cells #[.bool na, .slice aa n ca] 25)) #[.bool nb, .slice ab m cb] 25
    rw [World.size_alloc] at this
    exact this
  have FA := hid (few_any na aa n ca)
  have FB := hid (few_any nb ab m cb)
  have EA := hid hA
  have EB := hid hBB
  have HTW := hid ht
  have a0 := V_bd n ha.wd
  have b0 := V_bd m hb.wd
  have LA := hid (len_of (u := (V xa oa n).toNat) (k := n) (by have := a0; omega))
  have LB := hid (len_of (u := (V xb ob m).toNat) (k := m) (by have := b0; omega))
  have LU := hid (len_of (u := u) (k := 1) (by show (u : Int) < P 1; rw [show P 1 = 18446744073709551616 by decide +kernel]; omega))
  rw [← dt_size] at LA LB LU
  have SZA : Hid ((dt A.natAbs).size ≤ 90000) := by
    show _ ≤ _
    have e : A.natAbs = (V xa oa n).toNat := by rw [hA]; cases na <;> simp only [sg, if_true, Bool.false_eq_true, if_false] <;> omega
    rw [e]
    have := LA.out
    omega
  have SZB : Hid ((dt B.natAbs).size ≤ 90000) := by
    show _ ≤ _
    have e : B.natAbs = (V xb ob m).toNat := by rw [hBB]; cases nb <;> simp only [sg, if_true, Bool.false_eq_true, if_false] <;> omega
    rw [e]
    have := LB.out
    omega
  rw [decide_eq_true hn] at FA
  rw [decide_eq_true hm] at FB
  clear h0 ha hb ht hA hBB a0 b0
  go_enter Tryz.func3, Tryz.ntmps3
  go_wp2_with fail
  generalize (w.alloc (.cells #[.bool na, .slice aa n ca] 25)).alloc (.cells #[.bool nb, .slice ab m cb] 25) = wa at *
  generalize hg : w.heap.size = g at *
  refine (FA.out _).mono ?_
  rintro e w1 ⟨rfl, C⟩
  have K1 := hid (K0.out.go C)
  clear K0
  clear C
  obtain ⟨ka, kb, kc, kd⟩ := K1.out.cells
  go_wp2_with fail
  clear ka kb kc kd
  refine (FB.out _).mono ?_
  rintro e w2 ⟨rfl, C⟩
  have K2 := hid (K1.out.go C)
  clear K1
  clear C
  obtain ⟨ka, kb, kc, kd⟩ := K2.out.cells
  go_wp2_with fail
  clear ka kb kc kd
  refine (lof_any na aa n ca xa oa _ K2.out.sa (by omega)).mono ?_
  rintro e w3 ⟨⟨v3, rfl, i3⟩, C⟩
  rw [← EA.out] at i3
  obtain ⟨px, ax, lx, cx, rfl⟩ := i3.shape
  have X0 := hid (VI.new i3)
  have C3 := bt C (below_new w3 (.cells #[.bool px, .slice ax lx cx] 30))
  have K3 := hid (K2.out.go C3)
  clear K2
  clear C i3 C3
  obtain ⟨ka, kb, kc, kd⟩ := K3.out.cells
  go_wp2_with fail
  clear ka kb kc kd
  generalize w3.alloc (.cells #[.bool px, .slice ax lx cx] 30) = w4 at *
  generalize w3.heap.size = gx at *
  refine (lof_any nb ab m cb xb ob _ K3.out.sb (by omega)).mono ?_
  rintro e w5 ⟨⟨v5, rfl, i5⟩, C⟩
  rw [← EB.out] at i5
  obtain ⟨py, ay, ly, cy, rfl⟩ := i5.shape
  have Y0 := hid (VI.new i5)
  have C5 := bt C (below_new w5 (.cells #[.bool py, .slice ay ly cy] 30))
  have K4 := hid (K3.out.go C5)
  have X4 := hid (X0.out.go C5)
  clear K3 X0
  clear C i5 C5
  obtain ⟨Xa, Xb, Xc, Xd, Xe⟩ := Var.facts X4.out.var
  obtain ⟨Ya, Yb, Yc, Yd, Ye⟩ := Var.facts Y0.out.var
  go_wp2_with fail
  clear Xa Xb Xc Xd Xe Ya Yb Yc Yd Ye
  generalize w5.alloc (.cells #[.bool py, .slice ay ly cy] 30) = w6 at *
  generalize w5.heap.size = gy at *
  refine (QuoRem_any _ _ n m A B _ X4.out.num Y0.out.num (by omega) (by omega) hB).mono ?_
  rintro e w7 ⟨v7, v8, Q, R, rfl, i7, i8, dq, C⟩
  obtain ⟨pq, aq, lq, cq, rfl⟩ := i7.shape
  obtain ⟨pr, ar, lr, cr, rfl⟩ := i8.shape
  obtain ⟨q0, r0, t⟩ := VI.two i7 i8
  have Q0 := hid q0
  have R0 := hid r0
  have DQ := hid dq
  have C7 := bt C t
  have K5 := hid (K4.out.go C7)
  have X5 := hid (X4.out.go C7)
  have Y5 := hid (Y0.out.go C7)
  clear K4 X4 Y0
  clear C i7 i8 q0 r0 t dq C7
  obtain ⟨Xa, Xb, Xc, Xd, Xe⟩ := Var.facts X5.out.var
  obtain ⟨Ya, Yb, Yc, Yd, Ye⟩ := Var.facts Y5.out.var
  go_wp2_with fail
  clear Xa Xb Xc Xd Xe Ya Yb Yc Yd Ye
  generalize (w7.alloc (.cells #[.bool pq, .slice aq lq cq] 30)).alloc (.cells #[.bool pr, .slice ar lr cr] 30) = w8 at *
  generalize w7.heap.size = gq at *
  refine (DivMod_any _ _ n m A B _ X5.out.num Y5.out.num (by omega) (by omega) hB).mono ?_
  rintro e w9 ⟨v9, v10, Q1, R1, rfl, i9, i10, dd, C⟩
  obtain ⟨ps, a3, ls, cs, rfl⟩ := i9.shape
  obtain ⟨pt, at1, lt, ct, rfl⟩ := i10.shape
  obtain ⟨s0, t0, t⟩ := VI.two i9 i10
  have S0 := hid s0
  have T0 := hid t0
  have DD := hid dd
  have C9 := bt C t
  have K6 := hid (K5.out.go C9)
  have X6 := hid (X5.out.go C9)
  have Y6 := hid (Y5.out.go C9)
  have Q6 := hid (Q0.out.go C9)
  have R6 := hid (R0.out.go C9)
  clear K5 X5 Y5 Q0 R0
  clear C i9 i10 s0 t0 t dd C9
  obtain ⟨Xa, Xb, Xc, Xd, Xe⟩ := Var.facts X6.out.var
  obtain ⟨Ya, Yb, Yc, Yd, Ye⟩ := Var.facts Y6.out.var
  go_wp2_with fail
  clear Xa Xb Xc Xd Xe Ya Yb Yc Yd Ye
  generalize (w9.alloc (.cells #[.bool ps, .slice a3 ls cs] 30)).alloc (.cells #[.bool pt, .slice at1 lt ct] 30) = w10 at *
  generalize w9.heap.size = gs at *
  refine (Exact_any _ _ n m A B _ X6.out.num Y6.out.num (by omega) (by omega) hB).mono ?_
  rintro e w11 ⟨⟨Q2, R2, dq2, hx⟩, C⟩
  obtain ⟨eQ, eR⟩ := quo_one hB DQ.out dq2
  subst eQ eR
  clear dq2
  rcases hx with ⟨hR, rfl⟩ | ⟨hR, v11, rfl, i11⟩
  · have HR0 := hid hR
    clear hR
    have i11 := it_zero w11
    have U0 := hid (VI.new i11)
    have C11 := bt C (below_new w11 (.cells #[.bool false, .slice none 0 0] 30))
    have K7 := hid (K6.out.go C11)
    have X7 := hid (X6.out.go C11)
    have Y7 := hid (Y6.out.go C11)
    have Q7 := hid (Q6.out.go C11)
    have R7 := hid (R6.out.go C11)
    have S7 := hid (S0.out.go C11)
    have T7 := hid (T0.out.go C11)
    clear K6 X6 Y6 Q6 R6 S0 T0
    clear C i11 C11
    obtain ⟨Xa, Xb, Xc, Xd, Xe⟩ := Var.facts X7.out.var
    go_wp2_with fail
    clear Xa Xb Xc Xd Xe
    generalize w11.alloc (.cells #[.bool false, .slice none 0 0] 30) = w12 at *
    generalize w11.heap.size = gu at *
    refine (Mod_any _ n A u _ X7.out.num (by omega) (by omega) (by omega)).mono ?_
    rintro e w13 ⟨⟨mr, rfl, dm⟩, C⟩
    have DM := hid dm
    have K8 := hid (K7.out.go C)
    have X8 := hid (X7.out.go C)
    have Y8 := hid (Y7.out.go C)
    have Q8 := hid (Q7.out.go C)
    have R8 := hid (R7.out.go C)
    have S8 := hid (S7.out.go C)
    have T8 := hid (T7.out.go C)
    have U8 := hid (U0.out.go C)
    clear K7 X7 Y7 Q7 R7 S7 T7 U0
    clear C dm
    obtain ⟨ka, kb, kc, kd⟩ := K8.out.cells
    go_wp2_with fail
    clear ka kb kc kd
    refine (plain_ri na aa n ca xa oa _ K8.out.sa (by omega)).mono ?_
    rintro e w14 ⟨⟨ng1, SA, rfl, ra, sa⟩, C⟩
    rw [← EA.out] at ra
    have RA := hid ra
    have ZA := hid sa
    have K9 := hid (K8.out.go C)
    have X9 := hid (X8.out.go C)
    have Y9 := hid (Y8.out.go C)
    have Q9 := hid (Q8.out.go C)
    have R9 := hid (R8.out.go C)
    have S9 := hid (S8.out.go C)
    have T9 := hid (T8.out.go C)
    have U9 := hid (U8.out.go C)
    clear K8 X8 Y8 Q8 R8 S8 T8 U8
    clear C ra sa
    obtain ⟨ka, kb, kc, kd⟩ := K9.out.cells
    go_wp2_with fail
    clear ka kb kc kd
    refine (rword_any u _ hu).mono ?_
    rintro e w15 ⟨rfl, C⟩
    have K10 := hid (K9.out.go C)
    have X10 := hid (X9.out.go C)
    have Y10 := hid (Y9.out.go C)
    have Q10 := hid (Q9.out.go C)
    have R10 := hid (R9.out.go C)
    have S10 := hid (S9.out.go C)
    have T10 := hid (T9.out.go C)
    have U10 := hid (U9.out.go C)
    clear K9 X9 Y9 Q9 R9 S9 T9 U9
    clear C
    obtain ⟨ka, kb, kc, kd⟩ := K10.out.cells
    go_wp2_with fail
    clear ka kb kc kd
    refine (rdivm_any ng1 SA A false (dt u) (u : Int) _ RA.out (ri_nat u) (by rw [ZA.out]; have := LA.out; omega) (by have := LU.out; omega) (by omega)).mono ?_
    rintro e w16 ⟨⟨p16, S16, p17, S17, Q16, R16, rfl, _, r17, d17⟩, C⟩
    have R17 := hid r17
    obtain ⟨mn, hmn⟩ := Int.eq_ofNat_of_zero_le DM.out.1
    subst hmn
    have ES : Hid (S17 = dt mn) := by have e := mod_one d17 DM.out; rw [r17.2, e]; rfl
    have hmn : mn ≤ 18446744073709551615 := by have := DM.out.2.1; omega
    have t := bt (below_new w16 (.cells #[.bool p16, .string S16] 40)) (below_new (w16.alloc (.cells #[.bool p16, .string S16] 40)) (.cells #[.bool p17, .string S17] 40))
    have C16 := bt C t
    have K11 := hid (K10.out.go C16)
    have X11 := hid (X10.out.go C16)
    have Y11 := hid (Y10.out.go C16)
    have Q11 := hid (Q10.out.go C16)
    have R11 := hid (R10.out.go C16)
    have S11 := hid (S10.out.go C16)
    have T11 := hid (T10.out.go C16)
    have U11 := hid (U10.out.go C16)
    clear K10 X10 Y10 Q10 R10 S10 T10 U10
    have BL : Hid (Blk ((w16.alloc (.cells #[.bool p16, .string S16] 40)).alloc (.cells #[.bool p17, .string S17] 40)) (w16.heap.size + 1) #[.bool p17, .string S17] 40) := by
      have := Blk.new (w16.alloc (.cells #[.bool p16, .string S16] 40)) #[.bool p17, .string S17] 40
      rw [World.size_alloc] at this
      exact this
    clear C t C16 r17 d17 R17
    obtain rfl : S17 = dt mn := ES.out
    clear ES
    go_wp2_with fail
    generalize (w16.alloc (.cells #[.bool p16, .string S16] 40)).alloc (.cells #[.bool p17, .string (dt mn)] 40) = w17 at *
    generalize w16.heap.size = gl at *
    have K12 := hid (K11.out.go (Below.refl _ _).drew)
    have X12 := hid (X11.out.go (Below.refl _ _).drew)
    have Y12 := hid (Y11.out.go (Below.refl _ _).drew)
    have Q12 := hid (Q11.out.go (Below.refl _ _).drew)
    have R12 := hid (R11.out.go (Below.refl _ _).drew)
    have S12 := hid (S11.out.go (Below.refl _ _).drew)
    have T12 := hid (T11.out.go (Below.refl _ _).drew)
    have U12 := hid (U11.out.go (Below.refl _ _).drew)
    clear K11 X11 Y11 Q11 R11 S11 T11 U11
    have BM := hid (BL.out.go2 (Below.refl _ _).drew)
    have H0 : w17.drew.cell? ⟨gl + 1, 0, none⟩ = some (.bool p17) ∧ w17.drew.cell? ⟨gl + 1, 1, none⟩ = some (.string (dt mn)) := ⟨(Blk.two BM.out).1, (Blk.two BM.out).2.1⟩
    clear BL
    go_region_held3 (fun W => W.cell? ⟨gl + 1, 0, none⟩ = some (.bool p17) ∧ W.cell? ⟨gl + 1, 1, none⟩ = some (.string (dt mn))) (first | exact H0 | exact H1) (first
      | (go_at_call 14; go_must (refine (rword_any mn w17.drew hmn).mono ?_; rintro e w18 ⟨rfl, C⟩; have BN := hid (BM.out.go2 C); have H1 : w18.cell? ⟨gl + 1, 0, none⟩ = some (.bool p17) ∧ w18.cell? ⟨gl + 1, 1, none⟩ = some (.string (dt mn)) := ⟨(Blk.two BN.out).1, (Blk.two BN.out).2.1⟩; have K13 := hid (K12.out.go C); have X13 := hid (X12.out.go C); have Y13 := hid (Y12.out.go C); have Q13 := hid (Q12.out.go C); have R13 := hid (R12.out.go C); have S13 := hid (S12.out.go C); have T13 := hid (T12.out.go C); have U13 := hid (U12.out.go C); clear K12 X12 Y12 Q12 R12 S12 T12 U12; clear C)))
    clear H0 H1 BM BN
    obtain ⟨ka, kb, kc, kd⟩ := K13.out.cells
    go_wp2_with fail
    clear ka kb kc kd
    refine (plain_ri nb ab m cb xb ob _ K13.out.sb (by omega)).mono ?_
    rintro e w20 ⟨⟨ng2, SB, rfl, rb, sb⟩, C⟩
    rw [← EB.out] at rb
    have RB := hid rb
    have ZB := hid sb
    have K14 := hid (K13.out.go C)
    have X14 := hid (X13.out.go C)
    have Y14 := hid (Y13.out.go C)
    have Q14 := hid (Q13.out.go C)
    have R14 := hid (R13.out.go C)
    have S14 := hid (S13.out.go C)
    have T14 := hid (T13.out.go C)
    have U14 := hid (U13.out.go C)
    clear K13 X13 Y13 Q13 R13 S13 T13 U13
    clear C rb sb
    go_wp2_with fail
    refine (rsign_any ng2 SB B _ RB.out).mono ?_
    rintro e w21 ⟨rfl, C⟩
    have K15 := hid (K14.out.go C)
    have X15 := hid (X14.out.go C)
    have Y15 := hid (Y14.out.go C)
    have Q15 := hid (Q14.out.go C)
    have R15 := hid (R14.out.go C)
    have S15 := hid (S14.out.go C)
    have T15 := hid (T14.out.go C)
    have U15 := hid (U14.out.go C)
    clear K14 X14 Y14 Q14 R14 S14 T14 U14
    clear C
    have sb1 := sgn_nz hB
    have sb2 : (sgn B == 0) = false := by simpa using sb1
    generalize sgn B = sb at *
    obtain ⟨ka, kb, kc, kd⟩ := K15.out.cells
    go_wp2_with fail
    clear ka kb kc kd
    clear sb1 sb2
    have KD := hid (K15.out.go (Below.refl _ _).drew)
    refine wp_region_each (by kernel_rfl) (fun s => ⟨#[_, _, _, _, _, _, _, _, _, _, _, _, _, _, _, _, _, _, _, _, _, s 8, s 9, _, _, _, _, _, _, _, _, _, _, _, _, _, _, _, _, _, _, _, _, _, _, _, _, _, _, _, _, _, _, _, _, _, _, _, _, _, _, _, _, _, _, _, _, _, _, _, _, _, _, _, _, _, _, _, _, _, _, _, _, _, _, _, _, _, _, _, _, _, _, _, _, _, _, _, _, _, _, _, _, _, _, _, _, _, _, _, _, _, _, _, _, _, _, _, _, _, _, _, _, _, _, _, _, _, _, _, _, _, _, _, s 5, s 0, s 1, s 2, s 3, s 4, s 6, s 7, _, _, _, _, _, _, _, _, _, _, _, _, _, _, _, _, _, _, _, _, _, _, _, _, _, _, _, _, _, _, _, _, _, _, _, _, _, _, _, _, _, _, _, _, _, _, _, _, _, _, _, _, _, _, _], []⟩)
      (RR (.agg #[.bool na, .slice aa n ca]) (.agg #[.bool nb, .slice ab m cb]) A B Q R w21.drew.heap.size) (CR w21.drew) (by kernel_rfl) ?_ ?_ (fun _ => undef) _ _ rfl ?_
    · refine ⟨?_, ?_, ?_, ?_, ?_, ?_, ?_, ?_, ?_, ?_, ?_, ?_, trivial⟩
      · intro s w hC hd K hK
        obtain ⟨ka, kb, kc, kd⟩ := (KD.out.go hC.old).cells
        have HC := hid hC
        clear hC hd
        go_simp
        exact hK _ _ (HC.out.put (by decide) (by decide)) (upd_same _ _ _) (fun j _ hj _ hr => RR.put j hj (fun _ => by decide) (fun _ => by decide) hr)
      · intro s w hC hd K hK
        obtain ⟨d0, _⟩ := hd
        have E0 : Hid (s 0 = _) := d0 rfl
        have HC := hid hC
        clear hC d0
        have CT := plain_ri na aa n ca xa oa w (KD.out.go HC.out.old).sa (by omega)
        rw [← E0.out] at CT
        have CT' := hid CT
        clear CT
        go_simp
        refine CT'.out.mono ?_
        rintro e w' ⟨⟨ng, S, rfl, ra, sq⟩, B1⟩
        clear sq
        rw [← EA.out] at ra
        have RA1 := hid ra
        clear ra
        go_simp
        exact hK _ _ ((HC.out.go B1).put (by decide) (by decide)) ((upd_same _ _ _).trans (rv_of RA1.out)) (fun j _ hj _ hr => RR.put j hj (fun _ => by decide) (fun _ => by decide) (RR.below B1 j hr))
      · intro s w hC hd K hK
        obtain ⟨ka, kb, kc, kd⟩ := (KD.out.go hC.old).cells
        have HC := hid hC
        clear hC hd
        go_simp
        exact hK _ _ (HC.out.put (by decide) (by decide)) (upd_same _ _ _) (fun j _ hj _ hr => RR.put j hj (fun _ => by decide) (fun _ => by decide) hr)
      · intro s w hC hd K hK
        obtain ⟨d0, _⟩ := hd
        have E0 : Hid (s 2 = _) := d0 rfl
        have HC := hid hC
        clear hC d0
        have CT := plain_ri nb ab m cb xb ob w (KD.out.go HC.out.old).sb (by omega)
        rw [← E0.out] at CT
        have CT' := hid CT
        clear CT
        go_simp
        refine CT'.out.mono ?_
        rintro e w' ⟨⟨ng, S, rfl, ra, sq⟩, B1⟩
        clear sq
        rw [← EB.out] at ra
        have RA1 := hid ra
        clear ra
        go_simp
        exact hK _ _ ((HC.out.go B1).put (by decide) (by decide)) ((upd_same _ _ _).trans (rv_of RA1.out)) (fun j _ hj _ hr => RR.put j hj (fun _ => by decide) (fun _ => by decide) (RR.below B1 j hr))
      · intro s w hC hd K hK
        obtain ⟨d1, d3, _⟩ := hd
        have E1 : Hid (s 1 = rv A) := d1 rfl
        have E3 : Hid (s 3 = rv B) := d3 rfl
        have HC := hid hC
        clear hC d1 d3
        have CT : Calls Tryz.prog 17 #[rv A, rv B] w _ := rquo_any _ _ A _ _ B w (ri_rv A) (ri_rv B) (by have := SZA.out; omega) (by have := SZB.out; omega) hB
        rw [← E1.out, ← E3.out] at CT
        have CT' := hid CT
        clear CT
        go_simp
        refine CT'.out.mono ?_
        rintro e w' ⟨⟨p1, S1, p2, S2, Q', R', rfl, r1, r2, dq, _, _⟩, B1⟩
        obtain ⟨eQ, eR⟩ := quo_one hB DQ.out dq
        have EV : Hid (Value.tuple #[.agg #[.bool p1, .string S1], .agg #[.bool p2, .string S2]] = .tuple #[rv Q, rv R]) := by show _ = _; rw [rv_of r1, rv_of r2, ← eQ, ← eR]
        clear dq r1 r2 eQ eR
        go_simp
        exact hK _ _ ((HC.out.go B1).put (by decide) (by decide)) ((upd_same _ _ _).trans EV.out) (fun j _ hj _ hr => RR.put j hj (fun _ => by decide) (fun _ => by decide) (RR.below B1 j hr))
      · intro s w hC hd K hK
        obtain ⟨d4, _⟩ := hd
        have E4 : Hid (s 4 = _) := d4 rfl
        clear d4
        go_simp
        exact hK _ _ (hC.put (by decide) (by decide)) ((upd_same _ _ _).trans E4.out) (fun j _ hj _ hr => RR.put j hj (fun _ => by decide) (fun _ => by decide) hr)
      · intro s w hC hd K hK
        obtain ⟨d5, _⟩ := hd
        have e5 : s 5 = .tuple #[rv Q, rv R] := d5 rfl
        clear d5
        go_simp
        rw [← e5]
        exact hK _ _ (hC.put (by decide) (by decide)) (upd_same _ _ _) (fun j _ hj _ hr => RR.put j hj (fun _ => by decide) (fun _ => by decide) hr)
      · intro s w hC hd K hK
        obtain ⟨d5, _⟩ := hd
        have e5 : s 5 = .tuple #[rv Q, rv R] := d5 rfl
        clear d5
        go_simp
        rw [← e5]
        exact hK _ _ (hC.put (by decide) (by decide)) (upd_same _ _ _) (fun j _ hj _ hr => RR.put j hj (fun _ => by decide) (fun _ => by decide) hr)
      · intro s w hC hd K hK
        clear hd
        go_simp
        exact hK _ _ hC.new8 (by show RVar _ (upd s 8 _ 8) _; rw [upd_same]; exact rvar_new hC.old.size) (fun j _ hj hw hr => RR.put j hj (fun e => by subst e; exact absurd hw (by decide)) (fun _ => by decide) (RR.below (below_new w _) j hr))
      · intro s w hC hd K hK
        clear hd
        go_simp
        exact hK _ _ hC.new9 (by show RVar _ (upd s 9 _ 9) _; rw [upd_same]; exact rvar_new hC.old.size) (fun j _ hj hw hr => RR.put j hj (fun _ => by decide) (fun e => by subst e; exact absurd hw (by decide)) (RR.below (below_new w _) j hr))
      · intro s w hC hd K hK
        obtain ⟨d8, d6, _⟩ := hd
        obtain ⟨g, p, S, e8, hg, hv⟩ := (show RVar w (s 8) _ from d8 rfl)
        have e6 : s 6 = rv Q := d6 rfl
        unfold rv at e6
        have HC := hid hC
        have HV := hid hv
        obtain ⟨f0, f1, f2, f3, f4⟩ := Blk.two hv
        clear d8 d6 hC hv
        go_simp
        rw [← e8, ← e6]
        exact hK undef (setr w g (decide (Q < 0)) (dt Q.natAbs)) ((HC.out.set HV.out hg).put (by decide) (by decide)) ⟨g, (upd_other s (i := 10) (j := 8) undef (by decide)).trans e8, Blk.set2 HV.out⟩ (fun j _ hj hw hr => RR.put j hj (fun _ => by decide) (fun _ => by decide) (RR.set HV.out j (fun e => absurd e hj) (fun e => by subst e; exact absurd hw (by decide)) hr))
      · intro s w hC hd K hK
        obtain ⟨d8, d6, _⟩ := hd
        obtain ⟨g, p, S, e8, hg, hv⟩ := (show RVar w (s 9) _ from d8 rfl)
        have e6 : s 7 = rv R := d6 rfl
        unfold rv at e6
        have HC := hid hC
        have HV := hid hv
        obtain ⟨f0, f1, f2, f3, f4⟩ := Blk.two hv
        clear d8 d6 hC hv
        go_simp
        rw [← e8, ← e6]
        exact hK undef (setr w g (decide (R < 0)) (dt R.natAbs)) ((HC.out.set HV.out hg).put (by decide) (by decide)) ⟨g, (upd_other s (i := 11) (j := 9) undef (by decide)).trans e8, Blk.set2 HV.out⟩ (fun j _ hj hw hr => RR.put j hj (fun _ => by decide) (fun _ => by decide) (RR.set HV.out j (fun _ e => HC.out.two g e e8) (fun e => absurd e hj) hr))
    rotate_left
    · exact ⟨Below.refl _ _, Or.inl rfl, Or.inl rfl, fun _ h => absurd h undef_ne⟩
    intro s w22 hC hR
    obtain ⟨gv, e8, bv⟩ := (show RHold w22 (s 8) Q from hR 10 (by decide))
    obtain ⟨gz, e9, bz⟩ := (show RHold w22 (s 9) R from hR 11 (by decide))
    have hvz : gv ≠ gz := fun e => hC.two gv e8 (by rw [e9, e])
    have BV0 : Hid (RBk gv Q w22) := ⟨bv⟩
    have BZ0 : Hid (RBk gz R w22) := ⟨bz⟩
    have C := hC.old
    obtain ⟨g1, _, _, x1, y1, _⟩ := (show RVar w22 (s 8) _ from hR 8 (by decide))
    obtain ⟨g2, _, _, x2, y2, _⟩ := (show RVar w22 (s 9) _ from hR 9 (by decide))
    have lv : w.heap.size ≤ gv := by rw [x1] at e8; simp at e8; subst e8; exact Nat.le_trans KD.out.old.size y1
    have lz : w.heap.size ≤ gz := by rw [x2] at e9; simp at e9; subst e9; exact Nat.le_trans KD.out.old.size y2
    clear x1 y1 x2 y2
    have KE := hid (KD.out.go C)
    clear KD
    have K16 := hid KE.out
    clear KE K15
    have X16 := hid (X15.out.go (bt (Below.refl _ _).drew C))
    clear X15
    have Y16 := hid (Y15.out.go (bt (Below.refl _ _).drew C))
    clear Y15
    have Q16 := hid (Q15.out.go (bt (Below.refl _ _).drew C))
    clear Q15
    have R16 := hid (R15.out.go (bt (Below.refl _ _).drew C))
    clear R15
    have S16 := hid (S15.out.go (bt (Below.refl _ _).drew C))
    clear S15
    have T16 := hid (T15.out.go (bt (Below.refl _ _).drew C))
    clear T15
    have U16 := hid (U15.out.go (bt (Below.refl _ _).drew C))
    clear U15
    simp only [e8, e9]
    clear e8 e9 hC hR C bv bz
    obtain ⟨Qa, Qb, Qc, Qd, Qe⟩ := Var.facts Q16.out.var
    obtain ⟨Ra, Rb, Rc, Rd, Re⟩ := Var.facts R16.out.var
    obtain ⟨BVa, BVb, BVc, BVd, BVe⟩ := Blk.two BV0.out.blk
    obtain ⟨BZa, BZb, BZc, BZd, BZe⟩ := Blk.two BZ0.out.blk
    go_wp2_with fail
    clear Qa Qb Qc Qd Qe Ra Rb Rc Rd Re BVa BVb BVc BVd BVe BZa BZb BZc BZd BZe
    refine (is_ri _ n Q _ _ _ Q16.out.num (by omega) (by have := Q16.out.num.len; omega) K16.out.tab (ri_rv Q)).mono ?_
    rintro e w23 ⟨rfl, C⟩
    have K17 := hid (K16.out.go C)
    have X17 := hid (X16.out.go C)
    have Y17 := hid (Y16.out.go C)
    have Q17 := hid (Q16.out.go C)
    have R17 := hid (R16.out.go C)
    have S17 := hid (S16.out.go C)
    have T17 := hid (T16.out.go C)
    have U17 := hid (U16.out.go C)
    have BV17 := hid (BV0.out.go C)
    have BZ17 := hid (BZ0.out.go C)
    clear K16 X16 Y16 Q16 R16 S16 T16 U16 BV0 BZ0
    clear C
    obtain ⟨Qa, Qb, Qc, Qd, Qe⟩ := Var.facts Q17.out.var
    obtain ⟨Ra, Rb, Rc, Rd, Re⟩ := Var.facts R17.out.var
    obtain ⟨BVa, BVb, BVc, BVd, BVe⟩ := Blk.two BV17.out.blk
    obtain ⟨BZa, BZb, BZc, BZd, BZe⟩ := Blk.two BZ17.out.blk
    go_wp2_with fail
    clear Qa Qb Qc Qd Qe Ra Rb Rc Rd Re BVa BVb BVc BVd BVe BZa BZb BZc BZd BZe
    refine (is_ri _ (max n m) R _ _ _ R17.out.num (by omega) (by have := R17.out.num.len; omega) K17.out.tab (ri_rv R)).mono ?_
    rintro e w24 ⟨rfl, C⟩
    have K18 := hid (K17.out.go C)
    have X18 := hid (X17.out.go C)
    have Y18 := hid (Y17.out.go C)
    have Q18 := hid (Q17.out.go C)
    have R18 := hid (R17.out.go C)
    have S18 := hid (S17.out.go C)
    have T18 := hid (T17.out.go C)
    have U18 := hid (U17.out.go C)
    have BV18 := hid (BV17.out.go C)
    have BZ18 := hid (BZ17.out.go C)
    clear K17 X17 Y17 Q17 R17 S17 T17 U17 BV17 BZ17
    clear C
    obtain ⟨BVa, BVb, BVc, BVd, BVe⟩ := Blk.two BV18.out.blk
    obtain ⟨BZa, BZb, BZc, BZd, BZe⟩ := Blk.two BZ18.out.blk
    go_wp2_with fail
    clear BVa BVb BVc BVd BVe BZa BZb BZc BZd BZe
    refine (rsign_any _ _ R _ (ri_rv R)).mono ?_
    rintro e w25 ⟨rfl, C⟩
    have K19 := hid (K18.out.go C)
    have X19 := hid (X18.out.go C)
    have Y19 := hid (Y18.out.go C)
    have Q19 := hid (Q18.out.go C)
    have R19 := hid (R18.out.go C)
    have S19 := hid (S18.out.go C)
    have T19 := hid (T18.out.go C)
    have U19 := hid (U18.out.go C)
    have BV19 := hid (BV18.out.go C)
    have BZ19 := hid (BZ18.out.go C)
    clear K18 X18 Y18 Q18 R18 S18 T18 U18 BV18 BZ18
    clear C
    have sr1 := sgn_nz HR0.out
    have sr2 : (sgn R == 0) = false := by simpa using sr1
    generalize sgn R = sr at *
    obtain ⟨Ua, Ub, Uc, Ud, Ue⟩ := Var.facts U19.out.var
    go_wp2_with fail
    clear Ua Ub Uc Ud Ue
    clear sr1 sr2
    refine (Sign_any _ _ _ _ U19.out.num).mono ?_
    rintro e w26 ⟨rfl, C⟩
    have K20 := hid (K19.out.go C)
    have X20 := hid (X19.out.go C)
    have Y20 := hid (Y19.out.go C)
    have Q20 := hid (Q19.out.go C)
    have R20 := hid (R19.out.go C)
    have S20 := hid (S19.out.go C)
    have T20 := hid (T19.out.go C)
    have U20 := hid (U19.out.go C)
    have BV20 := hid (BV19.out.go C)
    have BZ20 := hid (BZ19.out.go C)
    clear K19 X19 Y19 Q19 R19 S19 T19 U19 BV19 BZ19
    clear C
    have sz : sgn 0 = 0 := rfl
    rw [sz]
    obtain ⟨ka, kb, kc, kd⟩ := K20.out.cells
    obtain ⟨BVa, BVb, BVc, BVd, BVe⟩ := Blk.two BV20.out.blk
    obtain ⟨BZa, BZb, BZc, BZd, BZe⟩ := Blk.two BZ20.out.blk
    go_wp2_with fail
    clear ka kb kc kd BVa BVb BVc BVd BVe BZa BZb BZc BZd BZe
    clear X20
    clear Y20
    clear Q20
    clear R20
    clear U20
    have K21 := hid (K20.out.go (Below.refl _ _).drew)
    have S21 := hid (S20.out.go (Below.refl _ _).drew)
    have T21 := hid (T20.out.go (Below.refl _ _).drew)
    have BV21 := hid (BV20.out.go (Below.refl _ _).drew)
    have BZ21 := hid (BZ20.out.go (Below.refl _ _).drew)
    clear K20 S20 T20 BV20 BZ20
    have H0 := K21.out.cells
    go_region_held3 (fun W => W.cell? ⟨g, 0, none⟩ = some (.bool na) ∧ W.cell? ⟨g, 1, none⟩ = some (.slice aa n ca) ∧ W.cell? ⟨g + 1, 0, none⟩ = some (.bool nb) ∧ W.cell? ⟨g + 1, 1, none⟩ = some (.slice ab m cb)) (first | with_reducible exact H0 | with_reducible exact H1 | with_reducible exact H2 | with_reducible exact H3 | with_reducible exact HE | with_reducible exact HF) (first
      | (go_at_call_of 13 aa; go_must (refine (plain_ri na aa n ca xa oa w26.drew K21.out.sa (by omega)).mono ?_; rintro e w27 ⟨⟨ng, S5, rfl, ra, sq⟩, C⟩; clear sq; rw [← EA.out] at ra; obtain ⟨rfl, rfl⟩ := ra; have K22 := hid (K21.out.go C); have S22 := hid (S21.out.go C); have T22 := hid (T21.out.go C); have BV22 := hid (BV21.out.go C); have BZ22 := hid (BZ21.out.go C); clear K21 S21 T21 BV21 BZ21; have H1 := K22.out.cells; clear C))
      | (go_at_call_of 13 ab; go_must (refine (plain_ri nb ab m cb xb ob w27 K22.out.sb (by omega)).mono ?_; rintro e w28 ⟨⟨ng, S5, rfl, ra, sq⟩, C⟩; clear sq; rw [← EB.out] at ra; obtain ⟨rfl, rfl⟩ := ra; have K23 := hid (K22.out.go C); have S23 := hid (S22.out.go C); have T23 := hid (T22.out.go C); have BV23 := hid (BV22.out.go C); have BZ23 := hid (BZ22.out.go C); clear K22 S22 T22 BV22 BZ22; have H2 := K23.out.cells; clear C))
      | (go_at_call 12; go_must (refine (rdivm_any _ _ A _ _ B w28 (ri_rv A) (ri_rv B) (by have := SZA.out; omega) (by have := SZB.out; omega) hB).mono ?_; rintro e w29 ⟨⟨p5, S5, p6, S6, Q5, R5, rfl, r5, r6, dd⟩, C⟩; obtain ⟨eQ, eR⟩ := div_one hB DD.out dd; subst eQ eR; obtain ⟨rfl, rfl⟩ := r5; obtain ⟨rfl, rfl⟩ := r6; have K24 := hid (K23.out.go C); have S24 := hid (S23.out.go C); have T24 := hid (T23.out.go C); have BV24 := hid (BV23.out.go C); have BZ24 := hid (BZ23.out.go C); clear K23 S23 T23 BV23 BZ23; have H3 := K24.out.cells; have O1 := hid (only_two gv w29 (.bool (decide (Q1 < 0))) (.string (dt Q1.natAbs))); have KX := hid (K24.out.setr HTW.out BV24.out.blk O1.out lv); have HE := KX.out.cells; have BY := hid (BZ24.out.blk.only O1.out (Ne.symm hvz)); have O2 := hid (only_two gz ((w29.setCell ⟨gv, 0, none⟩ (.bool (decide (Q1 < 0)))).setCell ⟨gv, 1, none⟩ (.string (dt Q1.natAbs))) (.bool (decide (R1 < 0))) (.string (dt R1.natAbs))); have KY := hid (KX.out.setr HTW.out BY.out O2.out lz); have HF := KY.out.cells; obtain ⟨va, vb, vc, vd, ve⟩ := Blk.two BV24.out.blk; obtain ⟨za, zb, zc, zd, ze⟩ := Blk.two BY.out; clear C dd)))
    have S99 := hid ((S24.out.setr BV24.out.blk O1.out).setr BY.out O2.out)
    have T99 := hid ((T24.out.setr BV24.out.blk O1.out).setr BY.out O2.out)
    have BV99 : Hid (RBk gv Q1 _) := ⟨(Blk.set2 BV24.out.blk).only O2.out hvz⟩
    have BZ99 : Hid (RBk gz R1 _) := ⟨Blk.set2 BY.out⟩
    have K99 := hid KY.out
    clear BV24 BZ24 S24 T24 KX KY BY O1 O2 H0 H1 H2 H3 HE HF va vb vc vd ve za zb zc zd ze K24
    generalize (((w29.setCell ⟨gv, 0, none⟩ (.bool (decide (Q1 < 0)))).setCell ⟨gv, 1, none⟩ (.string (dt Q1.natAbs))).setCell ⟨gz, 0, none⟩ (.bool (decide (R1 < 0)))).setCell ⟨gz, 1, none⟩ (.string (dt R1.natAbs)) = w30 at *
    obtain ⟨Sa, Sb, Sc, Sd, Se⟩ := Var.facts S99.out.var
    obtain ⟨Ta, Tb, Tc, Td, Te⟩ := Var.facts T99.out.var
    obtain ⟨BVa, BVb, BVc, BVd, BVe⟩ := Blk.two BV99.out.blk
    obtain ⟨BZa, BZb, BZc, BZd, BZe⟩ := Blk.two BZ99.out.blk
    go_wp2_with fail
    clear Sa Sb Sc Sd Se Ta Tb Tc Td Te BVa BVb BVc BVd BVe BZa BZb BZc BZd BZe
    refine (is_ri _ (n + 2) Q1 _ _ _ S99.out.num (by omega) (by have := S99.out.num.len; omega) K99.out.tab (ri_rv Q1)).mono ?_
    rintro e w31 ⟨rfl, C⟩
    have K101 := hid (K99.out.go C)
    have S101 := hid (S99.out.go C)
    have T101 := hid (T99.out.go C)
    have BV101 := hid (BV99.out.go C)
    have BZ101 := hid (BZ99.out.go C)
    clear K99 S99 T99 BV99 BZ99
    clear C
    obtain ⟨Ta, Tb, Tc, Td, Te⟩ := Var.facts T101.out.var
    obtain ⟨BZa, BZb, BZc, BZd, BZe⟩ := Blk.two BZ101.out.blk
    go_wp2_with fail
    clear Ta Tb Tc Td Te BZa BZb BZc BZd BZe
    refine (is_ri _ (max n m + 1) R1 _ _ _ T101.out.num (by omega) (by have := T101.out.num.len; omega) K101.out.tab (ri_rv R1)).mono ?_
    rintro e w32 ⟨rfl, C⟩
    have K102 := hid (K101.out.go C)
    have S102 := hid (S101.out.go C)
    have T102 := hid (T101.out.go C)
    have BV102 := hid (BV101.out.go C)
    have BZ102 := hid (BZ101.out.go C)
    clear K101 S101 T101 BV101 BZ101
    clear C
    go_wp2_with fail
    refine (awake_any _ K102.out.tab).mono ?_
    rintro e w33 ⟨rfl, C⟩
    have K103 := hid (K102.out.go C)
    have S103 := hid (S102.out.go C)
    have T103 := hid (T102.out.go C)
    have BV103 := hid (BV102.out.go C)
    have BZ103 := hid (BZ102.out.go C)
    clear K102 S102 T102 BV102 BZ102
    clear C
    go_wp2
    go_ret
    exact ⟨rfl, hg ▸ K103.out.old⟩
  · have HR0 := hid hR
    clear hR
    obtain ⟨pu, au, lu, cu, rfl⟩ := i11.shape
    have U0 := hid (VI.new i11)
    have C11 := bt C (below_new w11 (.cells #[.bool pu, .slice au lu cu] 30))
    have K7 := hid (K6.out.go C11)
    have X7 := hid (X6.out.go C11)
    have Y7 := hid (Y6.out.go C11)
    have Q7 := hid (Q6.out.go C11)
    have R7 := hid (R6.out.go C11)
    have S7 := hid (S0.out.go C11)
    have T7 := hid (T0.out.go C11)
    clear K6 X6 Y6 Q6 R6 S0 T0
    clear C i11 C11
    obtain ⟨Xa, Xb, Xc, Xd, Xe⟩ := Var.facts X7.out.var
    go_wp2_with fail
    clear Xa Xb Xc Xd Xe
    generalize w11.alloc (.cells #[.bool pu, .slice au lu cu] 30) = w12 at *
    generalize w11.heap.size = gu at *
    refine (Mod_any _ n A u _ X7.out.num (by omega) (by omega) (by omega)).mono ?_
    rintro e w13 ⟨⟨mr, rfl, dm⟩, C⟩
    have DM := hid dm
    have K8 := hid (K7.out.go C)
    have X8 := hid (X7.out.go C)
    have Y8 := hid (Y7.out.go C)
    have Q8 := hid (Q7.out.go C)
    have R8 := hid (R7.out.go C)
    have S8 := hid (S7.out.go C)
    have T8 := hid (T7.out.go C)
    have U8 := hid (U0.out.go C)
    clear K7 X7 Y7 Q7 R7 S7 T7 U0
    clear C dm
    obtain ⟨ka, kb, kc, kd⟩ := K8.out.cells
    go_wp2_with fail
    clear ka kb kc kd
    refine (plain_ri na aa n ca xa oa _ K8.out.sa (by omega)).mono ?_
    rintro e w14 ⟨⟨ng1, SA, rfl, ra, sa⟩, C⟩
    rw [← EA.out] at ra
    have RA := hid ra
    have ZA := hid sa
    have K9 := hid (K8.out.go C)
    have X9 := hid (X8.out.go C)
    have Y9 := hid (Y8.out.go C)
    have Q9 := hid (Q8.out.go C)
    have R9 := hid (R8.out.go C)
    have S9 := hid (S8.out.go C)
    have T9 := hid (T8.out.go C)
    have U9 := hid (U8.out.go C)
    clear K8 X8 Y8 Q8 R8 S8 T8 U8
    clear C ra sa
    obtain ⟨ka, kb, kc, kd⟩ := K9.out.cells
    go_wp2_with fail
    clear ka kb kc kd
    refine (rword_any u _ hu).mono ?_
    rintro e w15 ⟨rfl, C⟩
    have K10 := hid (K9.out.go C)
    have X10 := hid (X9.out.go C)
    have Y10 := hid (Y9.out.go C)
    have Q10 := hid (Q9.out.go C)
    have R10 := hid (R9.out.go C)
    have S10 := hid (S9.out.go C)
    have T10 := hid (T9.out.go C)
    have U10 := hid (U9.out.go C)
    clear K9 X9 Y9 Q9 R9 S9 T9 U9
    clear C
    obtain ⟨ka, kb, kc, kd⟩ := K10.out.cells
    go_wp2_with fail
    clear ka kb kc kd
    refine (rdivm_any ng1 SA A false (dt u) (u : Int) _ RA.out (ri_nat u) (by rw [ZA.out]; have := LA.out; omega) (by have := LU.out; omega) (by omega)).mono ?_
    rintro e w16 ⟨⟨p16, S16, p17, S17, Q16, R16, rfl, _, r17, d17⟩, C⟩
    have R17 := hid r17
    obtain ⟨mn, hmn⟩ := Int.eq_ofNat_of_zero_le DM.out.1
    subst hmn
    have ES : Hid (S17 = dt mn) := by have e := mod_one d17 DM.out; rw [r17.2, e]; rfl
    have hmn : mn ≤ 18446744073709551615 := by have := DM.out.2.1; omega
    have t := bt (below_new w16 (.cells #[.bool p16, .string S16] 40)) (below_new (w16.alloc (.cells #[.bool p16, .string S16] 40)) (.cells #[.bool p17, .string S17] 40))
    have C16 := bt C t
    have K11 := hid (K10.out.go C16)
    have X11 := hid (X10.out.go C16)
    have Y11 := hid (Y10.out.go C16)
    have Q11 := hid (Q10.out.go C16)
    have R11 := hid (R10.out.go C16)
    have S11 := hid (S10.out.go C16)
    have T11 := hid (T10.out.go C16)
    have U11 := hid (U10.out.go C16)
    clear K10 X10 Y10 Q10 R10 S10 T10 U10
    have BL : Hid (Blk ((w16.alloc (.cells #[.bool p16, .string S16] 40)).alloc (.cells #[.bool p17, .string S17] 40)) (w16.heap.size + 1) #[.bool p17, .string S17] 40) := by
      have := Blk.new (w16.alloc (.cells #[.bool p16, .string S16] 40)) #[.bool p17, .string S17] 40
      rw [World.size_alloc] at this
      exact this
    clear C t C16 r17 d17 R17
    obtain rfl : S17 = dt mn := ES.out
    clear ES
    go_wp2_with fail
    generalize (w16.alloc (.cells #[.bool p16, .string S16] 40)).alloc (.cells #[.bool p17, .string (dt mn)] 40) = w17 at *
    generalize w16.heap.size = gl at *
    have K12 := hid (K11.out.go (Below.refl _ _).drew)
    have X12 := hid (X11.out.go (Below.refl _ _).drew)
    have Y12 := hid (Y11.out.go (Below.refl _ _).drew)
    have Q12 := hid (Q11.out.go (Below.refl _ _).drew)
    have R12 := hid (R11.out.go (Below.refl _ _).drew)
    have S12 := hid (S11.out.go (Below.refl _ _).drew)
    have T12 := hid (T11.out.go (Below.refl _ _).drew)
    have U12 := hid (U11.out.go (Below.refl _ _).drew)
    clear K11 X11 Y11 Q11 R11 S11 T11 U11
    have BM := hid (BL.out.go2 (Below.refl _ _).drew)
    have H0 : w17.drew.cell? ⟨gl + 1, 0, none⟩ = some (.bool p17) ∧ w17.drew.cell? ⟨gl + 1, 1, none⟩ = some (.string (dt mn)) := ⟨(Blk.two BM.out).1, (Blk.two BM.out).2.1⟩
    clear BL
    go_region_held3 (fun W => W.cell? ⟨gl + 1, 0, none⟩ = some (.bool p17) ∧ W.cell? ⟨gl + 1, 1, none⟩ = some (.string (dt mn))) (first | exact H0 | exact H1) (first
      | (go_at_call 14; go_must (refine (rword_any mn w17.drew hmn).mono ?_; rintro e w18 ⟨rfl, C⟩; have BN := hid (BM.out.go2 C); have H1 : w18.cell? ⟨gl + 1, 0, none⟩ = some (.bool p17) ∧ w18.cell? ⟨gl + 1, 1, none⟩ = some (.string (dt mn)) := ⟨(Blk.two BN.out).1, (Blk.two BN.out).2.1⟩; have K13 := hid (K12.out.go C); have X13 := hid (X12.out.go C); have Y13 := hid (Y12.out.go C); have Q13 := hid (Q12.out.go C); have R13 := hid (R12.out.go C); have S13 := hid (S12.out.go C); have T13 := hid (T12.out.go C); have U13 := hid (U12.out.go C); clear K12 X12 Y12 Q12 R12 S12 T12 U12; clear C)))
    clear H0 H1 BM BN
    obtain ⟨ka, kb, kc, kd⟩ := K13.out.cells
    go_wp2_with fail
    clear ka kb kc kd
    refine (plain_ri nb ab m cb xb ob _ K13.out.sb (by omega)).mono ?_
    rintro e w20 ⟨⟨ng2, SB, rfl, rb, sb⟩, C⟩
    rw [← EB.out] at rb
    have RB := hid rb
    have ZB := hid sb
    have K14 := hid (K13.out.go C)
    have X14 := hid (X13.out.go C)
    have Y14 := hid (Y13.out.go C)
    have Q14 := hid (Q13.out.go C)
    have R14 := hid (R13.out.go C)
    have S14 := hid (S13.out.go C)
    have T14 := hid (T13.out.go C)
    have U14 := hid (U13.out.go C)
    clear K13 X13 Y13 Q13 R13 S13 T13 U13
    clear C rb sb
    go_wp2_with fail
    refine (rsign_any ng2 SB B _ RB.out).mono ?_
    rintro e w21 ⟨rfl, C⟩
    have K15 := hid (K14.out.go C)
    have X15 := hid (X14.out.go C)
    have Y15 := hid (Y14.out.go C)
    have Q15 := hid (Q14.out.go C)
    have R15 := hid (R14.out.go C)
    have S15 := hid (S14.out.go C)
    have T15 := hid (T14.out.go C)
    have U15 := hid (U14.out.go C)
    clear K14 X14 Y14 Q14 R14 S14 T14 U14
    clear C
    have sb1 := sgn_nz hB
    have sb2 : (sgn B == 0) = false := by simpa using sb1
    generalize sgn B = sb at *
    obtain ⟨ka, kb, kc, kd⟩ := K15.out.cells
    go_wp2_with fail
    clear ka kb kc kd
    clear sb1 sb2
    have KD := hid (K15.out.go (Below.refl _ _).drew)
    refine wp_region_each (by kernel_rfl) (fun s => ⟨#[_, _, _, _, _, _, _, _, _, _, _, _, _, _, _, _, _, _, _, _, _, s 8, s 9, _, _, _, _, _, _, _, _, _, _, _, _, _, _, _, _, _, _, _, _, _, _, _, _, _, _, _, _, _, _, _, _, _, _, _, _, _, _, _, _, _, _, _, _, _, _, _, _, _, _, _, _, _, _, _, _, _, _, _, _, _, _, _, _, _, _, _, _, _, _, _, _, _, _, _, _, _, _, _, _, _, _, _, _, _, _, _, _, _, _, _, _, _, _, _, _, _, _, _, _, _, _, _, _, _, _, _, _, _, _, _, s 5, s 0, s 1, s 2, s 3, s 4, s 6, s 7, _, _, _, _, _, _, _, _, _, _, _, _, _, _, _, _, _, _, _, _, _, _, _, _, _, _, _, _, _, _, _, _, _, _, _, _, _, _, _, _, _, _, _, _, _, _, _, _, _, _, _, _, _, _, _], []⟩)
      (RR (.agg #[.bool na, .slice aa n ca]) (.agg #[.bool nb, .slice ab m cb]) A B Q R w21.drew.heap.size) (CR w21.drew) (by kernel_rfl) ?_ ?_ (fun _ => undef) _ _ rfl ?_
    · refine ⟨?_, ?_, ?_, ?_, ?_, ?_, ?_, ?_, ?_, ?_, ?_, ?_, trivial⟩
      · intro s w hC hd K hK
        obtain ⟨ka, kb, kc, kd⟩ := (KD.out.go hC.old).cells
        have HC := hid hC
        clear hC hd
        go_simp
        exact hK _ _ (HC.out.put (by decide) (by decide)) (upd_same _ _ _) (fun j _ hj _ hr => RR.put j hj (fun _ => by decide) (fun _ => by decide) hr)
      · intro s w hC hd K hK
        obtain ⟨d0, _⟩ := hd
        have E0 : Hid (s 0 = _) := d0 rfl
        have HC := hid hC
        clear hC d0
        have CT := plain_ri na aa n ca xa oa w (KD.out.go HC.out.old).sa (by omega)
        rw [← E0.out] at CT
        have CT' := hid CT
        clear CT
        go_simp
        refine CT'.out.mono ?_
        rintro e w' ⟨⟨ng, S, rfl, ra, sq⟩, B1⟩
        clear sq
        rw [← EA.out] at ra
        have RA1 := hid ra
        clear ra
        go_simp
        exact hK _ _ ((HC.out.go B1).put (by decide) (by decide)) ((upd_same _ _ _).trans (rv_of RA1.out)) (fun j _ hj _ hr => RR.put j hj (fun _ => by decide) (fun _ => by decide) (RR.below B1 j hr))
      · intro s w hC hd K hK
        obtain ⟨ka, kb, kc, kd⟩ := (KD.out.go hC.old).cells
        have HC := hid hC
        clear hC hd
        go_simp
        exact hK _ _ (HC.out.put (by decide) (by decide)) (upd_same _ _ _) (fun j _ hj _ hr => RR.put j hj (fun _ => by decide) (fun _ => by decide) hr)
      · intro s w hC hd K hK
        obtain ⟨d0, _⟩ := hd
        have E0 : Hid (s 2 = _) := d0 rfl
        have HC := hid hC
        clear hC d0
        have CT := plain_ri nb ab m cb xb ob w (KD.out.go HC.out.old).sb (by omega)
        rw [← E0.out] at CT
        have CT' := hid CT
        clear CT
        go_simp
        refine CT'.out.mono ?_
        rintro e w' ⟨⟨ng, S, rfl, ra, sq⟩, B1⟩
        clear sq
        rw [← EB.out] at ra
        have RA1 := hid ra
        clear ra
        go_simp
        exact hK _ _ ((HC.out.go B1).put (by decide) (by decide)) ((upd_same _ _ _).trans (rv_of RA1.out)) (fun j _ hj _ hr => RR.put j hj (fun _ => by decide) (fun _ => by decide) (RR.below B1 j hr))
      · intro s w hC hd K hK
        obtain ⟨d1, d3, _⟩ := hd
        have E1 : Hid (s 1 = rv A) := d1 rfl
        have E3 : Hid (s 3 = rv B) := d3 rfl
        have HC := hid hC
        clear hC d1 d3
        have CT : Calls Tryz.prog 17 #[rv A, rv B] w _ := rquo_any _ _ A _ _ B w (ri_rv A) (ri_rv B) (by have := SZA.out; omega) (by have := SZB.out; omega) hB
        rw [← E1.out, ← E3.out] at CT
        have CT' := hid CT
        clear CT
        go_simp
        refine CT'.out.mono ?_
        rintro e w' ⟨⟨p1, S1, p2, S2, Q', R', rfl, r1, r2, dq, _, _⟩, B1⟩
        obtain ⟨eQ, eR⟩ := quo_one hB DQ.out dq
        have EV : Hid (Value.tuple #[.agg #[.bool p1, .string S1], .agg #[.bool p2, .string S2]] = .tuple #[rv Q, rv R]) := by show _ = _; rw [rv_of r1, rv_of r2, ← eQ, ← eR]
        clear dq r1 r2 eQ eR
        go_simp
        exact hK _ _ ((HC.out.go B1).put (by decide) (by decide)) ((upd_same _ _ _).trans EV.out) (fun j _ hj _ hr => RR.put j hj (fun _ => by decide) (fun _ => by decide) (RR.below B1 j hr))
      · intro s w hC hd K hK
        obtain ⟨d4, _⟩ := hd
        have E4 : Hid (s 4 = _) := d4 rfl
        clear d4
        go_simp
        exact hK _ _ (hC.put (by decide) (by decide)) ((upd_same _ _ _).trans E4.out) (fun j _ hj _ hr => RR.put j hj (fun _ => by decide) (fun _ => by decide) hr)
      · intro s w hC hd K hK
        obtain ⟨d5, _⟩ := hd
        have e5 : s 5 = .tuple #[rv Q, rv R] := d5 rfl
        clear d5
        go_simp
        rw [← e5]
        exact hK _ _ (hC.put (by decide) (by decide)) (upd_same _ _ _) (fun j _ hj _ hr => RR.put j hj (fun _ => by decide) (fun _ => by decide) hr)
      · intro s w hC hd K hK
        obtain ⟨d5, _⟩ := hd
        have e5 : s 5 = .tuple #[rv Q, rv R] := d5 rfl
        clear d5
        go_simp
        rw [← e5]
        exact hK _ _ (hC.put (by decide) (by decide)) (upd_same _ _ _) (fun j _ hj _ hr => RR.put j hj (fun _ => by decide) (fun _ => by decide) hr)
      · intro s w hC hd K hK
        clear hd
        go_simp
        exact hK _ _ hC.new8 (by show RVar _ (upd s 8 _ 8) _; rw [upd_same]; exact rvar_new hC.old.size) (fun j _ hj hw hr => RR.put j hj (fun e => by subst e; exact absurd hw (by decide)) (fun _ => by decide) (RR.below (below_new w _) j hr))
      · intro s w hC hd K hK
        clear hd
        go_simp
        exact hK _ _ hC.new9 (by show RVar _ (upd s 9 _ 9) _; rw [upd_same]; exact rvar_new hC.old.size) (fun j _ hj hw hr => RR.put j hj (fun _ => by decide) (fun e => by subst e; exact absurd hw (by decide)) (RR.below (below_new w _) j hr))
      · intro s w hC hd K hK
        obtain ⟨d8, d6, _⟩ := hd
        obtain ⟨g, p, S, e8, hg, hv⟩ := (show RVar w (s 8) _ from d8 rfl)
        have e6 : s 6 = rv Q := d6 rfl
        unfold rv at e6
        have HC := hid hC
        have HV := hid hv
        obtain ⟨f0, f1, f2, f3, f4⟩ := Blk.two hv
        clear d8 d6 hC hv
        go_simp
        rw [← e8, ← e6]
        exact hK undef (setr w g (decide (Q < 0)) (dt Q.natAbs)) ((HC.out.set HV.out hg).put (by decide) (by decide)) ⟨g, (upd_other s (i := 10) (j := 8) undef (by decide)).trans e8, Blk.set2 HV.out⟩ (fun j _ hj hw hr => RR.put j hj (fun _ => by decide) (fun _ => by decide) (RR.set HV.out j (fun e => absurd e hj) (fun e => by subst e; exact absurd hw (by decide)) hr))
      · intro s w hC hd K hK
        obtain ⟨d8, d6, _⟩ := hd
        obtain ⟨g, p, S, e8, hg, hv⟩ := (show RVar w (s 9) _ from d8 rfl)
        have e6 : s 7 = rv R := d6 rfl
        unfold rv at e6
        have HC := hid hC
        have HV := hid hv
        obtain ⟨f0, f1, f2, f3, f4⟩ := Blk.two hv
        clear d8 d6 hC hv
        go_simp
        rw [← e8, ← e6]
        exact hK undef (setr w g (decide (R < 0)) (dt R.natAbs)) ((HC.out.set HV.out hg).put (by decide) (by decide)) ⟨g, (upd_other s (i := 11) (j := 9) undef (by decide)).trans e8, Blk.set2 HV.out⟩ (fun j _ hj hw hr => RR.put j hj (fun _ => by decide) (fun _ => by decide) (RR.set HV.out j (fun _ e => HC.out.two g e e8) (fun e => absurd e hj) hr))
    rotate_left
    · exact ⟨Below.refl _ _, Or.inl rfl, Or.inl rfl, fun _ h => absurd h undef_ne⟩
    intro s w22 hC hR
    obtain ⟨gv, e8, bv⟩ := (show RHold w22 (s 8) Q from hR 10 (by decide))
    obtain ⟨gz, e9, bz⟩ := (show RHold w22 (s 9) R from hR 11 (by decide))
    have hvz : gv ≠ gz := fun e => hC.two gv e8 (by rw [e9, e])
    have BV0 : Hid (RBk gv Q w22) := ⟨bv⟩
    have BZ0 : Hid (RBk gz R w22) := ⟨bz⟩
    have C := hC.old
    obtain ⟨g1, _, _, x1, y1, _⟩ := (show RVar w22 (s 8) _ from hR 8 (by decide))
    obtain ⟨g2, _, _, x2, y2, _⟩ := (show RVar w22 (s 9) _ from hR 9 (by decide))
    have lv : w.heap.size ≤ gv := by rw [x1] at e8; simp at e8; subst e8; exact Nat.le_trans KD.out.old.size y1
    have lz : w.heap.size ≤ gz := by rw [x2] at e9; simp at e9; subst e9; exact Nat.le_trans KD.out.old.size y2
    clear x1 y1 x2 y2
    have KE := hid (KD.out.go C)
    clear KD
    have K16 := hid KE.out
    clear KE K15
    have X16 := hid (X15.out.go (bt (Below.refl _ _).drew C))
    clear X15
    have Y16 := hid (Y15.out.go (bt (Below.refl _ _).drew C))
    clear Y15
    have Q16 := hid (Q15.out.go (bt (Below.refl _ _).drew C))
    clear Q15
    have R16 := hid (R15.out.go (bt (Below.refl _ _).drew C))
    clear R15
    have S16 := hid (S15.out.go (bt (Below.refl _ _).drew C))
    clear S15
    have T16 := hid (T15.out.go (bt (Below.refl _ _).drew C))
    clear T15
    have U16 := hid (U15.out.go (bt (Below.refl _ _).drew C))
    clear U15
    simp only [e8, e9]
    clear e8 e9 hC hR C bv bz
    obtain ⟨Qa, Qb, Qc, Qd, Qe⟩ := Var.facts Q16.out.var
    obtain ⟨Ra, Rb, Rc, Rd, Re⟩ := Var.facts R16.out.var
    obtain ⟨BVa, BVb, BVc, BVd, BVe⟩ := Blk.two BV0.out.blk
    obtain ⟨BZa, BZb, BZc, BZd, BZe⟩ := Blk.two BZ0.out.blk
    go_wp2_with fail
    clear Qa Qb Qc Qd Qe Ra Rb Rc Rd Re BVa BVb BVc BVd BVe BZa BZb BZc BZd BZe
    refine (is_ri _ n Q _ _ _ Q16.out.num (by omega) (by have := Q16.out.num.len; omega) K16.out.tab (ri_rv Q)).mono ?_
    rintro e w23 ⟨rfl, C⟩
    have K17 := hid (K16.out.go C)
    have X17 := hid (X16.out.go C)
    have Y17 := hid (Y16.out.go C)
    have Q17 := hid (Q16.out.go C)
    have R17 := hid (R16.out.go C)
    have S17 := hid (S16.out.go C)
    have T17 := hid (T16.out.go C)
    have U17 := hid (U16.out.go C)
    have BV17 := hid (BV0.out.go C)
    have BZ17 := hid (BZ0.out.go C)
    clear K16 X16 Y16 Q16 R16 S16 T16 U16 BV0 BZ0
    clear C
    obtain ⟨Qa, Qb, Qc, Qd, Qe⟩ := Var.facts Q17.out.var
    obtain ⟨Ra, Rb, Rc, Rd, Re⟩ := Var.facts R17.out.var
    obtain ⟨BVa, BVb, BVc, BVd, BVe⟩ := Blk.two BV17.out.blk
    obtain ⟨BZa, BZb, BZc, BZd, BZe⟩ := Blk.two BZ17.out.blk
    go_wp2_with fail
    clear Qa Qb Qc Qd Qe Ra Rb Rc Rd Re BVa BVb BVc BVd BVe BZa BZb BZc BZd BZe
    refine (is_ri _ (max n m) R _ _ _ R17.out.num (by omega) (by have := R17.out.num.len; omega) K17.out.tab (ri_rv R)).mono ?_
    rintro e w24 ⟨rfl, C⟩
    have K18 := hid (K17.out.go C)
    have X18 := hid (X17.out.go C)
    have Y18 := hid (Y17.out.go C)
    have Q18 := hid (Q17.out.go C)
    have R18 := hid (R17.out.go C)
    have S18 := hid (S17.out.go C)
    have T18 := hid (T17.out.go C)
    have U18 := hid (U17.out.go C)
    have BV18 := hid (BV17.out.go C)
    have BZ18 := hid (BZ17.out.go C)
    clear K17 X17 Y17 Q17 R17 S17 T17 U17 BV17 BZ17
    clear C
    obtain ⟨BVa, BVb, BVc, BVd, BVe⟩ := Blk.two BV18.out.blk
    obtain ⟨BZa, BZb, BZc, BZd, BZe⟩ := Blk.two BZ18.out.blk
    go_wp2_with fail
    clear BVa BVb BVc BVd BVe BZa BZb BZc BZd BZe
    refine (rsign_any _ _ R _ (ri_rv R)).mono ?_
    rintro e w25 ⟨rfl, C⟩
    have K19 := hid (K18.out.go C)
    have X19 := hid (X18.out.go C)
    have Y19 := hid (Y18.out.go C)
    have Q19 := hid (Q18.out.go C)
    have R19 := hid (R18.out.go C)
    have S19 := hid (S18.out.go C)
    have T19 := hid (T18.out.go C)
    have U19 := hid (U18.out.go C)
    have BV19 := hid (BV18.out.go C)
    have BZ19 := hid (BZ18.out.go C)
    clear K18 X18 Y18 Q18 R18 S18 T18 U18 BV18 BZ18
    clear C
    have sz : sgn R = 0 := by rw [HR0.out]; rfl
    rw [sz]
    obtain ⟨Ua, Ub, Uc, Ud, Ue⟩ := Var.facts U19.out.var
    obtain ⟨BVa, BVb, BVc, BVd, BVe⟩ := Blk.two BV19.out.blk
    go_wp2_with fail
    clear Ua Ub Uc Ud Ue BVa BVb BVc BVd BVe
    clear sz
    refine (is_ri _ n Q _ _ _ U19.out.num (by omega) (by have := U19.out.num.len; omega) K19.out.tab (ri_rv Q)).mono ?_
    rintro e w26 ⟨rfl, C⟩
    have K20 := hid (K19.out.go C)
    have X20 := hid (X19.out.go C)
    have Y20 := hid (Y19.out.go C)
    have Q20 := hid (Q19.out.go C)
    have R20 := hid (R19.out.go C)
    have S20 := hid (S19.out.go C)
    have T20 := hid (T19.out.go C)
    have U20 := hid (U19.out.go C)
    have BV20 := hid (BV19.out.go C)
    have BZ20 := hid (BZ19.out.go C)
    clear K19 X19 Y19 Q19 R19 S19 T19 U19 BV19 BZ19
    clear C
    obtain ⟨ka, kb, kc, kd⟩ := K20.out.cells
    obtain ⟨BVa, BVb, BVc, BVd, BVe⟩ := Blk.two BV20.out.blk
    obtain ⟨BZa, BZb, BZc, BZd, BZe⟩ := Blk.two BZ20.out.blk
    go_wp2_with fail
    clear ka kb kc kd BVa BVb BVc BVd BVe BZa BZb BZc BZd BZe
    clear X20
    clear Y20
    clear Q20
    clear R20
    clear U20
    have K21 := hid (K20.out.go (Below.refl _ _).drew)
    have S21 := hid (S20.out.go (Below.refl _ _).drew)
    have T21 := hid (T20.out.go (Below.refl _ _).drew)
    have BV21 := hid (BV20.out.go (Below.refl _ _).drew)
    have BZ21 := hid (BZ20.out.go (Below.refl _ _).drew)
    clear K20 S20 T20 BV20 BZ20
    have H0 := K21.out.cells
    go_region_held3 (fun W => W.cell? ⟨g, 0, none⟩ = some (.bool na) ∧ W.cell? ⟨g, 1, none⟩ = some (.slice aa n ca) ∧ W.cell? ⟨g + 1, 0, none⟩ = some (.bool nb) ∧ W.cell? ⟨g + 1, 1, none⟩ = some (.slice ab m cb)) (first | with_reducible exact H0 | with_reducible exact H1 | with_reducible exact H2 | with_reducible exact H3 | with_reducible exact HE | with_reducible exact HF) (first
      | (go_at_call_of 13 aa; go_must (refine (plain_ri na aa n ca xa oa w26.drew K21.out.sa (by omega)).mono ?_; rintro e w27 ⟨⟨ng, S5, rfl, ra, sq⟩, C⟩; clear sq; rw [← EA.out] at ra; obtain ⟨rfl, rfl⟩ := ra; have K22 := hid (K21.out.go C); have S22 := hid (S21.out.go C); have T22 := hid (T21.out.go C); have BV22 := hid (BV21.out.go C); have BZ22 := hid (BZ21.out.go C); clear K21 S21 T21 BV21 BZ21; have H1 := K22.out.cells; clear C))
      | (go_at_call_of 13 ab; go_must (refine (plain_ri nb ab m cb xb ob w27 K22.out.sb (by omega)).mono ?_; rintro e w28 ⟨⟨ng, S5, rfl, ra, sq⟩, C⟩; clear sq; rw [← EB.out] at ra; obtain ⟨rfl, rfl⟩ := ra; have K23 := hid (K22.out.go C); have S23 := hid (S22.out.go C); have T23 := hid (T22.out.go C); have BV23 := hid (BV22.out.go C); have BZ23 := hid (BZ22.out.go C); clear K22 S22 T22 BV22 BZ22; have H2 := K23.out.cells; clear C))
      | (go_at_call 12; go_must (refine (rdivm_any _ _ A _ _ B w28 (ri_rv A) (ri_rv B) (by have := SZA.out; omega) (by have := SZB.out; omega) hB).mono ?_; rintro e w29 ⟨⟨p5, S5, p6, S6, Q5, R5, rfl, r5, r6, dd⟩, C⟩; obtain ⟨eQ, eR⟩ := div_one hB DD.out dd; subst eQ eR; obtain ⟨rfl, rfl⟩ := r5; obtain ⟨rfl, rfl⟩ := r6; have K24 := hid (K23.out.go C); have S24 := hid (S23.out.go C); have T24 := hid (T23.out.go C); have BV24 := hid (BV23.out.go C); have BZ24 := hid (BZ23.out.go C); clear K23 S23 T23 BV23 BZ23; have H3 := K24.out.cells; have O1 := hid (only_two gv w29 (.bool (decide (Q1 < 0))) (.string (dt Q1.natAbs))); have KX := hid (K24.out.setr HTW.out BV24.out.blk O1.out lv); have HE := KX.out.cells; have BY := hid (BZ24.out.blk.only O1.out (Ne.symm hvz)); have O2 := hid (only_two gz ((w29.setCell ⟨gv, 0, none⟩ (.bool (decide (Q1 < 0)))).setCell ⟨gv, 1, none⟩ (.string (dt Q1.natAbs))) (.bool (decide (R1 < 0))) (.string (dt R1.natAbs))); have KY := hid (KX.out.setr HTW.out BY.out O2.out lz); have HF := KY.out.cells; obtain ⟨va, vb, vc, vd, ve⟩ := Blk.two BV24.out.blk; obtain ⟨za, zb, zc, zd, ze⟩ := Blk.two BY.out; clear C dd)))
    have S99 := hid ((S24.out.setr BV24.out.blk O1.out).setr BY.out O2.out)
    have T99 := hid ((T24.out.setr BV24.out.blk O1.out).setr BY.out O2.out)
    have BV99 : Hid (RBk gv Q1 _) := ⟨(Blk.set2 BV24.out.blk).only O2.out hvz⟩
    have BZ99 : Hid (RBk gz R1 _) := ⟨Blk.set2 BY.out⟩
    have K99 := hid KY.out
    clear BV24 BZ24 S24 T24 KX KY BY O1 O2 H0 H1 H2 H3 HE HF va vb vc vd ve za zb zc zd ze K24
    generalize (((w29.setCell ⟨gv, 0, none⟩ (.bool (decide (Q1 < 0)))).setCell ⟨gv, 1, none⟩ (.string (dt Q1.natAbs))).setCell ⟨gz, 0, none⟩ (.bool (decide (R1 < 0)))).setCell ⟨gz, 1, none⟩ (.string (dt R1.natAbs)) = w30 at *
    obtain ⟨Sa, Sb, Sc, Sd, Se⟩ := Var.facts S99.out.var
    obtain ⟨Ta, Tb, Tc, Td, Te⟩ := Var.facts T99.out.var
    obtain ⟨BVa, BVb, BVc, BVd, BVe⟩ := Blk.two BV99.out.blk
    obtain ⟨BZa, BZb, BZc, BZd, BZe⟩ := Blk.two BZ99.out.blk
    go_wp2_with fail
    clear Sa Sb Sc Sd Se Ta Tb Tc Td Te BVa BVb BVc BVd BVe BZa BZb BZc BZd BZe
    refine (is_ri _ (n + 2) Q1 _ _ _ S99.out.num (by omega) (by have := S99.out.num.len; omega) K99.out.tab (ri_rv Q1)).mono ?_
    rintro e w31 ⟨rfl, C⟩
    have K101 := hid (K99.out.go C)
    have S101 := hid (S99.out.go C)
    have T101 := hid (T99.out.go C)
    have BV101 := hid (BV99.out.go C)
    have BZ101 := hid (BZ99.out.go C)
    clear K99 S99 T99 BV99 BZ99
    clear C
    obtain ⟨Ta, Tb, Tc, Td, Te⟩ := Var.facts T101.out.var
    obtain ⟨BZa, BZb, BZc, BZd, BZe⟩ := Blk.two BZ101.out.blk
    go_wp2_with fail
    clear Ta Tb Tc Td Te BZa BZb BZc BZd BZe
    refine (is_ri _ (max n m + 1) R1 _ _ _ T101.out.num (by omega) (by have := T101.out.num.len; omega) K101.out.tab (ri_rv R1)).mono ?_
    rintro e w32 ⟨rfl, C⟩
    have K102 := hid (K101.out.go C)
    have S102 := hid (S101.out.go C)
    have T102 := hid (T101.out.go C)
    have BV102 := hid (BV101.out.go C)
    have BZ102 := hid (BZ101.out.go C)
    clear K101 S101 T101 BV101 BZ101
    clear C
    go_wp2_with fail
    refine (awake_any _ K102.out.tab).mono ?_
    rintro e w33 ⟨rfl, C⟩
    have K103 := hid (K102.out.go C)
    have S103 := hid (S102.out.go C)
    have T103 := hid (T102.out.go C)
    have BV103 := hid (BV102.out.go C)
    have BZ103 := hid (BZ102.out.go C)
    clear K102 S102 T102 BV102 BZ102
    clear C
    go_wp2
    go_ret
    exact ⟨rfl, hg ▸ K103.out.old⟩
set_option maxHeartbeats 3200000 in
set_option maxRecDepth 100000 in
theorem divides_b (na : Bool) (aa : Option Addr) (n ca : Nat) (xa : Nat → Int) (oa : Nat) (nb : Bool) (ab : Option Addr) (m cb : Nat) (xb : Nat → Int) (ob : Nat) (u : Nat) (A B : Int) (w : World)
    (ha : Sl w (.slice aa n ca) n xa oa) (hb : Sl w (.slice ab m cb) m xb ob) (hn : n ≤ 8) (hm : m ≤ 8) (ht : Tab w) (hA : A = sg na (V xa oa n)) (hBB : B = sg nb (V xb ob m)) (_hu : u ≤ 18446744073709551615) (hB : B ≠ 0) (_hU : u = 0) :
    Calls Tryz.prog 3 #[.agg #[.bool na, .slice aa n ca], .agg #[.bool nb, .slice ab m cb], .int .u64 0] w fun e w' => e = .returned (.bool true) ∧ Below w.heap.size w w' := by
  have h0 : Below w.heap.size w ((w.alloc (.cells #[.bool na, .slice aa n ca] 25)).alloc (.cells #[.bool nb, .slice ab m cb] 25)) := bt (below_new w _) (below_new _ _)
  have K0 : Hid (Two w w.heap.size na aa n ca xa oa nb ab m cb xb ob ((w.alloc (.cells #[.bool na, .slice aa n ca] 25)).alloc (.cells #[.bool nb, .slice ab m cb] 25))) := by
    refine ⟨h0, Blk.go2 (Blk.new _ _ _) (below_new _ _), ?_, ha.below h0, hb.below h0, ht.below h0 ht.lt⟩
    have := Blk.new (w.alloc (.cells #[.bool na, .slice aa n ca] 25)) #[.bool nb, .slice ab m cb] 25
    rw [World.size_alloc] at this
    exact this
  have FA := hid (few_any na aa n ca)
  have FB := hid (few_any nb ab m cb)
  have EA := hid hA
  have EB := hid hBB
  have HTW := hid ht
  have a0 := V_bd n ha.wd
  have b0 := V_bd m hb.wd
  have LA := hid (len_of (u := (V xa oa n).toNat) (k := n) (by have := a0; omega))
  have LB := hid (len_of (u := (V xb ob m).toNat) (k := m) (by have := b0; omega))
  have LU := hid (len_of (u := u) (k := 1) (by show (u : Int) < P 1; rw [show P 1 = 18446744073709551616 by decide +kernel]; omega))
  rw [← dt_size] at LA LB LU
  have SZA : Hid ((dt A.natAbs).size ≤ 90000) := by
    show _ ≤ _
    have e : A.natAbs = (V xa oa n).toNat := by rw [hA]; cases na <;> simp only [sg, if_true, Bool.false_eq_true, if_false] <;> omega
    rw [e]
    have := LA.out
    omega
  have SZB : Hid ((dt B.natAbs).size ≤ 90000) := by
    show _ ≤ _
    have e : B.natAbs = (V xb ob m).toNat := by rw [hBB]; cases nb <;> simp only [sg, if_true, Bool.false_eq_true, if_false] <;> omega
    rw [e]
    have := LB.out
    omega
  rw [decide_eq_true hn] at FA
  rw [decide_eq_true hm] at FB
  clear h0 ha hb ht hA hBB a0 b0
  go_enter Tryz.func3, Tryz.ntmps3
  go_wp2_with fail
  generalize (w.alloc (.cells #[.bool na, .slice aa n ca] 25)).alloc (.cells #[.bool nb, .slice ab m cb] 25) = wa at *
  generalize hg : w.heap.size = g at *
  refine (FA.out _).mono ?_
  rintro e w1 ⟨rfl, C⟩
  have K1 := hid (K0.out.go C)
  clear K0
  clear C
  obtain ⟨ka, kb, kc, kd⟩ := K1.out.cells
  go_wp2_with fail
  clear ka kb kc kd
  refine (FB.out _).mono ?_
  rintro e w2 ⟨rfl, C⟩
  have K2 := hid (K1.out.go C)
  clear K1
  clear C
  obtain ⟨ka, kb, kc, kd⟩ := K2.out.cells
  go_wp2_with fail
  clear ka kb kc kd
  refine (lof_any na aa n ca xa oa _ K2.out.sa (by omega)).mono ?_
  rintro e w3 ⟨⟨v3, rfl, i3⟩, C⟩
  rw [← EA.out] at i3
  obtain ⟨px, ax, lx, cx, rfl⟩ := i3.shape
  have X0 := hid (VI.new i3)
  have C3 := bt C (below_new w3 (.cells #[.bool px, .slice ax lx cx] 30))
  have K3 := hid (K2.out.go C3)
  clear K2
  clear C i3 C3
  obtain ⟨ka, kb, kc, kd⟩ := K3.out.cells
  go_wp2_with fail
  clear ka kb kc kd
  generalize w3.alloc (.cells #[.bool px, .slice ax lx cx] 30) = w4 at *
  generalize w3.heap.size = gx at *
  refine (lof_any nb ab m cb xb ob _ K3.out.sb (by omega)).mono ?_
  rintro e w5 ⟨⟨v5, rfl, i5⟩, C⟩
  rw [← EB.out] at i5
  obtain ⟨py, ay, ly, cy, rfl⟩ := i5.shape
  have Y0 := hid (VI.new i5)
  have C5 := bt C (below_new w5 (.cells #[.bool py, .slice ay ly cy] 30))
  have K4 := hid (K3.out.go C5)
  have X4 := hid (X0.out.go C5)
  clear K3 X0
  clear C i5 C5
  obtain ⟨Xa, Xb, Xc, Xd, Xe⟩ := Var.facts X4.out.var
  obtain ⟨Ya, Yb, Yc, Yd, Ye⟩ := Var.facts Y0.out.var
  go_wp2_with fail
  clear Xa Xb Xc Xd Xe Ya Yb Yc Yd Ye
  generalize w5.alloc (.cells #[.bool py, .slice ay ly cy] 30) = w6 at *
  generalize w5.heap.size = gy at *
  refine (QuoRem_any _ _ n m A B _ X4.out.num Y0.out.num (by omega) (by omega) hB).mono ?_
  rintro e w7 ⟨v7, v8, Q, R, rfl, i7, i8, dq, C⟩
  obtain ⟨pq, aq, lq, cq, rfl⟩ := i7.shape
  obtain ⟨pr, ar, lr, cr, rfl⟩ := i8.shape
  obtain ⟨q0, r0, t⟩ := VI.two i7 i8
  have Q0 := hid q0
  have R0 := hid r0
  have DQ := hid dq
  have C7 := bt C t
  have K5 := hid (K4.out.go C7)
  have X5 := hid (X4.out.go C7)
  have Y5 := hid (Y0.out.go C7)
  clear K4 X4 Y0
  clear C i7 i8 q0 r0 t dq C7
  obtain ⟨Xa, Xb, Xc, Xd, Xe⟩ := Var.facts X5.out.var
  obtain ⟨Ya, Yb, Yc, Yd, Ye⟩ := Var.facts Y5.out.var
  go_wp2_with fail
  clear Xa Xb Xc Xd Xe Ya Yb Yc Yd Ye
  generalize (w7.alloc (.cells #[.bool pq, .slice aq lq cq] 30)).alloc (.cells #[.bool pr, .slice ar lr cr] 30) = w8 at *
  generalize w7.heap.size = gq at *
  refine (DivMod_any _ _ n m A B _ X5.out.num Y5.out.num (by omega) (by omega) hB).mono ?_
  rintro e w9 ⟨v9, v10, Q1, R1, rfl, i9, i10, dd, C⟩
  obtain ⟨ps, a3, ls, cs, rfl⟩ := i9.shape
  obtain ⟨pt, at1, lt, ct, rfl⟩ := i10.shape
  obtain ⟨s0, t0, t⟩ := VI.two i9 i10
  have S0 := hid s0
  have T0 := hid t0
  have DD := hid dd
  have C9 := bt C t
  have K6 := hid (K5.out.go C9)
  have X6 := hid (X5.out.go C9)
  have Y6 := hid (Y5.out.go C9)
  have Q6 := hid (Q0.out.go C9)
  have R6 := hid (R0.out.go C9)
  clear K5 X5 Y5 Q0 R0
  clear C i9 i10 s0 t0 t dd C9
  obtain ⟨Xa, Xb, Xc, Xd, Xe⟩ := Var.facts X6.out.var
  obtain ⟨Ya, Yb, Yc, Yd, Ye⟩ := Var.facts Y6.out.var
  go_wp2_with fail
  clear Xa Xb Xc Xd Xe Ya Yb Yc Yd Ye
  generalize (w9.alloc (.cells #[.bool ps, .slice a3 ls cs] 30)).alloc (.cells #[.bool pt, .slice at1 lt ct] 30) = w10 at *
  generalize w9.heap.size = gs at *
  refine (Exact_any _ _ n m A B _ X6.out.num Y6.out.num (by omega) (by omega) hB).mono ?_
  rintro e w11 ⟨⟨Q2, R2, dq2, hx⟩, C⟩
  obtain ⟨eQ, eR⟩ := quo_one hB DQ.out dq2
  subst eQ eR
  clear dq2
  rcases hx with ⟨hR, rfl⟩ | ⟨hR, v11, rfl, i11⟩
  · have HR0 := hid hR
    clear hR
    have i11 := it_zero w11
    have U0 := hid (VI.new i11)
    have C11 := bt C (below_new w11 (.cells #[.bool false, .slice none 0 0] 30))
    have K7 := hid (K6.out.go C11)
    have X7 := hid (X6.out.go C11)
    have Y7 := hid (Y6.out.go C11)
    have Q7 := hid (Q6.out.go C11)
    have R7 := hid (R6.out.go C11)
    have S7 := hid (S0.out.go C11)
    have T7 := hid (T0.out.go C11)
    clear K6 X6 Y6 Q6 R6 S0 T0
    clear C i11 C11
    obtain ⟨Xa, Xb, Xc, Xd, Xe⟩ := Var.facts X7.out.var
    go_wp2_with fail
    clear Xa Xb Xc Xd Xe
    generalize w11.alloc (.cells #[.bool false, .slice none 0 0] 30) = w12 at *
    generalize w11.heap.size = gu at *
    refine (Mod_zero _ n A _ X7.out.num).mono ?_
    rintro e w13 ⟨rfl, C⟩
    have K8 := hid (K7.out.go C)
    have X8 := hid (X7.out.go C)
    have Y8 := hid (Y7.out.go C)
    have Q8 := hid (Q7.out.go C)
    have R8 := hid (R7.out.go C)
    have S8 := hid (S7.out.go C)
    have T8 := hid (T7.out.go C)
    have U8 := hid (U0.out.go C)
    clear K7 X7 Y7 Q7 R7 S7 T7 U0
    clear C
    obtain ⟨ka, kb, kc, kd⟩ := K8.out.cells
    go_wp2_with fail
    clear ka kb kc kd
    refine (plain_ri nb ab m cb xb ob _ K8.out.sb (by omega)).mono ?_
    rintro e w20 ⟨⟨ng2, SB, rfl, rb, sb⟩, C⟩
    rw [← EB.out] at rb
    have RB := hid rb
    have ZB := hid sb
    have K9 := hid (K8.out.go C)
    have X9 := hid (X8.out.go C)
    have Y9 := hid (Y8.out.go C)
    have Q9 := hid (Q8.out.go C)
    have R9 := hid (R8.out.go C)
    have S9 := hid (S8.out.go C)
    have T9 := hid (T8.out.go C)
    have U9 := hid (U8.out.go C)
    clear K8 X8 Y8 Q8 R8 S8 T8 U8
    clear C rb sb
    go_wp2_with fail
    refine (rsign_any ng2 SB B _ RB.out).mono ?_
    rintro e w21 ⟨rfl, C⟩
    have K10 := hid (K9.out.go C)
    have X10 := hid (X9.out.go C)
    have Y10 := hid (Y9.out.go C)
    have Q10 := hid (Q9.out.go C)
    have R10 := hid (R9.out.go C)
    have S10 := hid (S9.out.go C)
    have T10 := hid (T9.out.go C)
    have U10 := hid (U9.out.go C)
    clear K9 X9 Y9 Q9 R9 S9 T9 U9
    clear C
    have sb1 := sgn_nz hB
    have sb2 : (sgn B == 0) = false := by simpa using sb1
    generalize sgn B = sb at *
    obtain ⟨ka, kb, kc, kd⟩ := K10.out.cells
    go_wp2_with fail
    clear ka kb kc kd
    clear sb1 sb2
    have KD := hid (K10.out.go (Below.refl _ _).drew)
    refine wp_region_each (by kernel_rfl) (fun s => ⟨#[_, _, _, _, _, _, _, _, _, _, _, _, _, _, _, _, _, _, _, _, _, s 8, s 9, _, _, _, _, _, _, _, _, _, _, _, _, _, _, _, _, _, _, _, _, _, _, _, _, _, _, _, _, _, _, _, _, _, _, _, _, _, _, _, _, _, _, _, _, _, _, _, _, _, _, _, _, _, _, _, _, _, _, _, _, _, _, _, _, _, _, _, _, _, _, _, _, _, _, _, _, _, _, _, _, _, _, _, _, _, _, _, _, _, _, _, _, _, _, _, _, _, _, _, _, _, _, _, _, _, _, _, _, _, _, _, s 5, s 0, s 1, s 2, s 3, s 4, s 6, s 7, _, _, _, _, _, _, _, _, _, _, _, _, _, _, _, _, _, _, _, _, _, _, _, _, _, _, _, _, _, _, _, _, _, _, _, _, _, _, _, _, _, _, _, _, _, _, _, _, _, _, _, _, _, _, _], []⟩)
      (RR (.agg #[.bool na, .slice aa n ca]) (.agg #[.bool nb, .slice ab m cb]) A B Q R w21.drew.heap.size) (CR w21.drew) (by kernel_rfl) ?_ ?_ (fun _ => undef) _ _ rfl ?_
    · refine ⟨?_, ?_, ?_, ?_, ?_, ?_, ?_, ?_, ?_, ?_, ?_, ?_, trivial⟩
      · intro s w hC hd K hK
        obtain ⟨ka, kb, kc, kd⟩ := (KD.out.go hC.old).cells
        have HC := hid hC
        clear hC hd
        go_simp
        exact hK _ _ (HC.out.put (by decide) (by decide)) (upd_same _ _ _) (fun j _ hj _ hr => RR.put j hj (fun _ => by decide) (fun _ => by decide) hr)
      · intro s w hC hd K hK
        obtain ⟨d0, _⟩ := hd
        have E0 : Hid (s 0 = _) := d0 rfl
        have HC := hid hC
        clear hC d0
        have CT := plain_ri na aa n ca xa oa w (KD.out.go HC.out.old).sa (by omega)
        rw [← E0.out] at CT
        have CT' := hid CT
        clear CT
        go_simp
        refine CT'.out.mono ?_
        rintro e w' ⟨⟨ng, S, rfl, ra, sq⟩, B1⟩
        clear sq
        rw [← EA.out] at ra
        have RA1 := hid ra
        clear ra
        go_simp
        exact hK _ _ ((HC.out.go B1).put (by decide) (by decide)) ((upd_same _ _ _).trans (rv_of RA1.out)) (fun j _ hj _ hr => RR.put j hj (fun _ => by decide) (fun _ => by decide) (RR.below B1 j hr))
      · intro s w hC hd K hK
        obtain ⟨ka, kb, kc, kd⟩ := (KD.out.go hC.old).cells
        have HC := hid hC
        clear hC hd
        go_simp
        exact hK _ _ (HC.out.put (by decide) (by decide)) (upd_same _ _ _) (fun j _ hj _ hr => RR.put j hj (fun _ => by decide) (fun _ => by decide) hr)
      · intro s w hC hd K hK
        obtain ⟨d0, _⟩ := hd
        have E0 : Hid (s 2 = _) := d0 rfl
        have HC := hid hC
        clear hC d0
        have CT := plain_ri nb ab m cb xb ob w (KD.out.go HC.out.old).sb (by omega)
        rw [← E0.out] at CT
        have CT' := hid CT
        clear CT
        go_simp
        refine CT'.out.mono ?_
        rintro e w' ⟨⟨ng, S, rfl, ra, sq⟩, B1⟩
        clear sq
        rw [← EB.out] at ra
        have RA1 := hid ra
        clear ra
        go_simp
        exact hK _ _ ((HC.out.go B1).put (by decide) (by decide)) ((upd_same _ _ _).trans (rv_of RA1.out)) (fun j _ hj _ hr => RR.put j hj (fun _ => by decide) (fun _ => by decide) (RR.below B1 j hr))
      · intro s w hC hd K hK
        obtain ⟨d1, d3, _⟩ := hd
        have E1 : Hid (s 1 = rv A) := d1 rfl
        have E3 : Hid (s 3 = rv B) := d3 rfl
        have HC := hid hC
        clear hC d1 d3
        have CT : Calls Tryz.prog 17 #[rv A, rv B] w _ := rquo_any _ _ A _ _ B w (ri_rv A) (ri_rv B) (by have := SZA.out; omega) (by have := SZB.out; omega) hB
        rw [← E1.out, ← E3.out] at CT
        have CT' := hid CT
        clear CT
        go_simp
        refine CT'.out.mono ?_
        rintro e w' ⟨⟨p1, S1, p2, S2, Q', R', rfl, r1, r2, dq, _, _⟩, B1⟩
        obtain ⟨eQ, eR⟩ := quo_one hB DQ.out dq
        have EV : Hid (Value.tuple #[.agg #[.bool p1, .string S1], .agg #[.bool p2, .string S2]] = .tuple #[rv Q, rv R]) := by show _ = _; rw [rv_of r1, rv_of r2, ← eQ, ← eR]
        clear dq r1 r2 eQ eR
        go_simp
        exact hK _ _ ((HC.out.go B1).put (by decide) (by decide)) ((upd_same _ _ _).trans EV.out) (fun j _ hj _ hr => RR.put j hj (fun _ => by decide) (fun _ => by decide) (RR.below B1 j hr))
      · intro s w hC hd K hK
        obtain ⟨d4, _⟩ := hd
        have E4 : Hid (s 4 = _) := d4 rfl
        clear d4
        go_simp
        exact hK _ _ (hC.put (by decide) (by decide)) ((upd_same _ _ _).trans E4.out) (fun j _ hj _ hr => RR.put j hj (fun _ => by decide) (fun _ => by decide) hr)
      · intro s w hC hd K hK
        obtain ⟨d5, _⟩ := hd
        have e5 : s 5 = .tuple #[rv Q, rv R] := d5 rfl
        clear d5
        go_simp
        rw [← e5]
        exact hK _ _ (hC.put (by decide) (by decide)) (upd_same _ _ _) (fun j _ hj _ hr => RR.put j hj (fun _ => by decide) (fun _ => by decide) hr)
      · intro s w hC hd K hK
        obtain ⟨d5, _⟩ := hd
        have e5 : s 5 = .tuple #[rv Q, rv R] := d5 rfl
        clear d5
        go_simp
        rw [← e5]
        exact hK _ _ (hC.put (by decide) (by decide)) (upd_same _ _ _) (fun j _ hj _ hr => RR.put j hj (fun _ => by decide) (fun _ => by decide) hr)
      · intro s w hC hd K hK
        clear hd
        go_simp
        exact hK _ _ hC.new8 (by show RVar _ (upd s 8 _ 8) _; rw [upd_same]; exact rvar_new hC.old.size) (fun j _ hj hw hr => RR.put j hj (fun e => by subst e; exact absurd hw (by decide)) (fun _ => by decide) (RR.below (below_new w _) j hr))
      · intro s w hC hd K hK
        clear hd
        go_simp
        exact hK _ _ hC.new9 (by show RVar _ (upd s 9 _ 9) _; rw [upd_same]; exact rvar_new hC.old.size) (fun j _ hj hw hr => RR.put j hj (fun _ => by decide) (fun e => by subst e; exact absurd hw (by decide)) (RR.below (below_new w _) j hr))
      · intro s w hC hd K hK
        obtain ⟨d8, d6, _⟩ := hd
        obtain ⟨g, p, S, e8, hg, hv⟩ := (show RVar w (s 8) _ from d8 rfl)
        have e6 : s 6 = rv Q := d6 rfl
        unfold rv at e6
        have HC := hid hC
        have HV := hid hv
        obtain ⟨f0, f1, f2, f3, f4⟩ := Blk.two hv
        clear d8 d6 hC hv
        go_simp
        rw [← e8, ← e6]
        exact hK undef (setr w g (decide (Q < 0)) (dt Q.natAbs)) ((HC.out.set HV.out hg).put (by decide) (by decide)) ⟨g, (upd_other s (i := 10) (j := 8) undef (by decide)).trans e8, Blk.set2 HV.out⟩ (fun j _ hj hw hr => RR.put j hj (fun _ => by decide) (fun _ => by decide) (RR.set HV.out j (fun e => absurd e hj) (fun e => by subst e; exact absurd hw (by decide)) hr))
      · intro s w hC hd K hK
        obtain ⟨d8, d6, _⟩ := hd
        obtain ⟨g, p, S, e8, hg, hv⟩ := (show RVar w (s 9) _ from d8 rfl)
        have e6 : s 7 = rv R := d6 rfl
        unfold rv at e6
        have HC := hid hC
        have HV := hid hv
        obtain ⟨f0, f1, f2, f3, f4⟩ := Blk.two hv
        clear d8 d6 hC hv
        go_simp
        rw [← e8, ← e6]
        exact hK undef (setr w g (decide (R < 0)) (dt R.natAbs)) ((HC.out.set HV.out hg).put (by decide) (by decide)) ⟨g, (upd_other s (i := 11) (j := 9) undef (by decide)).trans e8, Blk.set2 HV.out⟩ (fun j _ hj hw hr => RR.put j hj (fun _ => by decide) (fun _ => by decide) (RR.set HV.out j (fun _ e => HC.out.two g e e8) (fun e => absurd e hj) hr))
    rotate_left
    · exact ⟨Below.refl _ _, Or.inl rfl, Or.inl rfl, fun _ h => absurd h undef_ne⟩
    intro s w22 hC hR
    obtain ⟨gv, e8, bv⟩ := (show RHold w22 (s 8) Q from hR 10 (by decide))
    obtain ⟨gz, e9, bz⟩ := (show RHold w22 (s 9) R from hR 11 (by decide))
    have hvz : gv ≠ gz := fun e => hC.two gv e8 (by rw [e9, e])
    have BV0 : Hid (RBk gv Q w22) := ⟨bv⟩
    have BZ0 : Hid (RBk gz R w22) := ⟨bz⟩
    have C := hC.old
    obtain ⟨g1, _, _, x1, y1, _⟩ := (show RVar w22 (s 8) _ from hR 8 (by decide))
    obtain ⟨g2, _, _, x2, y2, _⟩ := (show RVar w22 (s 9) _ from hR 9 (by decide))
    have lv : w.heap.size ≤ gv := by rw [x1] at e8; simp at e8; subst e8; exact Nat.le_trans KD.out.old.size y1
    have lz : w.heap.size ≤ gz := by rw [x2] at e9; simp at e9; subst e9; exact Nat.le_trans KD.out.old.size y2
    clear x1 y1 x2 y2
    have KE := hid (KD.out.go C)
    clear KD
    have K11 := hid KE.out
    clear KE K10
    have X11 := hid (X10.out.go (bt (Below.refl _ _).drew C))
    clear X10
    have Y11 := hid (Y10.out.go (bt (Below.refl _ _).drew C))
    clear Y10
    have Q11 := hid (Q10.out.go (bt (Below.refl _ _).drew C))
    clear Q10
    have R11 := hid (R10.out.go (bt (Below.refl _ _).drew C))
    clear R10
    have S11 := hid (S10.out.go (bt (Below.refl _ _).drew C))
    clear S10
    have T11 := hid (T10.out.go (bt (Below.refl _ _).drew C))
    clear T10
    have U11 := hid (U10.out.go (bt (Below.refl _ _).drew C))
    clear U10
    simp only [e8, e9]
    clear e8 e9 hC hR C bv bz
    obtain ⟨Qa, Qb, Qc, Qd, Qe⟩ := Var.facts Q11.out.var
    obtain ⟨Ra, Rb, Rc, Rd, Re⟩ := Var.facts R11.out.var
    obtain ⟨BVa, BVb, BVc, BVd, BVe⟩ := Blk.two BV0.out.blk
    obtain ⟨BZa, BZb, BZc, BZd, BZe⟩ := Blk.two BZ0.out.blk
    go_wp2_with fail
    clear Qa Qb Qc Qd Qe Ra Rb Rc Rd Re BVa BVb BVc BVd BVe BZa BZb BZc BZd BZe
    refine (is_ri _ n Q _ _ _ Q11.out.num (by omega) (by have := Q11.out.num.len; omega) K11.out.tab (ri_rv Q)).mono ?_
    rintro e w23 ⟨rfl, C⟩
    have K12 := hid (K11.out.go C)
    have X12 := hid (X11.out.go C)
    have Y12 := hid (Y11.out.go C)
    have Q12 := hid (Q11.out.go C)
    have R12 := hid (R11.out.go C)
    have S12 := hid (S11.out.go C)
    have T12 := hid (T11.out.go C)
    have U12 := hid (U11.out.go C)
    have BV12 := hid (BV0.out.go C)
    have BZ12 := hid (BZ0.out.go C)
    clear K11 X11 Y11 Q11 R11 S11 T11 U11 BV0 BZ0
    clear C
    obtain ⟨Qa, Qb, Qc, Qd, Qe⟩ := Var.facts Q12.out.var
    obtain ⟨Ra, Rb, Rc, Rd, Re⟩ := Var.facts R12.out.var
    obtain ⟨BVa, BVb, BVc, BVd, BVe⟩ := Blk.two BV12.out.blk
    obtain ⟨BZa, BZb, BZc, BZd, BZe⟩ := Blk.two BZ12.out.blk
    go_wp2_with fail
    clear Qa Qb Qc Qd Qe Ra Rb Rc Rd Re BVa BVb BVc BVd BVe BZa BZb BZc BZd BZe
    refine (is_ri _ (max n m) R _ _ _ R12.out.num (by omega) (by have := R12.out.num.len; omega) K12.out.tab (ri_rv R)).mono ?_
    rintro e w24 ⟨rfl, C⟩
    have K13 := hid (K12.out.go C)
    have X13 := hid (X12.out.go C)
    have Y13 := hid (Y12.out.go C)
    have Q13 := hid (Q12.out.go C)
    have R13 := hid (R12.out.go C)
    have S13 := hid (S12.out.go C)
    have T13 := hid (T12.out.go C)
    have U13 := hid (U12.out.go C)
    have BV13 := hid (BV12.out.go C)
    have BZ13 := hid (BZ12.out.go C)
    clear K12 X12 Y12 Q12 R12 S12 T12 U12 BV12 BZ12
    clear C
    obtain ⟨BVa, BVb, BVc, BVd, BVe⟩ := Blk.two BV13.out.blk
    obtain ⟨BZa, BZb, BZc, BZd, BZe⟩ := Blk.two BZ13.out.blk
    go_wp2_with fail
    clear BVa BVb BVc BVd BVe BZa BZb BZc BZd BZe
    refine (rsign_any _ _ R _ (ri_rv R)).mono ?_
    rintro e w25 ⟨rfl, C⟩
    have K14 := hid (K13.out.go C)
    have X14 := hid (X13.out.go C)
    have Y14 := hid (Y13.out.go C)
    have Q14 := hid (Q13.out.go C)
    have R14 := hid (R13.out.go C)
    have S14 := hid (S13.out.go C)
    have T14 := hid (T13.out.go C)
    have U14 := hid (U13.out.go C)
    have BV14 := hid (BV13.out.go C)
    have BZ14 := hid (BZ13.out.go C)
    clear K13 X13 Y13 Q13 R13 S13 T13 U13 BV13 BZ13
    clear C
    have sr1 := sgn_nz HR0.out
    have sr2 : (sgn R == 0) = false := by simpa using sr1
    generalize sgn R = sr at *
    obtain ⟨Ua, Ub, Uc, Ud, Ue⟩ := Var.facts U14.out.var
    go_wp2_with fail
    clear Ua Ub Uc Ud Ue
    clear sr1 sr2
    refine (Sign_any _ _ _ _ U14.out.num).mono ?_
    rintro e w26 ⟨rfl, C⟩
    have K15 := hid (K14.out.go C)
    have X15 := hid (X14.out.go C)
    have Y15 := hid (Y14.out.go C)
    have Q15 := hid (Q14.out.go C)
    have R15 := hid (R14.out.go C)
    have S15 := hid (S14.out.go C)
    have T15 := hid (T14.out.go C)
    have U15 := hid (U14.out.go C)
    have BV15 := hid (BV14.out.go C)
    have BZ15 := hid (BZ14.out.go C)
    clear K14 X14 Y14 Q14 R14 S14 T14 U14 BV14 BZ14
    clear C
    have sz : sgn 0 = 0 := rfl
    rw [sz]
    obtain ⟨ka, kb, kc, kd⟩ := K15.out.cells
    obtain ⟨BVa, BVb, BVc, BVd, BVe⟩ := Blk.two BV15.out.blk
    obtain ⟨BZa, BZb, BZc, BZd, BZe⟩ := Blk.two BZ15.out.blk
    go_wp2_with fail
    clear ka kb kc kd BVa BVb BVc BVd BVe BZa BZb BZc BZd BZe
    clear X15
    clear Y15
    clear Q15
    clear R15
    clear U15
    have K16 := hid (K15.out.go (Below.refl _ _).drew)
    have S16 := hid (S15.out.go (Below.refl _ _).drew)
    have T16 := hid (T15.out.go (Below.refl _ _).drew)
    have BV16 := hid (BV15.out.go (Below.refl _ _).drew)
    have BZ16 := hid (BZ15.out.go (Below.refl _ _).drew)
    clear K15 S15 T15 BV15 BZ15
    have H0 := K16.out.cells
    go_region_held3 (fun W => W.cell? ⟨g, 0, none⟩ = some (.bool na) ∧ W.cell? ⟨g, 1, none⟩ = some (.slice aa n ca) ∧ W.cell? ⟨g + 1, 0, none⟩ = some (.bool nb) ∧ W.cell? ⟨g + 1, 1, none⟩ = some (.slice ab m cb)) (first | with_reducible exact H0 | with_reducible exact H1 | with_reducible exact H2 | with_reducible exact H3 | with_reducible exact HE | with_reducible exact HF) (first
      | (go_at_call_of 13 aa; go_must (refine (plain_ri na aa n ca xa oa w26.drew K16.out.sa (by omega)).mono ?_; rintro e w27 ⟨⟨ng, S5, rfl, ra, sq⟩, C⟩; clear sq; rw [← EA.out] at ra; obtain ⟨rfl, rfl⟩ := ra; have K17 := hid (K16.out.go C); have S17 := hid (S16.out.go C); have T17 := hid (T16.out.go C); have BV17 := hid (BV16.out.go C); have BZ17 := hid (BZ16.out.go C); clear K16 S16 T16 BV16 BZ16; have H1 := K17.out.cells; clear C))
      | (go_at_call_of 13 ab; go_must (refine (plain_ri nb ab m cb xb ob w27 K17.out.sb (by omega)).mono ?_; rintro e w28 ⟨⟨ng, S5, rfl, ra, sq⟩, C⟩; clear sq; rw [← EB.out] at ra; obtain ⟨rfl, rfl⟩ := ra; have K18 := hid (K17.out.go C); have S18 := hid (S17.out.go C); have T18 := hid (T17.out.go C); have BV18 := hid (BV17.out.go C); have BZ18 := hid (BZ17.out.go C); clear K17 S17 T17 BV17 BZ17; have H2 := K18.out.cells; clear C))
      | (go_at_call 12; go_must (refine (rdivm_any _ _ A _ _ B w28 (ri_rv A) (ri_rv B) (by have := SZA.out; omega) (by have := SZB.out; omega) hB).mono ?_; rintro e w29 ⟨⟨p5, S5, p6, S6, Q5, R5, rfl, r5, r6, dd⟩, C⟩; obtain ⟨eQ, eR⟩ := div_one hB DD.out dd; subst eQ eR; obtain ⟨rfl, rfl⟩ := r5; obtain ⟨rfl, rfl⟩ := r6; have K19 := hid (K18.out.go C); have S19 := hid (S18.out.go C); have T19 := hid (T18.out.go C); have BV19 := hid (BV18.out.go C); have BZ19 := hid (BZ18.out.go C); clear K18 S18 T18 BV18 BZ18; have H3 := K19.out.cells; have O1 := hid (only_two gv w29 (.bool (decide (Q1 < 0))) (.string (dt Q1.natAbs))); have KX := hid (K19.out.setr HTW.out BV19.out.blk O1.out lv); have HE := KX.out.cells; have BY := hid (BZ19.out.blk.only O1.out (Ne.symm hvz)); have O2 := hid (only_two gz ((w29.setCell ⟨gv, 0, none⟩ (.bool (decide (Q1 < 0)))).setCell ⟨gv, 1, none⟩ (.string (dt Q1.natAbs))) (.bool (decide (R1 < 0))) (.string (dt R1.natAbs))); have KY := hid (KX.out.setr HTW.out BY.out O2.out lz); have HF := KY.out.cells; obtain ⟨va, vb, vc, vd, ve⟩ := Blk.two BV19.out.blk; obtain ⟨za, zb, zc, zd, ze⟩ := Blk.two BY.out; clear C dd)))
    have S99 := hid ((S19.out.setr BV19.out.blk O1.out).setr BY.out O2.out)
    have T99 := hid ((T19.out.setr BV19.out.blk O1.out).setr BY.out O2.out)
    have BV99 : Hid (RBk gv Q1 _) := ⟨(Blk.set2 BV19.out.blk).only O2.out hvz⟩
    have BZ99 : Hid (RBk gz R1 _) := ⟨Blk.set2 BY.out⟩
    have K99 := hid KY.out
    clear BV19 BZ19 S19 T19 KX KY BY O1 O2 H0 H1 H2 H3 HE HF va vb vc vd ve za zb zc zd ze K19
    generalize (((w29.setCell ⟨gv, 0, none⟩ (.bool (decide (Q1 < 0)))).setCell ⟨gv, 1, none⟩ (.string (dt Q1.natAbs))).setCell ⟨gz, 0, none⟩ (.bool (decide (R1 < 0)))).setCell ⟨gz, 1, none⟩ (.string (dt R1.natAbs)) = w30 at *
    obtain ⟨Sa, Sb, Sc, Sd, Se⟩ := Var.facts S99.out.var
    obtain ⟨Ta, Tb, Tc, Td, Te⟩ := Var.facts T99.out.var
    obtain ⟨BVa, BVb, BVc, BVd, BVe⟩ := Blk.two BV99.out.blk
    obtain ⟨BZa, BZb, BZc, BZd, BZe⟩ := Blk.two BZ99.out.blk
    go_wp2_with fail
    clear Sa Sb Sc Sd Se Ta Tb Tc Td Te BVa BVb BVc BVd BVe BZa BZb BZc BZd BZe
    refine (is_ri _ (n + 2) Q1 _ _ _ S99.out.num (by omega) (by have := S99.out.num.len; omega) K99.out.tab (ri_rv Q1)).mono ?_
    rintro e w31 ⟨rfl, C⟩
    have K101 := hid (K99.out.go C)
    have S101 := hid (S99.out.go C)
    have T101 := hid (T99.out.go C)
    have BV101 := hid (BV99.out.go C)
    have BZ101 := hid (BZ99.out.go C)
    clear K99 S99 T99 BV99 BZ99
    clear C
    obtain ⟨Ta, Tb, Tc, Td, Te⟩ := Var.facts T101.out.var
    obtain ⟨BZa, BZb, BZc, BZd, BZe⟩ := Blk.two BZ101.out.blk
    go_wp2_with fail
    clear Ta Tb Tc Td Te BZa BZb BZc BZd BZe
    refine (is_ri _ (max n m + 1) R1 _ _ _ T101.out.num (by omega) (by have := T101.out.num.len; omega) K101.out.tab (ri_rv R1)).mono ?_
    rintro e w32 ⟨rfl, C⟩
    have K102 := hid (K101.out.go C)
    have S102 := hid (S101.out.go C)
    have T102 := hid (T101.out.go C)
    have BV102 := hid (BV101.out.go C)
    have BZ102 := hid (BZ101.out.go C)
    clear K101 S101 T101 BV101 BZ101
    clear C
    go_wp2_with fail
    refine (awake_any _ K102.out.tab).mono ?_
    rintro e w33 ⟨rfl, C⟩
    have K103 := hid (K102.out.go C)
    have S103 := hid (S102.out.go C)
    have T103 := hid (T102.out.go C)
    have BV103 := hid (BV102.out.go C)
    have BZ103 := hid (BZ102.out.go C)
    clear K102 S102 T102 BV102 BZ102
    clear C
    go_wp2
    go_ret
    exact ⟨rfl, hg ▸ K103.out.old⟩
  · have HR0 := hid hR
    clear hR
    obtain ⟨pu, au, lu, cu, rfl⟩ := i11.shape
    have U0 := hid (VI.new i11)
    have C11 := bt C (below_new w11 (.cells #[.bool pu, .slice au lu cu] 30))
    have K7 := hid (K6.out.go C11)
    have X7 := hid (X6.out.go C11)
    have Y7 := hid (Y6.out.go C11)
    have Q7 := hid (Q6.out.go C11)
    have R7 := hid (R6.out.go C11)
    have S7 := hid (S0.out.go C11)
    have T7 := hid (T0.out.go C11)
    clear K6 X6 Y6 Q6 R6 S0 T0
    clear C i11 C11
    obtain ⟨Xa, Xb, Xc, Xd, Xe⟩ := Var.facts X7.out.var
    go_wp2_with fail
    clear Xa Xb Xc Xd Xe
    generalize w11.alloc (.cells #[.bool pu, .slice au lu cu] 30) = w12 at *
    generalize w11.heap.size = gu at *
    refine (Mod_zero _ n A _ X7.out.num).mono ?_
    rintro e w13 ⟨rfl, C⟩
    have K8 := hid (K7.out.go C)
    have X8 := hid (X7.out.go C)
    have Y8 := hid (Y7.out.go C)
    have Q8 := hid (Q7.out.go C)
    have R8 := hid (R7.out.go C)
    have S8 := hid (S7.out.go C)
    have T8 := hid (T7.out.go C)
    have U8 := hid (U0.out.go C)
    clear K7 X7 Y7 Q7 R7 S7 T7 U0
    clear C
    obtain ⟨ka, kb, kc, kd⟩ := K8.out.cells
    go_wp2_with fail
    clear ka kb kc kd
    refine (plain_ri nb ab m cb xb ob _ K8.out.sb (by omega)).mono ?_
    rintro e w20 ⟨⟨ng2, SB, rfl, rb, sb⟩, C⟩
    rw [← EB.out] at rb
    have RB := hid rb
    have ZB := hid sb
    have K9 := hid (K8.out.go C)
    have X9 := hid (X8.out.go C)
    have Y9 := hid (Y8.out.go C)
    have Q9 := hid (Q8.out.go C)
    have R9 := hid (R8.out.go C)
    have S9 := hid (S8.out.go C)
    have T9 := hid (T8.out.go C)
    have U9 := hid (U8.out.go C)
    clear K8 X8 Y8 Q8 R8 S8 T8 U8
    clear C rb sb
    go_wp2_with fail
    refine (rsign_any ng2 SB B _ RB.out).mono ?_
    rintro e w21 ⟨rfl, C⟩
    have K10 := hid (K9.out.go C)
    have X10 := hid (X9.out.go C)
    have Y10 := hid (Y9.out.go C)
    have Q10 := hid (Q9.out.go C)
    have R10 := hid (R9.out.go C)
    have S10 := hid (S9.out.go C)
    have T10 := hid (T9.out.go C)
    have U10 := hid (U9.out.go C)
    clear K9 X9 Y9 Q9 R9 S9 T9 U9
    clear C
    have sb1 := sgn_nz hB
    have sb2 : (sgn B == 0) = false := by simpa using sb1
    generalize sgn B = sb at *
    obtain ⟨ka, kb, kc, kd⟩ := K10.out.cells
    go_wp2_with fail
    clear ka kb kc kd
    clear sb1 sb2
    have KD := hid (K10.out.go (Below.refl _ _).drew)
    refine wp_region_each (by kernel_rfl) (fun s => ⟨#[_, _, _, _, _, _, _, _, _, _, _, _, _, _, _, _, _, _, _, _, _, s 8, s 9, _, _, _, _, _, _, _, _, _, _, _, _, _, _, _, _, _, _, _, _, _, _, _, _, _, _, _, _, _, _, _, _, _, _, _, _, _, _, _, _, _, _, _, _, _, _, _, _, _, _, _, _, _, _, _, _, _, _, _, _, _, _, _, _, _, _, _, _, _, _, _, _, _, _, _, _, _, _, _, _, _, _, _, _, _, _, _, _, _, _, _, _, _, _, _, _, _, _, _, _, _, _, _, _, _, _, _, _, _, _, _, s 5, s 0, s 1, s 2, s 3, s 4, s 6, s 7, _, _, _, _, _, _, _, _, _, _, _, _, _, _, _, _, _, _, _, _, _, _, _, _, _, _, _, _, _, _, _, _, _, _, _, _, _, _, _, _, _, _, _, _, _, _, _, _, _, _, _, _, _, _, _], []⟩)
      (RR (.agg #[.bool na, .slice aa n ca]) (.agg #[.bool nb, .slice ab m cb]) A B Q R w21.drew.heap.size) (CR w21.drew) (by kernel_rfl) ?_ ?_ (fun _ => undef) _ _ rfl ?_
    · refine ⟨?_, ?_, ?_, ?_, ?_, ?_, ?_, ?_, ?_, ?_, ?_, ?_, trivial⟩
      · intro s w hC hd K hK
        obtain ⟨ka, kb, kc, kd⟩ := (KD.out.go hC.old).cells
        have HC := hid hC
        clear hC hd
        go_simp
        exact hK _ _ (HC.out.put (by decide) (by decide)) (upd_same _ _ _) (fun j _ hj _ hr => RR.put j hj (fun _ => by decide) (fun _ => by decide) hr)
      · intro s w hC hd K hK
        obtain ⟨d0, _⟩ := hd
        have E0 : Hid (s 0 = _) := d0 rfl
        have HC := hid hC
        clear hC d0
        have CT := plain_ri na aa n ca xa oa w (KD.out.go HC.out.old).sa (by omega)
        rw [← E0.out] at CT
        have CT' := hid CT
        clear CT
        go_simp
        refine CT'.out.mono ?_
        rintro e w' ⟨⟨ng, S, rfl, ra, sq⟩, B1⟩
        clear sq
        rw [← EA.out] at ra
        have RA1 := hid ra
        clear ra
        go_simp
        exact hK _ _ ((HC.out.go B1).put (by decide) (by decide)) ((upd_same _ _ _).trans (rv_of RA1.out)) (fun j _ hj _ hr => RR.put j hj (fun _ => by decide) (fun _ => by decide) (RR.below B1 j hr))
      · intro s w hC hd K hK
        obtain ⟨ka, kb, kc, kd⟩ := (KD.out.go hC.old).cells
        have HC := hid hC
        clear hC hd
        go_simp
        exact hK _ _ (HC.out.put (by decide) (by decide)) (upd_same _ _ _) (fun j _ hj _ hr => RR.put j hj (fun _ => by decide) (fun _ => by decide) hr)
      · intro s w hC hd K hK
        obtain ⟨d0, _⟩ := hd
        have E0 : Hid (s 2 = _) := d0 rfl
        have HC := hid hC
        clear hC d0
        have CT := plain_ri nb ab m cb xb ob w (KD.out.go HC.out.old).sb (by omega)
        rw [← E0.out] at CT
        have CT' := hid CT
        clear CT
        go_simp
        refine CT'.out.mono ?_
        rintro e w' ⟨⟨ng, S, rfl, ra, sq⟩, B1⟩
        clear sq
        rw [← EB.out] at ra
        have RA1 := hid ra
        clear ra
        go_simp
        exact hK _ _ ((HC.out.go B1).put (by decide) (by decide)) ((upd_same _ _ _).trans (rv_of RA1.out)) (fun j _ hj _ hr => RR.put j hj (fun _ => by decide) (fun _ => by decide) (RR.below B1 j hr))
      · intro s w hC hd K hK
        obtain ⟨d1, d3, _⟩ := hd
        have E1 : Hid (s 1 = rv A) := d1 rfl
        have E3 : Hid (s 3 = rv B) := d3 rfl
        have HC := hid hC
        clear hC d1 d3
        have CT : Calls Tryz.prog 17 #[rv A, rv B] w _ := rquo_any _ _ A _ _ B w (ri_rv A) (ri_rv B) (by have := SZA.out; omega) (by have := SZB.out; omega) hB
        rw [← E1.out, ← E3.out] at CT
        have CT' := hid CT
        clear CT
        go_simp
        refine CT'.out.mono ?_
        rintro e w' ⟨⟨p1, S1, p2, S2, Q', R', rfl, r1, r2, dq, _, _⟩, B1⟩
        obtain ⟨eQ, eR⟩ := quo_one hB DQ.out dq
        have EV : Hid (Value.tuple #[.agg #[.bool p1, .string S1], .agg #[.bool p2, .string S2]] = .tuple #[rv Q, rv R]) := by show _ = _; rw [rv_of r1, rv_of r2, ← eQ, ← eR]
        clear dq r1 r2 eQ eR
        go_simp
        exact hK _ _ ((HC.out.go B1).put (by decide) (by decide)) ((upd_same _ _ _).trans EV.out) (fun j _ hj _ hr => RR.put j hj (fun _ => by decide) (fun _ => by decide) (RR.below B1 j hr))
      · intro s w hC hd K hK
        obtain ⟨d4, _⟩ := hd
        have E4 : Hid (s 4 = _) := d4 rfl
        clear d4
        go_simp
        exact hK _ _ (hC.put (by decide) (by decide)) ((upd_same _ _ _).trans E4.out) (fun j _ hj _ hr => RR.put j hj (fun _ => by decide) (fun _ => by decide) hr)
      · intro s w hC hd K hK
        obtain ⟨d5, _⟩ := hd
        have e5 : s 5 = .tuple #[rv Q, rv R] := d5 rfl
        clear d5
        go_simp
        rw [← e5]
        exact hK _ _ (hC.put (by decide) (by decide)) (upd_same _ _ _) (fun j _ hj _ hr => RR.put j hj (fun _ => by decide) (fun _ => by decide) hr)
      · intro s w hC hd K hK
        obtain ⟨d5, _⟩ := hd
        have e5 : s 5 = .tuple #[rv Q, rv R] := d5 rfl
        clear d5
        go_simp
        rw [← e5]
        exact hK _ _ (hC.put (by decide) (by decide)) (upd_same _ _ _) (fun j _ hj _ hr => RR.put j hj (fun _ => by decide) (fun _ => by decide) hr)
      · intro s w hC hd K hK
        clear hd
        go_simp
        exact hK _ _ hC.new8 (by show RVar _ (upd s 8 _ 8) _; rw [upd_same]; exact rvar_new hC.old.size) (fun j _ hj hw hr => RR.put j hj (fun e => by subst e; exact absurd hw (by decide)) (fun _ => by decide) (RR.below (below_new w _) j hr))
      · intro s w hC hd K hK
        clear hd
        go_simp
        exact hK _ _ hC.new9 (by show RVar _ (upd s 9 _ 9) _; rw [upd_same]; exact rvar_new hC.old.size) (fun j _ hj hw hr => RR.put j hj (fun _ => by decide) (fun e => by subst e; exact absurd hw (by decide)) (RR.below (below_new w _) j hr))
      · intro s w hC hd K hK
        obtain ⟨d8, d6, _⟩ := hd
        obtain ⟨g, p, S, e8, hg, hv⟩ := (show RVar w (s 8) _ from d8 rfl)
        have e6 : s 6 = rv Q := d6 rfl
        unfold rv at e6
        have HC := hid hC
        have HV := hid hv
        obtain ⟨f0, f1, f2, f3, f4⟩ := Blk.two hv
        clear d8 d6 hC hv
        go_simp
        rw [← e8, ← e6]
        exact hK undef (setr w g (decide (Q < 0)) (dt Q.natAbs)) ((HC.out.set HV.out hg).put (by decide) (by decide)) ⟨g, (upd_other s (i := 10) (j := 8) undef (by decide)).trans e8, Blk.set2 HV.out⟩ (fun j _ hj hw hr => RR.put j hj (fun _ => by decide) (fun _ => by decide) (RR.set HV.out j (fun e => absurd e hj) (fun e => by subst e; exact absurd hw (by decide)) hr))
      · intro s w hC hd K hK
        obtain ⟨d8, d6, _⟩ := hd
        obtain ⟨g, p, S, e8, hg, hv⟩ := (show RVar w (s 9) _ from d8 rfl)
        have e6 : s 7 = rv R := d6 rfl
        unfold rv at e6
        have HC := hid hC
        have HV := hid hv
        obtain ⟨f0, f1, f2, f3, f4⟩ := Blk.two hv
        clear d8 d6 hC hv
        go_simp
        rw [← e8, ← e6]
        exact hK undef (setr w g (decide (R < 0)) (dt R.natAbs)) ((HC.out.set HV.out hg).put (by decide) (by decide)) ⟨g, (upd_other s (i := 11) (j := 9) undef (by decide)).trans e8, Blk.set2 HV.out⟩ (fun j _ hj hw hr => RR.put j hj (fun _ => by decide) (fun _ => by decide) (RR.set HV.out j (fun _ e => HC.out.two g e e8) (fun e => absurd e hj) hr))
    rotate_left
    · exact ⟨Below.refl _ _, Or.inl rfl, Or.inl rfl, fun _ h => absurd h undef_ne⟩
    intro s w22 hC hR
    obtain ⟨gv, e8, bv⟩ := (show RHold w22 (s 8) Q from hR 10 (by decide))
    obtain ⟨gz, e9, bz⟩ := (show RHold w22 (s 9) R from hR 11 (by decide))
    have hvz : gv ≠ gz := fun e => hC.two gv e8 (by rw [e9, e])
    have BV0 : Hid (RBk gv Q w22) := ⟨bv⟩
    have BZ0 : Hid (RBk gz R w22) := ⟨bz⟩
    have C := hC.old
    obtain ⟨g1, _, _, x1, y1, _⟩ := (show RVar w22 (s 8) _ from hR 8 (by decide))
    obtain ⟨g2, _, _, x2, y2, _⟩ := (show RVar w22 (s 9) _ from hR 9 (by decide))
    have lv : w.heap.size ≤ gv := by rw [x1] at e8; simp at e8; subst e8; exact Nat.le_trans KD.out.old.size y1
    have lz : w.heap.size ≤ gz := by rw [x2] at e9; simp at e9; subst e9; exact Nat.le_trans KD.out.old.size y2
    clear x1 y1 x2 y2
    have KE := hid (KD.out.go C)
    clear KD
    have K11 := hid KE.out
    clear KE K10
    have X11 := hid (X10.out.go (bt (Below.refl _ _).drew C))
    clear X10
    have Y11 := hid (Y10.out.go (bt (Below.refl _ _).drew C))
    clear Y10
    have Q11 := hid (Q10.out.go (bt (Below.refl _ _).drew C))
    clear Q10
    have R11 := hid (R10.out.go (bt (Below.refl _ _).drew C))
    clear R10
    have S11 := hid (S10.out.go (bt (Below.refl _ _).drew C))
    clear S10
    have T11 := hid (T10.out.go (bt (Below.refl _ _).drew C))
    clear T10
    have U11 := hid (U10.out.go (bt (Below.refl _ _).drew C))
    clear U10
    simp only [e8, e9]
    clear e8 e9 hC hR C bv bz
    obtain ⟨Qa, Qb, Qc, Qd, Qe⟩ := Var.facts Q11.out.var
    obtain ⟨Ra, Rb, Rc, Rd, Re⟩ := Var.facts R11.out.var
    obtain ⟨BVa, BVb, BVc, BVd, BVe⟩ := Blk.two BV0.out.blk
    obtain ⟨BZa, BZb, BZc, BZd, BZe⟩ := Blk.two BZ0.out.blk
    go_wp2_with fail
    clear Qa Qb Qc Qd Qe Ra Rb Rc Rd Re BVa BVb BVc BVd BVe BZa BZb BZc BZd BZe
    refine (is_ri _ n Q _ _ _ Q11.out.num (by omega) (by have := Q11.out.num.len; omega) K11.out.tab (ri_rv Q)).mono ?_
    rintro e w23 ⟨rfl, C⟩
    have K12 := hid (K11.out.go C)
    have X12 := hid (X11.out.go C)
    have Y12 := hid (Y11.out.go C)
    have Q12 := hid (Q11.out.go C)
    have R12 := hid (R11.out.go C)
    have S12 := hid (S11.out.go C)
    have T12 := hid (T11.out.go C)
    have U12 := hid (U11.out.go C)
    have BV12 := hid (BV0.out.go C)
    have BZ12 := hid (BZ0.out.go C)
    clear K11 X11 Y11 Q11 R11 S11 T11 U11 BV0 BZ0
    clear C
    obtain ⟨Qa, Qb, Qc, Qd, Qe⟩ := Var.facts Q12.out.var
    obtain ⟨Ra, Rb, Rc, Rd, Re⟩ := Var.facts R12.out.var
    obtain ⟨BVa, BVb, BVc, BVd, BVe⟩ := Blk.two BV12.out.blk
    obtain ⟨BZa, BZb, BZc, BZd, BZe⟩ := Blk.two BZ12.out.blk
    go_wp2_with fail
    clear Qa Qb Qc Qd Qe Ra Rb Rc Rd Re BVa BVb BVc BVd BVe BZa BZb BZc BZd BZe
    refine (is_ri _ (max n m) R _ _ _ R12.out.num (by omega) (by have := R12.out.num.len; omega) K12.out.tab (ri_rv R)).mono ?_
    rintro e w24 ⟨rfl, C⟩
    have K13 := hid (K12.out.go C)
    have X13 := hid (X12.out.go C)
    have Y13 := hid (Y12.out.go C)
    have Q13 := hid (Q12.out.go C)
    have R13 := hid (R12.out.go C)
    have S13 := hid (S12.out.go C)
    have T13 := hid (T12.out.go C)
    have U13 := hid (U12.out.go C)
    have BV13 := hid (BV12.out.go C)
    have BZ13 := hid (BZ12.out.go C)
    clear K12 X12 Y12 Q12 R12 S12 T12 U12 BV12 BZ12
    clear C
    obtain ⟨BVa, BVb, BVc, BVd, BVe⟩ := Blk.two BV13.out.blk
    obtain ⟨BZa, BZb, BZc, BZd, BZe⟩ := Blk.two BZ13.out.blk
    go_wp2_with fail
    clear BVa BVb BVc BVd BVe BZa BZb BZc BZd BZe
    refine (rsign_any _ _ R _ (ri_rv R)).mono ?_
    rintro e w25 ⟨rfl, C⟩
    have K14 := hid (K13.out.go C)
    have X14 := hid (X13.out.go C)
    have Y14 := hid (Y13.out.go C)
    have Q14 := hid (Q13.out.go C)
    have R14 := hid (R13.out.go C)
    have S14 := hid (S13.out.go C)
    have T14 := hid (T13.out.go C)
    have U14 := hid (U13.out.go C)
    have BV14 := hid (BV13.out.go C)
    have BZ14 := hid (BZ13.out.go C)
    clear K13 X13 Y13 Q13 R13 S13 T13 U13 BV13 BZ13
    clear C
    have sz : sgn R = 0 := by rw [HR0.out]; rfl
    rw [sz]
    obtain ⟨Ua, Ub, Uc, Ud, Ue⟩ := Var.facts U14.out.var
    obtain ⟨BVa, BVb, BVc, BVd, BVe⟩ := Blk.two BV14.out.blk
    go_wp2_with fail
    clear Ua Ub Uc Ud Ue BVa BVb BVc BVd BVe
    clear sz
    refine (is_ri _ n Q _ _ _ U14.out.num (by omega) (by have := U14.out.num.len; omega) K14.out.tab (ri_rv Q)).mono ?_
    rintro e w26 ⟨rfl, C⟩
    have K15 := hid (K14.out.go C)
    have X15 := hid (X14.out.go C)
    have Y15 := hid (Y14.out.go C)
    have Q15 := hid (Q14.out.go C)
    have R15 := hid (R14.out.go C)
    have S15 := hid (S14.out.go C)
    have T15 := hid (T14.out.go C)
    have U15 := hid (U14.out.go C)
    have BV15 := hid (BV14.out.go C)
    have BZ15 := hid (BZ14.out.go C)
    clear K14 X14 Y14 Q14 R14 S14 T14 U14 BV14 BZ14
    clear C
    obtain ⟨ka, kb, kc, kd⟩ := K15.out.cells
    obtain ⟨BVa, BVb, BVc, BVd, BVe⟩ := Blk.two BV15.out.blk
    obtain ⟨BZa, BZb, BZc, BZd, BZe⟩ := Blk.two BZ15.out.blk
    go_wp2_with fail
    clear ka kb kc kd BVa BVb BVc BVd BVe BZa BZb BZc BZd BZe
    clear X15
    clear Y15
    clear Q15
    clear R15
    clear U15
    have K16 := hid (K15.out.go (Below.refl _ _).drew)
    have S16 := hid (S15.out.go (Below.refl _ _).drew)
    have T16 := hid (T15.out.go (Below.refl _ _).drew)
    have BV16 := hid (BV15.out.go (Below.refl _ _).drew)
    have BZ16 := hid (BZ15.out.go (Below.refl _ _).drew)
    clear K15 S15 T15 BV15 BZ15
    have H0 := K16.out.cells
    go_region_held3 (fun W => W.cell? ⟨g, 0, none⟩ = some (.bool na) ∧ W.cell? ⟨g, 1, none⟩ = some (.slice aa n ca) ∧ W.cell? ⟨g + 1, 0, none⟩ = some (.bool nb) ∧ W.cell? ⟨g + 1, 1, none⟩ = some (.slice ab m cb)) (first | with_reducible exact H0 | with_reducible exact H1 | with_reducible exact H2 | with_reducible exact H3 | with_reducible exact HE | with_reducible exact HF) (first
      | (go_at_call_of 13 aa; go_must (refine (plain_ri na aa n ca xa oa w26.drew K16.out.sa (by omega)).mono ?_; rintro e w27 ⟨⟨ng, S5, rfl, ra, sq⟩, C⟩; clear sq; rw [← EA.out] at ra; obtain ⟨rfl, rfl⟩ := ra; have K17 := hid (K16.out.go C); have S17 := hid (S16.out.go C); have T17 := hid (T16.out.go C); have BV17 := hid (BV16.out.go C); have BZ17 := hid (BZ16.out.go C); clear K16 S16 T16 BV16 BZ16; have H1 := K17.out.cells; clear C))
      | (go_at_call_of 13 ab; go_must (refine (plain_ri nb ab m cb xb ob w27 K17.out.sb (by omega)).mono ?_; rintro e w28 ⟨⟨ng, S5, rfl, ra, sq⟩, C⟩; clear sq; rw [← EB.out] at ra; obtain ⟨rfl, rfl⟩ := ra; have K18 := hid (K17.out.go C); have S18 := hid (S17.out.go C); have T18 := hid (T17.out.go C); have BV18 := hid (BV17.out.go C); have BZ18 := hid (BZ17.out.go C); clear K17 S17 T17 BV17 BZ17; have H2 := K18.out.cells; clear C))
      | (go_at_call 12; go_must (refine (rdivm_any _ _ A _ _ B w28 (ri_rv A) (ri_rv B) (by have := SZA.out; omega) (by have := SZB.out; omega) hB).mono ?_; rintro e w29 ⟨⟨p5, S5, p6, S6, Q5, R5, rfl, r5, r6, dd⟩, C⟩; obtain ⟨eQ, eR⟩ := div_one hB DD.out dd; subst eQ eR; obtain ⟨rfl, rfl⟩ := r5; obtain ⟨rfl, rfl⟩ := r6; have K19 := hid (K18.out.go C); have S19 := hid (S18.out.go C); have T19 := hid (T18.out.go C); have BV19 := hid (BV18.out.go C); have BZ19 := hid (BZ18.out.go C); clear K18 S18 T18 BV18 BZ18; have H3 := K19.out.cells; have O1 := hid (only_two gv w29 (.bool (decide (Q1 < 0))) (.string (dt Q1.natAbs))); have KX := hid (K19.out.setr HTW.out BV19.out.blk O1.out lv); have HE := KX.out.cells; have BY := hid (BZ19.out.blk.only O1.out (Ne.symm hvz)); have O2 := hid (only_two gz ((w29.setCell ⟨gv, 0, none⟩ (.bool (decide (Q1 < 0)))).setCell ⟨gv, 1, none⟩ (.string (dt Q1.natAbs))) (.bool (decide (R1 < 0))) (.string (dt R1.natAbs))); have KY := hid (KX.out.setr HTW.out BY.out O2.out lz); have HF := KY.out.cells; obtain ⟨va, vb, vc, vd, ve⟩ := Blk.two BV19.out.blk; obtain ⟨za, zb, zc, zd, ze⟩ := Blk.two BY.out; clear C dd)))
    have S99 := hid ((S19.out.setr BV19.out.blk O1.out).setr BY.out O2.out)
    have T99 := hid ((T19.out.setr BV19.out.blk O1.out).setr BY.out O2.out)
    have BV99 : Hid (RBk gv Q1 _) := ⟨(Blk.set2 BV19.out.blk).only O2.out hvz⟩
    have BZ99 : Hid (RBk gz R1 _) := ⟨Blk.set2 BY.out⟩
    have K99 := hid KY.out
    clear BV19 BZ19 S19 T19 KX KY BY O1 O2 H0 H1 H2 H3 HE HF va vb vc vd ve za zb zc zd ze K19
    generalize (((w29.setCell ⟨gv, 0, none⟩ (.bool (decide (Q1 < 0)))).setCell ⟨gv, 1, none⟩ (.string (dt Q1.natAbs))).setCell ⟨gz, 0, none⟩ (.bool (decide (R1 < 0)))).setCell ⟨gz, 1, none⟩ (.string (dt R1.natAbs)) = w30 at *
    obtain ⟨Sa, Sb, Sc, Sd, Se⟩ := Var.facts S99.out.var
    obtain ⟨Ta, Tb, Tc, Td, Te⟩ := Var.facts T99.out.var
    obtain ⟨BVa, BVb, BVc, BVd, BVe⟩ := Blk.two BV99.out.blk
    obtain ⟨BZa, BZb, BZc, BZd, BZe⟩ := Blk.two BZ99.out.blk
    go_wp2_with fail
    clear Sa Sb Sc Sd Se Ta Tb Tc Td Te BVa BVb BVc BVd BVe BZa BZb BZc BZd BZe
    refine (is_ri _ (n + 2) Q1 _ _ _ S99.out.num (by omega) (by have := S99.out.num.len; omega) K99.out.tab (ri_rv Q1)).mono ?_
    rintro e w31 ⟨rfl, C⟩
    have K101 := hid (K99.out.go C)
    have S101 := hid (S99.out.go C)
    have T101 := hid (T99.out.go C)
    have BV101 := hid (BV99.out.go C)
    have BZ101 := hid (BZ99.out.go C)
    clear K99 S99 T99 BV99 BZ99
    clear C
    obtain ⟨Ta, Tb, Tc, Td, Te⟩ := Var.facts T101.out.var
    obtain ⟨BZa, BZb, BZc, BZd, BZe⟩ := Blk.two BZ101.out.blk
    go_wp2_with fail
    clear Ta Tb Tc Td Te BZa BZb BZc BZd BZe
    refine (is_ri _ (max n m + 1) R1 _ _ _ T101.out.num (by omega) (by have := T101.out.num.len; omega) K101.out.tab (ri_rv R1)).mono ?_
    rintro e w32 ⟨rfl, C⟩
    have K102 := hid (K101.out.go C)
    have S102 := hid (S101.out.go C)
    have T102 := hid (T101.out.go C)
    have BV102 := hid (BV101.out.go C)
    have BZ102 := hid (BZ101.out.go C)
    clear K101 S101 T101 BV101 BZ101
    clear C
    go_wp2_with fail
    refine (awake_any _ K102.out.tab).mono ?_
    rintro e w33 ⟨rfl, C⟩
    have K103 := hid (K102.out.go C)
    have S103 := hid (S102.out.go C)
    have T103 := hid (T102.out.go C)
    have BV103 := hid (BV102.out.go C)
    have BZ103 := hid (BZ102.out.go C)
    clear K102 S102 T102 BV102 BZ102
    clear C
    go_wp2
    go_ret
    exact ⟨rfl, hg ▸ K103.out.old⟩
set_option maxHeartbeats 3200000 in
set_option maxRecDepth 100000 in
theorem divides_c (na : Bool) (aa : Option Addr) (n ca : Nat) (xa : Nat → Int) (oa : Nat) (nb : Bool) (ab : Option Addr) (m cb : Nat) (xb : Nat → Int) (ob : Nat) (u : Nat) (A B : Int) (w : World)
    (ha : Sl w (.slice aa n ca) n xa oa) (hb : Sl w (.slice ab m cb) m xb ob) (hn : n ≤ 8) (hm : m ≤ 8) (ht : Tab w) (hA : A = sg na (V xa oa n)) (hBB : B = sg nb (V xb ob m)) (hu : u ≤ 18446744073709551615) (hB : B = 0) (_hU : 0 < u) :
    Calls Tryz.prog 3 #[.agg #[.bool na, .slice aa n ca], .agg #[.bool nb, .slice ab m cb], .int .u64 u] w fun e w' => e = .returned (.bool true) ∧ Below w.heap.size w w' := by
  have h0 : Below w.heap.size w ((w.alloc (.cells #[.bool na, .slice aa n ca] 25)).alloc (.cells #[.bool nb, .slice ab m cb] 25)) := bt (below_new w _) (below_new _ _)
  have K0 : Hid (Two w w.heap.size na aa n ca xa oa nb ab m cb xb ob ((w.alloc (.cells #[.bool na, .slice aa n ca] 25)).alloc (.cells #[.bool nb, .slice ab m cb] 25))) := by
    refine ⟨h0, Blk.go2 (Blk.new _ _ _) (below_new _ _), ?_, ha.below h0, hb.below h0, ht.below h0 ht.lt⟩
    have := Blk.new (w.alloc (.cells #[.bool na, .slice aa n ca] 25)) #[.bool nb, .slice ab m cb] 25
    rw [World.size_alloc] at this
    exact this
  have FA := hid (few_any na aa n ca)
  have FB := hid (few_any nb ab m cb)
  have EA := hid hA
  have EB := hid hBB
  have HTW := hid ht
  have a0 := V_bd n ha.wd
  have b0 := V_bd m hb.wd
  have LA := hid (len_of (u := (V xa oa n).toNat) (k := n) (by have := a0; omega))
  have LB := hid (len_of (u := (V xb ob m).toNat) (k := m) (by have := b0; omega))
  have LU := hid (len_of (u := u) (k := 1) (by show (u : Int) < P 1; rw [show P 1 = 18446744073709551616 by decide +kernel]; omega))
  rw [← dt_size] at LA LB LU
  have SZA : Hid ((dt A.natAbs).size ≤ 90000) := by
    show _ ≤ _
    have e : A.natAbs = (V xa oa n).toNat := by rw [hA]; cases na <;> simp only [sg, if_true, Bool.false_eq_true, if_false] <;> omega
    rw [e]
    have := LA.out
    omega
  have SZB : Hid ((dt B.natAbs).size ≤ 90000) := by
    show _ ≤ _
    have e : B.natAbs = (V xb ob m).toNat := by rw [hBB]; cases nb <;> simp only [sg, if_true, Bool.false_eq_true, if_false] <;> omega
    rw [e]
    have := LB.out
    omega
  rw [decide_eq_true hn] at FA
  rw [decide_eq_true hm] at FB
  clear h0 ha hb ht hA hBB a0 b0
  have HB0 := hid hB
  clear hB
  go_enter Tryz.func3, Tryz.ntmps3
  go_wp2_with fail
  generalize (w.alloc (.cells #[.bool na, .slice aa n ca] 25)).alloc (.cells #[.bool nb, .slice ab m cb] 25) = wa at *
  generalize hg : w.heap.size = g at *
  refine (FA.out _).mono ?_
  rintro e w1 ⟨rfl, C⟩
  have K1 := hid (K0.out.go C)
  clear K0
  clear C
  obtain ⟨ka, kb, kc, kd⟩ := K1.out.cells
  go_wp2_with fail
  clear ka kb kc kd
  refine (FB.out _).mono ?_
  rintro e w2 ⟨rfl, C⟩
  have K2 := hid (K1.out.go C)
  clear K1
  clear C
  obtain ⟨ka, kb, kc, kd⟩ := K2.out.cells
  go_wp2_with fail
  clear ka kb kc kd
  refine (lof_any na aa n ca xa oa _ K2.out.sa (by omega)).mono ?_
  rintro e w3 ⟨⟨v3, rfl, i3⟩, C⟩
  rw [← EA.out] at i3
  obtain ⟨px, ax, lx, cx, rfl⟩ := i3.shape
  have X0 := hid (VI.new i3)
  have C3 := bt C (below_new w3 (.cells #[.bool px, .slice ax lx cx] 30))
  have K3 := hid (K2.out.go C3)
  clear K2
  clear C i3 C3
  obtain ⟨ka, kb, kc, kd⟩ := K3.out.cells
  go_wp2_with fail
  clear ka kb kc kd
  generalize w3.alloc (.cells #[.bool px, .slice ax lx cx] 30) = w4 at *
  generalize w3.heap.size = gx at *
  refine (lof_any nb ab m cb xb ob _ K3.out.sb (by omega)).mono ?_
  rintro e w5 ⟨⟨v5, rfl, i5⟩, C⟩
  rw [← EB.out] at i5
  obtain ⟨py, ay, ly, cy, rfl⟩ := i5.shape
  have Y0 := hid (VI.new i5)
  have C5 := bt C (below_new w5 (.cells #[.bool py, .slice ay ly cy] 30))
  have K4 := hid (K3.out.go C5)
  have X4 := hid (X0.out.go C5)
  clear K3 X0
  clear C i5 C5
  obtain ⟨Xa, Xb, Xc, Xd, Xe⟩ := Var.facts X4.out.var
  obtain ⟨Ya, Yb, Yc, Yd, Ye⟩ := Var.facts Y0.out.var
  go_wp2_with fail
  clear Xa Xb Xc Xd Xe Ya Yb Yc Yd Ye
  generalize w5.alloc (.cells #[.bool py, .slice ay ly cy] 30) = w6 at *
  generalize w5.heap.size = gy at *
  refine (QuoRem_zero _ _ n m A _ X4.out.num (Y0.out.num.cast HB0.out)).mono ?_
  rintro e w7 ⟨rfl, C⟩
  obtain ⟨q0, r0, t⟩ := VI.two (it_zero w7) (it_zero w7)
  have Q0 := hid q0
  have R0 := hid r0
  have C7 := bt C t
  have K5 := hid (K4.out.go C7)
  have X5 := hid (X4.out.go C7)
  have Y5 := hid (Y0.out.go C7)
  clear K4 X4 Y0
  clear C C7 q0 r0 t
  obtain ⟨Xa, Xb, Xc, Xd, Xe⟩ := Var.facts X5.out.var
  obtain ⟨Ya, Yb, Yc, Yd, Ye⟩ := Var.facts Y5.out.var
  go_wp2_with fail
  clear Xa Xb Xc Xd Xe Ya Yb Yc Yd Ye
  generalize (w7.alloc (.cells #[.bool false, .slice none 0 0] 30)).alloc (.cells #[.bool false, .slice none 0 0] 30) = w8 at *
  generalize w7.heap.size = gq at *
  refine (DivMod_zero _ _ n m A _ X5.out.num (Y5.out.num.cast HB0.out)).mono ?_
  rintro e w9 ⟨rfl, C⟩
  obtain ⟨q0, r0, t⟩ := VI.two (it_zero w9) (it_zero w9)
  have S0 := hid q0
  have T0 := hid r0
  have C7 := bt C t
  have K6 := hid (K5.out.go C7)
  have X6 := hid (X5.out.go C7)
  have Y6 := hid (Y5.out.go C7)
  have Q6 := hid (Q0.out.go C7)
  have R6 := hid (R0.out.go C7)
  clear K5 X5 Y5 Q0 R0
  clear C C7 q0 r0 t
  obtain ⟨Xa, Xb, Xc, Xd, Xe⟩ := Var.facts X6.out.var
  obtain ⟨Ya, Yb, Yc, Yd, Ye⟩ := Var.facts Y6.out.var
  go_wp2_with fail
  clear Xa Xb Xc Xd Xe Ya Yb Yc Yd Ye
  generalize (w9.alloc (.cells #[.bool false, .slice none 0 0] 30)).alloc (.cells #[.bool false, .slice none 0 0] 30) = w10 at *
  generalize w9.heap.size = gs at *
  refine (Exact_zero _ _ n m A _ X6.out.num (Y6.out.num.cast HB0.out)).mono ?_
  rintro e w11 ⟨rfl, C⟩
  have U0 := hid (VI.new (it_zero w11))
  have C7 := bt C (below_new w11 (.cells #[.bool false, .slice none 0 0] 30))
  have K7 := hid (K6.out.go C7)
  have X7 := hid (X6.out.go C7)
  have Y7 := hid (Y6.out.go C7)
  have Q7 := hid (Q6.out.go C7)
  have R7 := hid (R6.out.go C7)
  have S7 := hid (S0.out.go C7)
  have T7 := hid (T0.out.go C7)
  clear K6 X6 Y6 Q6 R6 S0 T0
  clear C C7
  obtain ⟨Xa, Xb, Xc, Xd, Xe⟩ := Var.facts X7.out.var
  obtain ⟨Ya, Yb, Yc, Yd, Ye⟩ := Var.facts Y7.out.var
  go_wp2_with fail
  clear Xa Xb Xc Xd Xe Ya Yb Yc Yd Ye
  generalize w11.alloc (.cells #[.bool false, .slice none 0 0] 30) = w12 at *
  generalize w11.heap.size = gu at *
  refine (Mod_any _ n A u _ X7.out.num (by omega) (by omega) (by omega)).mono ?_
  rintro e w13 ⟨⟨mr, rfl, dm⟩, C⟩
  have DM := hid dm
  have K8 := hid (K7.out.go C)
  have X8 := hid (X7.out.go C)
  have Y8 := hid (Y7.out.go C)
  have Q8 := hid (Q7.out.go C)
  have R8 := hid (R7.out.go C)
  have S8 := hid (S7.out.go C)
  have T8 := hid (T7.out.go C)
  have U8 := hid (U0.out.go C)
  clear K7 X7 Y7 Q7 R7 S7 T7 U0
  clear C dm
  obtain ⟨ka, kb, kc, kd⟩ := K8.out.cells
  go_wp2_with fail
  clear ka kb kc kd
  refine (plain_ri na aa n ca xa oa _ K8.out.sa (by omega)).mono ?_
  rintro e w14 ⟨⟨ng1, SA, rfl, ra, sa⟩, C⟩
  rw [← EA.out] at ra
  have RA := hid ra
  have ZA := hid sa
  have K9 := hid (K8.out.go C)
  have X9 := hid (X8.out.go C)
  have Y9 := hid (Y8.out.go C)
  have Q9 := hid (Q8.out.go C)
  have R9 := hid (R8.out.go C)
  have S9 := hid (S8.out.go C)
  have T9 := hid (T8.out.go C)
  have U9 := hid (U8.out.go C)
  clear K8 X8 Y8 Q8 R8 S8 T8 U8
  clear C ra sa
  obtain ⟨ka, kb, kc, kd⟩ := K9.out.cells
  go_wp2_with fail
  clear ka kb kc kd
  refine (rword_any u _ hu).mono ?_
  rintro e w15 ⟨rfl, C⟩
  have K10 := hid (K9.out.go C)
  have X10 := hid (X9.out.go C)
  have Y10 := hid (Y9.out.go C)
  have Q10 := hid (Q9.out.go C)
  have R10 := hid (R9.out.go C)
  have S10 := hid (S9.out.go C)
  have T10 := hid (T9.out.go C)
  have U10 := hid (U9.out.go C)
  clear K9 X9 Y9 Q9 R9 S9 T9 U9
  clear C
  obtain ⟨ka, kb, kc, kd⟩ := K10.out.cells
  go_wp2_with fail
  clear ka kb kc kd
  refine (rdivm_any ng1 SA A false (dt u) (u : Int) _ RA.out (ri_nat u) (by rw [ZA.out]; have := LA.out; omega) (by have := LU.out; omega) (by omega)).mono ?_
  rintro e w16 ⟨⟨p16, S16, p17, S17, Q16, R16, rfl, _, r17, d17⟩, C⟩
  have R17 := hid r17
  obtain ⟨mn, hmn⟩ := Int.eq_ofNat_of_zero_le DM.out.1
  subst hmn
  have ES : Hid (S17 = dt mn) := by have e := mod_one d17 DM.out; rw [r17.2, e]; rfl
  have hmn : mn ≤ 18446744073709551615 := by have := DM.out.2.1; omega
  have t := bt (below_new w16 (.cells #[.bool p16, .string S16] 40)) (below_new (w16.alloc (.cells #[.bool p16, .string S16] 40)) (.cells #[.bool p17, .string S17] 40))
  have C16 := bt C t
  have K11 := hid (K10.out.go C16)
  have X11 := hid (X10.out.go C16)
  have Y11 := hid (Y10.out.go C16)
  have Q11 := hid (Q10.out.go C16)
  have R11 := hid (R10.out.go C16)
  have S11 := hid (S10.out.go C16)
  have T11 := hid (T10.out.go C16)
  have U11 := hid (U10.out.go C16)
  clear K10 X10 Y10 Q10 R10 S10 T10 U10
  have BL : Hid (Blk ((w16.alloc (.cells #[.bool p16, .string S16] 40)).alloc (.cells #[.bool p17, .string S17] 40)) (w16.heap.size + 1) #[.bool p17, .string S17] 40) := by
    have := Blk.new (w16.alloc (.cells #[.bool p16, .string S16] 40)) #[.bool p17, .string S17] 40
    rw [World.size_alloc] at this
    exact this
  clear C t C16 r17 d17 R17
  obtain rfl : S17 = dt mn := ES.out
  clear ES
  go_wp2_with fail
  generalize (w16.alloc (.cells #[.bool p16, .string S16] 40)).alloc (.cells #[.bool p17, .string (dt mn)] 40) = w17 at *
  generalize w16.heap.size = gl at *
  have K12 := hid (K11.out.go (Below.refl _ _).drew)
  have X12 := hid (X11.out.go (Below.refl _ _).drew)
  have Y12 := hid (Y11.out.go (Below.refl _ _).drew)
  have Q12 := hid (Q11.out.go (Below.refl _ _).drew)
  have R12 := hid (R11.out.go (Below.refl _ _).drew)
  have S12 := hid (S11.out.go (Below.refl _ _).drew)
  have T12 := hid (T11.out.go (Below.refl _ _).drew)
  have U12 := hid (U11.out.go (Below.refl _ _).drew)
  clear K11 X11 Y11 Q11 R11 S11 T11 U11
  have BM := hid (BL.out.go2 (Below.refl _ _).drew)
  have H0 : w17.drew.cell? ⟨gl + 1, 0, none⟩ = some (.bool p17) ∧ w17.drew.cell? ⟨gl + 1, 1, none⟩ = some (.string (dt mn)) := ⟨(Blk.two BM.out).1, (Blk.two BM.out).2.1⟩
  clear BL
  go_region_held3 (fun W => W.cell? ⟨gl + 1, 0, none⟩ = some (.bool p17) ∧ W.cell? ⟨gl + 1, 1, none⟩ = some (.string (dt mn))) (first | exact H0 | exact H1) (first
    | (go_at_call 14; go_must (refine (rword_any mn w17.drew hmn).mono ?_; rintro e w18 ⟨rfl, C⟩; have BN := hid (BM.out.go2 C); have H1 : w18.cell? ⟨gl + 1, 0, none⟩ = some (.bool p17) ∧ w18.cell? ⟨gl + 1, 1, none⟩ = some (.string (dt mn)) := ⟨(Blk.two BN.out).1, (Blk.two BN.out).2.1⟩; have K13 := hid (K12.out.go C); have X13 := hid (X12.out.go C); have Y13 := hid (Y12.out.go C); have Q13 := hid (Q12.out.go C); have R13 := hid (R12.out.go C); have S13 := hid (S12.out.go C); have T13 := hid (T12.out.go C); have U13 := hid (U12.out.go C); clear K12 X12 Y12 Q12 R12 S12 T12 U12; clear C)))
  clear H0 H1 BM BN
  obtain ⟨ka, kb, kc, kd⟩ := K13.out.cells
  go_wp2_with fail
  clear ka kb kc kd
  refine (plain_ri nb ab m cb xb ob _ K13.out.sb (by omega)).mono ?_
  rintro e w20 ⟨⟨ng2, SB, rfl, rb, sb⟩, C⟩
  rw [← EB.out] at rb
  have RB := hid rb
  have ZB := hid sb
  have K14 := hid (K13.out.go C)
  have X14 := hid (X13.out.go C)
  have Y14 := hid (Y13.out.go C)
  have Q14 := hid (Q13.out.go C)
  have R14 := hid (R13.out.go C)
  have S14 := hid (S13.out.go C)
  have T14 := hid (T13.out.go C)
  have U14 := hid (U13.out.go C)
  clear K13 X13 Y13 Q13 R13 S13 T13 U13
  clear C rb sb
  go_wp2_with fail
  refine (rsign_any ng2 SB B _ RB.out).mono ?_
  rintro e w21 ⟨rfl, C⟩
  have K15 := hid (K14.out.go C)
  have X15 := hid (X14.out.go C)
  have Y15 := hid (Y14.out.go C)
  have Q15 := hid (Q14.out.go C)
  have R15 := hid (R14.out.go C)
  have S15 := hid (S14.out.go C)
  have T15 := hid (T14.out.go C)
  have U15 := hid (U14.out.go C)
  clear K14 X14 Y14 Q14 R14 S14 T14 U14
  clear C
  have sz : sgn B = 0 := by rw [HB0.out]; rfl
  rw [sz]
  obtain ⟨Qa, Qb, Qc, Qd, Qe⟩ := Var.facts Q15.out.var
  obtain ⟨Ra, Rb, Rc, Rd, Re⟩ := Var.facts R15.out.var
  obtain ⟨Sa, Sb, Sc, Sd, Se⟩ := Var.facts S15.out.var
  obtain ⟨Ta, Tb, Tc, Td, Te⟩ := Var.facts T15.out.var
  obtain ⟨Ua, Ub, Uc, Ud, Ue⟩ := Var.facts U15.out.var
  go_wp2_with fail
  clear Qa Qb Qc Qd Qe Ra Rb Rc Rd Re Sa Sb Sc Sd Se Ta Tb Tc Td Te Ua Ub Uc Ud Ue
  refine (Sign_any _ _ _ _ Q15.out.num).mono ?_
  rintro e w40 ⟨rfl, C⟩
  have K16 := hid (K15.out.go C)
  have X16 := hid (X15.out.go C)
  have Y16 := hid (Y15.out.go C)
  have Q16 := hid (Q15.out.go C)
  have R16 := hid (R15.out.go C)
  have S16 := hid (S15.out.go C)
  have T16 := hid (T15.out.go C)
  have U16 := hid (U15.out.go C)
  clear K15 X15 Y15 Q15 R15 S15 T15 U15
  clear C
  have s0 : sgn 0 = 0 := rfl
  rw [s0]
  clear s0
  obtain ⟨Ra, Rb, Rc, Rd, Re⟩ := Var.facts R16.out.var
  obtain ⟨Sa, Sb, Sc, Sd, Se⟩ := Var.facts S16.out.var
  obtain ⟨Ta, Tb, Tc, Td, Te⟩ := Var.facts T16.out.var
  obtain ⟨Ua, Ub, Uc, Ud, Ue⟩ := Var.facts U16.out.var
  go_wp2_with fail
  clear Ra Rb Rc Rd Re Sa Sb Sc Sd Se Ta Tb Tc Td Te Ua Ub Uc Ud Ue
  refine (Sign_any _ _ _ _ R16.out.num).mono ?_
  rintro e w41 ⟨rfl, C⟩
  have K17 := hid (K16.out.go C)
  have X17 := hid (X16.out.go C)
  have Y17 := hid (Y16.out.go C)
  have Q17 := hid (Q16.out.go C)
  have R17 := hid (R16.out.go C)
  have S17 := hid (S16.out.go C)
  have T17 := hid (T16.out.go C)
  have U17 := hid (U16.out.go C)
  clear K16 X16 Y16 Q16 R16 S16 T16 U16
  clear C
  have s0 : sgn 0 = 0 := rfl
  rw [s0]
  clear s0
  obtain ⟨Sa, Sb, Sc, Sd, Se⟩ := Var.facts S17.out.var
  obtain ⟨Ta, Tb, Tc, Td, Te⟩ := Var.facts T17.out.var
  obtain ⟨Ua, Ub, Uc, Ud, Ue⟩ := Var.facts U17.out.var
  go_wp2_with fail
  clear Sa Sb Sc Sd Se Ta Tb Tc Td Te Ua Ub Uc Ud Ue
  refine (Sign_any _ _ _ _ S17.out.num).mono ?_
  rintro e w42 ⟨rfl, C⟩
  have K18 := hid (K17.out.go C)
  have X18 := hid (X17.out.go C)
  have Y18 := hid (Y17.out.go C)
  have Q18 := hid (Q17.out.go C)
  have R18 := hid (R17.out.go C)
  have S18 := hid (S17.out.go C)
  have T18 := hid (T17.out.go C)
  have U18 := hid (U17.out.go C)
  clear K17 X17 Y17 Q17 R17 S17 T17 U17
  clear C
  have s0 : sgn 0 = 0 := rfl
  rw [s0]
  clear s0
  obtain ⟨Ta, Tb, Tc, Td, Te⟩ := Var.facts T18.out.var
  obtain ⟨Ua, Ub, Uc, Ud, Ue⟩ := Var.facts U18.out.var
  go_wp2_with fail
  clear Ta Tb Tc Td Te Ua Ub Uc Ud Ue
  refine (Sign_any _ _ _ _ T18.out.num).mono ?_
  rintro e w43 ⟨rfl, C⟩
  have K19 := hid (K18.out.go C)
  have X19 := hid (X18.out.go C)
  have Y19 := hid (Y18.out.go C)
  have Q19 := hid (Q18.out.go C)
  have R19 := hid (R18.out.go C)
  have S19 := hid (S18.out.go C)
  have T19 := hid (T18.out.go C)
  have U19 := hid (U18.out.go C)
  clear K18 X18 Y18 Q18 R18 S18 T18 U18
  clear C
  have s0 : sgn 0 = 0 := rfl
  rw [s0]
  clear s0
  obtain ⟨Ua, Ub, Uc, Ud, Ue⟩ := Var.facts U19.out.var
  go_wp2_with fail
  clear Ua Ub Uc Ud Ue
  refine (Sign_any _ _ _ _ U19.out.num).mono ?_
  rintro e w44 ⟨rfl, C⟩
  have K20 := hid (K19.out.go C)
  have X20 := hid (X19.out.go C)
  have Y20 := hid (Y19.out.go C)
  have Q20 := hid (Q19.out.go C)
  have R20 := hid (R19.out.go C)
  have S20 := hid (S19.out.go C)
  have T20 := hid (T19.out.go C)
  have U20 := hid (U19.out.go C)
  clear K19 X19 Y19 Q19 R19 S19 T19 U19
  clear C
  have s0 : sgn 0 = 0 := rfl
  rw [s0]
  clear s0
  go_wp2_with fail
  refine (awake_any _ K20.out.tab).mono ?_
  rintro e w50 ⟨rfl, C⟩
  have K21 := hid (K20.out.go C)
  have X21 := hid (X20.out.go C)
  have Y21 := hid (Y20.out.go C)
  have Q21 := hid (Q20.out.go C)
  have R21 := hid (R20.out.go C)
  have S21 := hid (S20.out.go C)
  have T21 := hid (T20.out.go C)
  have U21 := hid (U20.out.go C)
  clear K20 X20 Y20 Q20 R20 S20 T20 U20
  clear C
  go_wp2
  go_ret
  exact ⟨rfl, hg ▸ K21.out.old⟩
set_option maxHeartbeats 3200000 in
set_option maxRecDepth 100000 in
theorem divides_d (na : Bool) (aa : Option Addr) (n ca : Nat) (xa : Nat → Int) (oa : Nat) (nb : Bool) (ab : Option Addr) (m cb : Nat) (xb : Nat → Int) (ob : Nat) (u : Nat) (A B : Int) (w : World)
    (ha : Sl w (.slice aa n ca) n xa oa) (hb : Sl w (.slice ab m cb) m xb ob) (hn : n ≤ 8) (hm : m ≤ 8) (ht : Tab w) (hA : A = sg na (V xa oa n)) (hBB : B = sg nb (V xb ob m)) (_hu : u ≤ 18446744073709551615) (hB : B = 0) (_hU : u = 0) :
    Calls Tryz.prog 3 #[.agg #[.bool na, .slice aa n ca], .agg #[.bool nb, .slice ab m cb], .int .u64 0] w fun e w' => e = .returned (.bool true) ∧ Below w.heap.size w w' := by
  have h0 : Below w.heap.size w ((w.alloc (.cells #[.bool na, .slice aa n ca] 25)).alloc (.cells #[.bool nb, .slice ab m cb] 25)) := bt (below_new w _) (below_new _ _)
  have K0 : Hid (Two w w.heap.size na aa n ca xa oa nb ab m cb xb ob ((w.alloc (.cells #[.bool na, .slice aa n ca] 25)).alloc (.cells #[.bool nb, .slice ab m cb] 25))) := by
    refine ⟨h0, Blk.go2 (Blk.new _ _ _) (below_new _ _), ?_, ha.below h0, hb.below h0, ht.below h0 ht.lt⟩
    have := Blk.new (w.alloc (.cells #[.bool na, .slice aa n ca] 25)) #[.bool nb, .slice ab m cb] 25
    rw [World.size_alloc] at this
    exact this
  have FA := hid (few_any na aa n ca)
  have FB := hid (few_any nb ab m cb)
  have EA := hid hA
  have EB := hid hBB
  have HTW := hid ht
  have a0 := V_bd n ha.wd
  have b0 := V_bd m hb.wd
  have LA := hid (len_of (u := (V xa oa n).toNat) (k := n) (by have := a0; omega))
  have LB := hid (len_of (u := (V xb ob m).toNat) (k := m) (by have := b0; omega))
  have LU := hid (len_of (u := u) (k := 1) (by show (u : Int) < P 1; rw [show P 1 = 18446744073709551616 by decide +kernel]; omega))
  rw [← dt_size] at LA LB LU
  have SZA : Hid ((dt A.natAbs).size ≤ 90000) := by
    show _ ≤ _
    have e : A.natAbs = (V xa oa n).toNat := by rw [hA]; cases na <;> simp only [sg, if_true, Bool.false_eq_true, if_false] <;> omega
    rw [e]
    have := LA.out
    omega
  have SZB : Hid ((dt B.natAbs).size ≤ 90000) := by
    show _ ≤ _
    have e : B.natAbs = (V xb ob m).toNat := by rw [hBB]; cases nb <;> simp only [sg, if_true, Bool.false_eq_true, if_false] <;> omega
    rw [e]
    have := LB.out
    omega
  rw [decide_eq_true hn] at FA
  rw [decide_eq_true hm] at FB
  clear h0 ha hb ht hA hBB a0 b0
  have HB0 := hid hB
  clear hB
  go_enter Tryz.func3, Tryz.ntmps3
  go_wp2_with fail
  generalize (w.alloc (.cells #[.bool na, .slice aa n ca] 25)).alloc (.cells #[.bool nb, .slice ab m cb] 25) = wa at *
  generalize hg : w.heap.size = g at *
  refine (FA.out _).mono ?_
  rintro e w1 ⟨rfl, C⟩
  have K1 := hid (K0.out.go C)
  clear K0
  clear C
  obtain ⟨ka, kb, kc, kd⟩ := K1.out.cells
  go_wp2_with fail
  clear ka kb kc kd
  refine (FB.out _).mono ?_
  rintro e w2 ⟨rfl, C⟩
  have K2 := hid (K1.out.go C)
  clear K1
  clear C
  obtain ⟨ka, kb, kc, kd⟩ := K2.out.cells
  go_wp2_with fail
  clear ka kb kc kd
  refine (lof_any na aa n ca xa oa _ K2.out.sa (by omega)).mono ?_
  rintro e w3 ⟨⟨v3, rfl, i3⟩, C⟩
  rw [← EA.out] at i3
  obtain ⟨px, ax, lx, cx, rfl⟩ := i3.shape
  have X0 := hid (VI.new i3)
  have C3 := bt C (below_new w3 (.cells #[.bool px, .slice ax lx cx] 30))
  have K3 := hid (K2.out.go C3)
  clear K2
  clear C i3 C3
  obtain ⟨ka, kb, kc, kd⟩ := K3.out.cells
  go_wp2_with fail
  clear ka kb kc kd
  generalize w3.alloc (.cells #[.bool px, .slice ax lx cx] 30) = w4 at *
  generalize w3.heap.size = gx at *
  refine (lof_any nb ab m cb xb ob _ K3.out.sb (by omega)).mono ?_
  rintro e w5 ⟨⟨v5, rfl, i5⟩, C⟩
  rw [← EB.out] at i5
  obtain ⟨py, ay, ly, cy, rfl⟩ := i5.shape
  have Y0 := hid (VI.new i5)
  have C5 := bt C (below_new w5 (.cells #[.bool py, .slice ay ly cy] 30))
  have K4 := hid (K3.out.go C5)
  have X4 := hid (X0.out.go C5)
  clear K3 X0
  clear C i5 C5
  obtain ⟨Xa, Xb, Xc, Xd, Xe⟩ := Var.facts X4.out.var
  obtain ⟨Ya, Yb, Yc, Yd, Ye⟩ := Var.facts Y0.out.var
  go_wp2_with fail
  clear Xa Xb Xc Xd Xe Ya Yb Yc Yd Ye
  generalize w5.alloc (.cells #[.bool py, .slice ay ly cy] 30) = w6 at *
  generalize w5.heap.size = gy at *
  refine (QuoRem_zero _ _ n m A _ X4.out.num (Y0.out.num.cast HB0.out)).mono ?_
  rintro e w7 ⟨rfl, C⟩
  obtain ⟨q0, r0, t⟩ := VI.two (it_zero w7) (it_zero w7)
  have Q0 := hid q0
  have R0 := hid r0
  have C7 := bt C t
  have K5 := hid (K4.out.go C7)
  have X5 := hid (X4.out.go C7)
  have Y5 := hid (Y0.out.go C7)
  clear K4 X4 Y0
  clear C C7 q0 r0 t
  obtain ⟨Xa, Xb, Xc, Xd, Xe⟩ := Var.facts X5.out.var
  obtain ⟨Ya, Yb, Yc, Yd, Ye⟩ := Var.facts Y5.out.var
  go_wp2_with fail
  clear Xa Xb Xc Xd Xe Ya Yb Yc Yd Ye
  generalize (w7.alloc (.cells #[.bool false, .slice none 0 0] 30)).alloc (.cells #[.bool false, .slice none 0 0] 30) = w8 at *
  generalize w7.heap.size = gq at *
  refine (DivMod_zero _ _ n m A _ X5.out.num (Y5.out.num.cast HB0.out)).mono ?_
  rintro e w9 ⟨rfl, C⟩
  obtain ⟨q0, r0, t⟩ := VI.two (it_zero w9) (it_zero w9)
  have S0 := hid q0
  have T0 := hid r0
  have C7 := bt C t
  have K6 := hid (K5.out.go C7)
  have X6 := hid (X5.out.go C7)
  have Y6 := hid (Y5.out.go C7)
  have Q6 := hid (Q0.out.go C7)
  have R6 := hid (R0.out.go C7)
  clear K5 X5 Y5 Q0 R0
  clear C C7 q0 r0 t
  obtain ⟨Xa, Xb, Xc, Xd, Xe⟩ := Var.facts X6.out.var
  obtain ⟨Ya, Yb, Yc, Yd, Ye⟩ := Var.facts Y6.out.var
  go_wp2_with fail
  clear Xa Xb Xc Xd Xe Ya Yb Yc Yd Ye
  generalize (w9.alloc (.cells #[.bool false, .slice none 0 0] 30)).alloc (.cells #[.bool false, .slice none 0 0] 30) = w10 at *
  generalize w9.heap.size = gs at *
  refine (Exact_zero _ _ n m A _ X6.out.num (Y6.out.num.cast HB0.out)).mono ?_
  rintro e w11 ⟨rfl, C⟩
  have U0 := hid (VI.new (it_zero w11))
  have C7 := bt C (below_new w11 (.cells #[.bool false, .slice none 0 0] 30))
  have K7 := hid (K6.out.go C7)
  have X7 := hid (X6.out.go C7)
  have Y7 := hid (Y6.out.go C7)
  have Q7 := hid (Q6.out.go C7)
  have R7 := hid (R6.out.go C7)
  have S7 := hid (S0.out.go C7)
  have T7 := hid (T0.out.go C7)
  clear K6 X6 Y6 Q6 R6 S0 T0
  clear C C7
  obtain ⟨Xa, Xb, Xc, Xd, Xe⟩ := Var.facts X7.out.var
  obtain ⟨Ya, Yb, Yc, Yd, Ye⟩ := Var.facts Y7.out.var
  go_wp2_with fail
  clear Xa Xb Xc Xd Xe Ya Yb Yc Yd Ye
  generalize w11.alloc (.cells #[.bool false, .slice none 0 0] 30) = w12 at *
  generalize w11.heap.size = gu at *
  refine (Mod_zero _ n A _ X7.out.num).mono ?_
  rintro e w13 ⟨rfl, C⟩
  have K8 := hid (K7.out.go C)
  have X8 := hid (X7.out.go C)
  have Y8 := hid (Y7.out.go C)
  have Q8 := hid (Q7.out.go C)
  have R8 := hid (R7.out.go C)
  have S8 := hid (S7.out.go C)
  have T8 := hid (T7.out.go C)
  have U8 := hid (U0.out.go C)
  clear K7 X7 Y7 Q7 R7 S7 T7 U0
  clear C
  obtain ⟨ka, kb, kc, kd⟩ := K8.out.cells
  go_wp2_with fail
  clear ka kb kc kd
  refine (plain_ri nb ab m cb xb ob _ K8.out.sb (by omega)).mono ?_
  rintro e w20 ⟨⟨ng2, SB, rfl, rb, sb⟩, C⟩
  rw [← EB.out] at rb
  have RB := hid rb
  have ZB := hid sb
  have K9 := hid (K8.out.go C)
  have X9 := hid (X8.out.go C)
  have Y9 := hid (Y8.out.go C)
  have Q9 := hid (Q8.out.go C)
  have R9 := hid (R8.out.go C)
  have S9 := hid (S8.out.go C)
  have T9 := hid (T8.out.go C)
  have U9 := hid (U8.out.go C)
  clear K8 X8 Y8 Q8 R8 S8 T8 U8
  clear C rb sb
  go_wp2_with fail
  refine (rsign_any ng2 SB B _ RB.out).mono ?_
  rintro e w21 ⟨rfl, C⟩
  have K10 := hid (K9.out.go C)
  have X10 := hid (X9.out.go C)
  have Y10 := hid (Y9.out.go C)
  have Q10 := hid (Q9.out.go C)
  have R10 := hid (R9.out.go C)
  have S10 := hid (S9.out.go C)
  have T10 := hid (T9.out.go C)
  have U10 := hid (U9.out.go C)
  clear K9 X9 Y9 Q9 R9 S9 T9 U9
  clear C
  have sz : sgn B = 0 := by rw [HB0.out]; rfl
  rw [sz]
  obtain ⟨Qa, Qb, Qc, Qd, Qe⟩ := Var.facts Q10.out.var
  obtain ⟨Ra, Rb, Rc, Rd, Re⟩ := Var.facts R10.out.var
  obtain ⟨Sa, Sb, Sc, Sd, Se⟩ := Var.facts S10.out.var
  obtain ⟨Ta, Tb, Tc, Td, Te⟩ := Var.facts T10.out.var
  obtain ⟨Ua, Ub, Uc, Ud, Ue⟩ := Var.facts U10.out.var
  go_wp2_with fail
  clear Qa Qb Qc Qd Qe Ra Rb Rc Rd Re Sa Sb Sc Sd Se Ta Tb Tc Td Te Ua Ub Uc Ud Ue
  refine (Sign_any _ _ _ _ Q10.out.num).mono ?_
  rintro e w40 ⟨rfl, C⟩
  have K11 := hid (K10.out.go C)
  have X11 := hid (X10.out.go C)
  have Y11 := hid (Y10.out.go C)
  have Q11 := hid (Q10.out.go C)
  have R11 := hid (R10.out.go C)
  have S11 := hid (S10.out.go C)
  have T11 := hid (T10.out.go C)
  have U11 := hid (U10.out.go C)
  clear K10 X10 Y10 Q10 R10 S10 T10 U10
  clear C
  have s0 : sgn 0 = 0 := rfl
  rw [s0]
  clear s0
  obtain ⟨Ra, Rb, Rc, Rd, Re⟩ := Var.facts R11.out.var
  obtain ⟨Sa, Sb, Sc, Sd, Se⟩ := Var.facts S11.out.var
  obtain ⟨Ta, Tb, Tc, Td, Te⟩ := Var.facts T11.out.var
  obtain ⟨Ua, Ub, Uc, Ud, Ue⟩ := Var.facts U11.out.var
  go_wp2_with fail
  clear Ra Rb Rc Rd Re Sa Sb Sc Sd Se Ta Tb Tc Td Te Ua Ub Uc Ud Ue
  refine (Sign_any _ _ _ _ R11.out.num).mono ?_
  rintro e w41 ⟨rfl, C⟩
  have K12 := hid (K11.out.go C)
  have X12 := hid (X11.out.go C)
  have Y12 := hid (Y11.out.go C)
  have Q12 := hid (Q11.out.go C)
  have R12 := hid (R11.out.go C)
  have S12 := hid (S11.out.go C)
  have T12 := hid (T11.out.go C)
  have U12 := hid (U11.out.go C)
  clear K11 X11 Y11 Q11 R11 S11 T11 U11
  clear C
  have s0 : sgn 0 = 0 := rfl
  rw [s0]
  clear s0
  obtain ⟨Sa, Sb, Sc, Sd, Se⟩ := Var.facts S12.out.var
  obtain ⟨Ta, Tb, Tc, Td, Te⟩ := Var.facts T12.out.var
  obtain ⟨Ua, Ub, Uc, Ud, Ue⟩ := Var.facts U12.out.var
  go_wp2_with fail
  clear Sa Sb Sc Sd Se Ta Tb Tc Td Te Ua Ub Uc Ud Ue
  refine (Sign_any _ _ _ _ S12.out.num).mono ?_
  rintro e w42 ⟨rfl, C⟩
  have K13 := hid (K12.out.go C)
  have X13 := hid (X12.out.go C)
  have Y13 := hid (Y12.out.go C)
  have Q13 := hid (Q12.out.go C)
  have R13 := hid (R12.out.go C)
  have S13 := hid (S12.out.go C)
  have T13 := hid (T12.out.go C)
  have U13 := hid (U12.out.go C)
  clear K12 X12 Y12 Q12 R12 S12 T12 U12
  clear C
  have s0 : sgn 0 = 0 := rfl
  rw [s0]
  clear s0
  obtain ⟨Ta, Tb, Tc, Td, Te⟩ := Var.facts T13.out.var
  obtain ⟨Ua, Ub, Uc, Ud, Ue⟩ := Var.facts U13.out.var
  go_wp2_with fail
  clear Ta Tb Tc Td Te Ua Ub Uc Ud Ue
  refine (Sign_any _ _ _ _ T13.out.num).mono ?_
  rintro e w43 ⟨rfl, C⟩
  have K14 := hid (K13.out.go C)
  have X14 := hid (X13.out.go C)
  have Y14 := hid (Y13.out.go C)
  have Q14 := hid (Q13.out.go C)
  have R14 := hid (R13.out.go C)
  have S14 := hid (S13.out.go C)
  have T14 := hid (T13.out.go C)
  have U14 := hid (U13.out.go C)
  clear K13 X13 Y13 Q13 R13 S13 T13 U13
  clear C
  have s0 : sgn 0 = 0 := rfl
  rw [s0]
  clear s0
  obtain ⟨Ua, Ub, Uc, Ud, Ue⟩ := Var.facts U14.out.var
  go_wp2_with fail
  clear Ua Ub Uc Ud Ue
  refine (Sign_any _ _ _ _ U14.out.num).mono ?_
  rintro e w44 ⟨rfl, C⟩
  have K15 := hid (K14.out.go C)
  have X15 := hid (X14.out.go C)
  have Y15 := hid (Y14.out.go C)
  have Q15 := hid (Q14.out.go C)
  have R15 := hid (R14.out.go C)
  have S15 := hid (S14.out.go C)
  have T15 := hid (T14.out.go C)
  have U15 := hid (U14.out.go C)
  clear K14 X14 Y14 Q14 R14 S14 T14 U14
  clear C
  have s0 : sgn 0 = 0 := rfl
  rw [s0]
  clear s0
  go_wp2_with fail
  refine (awake_any _ K15.out.tab).mono ?_
  rintro e w50 ⟨rfl, C⟩
  have K16 := hid (K15.out.go C)
  have X16 := hid (X15.out.go C)
  have Y16 := hid (Y15.out.go C)
  have Q16 := hid (Q15.out.go C)
  have R16 := hid (R15.out.go C)
  have S16 := hid (S15.out.go C)
  have T16 := hid (T15.out.go C)
  have U16 := hid (U15.out.go C)
  clear K15 X15 Y15 Q15 R15 S15 T15 U15
  clear C
  go_wp2
  go_ret
  exact ⟨rfl, hg ▸ K16.out.old⟩
set_option maxHeartbeats 1600000 in
set_option maxRecDepth 100000 in
theorem divides_law (na : Bool) (aa : Option Addr) (n ca : Nat) (xa : Nat → Int) (oa : Nat) (nb : Bool) (ab : Option Addr) (m cb : Nat) (xb : Nat → Int) (ob : Nat) (u : Nat) (w : World)
    (ha : Sl w (.slice aa n ca) n xa oa) (hb : Sl w (.slice ab m cb) m xb ob) (ht : Tab w) (hu : u ≤ 18446744073709551615) :
    Calls Tryz.prog 3 #[.agg #[.bool na, .slice aa n ca], .agg #[.bool nb, .slice ab m cb], .int .u64 u] w fun e w' => e = .returned (.bool true) ∧ Below w.heap.size w w' := by
  by_cases hn : n ≤ 8
  · by_cases hm : m ≤ 8
    · by_cases hB : sg nb (V xb ob m) = 0
      · by_cases hU : u = 0
        · subst hU
          exact divides_d na aa n ca xa oa nb ab m cb xb ob 0 _ _ w ha hb hn hm ht rfl rfl hu hB rfl
        · exact divides_c na aa n ca xa oa nb ab m cb xb ob u _ _ w ha hb hn hm ht rfl rfl hu hB (by omega)
      · by_cases hU : u = 0
        · subst hU
          exact divides_b na aa n ca xa oa nb ab m cb xb ob 0 _ _ w ha hb hn hm ht rfl rfl hu hB rfl
        · exact divides_a na aa n ca xa oa nb ab m cb xb ob u _ _ w ha hb hn hm ht rfl rfl hu hB (by omega)
    · have h0 : Below w.heap.size w ((w.alloc (.cells #[.bool na, .slice aa n ca] 25)).alloc (.cells #[.bool nb, .slice ab m cb] 25)) := bt (below_new w _) (below_new _ _)
      have B := hid h0
      have HT := hid ht
      have FA := hid (few_any na aa n ca)
      have FB := hid (few_any nb ab m cb)
      have GB : Hid (Blk ((w.alloc (.cells #[.bool na, .slice aa n ca] 25)).alloc (.cells #[.bool nb, .slice ab m cb] 25)) (w.heap.size + 1) #[.bool nb, .slice ab m cb] 25) := by
        have := Blk.new (w.alloc (.cells #[.bool na, .slice aa n ca] 25)) #[.bool nb, .slice ab m cb] 25
        rw [World.size_alloc] at this
        exact this
      rw [decide_eq_true hn] at FA
      rw [decide_eq_false hm] at FB
      clear h0 ht ha hb hn hm
      go_enter Tryz.func3, Tryz.ntmps3
      go_wp2_with fail
      generalize (w.alloc (.cells #[.bool na, .slice aa n ca] 25)).alloc (.cells #[.bool nb, .slice ab m cb] 25) = wa at *
      refine (FA.out _).mono ?_
      rintro e w1 ⟨rfl, C⟩
      have B1 := hid (bt B.out C)
      obtain ⟨k0, k1, k2, k3, k4⟩ := Blk.two (GB.out.go2 C)
      clear C B
      go_wp2_with fail
      refine (FB.out _).mono ?_
      rintro e w2 ⟨rfl, C⟩
      have B2 := hid (bt B1.out C)
      clear C B1 k0 k1 k2 k3 k4
      go_wp2_with fail
      refine (awake_any _ (HT.out.below B2.out HT.out.lt)).mono ?_
      rintro e w7 ⟨rfl, C7⟩
      have B7 := hid (bt B2.out C7)
      clear C7
      go_wp2
      go_ret
      exact ⟨rfl, B7.out⟩
  · have h0 : Below w.heap.size w ((w.alloc (.cells #[.bool na, .slice aa n ca] 25)).alloc (.cells #[.bool nb, .slice ab m cb] 25)) := bt (below_new w _) (below_new _ _)
    have B := hid h0
    have HT := hid ht
    have FA := hid (few_any na aa n ca)
    rw [decide_eq_false hn] at FA
    clear h0 ht ha hb hn
    go_enter Tryz.func3, Tryz.ntmps3
    go_wp2_with fail
    generalize (w.alloc (.cells #[.bool na, .slice aa n ca] 25)).alloc (.cells #[.bool nb, .slice ab m cb] 25) = wa at *
    refine (FA.out _).mono ?_
    rintro e w1 ⟨rfl, C⟩
    have B2 := hid (bt B.out C)
    clear C B
    go_wp2_with fail
    refine (awake_any _ (HT.out.below B2.out HT.out.lt)).mono ?_
    rintro e w7 ⟨rfl, C7⟩
    have B7 := hid (bt B2.out C7)
    clear C7
    go_wp2
    go_ret
    exact ⟨rfl, B7.out⟩
end Go.Proofs.YtnaiahjgdakneaaGreatDoor
