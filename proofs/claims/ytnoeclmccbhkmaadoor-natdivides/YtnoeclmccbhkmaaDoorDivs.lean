/- The walk of 'NatDivides': it answers true, and writes into nothing that was there. -/
import Derived.Test.YtnoeclmccbhkmaaDoorRefq
import Derived.Test.YtnoeclmccbhkmaaDoorAwk
import Derived.Test.YtnoeclmccbhkmaaDoorLong
namespace Go.Proofs.YtnoeclmccbhkmaaDoor
open Go.RowKit Num
open Go.Lib (decDigits)
theorem qr_nat {a b q r : Int} (ha : 0 ≤ a) (hb : 0 < b) (h : q * b + r = a) (h0 : 0 ≤ r) (h1 : r < b) : q = ((a.toNat / b.toNat : Nat) : Int) ∧ r = ((a.toNat % b.toNat : Nat) : Int) := by
  have h2 := (Int.ediv_emod_unique (a := a) (r := r) (q := q) hb).2 ⟨by rw [Int.mul_comm]; omega, h0, h1⟩
  rw [Int.natCast_ediv, Int.natCast_emod, Int.toNat_of_nonneg ha, Int.toNat_of_nonneg (by omega)]
  exact ⟨h2.1.symm, h2.2.symm⟩
theorem dt_zero_list : (dt 0).toList = [48] := by rw [dt_toList, dec_small (by decide)]; rfl
theorem dt_pos_list {b : Nat} (h : 0 < b) : ((dt b).toList == [48]) = false := by
  rw [beq_eq_false_iff_ne]
  intro e
  rw [dt_toList] at e
  have := dval_dec b
  rw [e] at this
  simp [dval] at this
  omega
set_option maxHeartbeats 3200000 in
set_option maxRecDepth 100000 in
theorem divs_00 (vx vy : Value) (n m : Nat) (a b : Int) (f : Nat) (w : World) (hx : Nt w vx n a) (hy : Nt w vy m b) (ht : Tab w) (hn : n ≤ 12) (hm : m ≤ 12) (hf : f ≤ 18446744073709551615) (hb : b = 0) (hw : f = 0) :
    Calls Tryd.prog 5 #[vx, vy, .int .u64 f] w fun e w' => e = .returned (.bool true) ∧ Below w.heap.size w w' := by
  have a0 := hx.nonneg
  have b0 := hy.nonneg
  have LA := hid (len_of (u := a.toNat) (k := n) (by have := hx.lt; omega))
  have LB := hid (len_of (u := b.toNat) (k := m) (by have := hy.lt; omega))
  have LF := hid (len_of (u := f) (k := 1) (by simp [P]; omega))
  rw [← dt_size] at LA LB LF
  subst hb
  subst hw
  have z1 := dt_zero_list
  have HX := hid hx
  have HY := hid hy
  have HT := hid ht
  obtain ⟨ao, ca, rfl⟩ := hx.shape
  obtain ⟨bo, cb, rfl⟩ := hy.shape
  have d1 : decide (n ≤ 12) = true := by simpa using hn
  have d2 : decide (m ≤ 12) = true := by simpa using hm
  have FW := hid (few_any ao bo n m ca cb w)
  rw [d1, d2] at FW
  clear hx hy ht d1 d2
  go_enter Tryd.func5, Tryd.ntmps5
  go_wp2_with fail
  refine FW.out.mono ?_
  rintro e wf ⟨rfl, rfl⟩
  clear FW
  go_wp2_with fail
  refine (of_any _ n a _ HX.out (by omega)).mono ?_
  rintro e w1 ⟨rfl, C1⟩
  replace HX := hid (HX.out.below C1)
  replace HY := hid (HY.out.below C1)
  replace HT := hid (HT.out.below C1 HT.out.lt)
  have T0 : Below wf.heap.size wf w1 := C1
  clear C1
  go_wp2_with fail
  refine (divMod_zero _ _ n m a _ HX.out HY.out).mono ?_
  rintro e w2 ⟨rfl, hwc⟩
  have C2 : Below w1.heap.size w1 w2 := by rw [hwc]; exact Below.refl _ _
  clear hwc
  clear HX
  replace HY := hid (HY.out.below C2)
  replace HT := hid (HT.out.below C2 HT.out.lt)
  replace T0 : Below wf.heap.size wf w2 := T0.trans (C2.mono T0.size)
  clear C2
  go_wp2_with fail
  refine (divWord_zero _ _).mono ?_
  rintro e w3 ⟨rfl, hwc⟩
  have C3 : Below w2.heap.size w2 w3 := by rw [hwc]; exact Below.refl _ _
  clear hwc
  replace HY := hid (HY.out.below C3)
  replace HT := hid (HT.out.below C3 HT.out.lt)
  replace T0 : Below wf.heap.size wf w3 := T0.trans (C3.mono T0.size)
  clear C3
  go_wp2_with fail
  refine (of_any _ m 0 _ HY.out (by omega)).mono ?_
  rintro e w4 ⟨rfl, C4⟩
  rw [show (0 : Int).toNat = 0 from rfl]
  clear HY
  replace HT := hid (HT.out.below C4 HT.out.lt)
  replace T0 : Below wf.heap.size wf w4 := T0.trans (C4.mono T0.size)
  clear C4
  go_wp2_with fail
  refine (awake_any _ HT.out).mono ?_
  rintro e w5 ⟨rfl, C5⟩
  replace HT := hid (HT.out.below C5 HT.out.lt)
  replace T0 : Below wf.heap.size wf w5 := T0.trans (C5.mono T0.size)
  clear C5
  go_wp2
  go_ret
  exact ⟨rfl, T0⟩
set_option maxHeartbeats 3200000 in
set_option maxRecDepth 100000 in
theorem divs_01 (vx vy : Value) (n m : Nat) (a b : Int) (f : Nat) (w : World) (hx : Nt w vx n a) (hy : Nt w vy m b) (ht : Tab w) (hn : n ≤ 12) (hm : m ≤ 12) (hf : f ≤ 18446744073709551615) (hb : b = 0) (hw : 0 < f) :
    Calls Tryd.prog 5 #[vx, vy, .int .u64 f] w fun e w' => e = .returned (.bool true) ∧ Below w.heap.size w w' := by
  have a0 := hx.nonneg
  have b0 := hy.nonneg
  have LA := hid (len_of (u := a.toNat) (k := n) (by have := hx.lt; omega))
  have LB := hid (len_of (u := b.toNat) (k := m) (by have := hy.lt; omega))
  have LF := hid (len_of (u := f) (k := 1) (by simp [P]; omega))
  rw [← dt_size] at LA LB LF
  subst hb
  have z1 := dt_zero_list
  have z2 : ((f : Int) == 0) = false := by rw [beq_eq_false_iff_ne]; omega
  have HX := hid hx
  have HY := hid hy
  have HT := hid ht
  obtain ⟨ao, ca, rfl⟩ := hx.shape
  obtain ⟨bo, cb, rfl⟩ := hy.shape
  have d1 : decide (n ≤ 12) = true := by simpa using hn
  have d2 : decide (m ≤ 12) = true := by simpa using hm
  have FW := hid (few_any ao bo n m ca cb w)
  rw [d1, d2] at FW
  clear hx hy ht d1 d2
  go_enter Tryd.func5, Tryd.ntmps5
  go_wp2_with fail
  refine FW.out.mono ?_
  rintro e wf ⟨rfl, rfl⟩
  clear FW
  go_wp2_with fail
  refine (of_any _ n a _ HX.out (by omega)).mono ?_
  rintro e w1 ⟨rfl, C1⟩
  replace HX := hid (HX.out.below C1)
  replace HY := hid (HY.out.below C1)
  replace HT := hid (HT.out.below C1 HT.out.lt)
  have T0 : Below wf.heap.size wf w1 := C1
  clear C1
  go_wp2_with fail
  refine (divMod_zero _ _ n m a _ HX.out HY.out).mono ?_
  rintro e w2 ⟨rfl, hwc⟩
  have C2 : Below w1.heap.size w1 w2 := by rw [hwc]; exact Below.refl _ _
  clear hwc
  replace HX := hid (HX.out.below C2)
  replace HY := hid (HY.out.below C2)
  replace HT := hid (HT.out.below C2 HT.out.lt)
  replace T0 : Below wf.heap.size wf w2 := T0.trans (C2.mono T0.size)
  clear C2
  go_wp2_with fail
  refine (divWord_any _ n a f _ HX.out (by omega) (by omega) (by omega)).mono ?_
  rintro e w3 ⟨vp, kp, p, rr, rfl, IP, e2, s0, s1, lp, C3⟩
  obtain ⟨po, pc, rfl⟩ := IP.shape
  have PR := hid (qr_nat a0 (show (0 : Int) < f by omega) e2 s0 s1)
  rw [Int.toNat_natCast] at PR
  obtain ⟨rn, rfl⟩ := Int.eq_ofNat_of_zero_le s0
  have s2 : rn ≤ 18446744073709551615 := by omega
  clear e2 s0 s1
  have HP := hid IP; clear IP
  clear HX
  replace HY := hid (HY.out.below C3)
  replace HT := hid (HT.out.below C3 HT.out.lt)
  replace T0 : Below wf.heap.size wf w3 := T0.trans (C3.mono T0.size)
  clear C3
  go_wp2_with fail
  refine (of_any _ m 0 _ HY.out (by omega)).mono ?_
  rintro e w4 ⟨rfl, C4⟩
  rw [show (0 : Int).toNat = 0 from rfl]
  clear HY
  replace HP := hid (HP.out.below C4)
  replace HT := hid (HT.out.below C4 HT.out.lt)
  replace T0 : Below wf.heap.size wf w4 := T0.trans (C4.mono T0.size)
  clear C4
  go_wp2_with fail
  refine (rword_any f _ (by omega)).mono ?_
  rintro e w5 ⟨rfl, C5⟩
  replace HP := hid (HP.out.below C5)
  replace HT := hid (HT.out.below C5 HT.out.lt)
  replace T0 : Below wf.heap.size wf w5 := T0.trans (C5.mono T0.size)
  clear C5
  go_wp2_with fail
  refine (rdiv_any a.toNat f _ (by omega) (by have := LA.out; omega) (by have := LF.out; omega)).mono ?_
  rintro e w6 ⟨rfl, C6⟩
  replace HP := hid (HP.out.below C6)
  replace HT := hid (HT.out.below C6 HT.out.lt)
  replace T0 : Below wf.heap.size wf w6 := T0.trans (C6.mono T0.size)
  clear C6
  go_wp2_with fail
  refine (is_any _ kp p (a.toNat / f) _ HP.out (by omega) PR.out.1).mono ?_
  rintro e w7 ⟨rfl, C7⟩
  clear HP
  replace HT := hid (HT.out.below C7 HT.out.lt)
  replace T0 : Below wf.heap.size wf w7 := T0.trans (C7.mono T0.size)
  clear C7
  go_wp2_with fail
  refine (rword_any rn _ (by omega)).mono ?_
  rintro e w8 ⟨rfl, C8⟩
  rw [show rn = a.toNat % f by have := PR.out.2; omega]
  replace HT := hid (HT.out.below C8 HT.out.lt)
  replace T0 : Below wf.heap.size wf w8 := T0.trans (C8.mono T0.size)
  clear C8
  go_wp2_with fail
  refine (awake_any _ HT.out).mono ?_
  rintro e w9 ⟨rfl, C9⟩
  replace HT := hid (HT.out.below C9 HT.out.lt)
  replace T0 : Below wf.heap.size wf w9 := T0.trans (C9.mono T0.size)
  clear C9
  go_wp2
  go_ret
  exact ⟨rfl, T0⟩
set_option maxHeartbeats 3200000 in
set_option maxRecDepth 100000 in
theorem divs_10 (vx vy : Value) (n m : Nat) (a b : Int) (f : Nat) (w : World) (hx : Nt w vx n a) (hy : Nt w vy m b) (ht : Tab w) (hn : n ≤ 12) (hm : m ≤ 12) (hf : f ≤ 18446744073709551615) (hb : 0 < b) (hw : f = 0) :
    Calls Tryd.prog 5 #[vx, vy, .int .u64 f] w fun e w' => e = .returned (.bool true) ∧ Below w.heap.size w w' := by
  have a0 := hx.nonneg
  have b0 := hy.nonneg
  have LA := hid (len_of (u := a.toNat) (k := n) (by have := hx.lt; omega))
  have LB := hid (len_of (u := b.toNat) (k := m) (by have := hy.lt; omega))
  have LF := hid (len_of (u := f) (k := 1) (by simp [P]; omega))
  rw [← dt_size] at LA LB LF
  subst hw
  have z1 := dt_pos_list (show 0 < b.toNat by omega)
  have HX := hid hx
  have HY := hid hy
  have HT := hid ht
  obtain ⟨ao, ca, rfl⟩ := hx.shape
  obtain ⟨bo, cb, rfl⟩ := hy.shape
  have d1 : decide (n ≤ 12) = true := by simpa using hn
  have d2 : decide (m ≤ 12) = true := by simpa using hm
  have FW := hid (few_any ao bo n m ca cb w)
  rw [d1, d2] at FW
  clear hx hy ht d1 d2
  go_enter Tryd.func5, Tryd.ntmps5
  go_wp2_with fail
  refine FW.out.mono ?_
  rintro e wf ⟨rfl, rfl⟩
  clear FW
  go_wp2_with fail
  refine (of_any _ n a _ HX.out (by omega)).mono ?_
  rintro e w1 ⟨rfl, C1⟩
  replace HX := hid (HX.out.below C1)
  replace HY := hid (HY.out.below C1)
  replace HT := hid (HT.out.below C1 HT.out.lt)
  have T0 : Below wf.heap.size wf w1 := C1
  clear C1
  go_wp2_with fail
  refine (divMod_any _ _ n m a b _ HX.out HY.out (by omega) (by omega) hb (fun _ => long_said)).mono ?_
  rintro e w2 ⟨vq, vl, kq, kl, q, r, rfl, IQ, IL, e1, r0, r1, lq, ll, C2⟩
  obtain ⟨qo, qc, rfl⟩ := IQ.shape
  obtain ⟨lo, lc, rfl⟩ := IL.shape
  have QR := hid (qr_nat a0 hb e1 r0 r1)
  clear e1 r0 r1
  have HQ := hid IQ; clear IQ
  have HL := hid IL; clear IL
  clear HX
  replace HY := hid (HY.out.below C2)
  replace HT := hid (HT.out.below C2 HT.out.lt)
  replace T0 : Below wf.heap.size wf w2 := T0.trans (C2.mono T0.size)
  clear C2
  go_wp2_with fail
  refine (divWord_zero _ _).mono ?_
  rintro e w3 ⟨rfl, hwc⟩
  have C3 : Below w2.heap.size w2 w3 := by rw [hwc]; exact Below.refl _ _
  clear hwc
  replace HY := hid (HY.out.below C3)
  replace HQ := hid (HQ.out.below C3)
  replace HL := hid (HL.out.below C3)
  replace HT := hid (HT.out.below C3 HT.out.lt)
  replace T0 : Below wf.heap.size wf w3 := T0.trans (C3.mono T0.size)
  clear C3
  go_wp2_with fail
  refine (of_any _ m b _ HY.out (by omega)).mono ?_
  rintro e w4 ⟨rfl, C4⟩
  replace HY := hid (HY.out.below C4)
  replace HQ := hid (HQ.out.below C4)
  replace HL := hid (HL.out.below C4)
  replace HT := hid (HT.out.below C4 HT.out.lt)
  replace T0 : Below wf.heap.size wf w4 := T0.trans (C4.mono T0.size)
  clear C4
  go_wp2_with fail
  refine (of_any _ m b _ HY.out (by omega)).mono ?_
  rintro e w5 ⟨rfl, C5⟩
  clear HY
  replace HQ := hid (HQ.out.below C5)
  replace HL := hid (HL.out.below C5)
  replace HT := hid (HT.out.below C5 HT.out.lt)
  replace T0 : Below wf.heap.size wf w5 := T0.trans (C5.mono T0.size)
  clear C5
  go_wp2_with fail
  refine (rdiv_any a.toNat b.toNat _ (by omega) (by have := LA.out; omega) (by have := LB.out; omega)).mono ?_
  rintro e w6 ⟨rfl, C6⟩
  replace HQ := hid (HQ.out.below C6)
  replace HL := hid (HL.out.below C6)
  replace HT := hid (HT.out.below C6 HT.out.lt)
  replace T0 : Below wf.heap.size wf w6 := T0.trans (C6.mono T0.size)
  clear C6
  go_wp2_with fail
  refine (is_any _ kq q (a.toNat / b.toNat) _ HQ.out (by omega) QR.out.1).mono ?_
  rintro e w7 ⟨rfl, C7⟩
  clear HQ
  replace HL := hid (HL.out.below C7)
  replace HT := hid (HT.out.below C7 HT.out.lt)
  replace T0 : Below wf.heap.size wf w7 := T0.trans (C7.mono T0.size)
  clear C7
  go_wp2_with fail
  refine (is_any _ kl r (a.toNat % b.toNat) _ HL.out (by omega) QR.out.2).mono ?_
  rintro e w8 ⟨rfl, C8⟩
  clear HL
  replace HT := hid (HT.out.below C8 HT.out.lt)
  replace T0 : Below wf.heap.size wf w8 := T0.trans (C8.mono T0.size)
  clear C8
  go_wp2_with fail
  refine (awake_any _ HT.out).mono ?_
  rintro e w9 ⟨rfl, C9⟩
  replace HT := hid (HT.out.below C9 HT.out.lt)
  replace T0 : Below wf.heap.size wf w9 := T0.trans (C9.mono T0.size)
  clear C9
  go_wp2
  go_ret
  exact ⟨rfl, T0⟩
set_option maxHeartbeats 3200000 in
set_option maxRecDepth 100000 in
theorem divs_11 (vx vy : Value) (n m : Nat) (a b : Int) (f : Nat) (w : World) (hx : Nt w vx n a) (hy : Nt w vy m b) (ht : Tab w) (hn : n ≤ 12) (hm : m ≤ 12) (hf : f ≤ 18446744073709551615) (hb : 0 < b) (hw : 0 < f) :
    Calls Tryd.prog 5 #[vx, vy, .int .u64 f] w fun e w' => e = .returned (.bool true) ∧ Below w.heap.size w w' := by
  have a0 := hx.nonneg
  have b0 := hy.nonneg
  have LA := hid (len_of (u := a.toNat) (k := n) (by have := hx.lt; omega))
  have LB := hid (len_of (u := b.toNat) (k := m) (by have := hy.lt; omega))
  have LF := hid (len_of (u := f) (k := 1) (by simp [P]; omega))
  rw [← dt_size] at LA LB LF
  have z1 := dt_pos_list (show 0 < b.toNat by omega)
  have z2 : ((f : Int) == 0) = false := by rw [beq_eq_false_iff_ne]; omega
  have HX := hid hx
  have HY := hid hy
  have HT := hid ht
  obtain ⟨ao, ca, rfl⟩ := hx.shape
  obtain ⟨bo, cb, rfl⟩ := hy.shape
  have d1 : decide (n ≤ 12) = true := by simpa using hn
  have d2 : decide (m ≤ 12) = true := by simpa using hm
  have FW := hid (few_any ao bo n m ca cb w)
  rw [d1, d2] at FW
  clear hx hy ht d1 d2
  go_enter Tryd.func5, Tryd.ntmps5
  go_wp2_with fail
  refine FW.out.mono ?_
  rintro e wf ⟨rfl, rfl⟩
  clear FW
  go_wp2_with fail
  refine (of_any _ n a _ HX.out (by omega)).mono ?_
  rintro e w1 ⟨rfl, C1⟩
  replace HX := hid (HX.out.below C1)
  replace HY := hid (HY.out.below C1)
  replace HT := hid (HT.out.below C1 HT.out.lt)
  have T0 : Below wf.heap.size wf w1 := C1
  clear C1
  go_wp2_with fail
  refine (divMod_any _ _ n m a b _ HX.out HY.out (by omega) (by omega) hb (fun _ => long_said)).mono ?_
  rintro e w2 ⟨vq, vl, kq, kl, q, r, rfl, IQ, IL, e1, r0, r1, lq, ll, C2⟩
  obtain ⟨qo, qc, rfl⟩ := IQ.shape
  obtain ⟨lo, lc, rfl⟩ := IL.shape
  have QR := hid (qr_nat a0 hb e1 r0 r1)
  clear e1 r0 r1
  have HQ := hid IQ; clear IQ
  have HL := hid IL; clear IL
  replace HX := hid (HX.out.below C2)
  replace HY := hid (HY.out.below C2)
  replace HT := hid (HT.out.below C2 HT.out.lt)
  replace T0 : Below wf.heap.size wf w2 := T0.trans (C2.mono T0.size)
  clear C2
  go_wp2_with fail
  refine (divWord_any _ n a f _ HX.out (by omega) (by omega) (by omega)).mono ?_
  rintro e w3 ⟨vp, kp, p, rr, rfl, IP, e2, s0, s1, lp, C3⟩
  obtain ⟨po, pc, rfl⟩ := IP.shape
  have PR := hid (qr_nat a0 (show (0 : Int) < f by omega) e2 s0 s1)
  rw [Int.toNat_natCast] at PR
  obtain ⟨rn, rfl⟩ := Int.eq_ofNat_of_zero_le s0
  have s2 : rn ≤ 18446744073709551615 := by omega
  clear e2 s0 s1
  have HP := hid IP; clear IP
  clear HX
  replace HY := hid (HY.out.below C3)
  replace HQ := hid (HQ.out.below C3)
  replace HL := hid (HL.out.below C3)
  replace HT := hid (HT.out.below C3 HT.out.lt)
  replace T0 : Below wf.heap.size wf w3 := T0.trans (C3.mono T0.size)
  clear C3
  go_wp2_with fail
  refine (of_any _ m b _ HY.out (by omega)).mono ?_
  rintro e w4 ⟨rfl, C4⟩
  replace HY := hid (HY.out.below C4)
  replace HQ := hid (HQ.out.below C4)
  replace HL := hid (HL.out.below C4)
  replace HP := hid (HP.out.below C4)
  replace HT := hid (HT.out.below C4 HT.out.lt)
  replace T0 : Below wf.heap.size wf w4 := T0.trans (C4.mono T0.size)
  clear C4
  go_wp2_with fail
  refine (of_any _ m b _ HY.out (by omega)).mono ?_
  rintro e w5 ⟨rfl, C5⟩
  clear HY
  replace HQ := hid (HQ.out.below C5)
  replace HL := hid (HL.out.below C5)
  replace HP := hid (HP.out.below C5)
  replace HT := hid (HT.out.below C5 HT.out.lt)
  replace T0 : Below wf.heap.size wf w5 := T0.trans (C5.mono T0.size)
  clear C5
  go_wp2_with fail
  refine (rdiv_any a.toNat b.toNat _ (by omega) (by have := LA.out; omega) (by have := LB.out; omega)).mono ?_
  rintro e w6 ⟨rfl, C6⟩
  replace HQ := hid (HQ.out.below C6)
  replace HL := hid (HL.out.below C6)
  replace HP := hid (HP.out.below C6)
  replace HT := hid (HT.out.below C6 HT.out.lt)
  replace T0 : Below wf.heap.size wf w6 := T0.trans (C6.mono T0.size)
  clear C6
  go_wp2_with fail
  refine (is_any _ kq q (a.toNat / b.toNat) _ HQ.out (by omega) QR.out.1).mono ?_
  rintro e w7 ⟨rfl, C7⟩
  clear HQ
  replace HL := hid (HL.out.below C7)
  replace HP := hid (HP.out.below C7)
  replace HT := hid (HT.out.below C7 HT.out.lt)
  replace T0 : Below wf.heap.size wf w7 := T0.trans (C7.mono T0.size)
  clear C7
  go_wp2_with fail
  refine (is_any _ kl r (a.toNat % b.toNat) _ HL.out (by omega) QR.out.2).mono ?_
  rintro e w8 ⟨rfl, C8⟩
  clear HL
  replace HP := hid (HP.out.below C8)
  replace HT := hid (HT.out.below C8 HT.out.lt)
  replace T0 : Below wf.heap.size wf w8 := T0.trans (C8.mono T0.size)
  clear C8
  go_wp2_with fail
  refine (rword_any f _ (by omega)).mono ?_
  rintro e w9 ⟨rfl, C9⟩
  replace HP := hid (HP.out.below C9)
  replace HT := hid (HT.out.below C9 HT.out.lt)
  replace T0 : Below wf.heap.size wf w9 := T0.trans (C9.mono T0.size)
  clear C9
  go_wp2_with fail
  refine (rdiv_any a.toNat f _ (by omega) (by have := LA.out; omega) (by have := LF.out; omega)).mono ?_
  rintro e w10 ⟨rfl, C10⟩
  replace HP := hid (HP.out.below C10)
  replace HT := hid (HT.out.below C10 HT.out.lt)
  replace T0 : Below wf.heap.size wf w10 := T0.trans (C10.mono T0.size)
  clear C10
  go_wp2_with fail
  refine (is_any _ kp p (a.toNat / f) _ HP.out (by omega) PR.out.1).mono ?_
  rintro e w11 ⟨rfl, C11⟩
  clear HP
  replace HT := hid (HT.out.below C11 HT.out.lt)
  replace T0 : Below wf.heap.size wf w11 := T0.trans (C11.mono T0.size)
  clear C11
  go_wp2_with fail
  refine (rword_any rn _ (by omega)).mono ?_
  rintro e w12 ⟨rfl, C12⟩
  rw [show rn = a.toNat % f by have := PR.out.2; omega]
  replace HT := hid (HT.out.below C12 HT.out.lt)
  replace T0 : Below wf.heap.size wf w12 := T0.trans (C12.mono T0.size)
  clear C12
  go_wp2_with fail
  refine (awake_any _ HT.out).mono ?_
  rintro e w13 ⟨rfl, C13⟩
  replace HT := hid (HT.out.below C13 HT.out.lt)
  replace T0 : Below wf.heap.size wf w13 := T0.trans (C13.mono T0.size)
  clear C13
  go_wp2
  go_ret
  exact ⟨rfl, T0⟩
set_option maxHeartbeats 1600000 in
set_option maxRecDepth 100000 in
theorem divs_many (vx vy : Value) (n m : Nat) (a b : Int) (f : Nat) (w : World) (hx : Nt w vx n a) (hy : Nt w vy m b) (ht : Tab w) (h : ¬ (n ≤ 12 ∧ m ≤ 12)) :
    Calls Tryd.prog 5 #[vx, vy, .int .u64 f] w fun e w' => e = .returned (.bool true) ∧ Below w.heap.size w w' := by
  have HT := hid ht
  obtain ⟨ao, ca, rfl⟩ := hx.shape
  obtain ⟨bo, cb, rfl⟩ := hy.shape
  have FW := hid (few_any ao bo n m ca cb w)
  rw [show (decide (n ≤ 12) && decide (m ≤ 12)) = false by simpa using h] at FW
  clear hx hy ht h
  go_enter Tryd.func5, Tryd.ntmps5
  go_wp2_with fail
  refine FW.out.mono ?_
  rintro e wf ⟨rfl, rfl⟩
  clear FW
  go_wp2_with fail
  refine (awake_any _ HT.out).mono ?_
  rintro e w1 ⟨rfl, C1⟩
  go_wp2
  go_ret
  exact ⟨rfl, C1⟩
theorem divslaw_any (vx vy : Value) (n m : Nat) (a b : Int) (f : Nat) (w : World) (hx : Nt w vx n a) (hy : Nt w vy m b) (ht : Tab w) (hf : f ≤ 18446744073709551615) :
    Calls Tryd.prog 5 #[vx, vy, .int .u64 f] w fun e w' => e = .returned (.bool true) ∧ Below w.heap.size w w' := by
  have b0 := hy.nonneg
  by_cases h : n ≤ 12 ∧ m ≤ 12
  · by_cases hb : b = 0
    · by_cases hw : f = 0
      · exact divs_00 vx vy n m a b f w hx hy ht h.1 h.2 hf hb hw
      · exact divs_01 vx vy n m a b f w hx hy ht h.1 h.2 hf hb (by omega)
    · by_cases hw : f = 0
      · exact divs_10 vx vy n m a b f w hx hy ht h.1 h.2 hf (by omega) hw
      · exact divs_11 vx vy n m a b f w hx hy ht h.1 h.2 hf (by omega) (by omega)
  · exact divs_many vx vy n m a b f w hx hy ht h
end Go.Proofs.YtnoeclmccbhkmaaDoor
