/- The walk of 'NatAdds': it answers true, and writes into nothing that was there. -/
import Derived.Test.YtnoeclmccbhkmaaDoorRefp
import Derived.Test.YtnoeclmccbhkmaaDoorAwk
import Derived.Test.YtnoeclmccbhkmaaDoorSub
namespace Go.Proofs.YtnoeclmccbhkmaaDoor
open Go.RowKit Num
open Go.Lib (decDigits)
set_option maxHeartbeats 3200000 in
set_option maxRecDepth 100000 in
theorem adds_less (vx vy : Value) (n m : Nat) (a b : Int) (w : World) (hx : Nt w vx n a) (hy : Nt w vy m b) (ht : Tab w) (hn : n ≤ 12) (hm : m ≤ 12) (hlt : a < b) :
    Calls Tryd.prog 3 #[vx, vy] w fun e w' => e = .returned (.bool true) ∧ Below w.heap.size w w' := by
  have a0 := hx.nonneg
  have b0 := hy.nonneg
  have LA := hid (len_of (u := a.toNat) (k := n) (by have := hx.lt; omega))
  have LB := hid (len_of (u := b.toNat) (k := m) (by have := hy.lt; omega))
  rw [← dt_size] at LA LB
  have EC := hid (show cmpI (a.toNat : Int) (b.toNat : Int) = cmpI a b by rw [Int.toNat_of_nonneg a0, Int.toNat_of_nonneg b0])
  have EL : Hid (cmpI a b = -1) := cmpI_lt hlt
  have HX := hid hx
  have HY := hid hy
  have HT := hid ht
  obtain ⟨ao, ca, rfl⟩ := hx.shape
  obtain ⟨bo, cb, rfl⟩ := hy.shape
  have d1 : decide (n ≤ 12) = true := by simpa using hn
  have d2 : decide (m ≤ 12) = true := by simpa using hm
  have FW := hid (few_any ao bo n m ca cb w)
  rw [d1, d2] at FW
  clear hx hy ht d1 d2
  go_enter Tryd.func3, Tryd.ntmps3
  go_wp2_with fail
  refine FW.out.mono ?_
  rintro e wf ⟨rfl, rfl⟩
  clear FW
  go_wp2_with fail
  refine (of_any _ n a _ HX.out (by omega)).mono ?_
  rintro e w1 ⟨rfl, C1⟩
  replace HX := hid (HX.out.below C1)
  replace HY := hid (HY.out.below C1)
  replace HT := hid (HT.out.below C1 HT.out.lt)
  have T0 : Below wf.heap.size wf w1 := C1
  clear C1
  go_wp2_with fail
  refine (of_any _ m b _ HY.out (by omega)).mono ?_
  rintro e w2 ⟨rfl, C2⟩
  replace HX := hid (HX.out.below C2)
  replace HY := hid (HY.out.below C2)
  replace HT := hid (HT.out.below C2 HT.out.lt)
  replace T0 : Below wf.heap.size wf w2 := T0.trans (C2.mono T0.size)
  clear C2
  go_wp2_with fail
  refine (norm_any _ n a _ HX.out (by omega)).mono ?_
  rintro e w3 ⟨kn, Xn, rfl, r1, r2, r3, r4, hkn, C3, _⟩
  have IN := Nz.of_row r1 r2 r3 r4 (by omega); clear r1 r2 r3 r4
  have HN := hid IN; clear IN
  replace HX := hid (HX.out.below C3)
  replace HY := hid (HY.out.below C3)
  replace HT := hid (HT.out.below C3 HT.out.lt)
  replace T0 : Below wf.heap.size wf w3 := T0.trans (C3.mono T0.size)
  clear C3
  go_wp2_with fail
  refine (is_any _ kn a a.toNat _ HN.out (by omega) (by omega)).mono ?_
  rintro e w4 ⟨rfl, C4⟩
  replace HX := hid (HX.out.below C4)
  replace HY := hid (HY.out.below C4)
  clear HN
  replace HT := hid (HT.out.below C4 HT.out.lt)
  replace T0 : Below wf.heap.size wf w4 := T0.trans (C4.mono T0.size)
  clear C4
  go_wp2_with fail
  refine (add_any _ _ n m a b _ HX.out HY.out (by omega) (by omega)).mono ?_
  rintro e w5 ⟨vs, ks, rfl, IS, hks, C5⟩
  obtain ⟨so, sc, rfl⟩ := IS.shape
  have HS := hid IS; clear IS
  replace HX := hid (HX.out.below C5)
  replace HY := hid (HY.out.below C5)
  replace HT := hid (HT.out.below C5 HT.out.lt)
  replace T0 : Below wf.heap.size wf w5 := T0.trans (C5.mono T0.size)
  clear C5
  go_wp2_with fail
  refine (add_dt a.toNat b.toNat _ (by have := LA.out; omega) (by have := LB.out; omega)).mono ?_
  rintro e w6 ⟨rfl, C6⟩
  replace HX := hid (HX.out.below C6)
  replace HY := hid (HY.out.below C6)
  replace HS := hid (HS.out.below C6)
  replace HT := hid (HT.out.below C6 HT.out.lt)
  replace T0 : Below wf.heap.size wf w6 := T0.trans (C6.mono T0.size)
  clear C6
  go_wp2_with fail
  refine (is_any _ ks (a + b) (a.toNat + b.toNat) _ HS.out (by omega) (by omega)).mono ?_
  rintro e w7 ⟨rfl, C7⟩
  replace HX := hid (HX.out.below C7)
  replace HY := hid (HY.out.below C7)
  clear HS
  replace HT := hid (HT.out.below C7 HT.out.lt)
  replace T0 : Below wf.heap.size wf w7 := T0.trans (C7.mono T0.size)
  clear C7
  go_wp2_with fail
  refine (cmp_nt _ _ n m a b _ HX.out HY.out).mono ?_
  rintro e w8 ⟨rfl, ic, hwc⟩
  have C8 : Below w7.heap.size w7 w8 := by rw [hwc]; exact below_drewN (Below.refl _ _) ic
  clear hwc
  replace HX := hid (HX.out.below C8)
  replace HY := hid (HY.out.below C8)
  replace HT := hid (HT.out.below C8 HT.out.lt)
  replace T0 : Below wf.heap.size wf w8 := T0.trans (C8.mono T0.size)
  clear C8
  go_wp2_with fail
  refine (rcmp_any a.toNat b.toNat _).mono ?_
  rintro e w9 ⟨rfl, hwc⟩
  have C9 : Below w8.heap.size w8 w9 := by rw [hwc]; exact Below.refl _ _
  clear hwc
  rw [EC.out]
  replace HX := hid (HX.out.below C9)
  replace HY := hid (HY.out.below C9)
  replace HT := hid (HT.out.below C9 HT.out.lt)
  replace T0 : Below wf.heap.size wf w9 := T0.trans (C9.mono T0.size)
  clear C9
  go_wp2_with fail
  refine (sub_less _ _ n m a b _ HX.out HY.out hlt).mono ?_
  rintro e w10 ⟨rfl, C10⟩
  clear HX
  clear HY
  replace HT := hid (HT.out.below C10 HT.out.lt)
  replace T0 : Below wf.heap.size wf w10 := T0.trans (C10.mono T0.size)
  clear C10
  go_wp2_with fail
  refine (rcmp_any a.toNat b.toNat _).mono ?_
  rintro e w11 ⟨rfl, hwc⟩
  have C11 : Below w10.heap.size w10 w11 := by rw [hwc]; exact Below.refl _ _
  clear hwc
  rw [EC.out, EL.out]
  replace HT := hid (HT.out.below C11 HT.out.lt)
  replace T0 : Below wf.heap.size wf w11 := T0.trans (C11.mono T0.size)
  clear C11
  go_wp2_with fail
  refine (awake_any _ HT.out).mono ?_
  rintro e w12 ⟨rfl, C12⟩
  replace HT := hid (HT.out.below C12 HT.out.lt)
  replace T0 : Below wf.heap.size wf w12 := T0.trans (C12.mono T0.size)
  clear C12
  go_wp2
  go_ret
  exact ⟨rfl, T0⟩
set_option maxHeartbeats 3200000 in
set_option maxRecDepth 100000 in
theorem adds_more (vx vy : Value) (n m : Nat) (a b : Int) (w : World) (hx : Nt w vx n a) (hy : Nt w vy m b) (ht : Tab w) (hn : n ≤ 12) (hm : m ≤ 12) (hlt : ¬ a < b) :
    Calls Tryd.prog 3 #[vx, vy] w fun e w' => e = .returned (.bool true) ∧ Below w.heap.size w w' := by
  have a0 := hx.nonneg
  have b0 := hy.nonneg
  have LA := hid (len_of (u := a.toNat) (k := n) (by have := hx.lt; omega))
  have LB := hid (len_of (u := b.toNat) (k := m) (by have := hy.lt; omega))
  rw [← dt_size] at LA LB
  have EC := hid (show cmpI (a.toNat : Int) (b.toNat : Int) = cmpI a b by rw [Int.toNat_of_nonneg a0, Int.toNat_of_nonneg b0])
  have hcg := cmpI_ge hlt
  have HX := hid hx
  have HY := hid hy
  have HT := hid ht
  obtain ⟨ao, ca, rfl⟩ := hx.shape
  obtain ⟨bo, cb, rfl⟩ := hy.shape
  have d1 : decide (n ≤ 12) = true := by simpa using hn
  have d2 : decide (m ≤ 12) = true := by simpa using hm
  have FW := hid (few_any ao bo n m ca cb w)
  rw [d1, d2] at FW
  clear hx hy ht d1 d2
  go_enter Tryd.func3, Tryd.ntmps3
  go_wp2_with fail
  refine FW.out.mono ?_
  rintro e wf ⟨rfl, rfl⟩
  clear FW
  go_wp2_with fail
  refine (of_any _ n a _ HX.out (by omega)).mono ?_
  rintro e w1 ⟨rfl, C1⟩
  replace HX := hid (HX.out.below C1)
  replace HY := hid (HY.out.below C1)
  replace HT := hid (HT.out.below C1 HT.out.lt)
  have T0 : Below wf.heap.size wf w1 := C1
  clear C1
  go_wp2_with fail
  refine (of_any _ m b _ HY.out (by omega)).mono ?_
  rintro e w2 ⟨rfl, C2⟩
  replace HX := hid (HX.out.below C2)
  replace HY := hid (HY.out.below C2)
  replace HT := hid (HT.out.below C2 HT.out.lt)
  replace T0 : Below wf.heap.size wf w2 := T0.trans (C2.mono T0.size)
  clear C2
  go_wp2_with fail
  refine (norm_any _ n a _ HX.out (by omega)).mono ?_
  rintro e w3 ⟨kn, Xn, rfl, r1, r2, r3, r4, hkn, C3, _⟩
  have IN := Nz.of_row r1 r2 r3 r4 (by omega); clear r1 r2 r3 r4
  have HN := hid IN; clear IN
  replace HX := hid (HX.out.below C3)
  replace HY := hid (HY.out.below C3)
  replace HT := hid (HT.out.below C3 HT.out.lt)
  replace T0 : Below wf.heap.size wf w3 := T0.trans (C3.mono T0.size)
  clear C3
  go_wp2_with fail
  refine (is_any _ kn a a.toNat _ HN.out (by omega) (by omega)).mono ?_
  rintro e w4 ⟨rfl, C4⟩
  replace HX := hid (HX.out.below C4)
  replace HY := hid (HY.out.below C4)
  clear HN
  replace HT := hid (HT.out.below C4 HT.out.lt)
  replace T0 : Below wf.heap.size wf w4 := T0.trans (C4.mono T0.size)
  clear C4
  go_wp2_with fail
  refine (add_any _ _ n m a b _ HX.out HY.out (by omega) (by omega)).mono ?_
  rintro e w5 ⟨vs, ks, rfl, IS, hks, C5⟩
  obtain ⟨so, sc, rfl⟩ := IS.shape
  have HS := hid IS; clear IS
  replace HX := hid (HX.out.below C5)
  replace HY := hid (HY.out.below C5)
  replace HT := hid (HT.out.below C5 HT.out.lt)
  replace T0 : Below wf.heap.size wf w5 := T0.trans (C5.mono T0.size)
  clear C5
  go_wp2_with fail
  refine (add_dt a.toNat b.toNat _ (by have := LA.out; omega) (by have := LB.out; omega)).mono ?_
  rintro e w6 ⟨rfl, C6⟩
  replace HX := hid (HX.out.below C6)
  replace HY := hid (HY.out.below C6)
  replace HS := hid (HS.out.below C6)
  replace HT := hid (HT.out.below C6 HT.out.lt)
  replace T0 : Below wf.heap.size wf w6 := T0.trans (C6.mono T0.size)
  clear C6
  go_wp2_with fail
  refine (is_any _ ks (a + b) (a.toNat + b.toNat) _ HS.out (by omega) (by omega)).mono ?_
  rintro e w7 ⟨rfl, C7⟩
  replace HX := hid (HX.out.below C7)
  replace HY := hid (HY.out.below C7)
  clear HS
  replace HT := hid (HT.out.below C7 HT.out.lt)
  replace T0 : Below wf.heap.size wf w7 := T0.trans (C7.mono T0.size)
  clear C7
  go_wp2_with fail
  refine (cmp_nt _ _ n m a b _ HX.out HY.out).mono ?_
  rintro e w8 ⟨rfl, ic, hwc⟩
  have C8 : Below w7.heap.size w7 w8 := by rw [hwc]; exact below_drewN (Below.refl _ _) ic
  clear hwc
  replace HX := hid (HX.out.below C8)
  replace HY := hid (HY.out.below C8)
  replace HT := hid (HT.out.below C8 HT.out.lt)
  replace T0 : Below wf.heap.size wf w8 := T0.trans (C8.mono T0.size)
  clear C8
  go_wp2_with fail
  refine (rcmp_any a.toNat b.toNat _).mono ?_
  rintro e w9 ⟨rfl, hwc⟩
  have C9 : Below w8.heap.size w8 w9 := by rw [hwc]; exact Below.refl _ _
  clear hwc
  rw [EC.out]
  replace HX := hid (HX.out.below C9)
  replace HY := hid (HY.out.below C9)
  replace HT := hid (HT.out.below C9 HT.out.lt)
  replace T0 : Below wf.heap.size wf w9 := T0.trans (C9.mono T0.size)
  clear C9
  go_wp2_with fail
  refine (sub_any _ _ n m a b _ HX.out HY.out (by omega) (by omega)).mono ?_
  rintro e w10 ⟨vd, kd, rfl, ID, hkd, C10⟩
  obtain ⟨dob, dc, rfl⟩ := ID.shape
  have HD := hid ID; clear ID
  clear HX
  clear HY
  replace HT := hid (HT.out.below C10 HT.out.lt)
  replace T0 : Below wf.heap.size wf w10 := T0.trans (C10.mono T0.size)
  clear C10
  go_wp2_with fail
  refine (rcmp_any a.toNat b.toNat _).mono ?_
  rintro e w11 ⟨rfl, hwc⟩
  have C11 : Below w10.heap.size w10 w11 := by rw [hwc]; exact Below.refl _ _
  clear hwc
  rw [EC.out]
  replace HD := hid (HD.out.below C11)
  replace HT := hid (HT.out.below C11 HT.out.lt)
  replace T0 : Below wf.heap.size wf w11 := T0.trans (C11.mono T0.size)
  clear C11
  go_wp2_with fail
  refine (rsub_any a.toNat b.toNat _ (by have := LA.out; omega) (by omega)).mono ?_
  rintro e w12 ⟨rfl, C12⟩
  replace HD := hid (HD.out.below C12)
  replace HT := hid (HT.out.below C12 HT.out.lt)
  replace T0 : Below wf.heap.size wf w12 := T0.trans (C12.mono T0.size)
  clear C12
  go_wp2_with fail
  refine (is_any _ kd (a - b) (a.toNat - b.toNat) _ HD.out (by omega) (by omega)).mono ?_
  rintro e w13 ⟨rfl, C13⟩
  clear HD
  replace HT := hid (HT.out.below C13 HT.out.lt)
  replace T0 : Below wf.heap.size wf w13 := T0.trans (C13.mono T0.size)
  clear C13
  go_wp2_with fail
  refine (awake_any _ HT.out).mono ?_
  rintro e w14 ⟨rfl, C14⟩
  replace HT := hid (HT.out.below C14 HT.out.lt)
  replace T0 : Below wf.heap.size wf w14 := T0.trans (C14.mono T0.size)
  clear C14
  go_wp2
  go_ret
  exact ⟨rfl, T0⟩
set_option maxHeartbeats 1600000 in
set_option maxRecDepth 100000 in
theorem adds_many (vx vy : Value) (n m : Nat) (a b : Int) (w : World) (hx : Nt w vx n a) (hy : Nt w vy m b) (ht : Tab w) (h : ¬ (n ≤ 12 ∧ m ≤ 12)) :
    Calls Tryd.prog 3 #[vx, vy] w fun e w' => e = .returned (.bool true) ∧ Below w.heap.size w w' := by
  have HT := hid ht
  obtain ⟨ao, ca, rfl⟩ := hx.shape
  obtain ⟨bo, cb, rfl⟩ := hy.shape
  have FW := hid (few_any ao bo n m ca cb w)
  rw [show (decide (n ≤ 12) && decide (m ≤ 12)) = false by simpa using h] at FW
  clear hx hy ht h
  go_enter Tryd.func3, Tryd.ntmps3
  go_wp2_with fail
  refine FW.out.mono ?_
  rintro e wf ⟨rfl, rfl⟩
  clear FW
  go_wp2_with fail
  refine (awake_any _ HT.out).mono ?_
  rintro e w1 ⟨rfl, C1⟩
  go_wp2
  go_ret
  exact ⟨rfl, C1⟩
theorem addslaw_any (vx vy : Value) (n m : Nat) (a b : Int) (w : World) (hx : Nt w vx n a) (hy : Nt w vy m b) (ht : Tab w) :
    Calls Tryd.prog 3 #[vx, vy] w fun e w' => e = .returned (.bool true) ∧ Below w.heap.size w w' := by
  by_cases h : n ≤ 12 ∧ m ≤ 12
  · by_cases hl : a < b
    · exact adds_less vx vy n m a b w hx hy ht h.1 h.2 hl
    · exact adds_more vx vy n m a b w hx hy ht h.1 h.2 hl
  · exact adds_many vx vy n m a b w hx hy ht h
end Go.Proofs.YtnoeclmccbhkmaaDoor
