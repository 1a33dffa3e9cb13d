/- The walk of 'NatMuls': it answers true, and writes into nothing that was there. -/
import Derived.Test.YtnoeclmccbhkmaaDoorRefp
import Derived.Test.YtnoeclmccbhkmaaDoorAwk
import Derived.Test.YtnoeclmccbhkmaaDoorKarb
namespace Go.Proofs.YtnoeclmccbhkmaaDoor
open Go.RowKit Num
open Go.Lib (decDigits)
theorem mul_dt2 (u v : Nat) (w : World) (h : (dt u).size ≤ 100000) (h2 : (dt v).size ≤ 100000) :
    Calls Tryd.prog 20 #[.string (dt u), .string (dt v)] w fun e w' => e = .returned (.string (dt (u * v))) ∧ Below w.heap.size w w' := by
  have := rmul_any (dt u) (dt v) w h h2 (digs_dt u) (digs_dt v)
  rwa [dval_dt, dval_dt] at this
set_option maxHeartbeats 3200000 in
set_option maxRecDepth 100000 in
theorem muls_bad1 (vx vy : Value) (n m : Nat) (a b : Int) (cut : Int) (w : World) (hx : Nt w vx n a) (hy : Nt w vy m b) (ht : Tab w) (hn : n ≤ 12) (hm : m ≤ 12) (h1 : cut < 1) :
    Calls Tryd.prog 4 #[vx, vy, .int .i64 cut] w fun e w' => e = .returned (.bool true) ∧ Below w.heap.size w w' := by
  have a0 := hx.nonneg
  have b0 := hy.nonneg
  have LA := hid (len_of (u := a.toNat) (k := n) (by have := hx.lt; omega))
  have LB := hid (len_of (u := b.toNat) (k := m) (by have := hy.lt; omega))
  rw [← dt_size] at LA LB
  have EM := hid (show a * b = ((a.toNat * b.toNat : Nat) : Int) by rw [Int.natCast_mul, Int.toNat_of_nonneg a0, Int.toNat_of_nonneg b0])
  have hc : cut < 1 ∨ 1024 < cut := Or.inl h1
  have HX := hid hx
  have HY := hid hy
  have HT := hid ht
  obtain ⟨ao, ca, rfl⟩ := hx.shape
  obtain ⟨bo, cb, rfl⟩ := hy.shape
  have d1 : decide (n ≤ 12) = true := by simpa using hn
  have d2 : decide (m ≤ 12) = true := by simpa using hm
  have FW := hid (few_any ao bo n m ca cb w)
  rw [d1, d2] at FW
  clear hx hy ht d1 d2
  go_enter Tryd.func4, Tryd.ntmps4
  go_wp2_with fail
  refine FW.out.mono ?_
  rintro e wf ⟨rfl, rfl⟩
  clear FW
  go_wp2_with fail
  refine (of_any _ n a _ HX.out (by omega)).mono ?_
  rintro e w1 ⟨rfl, C1⟩
  replace HX := hid (HX.out.below C1)
  replace HY := hid (HY.out.below C1)
  replace HT := hid (HT.out.below C1 HT.out.lt)
  have T0 : Below wf.heap.size wf w1 := C1
  clear C1
  go_wp2_with fail
  refine (of_any _ m b _ HY.out (by omega)).mono ?_
  rintro e w2 ⟨rfl, C2⟩
  replace HX := hid (HX.out.below C2)
  replace HY := hid (HY.out.below C2)
  replace HT := hid (HT.out.below C2 HT.out.lt)
  replace T0 : Below wf.heap.size wf w2 := T0.trans (C2.mono T0.size)
  clear C2
  go_wp2_with fail
  refine (mul_dt2 a.toNat b.toNat _ (by have := LA.out; omega) (by have := LB.out; omega)).mono ?_
  rintro e w3 ⟨rfl, C3⟩
  replace HX := hid (HX.out.below C3)
  replace HY := hid (HY.out.below C3)
  replace HT := hid (HT.out.below C3 HT.out.lt)
  replace T0 : Below wf.heap.size wf w3 := T0.trans (C3.mono T0.size)
  clear C3
  go_wp2_with fail
  refine (mul_any _ _ n m a b _ HX.out HY.out (by omega) (by omega)).mono ?_
  rintro e w4 ⟨vs, ks, rfl, IS, hks, C4⟩
  obtain ⟨so, sc, rfl⟩ := IS.shape
  have HS := hid IS; clear IS
  clear HX
  clear HY
  replace HT := hid (HT.out.below C4 HT.out.lt)
  replace T0 : Below wf.heap.size wf w4 := T0.trans (C4.mono T0.size)
  clear C4
  go_wp2_with fail
  refine (is_any _ ks (a * b) (a.toNat * b.toNat) _ HS.out (by omega) EM.out).mono ?_
  rintro e w5 ⟨rfl, C5⟩
  clear HS
  replace HT := hid (HT.out.below C5 HT.out.lt)
  replace T0 : Below wf.heap.size wf w5 := T0.trans (C5.mono T0.size)
  clear C5
  go_wp2_with fail
  refine (karatsuba_bad _ _ cut _ hc).mono ?_
  rintro e w6 ⟨rfl, hwc⟩
  have C6 : Below w5.heap.size w5 w6 := by rw [hwc]; exact Below.refl _ _
  clear hwc
  replace HT := hid (HT.out.below C6 HT.out.lt)
  replace T0 : Below wf.heap.size wf w6 := T0.trans (C6.mono T0.size)
  clear C6
  go_wp2_with fail
  refine (awake_any _ HT.out).mono ?_
  rintro e w7 ⟨rfl, C7⟩
  replace HT := hid (HT.out.below C7 HT.out.lt)
  replace T0 : Below wf.heap.size wf w7 := T0.trans (C7.mono T0.size)
  clear C7
  go_wp2
  go_ret
  exact ⟨rfl, T0⟩
set_option maxHeartbeats 3200000 in
set_option maxRecDepth 100000 in
theorem muls_bad2 (vx vy : Value) (n m : Nat) (a b : Int) (cut : Int) (w : World) (hx : Nt w vx n a) (hy : Nt w vy m b) (ht : Tab w) (hn : n ≤ 12) (hm : m ≤ 12) (h1 : 1024 < cut) :
    Calls Tryd.prog 4 #[vx, vy, .int .i64 cut] w fun e w' => e = .returned (.bool true) ∧ Below w.heap.size w w' := by
  have a0 := hx.nonneg
  have b0 := hy.nonneg
  have LA := hid (len_of (u := a.toNat) (k := n) (by have := hx.lt; omega))
  have LB := hid (len_of (u := b.toNat) (k := m) (by have := hy.lt; omega))
  rw [← dt_size] at LA LB
  have EM := hid (show a * b = ((a.toNat * b.toNat : Nat) : Int) by rw [Int.natCast_mul, Int.toNat_of_nonneg a0, Int.toNat_of_nonneg b0])
  have hc : cut < 1 ∨ 1024 < cut := Or.inr h1
  have HX := hid hx
  have HY := hid hy
  have HT := hid ht
  obtain ⟨ao, ca, rfl⟩ := hx.shape
  obtain ⟨bo, cb, rfl⟩ := hy.shape
  have d1 : decide (n ≤ 12) = true := by simpa using hn
  have d2 : decide (m ≤ 12) = true := by simpa using hm
  have FW := hid (few_any ao bo n m ca cb w)
  rw [d1, d2] at FW
  clear hx hy ht d1 d2
  go_enter Tryd.func4, Tryd.ntmps4
  go_wp2_with fail
  refine FW.out.mono ?_
  rintro e wf ⟨rfl, rfl⟩
  clear FW
  go_wp2_with fail
  refine (of_any _ n a _ HX.out (by omega)).mono ?_
  rintro e w1 ⟨rfl, C1⟩
  replace HX := hid (HX.out.below C1)
  replace HY := hid (HY.out.below C1)
  replace HT := hid (HT.out.below C1 HT.out.lt)
  have T0 : Below wf.heap.size wf w1 := C1
  clear C1
  go_wp2_with fail
  refine (of_any _ m b _ HY.out (by omega)).mono ?_
  rintro e w2 ⟨rfl, C2⟩
  replace HX := hid (HX.out.below C2)
  replace HY := hid (HY.out.below C2)
  replace HT := hid (HT.out.below C2 HT.out.lt)
  replace T0 : Below wf.heap.size wf w2 := T0.trans (C2.mono T0.size)
  clear C2
  go_wp2_with fail
  refine (mul_dt2 a.toNat b.toNat _ (by have := LA.out; omega) (by have := LB.out; omega)).mono ?_
  rintro e w3 ⟨rfl, C3⟩
  replace HX := hid (HX.out.below C3)
  replace HY := hid (HY.out.below C3)
  replace HT := hid (HT.out.below C3 HT.out.lt)
  replace T0 : Below wf.heap.size wf w3 := T0.trans (C3.mono T0.size)
  clear C3
  go_wp2_with fail
  refine (mul_any _ _ n m a b _ HX.out HY.out (by omega) (by omega)).mono ?_
  rintro e w4 ⟨vs, ks, rfl, IS, hks, C4⟩
  obtain ⟨so, sc, rfl⟩ := IS.shape
  have HS := hid IS; clear IS
  clear HX
  clear HY
  replace HT := hid (HT.out.below C4 HT.out.lt)
  replace T0 : Below wf.heap.size wf w4 := T0.trans (C4.mono T0.size)
  clear C4
  go_wp2_with fail
  refine (is_any _ ks (a * b) (a.toNat * b.toNat) _ HS.out (by omega) EM.out).mono ?_
  rintro e w5 ⟨rfl, C5⟩
  clear HS
  replace HT := hid (HT.out.below C5 HT.out.lt)
  replace T0 : Below wf.heap.size wf w5 := T0.trans (C5.mono T0.size)
  clear C5
  go_wp2_with fail
  refine (karatsuba_bad _ _ cut _ hc).mono ?_
  rintro e w6 ⟨rfl, hwc⟩
  have C6 : Below w5.heap.size w5 w6 := by rw [hwc]; exact Below.refl _ _
  clear hwc
  replace HT := hid (HT.out.below C6 HT.out.lt)
  replace T0 : Below wf.heap.size wf w6 := T0.trans (C6.mono T0.size)
  clear C6
  go_wp2_with fail
  refine (awake_any _ HT.out).mono ?_
  rintro e w7 ⟨rfl, C7⟩
  replace HT := hid (HT.out.below C7 HT.out.lt)
  replace T0 : Below wf.heap.size wf w7 := T0.trans (C7.mono T0.size)
  clear C7
  go_wp2
  go_ret
  exact ⟨rfl, T0⟩
set_option maxHeartbeats 3200000 in
set_option maxRecDepth 100000 in
theorem muls_good (vx vy : Value) (n m : Nat) (a b : Int) (c : Nat) (w : World) (hx : Nt w vx n a) (hy : Nt w vy m b) (ht : Tab w) (hn : n ≤ 12) (hm : m ≤ 12) (h1 : 1 ≤ c) (h2 : c ≤ 1024) :
    Calls Tryd.prog 4 #[vx, vy, .int .i64 (c : Int)] w fun e w' => e = .returned (.bool true) ∧ Below w.heap.size w w' := by
  have a0 := hx.nonneg
  have b0 := hy.nonneg
  have LA := hid (len_of (u := a.toNat) (k := n) (by have := hx.lt; omega))
  have LB := hid (len_of (u := b.toNat) (k := m) (by have := hy.lt; omega))
  rw [← dt_size] at LA LB
  have EM := hid (show a * b = ((a.toNat * b.toNat : Nat) : Int) by rw [Int.natCast_mul, Int.toNat_of_nonneg a0, Int.toNat_of_nonneg b0])
  have c1 : ¬ (c : Int) < 1 := by omega
  have c2 : ¬ (1024 : Int) < (c : Int) := by omega
  have HX := hid hx
  have HY := hid hy
  have HT := hid ht
  obtain ⟨ao, ca, rfl⟩ := hx.shape
  obtain ⟨bo, cb, rfl⟩ := hy.shape
  have d1 : decide (n ≤ 12) = true := by simpa using hn
  have d2 : decide (m ≤ 12) = true := by simpa using hm
  have FW := hid (few_any ao bo n m ca cb w)
  rw [d1, d2] at FW
  clear hx hy ht d1 d2
  go_enter Tryd.func4, Tryd.ntmps4
  go_wp2_with fail
  refine FW.out.mono ?_
  rintro e wf ⟨rfl, rfl⟩
  clear FW
  go_wp2_with fail
  refine (of_any _ n a _ HX.out (by omega)).mono ?_
  rintro e w1 ⟨rfl, C1⟩
  replace HX := hid (HX.out.below C1)
  replace HY := hid (HY.out.below C1)
  replace HT := hid (HT.out.below C1 HT.out.lt)
  have T0 : Below wf.heap.size wf w1 := C1
  clear C1
  go_wp2_with fail
  refine (of_any _ m b _ HY.out (by omega)).mono ?_
  rintro e w2 ⟨rfl, C2⟩
  replace HX := hid (HX.out.below C2)
  replace HY := hid (HY.out.below C2)
  replace HT := hid (HT.out.below C2 HT.out.lt)
  replace T0 : Below wf.heap.size wf w2 := T0.trans (C2.mono T0.size)
  clear C2
  go_wp2_with fail
  refine (mul_dt2 a.toNat b.toNat _ (by have := LA.out; omega) (by have := LB.out; omega)).mono ?_
  rintro e w3 ⟨rfl, C3⟩
  replace HX := hid (HX.out.below C3)
  replace HY := hid (HY.out.below C3)
  replace HT := hid (HT.out.below C3 HT.out.lt)
  replace T0 : Below wf.heap.size wf w3 := T0.trans (C3.mono T0.size)
  clear C3
  go_wp2_with fail
  refine (mul_any _ _ n m a b _ HX.out HY.out (by omega) (by omega)).mono ?_
  rintro e w4 ⟨vs, ks, rfl, IS, hks, C4⟩
  obtain ⟨so, sc, rfl⟩ := IS.shape
  have HS := hid IS; clear IS
  replace HX := hid (HX.out.below C4)
  replace HY := hid (HY.out.below C4)
  replace HT := hid (HT.out.below C4 HT.out.lt)
  replace T0 : Below wf.heap.size wf w4 := T0.trans (C4.mono T0.size)
  clear C4
  go_wp2_with fail
  refine (is_any _ ks (a * b) (a.toNat * b.toNat) _ HS.out (by omega) EM.out).mono ?_
  rintro e w5 ⟨rfl, C5⟩
  replace HX := hid (HX.out.below C5)
  replace HY := hid (HY.out.below C5)
  clear HS
  replace HT := hid (HT.out.below C5 HT.out.lt)
  replace T0 : Below wf.heap.size wf w5 := T0.trans (C5.mono T0.size)
  clear C5
  go_wp2_with fail
  refine (karatsuba_any _ _ n m a b c _ HX.out HY.out (by omega) (by omega) (by omega) (by omega)).mono ?_
  rintro e w6 ⟨vd, kd, rfl, ID, hkd, C6⟩
  obtain ⟨dob, dc, rfl⟩ := ID.shape
  have HD := hid ID; clear ID
  clear HX
  clear HY
  replace HT := hid (HT.out.below C6 HT.out.lt)
  replace T0 : Below wf.heap.size wf w6 := T0.trans (C6.mono T0.size)
  clear C6
  go_wp2_with fail
  refine (is_any _ kd (a * b) (a.toNat * b.toNat) _ HD.out (by omega) EM.out).mono ?_
  rintro e w7 ⟨rfl, C7⟩
  clear HD
  replace HT := hid (HT.out.below C7 HT.out.lt)
  replace T0 : Below wf.heap.size wf w7 := T0.trans (C7.mono T0.size)
  clear C7
  go_wp2_with fail
  refine (awake_any _ HT.out).mono ?_
  rintro e w8 ⟨rfl, C8⟩
  replace HT := hid (HT.out.below C8 HT.out.lt)
  replace T0 : Below wf.heap.size wf w8 := T0.trans (C8.mono T0.size)
  clear C8
  go_wp2
  go_ret
  exact ⟨rfl, T0⟩
set_option maxHeartbeats 1600000 in
set_option maxRecDepth 100000 in
theorem muls_many (vx vy : Value) (n m : Nat) (a b cut : Int) (w : World) (hx : Nt w vx n a) (hy : Nt w vy m b) (ht : Tab w) (h : ¬ (n ≤ 12 ∧ m ≤ 12)) :
    Calls Tryd.prog 4 #[vx, vy, .int .i64 cut] w fun e w' => e = .returned (.bool true) ∧ Below w.heap.size w w' := by
  have HT := hid ht
  obtain ⟨ao, ca, rfl⟩ := hx.shape
  obtain ⟨bo, cb, rfl⟩ := hy.shape
  have FW := hid (few_any ao bo n m ca cb w)
  rw [show (decide (n ≤ 12) && decide (m ≤ 12)) = false by simpa using h] at FW
  clear hx hy ht h
  go_enter Tryd.func4, Tryd.ntmps4
  go_wp2_with fail
  refine FW.out.mono ?_
  rintro e wf ⟨rfl, rfl⟩
  clear FW
  go_wp2_with fail
  refine (awake_any _ HT.out).mono ?_
  rintro e w1 ⟨rfl, C1⟩
  go_wp2
  go_ret
  exact ⟨rfl, C1⟩
theorem mulslaw_any (vx vy : Value) (n m : Nat) (a b cut : Int) (w : World) (hx : Nt w vx n a) (hy : Nt w vy m b) (ht : Tab w) :
    Calls Tryd.prog 4 #[vx, vy, .int .i64 cut] w fun e w' => e = .returned (.bool true) ∧ Below w.heap.size w w' := by
  by_cases h : n ≤ 12 ∧ m ≤ 12
  · by_cases h1 : cut < 1
    · exact muls_bad1 vx vy n m a b cut w hx hy ht h.1 h.2 h1
    · by_cases h2 : 1024 < cut
      · exact muls_bad2 vx vy n m a b cut w hx hy ht h.1 h.2 h2
      · obtain ⟨c, rfl⟩ := Int.eq_ofNat_of_zero_le (show 0 ≤ cut by omega)
        exact muls_good vx vy n m a b c w hx hy ht h.1 h.2 (by omega) (by omega)
  · exact muls_many vx vy n m a b cut w hx hy ht h
end Go.Proofs.YtnoeclmccbhkmaaDoor
