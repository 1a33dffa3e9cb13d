/- The walk of 'NatBack': it answers true, and writes into nothing that was there. -/
import Derived.Test.YtnoeclmccbhkmabDoorRep
import Derived.Test.YtnoeclmccbhkmabDoorLong
import Derived.Test.YtnoeclmccbhkmabDoorRing
namespace Go.Proofs.YtnoeclmccbhkmabDoor
open Go.RowKit Num

set_option maxHeartbeats 1600000 in
set_option maxRecDepth 100000 in
theorem back_few (vx vy : Value) (n m : Nat) (a b : Nat) (w : World) (hx : Nt w vx n a) (hy : Nt w vy m b) (ht : Tab w) (hn : n ≤ 40) (hm : m ≤ 40) :
    Calls Tryd.prog 3 #[vx, vy] w fun e w' => e = .returned (.bool true) ∧ Below w.heap.size w w' := by
  have HX := hid hx
  have HY := hid hy
  have HT := hid ht
  obtain ⟨ao, ca, rfl⟩ := hx.shape
  obtain ⟨bo, cb, rfl⟩ := hy.shape
  have i1 : ¬ (40 : Int) < n := by omega
  have i2 : ¬ (40 : Int) < m := by omega
  clear hx hy ht
  go_enter Tryd.func3, Tryd.ntmps3
  go_wp2_with fail
  refine (add_any _ _ n m a b w HX.out HY.out (by omega) (by omega)).mono ?_
  rintro e w1 ⟨v1, k1, rfl, s1, l1, C1⟩
  have S1 := hid s1
  clear s1
  go_wp2_with fail
  refine (sub_any _ _ k1 m (a + b) b w1 S1.out.nt (HY.out.below C1) (by omega) (by omega)).mono ?_
  rintro e w2 ⟨v2, k2, rfl, s2, l2, C2⟩
  have T2 := C1.trans (C2.mono C1.size)
  rw [Int.add_sub_cancel] at s2
  have S2 := hid s2
  clear s2
  go_wp2_with fail
  refine (print_any _ n a w2 (HX.out.below T2) (by omega) (HT.out.below T2 HT.out.lt)).mono ?_
  rintro e w3 ⟨rfl, C3⟩
  have T3 := T2.trans (C3.mono T2.size)
  go_wp2_with fail
  refine (reparse_any _ n a w3 w HX.out hn).mono ?_
  rintro e w4 ⟨v4, k4, rfl, s4, l4, C4⟩
  have T4 := T3.trans (C4.mono T3.size)
  have S4 := hid s4
  have S24 := hid (S2.out.nt.below (C3.trans (C4.mono C3.size)))
  clear s4
  go_wp2_with fail
  refine (cmp_nt _ _ k2 n a a w4 S24.out (HX.out.below T4)).mono ?_
  rintro e w5 ⟨rfl, j5, hw5⟩
  rw [cmpI_self]
  have C5 : Below w4.heap.size w4 w5 := by rw [hw5]; exact below_drewN (Below.refl _ _) j5
  have T5 := T4.trans (C5.mono T4.size)
  clear hw5
  go_wp2_with fail
  refine (cmp_nt _ _ k4 n a a w5 (S4.out.below C5) (HX.out.below T5)).mono ?_
  rintro e w6 ⟨rfl, j6, hw6⟩
  rw [cmpI_self]
  have C6 : Below w5.heap.size w5 w6 := by rw [hw6]; exact below_drewN (Below.refl _ _) j6
  have T6 := T5.trans (C6.mono T5.size)
  clear hw6
  go_wp2_with fail
  by_cases hb : b = 0
  · subst hb
    refine (divMod_zero _ _ n m a w6 (HX.out.below T6) (HY.out.below T6)).mono ?_
    rintro e w7 ⟨rfl, rfl⟩
    go_wp2_with fail
    refine (cmp_nt _ _ m 0 0 0 w7 (HY.out.below T6) (nil_nzf 0 w7).1.nt).mono ?_
    rintro e w8 ⟨rfl, j8, hw8⟩
    rw [cmpI_self]
    have C8 : Below w7.heap.size w7 w8 := by rw [hw8]; exact below_drewN (Below.refl _ _) j8
    have T8 := T6.trans (C8.mono T6.size)
    clear hw8
    go_wp2_with fail
    refine (awake_any _ (HT.out.below T8 HT.out.lt)).mono ?_
    rintro e w9 ⟨rfl, C9⟩
    go_wp2
    go_ret
    exact ⟨rfl, T8.trans (C9.mono T8.size)⟩
  · refine (divMod_any _ _ n m a b w6 (HX.out.below T6) (HY.out.below T6) (by omega) (by omega) (by omega) (fun _ => long_said)).mono ?_
    rintro e w7 ⟨v7, v8, k7, k8, q, r, rfl, s7, s8, e7, r0, r1, l7, l8, C7⟩
    have T7 := T6.trans (C7.mono T6.size)
    have S7 := hid s7
    have S8 := hid s8
    have E7 := hid e7
    clear s7 s8 e7
    go_wp2_with fail
    refine (mul_any _ _ k7 m q b w7 S7.out.nt (HY.out.below T7) (by omega) (by omega)).mono ?_
    rintro e w8 ⟨v9, k9, rfl, s9, l9, C8⟩
    have T8 := T7.trans (C8.mono T7.size)
    have S9 := hid s9
    clear s9
    go_wp2_with fail
    refine (add_any _ _ k9 k8 (q * b) r w8 S9.out.nt (S8.out.nt.below C8) (by omega) (by omega)).mono ?_
    rintro e w9 ⟨v10, k10, rfl, s10, l10, C9⟩
    rw [E7.out] at s10
    have T9 := T8.trans (C9.mono T8.size)
    have S10 := hid s10
    clear s10
    go_wp2_with fail
    refine (cmp_nt _ _ k10 n a a w9 S10.out.nt (HX.out.below T9)).mono ?_
    rintro e w10 ⟨rfl, j10, hw10⟩
    rw [cmpI_self]
    have C10 : Below w9.heap.size w9 w10 := by rw [hw10]; exact below_drewN (Below.refl _ _) j10
    have T10 := T9.trans (C10.mono T9.size)
    clear hw10
    have S8' := hid (S8.out.nt.below (C8.trans ((C9.trans (C10.mono C9.size)).mono C8.size)))
    go_wp2_with fail
    refine (cmp_nt _ _ k8 m r b w10 S8'.out (HY.out.below T10)).mono ?_
    rintro e w11 ⟨rfl, j11, hw11⟩
    rw [cmpI_lt r1]
    have C11 : Below w10.heap.size w10 w11 := by rw [hw11]; exact below_drewN (Below.refl _ _) j11
    have T11 := T10.trans (C11.mono T10.size)
    clear hw11
    go_wp2_with fail
    refine (awake_any _ (HT.out.below T11 HT.out.lt)).mono ?_
    rintro e w12 ⟨rfl, C12⟩
    go_wp2
    go_ret
    exact ⟨rfl, T11.trans (C12.mono T11.size)⟩

set_option maxHeartbeats 1600000 in
set_option maxRecDepth 100000 in
theorem back_many (vx vy : Value) (n m : Nat) (a b : Int) (w : World) (hx : Nt w vx n a) (hy : Nt w vy m b) (ht : Tab w) (h : ¬ (n ≤ 40 ∧ m ≤ 40)) :
    Calls Tryd.prog 3 #[vx, vy] w fun e w' => e = .returned (.bool true) ∧ Below w.heap.size w w' := by
  have HT := hid ht
  obtain ⟨ao, ca, rfl⟩ := hx.shape
  obtain ⟨bo, cb, rfl⟩ := hy.shape
  clear hx hy ht
  by_cases hn : n ≤ 40
  · have i1 : ¬ (40 : Int) < n := by omega
    have i2 : (40 : Int) < m := by omega
    clear h
    go_enter Tryd.func3, Tryd.ntmps3
    go_wp2_with (go_at_call 7; refine (awake_any _ HT.out).mono ?_; rintro e w1 ⟨rfl, hB⟩)
    go_ret
    exact ⟨rfl, hB⟩
  · have i1 : (40 : Int) < n := by omega
    clear h
    go_enter Tryd.func3, Tryd.ntmps3
    go_wp2_with (go_at_call 7; refine (awake_any _ HT.out).mono ?_; rintro e w1 ⟨rfl, hB⟩)
    go_ret
    exact ⟨rfl, hB⟩

theorem backlaw_any (vx vy : Value) (n m : Nat) (a b : Int) (w : World) (hx : Nt w vx n a) (hy : Nt w vy m b) (ht : Tab w) :
    Calls Tryd.prog 3 #[vx, vy] w fun e w' => e = .returned (.bool true) ∧ Below w.heap.size w w' := by
  by_cases h : n ≤ 40 ∧ m ≤ 40
  · obtain ⟨c, rfl⟩ := Int.eq_ofNat_of_zero_le hx.nonneg
    obtain ⟨d, rfl⟩ := Int.eq_ofNat_of_zero_le hy.nonneg
    exact back_few vx vy n m c d w hx hy ht h.1 h.2
  · exact back_many vx vy n m a b w hx hy ht h
end Go.Proofs.YtnoeclmccbhkmabDoor
