/- The walk of 'NatMoves': it answers true, and writes into nothing that was there. -/
import Derived.Test.YtnoeclmccbhkmaaDoorNbt
import Derived.Test.YtnoeclmccbhkmaaDoorAwk
namespace Go.Proofs.YtnoeclmccbhkmaaDoor
open Go.RowKit Num
open Go.Lib (decDigits)
theorem mul_dt3 (u v : Nat) (w : World) (h : (dt u).size ≤ 100000) (h2 : (dt v).size ≤ 100000) :
    Calls Tryd.prog 20 #[.string (dt u), .string (dt v)] w fun e w' => e = .returned (.string (dt (u * v))) ∧ Below w.heap.size w w' := by
  have := rmul_any (dt u) (dt v) w h h2 (digs_dt u) (digs_dt v)
  rwa [dval_dt, dval_dt] at this
set_option maxHeartbeats 3200000 in
set_option maxRecDepth 100000 in
theorem moves_neg (vx : Value) (n : Nat) (a : Int) (s : Int) (w : World) (hx : Nt w vx n a) (ht : Tab w) (hn : n ≤ 12) (hs : s < 0) :
    Calls Tryd.prog 7 #[vx, .int .i64 s] w fun e w' => e = .returned (.bool true) ∧ Below w.heap.size w w' := by
  have a0 := hx.nonneg
  have LA := hid (len_of (u := a.toNat) (k := n) (by have := hx.lt; omega))
  rw [← dt_size] at LA
  have LP := hid (show a.toNat < 2 ^ (64 * n) by have := hx.lt; rw [P_two] at this; omega)
  have g1 : ¬ 300 < s := by omega
  have HX := hid hx
  have HT := hid ht
  obtain ⟨ao, ca, rfl⟩ := hx.shape
  have n1 : ¬ (12 : Int) < n := by omega
  clear hx ht
  go_enter Tryd.func7, Tryd.ntmps7
  go_wp2_with fail
  refine (of_any _ n a _ HX.out (by omega)).mono ?_
  rintro e w1 ⟨rfl, C1⟩
  replace HX := hid (HX.out.below C1)
  replace HT := hid (HT.out.below C1 HT.out.lt)
  have T0 : Below w.heap.size w w1 := C1
  clear C1
  go_wp2_with fail
  refine (shl_neg _ s _ hs).mono ?_
  rintro e w2 ⟨rfl, hwc⟩
  have C2 : Below w1.heap.size w1 w2 := by rw [hwc]; exact Below.refl _ _
  clear hwc
  replace HX := hid (HX.out.below C2)
  replace HT := hid (HT.out.below C2 HT.out.lt)
  replace T0 : Below w.heap.size w w2 := T0.trans (C2.mono T0.size)
  clear C2
  go_wp2_with fail
  refine (shr_neg _ s _ hs).mono ?_
  rintro e w3 ⟨rfl, hwc⟩
  have C3 : Below w2.heap.size w2 w3 := by rw [hwc]; exact Below.refl _ _
  clear hwc
  replace HX := hid (HX.out.below C3)
  replace HT := hid (HT.out.below C3 HT.out.lt)
  replace T0 : Below w.heap.size w w3 := T0.trans (C3.mono T0.size)
  clear C3
  go_wp2_with fail
  refine (nbits_any _ n a _ HX.out (by omega)).mono ?_
  rintro e w4 ⟨⟨kb, rfl, hb1⟩, C4⟩
  have B1 := hid hb1
  clear hb1
  clear HX
  replace HT := hid (HT.out.below C4 HT.out.lt)
  replace T0 : Below w.heap.size w w4 := T0.trans (C4.mono T0.size)
  clear C4
  go_wp2_with fail
  refine (rbits_any a.toNat (64 * n) _ LP.out (by omega)).mono ?_
  rintro e w5 ⟨⟨kc, rfl, hb2⟩, C5⟩
  have hkk := bits_one B1.out hb2
  subst hkk
  clear hb2 B1
  replace HT := hid (HT.out.below C5 HT.out.lt)
  replace T0 : Below w.heap.size w w5 := T0.trans (C5.mono T0.size)
  clear C5
  go_wp2_with fail
  refine (awake_any _ HT.out).mono ?_
  rintro e w6 ⟨rfl, C6⟩
  replace HT := hid (HT.out.below C6 HT.out.lt)
  replace T0 : Below w.heap.size w w6 := T0.trans (C6.mono T0.size)
  clear C6
  go_wp2
  go_ret
  exact ⟨rfl, T0⟩
set_option maxHeartbeats 3200000 in
set_option maxRecDepth 100000 in
theorem moves_far (vx : Value) (n : Nat) (a : Int) (s : Nat) (w : World) (hx : Nt w vx n a) (ht : Tab w) (hn : n ≤ 12) (hs : 262144 < s) (hs2 : s ≤ 9223372036854775807) :
    Calls Tryd.prog 7 #[vx, .int .i64 s] w fun e w' => e = .returned (.bool true) ∧ Below w.heap.size w w' := by
  have a0 := hx.nonneg
  have LA := hid (len_of (u := a.toNat) (k := n) (by have := hx.lt; omega))
  rw [← dt_size] at LA
  have LP := hid (show a.toNat < 2 ^ (64 * n) by have := hx.lt; rw [P_two] at this; omega)
  have g1 : (300 : Int) < (s : Int) := by omega
  have g2 : ¬ (s : Int) ≤ 262144 := by omega
  have g3 : (262144 : Int) < (s : Int) := by omega
  have g4 : ¬ (s : Int) < 0 := by omega
  have HX := hid hx
  have HT := hid ht
  obtain ⟨ao, ca, rfl⟩ := hx.shape
  have n1 : ¬ (12 : Int) < n := by omega
  clear hx ht
  go_enter Tryd.func7, Tryd.ntmps7
  go_wp2_with fail
  refine (of_any _ n a _ HX.out (by omega)).mono ?_
  rintro e w1 ⟨rfl, C1⟩
  replace HX := hid (HX.out.below C1)
  replace HT := hid (HT.out.below C1 HT.out.lt)
  have T0 : Below w.heap.size w w1 := C1
  clear C1
  go_wp2_with fail
  refine (shl_lim _ s _ g3).mono ?_
  rintro e w2 ⟨rfl, hwc⟩
  have C2 : Below w1.heap.size w1 w2 := by rw [hwc]; exact Below.refl _ _
  clear hwc
  replace HX := hid (HX.out.below C2)
  replace HT := hid (HT.out.below C2 HT.out.lt)
  replace T0 : Below w.heap.size w w2 := T0.trans (C2.mono T0.size)
  clear C2
  go_wp2_with fail
  refine (shr_far _ n a s _ HX.out (by omega) hs2).mono ?_
  rintro e w3 ⟨rfl, hwc⟩
  have C3 : Below w2.heap.size w2 w3 := by rw [hwc]; exact Below.refl _ _
  clear hwc
  replace HX := hid (HX.out.below C3)
  replace HT := hid (HT.out.below C3 HT.out.lt)
  replace T0 : Below w.heap.size w w3 := T0.trans (C3.mono T0.size)
  clear C3
  go_wp2_with fail
  refine (nbits_any _ n a _ HX.out (by omega)).mono ?_
  rintro e w4 ⟨⟨kb, rfl, hb1⟩, C4⟩
  have B1 := hid hb1
  clear hb1
  clear HX
  replace HT := hid (HT.out.below C4 HT.out.lt)
  replace T0 : Below w.heap.size w w4 := T0.trans (C4.mono T0.size)
  clear C4
  go_wp2_with fail
  refine (rbits_any a.toNat (64 * n) _ LP.out (by omega)).mono ?_
  rintro e w5 ⟨⟨kc, rfl, hb2⟩, C5⟩
  have hkk := bits_one B1.out hb2
  subst hkk
  clear hb2 B1
  replace HT := hid (HT.out.below C5 HT.out.lt)
  replace T0 : Below w.heap.size w w5 := T0.trans (C5.mono T0.size)
  clear C5
  go_wp2_with fail
  refine (awake_any _ HT.out).mono ?_
  rintro e w6 ⟨rfl, C6⟩
  replace HT := hid (HT.out.below C6 HT.out.lt)
  replace T0 : Below w.heap.size w w6 := T0.trans (C6.mono T0.size)
  clear C6
  go_wp2
  go_ret
  exact ⟨rfl, T0⟩
set_option maxHeartbeats 3200000 in
set_option maxRecDepth 100000 in
theorem moves_mid (vx : Value) (n : Nat) (a : Int) (s : Nat) (w : World) (hx : Nt w vx n a) (ht : Tab w) (hn : n ≤ 12) (hs : s ≤ 300) :
    Calls Tryd.prog 7 #[vx, .int .i64 s] w fun e w' => e = .returned (.bool true) ∧ Below w.heap.size w w' := by
  have a0 := hx.nonneg
  have LA := hid (len_of (u := a.toNat) (k := n) (by have := hx.lt; omega))
  rw [← dt_size] at LA
  have LP := hid (show a.toNat < 2 ^ (64 * n) by have := hx.lt; rw [P_two] at this; omega)
  have g1 : ¬ (300 : Int) < (s : Int) := by omega
  have g4 : ¬ (s : Int) < 0 := by omega
  have e2 : ((2 ^ s : Nat) : Int) = 2 ^ s := by rw [Int.natCast_pow]; rfl
  have EU := hid (show a * 2 ^ s = ((a.toNat * 2 ^ s : Nat) : Int) by rw [Int.natCast_mul, Int.toNat_of_nonneg a0, e2])
  have ED := hid (show a / 2 ^ s = ((a.toNat / 2 ^ s : Nat) : Int) by rw [Int.natCast_ediv, Int.toNat_of_nonneg a0, e2])
  clear e2
  have HX := hid hx
  have HT := hid ht
  obtain ⟨ao, ca, rfl⟩ := hx.shape
  have n1 : ¬ (12 : Int) < n := by omega
  clear hx ht
  go_enter Tryd.func7, Tryd.ntmps7
  go_wp2_with fail
  refine (of_any _ n a _ HX.out (by omega)).mono ?_
  rintro e w1 ⟨rfl, C1⟩
  replace HX := hid (HX.out.below C1)
  replace HT := hid (HT.out.below C1 HT.out.lt)
  have T0 : Below w.heap.size w w1 := C1
  clear C1
  go_wp2_with fail
  refine (shl_any _ n a s (s / 64) (s % 64) _ HX.out (by omega) (by omega) (by omega) (by omega)).mono ?_
  rintro e w2 ⟨vu, ku, rfl, IU, hku, C2⟩
  obtain ⟨uo, uc, rfl⟩ := IU.shape
  have HU := hid IU; clear IU
  replace HX := hid (HX.out.below C2)
  replace HT := hid (HT.out.below C2 HT.out.lt)
  replace T0 : Below w.heap.size w w2 := T0.trans (C2.mono T0.size)
  clear C2
  go_wp2_with fail
  refine (shr_any _ n a s (s / 64) (s % 64) _ HX.out (by omega) (by omega) (by omega) (by omega)).mono ?_
  rintro e w3 ⟨vd, kd, rfl, ID, hkd, C3⟩
  obtain ⟨dob, dc, rfl⟩ := ID.shape
  have HD := hid ID; clear ID
  replace HX := hid (HX.out.below C3)
  replace HU := hid (HU.out.below C3)
  replace HT := hid (HT.out.below C3 HT.out.lt)
  replace T0 : Below w.heap.size w w3 := T0.trans (C3.mono T0.size)
  clear C3
  go_wp2_with fail
  refine (nbits_any _ n a _ HX.out (by omega)).mono ?_
  rintro e w4 ⟨⟨kb, rfl, hb1⟩, C4⟩
  have B1 := hid hb1
  clear hb1
  clear HX
  replace HU := hid (HU.out.below C4)
  replace HD := hid (HD.out.below C4)
  replace HT := hid (HT.out.below C4 HT.out.lt)
  replace T0 : Below w.heap.size w w4 := T0.trans (C4.mono T0.size)
  clear C4
  go_wp2_with fail
  refine (rbits_any a.toNat (64 * n) _ LP.out (by omega)).mono ?_
  rintro e w5 ⟨⟨kc, rfl, hb2⟩, C5⟩
  have hkk := bits_one B1.out hb2
  subst hkk
  clear hb2 B1
  replace HU := hid (HU.out.below C5)
  replace HD := hid (HD.out.below C5)
  replace HT := hid (HT.out.below C5 HT.out.lt)
  replace T0 : Below w.heap.size w w5 := T0.trans (C5.mono T0.size)
  clear C5
  go_wp2_with fail
  refine (rdouble_any s _ (by omega)).mono ?_
  rintro e w6 ⟨rfl, C6⟩
  replace HU := hid (HU.out.below C6)
  replace HD := hid (HD.out.below C6)
  replace HT := hid (HT.out.below C6 HT.out.lt)
  replace T0 : Below w.heap.size w w6 := T0.trans (C6.mono T0.size)
  clear C6
  go_wp2_with fail
  refine (rdiv_any a.toNat (2 ^ s) _ (Nat.pow_pos (by decide)) (by have := LA.out; omega) (pow_size (by omega))).mono ?_
  rintro e w7 ⟨rfl, C7⟩
  replace HU := hid (HU.out.below C7)
  replace HD := hid (HD.out.below C7)
  replace HT := hid (HT.out.below C7 HT.out.lt)
  replace T0 : Below w.heap.size w w7 := T0.trans (C7.mono T0.size)
  clear C7
  go_wp2_with fail
  refine (mul_dt3 a.toNat (2 ^ s) _ (by have := LA.out; omega) (pow_size (by omega))).mono ?_
  rintro e w8 ⟨rfl, C8⟩
  replace HU := hid (HU.out.below C8)
  replace HD := hid (HD.out.below C8)
  replace HT := hid (HT.out.below C8 HT.out.lt)
  replace T0 : Below w.heap.size w w8 := T0.trans (C8.mono T0.size)
  clear C8
  go_wp2_with fail
  refine (is_any _ ku (a * 2 ^ s) (a.toNat * 2 ^ s) _ HU.out (by omega) EU.out).mono ?_
  rintro e w9 ⟨rfl, C9⟩
  clear HU
  replace HD := hid (HD.out.below C9)
  replace HT := hid (HT.out.below C9 HT.out.lt)
  replace T0 : Below w.heap.size w w9 := T0.trans (C9.mono T0.size)
  clear C9
  go_wp2_with fail
  refine (is_any _ kd (a / 2 ^ s) (a.toNat / 2 ^ s) _ HD.out (by omega) ED.out).mono ?_
  rintro e w10 ⟨rfl, C10⟩
  clear HD
  replace HT := hid (HT.out.below C10 HT.out.lt)
  replace T0 : Below w.heap.size w w10 := T0.trans (C10.mono T0.size)
  clear C10
  go_wp2_with fail
  refine (awake_any _ HT.out).mono ?_
  rintro e w11 ⟨rfl, C11⟩
  replace HT := hid (HT.out.below C11 HT.out.lt)
  replace T0 : Below w.heap.size w w11 := T0.trans (C11.mono T0.size)
  clear C11
  go_wp2
  go_ret
  exact ⟨rfl, T0⟩
set_option maxHeartbeats 1600000 in
set_option maxRecDepth 100000 in
theorem moves_many1 (vx : Value) (n : Nat) (a s : Int) (w : World) (hx : Nt w vx n a) (ht : Tab w) (h : 12 < n) :
    Calls Tryd.prog 7 #[vx, .int .i64 s] w fun e w' => e = .returned (.bool true) ∧ Below w.heap.size w w' := by
  have HT := hid ht
  obtain ⟨ao, ca, rfl⟩ := hx.shape
  have n1 : (12 : Int) < n := by omega
  clear hx ht
  go_enter Tryd.func7, Tryd.ntmps7
  go_wp2_with fail
  refine (awake_any _ HT.out).mono ?_
  rintro e w1 ⟨rfl, C1⟩
  go_wp2
  go_ret
  exact ⟨rfl, C1⟩
set_option maxHeartbeats 1600000 in
set_option maxRecDepth 100000 in
theorem moves_many2 (vx : Value) (n : Nat) (a s : Int) (w : World) (hx : Nt w vx n a) (ht : Tab w) (h : ¬ 12 < n) (h2 : 300 < s) (h3 : s ≤ 262144) :
    Calls Tryd.prog 7 #[vx, .int .i64 s] w fun e w' => e = .returned (.bool true) ∧ Below w.heap.size w w' := by
  have HT := hid ht
  obtain ⟨ao, ca, rfl⟩ := hx.shape
  have n1 : ¬ (12 : Int) < n := by omega
  clear hx ht
  go_enter Tryd.func7, Tryd.ntmps7
  go_wp2_with fail
  refine (awake_any _ HT.out).mono ?_
  rintro e w1 ⟨rfl, C1⟩
  go_wp2
  go_ret
  exact ⟨rfl, C1⟩
theorem moveslaw_any (vx : Value) (n : Nat) (a s : Int) (w : World) (hx : Nt w vx n a) (ht : Tab w) (hs : s ≤ 9223372036854775807) :
    Calls Tryd.prog 7 #[vx, .int .i64 s] w fun e w' => e = .returned (.bool true) ∧ Below w.heap.size w w' := by
  by_cases h : 12 < n
  · exact moves_many1 vx n a s w hx ht h
  · by_cases h1 : s < 0
    · exact moves_neg vx n a s w hx ht (by omega) h1
    · obtain ⟨u, rfl⟩ := Int.eq_ofNat_of_zero_le (show 0 ≤ s by omega)
      by_cases h2 : u ≤ 300
      · exact moves_mid vx n a u w hx ht (by omega) h2
      · by_cases h3 : u ≤ 262144
        · exact moves_many2 vx n a u w hx ht h (by omega) (by omega)
        · exact moves_far vx n a u w hx ht (by omega) (by omega) (by omega)
end Go.Proofs.YtnoeclmccbhkmaaDoor
