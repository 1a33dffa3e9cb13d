/- The walk of 'NatRing': it answers true, and writes into nothing that was there. -/
import Derived.Test.YtnoeclmccbhkmabDoorAwk
namespace Go.Proofs.YtnoeclmccbhkmabDoor
open Go.RowKit Num

theorem cmpI_of {a b : Int} (h : a = b) : cmpI a b = 0 := by rw [h]; exact cmpI_self _
theorem Nt.shape {w : World} {v : Value} {k : Nat} {a : Int} (h : Nt w v k a) : ∃ ao cap, v = .slice ao k cap := by
  obtain ⟨x, o, ⟨ao, cap, rfl, -⟩, -⟩ := h; exact ⟨ao, cap, rfl⟩

set_option maxHeartbeats 3200000 in
set_option maxRecDepth 100000 in
theorem ring_few (vx vy vz : Value) (n m k : Nat) (a b c : Int) (w : World) (hx : Nt w vx n a) (hy : Nt w vy m b) (hz : Nt w vz k c) (ht : Tab w) (hn : n ≤ 30) (hm : m ≤ 30) (hk : k ≤ 30) :
    Calls Tryd.prog 4 #[vx, vy, vz] w fun e w' => e = .returned (.bool true) ∧ Below w.heap.size w w' := by
  have HX := hid hx
  have HY := hid hy
  have HZ := hid hz
  have HT := hid ht
  obtain ⟨ao, ca, rfl⟩ := hx.shape
  obtain ⟨bo, cb, rfl⟩ := hy.shape
  obtain ⟨co, cc, rfl⟩ := hz.shape
  clear hx hy hz ht
  go_enter Tryd.func4, Tryd.ntmps4
  go_wp2_with fail
  refine (add_any _ _ _ _ _ _ _ HX.out HY.out (by omega) (by omega)).mono ?_
  rintro e w1 ⟨v1, k1, rfl, s1, l1, C1⟩
  have S1 := hid s1; clear s1
  go_wp2_with fail
  refine (add_any _ _ _ _ _ _ _ (HY.out.below C1) (HX.out.below C1) (by omega) (by omega)).mono ?_
  rintro e w2 ⟨v2, k2, rfl, s2, l2, C2⟩
  have S2 := hid s2; clear s2
  go_wp2_with fail
  refine (cmp_nt _ _ _ _ _ _ _ (S1.out.nt.below C2) S2.out.nt).mono ?_
  rintro e w3 ⟨rfl, i3, hw3⟩
  rw [cmpI_of (Int.add_comm a b)]
  have C3 : Below w2.heap.size w2 w3 := by rw [hw3]; exact below_drewN (Below.refl _ _) i3
  clear hw3
  have T0x2 : Below w.heap.size w w2 := C1.trans (C2.mono C1.size)
  have T0x3 : Below w.heap.size w w3 := T0x2.trans (C3.mono T0x2.size)
  go_wp2_with fail
  refine (mul_any _ _ _ _ _ _ _ (HX.out.below T0x3) (HY.out.below T0x3) (by omega) (by omega)).mono ?_
  rintro e w4 ⟨v4, k4, rfl, s4, l4, C4⟩
  have S4 := hid s4; clear s4
  have T0x4 : Below w.heap.size w w4 := T0x3.trans (C4.mono T0x3.size)
  go_wp2_with fail
  refine (mul_any _ _ _ _ _ _ _ (HY.out.below T0x4) (HX.out.below T0x4) (by omega) (by omega)).mono ?_
  rintro e w5 ⟨v5, k5, rfl, s5, l5, C5⟩
  have S5 := hid s5; clear s5
  go_wp2_with fail
  refine (cmp_nt _ _ _ _ _ _ _ (S4.out.nt.below C5) S5.out.nt).mono ?_
  rintro e w6 ⟨rfl, i6, hw6⟩
  rw [cmpI_of (Int.mul_comm a b)]
  have C6 : Below w5.heap.size w5 w6 := by rw [hw6]; exact below_drewN (Below.refl _ _) i6
  clear hw6
  have T0x5 : Below w.heap.size w w5 := T0x4.trans (C5.mono T0x4.size)
  have T0x6 : Below w.heap.size w w6 := T0x5.trans (C6.mono T0x5.size)
  go_wp2_with fail
  refine (add_any _ _ _ _ _ _ _ (HX.out.below T0x6) (HY.out.below T0x6) (by omega) (by omega)).mono ?_
  rintro e w7 ⟨v7, k7, rfl, s7, l7, C7⟩
  have S7 := hid s7; clear s7
  have T0x7 : Below w.heap.size w w7 := T0x6.trans (C7.mono T0x6.size)
  go_wp2_with fail
  refine (add_any _ _ _ _ _ _ _ S7.out.nt (HZ.out.below T0x7) (by omega) (by omega)).mono ?_
  rintro e w8 ⟨v8, k8, rfl, s8, l8, C8⟩
  have S8 := hid s8; clear s8
  have T0x8 : Below w.heap.size w w8 := T0x7.trans (C8.mono T0x7.size)
  go_wp2_with fail
  refine (add_any _ _ _ _ _ _ _ (HY.out.below T0x8) (HZ.out.below T0x8) (by omega) (by omega)).mono ?_
  rintro e w9 ⟨v9, k9, rfl, s9, l9, C9⟩
  have S9 := hid s9; clear s9
  have T0x9 : Below w.heap.size w w9 := T0x8.trans (C9.mono T0x8.size)
  go_wp2_with fail
  refine (add_any _ _ _ _ _ _ _ (HX.out.below T0x9) S9.out.nt (by omega) (by omega)).mono ?_
  rintro e w10 ⟨v10, k10, rfl, s10, l10, C10⟩
  have S10 := hid s10; clear s10
  have T8x10 : Below w8.heap.size w8 w10 := C9.trans (C10.mono C9.size)
  go_wp2_with fail
  refine (cmp_nt _ _ _ _ _ _ _ (S8.out.nt.below T8x10) S10.out.nt).mono ?_
  rintro e w11 ⟨rfl, i11, hw11⟩
  rw [cmpI_of (Int.add_assoc a b c)]
  have C11 : Below w10.heap.size w10 w11 := by rw [hw11]; exact below_drewN (Below.refl _ _) i11
  clear hw11
  have T0x10 : Below w.heap.size w w10 := T0x9.trans (C10.mono T0x9.size)
  have T0x11 : Below w.heap.size w w11 := T0x10.trans (C11.mono T0x10.size)
  go_wp2_with fail
  refine (add_any _ _ _ _ _ _ _ (HY.out.below T0x11) (HZ.out.below T0x11) (by omega) (by omega)).mono ?_
  rintro e w12 ⟨v12, k12, rfl, s12, l12, C12⟩
  have S12 := hid s12; clear s12
  have T0x12 : Below w.heap.size w w12 := T0x11.trans (C12.mono T0x11.size)
  go_wp2_with fail
  refine (mul_any _ _ _ _ _ _ _ (HX.out.below T0x12) S12.out.nt (by omega) (by omega)).mono ?_
  rintro e w13 ⟨v13, k13, rfl, s13, l13, C13⟩
  have S13 := hid s13; clear s13
  have T0x13 : Below w.heap.size w w13 := T0x12.trans (C13.mono T0x12.size)
  go_wp2_with fail
  refine (mul_any _ _ _ _ _ _ _ (HX.out.below T0x13) (HY.out.below T0x13) (by omega) (by omega)).mono ?_
  rintro e w14 ⟨v14, k14, rfl, s14, l14, C14⟩
  have S14 := hid s14; clear s14
  have T0x14 : Below w.heap.size w w14 := T0x13.trans (C14.mono T0x13.size)
  go_wp2_with fail
  refine (mul_any _ _ _ _ _ _ _ (HX.out.below T0x14) (HZ.out.below T0x14) (by omega) (by omega)).mono ?_
  rintro e w15 ⟨v15, k15, rfl, s15, l15, C15⟩
  have S15 := hid s15; clear s15
  go_wp2_with fail
  refine (add_any _ _ _ _ _ _ _ (S14.out.nt.below C15) S15.out.nt (by omega) (by omega)).mono ?_
  rintro e w16 ⟨v16, k16, rfl, s16, l16, C16⟩
  have S16 := hid s16; clear s16
  have T13x15 : Below w13.heap.size w13 w15 := C14.trans (C15.mono C14.size)
  have T13x16 : Below w13.heap.size w13 w16 := T13x15.trans (C16.mono T13x15.size)
  go_wp2_with fail
  refine (cmp_nt _ _ _ _ _ _ _ (S13.out.nt.below T13x16) S16.out.nt).mono ?_
  rintro e w17 ⟨rfl, i17, hw17⟩
  rw [cmpI_of (Int.mul_add a b c)]
  have C17 : Below w16.heap.size w16 w17 := by rw [hw17]; exact below_drewN (Below.refl _ _) i17
  clear hw17
  have T0x15 : Below w.heap.size w w15 := T0x14.trans (C15.mono T0x14.size)
  have T0x16 : Below w.heap.size w w16 := T0x15.trans (C16.mono T0x15.size)
  have T0x17 : Below w.heap.size w w17 := T0x16.trans (C17.mono T0x16.size)
  go_wp2_with fail
  refine (mul_any _ _ _ _ _ _ _ (HX.out.below T0x17) (HY.out.below T0x17) (by omega) (by omega)).mono ?_
  rintro e w18 ⟨v18, k18, rfl, s18, l18, C18⟩
  have S18 := hid s18; clear s18
  have T0x18 : Below w.heap.size w w18 := T0x17.trans (C18.mono T0x17.size)
  go_wp2_with fail
  refine (mul_any _ _ _ _ _ _ _ S18.out.nt (HZ.out.below T0x18) (by omega) (by omega)).mono ?_
  rintro e w19 ⟨v19, k19, rfl, s19, l19, C19⟩
  have S19 := hid s19; clear s19
  have T0x19 : Below w.heap.size w w19 := T0x18.trans (C19.mono T0x18.size)
  go_wp2_with fail
  refine (mul_any _ _ _ _ _ _ _ (HY.out.below T0x19) (HZ.out.below T0x19) (by omega) (by omega)).mono ?_
  rintro e w20 ⟨v20, k20, rfl, s20, l20, C20⟩
  have S20 := hid s20; clear s20
  have T0x20 : Below w.heap.size w w20 := T0x19.trans (C20.mono T0x19.size)
  go_wp2_with fail
  refine (mul_any _ _ _ _ _ _ _ (HX.out.below T0x20) S20.out.nt (by omega) (by omega)).mono ?_
  rintro e w21 ⟨v21, k21, rfl, s21, l21, C21⟩
  have S21 := hid s21; clear s21
  have T19x21 : Below w19.heap.size w19 w21 := C20.trans (C21.mono C20.size)
  go_wp2_with fail
  refine (cmp_nt _ _ _ _ _ _ _ (S19.out.nt.below T19x21) S21.out.nt).mono ?_
  rintro e w22 ⟨rfl, i22, hw22⟩
  rw [cmpI_of (Int.mul_assoc a b c)]
  have C22 : Below w21.heap.size w21 w22 := by rw [hw22]; exact below_drewN (Below.refl _ _) i22
  clear hw22
  have T0x21 : Below w.heap.size w w21 := T0x20.trans (C21.mono T0x20.size)
  have T0x22 : Below w.heap.size w w22 := T0x21.trans (C22.mono T0x21.size)
  go_wp2_with fail
  refine (awake_any _ (HT.out.below T0x22 HT.out.lt)).mono ?_
  rintro e wf ⟨rfl, Cf⟩
  go_wp2
  go_ret
  exact ⟨rfl, T0x22.trans (Cf.mono T0x22.size)⟩

set_option maxHeartbeats 800000 in
set_option maxRecDepth 100000 in
theorem ring_many (vx vy vz : Value) (n m k : Nat) (a b c : Int) (w : World) (hx : Nt w vx n a) (hy : Nt w vy m b) (hz : Nt w vz k c) (ht : Tab w) (h : ¬ (n ≤ 30 ∧ m ≤ 30 ∧ k ≤ 30)) :
    Calls Tryd.prog 4 #[vx, vy, vz] w fun e w' => e = .returned (.bool true) ∧ Below w.heap.size w w' := by
  have HT := hid ht
  obtain ⟨ao, ca, rfl⟩ := hx.shape
  obtain ⟨bo, cb, rfl⟩ := hy.shape
  obtain ⟨co, cc, rfl⟩ := hz.shape
  clear hx hy hz ht
  by_cases hn : n ≤ 30
  · have h1 : ¬ (30 : Int) < n := by omega
    by_cases hm : m ≤ 30
    · have h2 : ¬ (30 : Int) < m := by omega
      have h3 : (30 : Int) < k := by omega
      clear h
      go_enter Tryd.func4, Tryd.ntmps4
      go_wp2_with (go_at_call 7; refine (awake_any _ HT.out).mono ?_; rintro e w1 ⟨rfl, hB⟩)
      go_ret
      exact ⟨rfl, hB⟩
    · have h2 : (30 : Int) < m := by omega
      clear h
      go_enter Tryd.func4, Tryd.ntmps4
      go_wp2_with (go_at_call 7; refine (awake_any _ HT.out).mono ?_; rintro e w1 ⟨rfl, hB⟩)
      go_ret
      exact ⟨rfl, hB⟩
  · have h1 : (30 : Int) < n := by omega
    clear h
    go_enter Tryd.func4, Tryd.ntmps4
    go_wp2_with (go_at_call 7; refine (awake_any _ HT.out).mono ?_; rintro e w1 ⟨rfl, hB⟩)
    go_ret
    exact ⟨rfl, hB⟩

theorem ring_any (vx vy vz : Value) (n m k : Nat) (a b c : Int) (w : World) (hx : Nt w vx n a) (hy : Nt w vy m b) (hz : Nt w vz k c) (ht : Tab w) :
    Calls Tryd.prog 4 #[vx, vy, vz] w fun e w' => e = .returned (.bool true) ∧ Below w.heap.size w w' := by
  by_cases h : n ≤ 30 ∧ m ≤ 30 ∧ k ≤ 30
  · exact ring_few vx vy vz n m k a b c w hx hy hz ht h.1 h.2.1 h.2.2
  · exact ring_many vx vy vz n m k a b c w hx hy hz ht h
end Go.Proofs.YtnoeclmccbhkmabDoor
