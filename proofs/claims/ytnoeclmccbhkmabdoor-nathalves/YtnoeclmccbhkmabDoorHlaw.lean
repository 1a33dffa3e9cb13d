/- The walk of 'NatHalves': it answers true, and writes into nothing that was there. -/
import Derived.Test.YtnoeclmccbhkmabDoorKarb
import Derived.Test.YtnoeclmccbhkmabDoorRing
namespace Go.Proofs.YtnoeclmccbhkmabDoor
open Go.RowKit Num

set_option maxHeartbeats 1600000 in
set_option maxRecDepth 100000 in
theorem halves_few (vx vy : Value) (n m : Nat) (a b : Int) (cut : Nat) (w : World) (hx : Nt w vx n a) (hy : Nt w vy m b) (ht : Tab w) (hn : n ≤ 60) (hm : m ≤ 60) (h1 : 1 ≤ cut) (h2 : cut ≤ 1024) :
    Calls Tryd.prog 5 #[vx, vy, .int .i64 cut] w fun e w' => e = .returned (.bool true) ∧ Below w.heap.size w w' := by
  have HX := hid hx
  have HY := hid hy
  have HT := hid ht
  obtain ⟨ao, ca, rfl⟩ := hx.shape
  obtain ⟨bo, cb, rfl⟩ := hy.shape
  have i1 : ¬ (60 : Int) < n := by omega
  have i2 : ¬ (60 : Int) < m := by omega
  have i3 : ¬ (cut : Int) < 1 := by omega
  have i4 : ¬ (1024 : Int) < cut := by omega
  clear hx hy ht
  go_enter Tryd.func5, Tryd.ntmps5
  go_wp2_with fail
  refine (karatsuba_any _ _ n m a b cut w HX.out HY.out (by omega) (by omega) h1 h2).mono ?_
  rintro e w1 ⟨v1, k1, rfl, s1, l1, C1⟩
  have S1 := hid s1
  clear s1
  go_wp2_with fail
  refine (mul_any _ _ n m a b w1 (HX.out.below C1) (HY.out.below C1) (by omega) (by omega)).mono ?_
  rintro e w2 ⟨v2, k2, rfl, s2, l2, C2⟩
  have S2 := hid s2
  clear s2
  go_wp2_with fail
  refine (cmp_nt _ _ k1 k2 (a * b) (a * b) w2 (S1.out.nt.below C2) S2.out.nt).mono ?_
  rintro e w3 ⟨rfl, i3, hw3⟩
  rw [cmpI_self]
  have C3 : Below w2.heap.size w2 w3 := by rw [hw3]; exact below_drewN (Below.refl _ _) i3
  clear hw3
  have T2 := C1.trans (C2.mono C1.size)
  have T3 := T2.trans (C3.mono T2.size)
  go_wp2_with fail
  refine (awake_any _ (HT.out.below T3 HT.out.lt)).mono ?_
  rintro e w4 ⟨rfl, C4⟩
  go_wp2
  go_ret
  exact ⟨rfl, T3.trans (C4.mono T3.size)⟩

set_option maxHeartbeats 1600000 in
set_option maxRecDepth 100000 in
theorem halves_many (vx vy : Value) (n m : Nat) (a b : Int) (cut : Int) (w : World) (hx : Nt w vx n a) (hy : Nt w vy m b) (ht : Tab w) (h : ¬ (n ≤ 60 ∧ m ≤ 60 ∧ 1 ≤ cut ∧ cut ≤ 1024)) :
    Calls Tryd.prog 5 #[vx, vy, .int .i64 cut] w fun e w' => e = .returned (.bool true) ∧ Below w.heap.size w w' := by
  have HT := hid ht
  obtain ⟨ao, ca, rfl⟩ := hx.shape
  obtain ⟨bo, cb, rfl⟩ := hy.shape
  clear hx hy ht
  by_cases hn : n ≤ 60
  · have i1 : ¬ (60 : Int) < n := by omega
    by_cases hm : m ≤ 60
    · have i2 : ¬ (60 : Int) < m := by omega
      by_cases h1 : cut < 1
      · clear h
        go_enter Tryd.func5, Tryd.ntmps5
        go_wp2_with (go_at_call 7; refine (awake_any _ HT.out).mono ?_; rintro e w1 ⟨rfl, hB⟩)
        go_ret
        exact ⟨rfl, hB⟩
      · have h2 : 1024 < cut := by omega
        clear h
        go_enter Tryd.func5, Tryd.ntmps5
        go_wp2_with (go_at_call 7; refine (awake_any _ HT.out).mono ?_; rintro e w1 ⟨rfl, hB⟩)
        go_ret
        exact ⟨rfl, hB⟩
    · have i2 : (60 : Int) < m := by omega
      clear h
      go_enter Tryd.func5, Tryd.ntmps5
      go_wp2_with (go_at_call 7; refine (awake_any _ HT.out).mono ?_; rintro e w1 ⟨rfl, hB⟩)
      go_ret
      exact ⟨rfl, hB⟩
  · have i1 : (60 : Int) < n := by omega
    clear h
    go_enter Tryd.func5, Tryd.ntmps5
    go_wp2_with (go_at_call 7; refine (awake_any _ HT.out).mono ?_; rintro e w1 ⟨rfl, hB⟩)
    go_ret
    exact ⟨rfl, hB⟩

theorem halveslaw_any (vx vy : Value) (n m : Nat) (a b : Int) (cut : Int) (w : World) (hx : Nt w vx n a) (hy : Nt w vy m b) (ht : Tab w) :
    Calls Tryd.prog 5 #[vx, vy, .int .i64 cut] w fun e w' => e = .returned (.bool true) ∧ Below w.heap.size w w' := by
  by_cases h : n ≤ 60 ∧ m ≤ 60 ∧ 1 ≤ cut ∧ cut ≤ 1024
  · obtain ⟨c, rfl⟩ := Int.eq_ofNat_of_zero_le (show 0 ≤ cut by omega)
    exact halves_few vx vy n m a b c w hx hy ht h.1 h.2.1 (by omega) (by omega)
  · exact halves_many vx vy n m a b cut w hx hy ht h
end Go.Proofs.YtnoeclmccbhkmabDoor
