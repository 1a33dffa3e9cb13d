/- The walk of 'NatGcds': it answers true, and writes into nothing that was there. -/
import Derived.Test.YtnoeclmccbhkmaaDoorGcf
import Derived.Test.YtnoeclmccbhkmaaDoorRgc
import Derived.Test.YtnoeclmccbhkmaaDoorRefp
import Derived.Test.YtnoeclmccbhkmaaDoorAwk
namespace Go.Proofs.YtnoeclmccbhkmaaDoor
open Go.RowKit Num
open Go.Lib (decDigits)
set_option maxHeartbeats 1600000 in
set_option maxRecDepth 100000 in
theorem gcds_few (vx vy : Value) (n m : Nat) (a b : Int) (w : World) (hx : Nt w vx n a) (hy : Nt w vy m b) (ht : Tab w) (hn : n ≤ 4) (hm : m ≤ 4) :
    Calls Tryd.prog 6 #[vx, vy] w fun e w' => e = .returned (.bool true) ∧ Below w.heap.size w w' := by
  have a0 := hx.nonneg
  have b0 := hy.nonneg
  have LA := hid (len_of (u := a.toNat) (k := n) (by have := hx.lt; omega))
  have LB := hid (len_of (u := b.toNat) (k := m) (by have := hy.lt; omega))
  rw [← dt_size] at LA LB
  have EG : Hid (((Int.gcd a b : Nat) : Int) = ((Nat.gcd a.toNat b.toNat : Nat) : Int)) := by
    show _ = _
    congr 1
    have e1 : a = (a.toNat : Int) := by omega
    have e2 : b = (b.toNat : Int) := by omega
    conv => lhs; rw [e1, e2]
    exact Int.gcd_natCast_natCast _ _
  have HX := hid hx
  have HY := hid hy
  have HT := hid ht
  obtain ⟨ao, ca, rfl⟩ := hx.shape
  obtain ⟨bo, cb, rfl⟩ := hy.shape
  have n4 : ¬ (4 : Int) < n := by omega
  have m4 : ¬ (4 : Int) < m := by omega
  clear hx hy ht
  go_enter Tryd.func6, Tryd.ntmps6
  go_wp2_with fail
  refine (gcd_any _ _ n m a b _ HX.out HY.out (by omega) (by omega)).mono ?_
  rintro e w1 ⟨⟨v, rfl, k, NG, hk⟩, C1⟩
  have HG := hid NG
  obtain ⟨gao, gca, rfl⟩ := NG.shape
  have HX1 := hid (HX.out.below C1)
  have HY1 := hid (HY.out.below C1)
  have HT1 := hid (HT.out.below C1 HT.out.lt)
  have T1 := hid C1
  clear C1 NG
  go_wp2_with fail
  refine (of_any _ n a _ HX1.out (by omega)).mono ?_
  rintro e w2 ⟨rfl, C2⟩
  have HY2 := hid (HY1.out.below C2)
  have HG2 := hid (HG.out.below C2)
  have HT2 := hid (HT1.out.below C2 HT1.out.lt)
  have T2 := hid (T1.out.trans (C2.mono T1.out.size))
  clear C2
  go_wp2_with fail
  refine (of_any _ m b _ HY2.out (by omega)).mono ?_
  rintro e w3 ⟨rfl, C3⟩
  have HG3 := hid (HG2.out.below C3)
  have HT3 := hid (HT2.out.below C3 HT2.out.lt)
  have T3 := hid (T2.out.trans (C3.mono T2.out.size))
  clear C3
  go_wp2_with fail
  refine (rgcd_any a.toNat b.toNat _ (by have := LA.out; omega) (by have := LB.out; omega)).mono ?_
  rintro e w4 ⟨rfl, C4⟩
  have HG4 := hid (HG3.out.below C4)
  have HT4 := hid (HT3.out.below C4 HT3.out.lt)
  have T4 := hid (T3.out.trans (C4.mono T3.out.size))
  clear C4
  go_wp2_with fail
  refine (is_any _ k _ (Nat.gcd a.toNat b.toNat) _ HG4.out (by omega) EG.out).mono ?_
  rintro e w5 ⟨rfl, C5⟩
  have HT5 := hid (HT4.out.below C5 HT4.out.lt)
  have T5 := hid (T4.out.trans (C5.mono T4.out.size))
  clear C5
  go_wp2_with fail
  refine (awake_any _ HT5.out).mono ?_
  rintro e w6 ⟨rfl, C6⟩
  have T6 := hid (T5.out.trans (C6.mono T5.out.size))
  clear C6
  go_wp2
  go_ret
  exact ⟨rfl, T6.out⟩
set_option maxHeartbeats 800000 in
theorem gcds_many (vx vy : Value) (n m : Nat) (a b : Int) (w : World) (hx : Nt w vx n a) (hy : Nt w vy m b) (ht : Tab w) (h : ¬ (n ≤ 4 ∧ m ≤ 4)) :
    Calls Tryd.prog 6 #[vx, vy] w fun e w' => e = .returned (.bool true) ∧ Below w.heap.size w w' := by
  have HT := hid ht
  obtain ⟨ao, ca, rfl⟩ := hx.shape
  obtain ⟨bo, cb, rfl⟩ := hy.shape
  clear hx hy ht
  by_cases n4 : (4 : Int) < n
  · clear h
    go_enter Tryd.func6, Tryd.ntmps6
    go_wp2_with fail
    refine (awake_any _ HT.out).mono ?_
    rintro e w6 ⟨rfl, C6⟩
    go_wp2
    go_ret
    exact ⟨rfl, C6⟩
  · have m4 : (4 : Int) < m := by omega
    clear h
    go_enter Tryd.func6, Tryd.ntmps6
    go_wp2_with fail
    refine (awake_any _ HT.out).mono ?_
    rintro e w6 ⟨rfl, C6⟩
    go_wp2
    go_ret
    exact ⟨rfl, C6⟩
theorem gcdslaw_any (vx vy : Value) (n m : Nat) (a b : Int) (w : World) (hx : Nt w vx n a) (hy : Nt w vy m b) (ht : Tab w) :
    Calls Tryd.prog 6 #[vx, vy] w fun e w' => e = .returned (.bool true) ∧ Below w.heap.size w w' := by
  by_cases h : n ≤ 4 ∧ m ≤ 4
  · exact gcds_few vx vy n m a b w hx hy ht h.1 h.2
  · exact gcds_many vx vy n m a b w hx hy ht h
end Go.Proofs.YtnoeclmccbhkmaaDoor
