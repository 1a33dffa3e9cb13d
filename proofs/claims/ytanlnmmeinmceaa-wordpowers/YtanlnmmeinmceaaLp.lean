/- The law WordPowers, walked. -/
import Derived.Test.YtanlnmmeinmceaaWw
import Derived.Deep.RegionHeld3
namespace Go.Proofs.Ytanlnmmeinmceaa
open Go.RowKit Num

set_option maxHeartbeats 3200000 in
theorem powers_law (m x n : Int) (w : World) (bm_ : 0 ≤ m ∧ m ≤ 18446744073709551615) (bx_ : 0 ≤ x ∧ x ≤ 18446744073709551615) (bn_ : 0 ≤ n ∧ n ≤ 18446744073709551615) :
    Calls Try.prog 4 #[.int .u64 m, .int .u64 x, .int .u64 n] w fun e w' => e = .returned (.bool true) ∧ Below w.heap.size w w' := by
  obtain ⟨n, rfl⟩ := Int.eq_ofNat_of_zero_le bn_.1
  have hn : n ≤ 18446744073709551615 := by omega
  have hx := bx_.1
  clear bx_ bn_
  by_cases h : m < 2 ∨ 9223372036854775808 ≤ m
  · have N := hid (field_no m w h)
    clear h
    go_enter Try.func4, Try.ntmps4
    go_wp2_with fail
    refine N.out.mono ?_
    rintro e w2 ⟨rfl, rfl⟩
    go_wp2_with fail
    refine (awake_any _).mono ?_
    rintro e w2 ⟨rfl, B⟩
    go_wp2
    go_ret
    exact ⟨rfl, B⟩
  · have h2 : 2 ≤ m := by omega
    have h63 : m ≤ 9223372036854775807 := by omega
    have N := hid (field_any m w h2 h63)
    clear h bm_
    go_enter Try.func4, Try.ntmps4
    go_wp2_with fail
    refine N.out.mono ?_
    rintro e w1 ⟨rfl, B, f, s, F, O⟩
    have FF := hid F
    have OO := hid O
    have BB := hid B
    clear F O B N
    go_wp2_with fail
    refine (pow_any _ m f s x n _ (FF.out.heap (by first | rfl | simp)) OO.out hx hn).mono ?_
    rintro e w2 ⟨rfl, k1, rfl⟩
    go_wp2_with fail
    refine (rpow_any x m n _ hx h2 h63 hn).mono ?_
    rintro e w2 ⟨rfl, k2, rfl⟩
    generalize x ^ n % m = T at *
    go_wp2_with fail
    refine (awake_any _).mono ?_
    rintro e w9 ⟨rfl, B9⟩
    have B8 := fin BB.out BB.out.size (by first | rfl | simp) (by first | rfl | simp) (by first | rfl | simp) (by first | rfl | simp) B9
    clear B9
    go_wp2
    go_ret
    exact ⟨rfl, B8⟩
end Go.Proofs.Ytanlnmmeinmceaa
