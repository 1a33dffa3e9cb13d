/- The law WordAdds, walked. -/
import Derived.Test.YtanlnmmeinmceaaWw
import Derived.Deep.RegionHeld3
namespace Go.Proofs.Ytanlnmmeinmceaa
open Go.RowKit Num

set_option maxHeartbeats 1600000 in
theorem adds_law (m x y : Int) (w : World) (_bm : 0 ≤ m ∧ m ≤ 18446744073709551615) (bx : 0 ≤ x ∧ x ≤ 18446744073709551615) (by' : 0 ≤ y ∧ y ≤ 18446744073709551615) :
    Calls Try.prog 3 #[.int .u64 m, .int .u64 x, .int .u64 y] w fun e w' => e = .returned (.bool true) ∧ Below w.heap.size w w' := by
  have hx := bx.1
  have hy := by'.1
  clear bx by'
  by_cases h : m < 2 ∨ 9223372036854775808 ≤ m
  · have N := hid (field_no m w h)
    clear h
    go_enter Try.func3, Try.ntmps3
    go_wp2_with fail
    refine N.out.mono ?_
    rintro e w2 ⟨rfl, rfl⟩
    go_wp2_with fail
    refine (awake_any _).mono ?_
    rintro e w2 ⟨rfl, B⟩
    go_wp2
    go_ret
    exact ⟨rfl, B⟩
  · have h2 : 2 ≤ m := by omega
    have h63 : m ≤ 9223372036854775807 := by omega
    have N := hid (field_any m w h2 h63)
    have h0 : (m == 0) = false := beq_eq_false_iff_ne.2 (by omega)
    have a := md_lt x (show 0 < m by omega)
    have hne : ¬ m = 0 := by omega
    have e1 : Int.tmod x m = x % m := Int.tmod_eq_emod_of_nonneg hx
    have e2 : IntKind.u64.wrap (x % m) = x % m := by rw [IntKind.wrap_u64]; omega
    clear h
    go_enter Try.func3, Try.ntmps3
    go_wp2_with fail
    refine N.out.mono ?_
    rintro e w1 ⟨rfl, B, f, s, F, O⟩
    have FF := hid F
    have OO := hid O
    have BB := hid B
    clear F O B N
    go_wp2_with fail
    go_region_held3 (fun _ => True) (trivial) (first
      | (go_at_call 11; go_must (refine (of_any _ m f s x _ (FF.out.heap (by first | rfl | simp)) (by omega) hx).mono ?_; rintro e w2 ⟨rfl, rfl⟩))
      | (go_at_call 12; go_must (refine (add_any _ m f s x y _ (FF.out.heap (by first | rfl | simp)) OO.out hx hy).mono ?_; rintro e w2 ⟨rfl, rfl⟩))
      | (go_at_call 13; go_must (refine (radd_any x y m _ hx hy h2 h63).mono ?_; rintro e w2 ⟨rfl, k1, rfl⟩))
      | (go_at_call 14; go_must (refine (sub_any _ m f s x y _ (FF.out.heap (by first | rfl | simp)) OO.out hx hy).mono ?_; rintro e w2 ⟨rfl, rfl⟩))
      | (go_at_call 15; go_must (refine (rsub_any x y m _ hx hy h2 h63).mono ?_; rintro e w2 ⟨rfl, k2, rfl⟩))
      | (go_at_call 16; go_must (refine (mul_any _ m f s x y _ (FF.out.heap (by first | rfl | simp)) OO.out hx hy).mono ?_; rintro e w2 ⟨rfl, k3, rfl⟩))
      | (go_at_call 17; go_must (refine (rmul_any x y m _ hx hy h2 h63).mono ?_; rintro e w2 ⟨rfl, k4, rfl⟩))
      | (go_at_call 10; go_must (refine (awake_any _).mono ?_; rintro e w9 ⟨rfl, B9⟩)))
    all_goals
      have B8 := fin BB.out BB.out.size (by first | rfl | simp) (by first | rfl | simp) (by first | rfl | simp) (by first | rfl | simp) B9
      clear B9
      go_wp2
      go_ret
      exact ⟨rfl, B8⟩
end Go.Proofs.Ytanlnmmeinmceaa
