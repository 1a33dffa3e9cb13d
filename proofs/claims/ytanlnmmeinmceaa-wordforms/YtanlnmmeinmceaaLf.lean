/- The law WordForms, walked. -/
import Derived.Test.YtanlnmmeinmceaaWw
import Derived.Deep.RegionHeld3
namespace Go.Proofs.Ytanlnmmeinmceaa
open Go.RowKit Num

theorem form_in {m f s x r : Int} (hm : Ok m f s) (h1 : m % 2 = 1) (h : Fm m (x * 18446744073709551616 * 18446744073709551616) r) : r = x * 18446744073709551616 % m := by
  obtain ⟨a, b, c⟩ := h.odd h1
  exact (hm.odd h1).1.cancel ⟨a, b⟩ c
theorem form_times {m f s x y r : Int} (hm : Ok m f s) (h1 : m % 2 = 1) (h : Fm m (x * 18446744073709551616 % m * (y * 18446744073709551616 % m)) r) : r = x * y % m * 18446744073709551616 % m := by
  obtain ⟨a, b, c⟩ := h.odd h1
  rw [md_left]
  refine (hm.odd h1).1.cancel ⟨a, b⟩ ?_
  rw [c, md_times]
  congr 1
  grind
set_option maxHeartbeats 3200000 in
theorem forms_law (m x y : Int) (w : World) (bm_ : 0 ≤ m ∧ m ≤ 18446744073709551615) (bx_ : 0 ≤ x ∧ x ≤ 18446744073709551615) (by_ : 0 ≤ y ∧ y ≤ 18446744073709551615) :
    Calls Try.prog 7 #[.int .u64 m, .int .u64 x, .int .u64 y] w fun e w' => e = .returned (.bool true) ∧ Below w.heap.size w w' := by
  have hx := bx_.1
  have hy := by_.1
  clear bx_ by_
  by_cases h : m < 2 ∨ 9223372036854775808 ≤ m
  · have N := hid (field_no m w h)
    clear h
    go_enter Try.func7, Try.ntmps7
    go_wp2_with fail
    refine N.out.mono ?_
    rintro e w2 ⟨rfl, rfl⟩
    go_wp2_with fail
    refine (awake_any _).mono ?_
    rintro e w2 ⟨rfl, B⟩
    go_wp2
    go_ret
    exact ⟨rfl, B⟩
  · have h2 : 2 ≤ m := by omega
    have h63 : m ≤ 9223372036854775807 := by omega
    have N := hid (field_any m w h2 h63)
    clear h bm_
    go_enter Try.func7, Try.ntmps7
    go_wp2_with fail
    refine N.out.mono ?_
    rintro e w1 ⟨rfl, B, f, s, F, O⟩
    have FF := hid F
    have OO := hid O
    have BB := hid B
    clear F O B N
    go_wp2_with fail
    refine (in_any _ m f s x _ (FF.out.heap (by first | rfl | simp)) OO.out hx).mono ?_
    rintro e w2 ⟨⟨a, rfl, I1⟩, k1, rfl⟩
    have J1 := hid I1
    clear I1
    go_wp2_with fail
    refine (in_any _ m f s y _ (FF.out.heap (by first | rfl | simp)) OO.out hy).mono ?_
    rintro e w2 ⟨⟨b, rfl, I2⟩, k2, rfl⟩
    have J2 := hid I2
    clear I2
    have ha : 0 ≤ a := by
      rcases (show m % 2 = 0 ∨ m % 2 = 1 by omega) with h1 | h1
      · rw [J1.out.even h1]; decide
      · exact (J1.out.odd h1).1
    have hb : 0 ≤ b := by
      rcases (show m % 2 = 0 ∨ m % 2 = 1 by omega) with h1 | h1
      · rw [J2.out.even h1]; decide
      · exact (J2.out.odd h1).1
    go_wp2_with fail
    refine (times_any _ m f s a b _ (FF.out.heap (by first | rfl | simp)) OO.out ha hb).mono ?_
    rintro e w2 ⟨⟨c, rfl, I3⟩, k3, rfl⟩
    have J3 := hid I3
    clear I3
    go_wp2_with fail
    refine (out_any _ m f s x _ (FF.out.heap (by first | rfl | simp)) OO.out hx).mono ?_
    rintro e w2 ⟨⟨d, rfl, I4⟩, k4, rfl⟩
    have J4 := hid I4
    clear I4
    rcases (show m % 2 = 0 ∨ m % 2 = 1 by omega) with h1 | h1
    · have ef : fe m = 1 := by unfold fe; rw [if_pos h1]
      rw [ef]
      obtain rfl := J1.out.even h1
      obtain rfl := J2.out.even h1
      obtain rfl := J3.out.even h1
      obtain rfl := J4.out.even h1
      clear J1 J2 J3 J4 ef
      go_wp2_with fail
      refine (awake_any _).mono ?_
      rintro e w9 ⟨rfl, B9⟩
      have B8 := fin BB.out BB.out.size (by first | rfl | simp) (by first | rfl | simp) (by first | rfl | simp) (by first | rfl | simp) B9
      clear B9
      go_wp2
      go_ret
      exact ⟨rfl, B8⟩
    · have ef : fe m = 0 := by unfold fe; rw [if_neg (by omega)]
      rw [ef]
      have e1 := form_in OO.out h1 J1.out
      have e2 := form_in OO.out h1 J2.out
      have e3 : c = x * y % m * 18446744073709551616 % m := by
        have := J3.out
        rw [e1, e2] at this
        exact form_times OO.out h1 this
      obtain ⟨d0, dm, e4⟩ := J4.out.odd h1
      have M := hid (fun w => rmul_any x y m w hx hy h2 h63)
      have R1 := hid (fun w => rform_any x m w hx h2 h63)
      have R2 := hid (fun w => rform_any y m w hy h2 h63)
      have p0 := (md_lt (x * y) (show 0 < m by omega)).1
      have R3 := hid (fun w => rform_any (x * y % m) m w p0 h2 h63)
      have R4 := hid (fun w => rform_any d m w d0 h2 h63)
      rw [← e1] at R1
      rw [← e2] at R2
      rw [← e3] at R3
      rw [e4] at R4
      have hne : ¬ m = 0 := by omega
      have t1 : Int.tmod x m = x % m := Int.tmod_eq_emod_of_nonneg hx
      have h1' : (m % 2 == 0) = false := beq_eq_false_iff_ne.2 (by omega)
      clear e1 e2 e3 e4 J1 J2 J3 J4 ef
      generalize x * y % m = P at *
      go_wp2_with fail
      go_region_held3 (fun _ => True) (trivial) (first
        | (go_at_call_of 26 (Value.int IntKind.u64 x); go_must (refine (R1.out _).mono ?_; rintro e w3 ⟨rfl, q1, rfl⟩))
        | (go_at_call_of 26 (Value.int IntKind.u64 y); go_must (refine (R2.out _).mono ?_; rintro e w3 ⟨rfl, q2, rfl⟩))
        | (go_at_call 17; go_must (refine (M.out _).mono ?_; rintro e w3 ⟨rfl, q3, rfl⟩))
        | (go_at_call_of 26 (Value.int IntKind.u64 P); go_must (refine (R3.out _).mono ?_; rintro e w3 ⟨rfl, q4, rfl⟩))
        | (go_at_call_of 26 (Value.int IntKind.u64 d); go_must (refine (R4.out _).mono ?_; rintro e w3 ⟨rfl, q5, rfl⟩))
        | (go_at_call 10; go_must (refine (awake_any _).mono ?_; rintro e w9 ⟨rfl, B9⟩)))
      all_goals
        have B8 := fin BB.out BB.out.size (by first | rfl | simp) (by first | rfl | simp) (by first | rfl | simp) (by first | rfl | simp) B9
        clear B9
        go_wp2
        go_ret
        exact ⟨rfl, B8⟩
end Go.Proofs.Ytanlnmmeinmceaa
