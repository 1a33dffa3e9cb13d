/- The law WordInverts, walked. -/
import Derived.Test.YtanlnmmeinmceaaWw
import Derived.Deep.RegionHeld3
namespace Go.Proofs.Ytanlnmmeinmceaa
open Go.RowKit Num

set_option maxHeartbeats 3200000 in
theorem inverts_law (m x : Int) (w : World) (bm_ : 0 ≤ m ∧ m ≤ 18446744073709551615) (bx_ : 0 ≤ x ∧ x ≤ 18446744073709551615) :
    Calls Try.prog 5 #[.int .u64 m, .int .u64 x] w fun e w' => e = .returned (.bool true) ∧ Below w.heap.size w w' := by
  have hx := bx_.1
  clear bx_
  by_cases h : m < 2 ∨ 9223372036854775808 ≤ m
  · have N := hid (field_no m w h)
    clear h
    go_enter Try.func5, Try.ntmps5
    go_wp2_with fail
    refine N.out.mono ?_
    rintro e w2 ⟨rfl, rfl⟩
    go_wp2_with fail
    refine (awake_any _).mono ?_
    rintro e w2 ⟨rfl, B⟩
    go_wp2
    go_ret
    exact ⟨rfl, B⟩
  · have h2 : 2 ≤ m := by omega
    have h63 : m ≤ 9223372036854775807 := by omega
    have N := hid (field_any m w h2 h63)
    clear h bm_
    have W := hid (fun w => rwrong_any x m w hx h2 h63)
    have eec : (if x % m = 0 then 10 else if gc x m = 1 then 0 else 11 : Int) = ec x m := rfl
    rw [eec] at W
    clear eec
    go_enter Try.func5, Try.ntmps5
    go_wp2_with fail
    refine N.out.mono ?_
    rintro e w1 ⟨rfl, B, f, s, F, O⟩
    have FF := hid F
    have OO := hid O
    have BB := hid B
    clear F O B N
    go_wp2_with fail
    refine (inv_any _ m f s x _ (FF.out.heap (by first | rfl | simp)) OO.out hx).mono ?_
    rintro e w2 ⟨⟨y, rfl, I⟩, rfl⟩
    have II := hid I
    clear I
    go_wp2_with fail
    refine (W.out _).mono ?_
    rintro e w2 ⟨rfl, rfl⟩
    by_cases he : ec x m = 0
    · obtain ⟨y0, ym, e1⟩ := II.out.good he
      have M := hid (fun w => rmul_any x y m w hx y0 h2 h63)
      rw [e1] at M
      rw [he]
      clear e1 II W he
      go_wp2_with fail
      refine (M.out _).mono ?_
      rintro e w3 ⟨rfl, k, rfl⟩
      go_wp2_with fail
      refine (awake_any _).mono ?_
      rintro e w9 ⟨rfl, B9⟩
      have B8 := fin BB.out BB.out.size (by first | rfl | simp) (by first | rfl | simp) (by first | rfl | simp) (by first | rfl | simp) B9
      clear B9
      go_wp2
      go_ret
      exact ⟨rfl, B8⟩
    · have hy := II.out.bad he
      subst hy
      have he' : (ec x m != 0) = true := by simp [he]
      clear II W he
      generalize ec x m = E at *
      go_wp2_with fail
      refine (awake_any _).mono ?_
      rintro e w9 ⟨rfl, B9⟩
      have B8 := fin BB.out BB.out.size (by first | rfl | simp) (by first | rfl | simp) (by first | rfl | simp) (by first | rfl | simp) B9
      clear B9
      go_wp2
      go_ret
      exact ⟨rfl, B8⟩
end Go.Proofs.Ytanlnmmeinmceaa
