/- What New's inner calls answer. -/
import Derived.Test.YteeldlaidohjiabDoorVf
namespace Go.Proofs.YteeldlaidohjiabDoor
open Go.RowKit Num
set_option maxHeartbeats 800000 in
theorem inverseWord_any (m : Int) (w : World) (hm : 2 ≤ m) (hm' : m ≤ 9223372036854775807) (ho : m % 2 = 1) :
    Calls Tryd.prog 33 #[.int .u64 m] w fun e w' => (∃ y, e = .returned (.int .u64 y) ∧ 0 ≤ y ∧ y ≤ 18446744073709551615 ∧ (18446744073709551616 : Int) ∣ 1 - m * y) ∧ w' = w := by
  have S := hid (nk_start ho)
  go_enter Tryd.func33, Tryd.ntmps33
  go_wp2
  go_loop [3, 5] (fun yv iv => ∃ (y : Int) (i : Nat), yv = .int .u64 y ∧ iv = .int .i64 i ∧ i ≤ 5 ∧ 0 ≤ y ∧ y ≤ 18446744073709551615 ∧ Hid (nk i ∣ 1 - m * y)) (fun _ iv => (5 - intOf iv).toNat)
  case atStart => exact ⟨m, 0, rfl, rfl, by omega, by omega, by omega, S⟩
  case round =>
    obtain ⟨y, i, rfl, rfl, hi, hy, hy', E⟩ := hrel
    clear S
    by_cases h5 : i = 5
    · subst h5
      go_wp2
      go_ret
      exact ⟨⟨y, rfl, hy, hy', E.out⟩, rfl⟩
    · have hi' : (i : Int) < 5 := by omega
      obtain ⟨z, hz⟩ : ∃ z, IntKind.u64.wrap (y * IntKind.u64.wrap (2 - IntKind.u64.wrap (m * y))) = z := ⟨_, rfl⟩
      have hz' : z % 18446744073709551616 = y * (2 - m * y) % 18446744073709551616 := by
        rw [← hz]
        simp only [IntKind.wrap_u64]
        rw [Int.emod_emod, md_right]
        rw [Int.mul_emod, Int.sub_emod, Int.emod_emod, ← Int.sub_emod, ← Int.mul_emod]
      have N := hid (newton_nk (by omega) E.out hz')
      have b1 : 0 ≤ z := by rw [← hz, IntKind.wrap_u64]; omega
      have b2 : z ≤ 18446744073709551615 := by rw [← hz, IntKind.wrap_u64]; omega
      clear E hz'
      go_wp2
      exact ⟨⟨z, i + 1, by rw [← hz], rfl, by omega, b1, b2, N⟩, by simp only [intOf]; omega⟩
set_option maxHeartbeats 800000 in
theorem square_any (m : Int) (w : World) (hm : 2 ≤ m) (hm' : m ≤ 9223372036854775807) :
    Calls Tryd.prog 34 #[.int .u64 m] w fun e w' => e = .returned (.int .u64 (18446744073709551616 * 18446744073709551616 % m)) ∧ ∃ k, w' = w.drewN k := by
  have a := md_lt 18446744073709551616 (show 0 < m by omega)
  have e1 : dr 1 0 m = 18446744073709551616 % m := by unfold dr; rfl
  have e2 : dr (18446744073709551616 % m) 0 m = 18446744073709551616 * 18446744073709551616 % m := by
    unfold dr; rw [Int.add_zero, md_left]
  have D1 : Hid (∀ w : World, Calls Tryd.prog 31 #[.int .u64 1, .int .u64 0, .int .u64 m] w fun e w' => e = .returned (.tuple #[.int .u64 (dq 1 0 m), .int .u64 (18446744073709551616 % m)]) ∧ ∃ k, w' = w.drewN k) := fun w => by
    have := div64_any 1 0 m w (by decide) (by decide) (by decide) (by omega) (by omega)
    rw [e1] at this
    exact this
  have D2 : Hid (∀ w : World, Calls Tryd.prog 31 #[.int .u64 (18446744073709551616 % m), .int .u64 0, .int .u64 m] w fun e w' => e = .returned (.tuple #[.int .u64 (dq (18446744073709551616 % m) 0 m), .int .u64 (18446744073709551616 * 18446744073709551616 % m)]) ∧ ∃ k, w' = w.drewN k) := fun w => by
    have := div64_any (18446744073709551616 % m) 0 m w a.1 (by decide) (by decide) a.2 (by omega)
    rw [e2] at this
    exact this
  obtain ⟨T, hT⟩ : ∃ T, T = 18446744073709551616 * 18446744073709551616 % m := ⟨_, rfl⟩
  rw [← hT] at D2
  rw [← hT]
  clear e1 e2 hT
  generalize 18446744073709551616 % m = u at *
  go_enter Tryd.func34, Tryd.ntmps34
  go_wp2_with fail
  refine (D1.out _).mono ?_
  rintro e w2 ⟨rfl, k, rfl⟩
  go_wp2_with fail
  refine (D2.out _).mono ?_
  rintro e w2 ⟨rfl, k2, rfl⟩
  go_wp2
  go_ret
  exact ⟨rfl, k + k2, by simp⟩
set_option maxHeartbeats 400000 in
theorem formError_any (g : Nat) (m f s : Int) (w : World) (h : Fld w g m f s) (hm : 0 ≤ m) :
    Calls Tryd.prog 32 #[.pointer (some ⟨g, 0, none⟩)] w fun e w' => e = .returned (.int .i64 (if m % 2 = 0 then 1 else 0)) ∧ w' = w := by
  have c0 := h.cell0
  clear h
  by_cases h2 : m % 2 = 0
  · rw [if_pos h2]
    go_enter Tryd.func32, Tryd.ntmps32
    go_wp2
    go_ret
    exact ⟨rfl, rfl⟩
  · rw [if_neg h2]
    have h2' : (m % 2 == 0) = false := beq_eq_false_iff_ne.2 h2
    go_enter Tryd.func32, Tryd.ntmps32
    go_wp2
    go_ret
    exact ⟨rfl, rfl⟩
end Go.Proofs.YteeldlaidohjiabDoor
