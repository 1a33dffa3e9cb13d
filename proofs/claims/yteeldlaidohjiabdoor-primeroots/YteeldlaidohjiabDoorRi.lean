/- What the reference's Is answers. -/
import Derived.Test.YteeldlaidohjiabDoorPa
namespace Go.Proofs.YteeldlaidohjiabDoor
open Go.RowKit Num Nmb

theorem isB_no {n d : Nat} (hn : n ≤ 1002000) (h2 : 2 ≤ d) (hd : d * d ≤ n) (h : n % d = 0) : isB n = false := by
  cases hb : isB n
  · rfl
  · exact absurd (Nat.dvd_of_mod_eq_zero h) ((pri_of_isB hb hn).no_div h2 hd)
theorem isB_yes {n d : Nat} (hn : n ≤ 1002000) (h2 : 2 ≤ n) (hd : n < d * d) (h : ∀ e, 2 ≤ e → e < d → n % e ≠ 0) : isB n = true := by
  refine isB_of_pri (pri_of_root h2 fun e h3 h4 h5 => h e h3 ?_ (Nat.mod_eq_zero_of_dvd h5)) (by omega)
  apply Nat.lt_of_not_le
  intro h6
  have := Nat.mul_le_mul h6 h6
  omega
theorem root_lt {n d : Nat} (hn : n ≤ 1002000) (hd : d * d ≤ n) : d ≤ 1001 := by
  apply Nat.le_of_not_lt
  intro h
  have := Nat.mul_le_mul h h
  omega
set_option maxHeartbeats 1600000 in
theorem ris_any (n : Nat) (w : World) (hn : n ≤ 1002000) :
    Calls Tryd.prog 12 #[.int .u64 n] w fun e w' => e = .returned (.bool (isB n)) ∧ w' = w := by
  by_cases h2 : n < 2
  · rw [isP_low h2]
    have h2' : (n : Int) < 2 := by omega
    go_enter Tryd.func12, Tryd.ntmps12
    go_wp2
    go_ret
    exact ⟨rfl, rfl⟩
  · have h2' : ¬ (n : Int) < 2 := by omega
    have YES : Hid (∀ d, n < d * d → (∀ e, 2 ≤ e → e < d → n % e ≠ 0) → isB n = true) := fun d h3 h4 => isB_yes hn (by omega) h3 h4
    have NO : Hid (∀ d, 2 ≤ d → d * d ≤ n → n % d = 0 → isB n = false) := fun d h3 h4 h5 => isB_no hn h3 h4 h5
    generalize isB n = B at *
    go_enter Tryd.func12, Tryd.ntmps12
    go_wp2
    go_loop [3] (fun dv => ∃ d : Nat, dv = .int .u64 d ∧ 2 ≤ d ∧ d ≤ 1002 ∧ Hid (∀ e, 2 ≤ e → e < d → n % e ≠ 0)) (fun dv => (1002 - intOf dv).toNat)
    case atStart => exact ⟨2, rfl, by decide, by decide, fun e h h' => absurd h' (by omega)⟩
    case round =>
      obtain ⟨d, rfl, hd2, hd, R⟩ := hrel
      have dm : d * d ≤ 1002 * 1002 := Nat.mul_le_mul hd hd
      have ed : IntKind.u64.wrap ((d : Int) * (d : Int)) = ((d * d : Nat) : Int) := by
        rw [← Int.natCast_mul, IntKind.wrap_u64]
        omega
      by_cases hl : d * d ≤ n
      · have d1 := root_lt hn hl
        have no := hid (NO.out d hd2 hl)
        have hl' : ((d * d : Nat) : Int) ≤ (n : Int) := by omega
        have d0 : ((d : Int) == 0) = false := beq_eq_false_iff_ne.2 (by omega)
        have d0' : ¬ (d : Int) = 0 := by omega
        have em : (n : Int) % (d : Int) = ((n % d : Nat) : Int) := (Int.natCast_emod n d).symm
        have ml := Nat.mod_lt n (show 0 < d by omega)
        have R' : Hid (n % d ≠ 0 → ∀ e, 2 ≤ e → e < d + 1 → n % e ≠ 0) := fun h e h3 h4 => by
          by_cases he : e = d
          · rw [he]; exact h
          · exact R.out e h3 (by omega)
        clear dm hl R
        generalize d * d = dd at *
        by_cases hz : n % d = 0
        · have hB := no.out hz
          subst hB
          rw [hz] at em
          go_wp2
          go_ret
          exact ⟨rfl, rfl⟩
        · have hz' : (((n % d : Nat) : Int) == 0) = false := beq_eq_false_iff_ne.2 (by omega)
          have rr := hid (R'.out hz)
          clear R' hz no
          generalize n % d = r at *
          go_wp2
          exact ⟨⟨d + 1, rfl, by omega, by omega, rr⟩, by simp only [intOf]; omega⟩
      · have hB := YES.out d (by omega) R.out
        subst hB
        have hl' : ¬ ((d * d : Nat) : Int) ≤ (n : Int) := by omega
        clear hl dm
        generalize d * d = dd at *
        go_wp2
        go_ret
        exact ⟨rfl, rfl⟩
end Go.Proofs.YteeldlaidohjiabDoor
