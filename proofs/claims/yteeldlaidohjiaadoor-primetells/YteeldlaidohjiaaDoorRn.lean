/- What the reference's Next answers. -/
import Derived.Test.YteeldlaidohjiaaDoorRi
namespace Go.Proofs.YteeldlaidohjiaaDoor
open Go.RowKit Num Nmb

def noDiv (n : Nat) : Nat → Bool
  | 0 => true
  | d + 1 => cond (Nat.beq (n % (d + 2)) 0) false (noDiv n d)
theorem noDiv_said {n : Nat} : ∀ {m : Nat}, noDiv n m = true → ∀ d, 2 ≤ d → d < m + 2 → n % d ≠ 0
  | 0, _, d, h1, h2 => by omega
  | m + 1, h, d, h1, h2 => by
    unfold noDiv at h
    cases hb : Nat.beq (n % (m + 2)) 0
    · rw [hb] at h
      by_cases e : d = m + 2
      · rw [e]
        intro h3
        rw [h3] at hb
        cases hb
      · exact noDiv_said h d h1 (by omega)
    · rw [hb] at h
      cases h
theorem pri1000003 : Pri 1000003 := by
  refine pri_of_root (by decide) fun d h1 h2 h3 => ?_
  have hd : d < 1002 := by
    apply Nat.lt_of_not_le
    intro h
    have := Nat.mul_le_mul h h
    omega
  exact noDiv_said (n := 1000003) (m := 1000) (by decide +kernel) d h1 hd (Nat.mod_eq_zero_of_dvd h3)
theorem is1000003 : isB 1000003 = true := isB_of_pri pri1000003 (by decide)
set_option maxHeartbeats 1600000 in
theorem rnext_any (n : Nat) (w : World) (hn : n ≤ 1000000) :
    Calls Tryd.prog 13 #[.int .u64 n] w fun e w' => (∃ p : Nat, e = .returned (.int .u64 p) ∧ Nx n p) ∧ w' = w := by
  go_enter Tryd.func13, Tryd.ntmps13
  go_wp2
  go_loop [0] (fun nv => ∃ m : Nat, nv = .int .u64 m ∧ n ≤ m ∧ m ≤ 1000003 ∧ Hid (∀ j, n ≤ j → j < m → isB j = false)) (fun nv => (1000003 - intOf nv).toNat)
  case atStart => exact ⟨n, rfl, by omega, by omega, fun j h h' => absurd h' (by omega)⟩
  case round =>
    obtain ⟨m, rfl, hm1, hm2, R⟩ := hrel
    have IS := hid (ris_any m w (by omega))
    have YES : Hid (isB m = true → Nx n m) := fun h => ⟨hm1, h, R.out⟩
    have NO : Hid (isB m = false → m < 1000003) := fun h => by
      apply Nat.lt_of_le_of_ne hm2
      intro e
      rw [e, is1000003] at h
      cases h
    have R' : Hid (isB m = false → ∀ j, n ≤ j → j < m + 1 → isB j = false) := fun h j h1 h2 => by
      by_cases e : j = m
      · rw [e]; exact h
      · exact R.out j h1 (by omega)
    clear R
    generalize isB m = B at *
    go_wp2_with fail
    refine IS.out.mono ?_
    rintro e w2 ⟨rfl, rfl⟩
    cases B
    · have h1 := NO.out rfl
      have h2 := hid (R'.out rfl)
      clear YES NO R' IS
      go_wp2
      exact ⟨⟨m + 1, rfl, by omega, by omega, h2⟩, by simp only [intOf]; omega⟩
    · have h2 := hid (YES.out rfl)
      clear YES NO R' IS
      go_wp2
      go_ret
      exact ⟨⟨m, rfl, h2.out⟩, rfl⟩
end Go.Proofs.YteeldlaidohjiaaDoor
