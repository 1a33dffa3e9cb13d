/- What prime's Next answers. -/
import Derived.Test.YteeldlaidohjiabDoorPi
namespace Go.Proofs.YteeldlaidohjiabDoor
open Go.RowKit Num Nmb

/-- p is the least number from n on that is told to be a prime. -/
def Nx (n p : Nat) : Prop := n ≤ p ∧ isB p = true ∧ ∀ m, n ≤ m → m < p → isB m = false
def NoNx (n : Nat) : Prop := ∀ m, n ≤ m → m < 9223372036854775808 → isB m = false
theorem is2 : isB 2 = true := isB_of_pri (bse_pri 0 (by decide)) (by decide)
theorem is_even {n : Nat} (h : 2 < n) (he : n % 2 = 0) : isB n = false := by
  rw [isP_div (k := 0) (by omega) (by decide) he]
  have e : bse 0 = 2 := rfl
  rw [e]
  exact decide_eq_false (by omega)
theorem or_one (n : Nat) (h : n ≤ 18446744073709551615) : bits .or .u64 (n : Int) 1 = ((n / 2 * 2 + 1 : Nat) : Int) := by
  have := bits_or_u64_nat n 1 (by omega) (by omega)
  have e : n ||| 1 = n / 2 * 2 + 1 := by
    have h1 : (n ||| 1) / 2 = n / 2 := by rw [Nat.or_div_two]; simp
    have h2 : (n ||| 1) % 2 = 1 := by rw [Nat.or_mod_two_eq_one]; simp
    omega
  rw [e] at this
  exact this
theorem Nx.uniq {n p q : Nat} (h : Nx n p) (h' : Nx n q) : p = q := by
  obtain ⟨a, b, c⟩ := h
  obtain ⟨a', b', c'⟩ := h'
  rcases Nat.lt_trichotomy p q with hl | hl | hl
  · have := c' p a hl; rw [b] at this; cases this
  · exact hl
  · have := c q a' hl; rw [b'] at this; cases this
set_option maxHeartbeats 1600000 in
theorem next_any (n : Nat) (w : World) (hn : n ≤ 18446744073709551615) (L : Lay w) :
    Calls Tryd.prog 16 #[.int .u64 n] w fun e w' => (∃ (p : Nat) (er : Int), e = .returned (.tuple #[.int .u64 p, .int .i64 er]) ∧ ((er = 0 ∧ p < 9223372036854775808 ∧ Nx n p) ∨ (er = 19 ∧ p = 0 ∧ NoNx n))) ∧ ∃ k, w' = w.drewN k := by
  by_cases h2 : n ≤ 2
  · have hN : Hid (Nx n 2) := ⟨h2, is2, fun m h3 h4 => isP_low h4⟩
    have h2' : (n : Int) ≤ 2 := by omega
    go_enter Tryd.func16, Tryd.ntmps16
    go_wp2
    go_ret2
    exact ⟨⟨2, 0, rfl, Or.inl ⟨rfl, by decide, hN.out⟩⟩, 0, rfl⟩
  · have h2' : ¬ (n : Int) ≤ 2 := by omega
    have eo := or_one n hn
    have ho : n ≤ n / 2 * 2 + 1 ∧ n / 2 * 2 + 1 ≤ n + 1 ∧ (n / 2 * 2 + 1) % 2 = 1 ∧ n / 2 * 2 + 1 ≤ 18446744073709551615 := by omega
    have R0 : Hid (∀ j, n ≤ j → j < n / 2 * 2 + 1 → isB j = false) := fun j h3 h4 => is_even (by omega) (by omega)
    have LL := hid L
    clear L
    generalize n / 2 * 2 + 1 = s at *
    go_enter Tryd.func16, Tryd.ntmps16
    go_wp2
    clear eo
    go_loopw [0] (fun iv wr => ∃ m : Nat, iv = .int .u64 m ∧ m % 2 = 1 ∧ 3 ≤ m ∧ m ≤ 18446744073709551615 ∧ n ≤ m ∧ Hid (∀ j, n ≤ j → j < m → isB j = false) ∧ ∃ c, wr = w.drewN c) (fun iv _ => (9223372036854775810 - intOf iv).toNat)
    case atStart => exact ⟨s, rfl, ho.2.2.1, by omega, by omega, by omega, R0, 0, rfl⟩
    case round =>
      obtain ⟨m, rfl, hm2, hm3, hm, hnm, R, c, rfl⟩ := hrel
      by_cases hb : 9223372036854775808 ≤ m
      · have hN : Hid (NoNx n) := fun j h3 h4 => R.out j h3 (by omega)
        have hb' : ¬ (m : Int) < 9223372036854775808 := by omega
        clear R R0
        go_wp2
        go_ret2
        exact ⟨⟨0, 19, rfl, Or.inr ⟨rfl, rfl, hN.out⟩⟩, c, rfl⟩
      · have hb' : (m : Int) < 9223372036854775808 := by omega
        have IS := hid (is_any m (w.drewN c) hm (LL.out.drew c))
        have hN : Hid (isB m = true → Nx n m) := fun h => ⟨hnm, h, R.out⟩
        have hR : Hid (isB m = false → ∀ j, n ≤ j → j < m + 2 → isB j = false) := fun h j h3 h4 => by
          by_cases e : j = m
          · rw [e]; exact h
          · by_cases e' : j = m + 1
            · exact is_even (by omega) (by omega)
            · exact R.out j h3 (by omega)
        clear R R0
        generalize isB m = B at *
        go_wp2_with fail
        refine IS.out.mono ?_
        rintro e w3 ⟨rfl, c2, rfl⟩
        clear IS
        cases B
        · have hr := hid (hR.out rfl)
          clear hR hN
          go_wp2
          exact ⟨⟨m + 2, rfl, by omega, by omega, by omega, by omega, hr, c + c2, by simp⟩, by simp only [intOf]; omega⟩
        · have hr := hid (hN.out rfl)
          clear hR hN
          go_wp2
          go_ret2
          exact ⟨⟨m, 0, rfl, Or.inl ⟨rfl, by omega, hr.out⟩⟩, c + c2, by simp⟩
end Go.Proofs.YteeldlaidohjiabDoor
