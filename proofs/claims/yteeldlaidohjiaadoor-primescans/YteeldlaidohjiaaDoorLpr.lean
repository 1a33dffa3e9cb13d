/- The law PrimeProth, walked. -/
import Derived.Test.YteeldlaidohjiaaDoorPa
import Derived.Test.YteeldlaidohjiaaDoorVr
namespace Go.Proofs.YteeldlaidohjiaaDoor
open Go.RowKit Num Nmb

theorem rpow_nat (x n m : Nat) (w : World) (hm : 2 ≤ m) (hm' : m ≤ 9223372036854775807) (hn : n ≤ 18446744073709551615) :
    Calls Tryd.prog 14 #[.int .u64 x, .int .u64 n, .int .u64 m] w fun e w' => e = .returned (.int .u64 (x ^ n % m : Nat)) ∧ ∃ k, w' = w.drewN k := by
  have h := rpow_any x m n w (by omega) (by omega) (by omega) hn
  rw [← Int.natCast_pow, ← Int.natCast_emod] at h
  exact h
theorem rpow_two (k u : Nat) (w : World) (hk : k ≤ 40) (hu : 2 ^ k = u) :
    Calls Tryd.prog 14 #[.int .u64 2, .int .u64 k, .int .u64 4611686018427387904] w fun e w' => e = .returned (.int .u64 u) ∧ ∃ k, w' = w.drewN k := by
  have h := rpow_nat 2 k 4611686018427387904 w (by decide) (by decide) (by omega)
  have hl : 2 ^ k ≤ 2 ^ 40 := Nat.pow_le_pow_right (by decide) hk
  rw [Nat.mod_eq_of_lt (by omega), hu] at h
  exact h
set_option maxHeartbeats 1600000 in
set_option maxRecDepth 100000 in
theorem proth_law (c a : Nat) (k : Int) (w : World) (hc : c ≤ 18446744073709551615) (ha : a ≤ 18446744073709551615) (hk : -9223372036854775808 ≤ k ∧ k ≤ 9223372036854775807) (L : Lay w) :
    Calls Tryd.prog 5 #[.int .u64 c, .int .i64 k, .int .u64 a] w fun e w' => e = .returned (.bool true) ∧ Below w.heap.size w w' := by
  have LL := hid L
  have AW := hid (awake_any w L)
  clear L
  by_cases h1 : k < 1
  · go_enter Tryd.func5, Tryd.ntmps5
    go_wp2_with fail
    refine AW.out.mono ?_
    rintro e w2 ⟨rfl, B⟩
    go_wp2
    go_ret
    exact ⟨rfl, B⟩
  by_cases h2 : 40 < k
  · go_enter Tryd.func5, Tryd.ntmps5
    go_wp2_with fail
    refine AW.out.mono ?_
    rintro e w2 ⟨rfl, B⟩
    go_wp2
    go_ret
    exact ⟨rfl, B⟩
  have e2 : (c : Int) % 2 = ((c % 2 : Nat) : Int) := by omega
  by_cases h3 : c % 2 = 0
  · rw [h3] at e2
    go_enter Tryd.func5, Tryd.ntmps5
    go_wp2_with fail
    refine AW.out.mono ?_
    rintro e w2 ⟨rfl, B⟩
    go_wp2
    go_ret
    exact ⟨rfl, B⟩
  have h3' : c % 2 = 1 := by omega
  rw [h3'] at e2
  obtain ⟨k, rfl⟩ : ∃ j : Nat, k = j := ⟨k.toNat, by omega⟩
  obtain ⟨u, hu⟩ : ∃ u, 2 ^ k = u := ⟨_, rfl⟩
  have u1 : 2 ≤ 2 ^ k ∧ 2 ^ k ≤ 1099511627776 := ⟨by simpa using Nat.pow_le_pow_right (show 0 < 2 by decide) (show 1 ≤ k by omega), by simpa using Nat.pow_le_pow_right (show 0 < 2 by decide) (show k ≤ 40 by omega)⟩
  rw [hu] at u1
  have P2 := hid (fun w => rpow_two k u w (by omega) hu)
  have PR : Hid (c < u → c < 4194304 → ∀ a, a ^ ((c * u + 1 - 1) / 2) % (c * u + 1) = c * u + 1 - 1 → isB (c * u + 1) = true) := fun h4 h5 a h6 => by
    have hl : c * u ≤ 4194304 * 1099511627776 := Nat.mul_le_mul (by omega) u1.2
    refine isB_of_pri (proth (c := c) (k := k) (a := a) (by omega) h3' (by rw [hu]; exact h4) (by rw [hu]) h6) (by omega)
  have kw : IntKind.u64.wrap (k : Int) = (k : Int) := by rw [IntKind.wrap_u64]; omega
  clear h3 h3' hu
  go_enter Tryd.func5, Tryd.ntmps5
  go_wp2_with fail
  refine (P2.out _).mono ?_
  rintro e w2 ⟨rfl, c2, rfl⟩
  have AW2 := hid (awake_any _ (LL.out.drew c2))
  by_cases h4 : u ≤ c
  · have h4' : (u : Int) ≤ (c : Int) := by omega
    go_wp2_with fail
    refine AW2.out.mono ?_
    rintro e w2 ⟨rfl, B⟩
    go_wp2
    go_ret
    exact ⟨rfl, Below.of_drew B⟩
  by_cases h5 : 4194304 ≤ c
  · have h4' : ¬ (u : Int) ≤ (c : Int) := by omega
    have h5' : 4194304 ≤ (c : Int) := by omega
    go_wp2_with fail
    refine AW2.out.mono ?_
    rintro e w2 ⟨rfl, B⟩
    go_wp2
    go_ret
    exact ⟨rfl, Below.of_drew B⟩
  have h5' : decide (4194304 ≤ (c : Int)) = false := by simp; omega
  have HL : Hid (c * u ≤ 4611686018427387904) := Nat.mul_le_mul (show c ≤ 4194304 by omega) u1.2
  have HL2 : Hid (2 ≤ c * u) := Nat.mul_le_mul (show 1 ≤ c by omega) u1.1
  have PP := hid (PR.out (by omega) (by omega))
  clear PR AW AW2 h5
  go_wp2_with fail
  refine (P2.out _).mono ?_
  rintro e w3 ⟨rfl, c3, rfl⟩
  have hl := HL.out
  have hl2 := HL2.out
  have en : IntKind.u64.wrap (IntKind.u64.wrap ((c : Int) * (u : Int)) + 1) = ((c * u + 1 : Nat) : Int) := by
    rw [← Int.natCast_mul, IntKind.wrap_u64, IntKind.wrap_u64]
    omega
  obtain ⟨n, hn⟩ : ∃ n, n = c * u + 1 := ⟨_, rfl⟩
  rw [← hn] at en PP
  have n1 : 3 ≤ n ∧ n ≤ 4611686018427387905 := by omega
  have AW3 := hid (fun c' => awake_any _ (LL.out.drew (c2 + c3 + c')))
  clear hn hl hl2 h4 h5' HL HL2 P2
  have em : (a : Int) % (n : Int) = ((a % n : Nat) : Int) := (Int.natCast_emod a n).symm
  have n0 : ¬ (n : Int) = 0 := by omega
  have ed : ((n : Int) - 1) / 2 = (((n - 1) / 2 : Nat) : Int) := by omega
  by_cases h6 : a % n = 0
  · have A0 := hid (AW3.out 0)
    rw [Nat.add_zero] at A0
    rw [h6] at em
    clear PP AW3 ed h6
    go_wp2_with fail
    refine A0.out.mono ?_
    rintro e w2 ⟨rfl, B⟩
    go_wp2
    go_ret
    exact ⟨rfl, Below.of_drew B⟩
  have h6' : (((a % n : Nat) : Int) == 0) = false := beq_eq_false_iff_ne.2 (by omega)
  have PW := hid (fun w => rpow_nat a ((n - 1) / 2) n w (by omega) (by omega) (by omega))
  have pa := hid (PP.out a)
  have ml := Nat.mod_lt a (show 0 < n by omega)
  have IS := hid (fun w L => is_any n w (by omega) L)
  generalize a % n = r at *
  generalize isB n = B at *
  generalize hz : a ^ ((n - 1) / 2) % n = z at *
  clear hz
  generalize (n - 1) / 2 = m at *
  clear PP h6
  go_wp2_with fail
  refine (PW.out _).mono ?_
  rintro e w3 ⟨rfl, c4, rfl⟩
  by_cases h7 : z = n - 1
  · have h7' : ((z : Int) != (n : Int) - 1) = false := by simp; omega
    have hB := pa.out h7
    subst hB
    clear pa h7 em
    go_wp2_with fail
    refine (IS.out _ (by simpa using LL.out.drew (c2 + c3 + c4))).mono ?_
    rintro e w4 ⟨rfl, c5, rfl⟩
    go_wp2_with fail
    have A1 := hid (AW3.out (c4 + c5))
    refine Calls.mono (by simpa [Nat.add_assoc] using A1.out) ?_
    rintro e w4 ⟨rfl, B⟩
    go_wp2
    go_ret
    exact ⟨rfl, Below.of_drew B⟩
  · have h7' : ((z : Int) != (n : Int) - 1) = true := bne_iff_ne.2 (by omega)
    have A1 := hid (AW3.out c4)
    clear pa h7 em IS AW3
    go_wp2_with fail
    refine A1.out.mono ?_
    rintro e w4 ⟨rfl, B⟩
    go_wp2
    go_ret
    exact ⟨rfl, Below.of_drew B⟩
end Go.Proofs.YteeldlaidohjiaaDoor
