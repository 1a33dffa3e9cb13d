/- What the reference answers: sums, differences, products by doubling, powers by squares, the greatest number that divides both, forms. -/
import Derived.Test.YtanlnmmeinmceaaWb
namespace Go.Proofs.Ytanlnmmeinmceaa
open Go.RowKit Num

set_option maxHeartbeats 400000 in
theorem rmay_any (m : Int) (w : World) :
    Calls Try.prog 28 #[.int .u64 m] w fun e w' => e = .returned (.bool (decide (2 ≤ m) && decide (m < 9223372036854775808))) ∧ w' = w := by
  go_enter Try.func28, Try.ntmps28
  by_cases h : 2 ≤ m
  · by_cases h' : m < 9223372036854775808
    · go_wp2
      go_ret
      exact ⟨by simp [h, h'], rfl⟩
    · go_wp2
      go_ret
      exact ⟨by simp [h'], rfl⟩
  · go_wp2
    go_ret
    exact ⟨by simp; omega, rfl⟩
set_option maxHeartbeats 400000 in
theorem radd_any (x y m : Int) (w : World) (hx : 0 ≤ x) (hy : 0 ≤ y) (hm : 2 ≤ m) (hm' : m ≤ 9223372036854775807) :
    Calls Try.prog 13 #[.int .u64 x, .int .u64 y, .int .u64 m] w fun e w' => e = .returned (.int .u64 ((x + y) % m)) ∧ ∃ k, w' = w.drewN k := by
  have h0 : (m == 0) = false := beq_eq_false_iff_ne.2 (by omega)
  have a := md_lt x (show 0 < m by omega)
  have b := md_lt y (show 0 < m by omega)
  have c := md_lt (x % m + y % m) (show 0 < m by omega)
  have E := hid (Int.add_emod x y m)
  go_enter Try.func13, Try.ntmps13
  go_wp2
  go_region
  go_wp2
  go_ret
  exact ⟨ret_int' E.out.symm, 1, rfl⟩
set_option maxHeartbeats 400000 in
theorem rsub_any (x y m : Int) (w : World) (hx : 0 ≤ x) (hy : 0 ≤ y) (hm : 2 ≤ m) (hm' : m ≤ 9223372036854775807) :
    Calls Try.prog 15 #[.int .u64 x, .int .u64 y, .int .u64 m] w fun e w' => e = .returned (.int .u64 ((x - y) % m)) ∧ ∃ k, w' = w.drewN k := by
  have h0 : (m == 0) = false := beq_eq_false_iff_ne.2 (by omega)
  have a := md_lt x (show 0 < m by omega)
  have b := md_lt y (show 0 < m by omega)
  have c := md_lt (x % m + m - y % m) (show 0 < m by omega)
  have E : Hid ((x - y) % m = (x % m + m - y % m) % m) := by
    show _ = _
    rw [Int.sub_emod, ← Int.add_emod_right]
    congr 1
    omega
  go_enter Try.func15, Try.ntmps15
  go_wp2
  go_region
  go_wp2
  go_ret
  exact ⟨ret_int' E.out.symm, 1, rfl⟩
set_option maxHeartbeats 800000 in
theorem rmul_any (x y m : Int) (w : World) (hx : 0 ≤ x) (hy : 0 ≤ y) (hm : 2 ≤ m) (hm' : m ≤ 9223372036854775807) :
    Calls Try.prog 17 #[.int .u64 x, .int .u64 y, .int .u64 m] w fun e w' => e = .returned (.int .u64 (x * y % m)) ∧ ∃ k, w' = w.drewN k := by
  have h0 : (m == 0) = false := beq_eq_false_iff_ne.2 (by omega)
  have a := md_lt x (show 0 < m by omega)
  have b := md_lt y (show 0 < m by omega)
  have E0 : Hid ((0 + x % m * (y % m)) % m = x * y % m) := by show _ = _; rw [Int.zero_add, md_times]
  obtain ⟨T, hT⟩ : ∃ T, T = x * y % m := ⟨_, rfl⟩
  rw [← hT] at E0
  rw [← hT]
  clear hT
  go_enter Try.func17, Try.ntmps17
  go_wp2
  generalize x % m = u at *
  generalize y % m = v at *
  go_loopw [0, 1, 7] (fun xv yv ov wr => ∃ (p q r : Int), xv = .int .u64 p ∧ yv = .int .u64 q ∧ ov = .int .u64 r ∧ 0 ≤ p ∧ p < m ∧ 0 ≤ q ∧ q ≤ 9223372036854775807 ∧ 0 ≤ r ∧ r < m ∧ Hid ((r + p * q) % m = T) ∧ ∃ k, wr = w.drewN k) (fun _ yv _ _ => (intOf yv).toNat)
  case atStart => exact ⟨u, v, 0, rfl, rfl, rfl, a.1, a.2, b.1, by omega, by decide, by omega, E0, 0, rfl⟩
  case round =>
    obtain ⟨p, q, r, rfl, rfl, rfl, hp, hp', hq, hq', hr, hr', G, k, rfl⟩ := hrel
    by_cases hq0 : q = 0
    · subst hq0
      have e : r = T := by have := G.out; rw [Int.mul_zero, Int.add_zero, Int.emod_eq_of_lt hr hr'] at this; exact this
      subst e
      clear G
      go_wp2
      go_ret
      exact ⟨rfl, k, rfl⟩
    · have hq1 : 0 < q := by omega
      by_cases ho : q % 2 = 1
      · have N := hid (mul_odd r p q m T G.out ho)
        have ho' : (q % 2 == 1) = true := by simp [ho]
        clear G
        go_wp2_with fail
        refine (radd_any r p m _ hr hp hm hm').mono ?_
        rintro e w2 ⟨rfl, k2, rfl⟩
        go_wp2_with fail
        refine (radd_any p p m _ hp hp hm hm').mono ?_
        rintro e w3 ⟨rfl, k3, rfl⟩
        have b1 := md_lt (r + p) (show 0 < m by omega)
        have b2 := md_lt (p + p) (show 0 < m by omega)
        generalize (r + p) % m = r' at *
        generalize (p + p) % m = p' at *
        go_wp2
        exact ⟨⟨p', q / 2, r', rfl, rfl, rfl, b2.1, b2.2, by omega, by omega, b1.1, b1.2, N, k + k2 + k3, by simp⟩, by simp only [intOf]; omega⟩
      · have N := hid (mul_even r p q m T G.out (by omega))
        have ho' : (q % 2 == 1) = false := by simp; omega
        clear G
        go_wp2_with fail
        refine (radd_any p p m _ hp hp hm hm').mono ?_
        rintro e w2 ⟨rfl, k2, rfl⟩
        have b2 := md_lt (p + p) (show 0 < m by omega)
        generalize (p + p) % m = p' at *
        go_wp2
        exact ⟨⟨p', q / 2, r, rfl, rfl, rfl, b2.1, b2.2, by omega, by omega, hr, hr', N, k + k2, by simp⟩, by simp only [intOf]; omega⟩
set_option maxHeartbeats 800000 in
theorem rpow_any (x m : Int) (n : Nat) (w : World) (hx : 0 ≤ x) (hm : 2 ≤ m) (hm' : m ≤ 9223372036854775807) (hn : n ≤ 18446744073709551615) :
    Calls Try.prog 19 #[.int .u64 x, .int .u64 n, .int .u64 m] w fun e w' => e = .returned (.int .u64 (x ^ n % m)) ∧ ∃ k, w' = w.drewN k := by
  have h0 : (m == 0) = false := beq_eq_false_iff_ne.2 (by omega)
  have b1 := md_lt 1 (show 0 < m by omega)
  have E0 : Hid (1 % m * x ^ n % m = x ^ n % m) := by show _ = _; rw [md_left, Int.one_mul]
  obtain ⟨T, hT⟩ : ∃ T, T = x ^ n % m := ⟨_, rfl⟩
  rw [← hT] at E0
  rw [← hT]
  clear hT
  go_enter Try.func19, Try.ntmps19
  go_wp2
  go_loopw [0, 1, 7] (fun xv nv ov wr => ∃ (q p : Int) (j : Nat), xv = .int .u64 q ∧ nv = .int .u64 j ∧ ov = .int .u64 p ∧ j ≤ 18446744073709551615 ∧ 0 ≤ p ∧ p < m ∧ 0 ≤ q ∧ Hid (p * q ^ j % m = T) ∧ ∃ k, wr = w.drewN k) (fun _ nv _ _ => (intOf nv).toNat)
  case atStart => exact ⟨x, 1 % m, n, rfl, rfl, rfl, hn, b1.1, b1.2, hx, E0, 0, rfl⟩
  case round =>
    obtain ⟨q, p, j, rfl, rfl, rfl, hj, hp, hp', hq, G, k, rfl⟩ := hrel
    by_cases hj0 : j = 0
    · subst hj0
      have e : p = T := by have := G.out; rw [Int.pow_zero, Int.mul_one, Int.emod_eq_of_lt hp hp'] at this; exact this
      subst e
      clear G
      go_wp2
      go_ret
      exact ⟨rfl, k, rfl⟩
    · have hj1 : (0 : Int) < (j : Int) := by omega
      by_cases ho : j % 2 = 1
      · have N := hid (pow_odd p q m T j G.out ho)
        have ho' : ((j : Int) % 2 == 1) = true := by simp; omega
        clear G
        go_wp2_with fail
        refine (rmul_any p q m _ hp hq hm hm').mono ?_
        rintro e w2 ⟨rfl, k2, rfl⟩
        go_wp2_with fail
        refine (rmul_any q q m _ hq hq hm hm').mono ?_
        rintro e w3 ⟨rfl, k3, rfl⟩
        have b1 := md_lt (p * q) (show 0 < m by omega)
        have b2 := md_lt (q * q) (show 0 < m by omega)
        generalize p * q % m = p' at *
        generalize q * q % m = q' at *
        go_wp2
        exact ⟨⟨q', p', j / 2, rfl, by congr 1, rfl, by omega, b1.1, b1.2, b2.1, N, k + k2 + k3, by simp⟩, by simp only [intOf]; omega⟩
      · have N := hid (pow_even p q m T j G.out (by omega))
        have ho' : ((j : Int) % 2 == 1) = false := by simp; omega
        clear G
        go_wp2_with fail
        refine (rmul_any q q m _ hq hq hm hm').mono ?_
        rintro e w2 ⟨rfl, k2, rfl⟩
        have b2 := md_lt (q * q) (show 0 < m by omega)
        generalize q * q % m = q' at *
        go_wp2
        exact ⟨⟨q', p, j / 2, rfl, by congr 1, rfl, by omega, hp, hp', b2.1, N, k + k2, by simp⟩, by simp only [intOf]; omega⟩
set_option maxHeartbeats 800000 in
theorem rgcd_any (x y : Nat) (w : World) (hx : x ≤ 18446744073709551615) (hy : y ≤ 18446744073709551615) :
    Calls Try.prog 34 #[.int .u64 x, .int .u64 y] w fun e w' => e = .returned (.int .u64 (Nat.gcd x y : Nat)) ∧ w' = w := by
  obtain ⟨G, hG⟩ : ∃ G, Nat.gcd x y = G := ⟨_, rfl⟩
  have E0 := hid hG
  rw [hG]
  clear hG
  go_enter Try.func34, Try.ntmps34
  go_wp2
  go_loop [0, 1] (fun xv yv => ∃ (p q : Nat), xv = .int .u64 p ∧ yv = .int .u64 q ∧ p ≤ 18446744073709551615 ∧ q ≤ 18446744073709551615 ∧ Hid (Nat.gcd p q = G)) (fun _ yv => (intOf yv).toNat)
  case atStart => exact ⟨x, y, rfl, rfl, hx, hy, E0⟩
  case round =>
    obtain ⟨p, q, rfl, rfl, hp, hq, E⟩ := hrel
    by_cases h0 : q = 0
    · subst h0
      have e : p = G := by have := E.out; rw [Nat.gcd_zero_right] at this; exact this
      subst e
      clear E
      go_wp2
      go_ret
      exact ⟨rfl, rfl⟩
    · have h1 : (0 : Int) < (q : Int) := by omega
      have h2 : ((q : Int) == 0) = false := beq_eq_false_iff_ne.2 (by omega)
      have hl := Nat.mod_lt p (show 0 < q by omega)
      have e2 : ((p : Int) % (q : Int)) = ((p % q : Nat) : Int) := (Int.natCast_emod p q).symm
      have N : Hid (Nat.gcd q (p % q) = G) := by
        show _ = _
        rw [← E.out, Nat.gcd_comm p q, Nat.gcd_rec q p, Nat.gcd_comm]
      have b1 : (0 : Int) ≤ (p : Int) % (q : Int) := by omega
      have b2 : (p : Int) % (q : Int) ≤ 18446744073709551615 := by omega
      clear E
      go_wp2
      exact ⟨⟨q, p % q, rfl, by rw [e2], hq, by omega, N⟩, by simp only [intOf]; omega⟩
set_option maxHeartbeats 800000 in
theorem rwrong_any (x m : Int) (w : World) (hx : 0 ≤ x) (hm : 2 ≤ m) (hm' : m ≤ 9223372036854775807) :
    Calls Try.prog 21 #[.int .u64 x, .int .u64 m] w fun e w' => e = .returned (.int .i64 (if x % m = 0 then 10 else if gc x m = 1 then 0 else 11)) ∧ w' = w := by
  have h0 : (m == 0) = false := beq_eq_false_iff_ne.2 (by omega)
  have a := md_lt x (show 0 < m by omega)
  by_cases h1 : x % m = 0
  · have h1' : (x % m == 0) = true := by simpa using h1
    rw [if_pos h1]
    go_enter Try.func21, Try.ntmps21
    go_wp2
    go_ret
    exact ⟨rfl, rfl⟩
  · have h1' : (x % m == 0) = false := beq_eq_false_iff_ne.2 h1
    rw [if_neg h1]
    have hG := rgcd_any (x % m).toNat m.toNat w (by omega) (by omega)
    rw [Int.toNat_of_nonneg a.1, Int.toNat_of_nonneg (show 0 ≤ m by omega), Nat.gcd_comm] at hG
    have HG := hid hG
    clear hG
    have e : gc x m = Nat.gcd m.toNat (x % m).toNat := rfl
    rw [← e] at HG
    by_cases h2 : gc x m = 1
    · rw [if_pos h2]
      rw [h2] at HG
      clear h2 e
      go_enter Try.func21, Try.ntmps21
      go_wp2_with fail
      refine HG.out.mono ?_
      rintro e w2 ⟨rfl, rfl⟩
      go_wp2
      go_ret
      exact ⟨rfl, rfl⟩
    · rw [if_neg h2]
      have h3 : ((gc x m : Int) == 1) = false := beq_eq_false_iff_ne.2 (by omega)
      have h3' : ((gc x m : Int) != 1) = true := by simp [bne, h3]
      clear h2 e
      generalize (gc x m : Int) = G at *
      go_enter Try.func21, Try.ntmps21
      go_wp2_with fail
      refine HG.out.mono ?_
      rintro e w2 ⟨rfl, rfl⟩
      go_wp2
      go_ret
      exact ⟨rfl, rfl⟩
theorem dbl (x m : Int) (i : Nat) : (x * 2 ^ i % m + x * 2 ^ i % m) % m = x * 2 ^ (i + 1) % m := by
  rw [← Int.add_emod, Int.pow_succ]
  congr 1
  grind
set_option maxHeartbeats 800000 in
theorem rform_any (x m : Int) (w : World) (hx : 0 ≤ x) (hm : 2 ≤ m) (hm' : m ≤ 9223372036854775807) :
    Calls Try.prog 26 #[.int .u64 x, .int .u64 m] w fun e w' => e = .returned (.int .u64 (x * 18446744073709551616 % m)) ∧ ∃ k, w' = w.drewN k := by
  have h0 : (m == 0) = false := beq_eq_false_iff_ne.2 (by omega)
  have a := md_lt x (show 0 < m by omega)
  have E0 : Hid (x % m = x * 2 ^ 0 % m) := by show _ = _; rw [Int.pow_zero, Int.mul_one]
  have EE : Hid (x * 2 ^ 64 % m = x * 18446744073709551616 % m) := rfl
  go_enter Try.func26, Try.ntmps26
  go_wp2
  go_loopw [0, 5] (fun xv iv wr => ∃ (p : Int) (i : Nat), xv = .int .u64 p ∧ iv = .int .i64 i ∧ i ≤ 64 ∧ 0 ≤ p ∧ p < m ∧ Hid (p = x * 2 ^ i % m) ∧ ∃ k, wr = w.drewN k) (fun _ iv _ => (64 - intOf iv).toNat)
  case atStart => exact ⟨x % m, 0, rfl, rfl, by omega, a.1, a.2, E0, 0, rfl⟩
  case round =>
    obtain ⟨p, i, rfl, rfl, hi, hp, hp', E, k, rfl⟩ := hrel
    by_cases h64 : i = 64
    · subst h64
      have e : p = x * 18446744073709551616 % m := E.out
      clear E
      go_wp2
      go_ret
      exact ⟨ret_int' e, k, rfl⟩
    · have N : Hid ((p + p) % m = x * 2 ^ (i + 1) % m) := by show _ = _; rw [E.out, dbl]
      have hi' : (i : Int) < 64 := by omega
      clear E
      go_wp2_with fail
      refine (radd_any p p m _ hp hp hm hm').mono ?_
      rintro e w2 ⟨rfl, k2, rfl⟩
      have b2 := md_lt (p + p) (show 0 < m by omega)
      generalize (p + p) % m = p' at *
      go_wp2
      exact ⟨⟨p', i + 1, rfl, rfl, by omega, b2.1, b2.2, N, k + k2, by simp⟩, by simp only [intOf]; omega⟩
end Go.Proofs.Ytanlnmmeinmceaa
