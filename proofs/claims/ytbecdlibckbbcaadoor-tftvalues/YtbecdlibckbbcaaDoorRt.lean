/- What the reference's Is answers. -/
/- What the reference's Twos answers; what is gathered. -/
import Derived.Test.YtbecdlibckbbcaaDoorPa
namespace Go.Proofs.YtbecdlibckbbcaaDoor
open Go.RowKit Num Nmb

theorem isB_no {n d : Nat} (hn : n ≤ 1002000) (h2 : 2 ≤ d) (hd : d * d ≤ n) (h : n % d = 0) : isB n = false := by
  cases hb : isB n
  · rfl
  · exact absurd (Nat.dvd_of_mod_eq_zero h) ((pri_of_isB hb hn).no_div h2 hd)
theorem isB_yes {n d : Nat} (hn : n ≤ 1002000) (h2 : 2 ≤ n) (hd : n < d * d) (h : ∀ e, 2 ≤ e → e < d → n % e ≠ 0) : isB n = true := by
  refine isB_of_pri (pri_of_root h2 fun e h3 h4 h5 => h e h3 ?_ (Nat.mod_eq_zero_of_dvd h5)) (by omega)
  apply Nat.lt_of_not_le
  intro h6
  have := Nat.mul_le_mul h6 h6
  omega
theorem root_lt {n d : Nat} (hn : n ≤ 1002000) (hd : d * d ≤ n) : d ≤ 1001 := by
  apply Nat.le_of_not_lt
  intro h
  have := Nat.mul_le_mul h h
  omega
set_option maxHeartbeats 1600000 in
theorem ris_any (n : Nat) (w : World) (hn : n ≤ 1002000) :
    Calls Tryd.prog 28 #[.int .u64 n] w fun e w' => e = .returned (.bool (isB n)) ∧ w' = w := by
  by_cases h2 : n < 2
  · rw [isP_low h2]
    have h2' : (n : Int) < 2 := by omega
    go_enter Tryd.func28, Tryd.ntmps28
    go_wp2
    go_ret
    exact ⟨rfl, rfl⟩
  · have h2' : ¬ (n : Int) < 2 := by omega
    have YES : Hid (∀ d, n < d * d → (∀ e, 2 ≤ e → e < d → n % e ≠ 0) → isB n = true) := fun d h3 h4 => isB_yes hn (by omega) h3 h4
    have NO : Hid (∀ d, 2 ≤ d → d * d ≤ n → n % d = 0 → isB n = false) := fun d h3 h4 h5 => isB_no hn h3 h4 h5
    generalize isB n = B at *
    go_enter Tryd.func28, Tryd.ntmps28
    go_wp2
    go_loop [3] (fun dv => ∃ d : Nat, dv = .int .u64 d ∧ 2 ≤ d ∧ d ≤ 1002 ∧ Hid (∀ e, 2 ≤ e → e < d → n % e ≠ 0)) (fun dv => (1002 - intOf dv).toNat)
    case atStart => exact ⟨2, rfl, by decide, by decide, fun e h h' => absurd h' (by omega)⟩
    case round =>
      obtain ⟨d, rfl, hd2, hd, R⟩ := hrel
      have dm : d * d ≤ 1002 * 1002 := Nat.mul_le_mul hd hd
      have ed : IntKind.u64.wrap ((d : Int) * (d : Int)) = ((d * d : Nat) : Int) := by
        rw [← Int.natCast_mul, IntKind.wrap_u64]
        omega
      by_cases hl : d * d ≤ n
      · have d1 := root_lt hn hl
        have no := hid (NO.out d hd2 hl)
        have hl' : ((d * d : Nat) : Int) ≤ (n : Int) := by omega
        have d0 : ((d : Int) == 0) = false := beq_eq_false_iff_ne.2 (by omega)
        have d0' : ¬ (d : Int) = 0 := by omega
        have em : (n : Int) % (d : Int) = ((n % d : Nat) : Int) := (Int.natCast_emod n d).symm
        have ml := Nat.mod_lt n (show 0 < d by omega)
        have R' : Hid (n % d ≠ 0 → ∀ e, 2 ≤ e → e < d + 1 → n % e ≠ 0) := fun h e h3 h4 => by
          by_cases he : e = d
          · rw [he]; exact h
          · exact R.out e h3 (by omega)
        clear dm hl R
        generalize d * d = dd at *
        by_cases hz : n % d = 0
        · have hB := no.out hz
          subst hB
          rw [hz] at em
          go_wp2
          go_ret
          exact ⟨rfl, rfl⟩
        · have hz' : (((n % d : Nat) : Int) == 0) = false := beq_eq_false_iff_ne.2 (by omega)
          have rr := hid (R'.out hz)
          clear R' hz no
          generalize n % d = r at *
          go_wp2
          exact ⟨⟨d + 1, rfl, by omega, by omega, rr⟩, by simp only [intOf]; omega⟩
      · have hB := YES.out d (by omega) R.out
        subst hB
        have hl' : ¬ ((d * d : Nat) : Int) ≤ (n : Int) := by omega
        clear hl dm
        generalize d * d = dd at *
        go_wp2
        go_ret
        exact ⟨rfl, rfl⟩
end Go.Proofs.YtbecdlibckbbcaaDoor
namespace Go.Proofs.YtbecdlibckbbcaaDoor
open Go.RowKit Num Nmb

theorem two_le {k t m : Nat} (h : 2 ^ k ∣ 2 ^ t * (2 * m + 1)) : k ≤ t := by
  apply Nat.le_of_not_lt
  intro hl
  obtain ⟨d, rfl⟩ : ∃ d, k = t + 1 + d := ⟨k - t - 1, by omega⟩
  obtain ⟨c, hc⟩ := h
  have e : 2 ^ (t + 1 + d) * c = 2 ^ t * (2 * (2 ^ d * c)) := by
    rw [Nat.pow_add, Nat.pow_succ]
    simp only [Nat.mul_assoc]
  rw [e] at hc
  have := Nat.eq_of_mul_eq_mul_left (Nat.pow_pos (by decide)) hc
  omega
theorem two_uniq {a b m l : Nat} (h : 2 ^ a * (2 * m + 1) = 2 ^ b * (2 * l + 1)) : a = b :=
  Nat.le_antisymm (two_le (m := l) ⟨2 * m + 1, h.symm⟩) (two_le (m := m) ⟨2 * l + 1, h⟩)
/-- 2 goes into n just t times. -/
def Tw (n t : Nat) : Prop := ∃ m, n = 2 ^ t * (2 * m + 1)
set_option maxHeartbeats 1600000 in
theorem rtwos_any (n : Nat) (w : World) (h0 : 0 < n) (hn : n ≤ 18446744073709551615) :
    Calls Tryd.prog 47 #[.int .u64 n] w fun e w' => (∃ t : Nat, e = .returned (.int .i64 t) ∧ t < 64 ∧ Tw n t) ∧ w' = w := by
  go_enter Tryd.func47, Tryd.ntmps47
  go_wp2
  go_loop [0, 3] (fun nv kv => ∃ (q t : Nat), nv = .int .u64 q ∧ kv = .int .i64 t ∧ 0 < q ∧ q ≤ 18446744073709551615 ∧ t < 64 ∧ Hid (n = 2 ^ t * q)) (fun nv _ => (intOf nv).toNat)
  case atStart => exact ⟨n, 0, rfl, rfl, h0, hn, by decide, by show _ = _; rw [Nat.pow_zero, Nat.one_mul]⟩
  case round =>
    obtain ⟨q, t, rfl, rfl, hq, hq', ht, R⟩ := hrel
    have q0 : (0 : Int) < (q : Int) := by omega
    have em : (q : Int) % 2 = ((q % 2 : Nat) : Int) := by omega
    by_cases h1 : q % 2 = 0
    · have hd : Hid (n = 2 ^ (t + 1) * (q / 2)) := by
        show _ = _
        rw [Nat.pow_succ, Nat.mul_assoc, show 2 * (q / 2) = q by omega]
        exact R.out
      have ht' : t + 1 < 64 := by
        apply Nat.lt_of_not_le
        intro h
        have h3 : 2 ^ 64 ≤ 2 ^ (t + 1) := Nat.pow_le_pow_right (by decide) h
        have h4 : 2 ^ (t + 1) * 1 ≤ 2 ^ (t + 1) * (q / 2) := Nat.mul_le_mul_left _ (by omega)
        rw [← hd.out] at h4
        omega
      rw [h1] at em
      clear R
      go_wp2
      exact ⟨⟨q / 2, t + 1, by congr 1, rfl, by omega, by omega, ht', hd⟩, by simp only [intOf]; omega⟩
    · have h1' : q % 2 = 1 := by omega
      have hd : Hid (n = 2 ^ t * (2 * (q / 2) + 1)) := by
        show _ = _
        rw [show 2 * (q / 2) + 1 = q by omega]
        exact R.out
      rw [h1'] at em
      clear R
      go_wp2
      go_ret
      exact ⟨⟨t, rfl, ht, ⟨q / 2, hd.out⟩⟩, rfl⟩
theorem gath_mem {u x : Nat} : ∀ {q : Nat}, x ∈ gath u q → isB x = true ∧ ∃ j, 1 ≤ j ∧ j ≤ q ∧ x = 1 + u * j
  | 0, h => by cases h
  | q + 1, h => by
    rw [gath] at h
    split at h
    · rename_i hb
      rcases List.mem_cons.1 h with rfl | h
      · exact ⟨hb, q + 1, by omega, by omega, rfl⟩
      · obtain ⟨h1, j, h2, h3, h4⟩ := gath_mem h
        exact ⟨h1, j, h2, by omega, h4⟩
    · obtain ⟨h1, j, h2, h3, h4⟩ := gath_mem h
      exact ⟨h1, j, h2, by omega, h4⟩
theorem gath_down {u : Nat} (hu : 0 < u) : ∀ q, (gath u q).Pairwise (fun a b => b < a)
  | 0 => List.Pairwise.nil
  | q + 1 => by
    rw [gath]
    split
    · refine List.Pairwise.cons (fun x hx => ?_) (gath_down hu q)
      obtain ⟨_, j, _, h3, rfl⟩ := gath_mem hx
      have : u * j < u * (q + 1) := Nat.mul_lt_mul_of_pos_left (by omega) hu
      omega
    · exact gath_down hu q
theorem gath_lt {u x below : Nat} (_hu : 2 ≤ u) (hb : 2 ≤ below) (h : x ∈ gath u ((below - 2) / u)) : x < below := by
  obtain ⟨_, j, _, h3, rfl⟩ := gath_mem h
  have h4 : u * j ≤ u * ((below - 2) / u) := Nat.mul_le_mul_left u h3
  have h5 := Nat.mul_div_le (below - 2) u
  omega
end Go.Proofs.YtbecdlibckbbcaaDoor
