/- What prime's strong test answers. -/
/- What prime's Is answers. -/
/- What prime's Next answers. -/
import Derived.Test.YtbecdlibckbbcabDoorPq
namespace Go.Proofs.YtbecdlibckbbcabDoor
open Go.RowKit Num Nmb

theorem power_nat (x n m : Nat) (w : World) (hx : x < m) (h2 : 2 ≤ m) (hm : m ≤ 18446744073709551615) (hn : n ≤ 18446744073709551615) :
    Calls Tryd.prog 55 #[.int .u64 x, .int .u64 n, .int .u64 m] w fun e w' => e = .returned (.int .u64 (x ^ n % m : Nat)) ∧ ∃ k, w' = w.drewN k := by
  have h := power_any x m n w ⟨by omega, by omega⟩ (by omega) (by omega) hn
  rw [← Int.natCast_pow, ← Int.natCast_emod] at h
  exact h
theorem times_nat (x y m : Nat) (w : World) (hx : x < m) (hy : y < m) (hm : m ≤ 18446744073709551615) :
    Calls Tryd.prog 56 #[.int .u64 x, .int .u64 y, .int .u64 m] w fun e w' => e = .returned (.int .u64 (x * y % m : Nat)) ∧ ∃ k, w' = w.drewN k := by
  have h := times_any x y m w ⟨by omega, by omega⟩ ⟨by omega, by omega⟩ (by omega)
  rw [← Int.natCast_mul, ← Int.natCast_emod] at h
  exact h
theorem tw_pos {n : Nat} (h2 : 41 ≤ n) (hn : n ≤ 18446744073709551615) (ho : n % 2 ≠ 0) : 0 < tw n := by
  obtain ⟨e1, e2, e3⟩ := tw_said (n := n) (by omega) hn
  apply Nat.pos_of_ne_zero
  intro h
  rw [h, Nat.pow_zero, Nat.mul_one] at e1
  omega
theorem sq_next (z n i : Nat) : (z ^ 2 ^ i % n) * (z ^ 2 ^ i % n) % n = z ^ 2 ^ (i + 1) % n := by
  rw [← Nat.mul_mod, Nat.pow_succ, Nat.pow_mul, Nat.pow_two]
set_option maxHeartbeats 1600000 in
theorem strong_any (n : Nat) (w : World) (h2 : 2 ≤ n) (hc : ∀ k, k < 12 → n % bse k ≠ 0) (hn : n ≤ 18446744073709551615) (L : Lay w) :
    Calls Tryd.prog 49 #[.int .u64 n] w fun e w' => e = .returned (.bool (isB n)) ∧ ∃ k, w' = w.drewN k := by
  have h41 := big_of h2 hc
  have C := hid hc
  have LL := hid L
  obtain ⟨e1, e2, e3⟩ := tw_said (n := n) (by omega) hn
  have TZ := hid (tz_any (n - 1) w (by omega) L)
  have en : ((n - 1 : Nat) : Int) = (n : Int) - 1 := by omega
  obtain ⟨t, fr, hg⟩ := L.bas
  rw [en] at TZ
  change Hid (Calls Tryd.prog 37 #[.int .u64 ((n : Int) - 1)] w fun e w' => e = .returned (.int .i64 (tw n : Nat)) ∧ w' = w) at TZ
  have eo : ((n : Int) - 1) / 2 ^ tw n = (od n : Nat) := by
    unfold od
    rw [← en, Int.natCast_ediv, Int.natCast_pow]
    rfl
  have tp := tw_pos h41 hn (C.out 0 (by decide))
  have odle : od n ≤ 18446744073709551615 := by
    have : od n * 1 ≤ od n * 2 ^ tw n := Nat.mul_le_mul_left _ (Nat.pow_pos (by decide))
    omega
  have YES : Hid ((∀ k, k < 12 → Pass n (bse k)) → isB n = true) := fun hp => isP_pass h2 C.out hp
  have NO : Hid (∀ k, k < 12 → ¬ Pass n (bse k) → isB n = false) := fun k hk hp => isP_fail hk C.out hp
  have P1 : Hid (∀ a, a ^ od n % n = 1 → Pass n a) := fun a h => Or.inl h
  have P2 : Hid (∀ a r, r < tw n → (a ^ od n) ^ 2 ^ r % n = n - 1 → Pass n a) := fun a r h h' => Or.inr ⟨r, h, h'⟩
  have P3 : Hid (∀ a, a ^ od n % n ≠ 1 → (∀ r, r < tw n → (a ^ od n) ^ 2 ^ r % n ≠ n - 1) → ¬ Pass n a) := fun a h h' hp => by
    rcases hp with hp | ⟨r, h3, h4⟩
    · exact h hp
    · exact h' r h3 h4
  generalize isB n = B at *
  clear L hc e1 e2 en C
  go_enter Tryd.func49, Tryd.ntmps49
  go_wp2
  go_step3
  go_wp2_with fail
  refine TZ.out.mono ?_
  rintro e w2 ⟨rfl, rfl⟩
  go_wp2
  clear eo
  generalize od n = d at *
  generalize tw n = s at *
  go_step3
  go_wp2_with (refine wpList_load_row rfl 77 _ rfl 2 rfl t _ fr _ hg Tryd.underlying77 rfl (by kernel_rfl) ?_)
  clear TZ LL hg
  go_loopw [16] (fun iv wr => ∃ k : Nat, iv = .int .i64 k ∧ k ≤ 12 ∧ Hid (∀ j, j < k → Pass n (bse j)) ∧ ∃ c, wr = w2.drewN c) (fun iv _ => (12 - intOf iv).toNat)
  case atStart => exact ⟨0, rfl, by decide, fun j hj => absurd hj (by omega), 0, rfl⟩
  case round =>
    obtain ⟨k, rfl, hk, G, c, rfl⟩ := hrel
    by_cases hk12 : k = 12
    · subst hk12
      have hB := YES.out G.out
      subst hB
      go_wp2
      try rw [Exit.noGoto_ret]
      go_ret
      exact ⟨rfl, c, rfl⟩
    · have hk' : (k : Int) < 12 := by omega
      have bl := bse_lt k (by omega)
      have hi := bas_at k (by omega)
      have N : Hid (Pass n (bse k) → ∀ j, j < k + 1 → Pass n (bse j)) := fun hp j hj => by
        by_cases e : j = k
        · rw [e]; exact hp
        · exact G.out j (by omega)
      have nk := NO.out k (by omega)
      have NK := hid nk
      have p1 := hid (P1.out (bse k))
      have p2 := hid (P2.out (bse k))
      have p3 := hid (P3.out (bse k))
      generalize Pass n (bse k) = PP at *
      clear nk YES NO G P1 P2 P3
      generalize bse k = b at *
      have PW := hid (power_nat b d n)
      go_wp2_with fail
      refine (PW.out _ (by omega) (by omega) hn odle).mono ?_
      rintro e w3 ⟨rfl, c2, rfl⟩
      have yl := Nat.mod_lt (b ^ d) (show 0 < n by omega)
      have p2' : Hid (b ^ d % n = n - 1 → PP) := fun h => p2.out 0 tp (by rw [Nat.pow_zero, Nat.pow_one]; exact h)
      have Y0 : Hid (b ^ d % n = (b ^ d) ^ 2 ^ 0 % n) := by show _ = _; rw [Nat.pow_zero, Nat.pow_one]
      clear PW
      generalize b ^ d = z at *
      obtain ⟨y, hy⟩ : ∃ y, y = z % n := ⟨_, rfl⟩
      rw [← hy] at yl p1 p2' Y0 p3
      rw [← hy]
      clear hy
      by_cases y1 : y = 1
      · have hp := p1.out y1
        have hy1 : ((y : Int) == 1) = true := by simp [y1]
        clear p1 p2 p3 p2' NK Y0 y1
        go_wp2
        exact ⟨⟨k + 1, rfl, by omega, N.out hp, c + c2, by simp⟩, by simp only [intOf]; omega⟩
      · have hy1 : ((y : Int) == 1) = false := beq_eq_false_iff_ne.2 (by omega)
        by_cases y2 : y = n - 1
        · have hp := p2'.out y2
          have hy2 : ((y : Int) == (n : Int) - 1) = true := by simp; omega
          clear p1 p2 p3 p2' NK Y0 y1 y2
          go_wp2
          exact ⟨⟨k + 1, rfl, by omega, N.out hp, c + c2, by simp⟩, by simp only [intOf]; omega⟩
        · have hy2 : ((y : Int) == (n : Int) - 1) = false := beq_eq_false_iff_ne.2 (by omega)
          have R0 : Hid (∀ r, r ≤ 0 → z ^ 2 ^ r % n ≠ n - 1) := fun r hr => by
            have : r = 0 := by omega
            rw [this, ← Y0.out]; exact y2
          have p3' := hid (p3.out y1)
          clear p1 p2' p3 y1 y2
          go_wp2
          clear hy1 hy2
          go_loopw [7, 33] (fun yv iv wr => ∃ (i q : Nat), iv = .int .i64 i ∧ yv = .int .u64 q ∧ i + 1 ≤ s ∧ q < n ∧ Hid (q = z ^ 2 ^ i % n) ∧ Hid (∀ r, r ≤ i → z ^ 2 ^ r % n ≠ n - 1) ∧ ∃ c3, wr = w2.drewN c3) (fun _ iv _ => (s - intOf iv).toNat)
          case atStart => exact ⟨0, y, rfl, rfl, by omega, yl, Y0, R0, c + c2, by simp⟩
          case round =>
            obtain ⟨i, q, rfl, rfl, hi', hq, hqz, R, c3, rfl⟩ := hrel
            clear R0 Y0
            by_cases hl : i + 1 = s
            · have hp := p3'.out (fun r hr => R.out r (by omega))
              have hB := NK.out hp
              subst hB
              have hll : ¬ (i : Int) < (s : Int) - 1 := by omega
              go_wp2
              try rw [Exit.noGoto_ret]
              go_ret
              exact ⟨rfl, c3, rfl⟩
            · have hll : (i : Int) < (s : Int) - 1 := by omega
              go_wp2_with fail
              refine (times_nat q q n _ hq hq hn).mono ?_
              rintro e w3 ⟨rfl, c4, rfl⟩
              have ql := Nat.mod_lt (q * q) (show 0 < n by omega)
              have qz : Hid (q * q % n = z ^ 2 ^ (i + 1) % n) := by show _ = _; rw [hqz.out, sq_next]
              generalize q * q % n = q' at *
              by_cases y2 : q' = n - 1
              · have hp := p2.out (i + 1) (by omega) (by rw [← qz.out]; exact y2)
                have hy2 : ((q' : Int) == (n : Int) - 1) = true := by simp; omega
                clear p2 p3' NK R qz hqz y2
                go_wp2
                exact ⟨⟨k + 1, rfl, by omega, N.out hp, c3 + c4, by simp⟩, by simp only [intOf]; omega⟩
              · have hy2 : ((q' : Int) == (n : Int) - 1) = false := beq_eq_false_iff_ne.2 (by omega)
                have R' : Hid (∀ r, r ≤ i + 1 → z ^ 2 ^ r % n ≠ n - 1) := fun r hr => by
                  by_cases e : r = i + 1
                  · rw [e, ← qz.out]; exact y2
                  · exact R.out r (by omega)
                clear p2 p3' NK R hqz y2
                go_wp2
                exact ⟨⟨i + 1, q', rfl, rfl, by omega, ql, qz, R', c3 + c4, by simp⟩, by simp only [intOf]; omega⟩
end Go.Proofs.YtbecdlibckbbcabDoor
namespace Go.Proofs.YtbecdlibckbbcabDoor
open Go.RowKit Num Nmb

theorem eq_cast (a b : Nat) : ((a : Int) == (b : Int)) = decide (a = b) := by
  by_cases h : a = b
  · simp [h]
  · have h1 : ¬ (a : Int) = (b : Int) := by omega
    rw [beq_eq_false_iff_ne.2 h1, decide_eq_false h]
set_option maxHeartbeats 1600000 in
theorem is_any (n : Nat) (w : World) (hn : n ≤ 18446744073709551615) (L : Lay w) :
    Calls Tryd.prog 36 #[.int .u64 n] w fun e w' => e = .returned (.bool (isB n)) ∧ ∃ k, w' = w.drewN k := by
  by_cases h2 : n < 2
  · have e := isP_low h2
    rw [e]
    clear e
    have h2' : (n : Int) < 2 := by omega
    go_enter Tryd.func36, Tryd.ntmps36
    go_wp2
    go_ret
    exact ⟨rfl, 0, rfl⟩
  · have h2' : ¬ (n : Int) < 2 := by omega
    have LL := hid L
    obtain ⟨t, fr, hg⟩ := L.bas
    have S : Hid (∀ w, (∀ k, k < 12 → n % bse k ≠ 0) → Lay w → Calls Tryd.prog 49 #[.int .u64 n] w fun e w' => e = .returned (.bool (isB n)) ∧ ∃ k, w' = w.drewN k) := fun w hc L => strong_any n w (by omega) hc hn L
    have D : Hid (∀ k, k < 12 → n % bse k = 0 → isB n = decide (n = bse k)) := fun k hk hd => isP_div (by omega) hk hd
    generalize isB n = B at *
    clear L
    go_enter Tryd.func36, Tryd.ntmps36
    go_wp2_with (refine wpList_load_row rfl 77 _ rfl 2 rfl t _ fr _ hg Tryd.underlying77 rfl (by kernel_rfl) ?_)
    clear hg
    go_loopw [8] (fun iv wr => ∃ k : Nat, iv = .int .i64 k ∧ k ≤ 12 ∧ Hid (∀ j, j < k → n % bse j ≠ 0) ∧ ∃ c, wr = w.drewN c) (fun iv _ => (12 - intOf iv).toNat)
    case atStart => exact ⟨0, rfl, by decide, fun j hj => absurd hj (by omega), 0, rfl⟩
    case round =>
      obtain ⟨k, rfl, hk, G, c, rfl⟩ := hrel
      by_cases hk12 : k = 12
      · subst hk12
        have SS := hid (S.out (w.drewN c) G.out (LL.out.drew c))
        clear S D G
        go_wp2_with fail
        refine SS.out.mono ?_
        rintro e w3 ⟨rfl, c2, rfl⟩
        go_wp2
        go_ret
        exact ⟨rfl, c + c2, by simp⟩
      · have hk' : (k : Int) < 12 := by omega
        have bl := bse_lt k (by omega)
        have hi := bas_at k (by omega)
        have N : Hid (n % bse k ≠ 0 → ∀ j, j < k + 1 → n % bse j ≠ 0) := fun hp j hj => by
          by_cases e : j = k
          · rw [e]; exact hp
          · exact G.out j (by omega)
        have DD := hid (D.out k (by omega))
        clear G D S
        generalize bse k = b at *
        have b0 : ((b : Int) == 0) = false := beq_eq_false_iff_ne.2 (by omega)
        have b1 : ¬ (b : Int) = 0 := by omega
        have em : (n : Int) % (b : Int) = ((n % b : Nat) : Int) := (Int.natCast_emod n b).symm
        have ml := Nat.mod_lt n (show 0 < b by omega)
        by_cases hd : n % b = 0
        · have hB := DD.out hd
          rw [hd] at em
          clear DD
          go_wp2
          go_ret
          exact ⟨by rw [hB, ← eq_cast]; rfl, c, rfl⟩
        · have hd' : (((n % b : Nat) : Int) == 0) = false := beq_eq_false_iff_ne.2 (by omega)
          have NN := hid (N.out hd)
          clear N DD hd
          generalize n % b = r at *
          go_wp2
          exact ⟨⟨k + 1, rfl, by omega, NN, c, rfl⟩, by simp only [intOf]; omega⟩
end Go.Proofs.YtbecdlibckbbcabDoor
namespace Go.Proofs.YtbecdlibckbbcabDoor
open Go.RowKit Num Nmb

/-- p is the least number from n on that is told to be a prime. -/
def Nx (n p : Nat) : Prop := n ≤ p ∧ isB p = true ∧ ∀ m, n ≤ m → m < p → isB m = false
def NoNx (n : Nat) : Prop := ∀ m, n ≤ m → m < 9223372036854775808 → isB m = false
theorem is2 : isB 2 = true := isB_of_pri (bse_pri 0 (by decide)) (by decide)
theorem is_even {n : Nat} (h : 2 < n) (he : n % 2 = 0) : isB n = false := by
  rw [isP_div (k := 0) (by omega) (by decide) he]
  have e : bse 0 = 2 := rfl
  rw [e]
  exact decide_eq_false (by omega)
theorem or_one (n : Nat) (h : n ≤ 18446744073709551615) : bits .or .u64 (n : Int) 1 = ((n / 2 * 2 + 1 : Nat) : Int) := by
  have := bits_or_u64_nat n 1 (by omega) (by omega)
  have e : n ||| 1 = n / 2 * 2 + 1 := by
    have h1 : (n ||| 1) / 2 = n / 2 := by rw [Nat.or_div_two]; simp
    have h2 : (n ||| 1) % 2 = 1 := by rw [Nat.or_mod_two_eq_one]; simp
    omega
  rw [e] at this
  exact this
theorem Nx.uniq {n p q : Nat} (h : Nx n p) (h' : Nx n q) : p = q := by
  obtain ⟨a, b, c⟩ := h
  obtain ⟨a', b', c'⟩ := h'
  rcases Nat.lt_trichotomy p q with hl | hl | hl
  · have := c' p a hl; rw [b] at this; cases this
  · exact hl
  · have := c q a' hl; rw [b'] at this; cases this
end Go.Proofs.YtbecdlibckbbcabDoor
