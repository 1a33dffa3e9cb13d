/- What prime's inner products and powers answer; the tables of the program that its calls read. -/
/- What prime's strong test answers. -/
/- What prime's Is answers. -/
/- What prime's Next answers. -/
/- What prime's field, squares and Root answer. -/
import Derived.Test.YtjgipjiopagkiaaDoorVw
import Derived.Test.YtjgipjiopagkiaaDoorPp
import Derived.OwnWalk
namespace Go.Proofs.YtjgipjiopagkiaaDoor
open Go.RowKit Num Nmb

theorem mul_hi64 {a b m : Int} (ha : 0 ≤ a ∧ a < m) (hb : 0 ≤ b ∧ b < m) (hm : m ≤ 18446744073709551615) :
    0 ≤ a * b / 18446744073709551616 ∧ a * b / 18446744073709551616 < m ∧ 0 ≤ a * b % 18446744073709551616 ∧ a * b % 18446744073709551616 ≤ 18446744073709551615 := by
  have h0 : 0 ≤ a * b := Int.mul_nonneg ha.1 hb.1
  have h1 : a * b ≤ m * b := Int.mul_le_mul_of_nonneg_right (by omega) hb.1
  have h2 : m * b ≤ m * 18446744073709551615 := Int.mul_le_mul_of_nonneg_left (by omega) (by omega)
  omega
set_option maxHeartbeats 800000 in
theorem times_any (x y m : Int) (w : World) (hx : 0 ≤ x ∧ x < m) (hy : 0 ≤ y ∧ y < m) (hm : m ≤ 18446744073709551615) :
    Calls Tryd.prog 64 #[.int .u64 x, .int .u64 y, .int .u64 m] w fun e w' => e = .returned (.int .u64 (x * y % m)) ∧ ∃ k, w' = w.drewN k := by
  have B := hid (mul_hi64 hx hy hm)
  go_enter Tryd.func64, Tryd.ntmps64
  go_wp2_with fail
  refine (Tryd.bits_Mul64 x y (by omega) (by omega) (by omega) (by omega) _).mono ?_
  rintro e w' ⟨rfl, rfl⟩
  obtain ⟨b1, b2, b3, b4⟩ := B.out
  have D := div64_any (x * y / 18446744073709551616) (x * y % 18446744073709551616) m w' b1 b3 b4 b2 (by omega)
  have e3 : dr (x * y / 18446744073709551616) (x * y % 18446744073709551616) m = x * y % m := by
    unfold dr
    congr 1
    have := Int.emod_add_mul_ediv (x * y) 18446744073709551616
    omega
  rw [e3] at D
  have DD := hid D
  clear e3 D
  generalize x * y / 18446744073709551616 = hi at *
  generalize x * y % 18446744073709551616 = lo at *
  go_wp2_with fail
  refine DD.out.mono ?_
  rintro e w2 ⟨rfl, k, rfl⟩
  go_wp2
  go_ret
  exact ⟨rfl, k, rfl⟩
set_option maxHeartbeats 800000 in
theorem power_any (x m : Int) (n : Nat) (w : World) (hx : 0 ≤ x ∧ x < m) (h2 : 2 ≤ m) (hm : m ≤ 18446744073709551615) (hn : n ≤ 18446744073709551615) :
    Calls Tryd.prog 63 #[.int .u64 x, .int .u64 n, .int .u64 m] w fun e w' => e = .returned (.int .u64 (x ^ n % m)) ∧ ∃ k, w' = w.drewN k := by
  have E0 : Hid (1 * x ^ n % m = x ^ n % m) := by show _ = _; rw [Int.one_mul]
  obtain ⟨T, hT⟩ : ∃ T, T = x ^ n % m := ⟨_, rfl⟩
  rw [← hT] at E0
  rw [← hT]
  clear hT
  go_enter Tryd.func63, Tryd.ntmps63
  go_wp2
  go_loopw [0, 1, 7] (fun xv nv ov wr => ∃ (q p : Int) (j : Nat), xv = .int .u64 q ∧ nv = .int .u64 j ∧ ov = .int .u64 p ∧ j ≤ 18446744073709551615 ∧ 0 ≤ p ∧ p < m ∧ 0 ≤ q ∧ q < m ∧ Hid (p * q ^ j % m = T) ∧ ∃ k, wr = w.drewN k) (fun _ nv _ _ => (intOf nv).toNat)
  case atStart => exact ⟨x, 1, n, rfl, rfl, rfl, hn, by decide, by omega, hx.1, hx.2, E0, 0, rfl⟩
  case round =>
    obtain ⟨q, p, j, rfl, rfl, rfl, hj, hp, hp', hq, hq', G, k, rfl⟩ := hrel
    by_cases hj0 : j = 0
    · subst hj0
      have e : p = T := by have := G.out; rw [Int.pow_zero, Int.mul_one, Int.emod_eq_of_lt hp hp'] at this; exact this
      subst e
      clear G
      go_wp2
      go_ret
      exact ⟨rfl, k, rfl⟩
    · have hj1 : (0 : Int) < (j : Int) := by omega
      have hb : bits .and .u64 (j : Int) 1 = ((j % 2 : Nat) : Int) := by
        have := bits_and_u64_nat j 1 (by omega) (by omega)
        rw [Nat.and_one_is_mod] at this
        exact this
      by_cases ho : j % 2 = 1
      · have N := hid (pow_odd p q m T j G.out ho)
        rw [ho] at hb
        clear G
        go_wp2_with fail
        refine (times_any p q m _ ⟨hp, hp'⟩ ⟨hq, hq'⟩ hm).mono ?_
        rintro e w2 ⟨rfl, k2, rfl⟩
        go_wp2_with fail
        refine (times_any q q m _ ⟨hq, hq'⟩ ⟨hq, hq'⟩ hm).mono ?_
        rintro e w3 ⟨rfl, k3, rfl⟩
        have b1 := md_lt (p * q) (show 0 < m by omega)
        have b2 := md_lt (q * q) (show 0 < m by omega)
        generalize p * q % m = p' at *
        generalize q * q % m = q' at *
        go_wp2
        exact ⟨⟨q', p', j / 2, rfl, by congr 1, rfl, by omega, b1.1, b1.2, b2.1, b2.2, N, k + k2 + k3, by simp⟩, by simp only [intOf]; omega⟩
      · have N := hid (pow_even p q m T j G.out (by omega))
        rw [show j % 2 = 0 by omega] at hb
        clear G
        go_wp2_with fail
        refine (times_any q q m _ ⟨hq, hq'⟩ ⟨hq, hq'⟩ hm).mono ?_
        rintro e w2 ⟨rfl, k2, rfl⟩
        have b2 := md_lt (q * q) (show 0 < m by omega)
        generalize q * q % m = q' at *
        go_wp2
        exact ⟨⟨q', p, j / 2, rfl, by congr 1, rfl, by omega, hp, hp', b2.1, b2.2, N, k + k2, by simp⟩, by simp only [intOf]; omega⟩
/-- the tables lie. -/
def basV : Array Value := #[.int .u64 2, .int .u64 3, .int .u64 5, .int .u64 7, .int .u64 11, .int .u64 13, .int .u64 17, .int .u64 19, .int .u64 23, .int .u64 29, .int .u64 31, .int .u64 37]
structure Lay (w : World) : Prop where
  bas : ∃ t fr, w.heap[0]? = some (.cells basV t fr)
  tab : TabAt 3 Lib.deBruijn64tab w
theorem Lay.heap {w w' : World} (h : Lay w) (e : w'.heap = w.heap) : Lay w' := by
  obtain ⟨h1, h2⟩ := h
  refine ⟨by rw [e]; exact h1, fun j hj => ?_⟩
  have := h2 j hj
  simp only [World.cell?] at this ⊢
  rw [e]; exact this
theorem Lay.drew {w : World} (h : Lay w) (k : Nat) : Lay (w.drewN k) := h.heap (by simp)
theorem Lay.lt0 {w : World} (h : Lay w) : 0 < w.heap.size := by
  obtain ⟨t, fr, h1⟩ := h.bas
  exact (Array.getElem?_eq_some_iff.1 h1).1
theorem Lay.lt1 {w : World} (h : Lay w) : 3 < w.heap.size := by
  apply Nat.lt_of_not_le
  intro hs
  have := h.2 0 (by decide)
  simp [World.cell?, Array.getElem?_eq_none hs] at this
theorem Lay.size {w : World} (h : Lay w) : 0 < w.heap.size ∧ 3 < w.heap.size := ⟨h.lt0, h.lt1⟩
theorem Lay.below {B : Nat} {w w' : World} (h : Lay w) (hb : Below B w w') (h2 : 0 < B ∧ 3 < B) : Lay w' := by
  obtain ⟨h1, h3⟩ := h
  refine ⟨by rw [hb.block 0 h2.1]; exact h1, fun j hj => ?_⟩
  have := h3 j hj
  simp only [World.cell?] at this ⊢
  rw [hb.block 3 h2.2]; exact this
theorem tz_any (n : Nat) (w : World) (h : n ≤ 18446744073709551615) (L : Lay w) :
    Calls Tryd.prog 62 #[.int .u64 n] w fun e w' => e = .returned (.int .i64 (Lib.ctz 64 n : Nat)) ∧ w' = w :=
  Any7.bits_TrailingZeros64 Tryd.lays29 n (by omega) w (fun _ => L.tab)
theorem bas_at (k : Nat) (hk : k < 12) (w : World) : (Instr.index 69 (.agg basV) (.int .i64 (k : Int))).run Tryd.prog w = .ok (.int .u64 (bse k : Nat)) w := by
  have : k = 0 ∨ k = 1 ∨ k = 2 ∨ k = 3 ∨ k = 4 ∨ k = 5 ∨ k = 6 ∨ k = 7 ∨ k = 8 ∨ k = 9 ∨ k = 10 ∨ k = 11 := by omega
  rcases this with rfl | rfl | rfl | rfl | rfl | rfl | rfl | rfl | rfl | rfl | rfl | rfl <;> (show _ = _; kernel_rfl)
end Go.Proofs.YtjgipjiopagkiaaDoor
namespace Go.Proofs.YtjgipjiopagkiaaDoor
open Go.RowKit Num Nmb

theorem power_nat (x n m : Nat) (w : World) (hx : x < m) (h2 : 2 ≤ m) (hm : m ≤ 18446744073709551615) (hn : n ≤ 18446744073709551615) :
    Calls Tryd.prog 63 #[.int .u64 x, .int .u64 n, .int .u64 m] w fun e w' => e = .returned (.int .u64 (x ^ n % m : Nat)) ∧ ∃ k, w' = w.drewN k := by
  have h := power_any x m n w ⟨by omega, by omega⟩ (by omega) (by omega) hn
  rw [← Int.natCast_pow, ← Int.natCast_emod] at h
  exact h
theorem times_nat (x y m : Nat) (w : World) (hx : x < m) (hy : y < m) (hm : m ≤ 18446744073709551615) :
    Calls Tryd.prog 64 #[.int .u64 x, .int .u64 y, .int .u64 m] w fun e w' => e = .returned (.int .u64 (x * y % m : Nat)) ∧ ∃ k, w' = w.drewN k := by
  have h := times_any x y m w ⟨by omega, by omega⟩ ⟨by omega, by omega⟩ (by omega)
  rw [← Int.natCast_mul, ← Int.natCast_emod] at h
  exact h
theorem tw_pos {n : Nat} (h2 : 41 ≤ n) (hn : n ≤ 18446744073709551615) (ho : n % 2 ≠ 0) : 0 < tw n := by
  obtain ⟨e1, e2, e3⟩ := tw_said (n := n) (by omega) hn
  apply Nat.pos_of_ne_zero
  intro h
  rw [h, Nat.pow_zero, Nat.mul_one] at e1
  omega
theorem sq_next (z n i : Nat) : (z ^ 2 ^ i % n) * (z ^ 2 ^ i % n) % n = z ^ 2 ^ (i + 1) % n := by
  rw [← Nat.mul_mod, Nat.pow_succ, Nat.pow_mul, Nat.pow_two]
set_option maxHeartbeats 1600000 in
theorem strong_any (n : Nat) (w : World) (h2 : 2 ≤ n) (hc : ∀ k, k < 12 → n % bse k ≠ 0) (hn : n ≤ 18446744073709551615) (L : Lay w) :
    Calls Tryd.prog 54 #[.int .u64 n] w fun e w' => e = .returned (.bool (isB n)) ∧ ∃ k, w' = w.drewN k := by
  have h41 := big_of h2 hc
  have C := hid hc
  have LL := hid L
  obtain ⟨e1, e2, e3⟩ := tw_said (n := n) (by omega) hn
  have TZ := hid (tz_any (n - 1) w (by omega) L)
  have en : ((n - 1 : Nat) : Int) = (n : Int) - 1 := by omega
  obtain ⟨t, fr, hg⟩ := L.bas
  rw [en] at TZ
  change Hid (Calls Tryd.prog 62 #[.int .u64 ((n : Int) - 1)] w fun e w' => e = .returned (.int .i64 (tw n : Nat)) ∧ w' = w) at TZ
  have eo : ((n : Int) - 1) / 2 ^ tw n = (od n : Nat) := by
    unfold od
    rw [← en, Int.natCast_ediv, Int.natCast_pow]
    rfl
  have tp := tw_pos h41 hn (C.out 0 (by decide))
  have odle : od n ≤ 18446744073709551615 := by
    have : od n * 1 ≤ od n * 2 ^ tw n := Nat.mul_le_mul_left _ (Nat.pow_pos (by decide))
    omega
  have YES : Hid ((∀ k, k < 12 → Pass n (bse k)) → isB n = true) := fun hp => isP_pass h2 C.out hp
  have NO : Hid (∀ k, k < 12 → ¬ Pass n (bse k) → isB n = false) := fun k hk hp => isP_fail hk C.out hp
  have P1 : Hid (∀ a, a ^ od n % n = 1 → Pass n a) := fun a h => Or.inl h
  have P2 : Hid (∀ a r, r < tw n → (a ^ od n) ^ 2 ^ r % n = n - 1 → Pass n a) := fun a r h h' => Or.inr ⟨r, h, h'⟩
  have P3 : Hid (∀ a, a ^ od n % n ≠ 1 → (∀ r, r < tw n → (a ^ od n) ^ 2 ^ r % n ≠ n - 1) → ¬ Pass n a) := fun a h h' hp => by
    rcases hp with hp | ⟨r, h3, h4⟩
    · exact h hp
    · exact h' r h3 h4
  generalize isB n = B at *
  clear L hc e1 e2 en C
  go_enter Tryd.func54, Tryd.ntmps54
  go_wp2
  go_step3
  go_wp2_with fail
  refine TZ.out.mono ?_
  rintro e w2 ⟨rfl, rfl⟩
  go_wp2
  clear eo
  generalize od n = d at *
  generalize tw n = s at *
  go_step3
  go_wp2_with (refine wpList_load_row rfl 69 _ rfl 0 rfl t _ fr _ hg Tryd.underlying69 rfl (by kernel_rfl) ?_)
  clear TZ LL hg
  go_loopw [16] (fun iv wr => ∃ k : Nat, iv = .int .i64 k ∧ k ≤ 12 ∧ Hid (∀ j, j < k → Pass n (bse j)) ∧ ∃ c, wr = w2.drewN c) (fun iv _ => (12 - intOf iv).toNat)
  case atStart => exact ⟨0, rfl, by decide, fun j hj => absurd hj (by omega), 0, rfl⟩
  case round =>
    obtain ⟨k, rfl, hk, G, c, rfl⟩ := hrel
    by_cases hk12 : k = 12
    · subst hk12
      have hB := YES.out G.out
      subst hB
      go_wp2
      try rw [Exit.noGoto_ret]
      go_ret
      exact ⟨rfl, c, rfl⟩
    · have hk' : (k : Int) < 12 := by omega
      have bl := bse_lt k (by omega)
      have hi := bas_at k (by omega)
      have N : Hid (Pass n (bse k) → ∀ j, j < k + 1 → Pass n (bse j)) := fun hp j hj => by
        by_cases e : j = k
        · rw [e]; exact hp
        · exact G.out j (by omega)
      have nk := NO.out k (by omega)
      have NK := hid nk
      have p1 := hid (P1.out (bse k))
      have p2 := hid (P2.out (bse k))
      have p3 := hid (P3.out (bse k))
      generalize Pass n (bse k) = PP at *
      clear nk YES NO G P1 P2 P3
      generalize bse k = b at *
      have PW := hid (power_nat b d n)
      go_wp2_with fail
      refine (PW.out _ (by omega) (by omega) hn odle).mono ?_
      rintro e w3 ⟨rfl, c2, rfl⟩
      have yl := Nat.mod_lt (b ^ d) (show 0 < n by omega)
      have p2' : Hid (b ^ d % n = n - 1 → PP) := fun h => p2.out 0 tp (by rw [Nat.pow_zero, Nat.pow_one]; exact h)
      have Y0 : Hid (b ^ d % n = (b ^ d) ^ 2 ^ 0 % n) := by show _ = _; rw [Nat.pow_zero, Nat.pow_one]
      clear PW
      generalize b ^ d = z at *
      obtain ⟨y, hy⟩ : ∃ y, y = z % n := ⟨_, rfl⟩
      rw [← hy] at yl p1 p2' Y0 p3
      rw [← hy]
      clear hy
      by_cases y1 : y = 1
      · have hp := p1.out y1
        have hy1 : ((y : Int) == 1) = true := by simp [y1]
        clear p1 p2 p3 p2' NK Y0 y1
        go_wp2
        exact ⟨⟨k + 1, rfl, by omega, N.out hp, c + c2, by simp⟩, by simp only [intOf]; omega⟩
      · have hy1 : ((y : Int) == 1) = false := beq_eq_false_iff_ne.2 (by omega)
        by_cases y2 : y = n - 1
        · have hp := p2'.out y2
          have hy2 : ((y : Int) == (n : Int) - 1) = true := by simp; omega
          clear p1 p2 p3 p2' NK Y0 y1 y2
          go_wp2
          exact ⟨⟨k + 1, rfl, by omega, N.out hp, c + c2, by simp⟩, by simp only [intOf]; omega⟩
        · have hy2 : ((y : Int) == (n : Int) - 1) = false := beq_eq_false_iff_ne.2 (by omega)
          have R0 : Hid (∀ r, r ≤ 0 → z ^ 2 ^ r % n ≠ n - 1) := fun r hr => by
            have : r = 0 := by omega
            rw [this, ← Y0.out]; exact y2
          have p3' := hid (p3.out y1)
          clear p1 p2' p3 y1 y2
          go_wp2
          clear hy1 hy2
          go_loopw [7, 33] (fun yv iv wr => ∃ (i q : Nat), iv = .int .i64 i ∧ yv = .int .u64 q ∧ i + 1 ≤ s ∧ q < n ∧ Hid (q = z ^ 2 ^ i % n) ∧ Hid (∀ r, r ≤ i → z ^ 2 ^ r % n ≠ n - 1) ∧ ∃ c3, wr = w2.drewN c3) (fun _ iv _ => (s - intOf iv).toNat)
          case atStart => exact ⟨0, y, rfl, rfl, by omega, yl, Y0, R0, c + c2, by simp⟩
          case round =>
            obtain ⟨i, q, rfl, rfl, hi', hq, hqz, R, c3, rfl⟩ := hrel
            clear R0 Y0
            by_cases hl : i + 1 = s
            · have hp := p3'.out (fun r hr => R.out r (by omega))
              have hB := NK.out hp
              subst hB
              have hll : ¬ (i : Int) < (s : Int) - 1 := by omega
              go_wp2
              try rw [Exit.noGoto_ret]
              go_ret
              exact ⟨rfl, c3, rfl⟩
            · have hll : (i : Int) < (s : Int) - 1 := by omega
              go_wp2_with fail
              refine (times_nat q q n _ hq hq hn).mono ?_
              rintro e w3 ⟨rfl, c4, rfl⟩
              have ql := Nat.mod_lt (q * q) (show 0 < n by omega)
              have qz : Hid (q * q % n = z ^ 2 ^ (i + 1) % n) := by show _ = _; rw [hqz.out, sq_next]
              generalize q * q % n = q' at *
              by_cases y2 : q' = n - 1
              · have hp := p2.out (i + 1) (by omega) (by rw [← qz.out]; exact y2)
                have hy2 : ((q' : Int) == (n : Int) - 1) = true := by simp; omega
                clear p2 p3' NK R qz hqz y2
                go_wp2
                exact ⟨⟨k + 1, rfl, by omega, N.out hp, c3 + c4, by simp⟩, by simp only [intOf]; omega⟩
              · have hy2 : ((q' : Int) == (n : Int) - 1) = false := beq_eq_false_iff_ne.2 (by omega)
                have R' : Hid (∀ r, r ≤ i + 1 → z ^ 2 ^ r % n ≠ n - 1) := fun r hr => by
                  by_cases e : r = i + 1
                  · rw [e, ← qz.out]; exact y2
                  · exact R.out r (by omega)
                clear p2 p3' NK R hqz y2
                go_wp2
                exact ⟨⟨i + 1, q', rfl, rfl, by omega, ql, qz, R', c3 + c4, by simp⟩, by simp only [intOf]; omega⟩
end Go.Proofs.YtjgipjiopagkiaaDoor
namespace Go.Proofs.YtjgipjiopagkiaaDoor
open Go.RowKit Num Nmb

theorem eq_cast (a b : Nat) : ((a : Int) == (b : Int)) = decide (a = b) := by
  by_cases h : a = b
  · simp [h]
  · have h1 : ¬ (a : Int) = (b : Int) := by omega
    rw [beq_eq_false_iff_ne.2 h1, decide_eq_false h]
set_option maxHeartbeats 1600000 in
theorem is_any (n : Nat) (w : World) (hn : n ≤ 18446744073709551615) (L : Lay w) :
    Calls Tryd.prog 41 #[.int .u64 n] w fun e w' => e = .returned (.bool (isB n)) ∧ ∃ k, w' = w.drewN k := by
  by_cases h2 : n < 2
  · have e := isP_low h2
    rw [e]
    clear e
    have h2' : (n : Int) < 2 := by omega
    go_enter Tryd.func41, Tryd.ntmps41
    go_wp2
    go_ret
    exact ⟨rfl, 0, rfl⟩
  · have h2' : ¬ (n : Int) < 2 := by omega
    have LL := hid L
    obtain ⟨t, fr, hg⟩ := L.bas
    have S : Hid (∀ w, (∀ k, k < 12 → n % bse k ≠ 0) → Lay w → Calls Tryd.prog 54 #[.int .u64 n] w fun e w' => e = .returned (.bool (isB n)) ∧ ∃ k, w' = w.drewN k) := fun w hc L => strong_any n w (by omega) hc hn L
    have D : Hid (∀ k, k < 12 → n % bse k = 0 → isB n = decide (n = bse k)) := fun k hk hd => isP_div (by omega) hk hd
    generalize isB n = B at *
    clear L
    go_enter Tryd.func41, Tryd.ntmps41
    go_wp2_with (refine wpList_load_row rfl 69 _ rfl 0 rfl t _ fr _ hg Tryd.underlying69 rfl (by kernel_rfl) ?_)
    clear hg
    go_loopw [8] (fun iv wr => ∃ k : Nat, iv = .int .i64 k ∧ k ≤ 12 ∧ Hid (∀ j, j < k → n % bse j ≠ 0) ∧ ∃ c, wr = w.drewN c) (fun iv _ => (12 - intOf iv).toNat)
    case atStart => exact ⟨0, rfl, by decide, fun j hj => absurd hj (by omega), 0, rfl⟩
    case round =>
      obtain ⟨k, rfl, hk, G, c, rfl⟩ := hrel
      by_cases hk12 : k = 12
      · subst hk12
        have SS := hid (S.out (w.drewN c) G.out (LL.out.drew c))
        clear S D G
        go_wp2_with fail
        refine SS.out.mono ?_
        rintro e w3 ⟨rfl, c2, rfl⟩
        go_wp2
        go_ret
        exact ⟨rfl, c + c2, by simp⟩
      · have hk' : (k : Int) < 12 := by omega
        have bl := bse_lt k (by omega)
        have hi := bas_at k (by omega)
        have N : Hid (n % bse k ≠ 0 → ∀ j, j < k + 1 → n % bse j ≠ 0) := fun hp j hj => by
          by_cases e : j = k
          · rw [e]; exact hp
          · exact G.out j (by omega)
        have DD := hid (D.out k (by omega))
        clear G D S
        generalize bse k = b at *
        have b0 : ((b : Int) == 0) = false := beq_eq_false_iff_ne.2 (by omega)
        have b1 : ¬ (b : Int) = 0 := by omega
        have em : (n : Int) % (b : Int) = ((n % b : Nat) : Int) := (Int.natCast_emod n b).symm
        have ml := Nat.mod_lt n (show 0 < b by omega)
        by_cases hd : n % b = 0
        · have hB := DD.out hd
          rw [hd] at em
          clear DD
          go_wp2
          go_ret
          exact ⟨by rw [hB, ← eq_cast]; rfl, c, rfl⟩
        · have hd' : (((n % b : Nat) : Int) == 0) = false := beq_eq_false_iff_ne.2 (by omega)
          have NN := hid (N.out hd)
          clear N DD hd
          generalize n % b = r at *
          go_wp2
          exact ⟨⟨k + 1, rfl, by omega, NN, c, rfl⟩, by simp only [intOf]; omega⟩
end Go.Proofs.YtjgipjiopagkiaaDoor
namespace Go.Proofs.YtjgipjiopagkiaaDoor
open Go.RowKit Num Nmb

/-- p is the least number from n on that is told to be a prime. -/
def Nx (n p : Nat) : Prop := n ≤ p ∧ isB p = true ∧ ∀ m, n ≤ m → m < p → isB m = false
def NoNx (n : Nat) : Prop := ∀ m, n ≤ m → m < 9223372036854775808 → isB m = false
theorem is2 : isB 2 = true := isB_of_pri (bse_pri 0 (by decide)) (by decide)
theorem is_even {n : Nat} (h : 2 < n) (he : n % 2 = 0) : isB n = false := by
  rw [isP_div (k := 0) (by omega) (by decide) he]
  have e : bse 0 = 2 := rfl
  rw [e]
  exact decide_eq_false (by omega)
theorem or_one (n : Nat) (h : n ≤ 18446744073709551615) : bits .or .u64 (n : Int) 1 = ((n / 2 * 2 + 1 : Nat) : Int) := by
  have := bits_or_u64_nat n 1 (by omega) (by omega)
  have e : n ||| 1 = n / 2 * 2 + 1 := by
    have h1 : (n ||| 1) / 2 = n / 2 := by rw [Nat.or_div_two]; simp
    have h2 : (n ||| 1) % 2 = 1 := by rw [Nat.or_mod_two_eq_one]; simp
    omega
  rw [e] at this
  exact this
theorem Nx.uniq {n p q : Nat} (h : Nx n p) (h' : Nx n q) : p = q := by
  obtain ⟨a, b, c⟩ := h
  obtain ⟨a', b', c'⟩ := h'
  rcases Nat.lt_trichotomy p q with hl | hl | hl
  · have := c' p a hl; rw [b] at this; cases this
  · exact hl
  · have := c q a' hl; rw [b'] at this; cases this
end Go.Proofs.YtjgipjiopagkiaaDoor
namespace Go.Proofs.YtjgipjiopagkiaaDoor
open Go.RowKit Num Nmb

theorem mul_nat (g : Nat) (p x y : Nat) (f s : Int) (w : World) (h : Fld w g p f s) (hm : Ok p f s) :
    Calls Tryd.prog 34 #[.pointer (some ⟨g, 0, none⟩), .int .u64 x, .int .u64 y] w fun e w' => e = .returned (.int .u64 (x * y % p : Nat)) ∧ ∃ k, w' = w.drewN k := by
  have h := mul_any g p f s x y w h hm (by omega) (by omega)
  rw [← Int.natCast_mul, ← Int.natCast_emod] at h
  exact h
/-- r squares lead to 1, or more than most would. -/
def Sq (p y most r : Nat) : Prop := r ≤ most + 1 ∧ (∀ i, i < r → y ^ 2 ^ i % p ≠ 1) ∧ (r ≤ most → y ^ 2 ^ r % p = 1)
/-- the order of y is 2 to the kth. -/
def Ord (p y k : Nat) : Prop := y ^ 2 ^ k % p = 1 ∧ ∀ i, i < k → y ^ 2 ^ i % p ≠ 1
theorem Sq.ord {p y k r : Nat} (h : Sq p y k r) : r = k ↔ Ord p y k := by
  obtain ⟨h1, h2, h3⟩ := h
  constructor
  · intro e
    subst e
    exact ⟨h3 (by omega), h2⟩
  · intro ⟨h4, h5⟩
    rcases Nat.lt_trichotomy r k with hl | hl | hl
    · exact absurd (h3 (by omega)) (h5 r hl)
    · exact hl
    · exact absurd h4 (h2 k hl)
theorem Below.of_drew {w w' : World} {c : Nat} (h : Below (w.drewN c).heap.size (w.drewN c) w') : Below w.heap.size w w' := by
  have e : (w.drewN c).heap = w.heap := by simp
  have b : Below w.heap.size w (w.drewN c) := below_drewN (Below.refl _ _) c
  rw [show (w.drewN c).heap.size = w.heap.size by rw [e]] at h
  exact b.trans h
/-- what Root answers. -/
def RootIs (p k y : Nat) : Prop := ∃ x, 1 ≤ x ∧ y = x ^ ((p - 1) / 2 ^ k) % p ∧ Ord p y k ∧ ∀ x', 1 ≤ x' → x' < x → ¬ Ord p (x' ^ ((p - 1) / 2 ^ k) % p) k
theorem RootIs.uniq {p k y y' : Nat} (h : RootIs p k y) (h' : RootIs p k y') : y = y' := by
  obtain ⟨x, a1, rfl, a2, a3⟩ := h
  obtain ⟨x', b1, rfl, b2, b3⟩ := h'
  rcases Nat.lt_trichotomy x x' with hl | hl | hl
  · exact absurd a2 (b3 x a1 hl)
  · rw [hl]
  · exact absurd b2 (a3 x' b1 hl)
theorem ord_mod {p z k : Nat} : Ord p (z % p) k ↔ Ord p z k := by
  unfold Ord
  simp only [← Nat.pow_mod]
theorem tw_dvd {p k : Nat} (h2 : 2 ≤ p) (hn : p ≤ 18446744073709551615) (hk : k ≤ tw p) : 2 ^ k ∣ p - 1 := by
  obtain ⟨e, _, _⟩ := tw_said (n := p) (by omega) hn
  rw [e]
  exact Nat.dvd_trans (Nat.pow_dvd_pow 2 hk) (Nat.dvd_mul_left _ _)
theorem tw2 : tw 2 = 0 := by decide
theorem root_is {p k : Nat} (h : Pri p) (hn : p ≤ 18446744073709551615) (hk : k ≤ tw p) : ∃ x, 1 ≤ x ∧ x < p ∧ Ord p (x ^ ((p - 1) / 2 ^ k) % p) k := by
  by_cases hp : p = 2
  · subst hp
    rw [tw2] at hk
    obtain rfl : k = 0 := by omega
    exact ⟨1, by decide, by decide, by decide, fun i hi => absurd hi (by omega)⟩
  · have ho : p % 2 = 1 := by
      rcases Nat.mod_two_eq_zero_or_one p with h0 | h0
      · rcases h.2 2 (Nat.dvd_of_mod_eq_zero h0) with h1 | h1
        · exact absurd h1 (by decide)
        · exact absurd h1.symm hp
      · exact h0
    obtain ⟨x, h1, h3, h4, h5⟩ := h.root ho (tw_dvd h.1 hn hk)
    exact ⟨x, h1, h3, ord_mod.2 ⟨h4, h5⟩⟩
end Go.Proofs.YtjgipjiopagkiaaDoor
