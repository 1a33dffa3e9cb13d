/- What 'moveUp', 'moveDown', 'takeTimes' and 'addBack' do to words. -/
import Derived.Test.YtnaiahjgdakneaaGreatDoorSub
namespace Go.Proofs.YtnaiahjgdakneaaGreatDoor
open Go.RowKit Num

theorem pow_split (s : Nat) (hs : s ≤ 63) : (2 : Int) ^ (64 - s) * 2 ^ s = 18446744073709551616 := by
  rw [← Int.pow_add, show 64 - s + s = 64 by omega]; rfl
theorem shr_hi (b : Int) (s : Nat) (hs : s ≤ 63) : b / 2 ^ (64 - s) = hi (b * 2 ^ s) := by
  unfold hi
  rw [← pow_split s hs, Int.mul_ediv_mul_of_pos_left _ _ (Int.pow_pos (by decide))]
/-- a word moved up, and what comes from below. -/
theorem or_words (x b : Int) (s : Nat) (hs : s ≤ 63) (hx : 0 ≤ x) (hb : 0 ≤ b) (hb' : b ≤ 18446744073709551615) :
    bits .or .u64 (IntKind.u64.wrap (x * 2 ^ s)) (b / 2 ^ (64 - s)) = lo (x * 2 ^ s) + hi (b * 2 ^ s) ∧ 0 ≤ lo (x * 2 ^ s) + hi (b * 2 ^ s) ∧ lo (x * 2 ^ s) + hi (b * 2 ^ s) ≤ 18446744073709551615 := by
  obtain ⟨x, rfl⟩ := Int.eq_ofNat_of_zero_le hx
  obtain ⟨b, rfl⟩ := Int.eq_ofNat_of_zero_le hb
  have hKpos : 0 < 2 ^ s := Nat.two_pow_pos s
  have hMpos : 0 < 2 ^ (64 - s) := Nat.two_pow_pos _
  have hMK : 2 ^ (64 - s) * 2 ^ s = 18446744073709551616 := by rw [← Nat.pow_add, show 64 - s + s = 64 by omega]
  have pK : (2 : Int) ^ s = ((2 ^ s : Nat) : Int) := by simp
  have pM : (2 : Int) ^ (64 - s) = ((2 ^ (64 - s) : Nat) : Int) := by simp
  have hlt : b / 2 ^ (64 - s) < 2 ^ s := by rw [Nat.div_lt_iff_lt_mul hMpos, Nat.mul_comm, hMK]; omega
  rw [← shr_hi _ s hs]
  have e1 : lo ((x : Int) * 2 ^ s) = ((x * 2 ^ s % 18446744073709551616 : Nat) : Int) := by unfold lo; rw [pK, ← Int.natCast_mul]; omega
  have e2 : (b : Int) / 2 ^ (64 - s) = ((b / 2 ^ (64 - s) : Nat) : Int) := by rw [pM, Int.natCast_ediv]
  have e3 : x * 2 ^ s % 18446744073709551616 = x % 2 ^ (64 - s) * 2 ^ s := by rw [← hMK, Nat.mul_mod_mul_right]
  rw [e1, e2, IntKind.wrap_u64, pK, ← Int.natCast_mul, show ((x * 2 ^ s : Nat) : Int) % 18446744073709551616 = ((x * 2 ^ s % 18446744073709551616 : Nat) : Int) by omega]
  have hx1 : x % 2 ^ (64 - s) < 2 ^ (64 - s) := Nat.mod_lt _ hMpos
  have hsum : x % 2 ^ (64 - s) * 2 ^ s + b / 2 ^ (64 - s) < 18446744073709551616 := by
    have : (x % 2 ^ (64 - s) + 1) * 2 ^ s ≤ 2 ^ (64 - s) * 2 ^ s := Nat.mul_le_mul_right _ hx1
    rw [Nat.add_mul, hMK] at this
    omega
  rw [e3, bits_or_u64_nat _ _ (by omega) (by omega)]
  have hor : x % 2 ^ (64 - s) * 2 ^ s ||| b / 2 ^ (64 - s) = x % 2 ^ (64 - s) * 2 ^ s + b / 2 ^ (64 - s) := or_add _ _ s hlt
  rw [hor]
  omega

theorem up_step (x' : Nat → Int) (oz k : Nat) (a c t K : Int) (h : V x' oz k + hi (c * K) * P k = t) :
    V (upd x' (oz + k) (lo (a * K) + hi (c * K))) oz (k + 1) + hi (a * K) * P (k + 1) = t + a * K * P k := by
  rw [V_upd_top]
  have e := lo_hi (a * K)
  generalize lo (a * K) = l at *
  generalize hi (a * K) = m at *
  generalize hi (c * K) = q at *
  simp only [P]
  generalize P k = p at *
  rw [← h, ← e]
  grind

set_option maxHeartbeats 800000 in
set_option maxRecDepth 100000 in
theorem moveUp_any (g oz cz N : Nat) (X : Nat → Int) (v : Value) (n : Nat) (y : Nat → Int) (p s : Nat) (w : World)
    (hz : Row w g N X) (hN : oz + (n + 1) ≤ N) (hcz : n + 1 ≤ cz) (hbz : cz ≤ 9223372036854775807) (hy : SlN g w v n y p) (hs : s ≤ 63) :
    Calls Tryz.prog 68 #[.slice (some ⟨g, oz, none⟩) (n + 1) cz, v, .int .u64 s] w fun e w' => e = .returned (.tuple #[]) ∧
      ∃ X', Row w' g N X' ∧ Only g w w' ∧ V X' oz (n + 1) = V y p n * 2 ^ s ∧ Wd X' oz (n + 1) ∧ (∀ j, j < oz ∨ oz + (n + 1) ≤ j → X' j = X j) ∧ X' (oz + n) < 2 ^ s := by
  obtain ⟨ao, cy, rfl, y1, y2, y3, y4, y5⟩ := hy
  go_enter Tryz.func68, Tryz.ntmps68
  go_wp2
  go_loopw [6, 11] (fun bs i wr => ∃ (k : Nat) (c : Int) (X' : Nat → Int), k ≤ n ∧ bs = .int .u64 c ∧ i = .int .i64 k ∧
     Hid (Row wr g N X' ∧ Only g w wr ∧ V X' oz k + hi (c * 2 ^ s) * P k = V y p k * 2 ^ s ∧ Wd X' oz k ∧ (∀ j, j < oz ∨ oz + k ≤ j → X' j = X j)) ∧ 0 ≤ c ∧ c ≤ 18446744073709551615) (fun _ i _ => n - (intOf i).toNat)
  case atStart => exact ⟨0, 0, X, Nat.zero_le _, rfl, rfl, ⟨hz, Only.refl _ _, by simp [V, hi], (fun j hj => by omega), fun _ _ => rfl⟩, by decide, by decide⟩
  case round =>
    obtain ⟨k, c, X', hk, rfl, rfl, hr, c0, c1⟩ := hrel
    by_cases hlt : k < n
    · obtain ⟨b, off, rfl, hb, hbg, hc⟩ := y5 (by omega)
      obtain ⟨h1, h2, h3, h4, h5⟩ := hr.out
      have gy : wr.cell? ⟨b, off + k, none⟩ = some (.int .u64 (y (p + k))) := (h2.cell (p := ⟨b, off + k, none⟩) hbg).trans (hc k hlt)
      have gz : wr.cell? ⟨g, oz + k, none⟩ = some (.int .u64 (X' (oz + k))) := h1.cell (by omega)
      have gf := h1.frozen (oz + k)
      obtain ⟨q0, q1⟩ := y3 k hlt
      obtain ⟨ho, ho1, ho2⟩ := or_words (y (p + k)) c s hs q0 c0 c1
      have H := hid (⟨h1, h2, h3, h4, h5⟩ : Row wr g N X' ∧ Only g w wr ∧ V X' oz k + hi (c * 2 ^ s) * P k = V y p k * 2 ^ s ∧ Wd X' oz k ∧ (∀ j, j < oz ∨ oz + k ≤ j → X' j = X j))
      clear h1 h2 h3 h4 h5 hr hz hc y5 y3
      go_wp2
      refine ⟨⟨k + 1, y (p + k), upd X' (oz + k) (lo (y (p + k) * 2 ^ s) + hi (c * 2 ^ s)), by omega, rfl, by go_num, ?_, q0, q1⟩, by simp [intOf]; omega⟩
      obtain ⟨h1, h2, h3, h4, h5⟩ := H.out
      refine ⟨h1.set _ _, h2.set _ _, ?_, ?_, ?_⟩
      · rw [up_step X' oz k (y (p + k)) c _ _ h3]; simp only [V]; grind
      · intro j hj
        by_cases e : j = k
        · subst e; rw [upd_same]; exact ⟨ho1, ho2⟩
        · rw [upd_other _ _ _ _ (by omega)]; exact h4 j (by omega)
      · intro j hj; rw [upd_other _ _ _ _ (by omega)]; exact h5 j (by omega)
    · have hkn : k = n := by omega
      subst hkn
      have he := shr_hi c s hs
      obtain ⟨h1, h2, h3, h4, h5⟩ := hr.out
      have gz : wr.cell? ⟨g, oz + k, none⟩ = some (.int .u64 (X' (oz + k))) := h1.cell (by omega)
      have gf := h1.frozen (oz + k)
      have hh0 : 0 ≤ hi (c * 2 ^ s) := hi_nonneg _ (Int.mul_nonneg c0 (Int.le_of_lt (Int.pow_pos (by decide))))
      have hp := pow_split s hs
      have hpp : (0 : Int) < 2 ^ s := Int.pow_pos (by decide)
      have hh1 : hi (c * 2 ^ s) < 2 ^ s := by
        unfold hi
        have h3' : c * 2 ^ s ≤ 18446744073709551615 * 2 ^ s := Int.mul_le_mul_of_nonneg_right c1 (by omega)
        generalize (2 : Int) ^ s = K at *
        omega
      have hh2 : (2 : Int) ^ s ≤ 18446744073709551616 := by
        have : (1 : Int) ≤ 2 ^ (64 - s) := Int.pow_pos (by decide)
        have h4' : 1 * (2 : Int) ^ s ≤ 2 ^ (64 - s) * 2 ^ s := Int.mul_le_mul_of_nonneg_right this (by omega)
        omega
      have H := hid (⟨h1, h2, h3, h4, h5⟩ : Row wr g N X' ∧ Only g w wr ∧ V X' oz k + hi (c * 2 ^ s) * P k = V y p k * 2 ^ s ∧ Wd X' oz k ∧ (∀ j, j < oz ∨ oz + k ≤ j → X' j = X j))
      have HP := hid hp
      have H1 := hid hh1
      have H2 := hid hh2
      clear h1 h2 h3 h4 h5 hr hz y5 y3 hp hh1 hh2 hpp
      go_wp2
      go_end0
      obtain ⟨h1, h2, h3, h4, h5⟩ := H.out
      refine ⟨rfl, upd X' (oz + k) (hi (c * 2 ^ s)), h1.set _ _, h2.set _ _, ?_, ?_, ?_, ?_⟩
      · rw [V_upd_top]; exact h3
      · intro j hj
        by_cases e : j = k
        · subst e; rw [upd_same]; have := H1.out; have := H2.out; omega
        · rw [upd_other _ _ _ _ (by omega)]; exact h4 j (by omega)
      · intro j hj; rw [upd_other _ _ _ _ (by omega)]; exact h5 j (by omega)
      · rw [upd_same]; exact H1.out
end Go.Proofs.YtnaiahjgdakneaaGreatDoor
