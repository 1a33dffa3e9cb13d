/- What prime's inner products and powers answer; the tables of the program that its calls read. -/
import Derived.Test.YtbecdlibckbbcabDoorVw
import Derived.Test.YtbecdlibckbbcabDoorPp
namespace Go.Proofs.YtbecdlibckbbcabDoor
open Go.RowKit Num Nmb

theorem mul_hi64 {a b m : Int} (ha : 0 ≤ a ∧ a < m) (hb : 0 ≤ b ∧ b < m) (hm : m ≤ 18446744073709551615) :
    0 ≤ a * b / 18446744073709551616 ∧ a * b / 18446744073709551616 < m ∧ 0 ≤ a * b % 18446744073709551616 ∧ a * b % 18446744073709551616 ≤ 18446744073709551615 := by
  have h0 : 0 ≤ a * b := Int.mul_nonneg ha.1 hb.1
  have h1 : a * b ≤ m * b := Int.mul_le_mul_of_nonneg_right (by omega) hb.1
  have h2 : m * b ≤ m * 18446744073709551615 := Int.mul_le_mul_of_nonneg_left (by omega) (by omega)
  omega
set_option maxHeartbeats 800000 in
theorem times_any (x y m : Int) (w : World) (hx : 0 ≤ x ∧ x < m) (hy : 0 ≤ y ∧ y < m) (hm : m ≤ 18446744073709551615) :
    Calls Tryd.prog 56 #[.int .u64 x, .int .u64 y, .int .u64 m] w fun e w' => e = .returned (.int .u64 (x * y % m)) ∧ ∃ k, w' = w.drewN k := by
  have B := hid (mul_hi64 hx hy hm)
  go_enter Tryd.func56, Tryd.ntmps56
  go_wp2_with fail
  refine (Tryd.bits_Mul64 x y (by omega) (by omega) (by omega) (by omega) _).mono ?_
  rintro e w' ⟨rfl, rfl⟩
  obtain ⟨b1, b2, b3, b4⟩ := B.out
  have D := div64_any (x * y / 18446744073709551616) (x * y % 18446744073709551616) m w' b1 b3 b4 b2 (by omega)
  have e3 : dr (x * y / 18446744073709551616) (x * y % 18446744073709551616) m = x * y % m := by
    unfold dr
    congr 1
    have := Int.emod_add_mul_ediv (x * y) 18446744073709551616
    omega
  rw [e3] at D
  have DD := hid D
  clear e3 D
  generalize x * y / 18446744073709551616 = hi at *
  generalize x * y % 18446744073709551616 = lo at *
  go_wp2_with fail
  refine DD.out.mono ?_
  rintro e w2 ⟨rfl, k, rfl⟩
  go_wp2
  go_ret
  exact ⟨rfl, k, rfl⟩
set_option maxHeartbeats 800000 in
theorem power_any (x m : Int) (n : Nat) (w : World) (hx : 0 ≤ x ∧ x < m) (h2 : 2 ≤ m) (hm : m ≤ 18446744073709551615) (hn : n ≤ 18446744073709551615) :
    Calls Tryd.prog 55 #[.int .u64 x, .int .u64 n, .int .u64 m] w fun e w' => e = .returned (.int .u64 (x ^ n % m)) ∧ ∃ k, w' = w.drewN k := by
  have E0 : Hid (1 * x ^ n % m = x ^ n % m) := by show _ = _; rw [Int.one_mul]
  obtain ⟨T, hT⟩ : ∃ T, T = x ^ n % m := ⟨_, rfl⟩
  rw [← hT] at E0
  rw [← hT]
  clear hT
  go_enter Tryd.func55, Tryd.ntmps55
  go_wp2
  go_loopw [0, 1, 7] (fun xv nv ov wr => ∃ (q p : Int) (j : Nat), xv = .int .u64 q ∧ nv = .int .u64 j ∧ ov = .int .u64 p ∧ j ≤ 18446744073709551615 ∧ 0 ≤ p ∧ p < m ∧ 0 ≤ q ∧ q < m ∧ Hid (p * q ^ j % m = T) ∧ ∃ k, wr = w.drewN k) (fun _ nv _ _ => (intOf nv).toNat)
  case atStart => exact ⟨x, 1, n, rfl, rfl, rfl, hn, by decide, by omega, hx.1, hx.2, E0, 0, rfl⟩
  case round =>
    obtain ⟨q, p, j, rfl, rfl, rfl, hj, hp, hp', hq, hq', G, k, rfl⟩ := hrel
    by_cases hj0 : j = 0
    · subst hj0
      have e : p = T := by have := G.out; rw [Int.pow_zero, Int.mul_one, Int.emod_eq_of_lt hp hp'] at this; exact this
      subst e
      clear G
      go_wp2
      go_ret
      exact ⟨rfl, k, rfl⟩
    · have hj1 : (0 : Int) < (j : Int) := by omega
      have hb : bits .and .u64 (j : Int) 1 = ((j % 2 : Nat) : Int) := by
        have := bits_and_u64_nat j 1 (by omega) (by omega)
        rw [Nat.and_one_is_mod] at this
        exact this
      by_cases ho : j % 2 = 1
      · have N := hid (pow_odd p q m T j G.out ho)
        rw [ho] at hb
        clear G
        go_wp2_with fail
        refine (times_any p q m _ ⟨hp, hp'⟩ ⟨hq, hq'⟩ hm).mono ?_
        rintro e w2 ⟨rfl, k2, rfl⟩
        go_wp2_with fail
        refine (times_any q q m _ ⟨hq, hq'⟩ ⟨hq, hq'⟩ hm).mono ?_
        rintro e w3 ⟨rfl, k3, rfl⟩
        have b1 := md_lt (p * q) (show 0 < m by omega)
        have b2 := md_lt (q * q) (show 0 < m by omega)
        generalize p * q % m = p' at *
        generalize q * q % m = q' at *
        go_wp2
        exact ⟨⟨q', p', j / 2, rfl, by congr 1, rfl, by omega, b1.1, b1.2, b2.1, b2.2, N, k + k2 + k3, by simp⟩, by simp only [intOf]; omega⟩
      · have N := hid (pow_even p q m T j G.out (by omega))
        rw [show j % 2 = 0 by omega] at hb
        clear G
        go_wp2_with fail
        refine (times_any q q m _ ⟨hq, hq'⟩ ⟨hq, hq'⟩ hm).mono ?_
        rintro e w2 ⟨rfl, k2, rfl⟩
        have b2 := md_lt (q * q) (show 0 < m by omega)
        generalize q * q % m = q' at *
        go_wp2
        exact ⟨⟨q', p, j / 2, rfl, by congr 1, rfl, by omega, hp, hp', b2.1, b2.2, N, k + k2, by simp⟩, by simp only [intOf]; omega⟩
/-- the tables lie. -/
def basV : Array Value := #[.int .u64 2, .int .u64 3, .int .u64 5, .int .u64 7, .int .u64 11, .int .u64 13, .int .u64 17, .int .u64 19, .int .u64 23, .int .u64 29, .int .u64 31, .int .u64 37]
structure Lay (w : World) : Prop where
  bas : ∃ t fr, w.heap[2]? = some (.cells basV t fr)
  tab : TabAt 3 Lib.deBruijn64tab w
theorem Lay.heap {w w' : World} (h : Lay w) (e : w'.heap = w.heap) : Lay w' := by
  obtain ⟨h1, h2⟩ := h
  refine ⟨by rw [e]; exact h1, fun j hj => ?_⟩
  have := h2 j hj
  simp only [World.cell?] at this ⊢
  rw [e]; exact this
theorem Lay.drew {w : World} (h : Lay w) (k : Nat) : Lay (w.drewN k) := h.heap (by simp)
theorem Lay.lt0 {w : World} (h : Lay w) : 2 < w.heap.size := by
  obtain ⟨t, fr, h1⟩ := h.bas
  exact (Array.getElem?_eq_some_iff.1 h1).1
theorem Lay.lt1 {w : World} (h : Lay w) : 3 < w.heap.size := by
  apply Nat.lt_of_not_le
  intro hs
  have := h.2 0 (by decide)
  simp [World.cell?, Array.getElem?_eq_none hs] at this
theorem Lay.size {w : World} (h : Lay w) : 2 < w.heap.size ∧ 3 < w.heap.size := ⟨h.lt0, h.lt1⟩
theorem Lay.below {B : Nat} {w w' : World} (h : Lay w) (hb : Below B w w') (h2 : 2 < B ∧ 3 < B) : Lay w' := by
  obtain ⟨h1, h3⟩ := h
  refine ⟨by rw [hb.block 2 h2.1]; exact h1, fun j hj => ?_⟩
  have := h3 j hj
  simp only [World.cell?] at this ⊢
  rw [hb.block 3 h2.2]; exact this
theorem tz_any (n : Nat) (w : World) (h : n ≤ 18446744073709551615) (L : Lay w) :
    Calls Tryd.prog 37 #[.int .u64 n] w fun e w' => e = .returned (.int .i64 (Lib.ctz 64 n : Nat)) ∧ w' = w :=
  Any7.bits_TrailingZeros64 Tryd.lays29 n (by omega) w (fun _ => L.tab)
theorem bas_at (k : Nat) (hk : k < 12) (w : World) : (Instr.index 77 (.agg basV) (.int .i64 (k : Int))).run Tryd.prog w = .ok (.int .u64 (bse k : Nat)) w := by
  have : k = 0 ∨ k = 1 ∨ k = 2 ∨ k = 3 ∨ k = 4 ∨ k = 5 ∨ k = 6 ∨ k = 7 ∨ k = 8 ∨ k = 9 ∨ k = 10 ∨ k = 11 := by omega
  rcases this with rfl | rfl | rfl | rfl | rfl | rfl | rfl | rfl | rfl | rfl | rfl | rfl <;> (show _ = _; kernel_rfl)
end Go.Proofs.YtbecdlibckbbcabDoor
