/- What 'divLong' answers: Knuth's quotient, and what is left. -/
import Derived.Test.YtocfenjampmdlabGreatDoorBDig
namespace Go.Proofs.YtocfenjampmdlabGreatDoor.B
open Go.RowKit NumB

/-- how far a highest word is moved up, so that its highest bit is set. -/
theorem lead (t : Int) (h0 : 0 < t) (h1 : t ≤ 18446744073709551615) : ∃ s : Nat, s ≤ 63 ∧ (64 - (Lib.bitLen t.toNat : Int)) = s ∧ 9223372036854775808 ≤ t * 2 ^ s ∧ (t + 1) * 2 ^ s ≤ 18446744073709551616 := by
  obtain ⟨y, rfl⟩ := Int.eq_ofNat_of_zero_le (show 0 ≤ t by omega)
  obtain ⟨k1, k2, k3⟩ := Lib.bitLenAux_bounds 64 y (by omega) (by omega)
  have k4 : Lib.bitLen y ≤ 64 := Lib.bitLen_le y 64 (Nat.le_refl _) (by omega)
  have k1 : 1 ≤ Lib.bitLen y := k1
  have k2 : 2 ^ (Lib.bitLen y - 1) ≤ y := k2
  have k3 : y < 2 ^ Lib.bitLen y := k3
  refine ⟨64 - Lib.bitLen y, by omega, by rw [Int.toNat_natCast]; omega, ?_, ?_⟩
  · have : 2 ^ (Lib.bitLen y - 1) * 2 ^ (64 - Lib.bitLen y) ≤ y * 2 ^ (64 - Lib.bitLen y) := Nat.mul_le_mul_right _ k2
    rw [← Nat.pow_add, show Lib.bitLen y - 1 + (64 - Lib.bitLen y) = 63 by omega] at this
    have e : ((y * 2 ^ (64 - Lib.bitLen y) : Nat) : Int) = (y : Int) * 2 ^ (64 - Lib.bitLen y) := by simp
    rw [← e]; omega
  · have : (y + 1) * 2 ^ (64 - Lib.bitLen y) ≤ 2 ^ Lib.bitLen y * 2 ^ (64 - Lib.bitLen y) := Nat.mul_le_mul_right _ k3
    rw [← Nat.pow_add, show Lib.bitLen y + (64 - Lib.bitLen y) = 64 by omega] at this
    have e : (((y + 1) * 2 ^ (64 - Lib.bitLen y) : Nat) : Int) = ((y : Int) + 1) * 2 ^ (64 - Lib.bitLen y) := by simp
    rw [← e]; omega
/-- the divisor, moved up. -/
theorem normed {Y X : Nat → Int} {p m : Nat} {K : Int} (hK : 0 < K) (hY : Wd Y p (m + 2)) (h1 : 9223372036854775808 ≤ Y (p + (m + 1)) * K) (h2 : (Y (p + (m + 1)) + 1) * K ≤ 18446744073709551616) (hX : Wd X 0 (m + 3)) (hV : V X 0 (m + 3) = V Y p (m + 2) * K) :
    X (m + 2) = 0 ∧ 9223372036854775808 ≤ X (0 + (m + 1)) ∧ V X 0 (m + 2) = V Y p (m + 2) * K ∧ tr X 0 (m + 3) = m + 2 := by
  have hb := V_bd (m + 1) (hY.mono (by omega))
  have hp := P_pos (m + 1)
  have eY : V Y p (m + 2) = V Y p (m + 1) + Y (p + (m + 1)) * P (m + 1) := rfl
  have up : V Y p (m + 2) * K < P (m + 2) := by
    have a1 : V Y p (m + 2) + 1 ≤ (Y (p + (m + 1)) + 1) * P (m + 1) := by rw [Int.add_mul]; omega
    have a2 : (V Y p (m + 2) + 1) * K ≤ (Y (p + (m + 1)) + 1) * P (m + 1) * K := Int.mul_le_mul_of_nonneg_right a1 (by omega)
    have a3 : (Y (p + (m + 1)) + 1) * K * P (m + 1) ≤ 18446744073709551616 * P (m + 1) := Int.mul_le_mul_of_nonneg_right h2 (by omega)
    have a4 : (Y (p + (m + 1)) + 1) * P (m + 1) * K = (Y (p + (m + 1)) + 1) * K * P (m + 1) := by grind
    rw [Int.add_mul] at a2
    have e : P (m + 2) = P (m + 1) * 18446744073709551616 := rfl
    omega
  have low : 9223372036854775808 * P (m + 1) ≤ V Y p (m + 2) * K := by
    have a1 : Y (p + (m + 1)) * P (m + 1) ≤ V Y p (m + 2) := by omega
    have a2 : Y (p + (m + 1)) * P (m + 1) * K ≤ V Y p (m + 2) * K := Int.mul_le_mul_of_nonneg_right a1 (by omega)
    have a3 : 9223372036854775808 * P (m + 1) ≤ Y (p + (m + 1)) * K * P (m + 1) := Int.mul_le_mul_of_nonneg_right h1 (by omega)
    have a4 : Y (p + (m + 1)) * P (m + 1) * K = Y (p + (m + 1)) * K * P (m + 1) := by grind
    omega
  have eX : V X 0 (m + 3) = V X 0 (m + 2) + X (0 + (m + 2)) * P (m + 2) := rfl
  have eX2 : V X 0 (m + 2) = V X 0 (m + 1) + X (0 + (m + 1)) * P (m + 1) := rfl
  have b2 := V_bd (m + 2) (hX.mono (by omega))
  have b1 := V_bd (m + 1) (hX.mono (by omega))
  have t2 := hX (m + 2) (by omega)
  have z : X (0 + (m + 2)) = 0 := by
    apply Int.le_antisymm _ t2.1
    apply Int.not_lt.1
    intro hc
    have : 1 * P (m + 2) ≤ X (0 + (m + 2)) * P (m + 2) := Int.mul_le_mul_of_nonneg_right (by omega) (Int.le_of_lt (P_pos _))
    omega
  have top : 9223372036854775808 ≤ X (0 + (m + 1)) := by
    apply Int.not_lt.1
    intro hc
    have : (X (0 + (m + 1)) + 1) * P (m + 1) ≤ 9223372036854775808 * P (m + 1) := Int.mul_le_mul_of_nonneg_right (by omega) (by omega)
    rw [Int.add_mul] at this
    rw [z] at eX
    omega
  refine ⟨by simpa using z, top, by rw [z] at eX; omega, ?_⟩
  simp only [tr]
  rw [if_pos z, if_neg (by omega)]
/-- words 0 at the end. -/
theorem V_cut {Z : Nat → Int} {k r N : Nat} (h : k + r ≤ N) (hz : ∀ j, k + r ≤ j → j < N → Z j = 0) : V Z 0 N = V Z 0 k + P k * V Z k r := by
  obtain ⟨q, rfl⟩ := Nat.le.dest h
  rw [V_split, V_split Z 0 k r, Nat.zero_add, Nat.zero_add, V_zero q (fun j hj => hz _ (by omega) (by omega))]
  simp

/-- what the loop of 'divLong' keeps. -/
def LongRel (w : World) (g1 g2 g3 n m l : Nat) (X1 : Nat → Int) (A d : Int) (k : Nat) (Z Q : Nat → Int) (wr : World) : Prop :=
  Row wr g1 (m + 3) X1 ∧ Row wr g2 (n + 1) Z ∧ Row wr g3 l Q ∧ Below w.heap.size w wr ∧ A = V Z 0 (n + 1) + d * (P k * V Q k (l - k)) ∧ V Z k (m + 2) < d ∧ (∀ j, k + (m + 2) ≤ j → j < n + 1 → Z j = 0) ∧ Wd Z 0 (n + 1) ∧ Wd Q 0 l
theorem LongRel.step {w : World} {g1 g2 g3 n m l : Nat} {X1 : Nat → Int} {A d : Int} {k : Nat} {Z Q : Nat → Int} {wr w2 : World} (h : LongRel w g1 g2 g3 n m l X1 A d (k + 1) Z Q wr) (hl : l = n + 1 - (m + 2)) (hk : k + 1 ≤ l)
    (h12 : g1 ≠ g2) (h13 : g1 ≠ g3) (h23 : g2 ≠ g3) (hB2 : w.heap.size ≤ g2) (hB3 : w.heap.size ≤ g3) {D : Int} {Z' : Nat → Int} (R2 : Row w2 g2 (n + 1) Z') (O2 : Only g2 wr w2) (e : V Z k (m + 3) = D * d + V Z' k (m + 2)) (hr : V Z' k (m + 2) < d)
    (hz : Z' (k + (m + 2)) = 0) (hW : Wd Z' k (m + 3)) (ho : ∀ j, j < k ∨ k + (m + 3) ≤ j → Z' j = Z j) (d0 : 0 ≤ D) (d1 : D ≤ 18446744073709551615) :
    LongRel w g1 g2 g3 n m l X1 A d k Z' (upd Q k D) (w2.setCell ⟨g3, k, none⟩ (.int .u64 D)) := by
  obtain ⟨r1, r2, r3, b, eA, lt, zz, wz, wq⟩ := h
  have OO : Only g3 w2 (w2.setCell ⟨g3, k, none⟩ (.int .u64 D)) := (Only.refl _ _).set k _
  have zz' : ∀ j, k + (m + 2) ≤ j → j < n + 1 → Z' j = 0 := fun j h1 h2 => by
    by_cases ej : j = k + (m + 2)
    · subst ej; exact hz
    · rw [ho j (by omega)]; exact zz j (by omega) h2
  refine ⟨OO.row h13 (O2.row h12 r1), OO.row h23 R2, (O2.row (Ne.symm h23) r3).set _ _, (b.trans (O2.below hB2)).trans (OO.below hB3), ?_, hr, zz', ?_, Wd_upd wq d0 d1⟩
  · have c1 := V_cut (Z := Z) (k := k) (r := m + 3) (N := n + 1) (by omega) (fun j h1 h2 => zz j (by omega) h2)
    have c2 := V_cut (Z := Z') (k := k) (r := m + 2) (N := n + 1) (by omega) zz'
    have c3 : V Z' 0 k = V Z 0 k := V_congr k (fun j hj => by rw [Nat.zero_add]; exact ho j (by omega))
    obtain ⟨t, ht⟩ : ∃ t, l - k = t + 1 := ⟨l - k - 1, by omega⟩
    rw [show l - (k + 1) = t by omega] at eA
    have hq : V (upd Q k D) k (t + 1) = D + 18446744073709551616 * V Q (k + 1) t := by rw [V_low, upd_same, V_upd_out t (by omega)]
    rw [ht, hq, eA, c1, c2, c3, e]
    simp only [P]
    generalize V Q (k + 1) t = q
    generalize P k = p
    generalize V Z' k (m + 2) = v
    generalize V Z 0 k = u
    grind
  · intro j hj
    rw [Nat.zero_add]
    by_cases hin : k ≤ j ∧ j < k + (m + 3)
    · obtain ⟨i, rfl⟩ := Nat.le.dest hin.1
      exact hW i (by omega)
    · rw [ho j (by omega)]; have := wz j hj; rwa [Nat.zero_add] at this

theorem fin {a b q R K : Int} (hK : 0 < K) (e : a * K = R + b * K * q) (h0 : 0 ≤ R) (hlt : R < b * K) : q * b + R / K = a ∧ 0 ≤ R / K ∧ R / K < b := by
  have e1 : R = (a - b * q) * K := by rw [Int.sub_mul, e]; grind
  have e2 : R / K = a - b * q := by rw [e1]; exact Int.mul_ediv_cancel _ (by omega)
  have e3 : q * b = b * q := by grind
  refine ⟨by omega, Int.ediv_nonneg h0 (by omega), ?_⟩
  exact Int.ediv_lt_of_lt_mul hK hlt
theorem start_lt {X2 X1 : Nat → Int} {n m l s : Nat} {t : Int} (hW : Wd X2 0 (n + 1)) (hL : X2 (0 + n) < 2 ^ s) (hl : l + (m + 1) = n) (h2 : (t + 1) * 2 ^ s ≤ 18446744073709551616) (ht : 1 ≤ t) (htop : 9223372036854775808 ≤ X1 (0 + (m + 1))) (hW1 : Wd X1 0 (m + 3)) : V X2 l (m + 2) < V X1 0 (m + 2) := by
  have hw : Wd X2 l (m + 1) := fun j hj => by have := hW (l + j) (by omega); rwa [Nat.zero_add] at this
  have b1 := V_bd (m + 1) hw
  have b2 := V_bd (m + 1) (hW1.mono (show m + 1 ≤ m + 3 by omega))
  have e1 : V X2 l (m + 2) = V X2 l (m + 1) + X2 (l + (m + 1)) * P (m + 1) := rfl
  have e2 : V X1 0 (m + 2) = V X1 0 (m + 1) + X1 (0 + (m + 1)) * P (m + 1) := rfl
  have hp := P_pos (m + 1)
  have hK : (0 : Int) < 2 ^ s := Int.pow_pos (by decide)
  have h3 : 2 * (2 : Int) ^ s ≤ (t + 1) * 2 ^ s := Int.mul_le_mul_of_nonneg_right (by omega) (by omega)
  rw [Nat.zero_add, ← hl] at hL
  have h4 : (X2 (l + (m + 1)) + 1) * P (m + 1) ≤ 9223372036854775808 * P (m + 1) := Int.mul_le_mul_of_nonneg_right (by omega) (by omega)
  have h5 : 9223372036854775808 * P (m + 1) ≤ X1 (0 + (m + 1)) * P (m + 1) := Int.mul_le_mul_of_nonneg_right htop (by omega)
  rw [Int.add_mul] at h4
  omega

end Go.Proofs.YtocfenjampmdlabGreatDoor.B
