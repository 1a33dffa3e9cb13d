/- What 'divLong' answers: Knuth's quotient, and what is left. -/
/- What 'heads' and 'leapOf' answer. -/
/- What 'leapOf' answers. -/
/- What 'euclid' answers: several of Euclid's steps. -/
/- What 'Gcd' answers: the greatest number that divides both. -/
/- The document's answer, by decimal digits: 'digit' and 'strip' of the package vinculumref01. -/
/- Bytes that are laid one by one, and "turned" of the reference. -/
/- "Add" of the reference: the sum by decimal digits. -/
/- "Word" and "Cmp" of the reference. -/
/- "Sub" of the reference. -/
import Derived.Test.YtocfenjampmdlabGreatDoorBDig
import Derived.Test.YtocfenjampmdlabGreatDoorBBld
import Derived.Deep.RegionHeld3
namespace Go.Proofs.YtocfenjampmdlabGreatDoor.B
open Go.RowKit NumB

/-- how far a highest word is moved up, so that its highest bit is set. -/
theorem lead (t : Int) (h0 : 0 < t) (h1 : t ≤ 18446744073709551615) : ∃ s : Nat, s ≤ 63 ∧ (64 - (Lib.bitLen t.toNat : Int)) = s ∧ 9223372036854775808 ≤ t * 2 ^ s ∧ (t + 1) * 2 ^ s ≤ 18446744073709551616 := by
  obtain ⟨y, rfl⟩ := Int.eq_ofNat_of_zero_le (show 0 ≤ t by omega)
  obtain ⟨k1, k2, k3⟩ := Lib.bitLenAux_bounds 64 y (by omega) (by omega)
  have k4 : Lib.bitLen y ≤ 64 := Lib.bitLen_le y 64 (Nat.le_refl _) (by omega)
  have k1 : 1 ≤ Lib.bitLen y := k1
  have k2 : 2 ^ (Lib.bitLen y - 1) ≤ y := k2
  have k3 : y < 2 ^ Lib.bitLen y := k3
  refine ⟨64 - Lib.bitLen y, by omega, by rw [Int.toNat_natCast]; omega, ?_, ?_⟩
  · have : 2 ^ (Lib.bitLen y - 1) * 2 ^ (64 - Lib.bitLen y) ≤ y * 2 ^ (64 - Lib.bitLen y) := Nat.mul_le_mul_right _ k2
    rw [← Nat.pow_add, show Lib.bitLen y - 1 + (64 - Lib.bitLen y) = 63 by omega] at this
    have e : ((y * 2 ^ (64 - Lib.bitLen y) : Nat) : Int) = (y : Int) * 2 ^ (64 - Lib.bitLen y) := by simp
    rw [← e]; omega
  · have : (y + 1) * 2 ^ (64 - Lib.bitLen y) ≤ 2 ^ Lib.bitLen y * 2 ^ (64 - Lib.bitLen y) := Nat.mul_le_mul_right _ k3
    rw [← Nat.pow_add, show Lib.bitLen y + (64 - Lib.bitLen y) = 64 by omega] at this
    have e : (((y + 1) * 2 ^ (64 - Lib.bitLen y) : Nat) : Int) = ((y : Int) + 1) * 2 ^ (64 - Lib.bitLen y) := by simp
    rw [← e]; omega
/-- the divisor, moved up. -/
theorem normed {Y X : Nat → Int} {p m : Nat} {K : Int} (hK : 0 < K) (hY : Wd Y p (m + 2)) (h1 : 9223372036854775808 ≤ Y (p + (m + 1)) * K) (h2 : (Y (p + (m + 1)) + 1) * K ≤ 18446744073709551616) (hX : Wd X 0 (m + 3)) (hV : V X 0 (m + 3) = V Y p (m + 2) * K) :
    X (m + 2) = 0 ∧ 9223372036854775808 ≤ X (0 + (m + 1)) ∧ V X 0 (m + 2) = V Y p (m + 2) * K ∧ tr X 0 (m + 3) = m + 2 := by
  have hb := V_bd (m + 1) (hY.mono (by omega))
  have hp := P_pos (m + 1)
  have eY : V Y p (m + 2) = V Y p (m + 1) + Y (p + (m + 1)) * P (m + 1) := rfl
  have up : V Y p (m + 2) * K < P (m + 2) := by
    have a1 : V Y p (m + 2) + 1 ≤ (Y (p + (m + 1)) + 1) * P (m + 1) := by rw [Int.add_mul]; omega
    have a2 : (V Y p (m + 2) + 1) * K ≤ (Y (p + (m + 1)) + 1) * P (m + 1) * K := Int.mul_le_mul_of_nonneg_right a1 (by omega)
    have a3 : (Y (p + (m + 1)) + 1) * K * P (m + 1) ≤ 18446744073709551616 * P (m + 1) := Int.mul_le_mul_of_nonneg_right h2 (by omega)
    have a4 : (Y (p + (m + 1)) + 1) * P (m + 1) * K = (Y (p + (m + 1)) + 1) * K * P (m + 1) := by grind
    rw [Int.add_mul] at a2
    have e : P (m + 2) = P (m + 1) * 18446744073709551616 := rfl
    omega
  have low : 9223372036854775808 * P (m + 1) ≤ V Y p (m + 2) * K := by
    have a1 : Y (p + (m + 1)) * P (m + 1) ≤ V Y p (m + 2) := by omega
    have a2 : Y (p + (m + 1)) * P (m + 1) * K ≤ V Y p (m + 2) * K := Int.mul_le_mul_of_nonneg_right a1 (by omega)
    have a3 : 9223372036854775808 * P (m + 1) ≤ Y (p + (m + 1)) * K * P (m + 1) := Int.mul_le_mul_of_nonneg_right h1 (by omega)
    have a4 : Y (p + (m + 1)) * P (m + 1) * K = Y (p + (m + 1)) * K * P (m + 1) := by grind
    omega
  have eX : V X 0 (m + 3) = V X 0 (m + 2) + X (0 + (m + 2)) * P (m + 2) := rfl
  have eX2 : V X 0 (m + 2) = V X 0 (m + 1) + X (0 + (m + 1)) * P (m + 1) := rfl
  have b2 := V_bd (m + 2) (hX.mono (by omega))
  have b1 := V_bd (m + 1) (hX.mono (by omega))
  have t2 := hX (m + 2) (by omega)
  have z : X (0 + (m + 2)) = 0 := by
    apply Int.le_antisymm _ t2.1
    apply Int.not_lt.1
    intro hc
    have : 1 * P (m + 2) ≤ X (0 + (m + 2)) * P (m + 2) := Int.mul_le_mul_of_nonneg_right (by omega) (Int.le_of_lt (P_pos _))
    omega
  have top : 9223372036854775808 ≤ X (0 + (m + 1)) := by
    apply Int.not_lt.1
    intro hc
    have : (X (0 + (m + 1)) + 1) * P (m + 1) ≤ 9223372036854775808 * P (m + 1) := Int.mul_le_mul_of_nonneg_right (by omega) (by omega)
    rw [Int.add_mul] at this
    rw [z] at eX
    omega
  refine ⟨by simpa using z, top, by rw [z] at eX; omega, ?_⟩
  simp only [tr]
  rw [if_pos z, if_neg (by omega)]
/-- words 0 at the end. -/
theorem V_cut {Z : Nat → Int} {k r N : Nat} (h : k + r ≤ N) (hz : ∀ j, k + r ≤ j → j < N → Z j = 0) : V Z 0 N = V Z 0 k + P k * V Z k r := by
  obtain ⟨q, rfl⟩ := Nat.le.dest h
  rw [V_split, V_split Z 0 k r, Nat.zero_add, Nat.zero_add, V_zero q (fun j hj => hz _ (by omega) (by omega))]
  simp

/-- what the loop of 'divLong' keeps. -/
def LongRel (w : World) (g1 g2 g3 n m l : Nat) (X1 : Nat → Int) (A d : Int) (k : Nat) (Z Q : Nat → Int) (wr : World) : Prop :=
  Row wr g1 (m + 3) X1 ∧ Row wr g2 (n + 1) Z ∧ Row wr g3 l Q ∧ Below w.heap.size w wr ∧ A = V Z 0 (n + 1) + d * (P k * V Q k (l - k)) ∧ V Z k (m + 2) < d ∧ (∀ j, k + (m + 2) ≤ j → j < n + 1 → Z j = 0) ∧ Wd Z 0 (n + 1) ∧ Wd Q 0 l
theorem LongRel.step {w : World} {g1 g2 g3 n m l : Nat} {X1 : Nat → Int} {A d : Int} {k : Nat} {Z Q : Nat → Int} {wr w2 : World} (h : LongRel w g1 g2 g3 n m l X1 A d (k + 1) Z Q wr) (hl : l = n + 1 - (m + 2)) (hk : k + 1 ≤ l)
    (h12 : g1 ≠ g2) (h13 : g1 ≠ g3) (h23 : g2 ≠ g3) (hB2 : w.heap.size ≤ g2) (hB3 : w.heap.size ≤ g3) {D : Int} {Z' : Nat → Int} (R2 : Row w2 g2 (n + 1) Z') (O2 : Only g2 wr w2) (e : V Z k (m + 3) = D * d + V Z' k (m + 2)) (hr : V Z' k (m + 2) < d)
    (hz : Z' (k + (m + 2)) = 0) (hW : Wd Z' k (m + 3)) (ho : ∀ j, j < k ∨ k + (m + 3) ≤ j → Z' j = Z j) (d0 : 0 ≤ D) (d1 : D ≤ 18446744073709551615) :
    LongRel w g1 g2 g3 n m l X1 A d k Z' (upd Q k D) (w2.setCell ⟨g3, k, none⟩ (.int .u64 D)) := by
  obtain ⟨r1, r2, r3, b, eA, lt, zz, wz, wq⟩ := h
  have OO : Only g3 w2 (w2.setCell ⟨g3, k, none⟩ (.int .u64 D)) := (Only.refl _ _).set k _
  have zz' : ∀ j, k + (m + 2) ≤ j → j < n + 1 → Z' j = 0 := fun j h1 h2 => by
    by_cases ej : j = k + (m + 2)
    · subst ej; exact hz
    · rw [ho j (by omega)]; exact zz j (by omega) h2
  refine ⟨OO.row h13 (O2.row h12 r1), OO.row h23 R2, (O2.row (Ne.symm h23) r3).set _ _, (b.trans (O2.below hB2)).trans (OO.below hB3), ?_, hr, zz', ?_, Wd_upd wq d0 d1⟩
  · have c1 := V_cut (Z := Z) (k := k) (r := m + 3) (N := n + 1) (by omega) (fun j h1 h2 => zz j (by omega) h2)
    have c2 := V_cut (Z := Z') (k := k) (r := m + 2) (N := n + 1) (by omega) zz'
    have c3 : V Z' 0 k = V Z 0 k := V_congr k (fun j hj => by rw [Nat.zero_add]; exact ho j (by omega))
    obtain ⟨t, ht⟩ : ∃ t, l - k = t + 1 := ⟨l - k - 1, by omega⟩
    rw [show l - (k + 1) = t by omega] at eA
    have hq : V (upd Q k D) k (t + 1) = D + 18446744073709551616 * V Q (k + 1) t := by rw [V_low, upd_same, V_upd_out t (by omega)]
    rw [ht, hq, eA, c1, c2, c3, e]
    simp only [P]
    generalize V Q (k + 1) t = q
    generalize P k = p
    generalize V Z' k (m + 2) = v
    generalize V Z 0 k = u
    grind
  · intro j hj
    rw [Nat.zero_add]
    by_cases hin : k ≤ j ∧ j < k + (m + 3)
    · obtain ⟨i, rfl⟩ := Nat.le.dest hin.1
      exact hW i (by omega)
    · rw [ho j (by omega)]; have := wz j hj; rwa [Nat.zero_add] at this

theorem fin {a b q R K : Int} (hK : 0 < K) (e : a * K = R + b * K * q) (h0 : 0 ≤ R) (hlt : R < b * K) : q * b + R / K = a ∧ 0 ≤ R / K ∧ R / K < b := by
  have e1 : R = (a - b * q) * K := by rw [Int.sub_mul, e]; grind
  have e2 : R / K = a - b * q := by rw [e1]; exact Int.mul_ediv_cancel _ (by omega)
  have e3 : q * b = b * q := by grind
  refine ⟨by omega, Int.ediv_nonneg h0 (by omega), ?_⟩
  exact Int.ediv_lt_of_lt_mul hK hlt
theorem start_lt {X2 X1 : Nat → Int} {n m l s : Nat} {t : Int} (hW : Wd X2 0 (n + 1)) (hL : X2 (0 + n) < 2 ^ s) (hl : l + (m + 1) = n) (h2 : (t + 1) * 2 ^ s ≤ 18446744073709551616) (ht : 1 ≤ t) (htop : 9223372036854775808 ≤ X1 (0 + (m + 1))) (hW1 : Wd X1 0 (m + 3)) : V X2 l (m + 2) < V X1 0 (m + 2) := by
  have hw : Wd X2 l (m + 1) := fun j hj => by have := hW (l + j) (by omega); rwa [Nat.zero_add] at this
  have b1 := V_bd (m + 1) hw
  have b2 := V_bd (m + 1) (hW1.mono (show m + 1 ≤ m + 3 by omega))
  have e1 : V X2 l (m + 2) = V X2 l (m + 1) + X2 (l + (m + 1)) * P (m + 1) := rfl
  have e2 : V X1 0 (m + 2) = V X1 0 (m + 1) + X1 (0 + (m + 1)) * P (m + 1) := rfl
  have hp := P_pos (m + 1)
  have hK : (0 : Int) < 2 ^ s := Int.pow_pos (by decide)
  have h3 : 2 * (2 : Int) ^ s ≤ (t + 1) * 2 ^ s := Int.mul_le_mul_of_nonneg_right (by omega) (by omega)
  rw [Nat.zero_add, ← hl] at hL
  have h4 : (X2 (l + (m + 1)) + 1) * P (m + 1) ≤ 9223372036854775808 * P (m + 1) := Int.mul_le_mul_of_nonneg_right (by omega) (by omega)
  have h5 : 9223372036854775808 * P (m + 1) ≤ X1 (0 + (m + 1)) * P (m + 1) := Int.mul_le_mul_of_nonneg_right htop (by omega)
  rw [Int.add_mul] at h4
  omega

end Go.Proofs.YtocfenjampmdlabGreatDoor.B
namespace Go.Proofs.YtocfenjampmdlabGreatDoor.B
open Go.RowKit NumB

theorem head_or (t1 t0 : Int) (s : Nat) (hs : s ≤ 63) (h1 : 0 ≤ t1) (h2 : (t1 + 1) * 2 ^ s ≤ 18446744073709551616) (h3 : 0 ≤ t0) (h4 : t0 ≤ 18446744073709551615) :
    bits .or .u64 (IntKind.u64.wrap (t1 * 2 ^ s)) (t0 / 2 ^ (64 - s)) = t1 * 2 ^ s + t0 / 2 ^ (64 - s) := by
  obtain ⟨t1, rfl⟩ := Int.eq_ofNat_of_zero_le h1
  obtain ⟨t0, rfl⟩ := Int.eq_ofNat_of_zero_le h3
  have hMK : 2 ^ (64 - s) * 2 ^ s = 18446744073709551616 := by rw [← Nat.pow_add, show 64 - s + s = 64 by omega]
  have pK : (2 : Int) ^ s = ((2 ^ s : Nat) : Int) := by simp
  have pM : (2 : Int) ^ (64 - s) = ((2 ^ (64 - s) : Nat) : Int) := by simp
  have hKpos : 0 < 2 ^ s := Nat.two_pow_pos s
  have hMpos : 0 < 2 ^ (64 - s) := Nat.two_pow_pos _
  have hb : t0 / 2 ^ (64 - s) < 2 ^ s := by rw [Nat.div_lt_iff_lt_mul hMpos, Nat.mul_comm, hMK]; omega
  have hor := or_add t1 (t0 / 2 ^ (64 - s)) s hb
  rw [pK] at h2
  rw [pK, pM]
  generalize 2 ^ s = K at *
  generalize 2 ^ (64 - s) = M at *
  have h5 : t1 * K + K ≤ 18446744073709551616 := by
    have e : ((t1 : Int) + 1) * (K : Int) = ((t1 * K + K : Nat) : Int) := by rw [Int.natCast_add, Int.natCast_mul]; grind
    omega
  rw [← Int.natCast_mul, ← Int.natCast_ediv, IntKind.wrap_u64, show ((t1 * K : Nat) : Int) % 18446744073709551616 = ((t1 * K : Nat) : Int) by omega, bits_or_u64_nat _ _ (by omega) (by omega), hor]
  simp
theorem wy_bd {y : Nat → Int} {p m : Nat} (h : Wd y p m) (j : Nat) : 0 ≤ wy y p m j ∧ wy y p m j ≤ 18446744073709551615 := by
  unfold wy; split
  · exact h j (by assumption)
  · decide
end Go.Proofs.YtocfenjampmdlabGreatDoor.B
namespace Go.Proofs.YtocfenjampmdlabGreatDoor.B
open Go.RowKit NumB
theorem below_put {B g : Nat} {w w' : World} (h : Below B w w') (hg : B ≤ g) (i : Nat) (v : Value) : Below B w (w'.setCell ⟨g, i, none⟩ v) :=
  ⟨h.os, h.tape, h.output, by simpa [World.setCell] using h.size, fun k hk => (heap_setCell_other w' ⟨g, i, none⟩ k v (by show k ≠ g; omega)).trans (h.block k hk)⟩
/-- what 'leapOf' answers: no steps, or rows that are right. -/
def Lok (A B : Int) (e : Ending) : Prop := ∃ a b c d t, e = .returned (.agg #[.int .u64 a, .int .u64 b, .int .u64 c, .int .u64 d, .bool t]) ∧ (b = 0 ∨ Lg A B a b c d t) ∧ (0 ≤ a ∧ a ≤ 18446744073709551615) ∧ (0 ≤ b ∧ b ≤ 18446744073709551615) ∧ (0 ≤ c ∧ c ≤ 18446744073709551615) ∧ (0 ≤ d ∧ d ≤ 18446744073709551615)
end Go.Proofs.YtocfenjampmdlabGreatDoor.B
namespace Go.Proofs.YtocfenjampmdlabGreatDoor.B
open Go.RowKit NumB

theorem head_split {x : Nat → Int} {o k : Nat} (h : Wd x o (k + 2)) {K M : Int} (hM : 0 < M) (hKM : K * M = 18446744073709551616) :
    ∃ r, V x o (k + 2) = (x (o + (k + 1)) * K + x (o + k) / M) * (P k * M) + r ∧ 0 ≤ r ∧ r < P k * M := by
  have e : V x o (k + 2) = V x o k + x (o + k) * P k + x (o + (k + 1)) * (P k * 18446744073709551616) := rfl
  have hb := V_bd k (h.mono (by omega))
  have hp := P_pos k
  have d1 := Int.emod_add_mul_ediv (x (o + k)) M
  have d2 := Int.emod_nonneg (x (o + k)) (show M ≠ 0 by omega)
  have d3 := Int.emod_lt_of_pos (x (o + k)) hM
  refine ⟨x (o + k) % M * P k + V x o k, ?_, ?_, ?_⟩
  · rw [e, ← hKM]
    generalize x (o + (k + 1)) = t1 at *
    generalize hq : x (o + k) / M = q at *
    generalize hr : x (o + k) % M = r at *
    have : x (o + k) = r + M * q := by omega
    rw [this]; grind
  · have := Int.mul_nonneg d2 (Int.le_of_lt hp); omega
  · have : (x (o + k) % M + 1) * P k ≤ M * P k := Int.mul_le_mul_of_nonneg_right (by omega) (by omega)
    rw [Int.add_mul, Int.one_mul] at this
    rw [Int.mul_comm (P k) M]
    omega
theorem V_ext (y : Nat → Int) (p m n : Nat) (h : m ≤ n) : V (fun j => wy y p m j) 0 n = V y p m := by
  obtain ⟨r, rfl⟩ := Nat.le.dest h
  rw [V_split, Nat.zero_add, V_zero r (fun j _ => by show wy y p m (m + j) = 0; unfold wy; rw [if_neg (by omega)])]
  rw [V_congr (x := fun j => wy y p m j) (y := y) (o := 0) (p := p) m (fun j hj => by show wy y p m (0 + j) = _; unfold wy; rw [Nat.zero_add, if_pos hj])]
  simp
theorem top_le {x y : Nat → Int} {o p m k : Nat} (hx : Wd x o (k + 2)) (hy : Wd y p m) (hm : m ≤ k + 2) (h : V y p m ≤ V x o (k + 2)) : wy y p m (k + 1) ≤ x (o + (k + 1)) := by
  have hw : Wd (fun j => wy y p m j) 0 (k + 1) := fun j _ => by rw [Nat.zero_add]; exact wy_bd hy j
  have e1 : V (fun j => wy y p m j) 0 (k + 2) = V (fun j => wy y p m j) 0 (k + 1) + wy y p m (0 + (k + 1)) * P (k + 1) := rfl
  rw [V_ext y p m (k + 2) hm, Nat.zero_add] at e1
  have e2 : V x o (k + 2) = V x o (k + 1) + x (o + (k + 1)) * P (k + 1) := rfl
  have b1 := (V_bd (k + 1) hw).1
  have b2 := (V_bd (k + 1) (hx.mono (by omega))).2
  have hp := P_pos (k + 1)
  apply Int.not_lt.1
  intro hc
  have : (x (o + (k + 1)) + 1) * P (k + 1) ≤ wy y p m (k + 1) * P (k + 1) := Int.mul_le_mul_of_nonneg_right (by omega) (by omega)
  rw [Int.add_mul, Int.one_mul] at this
  omega
/-- what the heads are. -/
structure Hd (X Y A B D x0 y0 : Int) : Prop where
  hD : 0 < D
  eX : X = A * D + x0
  eY : Y = B * D + y0
  px : 0 ≤ x0
  lx : x0 < D
  py : 0 ≤ y0
  ly : y0 < D
theorem Hd.le {X Y A B D x0 y0 : Int} (h : Hd X Y A B D x0 y0) (hle : Y ≤ X) : B ≤ A := by
  apply Int.not_lt.1
  intro hc
  have : (A + 1) * D ≤ B * D := Int.mul_le_mul_of_nonneg_right (by omega) (Int.le_of_lt h.hD)
  rw [Int.add_mul, Int.one_mul] at this
  have := h.eX; have := h.eY; have := h.lx; have := h.py
  omega
/-- what one call of 'euclid' does to two numbers. -/
structure Eu (X Y X' Y' : Int) : Prop where
  h0 : 0 ≤ Y'
  h1 : Y' < Y
  h2 : Y' ≤ X'
  h3 : X' ≤ Y
  g : Int.gcd X' Y' = Int.gcd X Y
theorem Eu.of {X Y A B D x0 y0 a b c d : Int} {t : Bool} (H : Hd X Y A B D x0 y0) (h : Lg A B a b c d t) : Eu X Y (NumB.nx X Y a b t) (NumB.ny X Y c d t) := by
  obtain ⟨p0, p1, p2, i1, i2⟩ := h.whole H.hD H.eX H.eY H.px H.lx H.py H.ly
  exact ⟨p0, by omega, by omega, p2, gcd_same i1 i2 rfl rfl⟩
theorem bt4 {B : Nat} {w w1 w2 : World} (h : Below B w w1) (k : Below w1.heap.size w1 w2) (hB : B ≤ w1.heap.size := by first | exact Nat.le_refl _ | omega) : Below B w w2 := h.trans (k.mono hB)
end Go.Proofs.YtocfenjampmdlabGreatDoor.B
namespace Go.Proofs.YtocfenjampmdlabGreatDoor.B
open Go.RowKit NumB

theorem Nt.one_num {w : World} {v : Value} {m m' : Nat} {Y Y' : Int} (h : Nt w v m Y) (k : Nt w v m' Y') : Y = Y' := by
  obtain ⟨y, p, ⟨ao, cap, rfl, _, _, _, _, h5⟩, rfl⟩ := h
  obtain ⟨z, q, ⟨bo, cap', e, _, _, _, _, k5⟩, rfl⟩ := k
  cases e
  refine V_congr m (fun j hj => ?_)
  obtain ⟨b, off, e1, _, hc⟩ := h5 (by omega)
  obtain ⟨b', off', e2, _, kc⟩ := k5 (by omega)
  rw [e1] at e2
  cases e2
  have := (hc j hj).symm.trans (kc j hj)
  simpa using this
/-- there is a function that reads a number out of memory. -/
theorem numOf_is : ∃ f : World → Value → Nat, ∀ (w : World) (v : Value) (m : Nat) (Y : Int), Nt w v m Y → f w v = Y.toNat := by
  classical
  refine ⟨fun w v => if h : ∃ p : Nat × Int, Nt w v p.1 p.2 then (Classical.choose h).2.toNat else 0, fun w v m Y h => ?_⟩
  have hh : ∃ p : Nat × Int, Nt w v p.1 p.2 := ⟨(m, Y), h⟩
  show (if h : ∃ p : Nat × Int, Nt w v p.1 p.2 then (Classical.choose h).2.toNat else 0) = _
  rw [dif_pos hh, (Classical.choose_spec hh).one_num h]
theorem Nz.one (w : World) (a : Int) (h0 : 0 < a) (h1 : a ≤ 18446744073709551615) : Nz (w.alloc (.cells #[.int .u64 a] 22)) (.slice (some ⟨w.heap.size, 0, none⟩) 1 1) 1 a := by
  obtain ⟨x, o, s, e⟩ := Nt.one w a (by omega) h1
  refine ⟨x, o, s, Or.inr ?_, e⟩
  have : V x o 1 = x (o + 0) := by simp [V, P]
  rw [this] at e
  show x (o + 0) ≠ 0
  omega
theorem cmpI_lt' {a b : Int} (h : a < b) : cmpI a b = -1 := by unfold cmpI; rw [if_pos h]
theorem cmpI_ge' {a b : Int} (h : ¬ a < b) : ¬ cmpI a b < 0 := by unfold cmpI; rw [if_neg h]; split <;> decide
/-- what the loop of 'Gcd' keeps. -/
def Grel (G L : Nat) (w : World) (xv yv : Value) (wr : World) : Prop := ∃ (n m : Nat) (X Y : Int), Nz wr xv n X ∧ Nz wr yv m Y ∧ Y ≤ X ∧ X < P L ∧ Int.gcd X Y = G ∧ Below w.heap.size w wr
end Go.Proofs.YtocfenjampmdlabGreatDoor.B
namespace Go.Proofs.YtocfenjampmdlabGreatDoor.B
open Go.RowKit NumB
open Go.Lib (decDigits)

/-- the number of digits, the lowest one first. -/
def lv : List UInt8 → Nat
  | [] => 0
  | c :: t => (c.toNat - 48) + 10 * lv t
theorem dval_reverse : ∀ l, dval l.reverse = lv l
  | [] => by simp [dval, lv]
  | c :: t => by rw [List.reverse_cons, dval_snoc, dval_reverse t, lv]; omega
theorem lv_snoc : ∀ (l : List UInt8) (c : UInt8), lv (l ++ [c]) = lv l + 10 ^ l.length * (c.toNat - 48)
  | [], c => by simp [lv]
  | d :: t, c => by
    rw [List.cons_append, lv, lv_snoc t c, lv, List.length_cons, Nat.pow_succ]
    generalize 10 ^ t.length = p
    generalize c.toNat - 48 = r
    have : p * 10 * r = 10 * (p * r) := by grind
    omega
theorem lv_reverse (l : List UInt8) : lv l.reverse = dval l := by rw [← dval_reverse, List.reverse_reverse]
theorem dig_back {c : UInt8} (h : 48 ≤ c.toNat) : UInt8.ofNat (48 + (c.toNat - 48)) = c := by
  rw [show 48 + (c.toNat - 48) = c.toNat by omega]; simp
theorem canon (l : List UInt8) : Digs l → l ≠ [] → (l.length = 1 ∨ ∃ c t, l = c :: t ∧ c.toNat ≠ 48) → decDigits (dval l) = l := by
  refine rev_ind (P := fun l => Digs l → l ≠ [] → (l.length = 1 ∨ ∃ c t, l = c :: t ∧ c.toNat ≠ 48) → decDigits (dval l) = l) (fun _ h => absurd rfl h) (fun t c ih hd _ hh => ?_) l
  have hc := hd c (by simp)
  have hv := dval_snoc t c
  by_cases ht : t = []
  · subst ht
    have : dval ([] : List UInt8) = 0 := rfl
    rw [hv, this, dec_small (by omega), Nat.mul_zero, Nat.zero_add, dig_back hc.1]; rfl
  · have hlen : 0 < t.length := List.length_pos_iff.2 ht
    have hh' : ∃ c t', t = c :: t' ∧ c.toNat ≠ 48 := by
      rcases hh with h | ⟨d, s, e, hd⟩
      · rw [List.length_append, List.length_singleton] at h; omega
      · cases t with
        | nil => exact absurd rfl ht
        | cons d' t' => rw [List.cons_append] at e; obtain ⟨rfl, _⟩ := List.cons.inj e; exact ⟨d', t', rfl, hd⟩
    have h1 := ih (fun x hx => hd x (by simp [hx])) ht (Or.inr hh')
    have h0 : dval t ≠ 0 := by
      intro e
      rw [e, dec_small (by decide)] at h1
      obtain ⟨d, s, e', hd'⟩ := hh'
      rw [e'] at h1
      obtain ⟨e2, _⟩ := List.cons.inj h1
      rw [← e2] at hd'
      exact hd' (by decide)
    rw [decDigits_big (by omega), show dval (t ++ [c]) / 10 = dval t by omega, h1, show dval (t ++ [c]) % 10 = c.toNat - 48 by omega, dig_back hc.1]
theorem dval_zero_cons (l : List UInt8) : dval (48 :: l) = dval l := by
  have := dval_append [48] l
  rw [List.singleton_append] at this
  rw [this]
  simp [dval]

/-- the digit at a place from the end. -/
def dg (l : List UInt8) (i : Nat) : Nat := (l.reverse.getD i 48).toNat - 48
/-- what the lowest i digits say. -/
def low (l : List UInt8) (i : Nat) : Nat := lv (l.reverse.take i)
theorem low_succ (l : List UInt8) (i : Nat) : low l (i + 1) = low l i + 10 ^ i * dg l i := by
  unfold low dg
  by_cases h : i < l.reverse.length
  · rw [List.take_succ_eq_append_getElem h, lv_snoc, List.length_take, Nat.min_eq_left (by omega), List.getD_eq_getElem?_getD, List.getElem?_eq_getElem h]; rfl
  · rw [List.take_of_length_le (by omega), List.take_of_length_le (by omega), List.getD_eq_getElem?_getD, List.getElem?_eq_none (by omega)]; simp
theorem low_all (l : List UInt8) (i : Nat) (h : l.length ≤ i) : low l i = dval l := by
  unfold low
  rw [List.take_of_length_le (by simpa using h), lv_reverse]
theorem dg_le (l : List UInt8) (hd : Digs l) (i : Nat) : dg l i ≤ 9 := by
  unfold dg
  by_cases h : i < l.reverse.length
  · rw [List.getD_eq_getElem?_getD, List.getElem?_eq_getElem h]
    have := hd l.reverse[i] (List.mem_reverse.1 (List.getElem_mem h))
    simp only [Option.getD_some]; omega
  · rw [List.getD_eq_getElem?_getD, List.getElem?_eq_none (by omega)]; simp
theorem dg_at (s : ByteArray) (i : Nat) (h : i < s.size) : dg s.data.toList i = (s[s.size - 1 - i]'(by omega)).toNat - 48 := by
  unfold dg
  have hl : s.data.toList.length = s.size := rfl
  rw [List.getD_eq_getElem?_getD, List.getElem?_reverse (by omega), hl, List.getElem?_eq_getElem (by omega)]
  rfl
theorem dg_over (s : ByteArray) (i : Nat) (h : s.size ≤ i) : dg s.data.toList i = 0 := by
  unfold dg
  have hl : s.data.toList.length = s.size := rfl
  rw [List.getD_eq_getElem?_getD, List.getElem?_eq_none (by rw [List.length_reverse]; omega)]; simp
theorem digs_at {s : ByteArray} (h : Digs s.data.toList) {j : Nat} (hj : j < s.size) : 48 ≤ s[j].toNat ∧ s[j].toNat ≤ 57 :=
  h s[j] (by have : s[j] = s.data.toList[j]'(by simpa using hj) := rfl
             rw [this]; exact List.getElem_mem _)

/-- the text of a number's digits. -/
def dt (n : Nat) : ByteArray := ⟨(decDigits n).toArray⟩
theorem dt_list (n : Nat) : (dt n).data.toList = decDigits n := rfl
theorem bytes_eq {a b : ByteArray} (h : a.data.toList = b.data.toList) : a = b := by
  cases a with | mk x => cases b with | mk y => cases x; cases y; simp at h; subst h; rfl
theorem strip_end {t : ByteArray} (hd : Digs t.data.toList) (h0 : 0 < t.size) (h : t.size = 1 ∨ t[0].toNat ≠ 48) : t = dt (dval t.data.toList) := by
  refine bytes_eq ?_
  rw [dt_list]
  have hl : t.data.toList.length = t.size := rfl
  refine (canon _ hd (fun e => by rw [e] at hl; simp at hl; omega) ?_).symm
  rcases h with h | h
  · left; omega
  · right
    cases hc : t.data.toList with
    | nil => rw [hc] at hl; simp at hl; omega
    | cons c l =>
      refine ⟨c, l, rfl, ?_⟩
      have : t[0] = t.data.toList[0]'(by omega) := rfl
      rw [this] at h
      simp only [hc, List.getElem_cons_zero] at h
      exact h
theorem strip_step {t t2 : ByteArray} (h : t[0]? = some 48) (e : t2.data.toList = t.data.toList.drop 1) : dval t2.data.toList = dval t.data.toList := by
  rw [e]
  cases hc : t.data.toList with
  | nil => rfl
  | cons c l =>
    have : t[0]? = t.data.toList[0]? := by simp [getElem?_def]; rfl
    rw [this, hc] at h
    simp at h
    subst h
    rw [List.drop_one, List.tail_cons, dval_zero_cons]

end Go.Proofs.YtocfenjampmdlabGreatDoor.B
namespace Go.Proofs.YtocfenjampmdlabGreatDoor.B
open Go.RowKit NumB
open Go.Lib (decDigits)
def OwB (w : World) (base : Nat) (v : Value) (l : List UInt8) : Prop := w.ownsRow base 5 1 v l.length (Lib.byteCells l)
/-- bytes that stand in a slice. -/
def Bt (w : World) (v : Value) (l : List UInt8) : Prop :=
  ∃ ao cap, v = .slice ao l.length cap ∧ l.length ≤ cap ∧ (0 < l.length → ∃ b off, ao = some ⟨b, off, none⟩ ∧ b < w.heap.size ∧ ∀ j (hj : j < l.length), w.cell? ⟨b, off + j, none⟩ = some (.int .u8 l[j].toNat))
theorem byteCells_get (l : List UInt8) (j : Nat) (hj : j < l.length) : (Lib.byteCells l)[j]? = some (.int .u8 l[j].toNat) := by
  simp [Lib.byteCells, List.getElem?_eq_getElem hj]
theorem OwB.bt {w : World} {base : Nat} {v : Value} {l : List UInt8} (h : OwB w base v l) : Bt w v l := by
  rcases h.2 with ⟨rfl, h0⟩ | ⟨g, cap, cur, rfl, hg, hgg, hgc, hgm, hgs, htk⟩
  · refine ⟨none, 0, by rw [h0], by omega, fun h => by omega⟩
  · refine ⟨_, cap, rfl, hgc, fun _ => ⟨g, 0, rfl, (Array.getElem?_eq_some_iff.1 hgg).1, fun j hj => ?_⟩⟩
    rw [Nat.zero_add]
    have := World.ownsRow.cellAt h j (by omega)
    rw [this, byteCells_get l j hj]
theorem OwB.str {w : World} {base : Nat} {v : Value} {l : List UInt8} (h : OwB w base v l) : (convert 71 9 v).run Tryz.prog w = .ok (.string ⟨l.toArray⟩) w := by
  obtain ⟨ao, cap, rfl, hc, hl⟩ := h.bt
  cases l with
  | nil =>
    cases ao with
    | none => exact run_convert_bytes_nil _ 71 5 Tryz.underlying71 Tryz.underlying5 _ _ 9 Tryz.underlying9
    | some ad => exact run_convert_bytes_back (P := Tryz.prog) w 71 9 5 ad cap [] Tryz.underlying71 Tryz.underlying5 Tryz.underlying9 (fun j hj => by simp at hj)
  | cons c t =>
    obtain ⟨b, off, rfl, hb, hcell⟩ := hl (by simp)
    exact run_convert_bytes_back (P := Tryz.prog) w 71 9 5 ⟨b, off, none⟩ cap (c :: t) Tryz.underlying71 Tryz.underlying5 Tryz.underlying9 (fun j hj => by have h := hcell j hj; simp only [Addr.add]; split; (next e => subst e; exact h); exact h)
theorem Bt.below {w w' : World} {v : Value} {l : List UInt8} (h : Bt w v l) (hb : Below w.heap.size w w') : Bt w' v l := by
  obtain ⟨ao, cap, rfl, h1, h2⟩ := h
  refine ⟨ao, cap, rfl, h1, fun hn => ?_⟩
  obtain ⟨b, off, rfl, hbs, hc⟩ := h2 hn
  exact ⟨b, off, rfl, Nat.lt_of_lt_of_le hbs hb.size, fun j hj => by rw [hb.cell (p := ⟨b, off + j, none⟩) hbs]; exact hc j hj⟩
theorem grown_below {w w' : World} {base n : Nat} {e : TypeId} {v : Value} {xs : List Value} (h : w.ownsRow base e 1 v n xs) (g : w.grownBy w' v.ownBlock) (hb : base ≤ w.heap.size) : Below base w w' :=
  ⟨g.os, g.tape, g.output, g.size, fun _ hk => own_block h g hk (by omega)⟩
theorem OwB.push {w w3 : World} {base N : Nat} {v v' : Value} {L : List UInt8} {c : UInt8} {o : Obj} (h : OwB w base v L) (hb : base ≤ w.heap.size) (hN : N = L.length + 1)
    (own : w3.ownsRow base 5 1 v' N (Lib.byteCells L ++ [.int .u8 (c.toNat : Int)])) (grow : (w.alloc o).grownBy w3 v.ownBlock) : OwB w3 base v' (L ++ [c]) ∧ Below base w w3 ∧ base ≤ w3.heap.size := by
  have h2 : (w.alloc o).ownsRow base 5 1 v L.length (Lib.byteCells L) := World.ownsRow.alloc h _
  have b2 := grown_below h2 grow (by simp; omega)
  refine ⟨?_, ((Below.refl _ _).alloc hb o).trans b2, ?_⟩
  · subst hN
    unfold OwB
    rw [List.length_append, List.length_singleton]
    simpa [Lib.byteCells] using own
  · have := b2.size; simp at this; omega

end Go.Proofs.YtocfenjampmdlabGreatDoor.B
namespace Go.Proofs.YtocfenjampmdlabGreatDoor.B
open Go.RowKit NumB
open Go.Lib (decDigits)
def AdRel (x y : List UInt8) (i c : Nat) (L : List UInt8) : Prop := Digs L ∧ L.length = i ∧ lv L + 10 ^ i * c = low x i + low y i
theorem digs_snoc {L : List UInt8} (h : Digs L) {d : Nat} (hd : d < 10) : Digs (L ++ [UInt8.ofNat (48 + d)]) := by
  intro c hc
  rcases List.mem_append.1 hc with hc | hc
  · exact h c hc
  · simp only [List.mem_singleton] at hc
    subst hc; rw [dig_nat hd]; omega
theorem AdRel.step {x y : List UInt8} {i c : Nat} {L : List UInt8} (h : AdRel x y i c L) : AdRel x y (i + 1) ((dg x i + dg y i + c) / 10) (L ++ [UInt8.ofNat (48 + (dg x i + dg y i + c) % 10)]) := by
  obtain ⟨h1, h2, h3⟩ := h
  refine ⟨digs_snoc h1 (by omega), by simp [h2], ?_⟩
  rw [lv_snoc, dig_nat (by omega), h2, low_succ, low_succ, Nat.pow_succ]
  generalize 10 ^ i = p at *
  generalize dg x i = a
  generalize dg y i = b
  obtain ⟨n, hn⟩ : ∃ n, n = a + b + c := ⟨_, rfl⟩
  rw [← hn, Nat.add_sub_cancel_left]
  have e1 : p * (n % 10) + p * 10 * (n / 10) = p * n := by
    have : p * n = p * (10 * (n / 10) + n % 10) := by rw [Nat.div_add_mod]
    rw [this]; grind
  have e2 : p * n = p * a + p * b + p * c := by rw [hn]; grind
  omega
theorem AdRel.done {x y : List UInt8} {i : Nat} {L : List UInt8} (h : AdRel x y i 0 L) (hx : x.length ≤ i) (hy : y.length ≤ i) : lv L = dval x + dval y := by
  obtain ⟨_, _, h3⟩ := h
  rw [low_all x i hx, low_all y i hy] at h3; omega
theorem turn_strip {L : List UInt8} : dval (⟨L.reverse.toArray⟩ : ByteArray).data.toList = lv L := dval_reverse L
theorem digs_rev {L : List UInt8} (h : Digs L) : Digs (⟨L.reverse.toArray⟩ : ByteArray).data.toList := fun c hc => h c (List.mem_reverse.1 hc)
end Go.Proofs.YtocfenjampmdlabGreatDoor.B
namespace Go.Proofs.YtocfenjampmdlabGreatDoor.B
open Go.RowKit NumB
open Go.Lib (decDigits)
def WdRel (w0 u : Nat) (L : List UInt8) : Prop := Digs L ∧ lv L + 10 ^ L.length * u = w0
theorem WdRel.step {w0 u : Nat} {L : List UInt8} (h : WdRel w0 u L) : WdRel w0 (u / 10) (L ++ [UInt8.ofNat (48 + u % 10)]) := by
  obtain ⟨h1, h3⟩ := h
  refine ⟨digs_snoc h1 (by omega), ?_⟩
  rw [lv_snoc, dig_nat (by omega), List.length_append, List.length_singleton, Nat.pow_succ, Nat.add_sub_cancel_left, ← h3]
  generalize 10 ^ L.length = p at *
  have e1 : p * (u % 10) + p * 10 * (u / 10) = p * u := by
    have : p * u = p * (10 * (u / 10) + u % 10) := by rw [Nat.div_add_mod]
    rw [this]; grind
  omega
theorem WdRel.len {w0 u : Nat} {L : List UInt8} (h : WdRel w0 u L) (hu : 0 < u) (hw : w0 ≤ 18446744073709551615) : L.length < 20 := by
  obtain ⟨_, h3⟩ := h
  apply Decidable.byContradiction
  intro hn
  have h1 : 10 ^ 20 ≤ 10 ^ L.length := Nat.pow_le_pow_right (by decide) (by omega)
  have h2 : 10 ^ L.length * 1 ≤ 10 ^ L.length * u := Nat.mul_le_mul_left _ hu
  have e : (10 : Nat) ^ 20 = 100000000000000000000 := by decide
  omega
theorem dec_len_pos (a : Nat) : 0 < (decDigits a).length := by
  by_cases h : a < 10
  · rw [dec_small h]; simp
  · rw [decDigits_big h]; simp
theorem len_lt {a b : Nat} (h : (decDigits a).length < (decDigits b).length) : a < b := by
  have h1 := dval_lt (decDigits a) (digs_dec a)
  rw [dval_dec] at h1
  have hp := dec_len_pos a
  have h2 : ¬ b < 10 ^ ((decDigits b).length - 1) := fun hb => by have := len_dec b _ (by omega) hb; omega
  have h3 : 10 ^ (decDigits a).length ≤ 10 ^ ((decDigits b).length - 1) := Nat.pow_le_pow_right (by decide) (by omega)
  omega
theorem dval_cons (c : UInt8) (t : List UInt8) : dval (c :: t) = (c.toNat - 48) * 10 ^ t.length + dval t := by
  have := dval_append [c] t
  rw [List.singleton_append] at this
  rw [this]
  simp [dval]
theorem less_iff : ∀ (x y : List UInt8), Digs x → Digs y → x.length = y.length → (Op.bytesLess x y = true ↔ dval x < dval y)
  | [], [], _, _, _ => by simp [Op.bytesLess, dval]
  | [], _ :: _, _, _, h => by simp at h
  | _ :: _, [], _, _, h => by simp at h
  | c :: x, d :: y, hx, hy, h => by
    have hl : x.length = y.length := by simpa using h
    have ih := less_iff x y (fun z hz => hx z (by simp [hz])) (fun z hz => hy z (by simp [hz])) hl
    have bx := dval_lt x (fun z hz => hx z (by simp [hz]))
    have bz := dval_lt y (fun z hz => hy z (by simp [hz]))
    have hc := hx c (by simp)
    have hd := hy d (by simp)
    rw [dval_cons, dval_cons, hl]
    rw [hl] at bx
    simp only [Op.bytesLess, Bool.or_eq_true, decide_eq_true_eq, Bool.and_eq_true, beq_iff_eq, ih]
    generalize 10 ^ y.length = p at *
    rcases Nat.lt_trichotomy c.toNat d.toNat with h | h | h
    · have hcd : c < d := UInt8.lt_iff_toNat_lt.2 h
      have h1 : ((c.toNat - 48) + 1) * p ≤ (d.toNat - 48) * p := Nat.mul_le_mul_right _ (by omega)
      rw [Nat.add_mul] at h1
      constructor
      · intro _; omega
      · intro _; exact Or.inl hcd
    · have hcd : c = d := UInt8.toNat_inj.1 h
      subst hcd
      constructor
      · rintro (h' | ⟨_, h'⟩)
        · exact absurd h' (by simp)
        · omega
      · intro h'; exact Or.inr ⟨rfl, by omega⟩
    · have h1 : ((d.toNat - 48) + 1) * p ≤ (c.toNat - 48) * p := Nat.mul_le_mul_right _ (by omega)
      rw [Nat.add_mul] at h1
      constructor
      · rintro (h' | ⟨h', _⟩)
        · have := UInt8.lt_iff_toNat_lt.1 h'; omega
        · rw [h'] at h; omega
      · intro h'; omega
theorem dt_size (a : Nat) : (dt a).size = (decDigits a).length := bytes_size _
theorem dt_toList (a : Nat) : (dt a).toList = decDigits a := toList_eq _
end Go.Proofs.YtocfenjampmdlabGreatDoor.B
namespace Go.Proofs.YtocfenjampmdlabGreatDoor.B
open Go.RowKit NumB
open Go.Lib (decDigits)
def SbRel (x y : List UInt8) (i c : Nat) (L : List UInt8) : Prop := Digs L ∧ L.length = i ∧ lv L + low y i = low x i + 10 ^ i * c
theorem lv_lt (L : List UInt8) (h : Digs L) : lv L < 10 ^ L.length := by
  have := dval_lt L.reverse (fun c hc => h c (List.mem_reverse.1 hc))
  rw [dval_reverse, List.length_reverse] at this; exact this
theorem SbRel.step {x y : List UInt8} {i c d c' : Nat} {L : List UInt8} (h : SbRel x y i c L) (hd : d < 10) (e : d + dg y i + c = dg x i + 10 * c') : SbRel x y (i + 1) c' (L ++ [UInt8.ofNat (48 + d)]) := by
  obtain ⟨h1, h2, h3⟩ := h
  refine ⟨digs_snoc h1 hd, by simp [h2], ?_⟩
  rw [lv_snoc, dig_nat hd, h2, low_succ, low_succ, Nat.pow_succ, Nat.add_sub_cancel_left]
  generalize 10 ^ i = p at *
  have e2 : p * d + p * dg y i + p * c = p * dg x i + p * 10 * c' := by
    have : p * (d + dg y i + c) = p * (dg x i + 10 * c') := by rw [e]
    grind
  omega
theorem len_le {a b : Nat} (h : b ≤ a) : (decDigits b).length ≤ (decDigits a).length := by
  apply Decidable.byContradiction
  intro hn
  have := len_lt (a := a) (b := b) (by omega)
  omega
theorem SbRel.done {a b c : Nat} {L : List UInt8} (h : SbRel (decDigits a) (decDigits b) (decDigits a).length c L) (hle : b ≤ a) : lv L = a - b := by
  obtain ⟨h1, h2, h3⟩ := h
  rw [low_all _ _ (Nat.le_refl _), low_all _ _ (len_le hle), dval_dec, dval_dec] at h3
  have h4 := lv_lt L h1
  rw [h2] at h4
  generalize 10 ^ (decDigits a).length = p at *
  by_cases hc : c = 0
  · subst hc; omega
  · have : p * 1 ≤ p * c := Nat.mul_le_mul_left _ (by omega)
    omega
end Go.Proofs.YtocfenjampmdlabGreatDoor.B
