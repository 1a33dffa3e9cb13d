/- What 'divLong' answers: Knuth's quotient, and what is left. -/
import Derived.Test.YtnaiahjgdakneaaGreatDoorDig
namespace Go.Proofs.YtnaiahjgdakneaaGreatDoor
open Go.RowKit Num

/-- how far a highest word is moved up, so that its highest bit is set. -/
theorem lead (t : Int) (h0 : 0 < t) (h1 : t ≤ 18446744073709551615) : ∃ s : Nat, s ≤ 63 ∧ (64 - (Lib.bitLen t.toNat : Int)) = s ∧ 9223372036854775808 ≤ t * 2 ^ s ∧ (t + 1) * 2 ^ s ≤ 18446744073709551616 := by
  obtain ⟨y, rfl⟩ := Int.eq_ofNat_of_zero_le (show 0 ≤ t by omega)
  obtain ⟨k1, k2, k3⟩ := Lib.bitLenAux_bounds 64 y (by omega) (by omega)
  have k4 : Lib.bitLen y ≤ 64 := Lib.bitLen_le y 64 (Nat.le_refl _) (by omega)
  have k1 : 1 ≤ Lib.bitLen y := k1
  have k2 : 2 ^ (Lib.bitLen y - 1) ≤ y := k2
  have k3 : y < 2 ^ Lib.bitLen y := k3
  refine ⟨64 - Lib.bitLen y, by omega, by rw [Int.toNat_natCast]; omega, ?_, ?_⟩
  · have : 2 ^ (Lib.bitLen y - 1) * 2 ^ (64 - Lib.bitLen y) ≤ y * 2 ^ (64 - Lib.bitLen y) := Nat.mul_le_mul_right _ k2
    rw [← Nat.pow_add, show Lib.bitLen y - 1 + (64 - Lib.bitLen y) = 63 by omega] at this
    have e : ((y * 2 ^ (64 - Lib.bitLen y) : Nat) : Int) = (y : Int) * 2 ^ (64 - Lib.bitLen y) := by simp
    rw [← e]; omega
  · have : (y + 1) * 2 ^ (64 - Lib.bitLen y) ≤ 2 ^ Lib.bitLen y * 2 ^ (64 - Lib.bitLen y) := Nat.mul_le_mul_right _ k3
    rw [← Nat.pow_add, show Lib.bitLen y + (64 - Lib.bitLen y) = 64 by omega] at this
    have e : (((y + 1) * 2 ^ (64 - Lib.bitLen y) : Nat) : Int) = ((y : Int) + 1) * 2 ^ (64 - Lib.bitLen y) := by simp
    rw [← e]; omega
/-- the divisor, moved up. -/
theorem normed {Y X : Nat → Int} {p m : Nat} {K : Int} (hK : 0 < K) (hY : Wd Y p (m + 2)) (h1 : 9223372036854775808 ≤ Y (p + (m + 1)) * K) (h2 : (Y (p + (m + 1)) + 1) * K ≤ 18446744073709551616) (hX : Wd X 0 (m + 3)) (hV : V X 0 (m + 3) = V Y p (m + 2) * K) :
    X (m + 2) = 0 ∧ 9223372036854775808 ≤ X (0 + (m + 1)) ∧ V X 0 (m + 2) = V Y p (m + 2) * K ∧ tr X 0 (m + 3) = m + 2 := by
  have hb := V_bd (m + 1) (hY.mono (by omega))
  have hp := P_pos (m + 1)
  have eY : V Y p (m + 2) = V Y p (m + 1) + Y (p + (m + 1)) * P (m + 1) := rfl
  have up : V Y p (m + 2) * K < P (m + 2) := by
    have a1 : V Y p (m + 2) + 1 ≤ (Y (p + (m + 1)) + 1) * P (m + 1) := by rw [Int.add_mul]; omega
    have a2 : (V Y p (m + 2) + 1) * K ≤ (Y (p + (m + 1)) + 1) * P (m + 1) * K := Int.mul_le_mul_of_nonneg_right a1 (by omega)
    have a3 : (Y (p + (m + 1)) + 1) * K * P (m + 1) ≤ 18446744073709551616 * P (m + 1) := Int.mul_le_mul_of_nonneg_right h2 (by omega)
    have a4 : (Y (p + (m + 1)) + 1) * P (m + 1) * K = (Y (p + (m + 1)) + 1) * K * P (m + 1) := by grind
    rw [Int.add_mul] at a2
    have e : P (m + 2) = P (m + 1) * 18446744073709551616 := rfl
    omega
  have low : 9223372036854775808 * P (m + 1) ≤ V Y p (m + 2) * K := by
    have a1 : Y (p + (m + 1)) * P (m + 1) ≤ V Y p (m + 2) := by omega
    have a2 : Y (p + (m + 1)) * P (m + 1) * K ≤ V Y p (m + 2) * K := Int.mul_le_mul_of_nonneg_right a1 (by omega)
    have a3 : 9223372036854775808 * P (m + 1) ≤ Y (p + (m + 1)) * K * P (m + 1) := Int.mul_le_mul_of_nonneg_right h1 (by omega)
    have a4 : Y (p + (m + 1)) * P (m + 1) * K = Y (p + (m + 1)) * K * P (m + 1) := by grind
    omega
  have eX : V X 0 (m + 3) = V X 0 (m + 2) + X (0 + (m + 2)) * P (m + 2) := rfl
  have eX2 : V X 0 (m + 2) = V X 0 (m + 1) + X (0 + (m + 1)) * P (m + 1) := rfl
  have b2 := V_bd (m + 2) (hX.mono (by omega))
  have b1 := V_bd (m + 1) (hX.mono (by omega))
  have t2 := hX (m + 2) (by omega)
  have z : X (0 + (m + 2)) = 0 := by
    apply Int.le_antisymm _ t2.1
    apply Int.not_lt.1
    intro hc
    have : 1 * P (m + 2) ≤ X (0 + (m + 2)) * P (m + 2) := Int.mul_le_mul_of_nonneg_right (by omega) (Int.le_of_lt (P_pos _))
    omega
  have top : 9223372036854775808 ≤ X (0 + (m + 1)) := by
    apply Int.not_lt.1
    intro hc
    have : (X (0 + (m + 1)) + 1) * P (m + 1) ≤ 9223372036854775808 * P (m + 1) := Int.mul_le_mul_of_nonneg_right (by omega) (by omega)
    rw [Int.add_mul] at this
    rw [z] at eX
    omega
  refine ⟨by simpa using z, top, by rw [z] at eX; omega, ?_⟩
  simp only [tr]
  rw [if_pos z, if_neg (by omega)]
/-- words 0 at the end. -/
theorem V_cut {Z : Nat → Int} {k r N : Nat} (h : k + r ≤ N) (hz : ∀ j, k + r ≤ j → j < N → Z j = 0) : V Z 0 N = V Z 0 k + P k * V Z k r := by
  obtain ⟨q, rfl⟩ := Nat.le.dest h
  rw [V_split, V_split Z 0 k r, Nat.zero_add, Nat.zero_add, V_zero q (fun j hj => hz _ (by omega) (by omega))]
  simp

/-- what the loop of 'divLong' keeps. -/
def LongRel (w : World) (g1 g2 g3 n m l : Nat) (X1 : Nat → Int) (A d : Int) (k : Nat) (Z Q : Nat → Int) (wr : World) : Prop :=
  Row wr g1 (m + 3) X1 ∧ Row wr g2 (n + 1) Z ∧ Row wr g3 l Q ∧ Below w.heap.size w wr ∧ A = V Z 0 (n + 1) + d * (P k * V Q k (l - k)) ∧ V Z k (m + 2) < d ∧ (∀ j, k + (m + 2) ≤ j → j < n + 1 → Z j = 0) ∧ Wd Z 0 (n + 1) ∧ Wd Q 0 l
theorem LongRel.step {w : World} {g1 g2 g3 n m l : Nat} {X1 : Nat → Int} {A d : Int} {k : Nat} {Z Q : Nat → Int} {wr w2 : World} (h : LongRel w g1 g2 g3 n m l X1 A d (k + 1) Z Q wr) (hl : l = n + 1 - (m + 2)) (hk : k + 1 ≤ l)
    (h12 : g1 ≠ g2) (h13 : g1 ≠ g3) (h23 : g2 ≠ g3) (hB2 : w.heap.size ≤ g2) (hB3 : w.heap.size ≤ g3) {D : Int} {Z' : Nat → Int} (R2 : Row w2 g2 (n + 1) Z') (O2 : Only g2 wr w2) (e : V Z k (m + 3) = D * d + V Z' k (m + 2)) (hr : V Z' k (m + 2) < d)
    (hz : Z' (k + (m + 2)) = 0) (hW : Wd Z' k (m + 3)) (ho : ∀ j, j < k ∨ k + (m + 3) ≤ j → Z' j = Z j) (d0 : 0 ≤ D) (d1 : D ≤ 18446744073709551615) :
    LongRel w g1 g2 g3 n m l X1 A d k Z' (upd Q k D) (w2.setCell ⟨g3, k, none⟩ (.int .u64 D)) := by
  obtain ⟨r1, r2, r3, b, eA, lt, zz, wz, wq⟩ := h
  have OO : Only g3 w2 (w2.setCell ⟨g3, k, none⟩ (.int .u64 D)) := (Only.refl _ _).set k _
  have zz' : ∀ j, k + (m + 2) ≤ j → j < n + 1 → Z' j = 0 := fun j h1 h2 => by
    by_cases ej : j = k + (m + 2)
    · subst ej; exact hz
    · rw [ho j (by omega)]; exact zz j (by omega) h2
  refine ⟨OO.row h13 (O2.row h12 r1), OO.row h23 R2, (O2.row (Ne.symm h23) r3).set _ _, (b.trans (O2.below hB2)).trans (OO.below hB3), ?_, hr, zz', ?_, Wd_upd wq d0 d1⟩
  · have c1 := V_cut (Z := Z) (k := k) (r := m + 3) (N := n + 1) (by omega) (fun j h1 h2 => zz j (by omega) h2)
    have c2 := V_cut (Z := Z') (k := k) (r := m + 2) (N := n + 1) (by omega) zz'
    have c3 : V Z' 0 k = V Z 0 k := V_congr k (fun j hj => by rw [Nat.zero_add]; exact ho j (by omega))
    obtain ⟨t, ht⟩ : ∃ t, l - k = t + 1 := ⟨l - k - 1, by omega⟩
    rw [show l - (k + 1) = t by omega] at eA
    have hq : V (upd Q k D) k (t + 1) = D + 18446744073709551616 * V Q (k + 1) t := by rw [V_low, upd_same, V_upd_out t (by omega)]
    rw [ht, hq, eA, c1, c2, c3, e]
    simp only [P]
    generalize V Q (k + 1) t = q
    generalize P k = p
    generalize V Z' k (m + 2) = v
    generalize V Z 0 k = u
    grind
  · intro j hj
    rw [Nat.zero_add]
    by_cases hin : k ≤ j ∧ j < k + (m + 3)
    · obtain ⟨i, rfl⟩ := Nat.le.dest hin.1
      exact hW i (by omega)
    · rw [ho j (by omega)]; have := wz j hj; rwa [Nat.zero_add] at this

theorem fin {a b q R K : Int} (hK : 0 < K) (e : a * K = R + b * K * q) (h0 : 0 ≤ R) (hlt : R < b * K) : q * b + R / K = a ∧ 0 ≤ R / K ∧ R / K < b := by
  have e1 : R = (a - b * q) * K := by rw [Int.sub_mul, e]; grind
  have e2 : R / K = a - b * q := by rw [e1]; exact Int.mul_ediv_cancel _ (by omega)
  have e3 : q * b = b * q := by grind
  refine ⟨by omega, Int.ediv_nonneg h0 (by omega), ?_⟩
  exact Int.ediv_lt_of_lt_mul hK hlt
theorem start_lt {X2 X1 : Nat → Int} {n m l s : Nat} {t : Int} (hW : Wd X2 0 (n + 1)) (hL : X2 (0 + n) < 2 ^ s) (hl : l + (m + 1) = n) (h2 : (t + 1) * 2 ^ s ≤ 18446744073709551616) (ht : 1 ≤ t) (htop : 9223372036854775808 ≤ X1 (0 + (m + 1))) (hW1 : Wd X1 0 (m + 3)) : V X2 l (m + 2) < V X1 0 (m + 2) := by
  have hw : Wd X2 l (m + 1) := fun j hj => by have := hW (l + j) (by omega); rwa [Nat.zero_add] at this
  have b1 := V_bd (m + 1) hw
  have b2 := V_bd (m + 1) (hW1.mono (show m + 1 ≤ m + 3 by omega))
  have e1 : V X2 l (m + 2) = V X2 l (m + 1) + X2 (l + (m + 1)) * P (m + 1) := rfl
  have e2 : V X1 0 (m + 2) = V X1 0 (m + 1) + X1 (0 + (m + 1)) * P (m + 1) := rfl
  have hp := P_pos (m + 1)
  have hK : (0 : Int) < 2 ^ s := Int.pow_pos (by decide)
  have h3 : 2 * (2 : Int) ^ s ≤ (t + 1) * 2 ^ s := Int.mul_le_mul_of_nonneg_right (by omega) (by omega)
  rw [Nat.zero_add, ← hl] at hL
  have h4 : (X2 (l + (m + 1)) + 1) * P (m + 1) ≤ 9223372036854775808 * P (m + 1) := Int.mul_le_mul_of_nonneg_right (by omega) (by omega)
  have h5 : 9223372036854775808 * P (m + 1) ≤ X1 (0 + (m + 1)) * P (m + 1) := Int.mul_le_mul_of_nonneg_right htop (by omega)
  rw [Int.add_mul] at h4
  omega

set_option maxHeartbeats 3200000 in
set_option maxRecDepth 100000 in
theorem long_said : LongSaid := by
  intro vx vy n m0 a b w hx hy hn hm h2 hle
  obtain ⟨m, rfl⟩ : ∃ m, m0 = m + 2 := ⟨m0 - 2, by omega⟩
  have hnm : m + 2 ≤ n := hy.le_len hx.nt hle
  obtain ⟨l, hl⟩ : ∃ l, l + (m + 1) = n := ⟨n - (m + 1), by omega⟩
  have HA := hid hx.nt.nonneg
  obtain ⟨x, o, sx, nx, ex⟩ := hx
  obtain ⟨y, p, sy, ny, ey⟩ := hy
  have SX := hid sx
  have SY := hid sy
  have EX := hid ex
  have EY := hid ey
  have ht0 : y (p + (m + 1)) ≠ 0 := by rcases ny with h | h; omega; simpa using h
  obtain ⟨t0, t1⟩ := sy.wd (m + 1) (by omega)
  obtain ⟨s, hs, hsl, hs1, hs2⟩ := lead (y (p + (m + 1))) (by omega) t1
  have HSL := hid hsl
  have HS1 := hid hs1
  have HS2 := hid hs2
  obtain ⟨ao, ca, rfl, -⟩ := sx
  obtain ⟨bo, cb, rfl, y1, y2, -, -, y5⟩ := sy
  obtain ⟨by', oy, rfl, hby, hcy⟩ := y5 (by omega)
  have gt := hcy (m + 1) (by omega)
  have HK : Hid ((0 : Int) < 2 ^ s) := Int.pow_pos (by decide)
  clear nx ny ex ey hsl hs1 hs2 y5 hcy
  go_enter Tryz.func46, Tryz.ntmps46
  go_wp2_with (first
    | (go_at_call 67; refine (Tryz.bits_LeadingZeros64 _ _ t0 t1).mono ?_; rintro e w0 ⟨rfl, rfl⟩; rw [HSL.out])
    | (at_make; refine wp_make w0 rfl (.tmp 22) (.tmp 22) rfl _ _ (m + 3) rfl rfl (by omega) (by omega) (by omega) ?_; intro w1 R1 C1 Z1; have HZ1 := hid Z1; clear Z1))
  refine (moveUp_any w0.heap.size 0 (m + 3) (m + 3) _ _ (m + 2) y p s w1 R1 (by omega) (by omega) (by omega) (SY.out.apart C1 (Nat.le_refl _)) hs).mono ?_
  rintro e w2 ⟨rfl, X1, R2, O2, V2, W2, -, -⟩
  have NN := hid (normed HK.out SY.out.wd HS1.out HS2.out W2 V2)
  have T2 := C1.trans (O2.below (Nat.le_refl _))
  clear V2 R1
  go_wp2_with fail
  refine (trimmed_pos w0.heap.size 0 (m + 3) (m + 3) X1 0 w2 (Nat.le_refl _) (by omega) (fun j hj => by rw [Nat.zero_add]; exact R2.cell (by omega))).mono ?_
  rintro e w3 ⟨rfl, hw3⟩
  subst hw3
  rw [NN.out.2.2.2]
  go_wp2_with (at_make; refine wp_make w3 rfl (.tmp 32) (.tmp 32) rfl _ _ (n + 1) rfl rfl (by omega) (by omega) (by omega) ?_; intro w4 R4 C4 Z4; have HZ4 := hid Z4; clear Z4; have T4 := T2.trans (C4.mono T2.size); have Q2 := Below.row C4 R2.lt R2)
  refine (moveUp_any w3.heap.size 0 (n + 1) (n + 1) _ _ n x o s w4 R4 (by omega) (by omega) (by omega) (SX.out.apart T4 T2.size) hs).mono ?_
  rintro e w5 ⟨rfl, X2, R5, O5, V5, W5, -, L5⟩
  have T5 := T4.trans (O5.below T2.size)
  have HV5 := hid V5
  have HL5 := hid L5
  have Q5 := O5.row (Nat.ne_of_lt R2.lt) Q2
  clear V5 L5 R4 Q2
  go_wp2_with (at_make; refine wp_make w5 rfl (.tmp 42) (.tmp 42) rfl _ _ l rfl rfl (by omega) (by omega) (by omega) ?_; intro w6 R6 C6 Z6; have HZ6 := hid Z6; clear Z6; have T6 := T5.trans (C6.mono T5.size); have Q6 := Below.row C6 Q5.lt Q5; have P6 := Below.row C6 R5.lt R5; have g12 : w0.heap.size ≠ w3.heap.size := Nat.ne_of_lt R2.lt; have g13 : w0.heap.size ≠ w5.heap.size := Nat.ne_of_lt Q5.lt; have g23 : w3.heap.size ≠ w5.heap.size := Nat.ne_of_lt R5.lt; have s3 : w0.heap.size ≤ w3.heap.size := T2.size; have s5 : w0.heap.size ≤ w5.heap.size := T5.size; have G12 := hid g12; have G13 := hid g13; have G23 := hid g23; clear Q5 R5 R2 g12 g13 g23)
  have HNN := NN.out
  have D0 := hid (start_lt W5 HL5.out hl HS2.out (by omega) HNN.2.1 W2)
  go_loopw [10] (fun i wr => ∃ (k : Nat) (Z Q : Nat → Int), k ≤ l ∧ i = .int .i64 ((k : Int) - 1) ∧ Hid (LongRel w0 w0.heap.size w3.heap.size w5.heap.size n m l X1 (a * 2 ^ s) (V X1 0 (m + 2)) k Z Q wr)) (fun i _ => (intOf i + 1).toNat)
  case atStart => exact ⟨l, X2, fun _ => 0, Nat.le_refl _, rfl, Q6, P6, R6, T6, by rw [HV5.out, EX.out]; simp [V], D0.out, (fun j h1 h2 => by omega), W5, (fun j _ => by simp)⟩
  case round =>
    clear Q6 P6 R6 HNN D0
    obtain ⟨k, Z, Q, hk, rfl, hr⟩ := hrel
    cases k with
    | zero =>
      obtain ⟨r1, r2, r3, rb, rA, rlt, rz, rw1, rw2⟩ := hr.out
      have hcut := V_cut (Z := Z) (k := 0) (r := m + 2) (N := n + 1) (by omega) rz
      have FF := hid (fin (K := 2 ^ s) (a := a) (b := b) (q := V Q 0 l) (R := V Z 0 (m + 2)) HK.out (by rw [rA, hcut, NN.out.2.2.1, EY.out]; simp [V, P]) (V_bd (m + 2) (rw1.mono (by omega))).1 (by rw [← EY.out, ← NN.out.2.2.1]; simpa using rlt))
      have sz0 : w0.heap.size ≤ wr.heap.size := rb.size
      have lz := r2.lt
      have lq := r3.lt
      have RZ := hid r2
      have RQ := hid r3
      have WZ := hid rw1
      have WQ := hid rw2
      clear r1 r2 r3 rA rlt rz rw1 rw2 hcut hr
      go_wp2_with (at_make; refine wp_make wr rfl (.tmp 65) (.tmp 65) rfl _ _ (m + 2) rfl rfl (by omega) (by omega) (by omega) ?_; intro w8 R8 C8 Z8; have HZ8 := hid Z8; clear Z8; have Y8 := Below.row C8 lz RZ.out; have Q8 := Below.row C8 lq RQ.out)
      have SZ8 : SlN wr.heap.size w8 (.slice (some ⟨w3.heap.size, 0, none⟩) (m + 2) (n + 1)) (m + 2) Z 0 :=
        ⟨_, _, rfl, by omega, by omega, WZ.out.mono (by omega), (fun e => by cases e), fun _ => ⟨w3.heap.size, 0, rfl, Y8.lt, by omega, fun j hj => Y8.cell (by omega)⟩⟩
      refine (moveDown_any wr.heap.size 0 (m + 2) (m + 2) _ _ (m + 2) Z 0 s w8 R8 (by omega) (Nat.le_refl _) (by omega) SZ8 hs (fun j _ => by simp)).mono ?_
      rintro e w9 ⟨rfl, X9, R9, O9, V9, W9, -⟩
      have HV9 := hid V9
      have T9 := (rb.trans (C8.mono sz0)).trans (O9.below sz0)
      have Q9 := O9.row (Nat.ne_of_lt lq) Q8
      clear V9 R8 Q8 Y8 SZ8
      go_wp2_with fail
      refine (trimmed_own w0.heap.size w5.heap.size l l Q (V Q 0 l) w9 Q9 (Nat.le_refl _) s5 WQ.out rfl (by omega)).mono ?_
      rintro e w10 ⟨⟨v10, k10, rfl, s10, l10⟩, hw10⟩
      subst hw10
      go_wp2_with fail
      refine (trimmed_own w0.heap.size wr.heap.size (m + 2) (m + 2) X9 (V Z 0 (m + 2) / 2 ^ s) w10 R9 (Nat.le_refl _) sz0 W9 HV9.out (by omega)).mono ?_
      rintro e w11 ⟨⟨v11, k11, rfl, s11, l11⟩, hw11⟩
      subst hw11
      go_wp2
      go_ret2
      exact ⟨v10, v11, k10, k11, _, _, rfl, s10.nz, s11.nz, FF.out.1, FF.out.2.1, FF.out.2.2, by omega, l11, T9⟩
    | succ k =>
      obtain ⟨r1, r2, r3, rb, rA, rlt, rz, rw1, rw2⟩ := hr.out
      have gq : wr.cell? ⟨w5.heap.size, k, none⟩ = some (.int .u64 (Q k)) := r3.cell (by omega)
      have hXd := hid (V_low Z k (m + 2))
      have SLd : SlN w3.heap.size wr (.slice (some ⟨w0.heap.size, 0, none⟩) (m + 2) (m + 2)) (m + 2) X1 0 :=
        ⟨_, _, rfl, Nat.le_refl _, by omega, W2.mono (by omega), (fun e => by cases e), fun _ => ⟨w0.heap.size, 0, rfl, r1.lt, G12.out, fun j hj => r1.cell (by omega)⟩⟩
      have wd3 : Wd Z k (m + 3) := fun j hj => by have := rw1 (k + j) (by omega); rwa [Nat.zero_add] at this
      have hlt3 : V Z k (m + 3) < V X1 0 (m + 2) * 18446744073709551616 := by
        have e1 : V Z k (m + 3) = Z k + 18446744073709551616 * V Z (k + 1) (m + 2) := hXd.out
        have e2 := (wd3 0 (by omega)).2
        rw [Nat.add_zero] at e2
        omega
      have HR2 := hid r2
      have HR3 := hid r3
      have HLT := hid hlt3
      clear r1 r2 r3 rb rA rlt rz rw1 rw2 hlt3
      go_wp2_with fail
      rw [show k + (m + 2) + 1 - k = m + 3 by omega]
      refine (takeDigit_any w3.heap.size k (n + 1 - k) (n + 1) m w0.heap.size 0 (m + 2) Z X1 0 wr HR2.out (by omega) (by omega) (by omega) wd3 SLd NN.out.2.1 HLT.out).mono ?_
      rintro e w7 ⟨D, Z', rfl, R7, O7, e7, lt7, z7, W7, F7, d0, d1⟩
      have Q7 := O7.row (Ne.symm G23.out) HR3.out
      have gq7 := Q7.cell (show k < l by omega)
      have gf7 := Q7.frozen k
      have HS := hid (hr.out.step (by omega) hk G12.out G13.out G23.out s3 s5 R7 O7 e7 lt7 z7 W7 F7 d0 d1)
      clear R7 e7 lt7 z7 F7 gq
      go_wp2
      exact ⟨⟨k, Z', upd Q k D, by omega, rfl, HS⟩, by simp [intOf]⟩
end Go.Proofs.YtnaiahjgdakneaaGreatDoor
