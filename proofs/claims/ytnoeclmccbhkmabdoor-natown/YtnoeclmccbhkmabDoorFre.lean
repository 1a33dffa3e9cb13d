/- Numbers that Shl, Shr and DivMod answer lie in memory of their own, which may be written. -/
import Derived.Test.YtnoeclmccbhkmabDoorLong
import Derived.Test.YtnoeclmccbhkmabDoorMovb
import Derived.Lib.ItoaNum
namespace Go.Proofs.YtnoeclmccbhkmabDoor
open Go.RowKit Num
theorem P_two : ∀ j, P j = ((2 ^ (64 * j) : Nat) : Int)
  | 0 => by simp [P]
  | j + 1 => by
    rw [P, P_two j, show 64 * (j + 1) = 64 * j + 64 by omega, Nat.pow_add, Int.natCast_mul]
    rfl
theorem up_value {X Y : Nat → Int} {p q k r : Nat} (h0 : ∀ j, j < q → X j = 0) (hv : V X q (k + 1) = V Y p k * 2 ^ r) : V X 0 (q + (k + 1)) = V Y p k * 2 ^ (64 * q + r) := by
  rw [V_split X 0 q (k + 1), V_zero q (fun j hj => by rw [Nat.zero_add]; exact h0 j hj), Nat.zero_add, hv, P_two, Int.pow_add, Int.natCast_pow]
  have e : ((2 : Nat) : Int) ^ (64 * q) = 2 ^ (64 * q) := rfl
  rw [e]
  generalize (2 : Int) ^ (64 * q) = c
  generalize (2 : Int) ^ r = d
  generalize V Y p k = z
  grind
theorem up_wd {X : Nat → Int} {q k : Nat} (h0 : ∀ j, j < q → X j = 0) (h : Wd X q (k + 1)) : Wd X 0 (q + (k + 1)) := by
  intro j hj
  rw [Nat.zero_add]
  by_cases e : j < q
  · rw [h0 j e]; decide
  · have := h (j - q) (by omega)
    rwa [show q + (j - q) = j by omega] at this
theorem down_value {x : Nat → Int} {o q k r : Nat} (hw : Wd x o (q + k)) : V x (o + q) k / 2 ^ r = V x o (q + k) / 2 ^ (64 * q + r) := by
  have hb := V_bd q (hw.mono (by omega))
  rw [V_split x o q k, Int.pow_add]
  have e : (2 : Int) ^ (64 * q) = P q := by rw [P_two, Int.natCast_pow]; rfl
  rw [e]
  have hp := P_pos q
  rw [← Int.ediv_ediv_of_nonneg (by omega), Int.add_mul_ediv_left _ _ (by omega), Int.ediv_eq_zero_of_lt hb.1 hb.2, Int.zero_add]
/-- a slice of words in memory from block B on, which may be written. -/
def Fr (B : Nat) (w : World) (v : Value) : Prop := ∃ ao k c, v = .slice ao k c ∧ k ≤ c ∧ c ≤ 9223372036854775807 ∧ (0 < k → ∃ g N X, ao = some ⟨g, 0, none⟩ ∧ Row w g N X ∧ k ≤ N ∧ B ≤ g)
theorem Fr.nil (B : Nat) (w : World) : Fr B w (.slice none 0 0) := ⟨none, 0, 0, rfl, Nat.le_refl _, by decide, fun h => absurd h (by decide)⟩
theorem Own.fr {B : Nat} {w : World} {v : Value} {k : Nat} {a : Int} (h : Own B w v k a) : Fr B w v := by
  obtain ⟨g, N, X, rfl, h1, h2, h3, h4, h5, h6, h7⟩ := h
  exact ⟨_, k, k, rfl, Nat.le_refl _, h7, fun _ => ⟨g, N, X, rfl, h1, h2, h3⟩⟩
theorem Fr.row {B : Nat} {w : World} {g k N : Nat} {X : Nat → Int} (h : Row w g N X) (hk : k ≤ N) (hB : B ≤ g) (hb : k ≤ 9223372036854775807) : Fr B w (.slice (some ⟨g, 0, none⟩) k k) :=
  ⟨_, k, k, rfl, Nat.le_refl _, hb, fun _ => ⟨g, N, X, rfl, h, hk, hB⟩⟩
theorem Fr.below {B : Nat} {w w' : World} {v : Value} (h : Fr B w v) (hb : Below w.heap.size w w') : Fr B w' v := by
  obtain ⟨ao, k, c, rfl, h1, h2, h3⟩ := h
  refine ⟨ao, k, c, rfl, h1, h2, fun hk => ?_⟩
  obtain ⟨g, N, X, e, hr, h4, h5⟩ := h3 hk
  exact ⟨g, N, X, e, Below.row hb hr.lt hr, h4, h5⟩
theorem Fr.mono {B B' : Nat} {w : World} {v : Value} (h : Fr B w v) (hB : B' ≤ B) : Fr B' w v := by
  obtain ⟨ao, k, c, rfl, h1, h2, h3⟩ := h
  refine ⟨ao, k, c, rfl, h1, h2, fun hk => ?_⟩
  obtain ⟨g, N, X, e, hr, h4, h5⟩ := h3 hk
  exact ⟨g, N, X, e, hr, h4, by omega⟩
theorem Fr.set {B : Nat} {w : World} {v : Value} (h : Fr B w v) (g i : Nat) (u : Int) : Fr B (w.setCell ⟨g, i, none⟩ (.int .u64 u)) v := by
  obtain ⟨ao, k, c, rfl, h1, h2, h3⟩ := h
  refine ⟨ao, k, c, rfl, h1, h2, fun hk => ?_⟩
  obtain ⟨g', N, X, e, hr, h4, h5⟩ := h3 hk
  by_cases hg : g' = g
  · subst hg; exact ⟨g', N, _, e, hr.set i u, h4, h5⟩
  · exact ⟨g', N, X, e, ((Only.refl g w).set i (.int .u64 u)).row hg hr, h4, h5⟩
set_option maxHeartbeats 800000 in
set_option maxRecDepth 100000 in
theorem divWord_own (v : Value) (n : Nat) (a f : Int) (w : World) (h : Nt w v n a) (hn : n ≤ 100000000) (hf0 : 0 < f) (hf1 : f ≤ 18446744073709551615) :
    Calls Tryd.prog 34 #[v, .int .u64 f] w fun e w' => ∃ v' k q r, e = .returned (.tuple #[v', .int .u64 r, .int .i64 0]) ∧ Own w.heap.size w' v' k q ∧ q * f + r = a ∧ 0 ≤ r ∧ r < f ∧ k ≤ n ∧ Below w.heap.size w w' := by
  have H := hid (norm_any v n a w h hn)
  have hq : (f == 0) = false := beq_eq_false_iff_ne.2 (by omega)
  clear h
  go_enter Tryd.func34, Tryd.ntmps34
  go_wp2_with fail
  refine H.out.mono ?_
  rintro e w1 ⟨k, X, rfl, R1, W1, -, V1, l1, B1, Z1⟩
  have HZ := hid Z1
  have HV1 := hid V1
  clear H Z1 V1
  go_wp2_with fail
  refine (divBy_any w.heap.size 0 k k k X f w1 R1 (by omega) (Nat.le_refl _) (by omega) W1 hf0 hf1).mono ?_
  rintro e w2 ⟨r, X', rfl, R2, O2, V2, W2, -, r0, r1⟩
  have HV2 := hid V2
  clear V2
  go_wp2_with fail
  refine (trimmed_own w.heap.size w.heap.size k k X' _ w2 R2 (Nat.le_refl _) (Nat.le_refl _) W2 rfl (by omega)).mono ?_
  rintro e w3 ⟨⟨v', k', rfl, s3, l3⟩, rfl⟩
  go_wp2
  go_ret3
  exact ⟨v', k', _, r, rfl, s3, by rw [HV2.out, HV1.out], r0, r1, by omega, B1.trans (O2.below (Nat.le_refl _))⟩
def LongOwn : Prop := ∀ (vx vy : Value) (n m : Nat) (a b : Int) (w : World), Nz w vx n a → Nz w vy m b → n ≤ 100000000 → m ≤ 100000000 → 2 ≤ m → b ≤ a →
  Calls Tryd.prog 35 #[vx, vy] w fun e w' => ∃ v1 v2 k1 k2 q r, e = .returned (.tuple #[v1, v2]) ∧ Own w.heap.size w' v1 k1 q ∧ Own w.heap.size w' v2 k2 r ∧ q * b + r = a ∧ 0 ≤ r ∧ r < b ∧ k1 ≤ n ∧ k2 ≤ m ∧ Below w.heap.size w w'
set_option maxHeartbeats 3200000 in
set_option maxRecDepth 100000 in
theorem long_own : LongOwn := by
  intro vx vy n m0 a b w hx hy hn hm h2 hle
  obtain ⟨m, rfl⟩ : ∃ m, m0 = m + 2 := ⟨m0 - 2, by omega⟩
  have hnm : m + 2 ≤ n := hy.le_len hx.nt hle
  obtain ⟨l, hl⟩ : ∃ l, l + (m + 1) = n := ⟨n - (m + 1), by omega⟩
  have HA := hid hx.nt.nonneg
  obtain ⟨x, o, sx, nx, ex⟩ := hx
  obtain ⟨y, p, sy, ny, ey⟩ := hy
  have SX := hid sx
  have SY := hid sy
  have EX := hid ex
  have EY := hid ey
  have ht0 : y (p + (m + 1)) ≠ 0 := by rcases ny with h | h; omega; simpa using h
  obtain ⟨t0, t1⟩ := sy.wd (m + 1) (by omega)
  obtain ⟨s, hs, hsl, hs1, hs2⟩ := lead (y (p + (m + 1))) (by omega) t1
  have HSL := hid hsl
  have HS1 := hid hs1
  have HS2 := hid hs2
  obtain ⟨ao, ca, rfl, -⟩ := sx
  obtain ⟨bo, cb, rfl, y1, y2, -, -, y5⟩ := sy
  obtain ⟨by', oy, rfl, hby, hcy⟩ := y5 (by omega)
  have gt := hcy (m + 1) (by omega)
  have HK : Hid ((0 : Int) < 2 ^ s) := Int.pow_pos (by decide)
  clear nx ny ex ey hsl hs1 hs2 y5 hcy
  go_enter Tryd.func35, Tryd.ntmps35
  go_wp2_with (first
    | (go_at_call 54; refine (Tryd.bits_LeadingZeros64 _ _ t0 t1).mono ?_; rintro e w0 ⟨rfl, rfl⟩; rw [HSL.out])
    | (at_make; refine wp_make w0 rfl (.tmp 22) (.tmp 22) rfl _ _ (m + 3) rfl rfl (by omega) (by omega) (by omega) ?_; intro w1 R1 C1 Z1; have HZ1 := hid Z1; clear Z1))
  refine (moveUp_any w0.heap.size 0 (m + 3) (m + 3) _ _ (m + 2) y p s w1 R1 (by omega) (by omega) (by omega) (SY.out.apart C1 (Nat.le_refl _)) hs).mono ?_
  rintro e w2 ⟨rfl, X1, R2, O2, V2, W2, -, -⟩
  have NN := hid (normed HK.out SY.out.wd HS1.out HS2.out W2 V2)
  have T2 := C1.trans (O2.below (Nat.le_refl _))
  clear V2 R1
  go_wp2_with fail
  refine (trimmed_pos w0.heap.size 0 (m + 3) (m + 3) X1 0 w2 (Nat.le_refl _) (by omega) (fun j hj => by rw [Nat.zero_add]; exact R2.cell (by omega))).mono ?_
  rintro e w3 ⟨rfl, hw3⟩
  subst hw3
  rw [NN.out.2.2.2]
  go_wp2_with (at_make; refine wp_make w3 rfl (.tmp 32) (.tmp 32) rfl _ _ (n + 1) rfl rfl (by omega) (by omega) (by omega) ?_; intro w4 R4 C4 Z4; have HZ4 := hid Z4; clear Z4; have T4 := T2.trans (C4.mono T2.size); have Q2 := Below.row C4 R2.lt R2)
  refine (moveUp_any w3.heap.size 0 (n + 1) (n + 1) _ _ n x o s w4 R4 (by omega) (by omega) (by omega) (SX.out.apart T4 T2.size) hs).mono ?_
  rintro e w5 ⟨rfl, X2, R5, O5, V5, W5, -, L5⟩
  have T5 := T4.trans (O5.below T2.size)
  have HV5 := hid V5
  have HL5 := hid L5
  have Q5 := O5.row (Nat.ne_of_lt R2.lt) Q2
  clear V5 L5 R4 Q2
  go_wp2_with (at_make; refine wp_make w5 rfl (.tmp 42) (.tmp 42) rfl _ _ l rfl rfl (by omega) (by omega) (by omega) ?_; intro w6 R6 C6 Z6; have HZ6 := hid Z6; clear Z6; have T6 := T5.trans (C6.mono T5.size); have Q6 := Below.row C6 Q5.lt Q5; have P6 := Below.row C6 R5.lt R5; have g12 : w0.heap.size ≠ w3.heap.size := Nat.ne_of_lt R2.lt; have g13 : w0.heap.size ≠ w5.heap.size := Nat.ne_of_lt Q5.lt; have g23 : w3.heap.size ≠ w5.heap.size := Nat.ne_of_lt R5.lt; have s3 : w0.heap.size ≤ w3.heap.size := T2.size; have s5 : w0.heap.size ≤ w5.heap.size := T5.size; have G12 := hid g12; have G13 := hid g13; have G23 := hid g23; clear Q5 R5 R2 g12 g13 g23)
  have HNN := NN.out
  have D0 := hid (start_lt W5 HL5.out hl HS2.out (by omega) HNN.2.1 W2)
  go_loopw [10] (fun i wr => ∃ (k : Nat) (Z Q : Nat → Int), k ≤ l ∧ i = .int .i64 ((k : Int) - 1) ∧ Hid (LongRel w0 w0.heap.size w3.heap.size w5.heap.size n m l X1 (a * 2 ^ s) (V X1 0 (m + 2)) k Z Q wr)) (fun i _ => (intOf i + 1).toNat)
  case atStart => exact ⟨l, X2, fun _ => 0, Nat.le_refl _, rfl, Q6, P6, R6, T6, by rw [HV5.out, EX.out]; simp [V], D0.out, (fun j h1 h2 => by omega), W5, (fun j _ => by simp)⟩
  case round =>
    clear Q6 P6 R6 HNN D0
    obtain ⟨k, Z, Q, hk, rfl, hr⟩ := hrel
    cases k with
    | zero =>
      obtain ⟨r1, r2, r3, rb, rA, rlt, rz, rw1, rw2⟩ := hr.out
      have hcut := V_cut (Z := Z) (k := 0) (r := m + 2) (N := n + 1) (by omega) rz
      have FF := hid (fin (K := 2 ^ s) (a := a) (b := b) (q := V Q 0 l) (R := V Z 0 (m + 2)) HK.out (by rw [rA, hcut, NN.out.2.2.1, EY.out]; simp [V, P]) (V_bd (m + 2) (rw1.mono (by omega))).1 (by rw [← EY.out, ← NN.out.2.2.1]; simpa using rlt))
      have sz0 : w0.heap.size ≤ wr.heap.size := rb.size
      have lz := r2.lt
      have lq := r3.lt
      have RZ := hid r2
      have RQ := hid r3
      have WZ := hid rw1
      have WQ := hid rw2
      clear r1 r2 r3 rA rlt rz rw1 rw2 hcut hr
      go_wp2_with (at_make; refine wp_make wr rfl (.tmp 65) (.tmp 65) rfl _ _ (m + 2) rfl rfl (by omega) (by omega) (by omega) ?_; intro w8 R8 C8 Z8; have HZ8 := hid Z8; clear Z8; have Y8 := Below.row C8 lz RZ.out; have Q8 := Below.row C8 lq RQ.out)
      have SZ8 : SlN wr.heap.size w8 (.slice (some ⟨w3.heap.size, 0, none⟩) (m + 2) (n + 1)) (m + 2) Z 0 :=
        ⟨_, _, rfl, by omega, by omega, WZ.out.mono (by omega), (fun e => by cases e), fun _ => ⟨w3.heap.size, 0, rfl, Y8.lt, by omega, fun j hj => Y8.cell (by omega)⟩⟩
      refine (moveDown_any wr.heap.size 0 (m + 2) (m + 2) _ _ (m + 2) Z 0 s w8 R8 (by omega) (Nat.le_refl _) (by omega) SZ8 hs (fun j _ => by simp)).mono ?_
      rintro e w9 ⟨rfl, X9, R9, O9, V9, W9, -⟩
      have HV9 := hid V9
      have T9 := (rb.trans (C8.mono sz0)).trans (O9.below sz0)
      have Q9 := O9.row (Nat.ne_of_lt lq) Q8
      clear V9 R8 Q8 Y8 SZ8
      go_wp2_with fail
      refine (trimmed_own w0.heap.size w5.heap.size l l Q (V Q 0 l) w9 Q9 (Nat.le_refl _) s5 WQ.out rfl (by omega)).mono ?_
      rintro e w10 ⟨⟨v10, k10, rfl, s10, l10⟩, hw10⟩
      subst hw10
      go_wp2_with fail
      refine (trimmed_own w0.heap.size wr.heap.size (m + 2) (m + 2) X9 (V Z 0 (m + 2) / 2 ^ s) w10 R9 (Nat.le_refl _) sz0 W9 HV9.out (by omega)).mono ?_
      rintro e w11 ⟨⟨v11, k11, rfl, s11, l11⟩, hw11⟩
      subst hw11
      go_wp2
      go_ret2
      exact ⟨v10, v11, k10, k11, _, _, rfl, s10, s11, FF.out.1, FF.out.2.1, FF.out.2.2, by omega, l11, T9⟩
    | succ k =>
      obtain ⟨r1, r2, r3, rb, rA, rlt, rz, rw1, rw2⟩ := hr.out
      have gq : wr.cell? ⟨w5.heap.size, k, none⟩ = some (.int .u64 (Q k)) := r3.cell (by omega)
      have hXd := hid (V_low Z k (m + 2))
      have SLd : SlN w3.heap.size wr (.slice (some ⟨w0.heap.size, 0, none⟩) (m + 2) (m + 2)) (m + 2) X1 0 :=
        ⟨_, _, rfl, Nat.le_refl _, by omega, W2.mono (by omega), (fun e => by cases e), fun _ => ⟨w0.heap.size, 0, rfl, r1.lt, G12.out, fun j hj => r1.cell (by omega)⟩⟩
      have wd3 : Wd Z k (m + 3) := fun j hj => by have := rw1 (k + j) (by omega); rwa [Nat.zero_add] at this
      have hlt3 : V Z k (m + 3) < V X1 0 (m + 2) * 18446744073709551616 := by
        have e1 : V Z k (m + 3) = Z k + 18446744073709551616 * V Z (k + 1) (m + 2) := hXd.out
        have e2 := (wd3 0 (by omega)).2
        rw [Nat.add_zero] at e2
        omega
      have HR2 := hid r2
      have HR3 := hid r3
      have HLT := hid hlt3
      clear r1 r2 r3 rb rA rlt rz rw1 rw2 hlt3
      go_wp2_with fail
      rw [show k + (m + 2) + 1 - k = m + 3 by omega]
      refine (takeDigit_any w3.heap.size k (n + 1 - k) (n + 1) m w0.heap.size 0 (m + 2) Z X1 0 wr HR2.out (by omega) (by omega) (by omega) wd3 SLd NN.out.2.1 HLT.out).mono ?_
      rintro e w7 ⟨D, Z', rfl, R7, O7, e7, lt7, z7, W7, F7, d0, d1⟩
      have Q7 := O7.row (Ne.symm G23.out) HR3.out
      have gq7 := Q7.cell (show k < l by omega)
      have gf7 := Q7.frozen k
      have HS := hid (hr.out.step (by omega) hk G12.out G13.out G23.out s3 s5 R7 O7 e7 lt7 z7 W7 F7 d0 d1)
      clear R7 e7 lt7 z7 F7 gq
      go_wp2
      exact ⟨⟨k, Z', upd Q k D, by omega, rfl, HS⟩, by simp [intOf]⟩
set_option maxHeartbeats 800000 in
set_option maxRecDepth 100000 in
theorem divMod_own (vx vy : Value) (n m : Nat) (a b : Int) (w : World) (hx : Nt w vx n a) (hy : Nt w vy m b) (hn : n ≤ 100000000) (hm : m ≤ 100000000) (hb : 0 < b) :
    Calls Tryd.prog 13 #[vx, vy] w fun e w' => ∃ v1 v2, e = .returned (.tuple #[v1, v2, .int .i64 0]) ∧ Fr w.heap.size w' v1 ∧ Fr w.heap.size w' v2 ∧ Below w.heap.size w w' := by
  have Hx := hid (trimmed_nt vx n a w hx)
  have Hy := hid (trimmed_nt vy m b w hy)
  clear hx hy
  go_enter Tryd.func13, Tryd.ntmps13
  go_wp2_with fail
  refine Hx.out.mono ?_
  rintro e w' ⟨⟨v1, n', rfl, s1, l1⟩, rfl⟩
  go_wp2_with fail
  refine Hy.out.mono ?_
  rintro e w' ⟨⟨v2, m', rfl, s2, l2⟩, rfl⟩
  clear Hx Hy
  have hm0 : m' ≠ 0 := fun h => by have := s2.len.1.2 h; omega
  have hq : ((m' : Int) == 0) = false := beq_eq_false_iff_ne.2 (by omega)
  have S1 := hid s1
  have S2 := hid s2
  obtain ⟨x, o, ⟨ao, c1, rfl, -⟩, -⟩ := s1
  obtain ⟨y, p, ⟨bo, c2, rfl, y1, y2, y3, y4, y5⟩, yn, ye⟩ := s2
  have YE := hid ye
  clear yn ye y4
  by_cases hlt : a < b
  · have hc := cmpI_lt hlt
    clear y5 y3
    go_wp2_with fail
    refine (cmp_nt _ _ n' m' a b _ S1.out.nt S2.out.nt).mono ?_
    rintro e w1 ⟨rfl, i, rfl⟩
    rw [hc]
    go_wp2_with fail
    refine (norm_any _ n' a _ (S1.out.nt.drewN i) (by omega)).mono ?_
    rintro e w2 ⟨k, X, rfl, R1, W1, N1, V1, l3, B1, -⟩
    have HV1 := hid V1
    clear V1
    go_wp2
    go_ret3
    exact ⟨_, _, rfl, Fr.nil _ _, Fr.row R1 (Nat.le_refl _) (Nat.le_refl _) (by omega), Below.drewN' i B1⟩
  · have hc := cmpI_ge hlt
    have hcb : decide (cmpI a b < 0) = false := by simpa using hc
    by_cases hm1 : m' = 1
    · subst hm1
      obtain ⟨b0, off, rfl, hb0, hcy⟩ := y5 (by omega)
      have hc0 := hcy 0 (by omega)
      obtain ⟨f0, f1⟩ := y3 0 (by omega)
      have hby : y (p + 0) = b := by have := YE.out; simpa [V, P] using this
      rw [hby] at hc0 f0 f1
      rw [Nat.add_zero] at hc0
      clear y5 y3 hcy hby
      go_wp2_with fail
      refine (cmp_nt _ _ n' 1 a b _ S1.out.nt S2.out.nt).mono ?_
      rintro e w1 ⟨rfl, i, rfl⟩
      go_wp2_with fail
      refine (divWord_own _ n' a b _ (S1.out.nt.drewN i) (by omega) hb f1).mono ?_
      rintro e w2 ⟨v', k, q, r, rfl, s3, e3, r0, r1, l3, B1⟩
      have HE3 := hid e3
      clear e3
      go_wp2_with fail
      refine (norm_any _ 1 r _ (Nt.one w2 r r0 (by omega)) (by omega)).mono ?_
      rintro e w3 ⟨k2, X, rfl, R2, W2, N2, V2, l4, B2, -⟩
      have HV2 := hid V2
      clear V2
      go_wp2
      go_ret3
      have R2' : Row w3 (w2.heap.size + 1) k2 X := by simpa using R2
      have B3 : Below w2.heap.size w2 w3 := (((Below.refl _ _).alloc (Nat.le_refl _) _).trans (B2.mono (by simp)))
      exact ⟨v', _, rfl, s3.fr.below B3, Fr.row R2' (Nat.le_refl _) (by have := B1.size; exact Nat.le_trans this (Nat.le_succ _)) (by omega), (Below.drewN' i B1).trans (B3.mono B1.size)⟩
    · have hq1 : ((m' : Int) == 1) = false := beq_eq_false_iff_ne.2 (by omega)
      have HL' : Hid LongOwn := long_own
      clear y5 y3
      go_wp2_with fail
      refine (cmp_nt _ _ n' m' a b _ S1.out.nt S2.out.nt).mono ?_
      rintro e w1 ⟨rfl, i, rfl⟩
      go_wp2_with fail
      refine (HL'.out _ _ n' m' a b _ (S1.out.drewN i) (S2.out.drewN i) (by omega) (by omega) (by omega) (by omega)).mono ?_
      rintro e w2 ⟨v1, v2, k1, k2, q, r, rfl, s3, s4, e3, r0, r1, l3, l4, B1⟩
      have HE3 := hid e3
      clear e3
      go_wp2
      go_ret3
      exact ⟨v1, v2, rfl, s3.fr, s4.fr, Below.drewN' i B1⟩
set_option maxHeartbeats 800000 in
set_option maxRecDepth 100000 in
theorem shl_own (v : Value) (n : Nat) (a : Int) (s q r : Nat) (w : World) (h : Nt w v n a) (hn : n ≤ 1000) (hs : s = 64 * q + r) (hr : r ≤ 63) (hs2 : s ≤ 1000) :
    Calls Tryd.prog 19 #[v, .int .i64 s] w fun e w' => ∃ v', e = .returned (.tuple #[v', .int .i64 0]) ∧ Fr w.heap.size w' v' ∧ Below w.heap.size w w' := by
  have H := hid (trimmed_nt v n a w h)
  have g1 : ¬ (s : Int) < 0 := by omega
  have g2 : ¬ (262144 : Int) < (s : Int) := by omega
  have dq : (s : Int) / 64 = (q : Int) := by omega
  have dq2 : (s : Int).tdiv 64 = (q : Int) := by rw [Int.tdiv_eq_ediv_of_nonneg (by omega)]; omega
  have dr : (s : Int) % 64 = (r : Int) := by omega
  have dr2 : (s : Int).tmod 64 = (r : Int) := by rw [Int.tmod_eq_emod_of_nonneg (by omega)]; omega
  clear h
  go_enter Tryd.func19, Tryd.ntmps19
  go_wp2_with fail
  refine H.out.mono ?_
  rintro e w1 ⟨⟨v', k, rfl, hz, hk⟩, rfl⟩
  obtain ⟨x, o, sl, hnm, hv⟩ := hz
  have SL := hid sl
  have HV := hid hv
  obtain ⟨ao, cap, rfl, -⟩ := sl
  clear hnm hv
  go_wp2_with (at_make; refine wp_make w1 rfl _ _ rfl _ _ (q + (k + 1)) rfl rfl (by omega) (by omega) (by omega) ?_; intro w2 R2 C2 Z2; have HZ := hid Z2; clear Z2)
  rw [show (64 * q + r) / 64 = q by omega, show q + (k + 1) - q = k + 1 by omega, show (r : Int) % 64 = (r : Int) by omega]
  refine (moveUp_any w1.heap.size q (k + 1) (q + (k + 1)) _ _ k x o r w2 R2 (by omega) (by omega) (by omega) (SL.out.apart C2 (Nat.le_refl _)) hr).mono ?_
  rintro e w3 ⟨rfl, X3, R3, O3, V3, W3, F3, -⟩
  have hz0 : ∀ j, j < q → X3 j = 0 := fun j hj => F3 j (Or.inl hj)
  have HV3 := hid (up_value hz0 V3)
  have HW3 := hid (up_wd hz0 W3)
  have T3 := C2.trans (O3.below (Nat.le_refl _))
  clear V3 F3 hz0 R2
  go_wp2_with fail
  refine (trimmed_own w1.heap.size w1.heap.size (q + (k + 1)) (q + (k + 1)) X3 _ w3 R3 (Nat.le_refl _) (Nat.le_refl _) HW3.out HV3.out (by omega)).mono ?_
  rintro e w4 ⟨⟨v4, k4, rfl, s4, l4⟩, rfl⟩
  have S4 := hid s4.fr
  obtain ⟨bo, cb, kb, rfl, _⟩ := s4.fr
  clear s4
  go_wp2
  go_ret2
  exact ⟨_, rfl, S4.out, T3⟩
set_option maxHeartbeats 800000 in
set_option maxRecDepth 100000 in
theorem shr_own (v : Value) (n : Nat) (a : Int) (s q r : Nat) (w : World) (h : Nt w v n a) (hn : n ≤ 1000) (hs : s = 64 * q + r) (hr : r ≤ 63) (hs2 : s ≤ 1000) :
    Calls Tryd.prog 20 #[v, .int .i64 s] w fun e w' => ∃ v', e = .returned (.tuple #[v', .int .i64 0]) ∧ Fr w.heap.size w' v' ∧ Below w.heap.size w w' := by
  have H := hid (trimmed_nt v n a w h)
  have g1 : ¬ (s : Int) < 0 := by omega
  clear h
  go_enter Tryd.func20, Tryd.ntmps20
  go_wp2_with fail
  refine H.out.mono ?_
  rintro e w1 ⟨⟨v', k, rfl, hz, hk⟩, rfl⟩
  by_cases hge : k ≤ q
  · obtain ⟨_, _, ⟨ao, cap, rfl, _⟩, _⟩ := hz
    have g2 : (k : Int) ≤ (s : Int) / 64 := by omega
    clear H
    go_wp2
    go_ret2
    exact ⟨.slice none 0 0, rfl, Fr.nil _ _, Below.refl _ _⟩
  · obtain ⟨m, rfl⟩ : ∃ m, k = q + m := ⟨k - q, by omega⟩
    obtain ⟨x, o, sl, hnm, hv⟩ := hz
    have hwd := sl.wd
    obtain ⟨ao, cap, rfl, s1, s2, s3, s4, s5⟩ := sl
    obtain ⟨b, off, rfl, hb, hc⟩ := s5 (by omega)
    have SD : Hid (Sl w1 (.slice (some ⟨b, off + q, none⟩) m (cap - q)) m x (o + q)) := ⟨_, _, rfl, by omega, by omega, (fun j hj => by have := hwd (q + j) (by omega); rwa [← Nat.add_assoc] at this), (fun e => by cases e), fun _ => ⟨b, off + q, rfl, hb, fun j hj => by have := hc (q + j) (by omega); rwa [← Nat.add_assoc, ← Nat.add_assoc] at this⟩⟩
    have DV := hid (down_value (r := r) hwd)
    rw [hv, ← hs] at DV
    have g2 : ¬ ((q + m : Nat) : Int) ≤ (s : Int) / 64 := by omega
    clear hnm hv hwd s3 s4 s5 hc H
    go_wp2_with (at_make; refine wp_make w1 rfl _ _ rfl _ _ m rfl rfl (by omega) (by omega) (by omega) ?_; intro w2 R2 C2 Z2; have HZ := hid Z2; clear Z2)
    rw [show (64 * q + r) / 64 = q by omega, show q + m - q = m by omega, show (r : Int) % 64 = (r : Int) by omega]
    refine (moveDown_any w1.heap.size 0 m m _ _ m x (o + q) r w2 R2 (by omega) (Nat.le_refl _) (by omega) (SD.out.apart C2 (Nat.le_refl _)) hr (fun j _ => by decide)).mono ?_
    rintro e w3 ⟨rfl, X3, R3, O3, V3, W3, -⟩
    have HV3 := hid (V3.trans DV.out)
    have T3 := C2.trans (O3.below (Nat.le_refl _))
    have HW3 := hid W3
    clear V3 R2 W3
    go_wp2_with fail
    refine (trimmed_own w1.heap.size w1.heap.size m m X3 _ w3 R3 (Nat.le_refl _) (Nat.le_refl _) HW3.out HV3.out (by omega)).mono ?_
    rintro e w4 ⟨⟨v4, k4, rfl, s4, l4⟩, rfl⟩
    have S4 := hid s4.fr
    obtain ⟨bo, cb, kb, rfl, _⟩ := s4.fr
    clear s4
    go_wp2
    go_ret2
    exact ⟨_, rfl, S4.out, T3⟩
end Go.Proofs.YtnoeclmccbhkmabDoor
