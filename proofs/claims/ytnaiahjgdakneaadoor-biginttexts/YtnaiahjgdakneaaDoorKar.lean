/- What 'byHalves' and 'Karatsuba' answer: the product, by halves. -/
import Derived.Test.YtnaiahjgdakneaaDoorHlv
namespace Go.Proofs.YtnaiahjgdakneaaDoor
open Go.RowKit Num

/-- 'byHalves' is the product, of numbers of up to N words together. -/
def HalvesSaid (N cut : Nat) : Prop := ∀ (vx vy : Value) (n m : Nat) (a b : Int) (w : World), Nz w vx n a → Nz w vy m b → n + m ≤ N →
  Calls Tryd.prog 47 #[vx, vy, .int .i64 cut] w fun e w' => ∃ v k, e = .returned v ∧ NzF w.heap.size w' v k (a * b) ∧ k ≤ n + m ∧ Below w.heap.size w w'

theorem Nz.len_le {w : World} {v : Value} {k n : Nat} {a : Int} (h : Nz w v k a) (hab : a < P n) : k ≤ n := by
  obtain ⟨x, o, h1, h3, rfl⟩ := h
  apply Nat.le_of_not_lt
  intro hlt
  obtain ⟨j, rfl⟩ : ∃ j, k = j + 1 := ⟨k - 1, by omega⟩
  have := V_ge h1.wd (by rcases h3 with h | h; omega; simpa using h)
  have := P_le (show n ≤ j by omega)
  omega
theorem prod_lt {a b : Int} {n m : Nat} (ha : 0 ≤ a ∧ a < P n) (hb : 0 ≤ b ∧ b < P m) : a * b < P (n + m) := by
  rw [P_add]
  have h1 : a * b ≤ a * P m := Int.mul_le_mul_of_nonneg_left (by omega) ha.1
  have h2 : a * P m < P n * P m := Int.mul_lt_mul_of_pos_right ha.2 (P_pos m)
  omega
/-- what is added from place h on has room, if the sum of all has. -/
theorem seg_room {X : Nat → Int} {h r : Nat} {t c : Int} (hX : Wd X 0 h) (hV : V X 0 (h + r) = t) (hs : t + P h * c < P (h + r)) : V X h r + c < P r := by
  rw [V_split, Nat.zero_add] at hV
  rw [P_add] at hs
  have h0 := (V_bd h hX).1
  have hp := P_pos h
  apply Int.not_le.1
  intro hc
  have : P h * P r ≤ P h * (V X h r + c) := Int.mul_le_mul_of_nonneg_left hc (by omega)
  rw [Int.mul_add] at this
  omega
theorem seg_sum {X X' : Nat → Int} {h r : Nat} {t c : Int} (hV : V X 0 (h + r) = t) (ho : ∀ j, j < h → X' j = X j) (hs : V X' h r = V X h r + c) : V X' 0 (h + r) = t + P h * c := by
  rw [V_split, Nat.zero_add] at hV ⊢
  rw [hs, V_congr (y := X) (p := 0) h (fun j hj => by rw [Nat.zero_add]; exact ho j hj), ← hV, Int.mul_add]
  omega

theorem wd_shift {X : Nat → Int} {h r n : Nat} (hw : Wd X 0 n) (hn : h + r ≤ n) : Wd X h r := fun j hj => by have := hw (h + j) (by omega); rwa [Nat.zero_add] at this
theorem wd_join {X Y : Nat → Int} {h r n : Nat} (hw : Wd X h r) (hy : Wd Y 0 n) (ho : ∀ j, j < h ∨ h + r ≤ j → X j = Y j) : Wd X 0 n := fun j hj => by
  rw [Nat.zero_add]
  by_cases hin : h ≤ j ∧ j < h + r
  · obtain ⟨i, rfl⟩ := Nat.le.dest hin.1
    exact hw i (by omega)
  · rw [ho j (by omega)]; have := hy j hj; rwa [Nat.zero_add] at this

set_option maxHeartbeats 1600000 in
set_option maxRecDepth 100000 in
theorem halfByWhole_any (N cut : Nat) (IH : HalvesSaid N cut) (vx vy : Value) (n m hlf : Nat) (a b : Int) (w : World) (hx : Nz w vx n a) (hy : Nz w vy m b) (hN : n + m ≤ N + 1) (hb : n + m ≤ 1000000) (h0 : 0 < hlf) (hh : hlf < n) :
    Calls Tryd.prog 63 #[vx, vy, .int .i64 hlf, .int .i64 cut] w fun e w' => ∃ v k, e = .returned v ∧ NzF w.heap.size w' v k (a * b) ∧ k ≤ n + m ∧ Below w.heap.size w w' := by
  have HX := hid hx
  have HY := hid hy
  have HI := hid IH
  obtain ⟨-, -, ⟨ao, ca, rfl, -⟩, -⟩ := hx
  obtain ⟨-, -, ⟨bo, cb, rfl, -⟩, -⟩ := hy
  clear IH
  go_enter Tryd.func63, Tryd.ntmps63
  go_wp2_with fail
  refine (halves_any _ n hlf a w HX.out.nt h0 hh).mono ?_
  rintro e w1 ⟨⟨v1, v2, k1, k2, a1, a2, rfl, s1, s2, ea, l1, l2⟩, C1⟩
  have S1 := hid s1
  have S2 := hid s2
  have EA := hid ea
  have hs1 : w.heap.size ≤ w1.heap.size := C1.size
  clear s1 s2 ea
  go_wp2_with (first
    | (at_make; refine wp_make _ rfl _ _ rfl _ _ (n + m) rfl rfl (by omega) (by omega) (by omega) ?_; intro w2 R2 C2 Z2; have HZ := hid Z2; clear Z2; have T2 := C1.trans (C2.mono C1.size))
    | (go_at_call_of 47 v1; refine (HI.out _ _ k1 m a1 b w2 (S1.out.below T2) (HY.out.below T2) (by omega)).mono ?_; rintro e w3 ⟨v3, k3, rfl, s3, l3, C3⟩; have S3 := hid s3; clear s3; have T3 := T2.trans (C3.mono T2.size); have R3 := Below.row C3 R2.lt R2; obtain ⟨y3, p3, sl3, -, e3⟩ := S3.out.2 w1.heap.size (by rw [HZ.out]; omega); have E3 := hid e3; clear e3 R2)
    | (refine wp_copy w3 rfl (.tmp 24) (.tmp 28) rfl w1.heap.size 0 (n + m) (n + m) (n + m) (fun _ => 0) rfl _ rfl k3 y3 p3 sl3 R3 (by omega) (by omega) ?_; intro w4 R4 O4))
  have T4 := T3.trans (O4.below hs1)
  have hi1 : (hlf : Int) < (n : Int) + m := by omega
  have hz4 : w3.heap.size = w4.heap.size := O4.size.symm
  have HZ4 := hid hz4
  clear hz4
  have ha := hid (⟨HX.out.nt.nonneg, HX.out.nt.lt⟩ : 0 ≤ a ∧ a < P n)
  have hbb := hid (⟨HY.out.nt.nonneg, HY.out.nt.lt⟩ : 0 ≤ b ∧ b < P m)
  have V4 := hid (over_V (y := y3) (p := p3) (n := k3) (n + m) (by omega))
  have W4 := hid (over_wd (n + m) (show Wd y3 p3 k3 by obtain ⟨_, _, _, _, _, hw, _⟩ := sl3; exact hw))
  have hab := hid (show a * b = a1 * b + P hlf * (a2 * b) by rw [EA.out, Int.add_mul, Int.mul_assoc])
  generalize over (fun _ => 0) 0 k3 y3 p3 = X4 at R4 V4 W4
  go_region_with (first
    | (go_at_call_of 47 v2; go_must (refine (HI.out _ _ k2 m a2 b _ (S2.out.below T4.drew) (HY.out.below T4.drew) (by omega)).mono ?_; rintro e w5 ⟨v5, k5, rfl, s5, l5, C5⟩; have R5 := Below.row C5 R4.lt R4; obtain ⟨y5, p5, sl5, -, e5⟩ := s5.2 w1.heap.size R4.lt; have E5 := hid e5; have S5 := hid sl5; clear e5 s5 sl5; have T5 := T4.drew.trans (C5.mono (Nat.le_trans T4.size (Nat.le_refl _)))))
    | (go_at_call 58; go_must (refine (addTo_any w1.heap.size hlf (n + m - hlf) (n + m - hlf) (n + m) X4 _ k5 y5 p5 w5 R5 (by omega) (Nat.le_refl _) (by omega) (wd_shift W4.out (by omega)) S5.out (by omega) (by rw [E5.out]; exact seg_room (W4.out.mono (by omega)) (show V X4 0 (hlf + (n + m - hlf)) = a1 * b by rw [show hlf + (n + m - hlf) = n + m by omega, V4.out, E3.out]) (by rw [← hab.out, show hlf + (n + m - hlf) = n + m by omega]; exact prod_lt ha.out hbb.out))).mono ?_; rintro e w6 ⟨rfl, X6, R6, O6, V6, W6, F6⟩; have HV6 := hid V6; have HF6 := hid F6; clear V6 F6)))
  all_goals
    have VF : V X6 0 (n + m) = a * b := by
      have := seg_sum (show V X4 0 (hlf + (n + m - hlf)) = a1 * b by rw [show hlf + (n + m - hlf) = n + m by omega, V4.out, E3.out]) (fun j hj => HF6.out j (Or.inl hj)) (by rw [HV6.out, E5.out])
      rw [show hlf + (n + m - hlf) = n + m by omega, ← hab.out] at this
      exact this
    have WF : Wd X6 0 (n + m) := wd_join W6 W4.out HF6.out
    have HVF := hid VF
    clear VF
    go_wp2_with fail
    refine (trimmed_own w.heap.size w1.heap.size (n + m) (n + m) X6 (a * b) w6 R6 (Nat.le_refl _) hs1 WF HVF.out (by omega)).mono ?_
    rintro e w7 ⟨⟨v7, k7, rfl, s7, l7⟩, rfl⟩
    go_wp2
    go_ret
    exact ⟨v7, k7, rfl, s7.nzf, l7, T5.trans (O6.below hs1)⟩
/-- the middle of a product by halves. -/
theorem two_over {xl xh : Nat → Int} {ol oh k5 k6 h2 r : Nat} (h5 : k5 ≤ h2) (h6 : k6 ≤ r) : V (over (over (fun _ => 0) 0 k5 xl ol) h2 k6 xh oh) 0 (h2 + r) = V xl ol k5 + P h2 * V xh oh k6 := by
  rw [V_split, V_congr (y := over (fun _ => 0) 0 k5 xl ol) (p := 0) h2 (fun j hj => over_out (by omega)), over_V h2 h5, Nat.zero_add]
  obtain ⟨q, rfl⟩ := Nat.le.dest h6
  rw [V_split, V_congr (y := xh) (p := oh) k6 (fun j hj => over_in hj), V_zero (o := h2 + k6) q (fun j hj => by rw [over_out (by omega), over_out (by omega)])]
  simp
theorem two_over_wd {xl xh : Nat → Int} {ol oh k5 k6 h2 k : Nat} (h5 : Wd xl ol k5) (h6 : Wd xh oh k6) : Wd (over (over (fun _ => 0) 0 k5 xl ol) h2 k6 xh oh) 0 k := fun j hj => by
  rw [Nat.zero_add]
  by_cases hin : h2 ≤ j ∧ j < h2 + k6
  · obtain ⟨i, rfl⟩ := Nat.le.dest hin.1
    rw [over_in (by omega)]; exact h6 i (by omega)
  · rw [over_out (by omega)]; have := over_wd k h5 j hj; rwa [Nat.zero_add] at this
theorem mid_same {a1 a2 b1 b2 d1 d2 : Int} {f : Bool} (h1 : f = true → d1 = a1 - a2 ∧ a2 < a1) (h1' : f = false → d1 = a2 - a1 ∧ a1 ≤ a2) (h2 : f = true → d2 = b1 - b2 ∧ b2 < b1) (h2' : f = false → d2 = b2 - b1 ∧ b1 ≤ b2) :
    a1 * b1 + a2 * b2 - d1 * d2 = a1 * b2 + a2 * b1 := by
  cases f with
  | true => obtain ⟨rfl, _⟩ := h1 rfl; obtain ⟨rfl, _⟩ := h2 rfl; grind
  | false => obtain ⟨rfl, _⟩ := h1' rfl; obtain ⟨rfl, _⟩ := h2' rfl; grind
theorem mid_other {a1 a2 b1 b2 d1 d2 : Int} {f : Bool} (h1 : f = true → d1 = a1 - a2 ∧ a2 < a1) (h1' : f = false → d1 = a2 - a1 ∧ a1 ≤ a2) (h2 : (!f) = true → d2 = b1 - b2 ∧ b2 < b1) (h2' : (!f) = false → d2 = b2 - b1 ∧ b1 ≤ b2) :
    a1 * b1 + a2 * b2 + d1 * d2 = a1 * b2 + a2 * b1 := by
  cases f with
  | true => obtain ⟨rfl, _⟩ := h1 rfl; obtain ⟨rfl, _⟩ := h2' rfl; grind
  | false => obtain ⟨rfl, _⟩ := h1' rfl; obtain ⟨rfl, _⟩ := h2 rfl; grind
theorem prod_split {a1 a2 b1 b2 p : Int} : (a1 + p * a2) * (b1 + p * b2) = a1 * b1 + p * p * (a2 * b2) + p * (a1 * b2 + a2 * b1) := by grind

set_option maxHeartbeats 3200000 in
set_option maxRecDepth 100000 in
theorem halfByHalf_any (N cut : Nat) (IH : HalvesSaid N cut) (vx vy : Value) (n m hlf : Nat) (a b : Int) (w : World) (hx : Nz w vx n a) (hy : Nz w vy m b) (hN : n + m ≤ N + 1) (hb : n + m ≤ 1000000) (h0 : 0 < hlf) (hh : hlf < n) (hh' : hlf < m) (h2 : n ≤ 2 * hlf) (h3 : m ≤ 2 * hlf) :
    Calls Tryd.prog 64 #[vx, vy, .int .i64 hlf, .int .i64 cut] w fun e w' => ∃ v k, e = .returned v ∧ NzF w.heap.size w' v k (a * b) ∧ k ≤ n + m ∧ Below w.heap.size w w' := by
  have HX := hid hx
  have HY := hid hy
  have HI := hid IH
  obtain ⟨-, -, ⟨ao, ca, rfl, -⟩, -⟩ := hx
  obtain ⟨-, -, ⟨bo, cb, rfl, -⟩, -⟩ := hy
  clear IH
  go_enter Tryd.func64, Tryd.ntmps64
  go_wp2_with fail
  refine (halves_any _ n hlf a w HX.out.nt h0 hh).mono ?_
  rintro e w1 ⟨⟨v1, v2, k1, k2, a1, a2, rfl, s1, s2, ea, l1, l2⟩, C1⟩
  have S1 := hid s1
  have S2 := hid s2
  have EA := hid ea
  clear s1 s2 ea
  go_wp2_with fail
  refine (halves_any _ m hlf b w1 (HY.out.nt.below C1) h0 hh').mono ?_
  rintro e w2 ⟨⟨v3, v4, k3, k4, b1, b2, rfl, s3, s4, eb, l3, l4⟩, C2⟩
  have S3 := hid s3
  have S4 := hid s4
  have EB := hid eb
  have T2 := C1.trans (C2.mono C1.size)
  clear s3 s4 eb
  go_wp2_with fail
  refine (HI.out _ _ k1 k3 a1 b1 w2 (S1.out.below T2) (S3.out.below C2) (by omega)).mono ?_
  rintro e w3 ⟨v5, k5, rfl, s5, l5, C3⟩
  have S5 := hid s5.1
  have T3 := T2.trans (C3.mono T2.size)
  have U3 := C2.trans (C3.mono C2.size)
  clear s5
  go_wp2_with fail
  refine (HI.out _ _ k2 k4 a2 b2 w3 (S2.out.below T3) (S4.out.below U3) (by omega)).mono ?_
  rintro e w4 ⟨v6, k6, rfl, s6, l6, C4⟩
  have S6 := hid s6.1
  have T4 := T3.trans (C4.mono T3.size)
  have U4 := U3.trans (C4.mono U3.size)
  clear s6
  go_wp2_with fail
  refine (apart_any _ _ k1 k2 a1 a2 w4 (S1.out.below T4) (S2.out.below T4) (by omega) (by omega)).mono ?_
  rintro e w5 ⟨v7, k7, d1, f1, rfl, s7, p1, p1', l7, C5⟩
  have S7 := hid s7
  have P1 := hid p1
  have P1' := hid p1'
  have T5 := T4.trans (C5.mono T4.size)
  have U5 := U4.trans (C5.mono U4.size)
  clear s7 p1 p1'
  go_wp2_with fail
  refine (apart_any _ _ k3 k4 b1 b2 w5 (S3.out.below U5) (S4.out.below U5) (by omega) (by omega)).mono ?_
  rintro e w6 ⟨v8, k8, d2, f2, rfl, s8, p2, p2', l8, C6⟩
  have S8 := hid s8
  have P2 := hid p2
  have P2' := hid p2'
  have T6 := T5.trans (C6.mono T5.size)
  clear s8 p2 p2'
  go_wp2_with fail
  refine (HI.out _ _ k7 k8 d1 d2 w6 (S7.out.below C6) S8.out (by omega)).mono ?_
  rintro e w7 ⟨v9, k9, rfl, s9, l9, C7⟩
  have S9 := hid s9.1
  have T7 := T6.trans (C7.mono T6.size)
  have Q67 := C5.trans (C6.mono C5.size)
  have Q47 : Below w4.heap.size w4 w7 := Q67.trans (C7.mono Q67.size)
  have Q37 : Below w3.heap.size w3 w7 := C4.trans (Q47.mono C4.size)
  have L7 := hid (S5.out.below Q37)
  have H7 := hid (S6.out.below Q47)
  clear s9
  go_wp2_with fail
  refine (add_own _ _ k5 k6 (a1 * b1) (a2 * b2) w7 L7.out.nt H7.out.nt (by omega) (by omega)).mono ?_
  rintro e w8 ⟨v10, k10, rfl, s10, l10, C8⟩
  have T8 := T7.trans (C8.mono T7.size)
  have L8 := hid (L7.out.below C8)
  have H8 := hid (H7.out.below C8)
  have hf : f2 = f1 ∨ f2 = !f1 := by cases f1 <;> cases f2 <;> simp
  rcases hf with rfl | rfl
  · have hbq : (f2 == f2) = true := by simp
    have EM0 := mid_same P1.out P1'.out P2.out P2'.out
    have hle : d1 * d2 ≤ a1 * b1 + a2 * b2 := by
      have q1 := S1.out.nt.nonneg; have q2 := S2.out.nt.nonneg; have q3 := S3.out.nt.nonneg; have q4 := S4.out.nt.nonneg
      have := Int.mul_nonneg q1 q4; have := Int.mul_nonneg q2 q3
      omega
    have hlen : k9 ≤ k10 := S9.out.le_len s10.nz.nt hle
    obtain ⟨g, NN, X, rfl, R8, hkN, hg, W8, N8, V8, b8⟩ := s10
    obtain ⟨y9, p9, sl9, -, e9⟩ := S9.out
    have SL9 := hid (sl9.apart C8 hg)
    have E9 := hid e9
    have HV8 := hid V8
    have HM0 := hid EM0
    clear sl9 e9 V8 N8 EM0
    go_wp2_with fail
    refine (takeFrom_any g 0 k10 k10 NN X _ k9 y9 p9 w8 R8 (by omega) (Nat.le_refl _) b8 W8 SL9.out hlen (by rw [HV8.out, E9.out]; exact hle)).mono ?_
    rintro e w9 ⟨rfl, X9, R9, O9, V9, W9, -⟩
    have D9 := O9.below hg
    have HV9 := hid V9
    have T9 := T8.trans (D9.mono T7.size)
    have L9 := hid (L7.out.below (C8.trans D9))
    have H9 := hid (H7.out.below (C8.trans D9))
    clear V9 R8 W8
    go_wp2_with fail
    refine (trimmed_own w7.heap.size g k10 NN X9 (a1 * b2 + a2 * b1) w9 R9 hkN hg W9 (by rw [HV9.out, HV8.out, E9.out]; exact HM0.out) b8).mono ?_
    rintro e w10 ⟨⟨v11, k11, rfl, s11, l11⟩, rfl⟩
    have SM0 := hid s11.nz
    have HLo := hid L9.out
    have HHi := hid H9.out
    clear s11 L8 H8 L7 H7 L9 H9
    have sz := T9.size
    go_wp2_with (at_make; refine wp_make _ rfl _ _ rfl _ _ (n + m) rfl rfl (by omega) (by omega) (by omega) ?_; intro u1 R1 D1 Z1; have HZ1 := hid Z1; clear Z1; obtain ⟨xl, ol, sll, -, el⟩ := HLo.out; have EL := hid el; have SL := hid (sll.apart D1 (Nat.le_refl _)); obtain ⟨xh, oh, slh, -, eh⟩ := HHi.out; have EH := hid eh; have SH := hid (slh.apart D1 (Nat.le_refl _)); obtain ⟨xm, om, slm, -, em⟩ := SM0.out; have EM := hid em; have SM := hid (slm.apart D1 (Nat.le_refl _)); have WL := hid sll.wd; have WH := hid slh.wd; clear sll slh slm el eh em; go_wp2_with (first
      | (refine wp_copy u1 rfl (.tmp 78) (.tmp 79) rfl w10.heap.size 0 (n + m) (n + m) (n + m) (fun _ => 0) rfl _ rfl k5 xl ol SL.out R1 (by omega) (by omega) ?_; intro u2 R2 O2)
      | (refine wp_copy u2 rfl (.tmp 84) (.tmp 85) rfl w10.heap.size (2 * hlf) (n + m - 2 * hlf) (n + m - 2 * hlf) (n + m) _ rfl _ rfl k6 xh oh (SH.out.only O2) R2 (by omega) (by omega) ?_; intro u3 R3 O3)))
    have VX := hid (two_over (xl := xl) (ol := ol) (xh := xh) (oh := oh) (k5 := k5) (k6 := k6) (h2 := 2 * hlf) (r := n + m - 2 * hlf) (by omega) (by omega))
    have WX := hid (two_over_wd (h2 := 2 * hlf) (k := n + m) WL.out WH.out)
    generalize over (over (fun _ => 0) 0 k5 xl ol) (2 * hlf) k6 xh oh = X3 at R3 VX WX
    have EV : V X3 0 (n + m) = a1 * b1 + P hlf * P hlf * (a2 * b2) := by
      have := VX.out
      rw [show 2 * hlf + (n + m - 2 * hlf) = n + m by omega, EL.out, EH.out, show 2 * hlf = hlf + hlf by omega, P_add] at this
      exact this
    have EAB : a * b = a1 * b1 + P hlf * P hlf * (a2 * b2) + P hlf * (a1 * b2 + a2 * b1) := by rw [EA.out, EB.out]; exact prod_split
    have HPL := prod_lt (⟨HX.out.nt.nonneg, HX.out.nt.lt⟩ : 0 ≤ a ∧ a < P n) (⟨HY.out.nt.nonneg, HY.out.nt.lt⟩ : 0 ≤ b ∧ b < P m)
    have hroom : V X3 hlf (n + m - hlf) + (a1 * b2 + a2 * b1) < P (n + m - hlf) :=
      seg_room (WX.out.mono (by omega)) (show V X3 0 (hlf + (n + m - hlf)) = a1 * b1 + P hlf * P hlf * (a2 * b2) by rw [show hlf + (n + m - hlf) = n + m by omega]; exact EV) (by rw [← EAB, show hlf + (n + m - hlf) = n + m by omega]; exact HPL)
    have hkm : k11 ≤ n + m - hlf := by
      have := (V_bd (n + m - hlf) (wd_shift WX.out (show hlf + (n + m - hlf) ≤ n + m by omega))).1
      exact SM0.out.len_le (by omega)
    have HR := hid hroom
    have HEV := hid EV
    have HEAB := hid EAB
    clear hroom EV EAB HPL
    refine (addTo_any w10.heap.size hlf (n + m - hlf) (n + m - hlf) (n + m) X3 _ k11 xm om u3 R3 (by omega) (Nat.le_refl _) (by omega) (wd_shift WX.out (by omega)) ((SM.out.only O2).only O3) hkm (by rw [EM.out]; exact HR.out)).mono ?_
    rintro e u4 ⟨rfl, X4, R4, O4, V4, W4, F4⟩
    have VF : V X4 0 (n + m) = a * b := by
      have := seg_sum (show V X3 0 (hlf + (n + m - hlf)) = a1 * b1 + P hlf * P hlf * (a2 * b2) by rw [show hlf + (n + m - hlf) = n + m by omega]; exact HEV.out) (fun j hj => F4 j (Or.inl hj)) (show V X4 hlf (n + m - hlf) = _ + (a1 * b2 + a2 * b1) by rw [V4, EM.out])
      rw [show hlf + (n + m - hlf) = n + m by omega, ← HEAB.out] at this
      exact this
    have WF : Wd X4 0 (n + m) := wd_join W4 WX.out F4
    have HVF := hid VF
    have TF := (T9.trans (D1.mono sz)).trans (((O2.trans O3).trans O4).below sz)
    clear VF V4 F4 R3
    go_wp2_with fail
    refine (trimmed_own w.heap.size w10.heap.size (n + m) (n + m) X4 (a * b) u4 R4 (Nat.le_refl _) sz WF HVF.out (by omega)).mono ?_
    rintro e u5 ⟨⟨v20, k20, rfl, s20, l20⟩, rfl⟩
    go_wp2
    go_ret
    exact ⟨v20, k20, rfl, s20.nzf, l20, TF⟩
  · have hbq : (f1 == !f1) = false := by cases f1 <;> rfl
    have HM0 := hid (mid_other P1.out P1'.out P2.out P2'.out)
    have SO := hid s10.nz
    clear s10
    obtain ⟨-, -, ⟨mo, mc, rfl, -⟩, -⟩ := SO.out
    go_wp2_with fail
    refine (add_any _ _ k10 k9 (a1 * b1 + a2 * b2) (d1 * d2) w8 SO.out.nt (S9.out.nt.below C8) (by omega) (by omega)).mono ?_
    rintro e w9 ⟨v11, k11, rfl, s11, l11, C9⟩
    have SM0 : Hid (Nz w9 v11 k11 (a1 * b2 + a2 * b1)) := by have := s11; rw [HM0.out] at this; exact this
    have T9 := T8.trans (C9.mono T8.size)
    have HLo := hid (L8.out.below C9)
    have HHi := hid (H8.out.below C9)
    clear s11 L8 H8 L7 H7
    have sz := T9.size
    go_wp2_with (at_make; refine wp_make _ rfl _ _ rfl _ _ (n + m) rfl rfl (by omega) (by omega) (by omega) ?_; intro u1 R1 D1 Z1; have HZ1 := hid Z1; clear Z1; obtain ⟨xl, ol, sll, -, el⟩ := HLo.out; have EL := hid el; have SL := hid (sll.apart D1 (Nat.le_refl _)); obtain ⟨xh, oh, slh, -, eh⟩ := HHi.out; have EH := hid eh; have SH := hid (slh.apart D1 (Nat.le_refl _)); obtain ⟨xm, om, slm, -, em⟩ := SM0.out; have EM := hid em; have SM := hid (slm.apart D1 (Nat.le_refl _)); have WL := hid sll.wd; have WH := hid slh.wd; clear sll slh slm el eh em; go_wp2_with (first
      | (refine wp_copy u1 rfl (.tmp 78) (.tmp 79) rfl w9.heap.size 0 (n + m) (n + m) (n + m) (fun _ => 0) rfl _ rfl k5 xl ol SL.out R1 (by omega) (by omega) ?_; intro u2 R2 O2)
      | (refine wp_copy u2 rfl (.tmp 84) (.tmp 85) rfl w9.heap.size (2 * hlf) (n + m - 2 * hlf) (n + m - 2 * hlf) (n + m) _ rfl _ rfl k6 xh oh (SH.out.only O2) R2 (by omega) (by omega) ?_; intro u3 R3 O3)))
    have VX := hid (two_over (xl := xl) (ol := ol) (xh := xh) (oh := oh) (k5 := k5) (k6 := k6) (h2 := 2 * hlf) (r := n + m - 2 * hlf) (by omega) (by omega))
    have WX := hid (two_over_wd (h2 := 2 * hlf) (k := n + m) WL.out WH.out)
    generalize over (over (fun _ => 0) 0 k5 xl ol) (2 * hlf) k6 xh oh = X3 at R3 VX WX
    have EV : V X3 0 (n + m) = a1 * b1 + P hlf * P hlf * (a2 * b2) := by
      have := VX.out
      rw [show 2 * hlf + (n + m - 2 * hlf) = n + m by omega, EL.out, EH.out, show 2 * hlf = hlf + hlf by omega, P_add] at this
      exact this
    have EAB : a * b = a1 * b1 + P hlf * P hlf * (a2 * b2) + P hlf * (a1 * b2 + a2 * b1) := by rw [EA.out, EB.out]; exact prod_split
    have HPL := prod_lt (⟨HX.out.nt.nonneg, HX.out.nt.lt⟩ : 0 ≤ a ∧ a < P n) (⟨HY.out.nt.nonneg, HY.out.nt.lt⟩ : 0 ≤ b ∧ b < P m)
    have hroom : V X3 hlf (n + m - hlf) + (a1 * b2 + a2 * b1) < P (n + m - hlf) :=
      seg_room (WX.out.mono (by omega)) (show V X3 0 (hlf + (n + m - hlf)) = a1 * b1 + P hlf * P hlf * (a2 * b2) by rw [show hlf + (n + m - hlf) = n + m by omega]; exact EV) (by rw [← EAB, show hlf + (n + m - hlf) = n + m by omega]; exact HPL)
    have hkm : k11 ≤ n + m - hlf := by
      have := (V_bd (n + m - hlf) (wd_shift WX.out (show hlf + (n + m - hlf) ≤ n + m by omega))).1
      exact SM0.out.len_le (by omega)
    have HR := hid hroom
    have HEV := hid EV
    have HEAB := hid EAB
    clear hroom EV EAB HPL
    refine (addTo_any w9.heap.size hlf (n + m - hlf) (n + m - hlf) (n + m) X3 _ k11 xm om u3 R3 (by omega) (Nat.le_refl _) (by omega) (wd_shift WX.out (by omega)) ((SM.out.only O2).only O3) hkm (by rw [EM.out]; exact HR.out)).mono ?_
    rintro e u4 ⟨rfl, X4, R4, O4, V4, W4, F4⟩
    have VF : V X4 0 (n + m) = a * b := by
      have := seg_sum (show V X3 0 (hlf + (n + m - hlf)) = a1 * b1 + P hlf * P hlf * (a2 * b2) by rw [show hlf + (n + m - hlf) = n + m by omega]; exact HEV.out) (fun j hj => F4 j (Or.inl hj)) (show V X4 hlf (n + m - hlf) = _ + (a1 * b2 + a2 * b1) by rw [V4, EM.out])
      rw [show hlf + (n + m - hlf) = n + m by omega, ← HEAB.out] at this
      exact this
    have WF : Wd X4 0 (n + m) := wd_join W4 WX.out F4
    have HVF := hid VF
    have TF := (T9.trans (D1.mono sz)).trans (((O2.trans O3).trans O4).below sz)
    clear VF V4 F4 R3
    go_wp2_with fail
    refine (trimmed_own w.heap.size w9.heap.size (n + m) (n + m) X4 (a * b) u4 R4 (Nat.le_refl _) sz WF HVF.out (by omega)).mono ?_
    rintro e u5 ⟨⟨v20, k20, rfl, s20, l20⟩, rfl⟩
    go_wp2
    go_ret
    exact ⟨v20, k20, rfl, s20.nzf, l20, TF⟩
end Go.Proofs.YtnaiahjgdakneaaDoor
