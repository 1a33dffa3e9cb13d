/- What 'wordAt', 'gcdOfWords' and 'timesLess' answer. -/
import Derived.Test.YtnaiahjgdakneaaGreatDoorMovb
import Derived.Test.YtnaiahjgdakneaaGreatDoorDivm
import Derived.Test.YtnaiahjgdakneaaGreatDoorLeh
namespace Go.Proofs.YtnaiahjgdakneaaGreatDoor
open Go.RowKit Num

/-- word j of a number, or 0 behind its end. -/
def wy (y : Nat → Int) (p m j : Nat) : Int := if j < m then y (p + j) else 0
set_option maxHeartbeats 400000 in
theorem wordAt_any (v : Value) (m : Nat) (y : Nat → Int) (p : Nat) (i : Int) (j : Nat) (w : World) (h : Sl w v m y p) (hij : i = (j : Int)) :
    Calls Tryz.prog 94 #[v, .int .i64 i] w fun e w' => e = .returned (.int .u64 (wy y p m j)) ∧ w' = w := by
  subst hij
  obtain ⟨ao, cap, rfl, h1, h2, h3, h4, h5⟩ := h
  unfold wy
  by_cases hj : j < m
  · obtain ⟨b, off, rfl, hb, hc⟩ := h5 (by omega)
    have c := hc j hj
    have hj' : ¬ (m : Int) ≤ (j : Int) := by omega
    have hj2 : (j : Int) < (m : Int) := by omega
    rw [if_pos hj]
    clear hc h5 h3
    go_enter Tryz.func94, Tryz.ntmps94
    go_wp2
    go_ret
    exact ⟨rfl, rfl⟩
  · have hj' : (m : Int) ≤ (j : Int) := by omega
    rw [if_neg hj]
    clear h5 h3
    go_enter Tryz.func94, Tryz.ntmps94
    go_wp2
    go_ret
    exact ⟨rfl, rfl⟩
set_option maxHeartbeats 400000 in
theorem gcdWords_any (x y : Nat) (w : World) (hx : x ≤ 18446744073709551615) (hy : y ≤ 18446744073709551615) :
    Calls Tryz.prog 55 #[.int .u64 x, .int .u64 y] w fun e w' => e = .returned (.int .u64 (Nat.gcd x y : Nat)) ∧ ∃ k, w' = w.drewN k := by
  obtain ⟨G, hG⟩ : ∃ G, Nat.gcd x y = G := ⟨_, rfl⟩
  have E0 := hid hG
  rw [hG]
  clear hG
  go_enter Tryz.func55, Tryz.ntmps55
  go_wp2
  go_loopw [0, 1] (fun xv yv wr => ∃ (p q : Nat), xv = .int .u64 p ∧ yv = .int .u64 q ∧ p ≤ 18446744073709551615 ∧ q ≤ 18446744073709551615 ∧ Hid (Nat.gcd p q = G) ∧ ∃ k, wr = w.drewN k) (fun _ yv _ => (intOf yv).toNat)
  case atStart => exact ⟨x, y, rfl, rfl, hx, hy, E0, 0, rfl⟩
  case round =>
    obtain ⟨p, q, rfl, rfl, hp, hq, E, k, rfl⟩ := hrel
    by_cases h0 : q = 0
    · subst h0
      have e : p = G := by have := E.out; rw [Nat.gcd_zero_right] at this; exact this
      subst e
      clear E
      go_wp2
      go_ret
      exact ⟨rfl, k, rfl⟩
    · have h1 : ((q : Int) != 0) = true := by simp; omega
      have h2 : ((q : Int) == 0) = false := beq_eq_false_iff_ne.2 (by omega)
      have hne : ¬ (q : Int) = 0 := by omega
      have hl := Nat.mod_lt p (show 0 < q by omega)
      have e2 : ((p : Int) % (q : Int)) = ((p % q : Nat) : Int) := (Int.natCast_emod p q).symm
      have N : Hid (Nat.gcd q (p % q) = G) := by
        show _ = _
        rw [← E.out, Nat.gcd_comm p q, Nat.gcd_rec q p, Nat.gcd_comm]
      have b1 : (0 : Int) ≤ (p : Int) % (q : Int) := by omega
      have b2 : (p : Int) % (q : Int) ≤ 18446744073709551615 := by omega
      clear E
      go_wp2
      go_region
      go_wp2
      exact ⟨⟨q, p % q, rfl, by rw [e2], hq, by omega, N, k + 1, rfl⟩, by simp only [intOf]; omega⟩
/-- the numbers of 'timesLess'. -/
theorem tl_room {X2 X3 : Nat → Int} {m N : Nat} {c T S : Int} (hm : m ≤ N) (h1 : V X3 0 m - c * P m = V X2 0 m - S) (h2 : V X2 0 N = T) (h3 : ∀ j, m ≤ j → X3 j = X2 j) (hw : Wd X3 0 m) (hle : S ≤ T) :
    c ≤ V X3 m (N - m) ∧ V X3 0 m + P m * (V X3 m (N - m) - c) = T - S := by
  have e : V X2 0 N = V X2 0 m + P m * V X2 m (N - m) := by
    have := V_split X2 0 m (N - m)
    rw [Nat.zero_add, show m + (N - m) = N by omega] at this
    exact this
  have e3 : V X3 m (N - m) = V X2 m (N - m) := V_congr _ (fun j hj => h3 _ (by omega))
  have hb := V_bd m hw
  have hp := P_pos m
  rw [e3]
  generalize V X2 m (N - m) = H at *
  have k : P m * (H - c) = P m * H - c * P m := by grind
  have t : V X3 0 m + P m * (H - c) = T - S := by rw [k]; omega
  refine ⟨?_, t⟩
  apply Int.not_lt.1
  intro hc
  have : P m * (H - c) ≤ P m * (-1) := Int.mul_le_mul_of_nonneg_left (by omega) (by omega)
  omega
theorem tl_first {X1 : Nat → Int} {n N : Nat} {c T : Int} (hn : n < N) (h1 : V X1 0 n + c * P n = T) (h2 : ∀ j, n ≤ j → X1 j = 0) : V (upd X1 n c) 0 N = T := by
  have e := V_split (upd X1 n c) 0 (n + 1) (N - (n + 1))
  rw [Nat.zero_add, show n + 1 + (N - (n + 1)) = N by omega] at e
  have z : V (upd X1 n c) (n + 1) (N - (n + 1)) = 0 := V_zero _ (fun j _ => by rw [upd_other _ _ _ _ (by omega)]; exact h2 _ (by omega))
  have t := V_upd_top X1 0 n c
  rw [Nat.zero_add] at t
  rw [e, z, t, h1]; simp
set_option maxHeartbeats 1600000 in
set_option maxRecDepth 100000 in
theorem timesLess_any (vx vy : Value) (n m : Nat) (A B a b : Int) (w : World) (hx : Nt w vx n A) (hy : Nt w vy m B) (hn : n ≤ 100000000) (hm : m ≤ 100000000) (a0 : 0 ≤ a) (a1 : a ≤ 18446744073709551615) (b0 : 0 ≤ b) (b1 : b ≤ 18446744073709551615) (hle : b * B ≤ a * A) :
    Calls Tryz.prog 78 #[vx, .int .u64 a, vy, .int .u64 b] w fun e w' => (∃ v k, e = .returned v ∧ Own w.heap.size w' v k (a * A - b * B)) ∧ Below w.heap.size w w' := by
  obtain ⟨x, o, sx, ex⟩ := hx
  obtain ⟨y, p, sy, ey⟩ := hy
  have SX := hid sx
  have SY := hid sy
  obtain ⟨xo, xc, rfl, x1, x2, x3, x4, x5⟩ := sx
  obtain ⟨yo, yc, rfl, y1, y2, y3, y4, y5⟩ := sy
  clear x3 x4 x5 y3 y4 y5
  have LE := hid hle
  clear hle
  go_enter Tryz.func78, Tryz.ntmps78
  go_wp2_with (at_make; refine wp_make _ rfl _ _ rfl _ _ (max n m + 1) rfl rfl (by omega) (by omega) (by omega) ?_; intro w1 R1 B1 Z1; have HR := hid R1; have HB := hid B1; have HZ := hid Z1; clear R1 B1 Z1)
  have SX1 := hid (SX.out.apart HB.out (Nat.le_refl _))
  have SY1 := hid (SY.out.apart HB.out (Nat.le_refl _))
  refine (addTimes_any w.heap.size 0 n (max n m + 1) (max n m + 1) (fun _ => 0) _ n x o a w1 HR.out (by omega) (by omega) (by omega) (fun j _ => by simp) SX1.out (Nat.le_refl _) a0 a1).mono ?_
  rintro e w2 ⟨c, X1, rfl, R2, O2, v2, d2, k2, c0, c1⟩
  have z0 : V (fun _ => 0) 0 n = 0 := V_zero n (fun _ _ => rfl)
  rw [z0, Int.zero_add, ex] at v2
  have RR := hid (R2.set n c)
  have OO := hid (O2.set n (.int .u64 c))
  have TT := hid (tl_first (X1 := X1) (n := n) (N := max n m + 1) (c := c) (T := A * a) (by omega) v2 (fun j hj => k2 j (Or.inr (by omega))))
  have DD : Hid (Wd (upd X1 n c) 0 (max n m + 1)) := by
    refine Wd_upd (fun j hj => ?_) c0 c1
    by_cases hjn : j < n
    · exact d2 j hjn
    · rw [Nat.zero_add, k2 j (Or.inr (by omega))]; simp
  have rc := R2.cell (i := n) (by omega)
  have rf := R2.frozen n
  have SY2 := hid (SY1.out.only OO.out)
  clear R2 O2 v2 d2 k2 z0 SX1 SY1
  have hnm : (n : Int) < (max n m + 1 : Nat) := by omega
  have hmm : (m : Int) ≤ (max n m + 1 : Nat) := by omega
  go_wp2_with fail
  generalize w2.setCell ⟨w.heap.size, n, none⟩ (.int .u64 c) = w3 at *
  refine (takeTimes_any w.heap.size 0 m (max n m + 1) (max n m + 1) (upd X1 n c) _ m y p b w3 RR.out (by omega) (by omega) (by omega) (DD.out.mono (by omega)) SY2.out (Nat.le_refl _) b0 b1).mono ?_
  rintro e w4 ⟨c', X3, rfl, R4, O4, v4, d4, k4, f0, f1⟩
  rw [ey] at v4
  have DX : Wd X3 0 (max n m + 1) := fun j hj => by
    by_cases hjm : j < m
    · exact d4 j hjm
    · rw [Nat.zero_add, k4 j (Or.inr (by omega))]; have := DD.out j hj; rwa [Nat.zero_add] at this
  obtain ⟨t1, t2⟩ := tl_room (X2 := upd X1 n c) (X3 := X3) (m := m) (N := max n m + 1) (c := c') (T := A * a) (S := B * b) (by omega) v4 TT.out (fun j hj => k4 j (Or.inr (by omega))) (DX.mono (by omega)) (by have := LE.out; rw [Int.mul_comm B b, Int.mul_comm A a]; exact this)
  have R5 := hid (Below.row ((Below.refl w4.heap.size w4).alloc (Nat.le_refl _) (.cells #[.int .u64 c'] 26)) R4.lt R4)
  have S5 : Hid (SlN w.heap.size (w4.alloc (.cells #[.int .u64 c'] 26)) (.slice (some ⟨w4.heap.size, 0, none⟩) 1 1) 1 (fun _ => c') 0) := by
    obtain ⟨x9, o9, ⟨ao9, cap9, e9, g1, g2, g3, g4, g5⟩, v9⟩ := Nt.one w4 c' f0 f1
    cases e9
    refine ⟨_, 1, rfl, g1, g2, (fun j hj => ⟨f0, f1⟩), (fun e => by cases e), fun _ => ⟨w4.heap.size, 0, rfl, by simp, ?_, fun j hj => ?_⟩⟩
    · have := R4.lt; omega
    · have : j = 0 := by omega
      subst this
      have hb9 := heap_alloc_new w4 (.cells #[.int .u64 c'] 26)
      simp only [World.cell?, hb9]; rfl
  have hDX := hid DX
  have T1 := hid t1
  have T2 := hid t2
  have O5 := hid O4
  have hsz := R4.lt
  clear R4 O4 v4 d4 k4 DX t1 t2 rc rf
  go_wp2_with fail
  refine (takeFrom_any w.heap.size m (max n m + 1 - m) (max n m + 1 - m) (max n m + 1) X3 _ 1 (fun _ => c') 0 _ R5.out (by omega) (Nat.le_refl _) (by omega) (fun j hj => by have := hDX.out (m + j) (by omega); rwa [Nat.zero_add] at this) S5.out (by omega) (by simpa [V, P] using T1.out)).mono ?_
  rintro e w6 ⟨rfl, X4, R6, O6, v6, d6, k6⟩
  have e4 : V X4 0 (max n m + 1) = a * A - b * B := by
    have e := V_split X4 0 m (max n m + 1 - m)
    rw [Nat.zero_add, show m + (max n m + 1 - m) = max n m + 1 by omega] at e
    have c3 : V X4 0 m = V X3 0 m := V_congr m (fun j hj => by rw [Nat.zero_add]; exact k6 j (Or.inl hj))
    have one : V (fun _ => c') 0 1 = c' := by simp [V, P]
    rw [e, c3, v6, one, T2.out, Int.mul_comm A a, Int.mul_comm B b]
  have D6 : Hid (Wd X4 0 (max n m + 1)) := fun j hj => by
    rw [Nat.zero_add]
    by_cases hjm : j < m
    · rw [k6 j (Or.inl hjm)]; have := hDX.out j hj; rwa [Nat.zero_add] at this
    · have := d6 (j - m) (by omega); rwa [show m + (j - m) = j by omega] at this
  have BW := hid (((HB.out.trans (OO.out.below (Nat.le_refl _))).trans (O5.out.below (Nat.le_refl _))).trans ((((Below.refl w4.heap.size w4).alloc (Nat.le_refl _) (.cells #[.int .u64 c'] 26)).mono (Nat.le_of_lt hsz)).trans (O6.below (Nat.le_refl _))))
  have E4 := hid e4
  have RW := hid R6
  clear v6 d6 k6 e4 O6 R6
  go_wp2_with fail
  refine (trimmed_own w.heap.size w.heap.size (max n m + 1) (max n m + 1) X4 (a * A - b * B) w6 RW.out (Nat.le_refl _) (Nat.le_refl _) D6.out E4.out (by omega)).mono ?_
  rintro e w7 ⟨⟨v, k, rfl, OW, hk⟩, rfl⟩
  have OWN := hid OW
  obtain ⟨g9, N9, X9, rfl, _⟩ := OW
  go_wp2
  go_ret
  exact ⟨⟨_, k, rfl, OWN.out⟩, BW.out⟩
end Go.Proofs.YtnaiahjgdakneaaGreatDoor
