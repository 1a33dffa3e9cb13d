/- What 'takeDigit' does: it takes a number off another as often as it goes, and answers how often that is. -/
import Derived.Test.YtnaiahjgdakneaaGreatDoorGssb
namespace Go.Proofs.YtnaiahjgdakneaaGreatDoor
open Go.RowKit Num

theorem gd_of {X Y : Nat → Int} {o q m : Nat} (hX : Wd X o (m + 3)) (hY : Wd Y q (m + 2)) (ht : 9223372036854775808 ≤ Y (q + (m + 1))) (hlt : V X o (m + 3) < V Y q (m + 2) * 18446744073709551616) :
    Gd (V X o m) (V Y q m) (P m) (X (o + (m + 2))) (X (o + (m + 1))) (X (o + m)) (Y (q + (m + 1))) (Y (q + m)) (V X o (m + 3)) (V Y q (m + 2)) := by
  have x1 := V_bd m (hX.mono (by omega))
  have y1 := V_bd m (hY.mono (by omega))
  have a2 := hX (m + 2) (by omega); have a1 := hX (m + 1) (by omega); have a0 := hX m (by omega)
  have b1 := hY (m + 1) (by omega); have b0 := hY m (by omega)
  refine ⟨P_pos m, x1.1, x1.2, y1.1, y1.2, a2.1, a1.1, a1.2, a0.1, a0.2, ht, b1.2, b0.1, b0.2, ?_, ?_, hlt⟩
  · simp only [V, P]; grind
  · simp only [V, P]; grind

/-- the digit was not too great. -/
theorem dig_ok {x y g t v u p : Int} (e : t - v * p = x - u * p - y * g) (hx : 0 ≤ t) (ht : t < p) (hy : y ≤ p) (hvu : v ≤ u) (h1 : x < (g + 1) * y) : v = u ∧ t = x - g * y ∧ x - g * y < y := by
  have e1 : (g + 1) * y = y * g + y := by grind
  have e2 : g * y = y * g := by grind
  have hp : 0 < p := by omega
  by_cases h : v = u
  · subst h; refine ⟨rfl, by omega, by omega⟩
  · have : (v + 1) * p ≤ u * p := Int.mul_le_mul_of_nonneg_right (by omega) (by omega)
    rw [Int.add_mul] at this
    omega
/-- the digit was one too great. -/
theorem dig_over {x y g t v u p t2 c : Int} (e : t - v * p = x - u * p - y * g) (e2 : t2 + c * p = t + y) (h2 : 0 ≤ t2) (h2' : t2 < p) (ht : t < p) (_hy0 : 0 < y) (hy : y ≤ p) (hvu : u < v) (h1 : (g - 1) * y ≤ x) : t2 = x - (g - 1) * y ∧ x - (g - 1) * y < y := by
  have e3 : (g - 1) * y = y * g - y := by grind
  have hp : 0 < p := by omega
  have e4 : (c - (v - u)) * p = c * p - v * p + u * p := by grind
  have e5 : (v - u) * p = v * p - u * p := by grind
  have a1 : x - (g - 1) * y = t2 + (c - (v - u)) * p := by omega
  have hx : x - y * g = t - (v - u) * p := by omega
  have a2 : (1 : Int) * p ≤ (v - u) * p := Int.mul_le_mul_of_nonneg_right (by omega) (by omega)
  have lt : x - (g - 1) * y < y := by omega
  have z : c - (v - u) = 0 := by
    have nn : 0 ≤ x - (g - 1) * y := by omega
    by_cases hz : 0 ≤ c - (v - u)
    · by_cases hz2 : 1 ≤ c - (v - u)
      · have : 1 * p ≤ (c - (v - u)) * p := Int.mul_le_mul_of_nonneg_right hz2 (by omega)
        omega
      · omega
    · have : (c - (v - u)) * p ≤ (-1) * p := Int.mul_le_mul_of_nonneg_right (by omega) (by omega)
      omega
  rw [z] at a1
  refine ⟨by omega, lt⟩

set_option maxHeartbeats 1600000 in
set_option maxRecDepth 100000 in
theorem takeDigit_any (g o c N m b' off' c' : Nat) (X Y : Nat → Int) (q : Nat) (w : World) (hr : Row w g N X) (hN : o + (m + 3) ≤ N) (hc : m + 3 ≤ c) (hcb : c ≤ 9223372036854775807) (hX : Wd X o (m + 3))
    (hy : SlN g w (.slice (some ⟨b', off', none⟩) (m + 2) c') (m + 2) Y q) (ht : 9223372036854775808 ≤ Y (q + (m + 1))) (hlt : V X o (m + 3) < V Y q (m + 2) * 18446744073709551616) :
    Calls Tryz.prog 69 #[.slice (some ⟨g, o, none⟩) (m + 3) c, .slice (some ⟨b', off', none⟩) (m + 2) c'] w fun e w' => ∃ D X', e = .returned (.int .u64 D) ∧ Row w' g N X' ∧ Only g w w' ∧
      V X o (m + 3) = D * V Y q (m + 2) + V X' o (m + 2) ∧ V X' o (m + 2) < V Y q (m + 2) ∧ X' (o + (m + 2)) = 0 ∧ Wd X' o (m + 3) ∧ (∀ j, j < o ∨ o + (m + 3) ≤ j → X' j = X j) ∧ 0 ≤ D ∧ D ≤ 18446744073709551615 := by
  have HY := hid hy
  obtain ⟨ao, cap, e0, y1, y2, y3, y4, y5⟩ := hy
  cases e0
  obtain ⟨b2, off2, e2, hb2, hbg, hcy⟩ := y5 (by omega)
  cases e2
  have HD := hid (gd_of hX y3 ht hlt)
  have HX := hid hX
  have HYW := hid y3
  have K := hid (guess_any g o m c b' off' c' _ _ _ _ _ _ _ _ _ _ w hc hcb y1 y2 (hr.cell (by omega)) (hr.cell (by omega)) (hr.cell (by omega)) (hcy (m + 1) (by omega)) (hcy m (by omega)) HD.out)
  have bY := V_bd (m + 2) y3
  have pY : 0 < V Y q (m + 2) := by
    have h : P (m + 1) ≤ V Y q (m + 2) := V_ge (n := m + 1) y3 (by omega)
    have := P_pos (m + 1)
    omega
  have HB := hid bY
  have HP := hid pY
  clear y5 y4 hX hcy y3 bY pY hlt
  go_enter Tryz.func69, Tryz.ntmps69
  go_wp2_with fail
  refine K.out.mono ?_
  rintro e w1 ⟨⟨G, rfl, g0, g1, h1, h2⟩, k, hw1⟩
  have O1 : Only g w w1 := by rw [hw1]; exact (Only.refl _ _).drewN k
  have R1 : Row w1 g N X := by rw [hw1]; exact hr
  have H1 := hid h1
  have H2 := hid h2
  clear hw1 K h1 h2 hr
  go_wp2_with fail
  refine (takeTimes_any g o (m + 2) c N X _ (m + 2) Y q G w1 R1 (by omega) (by omega) hcb (HX.out.mono (by omega)) (HY.out.only O1) (Nat.le_refl _) g0 g1).mono ?_
  rintro e w2 ⟨v, X2, rfl, R2, O2, V2, W2, F2, v0, v1⟩
  have e2 := F2 (o + (m + 2)) (Or.inr (Nat.le_refl _))
  have gz : w2.cell? ⟨g, o + (m + 2), none⟩ = some (.int .u64 (X (o + (m + 2)))) := by rw [← e2]; exact R2.cell (by omega)
  have gf := R2.frozen (o + (m + 2))
  have HV2 := hid V2
  have HF2 := hid F2
  have hu := HX.out (m + 2) (by omega)
  have V3 : V X o (m + 3) = V X o (m + 2) + X (o + (m + 2)) * P (m + 2) := rfl
  have HV3 := hid V3
  have vt := V_bd (m + 2) W2
  have HT := hid vt
  clear V2 F2 e2 V3 vt
  by_cases ho : X (o + (m + 2)) < v
  · have DO := hid (show 1 ≤ G by
      apply Int.not_lt.1
      intro hc
      have hG : G = 0 := by omega
      subst hG
      have := HV2.out
      have := HT.out
      have := (V_bd (m + 2) (HX.out.mono (show m + 2 ≤ m + 3 by omega))).1
      have pp := P_pos (m + 2)
      have : 1 * P (m + 2) ≤ v * P (m + 2) := Int.mul_le_mul_of_nonneg_right (by omega) (by omega)
      simp at *
      omega)
    have G1 := DO.out
    go_wp2_with fail
    refine (addBack_any g o (m + 2) c N X2 _ (m + 2) Y q w2 R2 (by omega) (by omega) hcb W2 ((HY.out.only O1).only O2) (Nat.le_refl _)).mono ?_
    rintro e w3 ⟨rfl, cc, X3, R3, O3, V3, W3, F3⟩
    have gz3 := R3.cell (show o + (m + 2) < N by omega)
    have gf3 := R3.frozen (o + (m + 2))
    have HV4 := hid V3
    have HF3 := hid F3
    clear V3 F3 gz gf
    go_wp2
    go_ret
    have kk := dig_over (show V X2 o (m + 2) - v * P (m + 2) = V X o (m + 3) - X (o + (m + 2)) * P (m + 2) - V Y q (m + 2) * G by rw [HV2.out, HV3.out]; omega) HV4.out (V_bd _ W3).1 (V_bd _ W3).2 HT.out.2 HP.out (Int.le_of_lt HB.out.2) ho H2.out
    refine ⟨G - 1, upd X3 (o + (m + 2)) 0, rfl, R3.set _ _, ((O1.trans O2).trans O3).set _ _, ?_, ?_, upd_same _ _ _, ?_, ?_, by omega, by omega⟩
    · rw [V_upd_out _ (Or.inr (Nat.le_refl _)), kk.1]; omega
    · rw [V_upd_out _ (Or.inr (Nat.le_refl _)), kk.1]; exact kk.2
    · intro j hj
      by_cases e : j = m + 2
      · subst e; rw [upd_same]; decide
      · rw [upd_other _ _ _ _ (by omega)]; exact W3 j (by omega)
    · intro j hj; rw [upd_other _ _ _ _ (by omega), HF3.out j (by omega), HF2.out j (by omega)]
  · go_wp2
    go_ret
    have kk := dig_ok (show V X2 o (m + 2) - v * P (m + 2) = V X o (m + 3) - X (o + (m + 2)) * P (m + 2) - V Y q (m + 2) * G by rw [HV2.out, HV3.out]; omega) HT.out.1 HT.out.2 (Int.le_of_lt HB.out.2) (by omega) H1.out
    refine ⟨G, upd X2 (o + (m + 2)) 0, rfl, R2.set _ _, (O1.trans O2).set _ _, ?_, ?_, upd_same _ _ _, ?_, ?_, g0, g1⟩
    · rw [V_upd_out _ (Or.inr (Nat.le_refl _)), kk.2.1]; omega
    · rw [V_upd_out _ (Or.inr (Nat.le_refl _)), kk.2.1]; exact kk.2.2
    · intro j hj
      by_cases e : j = m + 2
      · subst e; rw [upd_same]; decide
      · rw [upd_other _ _ _ _ (by omega)]; exact W2 j (by omega)
    · intro j hj; rw [upd_other _ _ _ _ (by omega), HF2.out j (by omega)]
end Go.Proofs.YtnaiahjgdakneaaGreatDoor
