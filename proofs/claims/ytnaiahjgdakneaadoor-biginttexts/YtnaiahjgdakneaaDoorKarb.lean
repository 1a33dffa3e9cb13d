/- 'byHalves' and 'Karatsuba': the product, whatever the cut is. -/
import Derived.Test.YtnaiahjgdakneaaDoorKar
namespace Go.Proofs.YtnaiahjgdakneaaDoor
open Go.RowKit Num

set_option maxHeartbeats 3200000 in
set_option maxRecDepth 100000 in
theorem byHalves_step (N cut : Nat) (h1 : 1 ≤ cut) (h2 : cut ≤ 1024) (hN : N + 1 ≤ 1000000) (IH : HalvesSaid N cut) : HalvesSaid (N + 1) cut := by
  intro vx vy n m a b w hx hy hnm
  have HX := hid hx
  have HY := hid hy
  have HI := hid IH
  obtain ⟨-, -, ⟨ao, ca, rfl, -⟩, -⟩ := hx
  obtain ⟨-, -, ⟨bo, cb, rfl, -⟩, -⟩ := hy
  clear IH
  by_cases hlt : n < m
  · have hli : (n : Int) < (m : Int) := by omega
    by_cases hc : n ≤ cut
    · have hci : (n : Int) ≤ (cut : Int) := by omega
      go_enter Tryd.func47, Tryd.ntmps47
      go_wp2_with fail
      refine (mul_fresh _ _ m n b a w HY.out.nt HX.out.nt (by omega) (by omega)).mono ?_
      rintro e w1 ⟨v, k, rfl, s, l, C⟩
      go_wp2
      go_ret
      exact ⟨v, k, rfl, by rw [Int.mul_comm]; exact s, by omega, C⟩
    · have hci : ¬ (n : Int) ≤ (cut : Int) := by omega
      have hdv : (((m + 1) / 2 : Nat) : Int) = ((m : Int) + 1) / 2 := by omega
      have HDV := hid hdv
      clear hdv
      by_cases hm : n ≤ (m + 1) / 2
      · have hmi : (n : Int) ≤ ((m : Int) + 1) / 2 := by omega
        go_enter Tryd.func47, Tryd.ntmps47
        go_wp2_with fail
        rw [← HDV.out]
        refine (halfByWhole_any N cut HI.out _ _ m n ((m + 1) / 2) b a w HY.out HX.out (by omega) (by omega) (by omega) (by omega)).mono ?_
        rintro e w1 ⟨v, k, rfl, s, l, C⟩
        go_wp2
        go_ret
        exact ⟨v, k, rfl, by rw [Int.mul_comm]; exact s, by omega, C⟩
      · have hmi : ¬ (n : Int) ≤ ((m : Int) + 1) / 2 := by omega
        go_enter Tryd.func47, Tryd.ntmps47
        go_wp2_with fail
        rw [← HDV.out]
        refine (halfByHalf_any N cut HI.out _ _ m n ((m + 1) / 2) b a w HY.out HX.out (by omega) (by omega) (by omega) (by omega) (by omega) (by omega) (by omega)).mono ?_
        rintro e w1 ⟨v, k, rfl, s, l, C⟩
        go_wp2
        go_ret
        exact ⟨v, k, rfl, by rw [Int.mul_comm]; exact s, by omega, C⟩
  · have hli : ¬ (n : Int) < (m : Int) := by omega
    by_cases hc : m ≤ cut
    · have hci : (m : Int) ≤ (cut : Int) := by omega
      go_enter Tryd.func47, Tryd.ntmps47
      go_wp2_with fail
      refine (mul_fresh _ _ n m a b w HX.out.nt HY.out.nt (by omega) (by omega)).mono ?_
      rintro e w1 ⟨v, k, rfl, s, l, C⟩
      go_wp2
      go_ret
      exact ⟨v, k, rfl, s, by omega, C⟩
    · have hci : ¬ (m : Int) ≤ (cut : Int) := by omega
      have hdv : (((n + 1) / 2 : Nat) : Int) = ((n : Int) + 1) / 2 := by omega
      have HDV := hid hdv
      clear hdv
      by_cases hm : m ≤ (n + 1) / 2
      · have hmi : (m : Int) ≤ ((n : Int) + 1) / 2 := by omega
        go_enter Tryd.func47, Tryd.ntmps47
        go_wp2_with fail
        rw [← HDV.out]
        refine (halfByWhole_any N cut HI.out _ _ n m ((n + 1) / 2) a b w HX.out HY.out (by omega) (by omega) (by omega) (by omega)).mono ?_
        rintro e w1 ⟨v, k, rfl, s, l, C⟩
        go_wp2
        go_ret
        exact ⟨v, k, rfl, s, by omega, C⟩
      · have hmi : ¬ (m : Int) ≤ ((n : Int) + 1) / 2 := by omega
        go_enter Tryd.func47, Tryd.ntmps47
        go_wp2_with fail
        rw [← HDV.out]
        refine (halfByHalf_any N cut HI.out _ _ n m ((n + 1) / 2) a b w HX.out HY.out (by omega) (by omega) (by omega) (by omega) (by omega) (by omega) (by omega)).mono ?_
        rintro e w1 ⟨v, k, rfl, s, l, C⟩
        go_wp2
        go_ret
        exact ⟨v, k, rfl, s, by omega, C⟩

set_option maxHeartbeats 800000 in
set_option maxRecDepth 100000 in
theorem byHalves_zero (cut : Nat) (h1 : 1 ≤ cut) (h2 : cut ≤ 1024) : HalvesSaid 0 cut := by
  intro vx vy n m a b w hx hy hnm
  have hn : n = 0 := by omega
  have hm : m = 0 := by omega
  subst hn; subst hm
  have HX := hid hx
  have HY := hid hy
  obtain ⟨-, -, ⟨ao, ca, rfl, -⟩, -⟩ := hx
  obtain ⟨-, -, ⟨bo, cb, rfl, -⟩, -⟩ := hy
  have hci : (0 : Int) ≤ (cut : Int) := by omega
  go_enter Tryd.func47, Tryd.ntmps47
  go_wp2_with fail
  refine (mul_fresh _ _ 0 0 a b w HX.out.nt HY.out.nt (by omega) (by omega)).mono ?_
  rintro e w1 ⟨v, k, rfl, s, l, C⟩
  go_wp2
  go_ret
  exact ⟨v, k, rfl, s, by omega, C⟩

theorem byHalves_all (cut : Nat) (h1 : 1 ≤ cut) (h2 : cut ≤ 1024) : ∀ N, N ≤ 1000000 → HalvesSaid N cut
  | 0, _ => byHalves_zero cut h1 h2
  | N + 1, h => byHalves_step N cut h1 h2 h (byHalves_all cut h1 h2 N (by omega))

set_option maxHeartbeats 800000 in
set_option maxRecDepth 100000 in
/-- 'Karatsuba' is the product. -/
theorem karatsuba_any (vx vy : Value) (n m : Nat) (a b : Int) (cut : Nat) (w : World) (hx : Nt w vx n a) (hy : Nt w vy m b) (hn : n ≤ 100000) (hm : m ≤ 100000) (h1 : 1 ≤ cut) (h2 : cut ≤ 1024) :
    Calls Tryd.prog 29 #[vx, vy, .int .i64 cut] w fun e w' => ∃ v k, e = .returned (.tuple #[v, .int .i64 0]) ∧ Nz w' v k (a * b) ∧ k ≤ n + m ∧ Below w.heap.size w w' := by
  have Hx := hid (trimmed_nt vx n a w hx)
  have Hy := hid (trimmed_nt vy m b w hy)
  have c1 : ¬ (cut : Int) < 1 := by omega
  have c2 : ¬ (1024 : Int) < (cut : Int) := by omega
  clear hx hy
  go_enter Tryd.func29, Tryd.ntmps29
  go_wp2_with fail
  refine Hx.out.mono ?_
  rintro e w' ⟨⟨v1, n', rfl, s1, l1⟩, rfl⟩
  go_wp2_with fail
  refine Hy.out.mono ?_
  rintro e w' ⟨⟨v2, m', rfl, s2, l2⟩, rfl⟩
  have S1 := hid s1
  have S2 := hid s2
  clear s1 s2 Hx Hy
  go_wp2_with fail
  refine (byHalves_all cut h1 h2 (n' + m') (by omega) _ _ n' m' a b _ S1.out S2.out (Nat.le_refl _)).mono ?_
  rintro e w1 ⟨v, k, rfl, s, l, C⟩
  go_wp2
  go_ret2
  exact ⟨v, k, rfl, s.1, by omega, C⟩

set_option maxHeartbeats 800000 in
set_option maxRecDepth 100000 in
theorem karatsuba_bad (vx vy : Value) (cut : Int) (w : World) (h : cut < 1 ∨ 1024 < cut) :
    Calls Tryd.prog 29 #[vx, vy, .int .i64 cut] w fun e w' => e = .returned (.tuple #[.slice none 0 0, .int .i64 1]) ∧ w' = w := by
  by_cases h1 : cut < 1
  · go_enter Tryd.func29, Tryd.ntmps29
    go_wp2
    go_ret2
    exact ⟨rfl, rfl⟩
  · have h2 : 1024 < cut := by omega
    go_enter Tryd.func29, Tryd.ntmps29
    go_wp2
    go_ret2
    exact ⟨rfl, rfl⟩
end Go.Proofs.YtnaiahjgdakneaaDoor
