/- The reference's values of polynomials, and whether two lists are the same. -/
import Derived.Test.YtjgipjiopagkiaaDoorEg
import Derived.Test.YtjgipjiopagkiaaDoorRr
namespace Go.Proofs.YtjgipjiopagkiaaDoor
open Go.RowKit Num Nmb

theorem ev_nonneg {a : Nat → Int} {x : Int} (hx : 0 ≤ x) : ∀ n, (∀ j, j < n → 0 ≤ a j) → 0 ≤ ev a n x
  | 0, _ => Int.le_refl _
  | n + 1, h => by
    have h1 := ev_nonneg hx n (fun j hj => h j (by omega))
    have h2 : 0 ≤ a n * x ^ n := Int.mul_nonneg (h n (by omega)) (Int.pow_nonneg hx)
    show 0 ≤ ev a n x + a n * x ^ n
    omega
/-- Horner's way: what stands when the coefficients from k on were taken. -/
def hor (a : Nat → Int) (n : Nat) (x : Int) (k : Nat) : Int := ev (fun i => a (k + i)) (n - k) x
theorem hor_top (a : Nat → Int) (n : Nat) (x : Int) : hor a n x n = 0 := by unfold hor; rw [Nat.sub_self]; rfl
theorem hor_zero (a : Nat → Int) (n : Nat) (x : Int) : hor a n x 0 = ev a n x := by
  unfold hor
  rw [Nat.sub_zero]
  congr 1
  funext i
  rw [Nat.zero_add]
theorem hor_step (a : Nat → Int) {n : Nat} (x : Int) {k : Nat} (h : k < n) : hor a n x k = hor a n x (k + 1) * x + a k := by
  unfold hor
  rw [show n - k = (n - (k + 1)) + 1 by omega, ev_front, Nat.add_zero, Int.mul_comm, Int.add_comm]
  congr 3
  funext i
  congr 1
  omega
set_option maxHeartbeats 1600000 in
theorem rsame_any (u v : Value) (n m : Nat) (a b : Nat → Int) (w : World) (hu : Wl w u n a) (hv : Wl w v m b) (r : Bool) (hr : r = true ↔ n = m ∧ ∀ j, j < n → a j = b j) :
    Calls Tryd.prog 9 #[u, v] w fun e w' => e = .returned (.bool r) ∧ ∃ c, w' = w.drewN c := by
  obtain ⟨ao, cap, rfl, h1, h2, h3, h5⟩ := hu
  obtain ⟨bo, bap, rfl, g1, g2, g3, g5⟩ := hv
  have H5 := hid h5
  have G5 := hid g5
  clear h3 h5 g3 g5
  by_cases e : n = m
  · subst e
    have R1 : Hid ((∀ j, j < n → a j = b j) → r = true) := fun h => hr.2 ⟨rfl, h⟩
    have R2 : Hid (r = true → ∀ j, j < n → a j = b j) := fun h => (hr.1 h).2
    clear hr
    go_enter Tryd.func9, Tryd.ntmps9
    go_wp2
    go_loopw [5] (fun iv wr => ∃ k : Nat, k ≤ n ∧ iv = .int .i64 k ∧ Hid (∀ j, j < k → a j = b j) ∧ ∃ c, wr = w.drewN c) (fun iv _ => ((n : Int) - intOf iv).toNat)
    case atStart => exact ⟨0, Nat.zero_le _, rfl, fun j hj => absurd hj (by omega), 0, rfl⟩
    case round =>
      obtain ⟨k, hk, rfl, S, c, rfl⟩ := hrel
      by_cases hkn : k = n
      · subst hkn
        obtain rfl : r = true := R1.out S.out
        go_wp2
        go_ret
        exact ⟨rfl, c, rfl⟩
      · have hkn' : (k : Int) < n := by omega
        obtain ⟨b1, o1, rfl, hb1, hc1⟩ := H5.out (by omega)
        obtain ⟨b2, o2, rfl, hb2, hc2⟩ := G5.out (by omega)
        have c1 : (w.drewN c).cell? ⟨b1, o1 + k, none⟩ = some (.int .u64 (a k)) := by simpa using hc1 k (by omega)
        have c2 : (w.drewN c).cell? ⟨b2, o2 + k, none⟩ = some (.int .u64 (b k)) := by simpa using hc2 k (by omega)
        clear hc1 hc2
        by_cases hab : a k = b k
        · have S' : Hid (∀ j, j < k + 1 → a j = b j) := fun j hj => by
            by_cases ej : j = k
            · rw [ej]; exact hab
            · exact S.out j (by omega)
          have hab' : (a k != b k) = false := by simp [hab]
          clear S hab
          generalize a k = ak at *
          generalize b k = bk at *
          generalize hw : w.drewN c = w3 at *
          have HE := hid hw
          clear hw
          go_wp2_with fail
          go_region
          all_goals
            go_wp2
            exact ⟨⟨k + 1, by omega, rfl, S', c + 1, by rw [← HE.out]; simp⟩, by simp only [intOf]; omega⟩
        · obtain rfl : r = false := by
            cases r
            · rfl
            · exact absurd (R2.out rfl k (by omega)) hab
          have hab' : (a k != b k) = true := bne_iff_ne.2 hab
          clear S hab
          generalize a k = ak at *
          generalize b k = bk at *
          generalize hw : w.drewN c = w3 at *
          have HE := hid hw
          clear hw
          go_wp2_with fail
          go_region
          all_goals
            go_wp2
            go_ret
            exact ⟨rfl, c + 1, by rw [← HE.out]; simp⟩
  · obtain rfl : r = false := by
      cases r
      · rfl
      · exact absurd (hr.1 rfl).1 e
    have e' : ((n : Int) != (m : Int)) = true := bne_iff_ne.2 (by omega)
    clear hr
    go_enter Tryd.func9, Tryd.ntmps9
    go_wp2
    go_ret
    exact ⟨rfl, 0, rfl⟩
end Go.Proofs.YtjgipjiopagkiaaDoor
