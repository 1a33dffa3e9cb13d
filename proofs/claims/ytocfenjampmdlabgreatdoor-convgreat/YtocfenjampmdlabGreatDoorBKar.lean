/- What 'byHalves' and 'Karatsuba' answer: the product, by halves. -/
import Derived.Test.YtocfenjampmdlabGreatDoorBHlv
namespace Go.Proofs.YtocfenjampmdlabGreatDoor.B
open Go.RowKit NumB

theorem Nz.len_le {w : World} {v : Value} {k n : Nat} {a : Int} (h : Nz w v k a) (hab : a < P n) : k ≤ n := by
  obtain ⟨x, o, h1, h3, rfl⟩ := h
  apply Nat.le_of_not_lt
  intro hlt
  obtain ⟨j, rfl⟩ : ∃ j, k = j + 1 := ⟨k - 1, by omega⟩
  have := V_ge h1.wd (by rcases h3 with h | h; omega; simpa using h)
  have := P_le (show n ≤ j by omega)
  omega
theorem prod_lt {a b : Int} {n m : Nat} (ha : 0 ≤ a ∧ a < P n) (hb : 0 ≤ b ∧ b < P m) : a * b < P (n + m) := by
  rw [P_add]
  have h1 : a * b ≤ a * P m := Int.mul_le_mul_of_nonneg_left (by omega) ha.1
  have h2 : a * P m < P n * P m := Int.mul_lt_mul_of_pos_right ha.2 (P_pos m)
  omega
/-- what is added from place h on has room, if the sum of all has. -/
theorem seg_room {X : Nat → Int} {h r : Nat} {t c : Int} (hX : Wd X 0 h) (hV : V X 0 (h + r) = t) (hs : t + P h * c < P (h + r)) : V X h r + c < P r := by
  rw [V_split, Nat.zero_add] at hV
  rw [P_add] at hs
  have h0 := (V_bd h hX).1
  have hp := P_pos h
  apply Int.not_le.1
  intro hc
  have : P h * P r ≤ P h * (V X h r + c) := Int.mul_le_mul_of_nonneg_left hc (by omega)
  rw [Int.mul_add] at this
  omega
theorem seg_sum {X X' : Nat → Int} {h r : Nat} {t c : Int} (hV : V X 0 (h + r) = t) (ho : ∀ j, j < h → X' j = X j) (hs : V X' h r = V X h r + c) : V X' 0 (h + r) = t + P h * c := by
  rw [V_split, Nat.zero_add] at hV ⊢
  rw [hs, V_congr (y := X) (p := 0) h (fun j hj => by rw [Nat.zero_add]; exact ho j hj), ← hV, Int.mul_add]
  omega

theorem wd_shift {X : Nat → Int} {h r n : Nat} (hw : Wd X 0 n) (hn : h + r ≤ n) : Wd X h r := fun j hj => by have := hw (h + j) (by omega); rwa [Nat.zero_add] at this
theorem wd_join {X Y : Nat → Int} {h r n : Nat} (hw : Wd X h r) (hy : Wd Y 0 n) (ho : ∀ j, j < h ∨ h + r ≤ j → X j = Y j) : Wd X 0 n := fun j hj => by
  rw [Nat.zero_add]
  by_cases hin : h ≤ j ∧ j < h + r
  · obtain ⟨i, rfl⟩ := Nat.le.dest hin.1
    exact hw i (by omega)
  · rw [ho j (by omega)]; have := hy j hj; rwa [Nat.zero_add] at this

/-- the middle of a product by halves. -/
theorem two_over {xl xh : Nat → Int} {ol oh k5 k6 h2 r : Nat} (h5 : k5 ≤ h2) (h6 : k6 ≤ r) : V (over (over (fun _ => 0) 0 k5 xl ol) h2 k6 xh oh) 0 (h2 + r) = V xl ol k5 + P h2 * V xh oh k6 := by
  rw [V_split, V_congr (y := over (fun _ => 0) 0 k5 xl ol) (p := 0) h2 (fun j hj => over_out (by omega)), over_V h2 h5, Nat.zero_add]
  obtain ⟨q, rfl⟩ := Nat.le.dest h6
  rw [V_split, V_congr (y := xh) (p := oh) k6 (fun j hj => over_in hj), V_zero (o := h2 + k6) q (fun j hj => by rw [over_out (by omega), over_out (by omega)])]
  simp
theorem two_over_wd {xl xh : Nat → Int} {ol oh k5 k6 h2 k : Nat} (h5 : Wd xl ol k5) (h6 : Wd xh oh k6) : Wd (over (over (fun _ => 0) 0 k5 xl ol) h2 k6 xh oh) 0 k := fun j hj => by
  rw [Nat.zero_add]
  by_cases hin : h2 ≤ j ∧ j < h2 + k6
  · obtain ⟨i, rfl⟩ := Nat.le.dest hin.1
    rw [over_in (by omega)]; exact h6 i (by omega)
  · rw [over_out (by omega)]; have := over_wd k h5 j hj; rwa [Nat.zero_add] at this
theorem mid_same {a1 a2 b1 b2 d1 d2 : Int} {f : Bool} (h1 : f = true → d1 = a1 - a2 ∧ a2 < a1) (h1' : f = false → d1 = a2 - a1 ∧ a1 ≤ a2) (h2 : f = true → d2 = b1 - b2 ∧ b2 < b1) (h2' : f = false → d2 = b2 - b1 ∧ b1 ≤ b2) :
    a1 * b1 + a2 * b2 - d1 * d2 = a1 * b2 + a2 * b1 := by
  cases f with
  | true => obtain ⟨rfl, _⟩ := h1 rfl; obtain ⟨rfl, _⟩ := h2 rfl; grind
  | false => obtain ⟨rfl, _⟩ := h1' rfl; obtain ⟨rfl, _⟩ := h2' rfl; grind
theorem mid_other {a1 a2 b1 b2 d1 d2 : Int} {f : Bool} (h1 : f = true → d1 = a1 - a2 ∧ a2 < a1) (h1' : f = false → d1 = a2 - a1 ∧ a1 ≤ a2) (h2 : (!f) = true → d2 = b1 - b2 ∧ b2 < b1) (h2' : (!f) = false → d2 = b2 - b1 ∧ b1 ≤ b2) :
    a1 * b1 + a2 * b2 + d1 * d2 = a1 * b2 + a2 * b1 := by
  cases f with
  | true => obtain ⟨rfl, _⟩ := h1 rfl; obtain ⟨rfl, _⟩ := h2' rfl; grind
  | false => obtain ⟨rfl, _⟩ := h1' rfl; obtain ⟨rfl, _⟩ := h2 rfl; grind
theorem prod_split {a1 a2 b1 b2 p : Int} : (a1 + p * a2) * (b1 + p * b2) = a1 * b1 + p * p * (a2 * b2) + p * (a1 * b2 + a2 * b1) := by grind

end Go.Proofs.YtocfenjampmdlabGreatDoor.B
