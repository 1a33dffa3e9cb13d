/- What 'guessDigit' answers: how often a number goes into another one, or one more. -/
import Derived.Test.YtnaiahjgdakneaaGreatDoorMovb
import Derived.Deep.QuietTactic
import Derived.BigQuiet
namespace Go.Proofs.YtnaiahjgdakneaaGreatDoor
open Go.RowKit Num

/-- three words of a number, two of another, and what stands below them. -/
structure Gd (xl yl p u2 u1 u0 v1 v2 x y : Int) : Prop where
  fp : 0 < p
  fxl : 0 ≤ xl
  fxl' : xl < p
  fyl : 0 ≤ yl
  fyl' : yl < p
  fu2 : 0 ≤ u2
  fu1 : 0 ≤ u1
  fu1' : u1 ≤ 18446744073709551615
  fu0 : 0 ≤ u0
  fu0' : u0 ≤ 18446744073709551615
  fv1 : 9223372036854775808 ≤ v1
  fv1' : v1 ≤ 18446744073709551615
  fv2 : 0 ≤ v2
  fv2' : v2 ≤ 18446744073709551615
  fx : x = xl + (u0 + u1 * 18446744073709551616 + u2 * 340282366920938463463374607431768211456) * p
  fy : y = yl + (v2 + v1 * 18446744073709551616) * p
  flt : x < y * 18446744073709551616
/-- a guess and what it leaves. -/
structure Gt (xl yl p u2 u1 u0 v1 v2 x y g l : Int) : Prop where
  fd : Gd xl yl p u2 u1 u0 v1 v2 x y
  fe : g * v1 + l = u2 * 18446744073709551616 + u1
  fg : 0 ≤ g
  fg' : g ≤ 18446744073709551615
  fl : 0 ≤ l
  fh : x < (g + 1) * y

theorem mul_lt_p {a b p : Int} (hp : 0 < p) (h : a < b) : a * p + p ≤ b * p := by
  have : (a + 1) * p ≤ b * p := Int.mul_le_mul_of_nonneg_right (by omega) (by omega)
  rw [Int.add_mul] at this; omega
theorem Gd.top {xl yl p u2 u1 u0 v1 v2 x y : Int} (h : Gd xl yl p u2 u1 u0 v1 v2 x y) : u2 ≤ v1 := by
  apply Int.not_lt.1
  intro hc
  have h1 := h.flt
  rw [h.fx, h.fy] at h1
  have hp := h.fp
  have e : (yl + (v2 + v1 * 18446744073709551616) * p) * 18446744073709551616 ≤ (u0 + u1 * 18446744073709551616 + u2 * 340282366920938463463374607431768211456) * p := by
    have a1 : yl + (v2 + v1 * 18446744073709551616) * p ≤ (v1 + 1) * 18446744073709551616 * p := by
      have := mul_lt_p hp (show v2 + v1 * 18446744073709551616 < (v1 + 1) * 18446744073709551616 by have := h.fv2'; omega)
      have := h.fyl'; omega
    have a2 : (v1 + 1) * 340282366920938463463374607431768211456 * p ≤ (u0 + u1 * 18446744073709551616 + u2 * 340282366920938463463374607431768211456) * p :=
      Int.mul_le_mul_of_nonneg_right (by have := h.fu0; have := h.fu1; omega) (by omega)
    have a3 : (v1 + 1) * 340282366920938463463374607431768211456 * p = (v1 + 1) * 18446744073709551616 * p * 18446744073709551616 := by grind
    omega
  have := h.fxl
  omega
theorem Gd.same {xl yl p u2 u1 u0 v1 v2 x y : Int} (h : Gd xl yl p u2 u1 u0 v1 v2 x y) (he : u2 = v1) : x < (18446744073709551615 + 1) * y ∧ (18446744073709551615 - 1) * y ≤ x := by
  subst he
  have hp := h.fp
  constructor
  · have := h.flt; omega
  · have h1 := h.fx
    have h2 := h.fy
    have a1 : y ≤ (u2 + 1) * 18446744073709551616 * p := by
      have := mul_lt_p hp (show v2 + u2 * 18446744073709551616 < (u2 + 1) * 18446744073709551616 by have := h.fv2'; omega)
      have := h.fyl'; omega
    have a2 : 18446744073709551614 * ((u2 + 1) * 18446744073709551616 * p) ≤ (u0 + u1 * 18446744073709551616 + u2 * 340282366920938463463374607431768211456) * p := by
      rw [← Int.mul_assoc]
      exact Int.mul_le_mul_of_nonneg_right (by have := h.fu0; have := h.fu1; have := h.fv1; omega) (by omega)
    have := h.fxl
    omega
theorem Gt.start {xl yl p u2 u1 u0 v1 v2 x y : Int} (h : Gd xl yl p u2 u1 u0 v1 v2 x y) (hlt : u2 < v1) : Gt xl yl p u2 u1 u0 v1 v2 x y (dq u2 u1 v1) (dr u2 u1 v1) := by
  obtain ⟨b1, b2, b3, b4, b5⟩ := dq_bd h.fu2 ⟨h.fu1, h.fu1'⟩ hlt
  refine ⟨h, b5, b1, b2, b3, ?_⟩
  have hp := h.fp
  have a1 : u2 * 18446744073709551616 + u1 + 1 ≤ (dq u2 u1 v1 + 1) * v1 := by rw [Int.add_mul]; omega
  have a2 : (u2 * 18446744073709551616 + u1 + 1) * 18446744073709551616 * p ≤ (dq u2 u1 v1 + 1) * v1 * 18446744073709551616 * p :=
    Int.mul_le_mul_of_nonneg_right (by omega) (by omega)
  have a3 : (dq u2 u1 v1 + 1) * (v1 * 18446744073709551616 * p) ≤ (dq u2 u1 v1 + 1) * y := by
    refine Int.mul_le_mul_of_nonneg_left ?_ (by omega)
    rw [h.fy]
    have := h.fyl
    have : v1 * 18446744073709551616 * p ≤ (v2 + v1 * 18446744073709551616) * p := Int.mul_le_mul_of_nonneg_right (by have := h.fv2; omega) (by omega)
    omega
  have a4 : x < (u2 * 18446744073709551616 + u1 + 1) * 18446744073709551616 * p := by
    rw [h.fx]
    have := mul_lt_p hp (show u0 + u1 * 18446744073709551616 + u2 * 340282366920938463463374607431768211456 < (u2 * 18446744073709551616 + u1 + 1) * 18446744073709551616 by have := h.fu0'; omega)
    have := h.fxl'
    omega
  have a5 : (dq u2 u1 v1 + 1) * (v1 * 18446744073709551616 * p) = (dq u2 u1 v1 + 1) * v1 * 18446744073709551616 * p := by grind
  omega
theorem Gt.three {xl yl p u2 u1 u0 v1 v2 x y g l : Int} (h : Gt xl yl p u2 u1 u0 v1 v2 x y g l) : g * (v2 + v1 * 18446744073709551616) = g * v2 + (u2 * 18446744073709551616 + u1) * 18446744073709551616 - l * 18446744073709551616 := by
  rw [← h.fe]; grind
theorem Gt.done {xl yl p u2 u1 u0 v1 v2 x y g l : Int} (h : Gt xl yl p u2 u1 u0 v1 v2 x y g l) (ht : g * v2 ≤ l * 18446744073709551616 + u0) : (g - 1) * y ≤ x := by
  have hd := h.fd
  have hp := hd.fp
  have h3 := h.three
  have hy : y ≤ (v2 + v1 * 18446744073709551616 + 1) * p := by rw [hd.fy, Int.add_mul _ 1 p]; have := hd.fyl'; omega
  by_cases hg : g = 0
  · subst hg
    have h0 : 0 ≤ y := by rw [hd.fy]; have := hd.fyl; have := Int.mul_nonneg (show 0 ≤ v2 + v1 * 18446744073709551616 by have := hd.fv2; have := hd.fv1; omega) (Int.le_of_lt hp); omega
    have h1 : 0 ≤ x := by rw [hd.fx]; have := hd.fxl; have := Int.mul_nonneg (show 0 ≤ u0 + u1 * 18446744073709551616 + u2 * 340282366920938463463374607431768211456 by have := hd.fu0; have := hd.fu1; have := hd.fu2; omega) (Int.le_of_lt hp); omega
    omega
  · have a1 : (g - 1) * y ≤ (g - 1) * ((v2 + v1 * 18446744073709551616 + 1) * p) := Int.mul_le_mul_of_nonneg_left hy (by have := h.fg; omega)
    have a2 : (g - 1) * ((v2 + v1 * 18446744073709551616 + 1) * p) = (g * (v2 + v1 * 18446744073709551616) + g - (v2 + v1 * 18446744073709551616) - 1) * p := by grind
    have a3 : (g * (v2 + v1 * 18446744073709551616) + g - (v2 + v1 * 18446744073709551616) - 1) * p ≤ (u0 + u1 * 18446744073709551616 + u2 * 340282366920938463463374607431768211456) * p := by
      refine Int.mul_le_mul_of_nonneg_right ?_ (by omega)
      rw [h3]
      have := h.fg'; have := hd.fv1; have := hd.fv2
      omega
    have := hd.fx; have := hd.fxl
    omega
theorem Gt.less {xl yl p u2 u1 u0 v1 v2 x y g l : Int} (h : Gt xl yl p u2 u1 u0 v1 v2 x y g l) (ht : l * 18446744073709551616 + u0 < g * v2) : 1 ≤ g ∧ Gt xl yl p u2 u1 u0 v1 v2 x y (g - 1) (l + v1) := by
  have hd := h.fd
  have hp := hd.fp
  have h3 := h.three
  have h1 : 1 ≤ g := by
    apply Int.not_lt.1
    intro hc
    have : g = 0 := by have := h.fg; omega
    subst this
    have := h.fl; have := hd.fu0
    omega
  refine ⟨h1, hd, by rw [Int.sub_mul, ← h.fe]; omega, by omega, by have := h.fg'; omega, by have := h.fl; have := hd.fv1; omega, ?_⟩
  rw [show g - 1 + 1 = g by omega]
  have a1 : (u0 + u1 * 18446744073709551616 + u2 * 340282366920938463463374607431768211456 + 1) * p ≤ g * (v2 + v1 * 18446744073709551616) * p :=
    Int.mul_le_mul_of_nonneg_right (by rw [h3]; omega) (by omega)
  have a2 : g * ((v2 + v1 * 18446744073709551616) * p) ≤ g * y := Int.mul_le_mul_of_nonneg_left (by rw [hd.fy]; have := hd.fyl; omega) (by omega)
  have a3 : g * ((v2 + v1 * 18446744073709551616) * p) = g * (v2 + v1 * 18446744073709551616) * p := by grind
  have := hd.fx; have := hd.fxl'
  rw [Int.add_mul _ 1 p] at a1
  omega
theorem test_yes {m l u : Int} (h : hi m < l ∨ hi m = l ∧ lo m ≤ u) (hu : 0 ≤ u) : m ≤ l * 18446744073709551616 + u := by unfold hi lo at h; omega
theorem test_no {m l u : Int} (h1 : ¬ hi m < l) (h2 : ¬ (hi m = l ∧ lo m ≤ u)) (hu : u ≤ 18446744073709551615) : l * 18446744073709551616 + u < m := by unfold hi lo at *; omega
end Go.Proofs.YtnaiahjgdakneaaGreatDoor
