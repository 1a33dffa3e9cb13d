/- Lehmer's way with Euclid's steps, and Collins's condition: plain facts on whole numbers. -/
import Derived.Test.YtocfenjampmdlabGreatDoorBNum
namespace Go.Proofs.YtocfenjampmdlabGreatDoor.B
namespace NumB

/-- the state of the steps over the heads A and B. -/
structure Lh (A B x y c d e f : Int) (t : Bool) : Prop where
  hy : 0 ≤ y
  hxy : y ≤ x
  c0 : 0 ≤ c
  d0 : 0 ≤ d
  e0 : 0 ≤ e
  f1 : 1 ≤ f
  ef : e ≤ f
  rows : (t = true ∧ x = c * A - d * B ∧ y = f * B - e * A ∧ c * f - d * e = 1) ∨ (t = false ∧ x = d * B - c * A ∧ y = e * A - f * B ∧ d * e - c * f = 1)
  st : (c = 1 ∧ d = 0 ∧ e = 0 ∧ f = 1) ∨ (c ≤ d ∧ 1 ≤ d ∧ 1 ≤ e)
/-- the rows that are answered. -/
structure Lg (A B a b c d : Int) (t : Bool) : Prop where
  a0 : 0 ≤ a
  ab : a ≤ b
  b1 : 1 ≤ b
  c1 : 1 ≤ c
  cd : c ≤ d
  rows : (t = false ∧ a * d - b * c = 1 ∧ d ≤ d * B - c * A ∧ b + d ≤ a * A - b * B - (d * B - c * A)) ∨
    (t = true ∧ b * c - a * d = 1 ∧ d ≤ c * A - d * B ∧ b + d ≤ b * B - a * A - (c * A - d * B))
theorem Lh.start {A B : Int} (hB : 0 ≤ B) (h : B ≤ A) : Lh A B A B 1 0 0 1 true :=
  ⟨hB, h, by decide, by decide, by decide, by decide, by decide, Or.inl ⟨rfl, by omega, by omega, by decide⟩, Or.inl ⟨rfl, rfl, rfl, rfl⟩⟩
theorem Lh.total {A B x y c d e f : Int} {t : Bool} (h : Lh A B x y c d e f t) : A = f * x + d * y := by
  rcases h.rows with ⟨_, h1, h2, h3⟩ | ⟨_, h1, h2, h3⟩
  · rw [h1, h2]
    have : f * (c * A - d * B) + d * (f * B - e * A) = (c * f - d * e) * A := by grind
    rw [this, h3, Int.one_mul]
  · rw [h1, h2]
    have : f * (d * B - c * A) + d * (e * A - f * B) = (d * e - c * f) * A := by grind
    rw [this, h3, Int.one_mul]
/-- what the test may reckon. -/
theorem Lh.test {A B x y c d e f : Int} {t : Bool} (h : Lh A B x y c d e f t) (hf : f ≤ y) : d + f ≤ A := by
  have e := h.total
  have h1 : f * 1 ≤ f * x := Int.mul_le_mul_of_nonneg_left (by have := h.hxy; have := h.f1; omega) (by have := h.f1; omega)
  have h2 : d * 1 ≤ d * y := Int.mul_le_mul_of_nonneg_left (by have := h.f1; omega) h.d0
  omega
theorem Lh.good {A B x y c d e f : Int} {t : Bool} (h : Lh A B x y c d e f t) (hf : f ≤ y) (hd : d + f ≤ x - y) : d = 0 ∨ Lg A B c d e f (!t) := by
  rcases h.st with h' | ⟨h1, h2, h3⟩
  · exact Or.inl h'.2.1
  · refine Or.inr ⟨h.c0, h1, h2, h3, h.ef, ?_⟩
    rcases h.rows with ⟨rfl, h4, h5, h6⟩ | ⟨rfl, h4, h5, h6⟩
    · exact Or.inl ⟨rfl, by rw [Int.mul_comm d e] at *; grind, by rw [← h5]; exact hf, by rw [← h5, ← h4]; exact hd⟩
    · exact Or.inr ⟨rfl, by grind, by rw [← h5]; exact hf, by rw [← h5, ← h4]; exact hd⟩
theorem Lh.step {A B x y c d e f : Int} {t : Bool} (h : Lh A B x y c d e f t) (hf : f ≤ y) :
    Lh A B y (x - x / y * y) e f (c + x / y * e) (d + x / y * f) (!t) ∧ x - x / y * y = x % y ∧ 1 ≤ x / y ∧ x / y ≤ x ∧ 0 ≤ x / y * y ∧ x / y * y ≤ x ∧ 0 ≤ x / y * e ∧ x / y * e ≤ x / y * f ∧ c + x / y * e ≤ d + x / y * f ∧ d + x / y * f ≤ A ∧ 0 ≤ x % y ∧ x % y < y := by
  have hy : 0 < y := by have := h.f1; omega
  have e1 : x - x / y * y = x % y := by have := Int.emod_add_mul_ediv x y; rw [Int.mul_comm] at this; omega
  have r0 := Int.emod_nonneg x (show y ≠ 0 by omega)
  have r1 := Int.emod_lt_of_pos x hy
  have hq1 : 1 ≤ x / y := (Int.le_ediv_iff_mul_le hy).2 (by have := h.hxy; omega)
  have hqx : x / y * 1 ≤ x / y * y := Int.mul_le_mul_of_nonneg_left (by omega) (by omega)
  generalize hq : x / y = q at *
  rw [← e1] at r0 r1
  have q0 : 0 ≤ q * e := Int.mul_nonneg (by omega) h.e0
  have qe : q * e ≤ q * f := Int.mul_le_mul_of_nonneg_left h.ef (by omega)
  have qf : 1 * f ≤ q * f := Int.mul_le_mul_of_nonneg_right hq1 (by have := h.f1; omega)
  have hce : c + q * e ≤ d + q * f := by
    rcases h.st with ⟨rfl, rfl, rfl, rfl⟩ | ⟨h1, h2, h3⟩ <;> omega
  have f1 := h.f1
  have N : Lh A B y (x - q * y) e f (c + q * e) (d + q * f) (!t) := by
    refine ⟨r0, by omega, h.e0, by omega, by have := h.c0; omega, by have := h.d0; omega, hce, ?_, ?_⟩
    · rcases h.rows with ⟨rfl, h4, h5, h6⟩ | ⟨rfl, h4, h5, h6⟩
      · exact Or.inr ⟨rfl, h5, by rw [h4, h5]; grind, by grind⟩
      · exact Or.inl ⟨rfl, h5, by rw [h4, h5]; grind, by grind⟩
    · right
      refine ⟨h.ef, f1, ?_⟩
      rcases h.st with ⟨rfl, rfl, rfl, rfl⟩ | ⟨h1, h2, h3⟩
      · omega
      · have : 1 * e ≤ q * e := Int.mul_le_mul_of_nonneg_right hq1 h.e0
        have := h.c0; omega
  have hA := N.total
  have b1 : (d + q * f) * 1 ≤ (d + q * f) * y := Int.mul_le_mul_of_nonneg_left (by omega) (by have := h.d0; omega)
  have b2 : 0 ≤ f * (x - q * y) := Int.mul_nonneg (by omega) r0
  exact ⟨N, e1, hq1, by omega, by omega, by omega, q0, qe, hce, by omega, by omega, by omega⟩
/-- what the whole numbers become. -/
def nx (X Y a b : Int) (t : Bool) : Int := if t then b * Y - a * X else a * X - b * Y
def ny (X Y c d : Int) (t : Bool) : Int := if t then c * X - d * Y else d * Y - c * X
theorem lo_bd {k z K : Int} (hk : 0 ≤ k) (h1 : z ≤ K - 1) : k * z ≤ k * K - k := by
  have := Int.mul_le_mul_of_nonneg_left h1 hk
  rw [Int.mul_sub, Int.mul_one] at this
  exact this
theorem Lg.whole {A B a b c d : Int} {t : Bool} (h : Lg A B a b c d t) {X Y K x0 y0 : Int} (hK : 0 < K) (eX : X = A * K + x0) (eY : Y = B * K + y0) (hx0 : 0 ≤ x0) (hx1 : x0 < K) (hy0 : 0 ≤ y0) (hy1 : y0 < K) :
    0 ≤ ny X Y c d t ∧ ny X Y c d t < nx X Y a b t ∧ nx X Y a b t ≤ Y ∧ X = d * nx X Y a b t + b * ny X Y c d t ∧ Y = c * nx X Y a b t + a * ny X Y c d t := by
  have h1 := h.a0; have h2 := h.ab; have h3 := h.b1; have h4 := h.c1; have h5 := h.cd
  rcases h.rows with ⟨rfl, dt, g1, g2⟩ | ⟨rfl, dt, g1, g2⟩
  · have n1 : nx X Y a b false = a * X - b * Y := rfl
    have n2 : ny X Y c d false = d * Y - c * X := rfl
    rw [n1, n2]
    have i1 : X = d * (a * X - b * Y) + b * (d * Y - c * X) := by
      have : d * (a * X - b * Y) + b * (d * Y - c * X) = (a * d - b * c) * X := by grind
      rw [this, dt, Int.one_mul]
    have i2 : Y = c * (a * X - b * Y) + a * (d * Y - c * X) := by
      have : c * (a * X - b * Y) + a * (d * Y - c * X) = (a * d - b * c) * Y := by grind
      rw [this, dt, Int.one_mul]
    have k1 : d * Y - c * X = (d * B - c * A) * K + d * y0 - c * x0 := by rw [eX, eY]; grind
    have k2 : (a * X - b * Y) - (d * Y - c * X) = (a * A - b * B - (d * B - c * A)) * K + (a + c) * x0 - (b + d) * y0 := by rw [eX, eY]; grind
    have l1 := lo_bd (k := c) (by omega) (show x0 ≤ K - 1 by omega)
    have l2 := lo_bd (k := b + d) (by omega) (show y0 ≤ K - 1 by omega)
    have l3 : 0 ≤ d * y0 := Int.mul_nonneg (by omega) hy0
    have l4 : 0 ≤ (a + c) * x0 := Int.mul_nonneg (by omega) hx0
    have l5 : d * K ≤ (d * B - c * A) * K := Int.mul_le_mul_of_nonneg_right g1 (by omega)
    have l6 : (b + d) * K ≤ (a * A - b * B - (d * B - c * A)) * K := Int.mul_le_mul_of_nonneg_right g2 (by omega)
    have l7 : c * K ≤ d * K := Int.mul_le_mul_of_nonneg_right h5 (by omega)
    have p0 : 0 ≤ d * Y - c * X := by omega
    have p1 : d * Y - c * X < a * X - b * Y := by omega
    have p2 : 1 * (a * X - b * Y) ≤ c * (a * X - b * Y) := Int.mul_le_mul_of_nonneg_right h4 (by omega)
    have p3 : 0 ≤ a * (d * Y - c * X) := Int.mul_nonneg h1 p0
    exact ⟨p0, p1, by omega, i1, i2⟩
  · have n1 : nx X Y a b true = b * Y - a * X := rfl
    have n2 : ny X Y c d true = c * X - d * Y := rfl
    rw [n1, n2]
    have i1 : X = d * (b * Y - a * X) + b * (c * X - d * Y) := by
      have : d * (b * Y - a * X) + b * (c * X - d * Y) = (b * c - a * d) * X := by grind
      rw [this, dt, Int.one_mul]
    have i2 : Y = c * (b * Y - a * X) + a * (c * X - d * Y) := by
      have : c * (b * Y - a * X) + a * (c * X - d * Y) = (b * c - a * d) * Y := by grind
      rw [this, dt, Int.one_mul]
    have k1 : c * X - d * Y = (c * A - d * B) * K + c * x0 - d * y0 := by rw [eX, eY]; grind
    have k2 : (b * Y - a * X) - (c * X - d * Y) = (b * B - a * A - (c * A - d * B)) * K + (b + d) * y0 - (a + c) * x0 := by rw [eX, eY]; grind
    have l1 := lo_bd (k := d) (by omega) (show y0 ≤ K - 1 by omega)
    have l2 := lo_bd (k := a + c) (by omega) (show x0 ≤ K - 1 by omega)
    have l3 : 0 ≤ c * x0 := Int.mul_nonneg (by omega) hx0
    have l4 : 0 ≤ (b + d) * y0 := Int.mul_nonneg (by omega) hy0
    have l5 : d * K ≤ (c * A - d * B) * K := Int.mul_le_mul_of_nonneg_right g1 (by omega)
    have l6 : (b + d) * K ≤ (b * B - a * A - (c * A - d * B)) * K := Int.mul_le_mul_of_nonneg_right g2 (by omega)
    have l7 : (a + c) * K ≤ (b + d) * K := Int.mul_le_mul_of_nonneg_right (by omega) (by omega)
    have p0 : 0 ≤ c * X - d * Y := by omega
    have p1 : c * X - d * Y < b * Y - a * X := by omega
    have p2 : 1 * (b * Y - a * X) ≤ c * (b * Y - a * X) := Int.mul_le_mul_of_nonneg_right h4 (by omega)
    have p3 : 0 ≤ a * (c * X - d * Y) := Int.mul_nonneg h1 p0
    exact ⟨p0, p1, by omega, i1, i2⟩
theorem gcd_same {X Y X' Y' a b c d : Int} {t : Bool} (i1 : X = d * X' + b * Y') (i2 : Y = c * X' + a * Y') (e1 : X' = nx X Y a b t) (e2 : Y' = ny X Y c d t) : Int.gcd X' Y' = Int.gcd X Y := by
  apply Nat.dvd_antisymm
  · have h1 := Int.gcd_dvd_left X' Y'
    have h2 := Int.gcd_dvd_right X' Y'
    refine Int.natCast_dvd_natCast.1 (Int.dvd_coe_gcd ?_ ?_)
    · rw [i1]; exact Int.dvd_add (Int.dvd_mul_of_dvd_right h1) (Int.dvd_mul_of_dvd_right h2)
    · rw [i2]; exact Int.dvd_add (Int.dvd_mul_of_dvd_right h1) (Int.dvd_mul_of_dvd_right h2)
  · have h1 := Int.gcd_dvd_left X Y
    have h2 := Int.gcd_dvd_right X Y
    refine Int.natCast_dvd_natCast.1 (Int.dvd_coe_gcd ?_ ?_)
    · rw [e1]; unfold nx; split
      · exact Int.dvd_sub (Int.dvd_mul_of_dvd_right h2) (Int.dvd_mul_of_dvd_right h1)
      · exact Int.dvd_sub (Int.dvd_mul_of_dvd_right h1) (Int.dvd_mul_of_dvd_right h2)
    · rw [e2]; unfold ny; split
      · exact Int.dvd_sub (Int.dvd_mul_of_dvd_right h1) (Int.dvd_mul_of_dvd_right h2)
      · exact Int.dvd_sub (Int.dvd_mul_of_dvd_right h2) (Int.dvd_mul_of_dvd_right h1)
theorem gcd_div {a b q r : Int} (e : q * b + r = a) : Int.gcd b r = Int.gcd a b := by
  apply Nat.dvd_antisymm
  · have h1 := Int.gcd_dvd_left b r
    have h2 := Int.gcd_dvd_right b r
    refine Int.natCast_dvd_natCast.1 (Int.dvd_coe_gcd ?_ h1)
    rw [← e]; exact Int.dvd_add (Int.dvd_mul_of_dvd_right h1) h2
  · have h1 := Int.gcd_dvd_left a b
    have h2 := Int.gcd_dvd_right a b
    refine Int.natCast_dvd_natCast.1 (Int.dvd_coe_gcd h2 ?_)
    have : r = a - q * b := by omega
    rw [this]; exact Int.dvd_sub h1 (Int.dvd_mul_of_dvd_right h2)
end NumB
end Go.Proofs.YtocfenjampmdlabGreatDoor.B
