/- What 'euclid' answers: several of Euclid's steps. -/
/- What 'Gcd' answers: the greatest number that divides both. -/
import Derived.Test.YtocfenjampmdlaaGreatDoorBIntn
import Derived.Deep.RegionHeld3
namespace Go.Proofs.YtocfenjampmdlaaGreatDoor.B
open Go.RowKit NumB

theorem head_split {x : Nat → Int} {o k : Nat} (h : Wd x o (k + 2)) {K M : Int} (hM : 0 < M) (hKM : K * M = 18446744073709551616) :
    ∃ r, V x o (k + 2) = (x (o + (k + 1)) * K + x (o + k) / M) * (P k * M) + r ∧ 0 ≤ r ∧ r < P k * M := by
  have e : V x o (k + 2) = V x o k + x (o + k) * P k + x (o + (k + 1)) * (P k * 18446744073709551616) := rfl
  have hb := V_bd k (h.mono (by omega))
  have hp := P_pos k
  have d1 := Int.emod_add_mul_ediv (x (o + k)) M
  have d2 := Int.emod_nonneg (x (o + k)) (show M ≠ 0 by omega)
  have d3 := Int.emod_lt_of_pos (x (o + k)) hM
  refine ⟨x (o + k) % M * P k + V x o k, ?_, ?_, ?_⟩
  · rw [e, ← hKM]
    generalize x (o + (k + 1)) = t1 at *
    generalize hq : x (o + k) / M = q at *
    generalize hr : x (o + k) % M = r at *
    have : x (o + k) = r + M * q := by omega
    rw [this]; grind
  · have := Int.mul_nonneg d2 (Int.le_of_lt hp); omega
  · have : (x (o + k) % M + 1) * P k ≤ M * P k := Int.mul_le_mul_of_nonneg_right (by omega) (by omega)
    rw [Int.add_mul, Int.one_mul] at this
    rw [Int.mul_comm (P k) M]
    omega
theorem V_ext (y : Nat → Int) (p m n : Nat) (h : m ≤ n) : V (fun j => wy y p m j) 0 n = V y p m := by
  obtain ⟨r, rfl⟩ := Nat.le.dest h
  rw [V_split, Nat.zero_add, V_zero r (fun j _ => by show wy y p m (m + j) = 0; unfold wy; rw [if_neg (by omega)])]
  rw [V_congr (x := fun j => wy y p m j) (y := y) (o := 0) (p := p) m (fun j hj => by show wy y p m (0 + j) = _; unfold wy; rw [Nat.zero_add, if_pos hj])]
  simp
theorem top_le {x y : Nat → Int} {o p m k : Nat} (hx : Wd x o (k + 2)) (hy : Wd y p m) (hm : m ≤ k + 2) (h : V y p m ≤ V x o (k + 2)) : wy y p m (k + 1) ≤ x (o + (k + 1)) := by
  have hw : Wd (fun j => wy y p m j) 0 (k + 1) := fun j _ => by rw [Nat.zero_add]; exact wy_bd hy j
  have e1 : V (fun j => wy y p m j) 0 (k + 2) = V (fun j => wy y p m j) 0 (k + 1) + wy y p m (0 + (k + 1)) * P (k + 1) := rfl
  rw [V_ext y p m (k + 2) hm, Nat.zero_add] at e1
  have e2 : V x o (k + 2) = V x o (k + 1) + x (o + (k + 1)) * P (k + 1) := rfl
  have b1 := (V_bd (k + 1) hw).1
  have b2 := (V_bd (k + 1) (hx.mono (by omega))).2
  have hp := P_pos (k + 1)
  apply Int.not_lt.1
  intro hc
  have : (x (o + (k + 1)) + 1) * P (k + 1) ≤ wy y p m (k + 1) * P (k + 1) := Int.mul_le_mul_of_nonneg_right (by omega) (by omega)
  rw [Int.add_mul, Int.one_mul] at this
  omega
/-- what the heads are. -/
structure Hd (X Y A B D x0 y0 : Int) : Prop where
  hD : 0 < D
  eX : X = A * D + x0
  eY : Y = B * D + y0
  px : 0 ≤ x0
  lx : x0 < D
  py : 0 ≤ y0
  ly : y0 < D
theorem Hd.le {X Y A B D x0 y0 : Int} (h : Hd X Y A B D x0 y0) (hle : Y ≤ X) : B ≤ A := by
  apply Int.not_lt.1
  intro hc
  have : (A + 1) * D ≤ B * D := Int.mul_le_mul_of_nonneg_right (by omega) (Int.le_of_lt h.hD)
  rw [Int.add_mul, Int.one_mul] at this
  have := h.eX; have := h.eY; have := h.lx; have := h.py
  omega
/-- what one call of 'euclid' does to two numbers. -/
structure Eu (X Y X' Y' : Int) : Prop where
  h0 : 0 ≤ Y'
  h1 : Y' < Y
  h2 : Y' ≤ X'
  h3 : X' ≤ Y
  g : Int.gcd X' Y' = Int.gcd X Y
theorem Eu.of {X Y A B D x0 y0 a b c d : Int} {t : Bool} (H : Hd X Y A B D x0 y0) (h : Lg A B a b c d t) : Eu X Y (NumB.nx X Y a b t) (NumB.ny X Y c d t) := by
  obtain ⟨p0, p1, p2, i1, i2⟩ := h.whole H.hD H.eX H.eY H.px H.lx H.py H.ly
  exact ⟨p0, by omega, by omega, p2, gcd_same i1 i2 rfl rfl⟩
theorem bt4 {B : Nat} {w w1 w2 : World} (h : Below B w w1) (k : Below w1.heap.size w1 w2) (hB : B ≤ w1.heap.size := by first | exact Nat.le_refl _ | omega) : Below B w w2 := h.trans (k.mono hB)
end Go.Proofs.YtocfenjampmdlaaGreatDoor.B
namespace Go.Proofs.YtocfenjampmdlaaGreatDoor.B
open Go.RowKit NumB

theorem Nt.one_num {w : World} {v : Value} {m m' : Nat} {Y Y' : Int} (h : Nt w v m Y) (k : Nt w v m' Y') : Y = Y' := by
  obtain ⟨y, p, ⟨ao, cap, rfl, _, _, _, _, h5⟩, rfl⟩ := h
  obtain ⟨z, q, ⟨bo, cap', e, _, _, _, _, k5⟩, rfl⟩ := k
  cases e
  refine V_congr m (fun j hj => ?_)
  obtain ⟨b, off, e1, _, hc⟩ := h5 (by omega)
  obtain ⟨b', off', e2, _, kc⟩ := k5 (by omega)
  rw [e1] at e2
  cases e2
  have := (hc j hj).symm.trans (kc j hj)
  simpa using this
/-- there is a function that reads a number out of memory. -/
theorem numOf_is : ∃ f : World → Value → Nat, ∀ (w : World) (v : Value) (m : Nat) (Y : Int), Nt w v m Y → f w v = Y.toNat := by
  classical
  refine ⟨fun w v => if h : ∃ p : Nat × Int, Nt w v p.1 p.2 then (Classical.choose h).2.toNat else 0, fun w v m Y h => ?_⟩
  have hh : ∃ p : Nat × Int, Nt w v p.1 p.2 := ⟨(m, Y), h⟩
  show (if h : ∃ p : Nat × Int, Nt w v p.1 p.2 then (Classical.choose h).2.toNat else 0) = _
  rw [dif_pos hh, (Classical.choose_spec hh).one_num h]
theorem Nz.one (w : World) (a : Int) (h0 : 0 < a) (h1 : a ≤ 18446744073709551615) : Nz (w.alloc (.cells #[.int .u64 a] 23)) (.slice (some ⟨w.heap.size, 0, none⟩) 1 1) 1 a := by
  obtain ⟨x, o, s, e⟩ := Nt.one w a (by omega) h1
  refine ⟨x, o, s, Or.inr ?_, e⟩
  have : V x o 1 = x (o + 0) := by simp [V, P]
  rw [this] at e
  show x (o + 0) ≠ 0
  omega
theorem cmpI_lt' {a b : Int} (h : a < b) : cmpI a b = -1 := by unfold cmpI; rw [if_pos h]
theorem cmpI_ge' {a b : Int} (h : ¬ a < b) : ¬ cmpI a b < 0 := by unfold cmpI; rw [if_neg h]; split <;> decide
/-- what the loop of 'Gcd' keeps. -/
def Grel (G L : Nat) (w : World) (xv yv : Value) (wr : World) : Prop := ∃ (n m : Nat) (X Y : Int), Nz wr xv n X ∧ Nz wr yv m Y ∧ Y ≤ X ∧ X < P L ∧ Int.gcd X Y = G ∧ Below w.heap.size w wr
end Go.Proofs.YtocfenjampmdlaaGreatDoor.B
