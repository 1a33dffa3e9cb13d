/- What 'wordAt', 'gcdOfWords' and 'timesLess' answer. -/
import Derived.Test.YtocfenjampmdlabGreatDoorBMovb
import Derived.Test.YtocfenjampmdlabGreatDoorBDivm
import Derived.Test.YtocfenjampmdlabGreatDoorBLeh
namespace Go.Proofs.YtocfenjampmdlabGreatDoor.B
open Go.RowKit NumB

/-- word j of a number, or 0 behind its end. -/
def wy (y : Nat → Int) (p m j : Nat) : Int := if j < m then y (p + j) else 0
/-- the numbers of 'timesLess'. -/
theorem tl_room {X2 X3 : Nat → Int} {m N : Nat} {c T S : Int} (hm : m ≤ N) (h1 : V X3 0 m - c * P m = V X2 0 m - S) (h2 : V X2 0 N = T) (h3 : ∀ j, m ≤ j → X3 j = X2 j) (hw : Wd X3 0 m) (hle : S ≤ T) :
    c ≤ V X3 m (N - m) ∧ V X3 0 m + P m * (V X3 m (N - m) - c) = T - S := by
  have e : V X2 0 N = V X2 0 m + P m * V X2 m (N - m) := by
    have := V_split X2 0 m (N - m)
    rw [Nat.zero_add, show m + (N - m) = N by omega] at this
    exact this
  have e3 : V X3 m (N - m) = V X2 m (N - m) := V_congr _ (fun j hj => h3 _ (by omega))
  have hb := V_bd m hw
  have hp := P_pos m
  rw [e3]
  generalize V X2 m (N - m) = H at *
  have k : P m * (H - c) = P m * H - c * P m := by grind
  have t : V X3 0 m + P m * (H - c) = T - S := by rw [k]; omega
  refine ⟨?_, t⟩
  apply Int.not_lt.1
  intro hc
  have : P m * (H - c) ≤ P m * (-1) := Int.mul_le_mul_of_nonneg_left (by omega) (by omega)
  omega
theorem tl_first {X1 : Nat → Int} {n N : Nat} {c T : Int} (hn : n < N) (h1 : V X1 0 n + c * P n = T) (h2 : ∀ j, n ≤ j → X1 j = 0) : V (upd X1 n c) 0 N = T := by
  have e := V_split (upd X1 n c) 0 (n + 1) (N - (n + 1))
  rw [Nat.zero_add, show n + 1 + (N - (n + 1)) = N by omega] at e
  have z : V (upd X1 n c) (n + 1) (N - (n + 1)) = 0 := V_zero _ (fun j _ => by rw [upd_other _ _ _ _ (by omega)]; exact h2 _ (by omega))
  have t := V_upd_top X1 0 n c
  rw [Nat.zero_add] at t
  rw [e, z, t, h1]; simp
end Go.Proofs.YtocfenjampmdlabGreatDoor.B
