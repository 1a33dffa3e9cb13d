/- What the reference's Is answers. -/
/- What the reference's Twos answers; what is gathered. -/
import Derived.Test.YtbecdlibckbbcabDoorPa
namespace Go.Proofs.YtbecdlibckbbcabDoor
open Go.RowKit Num Nmb

theorem isB_no {n d : Nat} (hn : n ≤ 1002000) (h2 : 2 ≤ d) (hd : d * d ≤ n) (h : n % d = 0) : isB n = false := by
  cases hb : isB n
  · rfl
  · exact absurd (Nat.dvd_of_mod_eq_zero h) ((pri_of_isB hb hn).no_div h2 hd)
theorem isB_yes {n d : Nat} (hn : n ≤ 1002000) (h2 : 2 ≤ n) (hd : n < d * d) (h : ∀ e, 2 ≤ e → e < d → n % e ≠ 0) : isB n = true := by
  refine isB_of_pri (pri_of_root h2 fun e h3 h4 h5 => h e h3 ?_ (Nat.mod_eq_zero_of_dvd h5)) (by omega)
  apply Nat.lt_of_not_le
  intro h6
  have := Nat.mul_le_mul h6 h6
  omega
theorem root_lt {n d : Nat} (hn : n ≤ 1002000) (hd : d * d ≤ n) : d ≤ 1001 := by
  apply Nat.le_of_not_lt
  intro h
  have := Nat.mul_le_mul h h
  omega
end Go.Proofs.YtbecdlibckbbcabDoor
namespace Go.Proofs.YtbecdlibckbbcabDoor
open Go.RowKit Num Nmb

theorem two_le {k t m : Nat} (h : 2 ^ k ∣ 2 ^ t * (2 * m + 1)) : k ≤ t := by
  apply Nat.le_of_not_lt
  intro hl
  obtain ⟨d, rfl⟩ : ∃ d, k = t + 1 + d := ⟨k - t - 1, by omega⟩
  obtain ⟨c, hc⟩ := h
  have e : 2 ^ (t + 1 + d) * c = 2 ^ t * (2 * (2 ^ d * c)) := by
    rw [Nat.pow_add, Nat.pow_succ]
    simp only [Nat.mul_assoc]
  rw [e] at hc
  have := Nat.eq_of_mul_eq_mul_left (Nat.pow_pos (by decide)) hc
  omega
theorem two_uniq {a b m l : Nat} (h : 2 ^ a * (2 * m + 1) = 2 ^ b * (2 * l + 1)) : a = b :=
  Nat.le_antisymm (two_le (m := l) ⟨2 * m + 1, h.symm⟩) (two_le (m := m) ⟨2 * l + 1, h⟩)
/-- 2 goes into n just t times. -/
def Tw (n t : Nat) : Prop := ∃ m, n = 2 ^ t * (2 * m + 1)
theorem gath_mem {u x : Nat} : ∀ {q : Nat}, x ∈ gath u q → isB x = true ∧ ∃ j, 1 ≤ j ∧ j ≤ q ∧ x = 1 + u * j
  | 0, h => by cases h
  | q + 1, h => by
    rw [gath] at h
    split at h
    · rename_i hb
      rcases List.mem_cons.1 h with rfl | h
      · exact ⟨hb, q + 1, by omega, by omega, rfl⟩
      · obtain ⟨h1, j, h2, h3, h4⟩ := gath_mem h
        exact ⟨h1, j, h2, by omega, h4⟩
    · obtain ⟨h1, j, h2, h3, h4⟩ := gath_mem h
      exact ⟨h1, j, h2, by omega, h4⟩
theorem gath_down {u : Nat} (hu : 0 < u) : ∀ q, (gath u q).Pairwise (fun a b => b < a)
  | 0 => List.Pairwise.nil
  | q + 1 => by
    rw [gath]
    split
    · refine List.Pairwise.cons (fun x hx => ?_) (gath_down hu q)
      obtain ⟨_, j, _, h3, rfl⟩ := gath_mem hx
      have : u * j < u * (q + 1) := Nat.mul_lt_mul_of_pos_left (by omega) hu
      omega
    · exact gath_down hu q
theorem gath_lt {u x below : Nat} (_hu : 2 ≤ u) (hb : 2 ≤ below) (h : x ∈ gath u ((below - 2) / u)) : x < below := by
  obtain ⟨_, j, _, h3, rfl⟩ := gath_mem h
  have h4 : u * j ≤ u * ((below - 2) / u) := Nat.mul_le_mul_left u h3
  have h5 := Nat.mul_div_le (below - 2) u
  omega
end Go.Proofs.YtbecdlibckbbcabDoor
