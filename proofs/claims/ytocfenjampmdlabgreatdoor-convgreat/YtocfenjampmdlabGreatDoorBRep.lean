/- What is printed is parsed: decimal digits of a number, and the number of these. -/
import Derived.Test.YtocfenjampmdlabGreatDoorBParse
namespace Go.Proofs.YtocfenjampmdlabGreatDoor.B
open Go.RowKit NumB
open Go.Lib (decDigits)

theorem dec_small {u : Nat} (h : u < 10) : decDigits u = [UInt8.ofNat (48 + u)] := by rw [decDigits, dif_pos h]
theorem dig_nat {d : Nat} (h : d < 10) : (UInt8.ofNat (48 + d)).toNat = 48 + d := by simp; omega
theorem dec_ind {Q : Nat → Prop} (h0 : ∀ u, u < 10 → Q u) (hs : ∀ u, ¬ u < 10 → Q (u / 10) → Q u) (u : Nat) : Q u := by
  induction u using Nat.strongRecOn with
  | ind u ih =>
    by_cases h : u < 10
    · exact h0 u h
    · exact hs u h (ih _ (by omega))
theorem dval_dec (u : Nat) : dval (decDigits u) = u := by
  refine dec_ind (Q := fun u => dval (decDigits u) = u) (fun u h => ?_) (fun u h ih => ?_) u
  · rw [dec_small h]
    have := dig_nat h
    simp only [dval, List.foldl, this]; omega
  · have := dig_nat (d := u % 10) (by omega)
    rw [decDigits_big h, dval_snoc, ih, this]; omega
theorem digs_dec (u : Nat) : Digs (decDigits u) := by
  refine dec_ind (Q := fun u => Digs (decDigits u)) (fun u h => ?_) (fun u h ih => ?_) u
  · rw [dec_small h]
    have := dig_nat h
    intro c hc
    simp only [List.mem_singleton] at hc
    subst hc; rw [this]; omega
  · have := dig_nat (d := u % 10) (by omega)
    rw [decDigits_big h]
    intro c hc
    rcases List.mem_append.1 hc with hc | hc
    · exact ih c hc
    · simp only [List.mem_singleton] at hc
      subst hc; rw [this]; omega
theorem head_dec (u : Nat) (hu : 0 < u) : ∃ c l, decDigits u = c :: l ∧ c.toNat ≠ 48 := by
  refine dec_ind (Q := fun u => 0 < u → ∃ c l, decDigits u = c :: l ∧ c.toNat ≠ 48) (fun u h h0 => ?_) (fun u h ih h0 => ?_) u hu
  · exact ⟨_, [], dec_small h, by rw [dig_nat h]; omega⟩
  · obtain ⟨c, l, e, hc⟩ := ih (by omega)
    exact ⟨c, l ++ [UInt8.ofNat (48 + u % 10)], by rw [decDigits_big h, e]; rfl, hc⟩
theorem len_dec (u : Nat) : ∀ m, 0 < m → u < 10 ^ m → (decDigits u).length ≤ m := by
  refine dec_ind (Q := fun u => ∀ m, 0 < m → u < 10 ^ m → (decDigits u).length ≤ m) (fun u h m h0 _ => ?_) (fun u h ih m h0 hm => ?_) u
  · rw [dec_small h]; exact h0
  · rw [decDigits_big h, List.length_append, List.length_singleton]
    match m, h0 with
    | 1, _ => omega
    | m + 2, _ =>
      have := ih (m + 1) (by omega) (by rw [Nat.pow_succ] at hm; omega)
      omega
theorem isNum_dec (u : Nat) : IsNum ⟨(decDigits u).toArray⟩ := by
  constructor
  · intro j hj
    exact digs_dec u _ (by show (decDigits u).toArray[j] ∈ _; simp)
  · by_cases h : u = 0
    · subst h
      left
      rw [toList_eq]
      show (decDigits 0) = [48]
      rw [dec_small (by decide)]; rfl
    · right
      obtain ⟨c, l, e, hc⟩ := head_dec u (by omega)
      rw [e]
      exact ⟨by simp [ByteArray.size], hc⟩
theorem P_le_pow : ∀ k, P k ≤ ((10 ^ (20 * k) : Nat) : Int)
  | 0 => by simp [P]
  | k + 1 => by
    have ih := P_le_pow k
    rw [show 20 * (k + 1) = 20 * k + 20 by omega, Nat.pow_add]
    have e : (10 : Nat) ^ 20 = 100000000000000000000 := by decide
    rw [e]
    generalize 10 ^ (20 * k) = p at *
    simp only [P]
    omega
theorem len_dec_nt {w : World} {v : Value} {n A : Nat} (h : Nt w v n A) : (decDigits A).length ≤ 20 * n + 1 := by
  refine len_dec A (20 * n + 1) (by omega) ?_
  have h1 := h.lt
  have h2 := P_le_pow n
  rw [Nat.pow_succ]
  omega
end Go.Proofs.YtocfenjampmdlabGreatDoor.B
