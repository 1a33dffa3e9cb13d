/- Values by pairs: what stands in the list behind each step, in whatever order the pairs are taken. -/
import Derived.Test.YtcclkahoonlieaaDoorQt
namespace Nmb

/-- behind s steps: of each of the blocks of 2 to the sth numbers the values of its part. -/
def Stg (p : Nat) (a : Nat → Int) (w : Int) (k s : Nat) (z : Nat → Int) : Prop := ∀ b j, b < 2 ^ (k - s) → j < 2 ^ s → Cg p (z (b * 2 ^ s + j)) (prt a w k s (rv (k - s) b) j)
theorem Stg.zero {p : Nat} {a : Nat → Int} {w : Int} {k : Nat} {z : Nat → Int} (h : ∀ t, t < 2 ^ k → Cg p (z t) (a (rv k t))) : Stg p a w k 0 z := fun b j hb hj => by
  obtain rfl : j = 0 := by rw [Nat.pow_zero] at hj; omega
  rw [prt_zero, Nat.pow_zero, Nat.mul_one, Nat.add_zero]
  exact h b (by rw [Nat.sub_zero] at hb; exact hb)
theorem Stg.all {p : Nat} {a : Nat → Int} {w : Int} {k : Nat} {z : Nat → Int} (h : Stg p a w k k z) (j : Nat) (hj : j < 2 ^ k) : Cg p (z j) (dft a w (2 ^ k) j) := by
  have := h 0 j (Nat.two_pow_pos _) hj
  rw [Nat.zero_mul, Nat.zero_add, Nat.sub_self] at this
  rw [← prt_all]
  exact this
/-- within a step: the pairs of which D is true were taken. -/
def Mix (p : Nat) (a : Nat → Int) (w : Int) (k s : Nat) (D : Nat → Nat → Prop) (z : Nat → Int) : Prop := ∀ b j, b < 2 ^ (k - (s + 1)) → j < 2 ^ s →
  (D b j → Cg p (z (b * (2 * 2 ^ s) + j)) (prt a w k (s + 1) (rv (k - (s + 1)) b) j) ∧ Cg p (z (b * (2 * 2 ^ s) + j + 2 ^ s)) (prt a w k (s + 1) (rv (k - (s + 1)) b) (j + 2 ^ s))) ∧
  (¬ D b j → Cg p (z (b * (2 * 2 ^ s) + j)) (prt a w k s (rv (k - (s + 1)) b) j) ∧ Cg p (z (b * (2 * 2 ^ s) + j + 2 ^ s)) (prt a w k s (rv (k - (s + 1)) b + 2 ^ (k - (s + 1))) j))
theorem Stg.mix {p : Nat} {a : Nat → Int} {w : Int} {k s : Nat} {z : Nat → Int} (h : Stg p a w k s z) (hs : s < k) : Mix p a w k s (fun _ _ => False) z := fun b j hb hj => by
  refine ⟨fun h => h.elim, fun _ => ?_⟩
  have e : k - s = k - (s + 1) + 1 := by omega
  have e2 : 2 ^ (k - s) = 2 * 2 ^ (k - (s + 1)) := by rw [e, Nat.pow_succ, Nat.mul_comm]
  have h1 := h (2 * b) j (by omega) hj
  have h2 := h (2 * b + 1) j (by omega) hj
  rw [e, rv_even, show 2 * b * 2 ^ s + j = b * (2 * 2 ^ s) + j by rw [Nat.mul_comm 2 b, Nat.mul_assoc]] at h1
  rw [e, rv_odd, show (2 * b + 1) * 2 ^ s + j = b * (2 * 2 ^ s) + j + 2 ^ s by rw [Nat.add_mul, Nat.mul_comm 2 b, Nat.mul_assoc]; omega] at h2
  exact ⟨h1, h2⟩
theorem Mix.stg {p : Nat} {a : Nat → Int} {w : Int} {k s : Nat} {D : Nat → Nat → Prop} {z : Nat → Int} (h : Mix p a w k s D z) (hD : ∀ b j, b < 2 ^ (k - (s + 1)) → j < 2 ^ s → D b j) : Stg p a w k (s + 1) z := fun b j hb hj => by
  rw [Nat.pow_succ, Nat.mul_comm (2 ^ s) 2] at hj ⊢
  by_cases hl : j < 2 ^ s
  · exact ((h b j hb hl).1 (hD b j hb hl)).1
  · obtain ⟨i, rfl⟩ : ∃ i, j = i + 2 ^ s := ⟨j - 2 ^ s, by omega⟩
    have := ((h b i hb (by omega)).1 (hD b i hb (by omega))).2
    rw [Nat.add_assoc] at this
    exact this
theorem apart_at {H b b' j j' : Nat} (hj : j < 2 * H) (hj' : j' < 2 * H) (h : b * (2 * H) + j = b' * (2 * H) + j') : b = b' ∧ j = j' := by
  have h0 : 0 < 2 * H := by omega
  have e1 : (b * (2 * H) + j) / (2 * H) = b := by rw [Nat.mul_comm, Nat.mul_add_div h0, Nat.div_eq_of_lt hj, Nat.add_zero]
  have e2 : (b' * (2 * H) + j') / (2 * H) = b' := by rw [Nat.mul_comm, Nat.mul_add_div h0, Nat.div_eq_of_lt hj', Nat.add_zero]
  have : b = b' := by rw [← e1, h, e2]
  subst this
  exact ⟨rfl, by omega⟩
/-- one pair more. -/
theorem Mix.pair {p : Nat} {a : Nat → Int} {w x : Int} {k s b0 j0 : Nat} {D : Nat → Nat → Prop} {z z' : Nat → Int} (h : Mix p a w k s D z) (R : Rt p w k) (hs : s < k) (hb : b0 < 2 ^ (k - (s + 1))) (hj : j0 < 2 ^ s) (hD : ¬ D b0 j0)
    (hx : Cg p x (w ^ (2 ^ (k - (s + 1)) * j0)))
    (h1 : Cg p (z' (b0 * (2 * 2 ^ s) + j0)) (z (b0 * (2 * 2 ^ s) + j0) + x * z (b0 * (2 * 2 ^ s) + j0 + 2 ^ s)))
    (h2 : Cg p (z' (b0 * (2 * 2 ^ s) + j0 + 2 ^ s)) (z (b0 * (2 * 2 ^ s) + j0) - x * z (b0 * (2 * 2 ^ s) + j0 + 2 ^ s)))
    (h3 : ∀ t, t < 2 ^ k → t ≠ b0 * (2 * 2 ^ s) + j0 → t ≠ b0 * (2 * 2 ^ s) + j0 + 2 ^ s → z' t = z t) : Mix p a w k s (fun b j => D b j ∨ (b = b0 ∧ j = j0)) z' := by
  intro b j hb' hj'
  by_cases e : b = b0 ∧ j = j0
  · obtain ⟨rfl, rfl⟩ := e
    refine ⟨fun _ => ?_, fun hn => absurd (Or.inr ⟨rfl, rfl⟩) hn⟩
    obtain ⟨g1, g2⟩ := (h b j hb hj).2 hD
    have m := hx.mul g2
    exact ⟨h1.trans ((g1.add m).trans (Cg.of_eq (prt_low a w hs _ _).symm)), h2.trans ((g1.sub m).trans (R.high a hs _ _).symm)⟩
  · have hk : 2 ^ k = 2 ^ (k - (s + 1)) * (2 * 2 ^ s) := by
      have : 2 * 2 ^ s = 2 ^ (s + 1) := by rw [Nat.pow_succ, Nat.mul_comm]
      rw [this, ← Nat.pow_add, show k - (s + 1) + (s + 1) = k by omega]
    have lt : b * (2 * 2 ^ s) + (2 * 2 ^ s) ≤ 2 ^ k := by
      rw [hk, ← Nat.succ_mul]
      exact Nat.mul_le_mul_right _ hb'
    have n1 : ∀ i, i < 2 * 2 ^ s → (i = j ∨ i = j + 2 ^ s) → ∀ i', i' < 2 * 2 ^ s → (i' = j0 ∨ i' = j0 + 2 ^ s) → b * (2 * 2 ^ s) + i ≠ b0 * (2 * 2 ^ s) + i' := fun i hi hi2 i' hi' hi3 he => by
      obtain ⟨eb, ei⟩ := apart_at hi hi' he
      exact e ⟨eb, by omega⟩
    have z1 : z' (b * (2 * 2 ^ s) + j) = z (b * (2 * 2 ^ s) + j) := h3 _ (by omega) (n1 j (by omega) (Or.inl rfl) j0 (by omega) (Or.inl rfl)) (by
      rw [Nat.add_assoc]; exact n1 j (by omega) (Or.inl rfl) (j0 + 2 ^ s) (by omega) (Or.inr rfl))
    have z2 : z' (b * (2 * 2 ^ s) + j + 2 ^ s) = z (b * (2 * 2 ^ s) + j + 2 ^ s) := h3 _ (by omega) (by
      rw [Nat.add_assoc]; exact n1 (j + 2 ^ s) (by omega) (Or.inr rfl) j0 (by omega) (Or.inl rfl)) (by
      rw [Nat.add_assoc, Nat.add_assoc]; exact n1 (j + 2 ^ s) (by omega) (Or.inr rfl) (j0 + 2 ^ s) (by omega) (Or.inr rfl))
    rw [z1, z2]
    refine ⟨fun hd => (h b j hb' hj').1 ?_, fun hn => (h b j hb' hj').2 fun hd => hn (Or.inl hd)⟩
    rcases hd with hd | hd
    · exact hd
    · exact absurd hd e
theorem Mix.iff {p : Nat} {a : Nat → Int} {w : Int} {k s : Nat} {D D' : Nat → Nat → Prop} {z : Nat → Int} (h : Mix p a w k s D z) (e : ∀ b j, b < 2 ^ (k - (s + 1)) → j < 2 ^ s → (D' b j ↔ D b j)) : Mix p a w k s D' z := fun b j hb hj =>
  ⟨fun hd => (h b j hb hj).1 ((e b j hb hj).1 hd), fun hd => (h b j hb hj).2 fun h' => hd ((e b j hb hj).2 h')⟩
end Nmb
