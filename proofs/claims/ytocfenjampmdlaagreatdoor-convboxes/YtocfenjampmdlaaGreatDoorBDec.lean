/- Plain facts on decimal digits: how the digits of groups of nineteen make those of the whole number. -/
import Derived.Lib.ItoaNum
import Derived.Test.YtocfenjampmdlaaGreatDoorBLeh
namespace Go.Proofs.YtocfenjampmdlaaGreatDoor.B
namespace NumB
open Go.Lib (decDigits nDigits)

/-- k digits of g. -/
def padk : Nat → Nat → List UInt8
  | 0, _ => []
  | k + 1, g => padk k (g / 10) ++ [UInt8.ofNat (48 + g % 10)]
theorem decDigits_big {u : Nat} (h : ¬ u < 10) : decDigits u = decDigits (u / 10) ++ [UInt8.ofNat (48 + u % 10)] := by rw [decDigits, dif_neg h]
theorem decDigits_split : ∀ (k m g : Nat), 0 < m → g < 10 ^ k → decDigits (m * 10 ^ k + g) = decDigits m ++ padk k g
  | 0, m, g, _, h => by simp at h; subst h; simp [padk]
  | k + 1, m, g, hm, h => by
    have hp : 10 ^ (k + 1) = 10 ^ k * 10 := Nat.pow_succ 10 k
    have e : m * 10 ^ (k + 1) = m * 10 ^ k * 10 := by rw [hp, Nat.mul_assoc]
    have hmk : 1 ≤ m * 10 ^ k := Nat.mul_pos hm (Nat.pow_pos (by decide))
    rw [decDigits_big (by rw [e]; omega)]
    have e1 : (m * 10 ^ (k + 1) + g) / 10 = m * 10 ^ k + g / 10 := by rw [e]; omega
    have e2 : (m * 10 ^ (k + 1) + g) % 10 = g % 10 := by rw [e]; omega
    rw [e1, e2, decDigits_split k m (g / 10) hm (by omega), padk, List.append_assoc]
theorem padk_eq : ∀ (k g : Nat), 0 < k → g < 10 ^ k → padk k g = List.replicate (k - nDigits g) 48 ++ decDigits g ∧ nDigits g ≤ k
  | 0, _, h, _ => by omega
  | 1, g, _, h => by
    have h : g < 10 := by simpa using h
    rw [Go.Lib.decDigits_one h, Go.Lib.nDigits_small h]
    simp [padk, Nat.mod_eq_of_lt h]
  | k + 2, g, _, h => by
    have hp : 10 ^ (k + 2) = 10 ^ (k + 1) * 10 := Nat.pow_succ 10 (k + 1)
    obtain ⟨ih, il⟩ := padk_eq (k + 1) (g / 10) (by omega) (by omega)
    by_cases h10 : g < 10
    · rw [Go.Lib.decDigits_one h10, Go.Lib.nDigits_small h10]
      rw [show g / 10 = 0 by omega, Go.Lib.decDigits_one (by decide : (0 : Nat) < 10), Go.Lib.nDigits_small (by decide : (0 : Nat) < 10)] at ih
      refine ⟨?_, by omega⟩
      rw [padk, show g / 10 = 0 by omega, ih, Nat.mod_eq_of_lt h10]
      rw [show k + 2 - 1 = (k + 1 - 1) + 1 by omega, List.replicate_succ']
      rfl
    · rw [decDigits_big h10, Go.Lib.nDigits_big h10]
      refine ⟨?_, by omega⟩
      rw [padk, ih, List.append_assoc, show k + 2 - (nDigits (g / 10) + 1) = k + 1 - nDigits (g / 10) by omega]

def gB : Nat := 10000000000000000000
theorem gB_pow : gB = 10 ^ 19 := by decide
/-- the number of groups, the lowest one first. -/
def gv : List Nat → Nat
  | [] => 0
  | g :: t => g + gB * gv t
theorem gv_snoc : ∀ (l : List Nat) (g : Nat), gv (l ++ [g]) = gv l + g * gB ^ l.length
  | [], g => by simp [gv]
  | h :: t, g => by
    simp only [List.cons_append, gv, List.length_cons, Nat.pow_succ]
    rw [gv_snoc t g]
    generalize gv t = x
    generalize gB ^ t.length = p
    generalize gB = b
    grind
theorem gv_pos : ∀ (l : List Nat), (∃ t, l.getLast? = some t ∧ t ≠ 0) → 0 < gv l
  | [], h => by obtain ⟨t, h, _⟩ := h; simp at h
  | [g], h => by obtain ⟨t, h, h2⟩ := h; simp at h; subst h; simp [gv]; omega
  | g :: k :: t, h => by
    have := gv_pos (k :: t) (by simpa [List.getLast?_cons_cons] using h)
    rw [gv]
    have h2 : 0 < gB := by decide
    have := Nat.mul_pos h2 this
    omega
theorem dec_group (g m : Nat) (hg : g < gB) (hm : 0 < m) : decDigits (g + gB * m) = decDigits m ++ (List.replicate (19 - nDigits g) 48 ++ decDigits g) ∧ nDigits g ≤ 19 := by
  obtain ⟨h1, h2⟩ := padk_eq 19 g (by decide) (by rw [← gB_pow]; exact hg)
  refine ⟨?_, h2⟩
  have := decDigits_split 19 m g hm (by rw [← gB_pow]; exact hg)
  rw [← gB_pow] at this
  rw [Nat.add_comm, Nat.mul_comm, this, h1]
theorem group_len {n len A : Nat} (h : gB ^ len ≤ A) (hA : (A : Int) < P n) : len < 2 * n := by
  apply Nat.lt_of_not_le
  intro hc
  have h1 : gB ^ (2 * n) ≤ gB ^ len := Nat.pow_le_pow_right (by decide) hc
  have h2 : ∀ k : Nat, P k ≤ ((gB ^ (2 * k) : Nat) : Int) := by
    intro k
    induction k with
    | zero => decide
    | succ k ih =>
      simp only [P]
      rw [show 2 * (k + 1) = 2 * k + 2 by omega, Nat.pow_add, Int.natCast_mul]
      have hp := P_pos k
      have : (18446744073709551616 : Int) ≤ ((gB ^ 2 : Nat) : Int) := by decide
      exact Int.mul_le_mul ih this (by decide) (by omega)
  have := h2 n
  omega
theorem last_drop : ∀ (l : List Nat) (k : Nat), k < l.length → (l.drop k).getLast? = l.getLast? := by
  intro l k hk
  rw [List.getLast?_drop, if_neg (by omega)]
/-- groups, the lowest one first, as functions of their place. -/
theorem groups_fn (gs : List Nat) (h : ∃ t, gs.getLast? = some t ∧ t ≠ 0) : ∃ (m : Nat) (f D : Nat → Nat), gs.length = m + 1 ∧ (∀ j, f j = gs.getD j 0) ∧ D m = f m ∧ (∀ k, k < m → D k = f k + gB * D (k + 1)) ∧ (∀ k, k ≤ m → 0 < D k) ∧ D 0 = gv gs ∧ f m * gB ^ m ≤ gv gs ∧ 0 < f m := by
  obtain ⟨t, ht, ht0⟩ := h
  obtain ⟨m, hm⟩ : ∃ m, gs.length = m + 1 := by
    cases gs with
    | nil => simp at ht
    | cons a t => exact ⟨t.length, rfl⟩
  have hlast : gs[m]'(by omega) = t := by
    rw [List.getLast?_eq_getElem?, hm] at ht
    simpa [List.getElem?_eq_getElem (show m < gs.length by omega)] using ht
  have hf : ∀ j (hj : j < gs.length), gs.getD j 0 = gs[j] := fun j hj => by simp [List.getD, hj]
  have hdm : gs.drop m = [gs[m]'(by omega)] := by rw [List.drop_eq_getElem_cons (by omega), List.drop_eq_nil_of_le (by omega)]
  refine ⟨m, fun j => gs.getD j 0, fun k => gv (gs.drop k), hm, fun _ => rfl, ?_, ?_, ?_, by simp, ?_, ?_⟩
  · show gv (gs.drop m) = gs.getD m 0
    rw [hdm, hf m (by omega)]; simp [gv]
  · intro k hk
    show gv (gs.drop k) = gs.getD k 0 + gB * gv (gs.drop (k + 1))
    rw [List.drop_eq_getElem_cons (by omega), hf k (by omega)]; rfl
  · intro k hk
    exact gv_pos _ ⟨t, by rw [last_drop gs k (by omega)]; exact ht, ht0⟩
  · show gs.getD m 0 * gB ^ m ≤ gv gs
    have e : gs.take m ++ [gs[m]'(by omega)] = gs := by rw [← hdm]; exact List.take_append_drop m gs
    have := gv_snoc (gs.take m) (gs[m]'(by omega))
    rw [e, List.length_take, Nat.min_eq_left (by omega)] at this
    rw [hf m (by omega), this]; omega
  · show 0 < gs.getD m 0
    rw [hf m (by omega), hlast]; omega
end NumB
end Go.Proofs.YtocfenjampmdlaaGreatDoor.B
