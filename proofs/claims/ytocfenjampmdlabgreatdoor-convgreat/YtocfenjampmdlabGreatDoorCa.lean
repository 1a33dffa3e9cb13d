/- Lists of ints; how many coefficients a box has, and where each stands: the reference's Size and Place (chapter 8). -/
import Derived.Test.YtocfenjampmdlabGreatDoorQa
import Derived.BigQuiet
import Derived.OwnWalk
namespace Go.Proofs.YtocfenjampmdlabGreatDoor
open Go.RowKit Num Nmb

/-- 'v' is a slice of the n ints x. -/
def Wi (w : World) (v : Value) (n : Nat) (x : Nat → Int) : Prop :=
  ∃ ao cap, v = .slice ao n cap ∧ n ≤ cap ∧ cap ≤ 9223372036854775807 ∧ (∀ j, j < n → -9223372036854775808 ≤ x j ∧ x j ≤ 9223372036854775807) ∧
    (0 < n → ∃ b off, ao = some ⟨b, off, none⟩ ∧ b < w.heap.size ∧ ∀ j, j < n → w.cell? ⟨b, off + j, none⟩ = some (.int .i64 (x j)))
theorem Wi.below {w w' : World} {v : Value} {n : Nat} {x : Nat → Int} (h : Wi w v n x) (hb : Below w.heap.size w w') : Wi w' v n x := by
  obtain ⟨ao, cap, rfl, h1, h2, h3, h5⟩ := h
  refine ⟨ao, cap, rfl, h1, h2, h3, fun hn => ?_⟩
  obtain ⟨b, off, rfl, hbs, hc⟩ := h5 hn
  refine ⟨b, off, rfl, Nat.lt_of_lt_of_le hbs hb.size, fun j hj => ?_⟩
  rw [hb.cell (p := ⟨b, off + j, none⟩) hbs]; exact hc j hj
theorem Wi.heap {w w' : World} {v : Value} {n : Nat} {x : Nat → Int} (h : Wi w v n x) (e : w'.heap = w.heap) : Wi w' v n x := by
  obtain ⟨ao, cap, rfl, h1, h2, h3, h5⟩ := h
  refine ⟨ao, cap, rfl, h1, h2, h3, fun hn => ?_⟩
  obtain ⟨b, off, rfl, hbs, hc⟩ := h5 hn
  refine ⟨b, off, rfl, by rw [e]; exact hbs, fun j hj => ?_⟩
  unfold World.cell? at *
  rw [e]; exact hc j hj
theorem Wi.drew {w : World} {v : Value} {n : Nat} {x : Nat → Int} (h : Wi w v n x) (k : Nat) : Wi (w.drewN k) v n x := h.heap (by simp)
theorem Wi.val {w : World} {v : Value} {n : Nat} {x : Nat → Int} (h : Wi w v n x) {j : Nat} (hj : j < n) : -9223372036854775808 ≤ x j ∧ x j ≤ 9223372036854775807 := by
  obtain ⟨ao, cap, rfl, h1, h2, h3, h5⟩ := h
  exact h3 j hj
theorem Wi.eq {w : World} {v : Value} {n : Nat} {x y : Nat → Int} (h : Wi w v n x) (e : ∀ j, j < n → x j = y j) : Wi w v n y := by
  obtain ⟨ao, cap, rfl, h1, h2, h3, h5⟩ := h
  refine ⟨ao, cap, rfl, h1, h2, fun j hj => by rw [← e j hj]; exact h3 j hj, fun hn => ?_⟩
  obtain ⟨b, off, rfl, hbs, hc⟩ := h5 hn
  exact ⟨b, off, rfl, hbs, fun j hj => by rw [← e j hj]; exact hc j hj⟩
/-- the product of the first n numbers. -/
def pd (d : Nat → Int) : Nat → Int
  | 0 => 1
  | n + 1 => pd d n * d n
theorem pd_pos {d : Nat → Int} : ∀ {n : Nat}, (∀ i, i < n → 1 ≤ d i) → 1 ≤ pd d n
  | 0, _ => by show (1 : Int) ≤ 1; omega
  | n + 1, h => by
    have h1 := pd_pos (n := n) (fun i hi => h i (by omega))
    have h2 := h n (by omega)
    show 1 ≤ pd d n * d n
    have := Int.mul_le_mul h1 h2 (by omega) (by omega)
    omega
theorem pd_step {d : Nat → Int} {n : Nat} (h : ∀ i, i < n + 1 → 1 ≤ d i) : pd d n ≤ pd d (n + 1) ∧ d n ≤ pd d (n + 1) := by
  have h1 := pd_pos (n := n) (fun i hi => h i (by omega))
  have h2 := h n (by omega)
  show pd d n ≤ pd d n * d n ∧ d n ≤ pd d n * d n
  constructor
  · have := Int.mul_le_mul_of_nonneg_left h2 (show 0 ≤ pd d n by omega)
    omega
  · have := Int.mul_le_mul_of_nonneg_right h1 (show 0 ≤ d n by omega)
    omega
theorem pd_mono {d : Nat → Int} {n : Nat} (h : ∀ i, i < n → 1 ≤ d i) (k : Nat) (hk : k ≤ n) : pd d k ≤ pd d n := by
  obtain ⟨t, rfl⟩ : ∃ t, n = k + t := ⟨n - k, by omega⟩
  clear hk
  induction t with
  | zero => exact Int.le_refl _
  | succ t ih =>
    have h1 := ih (fun i hi => h i (by omega))
    have h2 := (pd_step (d := d) (n := k + t) (fun i hi => h i (by omega))).1
    exact Int.le_trans h1 h2
/-- what Size answers. -/
def SzIs (d : Nat → Int) (n : Nat) (r er : Int) : Prop :=
  ((8 < n ∨ ∃ i, i < n ∧ d i < 1) ∧ r = 0 ∧ er = 1) ∨ (n ≤ 8 ∧ (∀ i, i < n → 1 ≤ d i) ∧ (65536 < pd d n ∧ r = 0 ∧ er = 13 ∨ pd d n ≤ 65536 ∧ r = pd d n ∧ er = 0))
theorem SzIs.uniq {d : Nat → Int} {n : Nat} {r er r' er' : Int} (h : SzIs d n r er) (h' : SzIs d n r' er') : r = r' ∧ er = er' := by
  rcases h with ⟨h1, h2, h3⟩ | ⟨h1, h2, h3⟩ <;> rcases h' with ⟨g1, g2, g3⟩ | ⟨g1, g2, g3⟩
  · omega
  · rcases h1 with h1 | ⟨i, hi, h1⟩
    · omega
    · have := g2 i hi; omega
  · rcases g1 with g1 | ⟨i, hi, g1⟩
    · omega
    · have := h2 i hi; omega
  · omega
theorem SzIs.ok {d : Nat → Int} {n : Nat} {r er : Int} (h : SzIs d n r er) (he : er = 0) : n ≤ 8 ∧ (∀ i, i < n → 1 ≤ d i) ∧ pd d n ≤ 65536 ∧ r = pd d n := by
  rcases h with ⟨h1, h2, h3⟩ | ⟨h1, h2, h3⟩
  · omega
  · refine ⟨h1, h2, ?_, ?_⟩ <;> omega
/-- the place of exponents. -/
def pl (d e : Nat → Int) : Nat → Int
  | 0 => 0
  | k + 1 => pl d e k * d k + e k
theorem pl_lt {d e : Nat → Int} : ∀ {n : Nat}, (∀ i, i < n → 0 ≤ e i ∧ e i < d i) → 0 ≤ pl d e n ∧ pl d e n < pd d n
  | 0, _ => by show (0 : Int) ≤ 0 ∧ (0 : Int) < 1; omega
  | n + 1, h => by
    have h1 := pl_lt (n := n) (fun i hi => h i (by omega))
    have h2 := h n (by omega)
    show 0 ≤ pl d e n * d n + e n ∧ pl d e n * d n + e n < pd d n * d n
    have a1 := Int.mul_nonneg h1.1 (show 0 ≤ d n by omega)
    have a2 : (pl d e n + 1) * d n ≤ pd d n * d n := Int.mul_le_mul_of_nonneg_right (by omega) (by omega)
    rw [Int.add_mul] at a2
    omega
/-- what Place answers. -/
def PlIs (d : Nat → Int) (n : Nat) (e : Nat → Int) (m : Nat) (r er : Int) : Prop :=
  (∃ s, SzIs d n s er ∧ er ≠ 0 ∧ r = 0) ∨ (∃ s, SzIs d n s 0) ∧ ((m ≠ n ∨ ∃ i, i < n ∧ ¬ (0 ≤ e i ∧ e i < d i)) ∧ r = 0 ∧ er = 1 ∨ m = n ∧ (∀ i, i < n → 0 ≤ e i ∧ e i < d i) ∧ r = pl d e n ∧ er = 0)
theorem PlIs.uniq {d : Nat → Int} {n : Nat} {e : Nat → Int} {m : Nat} {r er r' er' : Int} (h : PlIs d n e m r er) (h' : PlIs d n e m r' er') : r = r' ∧ er = er' := by
  rcases h with ⟨s, S, h1, h2⟩ | ⟨⟨s, S⟩, h1⟩ <;> rcases h' with ⟨s', S', g1, g2⟩ | ⟨⟨s', S'⟩, g1⟩
  · have := S.uniq S'; omega
  · have := S.uniq S'; omega
  · have := S.uniq S'; omega
  · rcases h1 with ⟨h1, h2, h3⟩ | ⟨h1, h2, h3, h4⟩ <;> rcases g1 with ⟨g1, g2, g3⟩ | ⟨g1, g2, g3, g4⟩
    · omega
    · rcases h1 with h1 | ⟨i, hi, h1⟩
      · omega
      · exact absurd (g2 i hi) h1
    · rcases g1 with g1 | ⟨i, hi, g1⟩
      · omega
      · exact absurd (h2 i hi) g1
    · omega
end Go.Proofs.YtocfenjampmdlabGreatDoor
