/- What 'DivWord' and 'DivMod' answer: how often a number goes into another, and what is left. -/
import Derived.Test.YtocfenjampmdlabGreatDoorBDivw
namespace Go.Proofs.YtocfenjampmdlabGreatDoor.B
open Go.RowKit NumB

theorem Row.one (w : World) (a : Int) : Row (w.alloc (.cells #[.int .u64 a] 22)) w.heap.size 1 (fun _ => a) :=
  ⟨#[.int .u64 a], heap_alloc_new w _, rfl, fun j hj => by have : j = 0 := by omega
                                                           subst this; rfl⟩
theorem Nt.one (w : World) (a : Int) (h0 : 0 ≤ a) (h1 : a ≤ 18446744073709551615) : Nt (w.alloc (.cells #[.int .u64 a] 22)) (.slice (some ⟨w.heap.size, 0, none⟩) 1 1) 1 a :=
  ⟨fun _ => a, 0, (Row.one w a).sl 0 1 1 (Nat.le_refl _) (Nat.le_refl _) (by omega) (fun _ _ => ⟨h0, h1⟩), by simp [V, P]⟩
theorem Nt.of_row {w : World} {g k : Nat} {X : Nat → Int} {a : Int} (hR : Row w g k X) (hW : Wd X 0 k) (hV : V X 0 k = a) (hk : k ≤ 9223372036854775807) : Nt w (.slice (some ⟨g, 0, none⟩) k k) k a :=
  ⟨X, 0, hR.sl 0 k k (by omega) (Nat.le_refl _) hk hW, hV⟩
theorem Nz.of_row {w : World} {g k : Nat} {X : Nat → Int} {a : Int} (hR : Row w g k X) (hW : Wd X 0 k) (hN : Nm X 0 k) (hV : V X 0 k = a) (hk : k ≤ 9223372036854775807) : Nz w (.slice (some ⟨g, 0, none⟩) k k) k a :=
  ⟨X, 0, hR.sl 0 k k (by omega) (Nat.le_refl _) hk hW, hN, hV⟩

theorem Nz.len {w : World} {v : Value} {k : Nat} {a : Int} (h : Nz w v k a) : (a = 0 ↔ k = 0) ∧ (a < P 1 → k ≤ 1) := by
  obtain ⟨x, o, h1, h2, rfl⟩ := h
  cases k with
  | zero => simp [V]
  | succ k =>
    have h3 := V_ge h1.wd (by rcases h2 with h | h; omega; simpa using h)
    have h4 := P_pos k
    refine ⟨⟨fun h => by omega, fun h => by omega⟩, fun h => ?_⟩
    apply Nat.not_lt.1
    intro hk
    have := P_le (show 1 ≤ k by omega)
    omega

theorem cmpI_lt {a b : Int} (h : a < b) : cmpI a b = -1 := by unfold cmpI; rw [if_pos h]
theorem cmpI_ge {a b : Int} (h : ¬ a < b) : 0 ≤ cmpI a b := by unfold cmpI; rw [if_neg h]; split <;> decide
theorem Nz.drewN {w : World} {v : Value} {k : Nat} {a : Int} (h : Nz w v k a) (i : Nat) : Nz (w.drewN i) v k a := h
theorem Nt.drewN {w : World} {v : Value} {k : Nat} {a : Int} (h : Nt w v k a) (i : Nat) : Nt (w.drewN i) v k a := h
theorem Below.drewN' {B : Nat} {a w : World} (n : Nat) (h : Below B (a.drewN n) w) : Below B a w := ⟨h.os, h.tape, h.output, h.size, h.block⟩

end Go.Proofs.YtocfenjampmdlabGreatDoor.B
