/- What 'Gcd' answers: the greatest number that divides both. -/
import Derived.Test.YtocfenjampmdlabGreatDoorBGce
namespace Go.Proofs.YtocfenjampmdlabGreatDoor.B
open Go.RowKit NumB

theorem Nt.one_num {w : World} {v : Value} {m m' : Nat} {Y Y' : Int} (h : Nt w v m Y) (k : Nt w v m' Y') : Y = Y' := by
  obtain ⟨y, p, ⟨ao, cap, rfl, _, _, _, _, h5⟩, rfl⟩ := h
  obtain ⟨z, q, ⟨bo, cap', e, _, _, _, _, k5⟩, rfl⟩ := k
  cases e
  refine V_congr m (fun j hj => ?_)
  obtain ⟨b, off, e1, _, hc⟩ := h5 (by omega)
  obtain ⟨b', off', e2, _, kc⟩ := k5 (by omega)
  rw [e1] at e2
  cases e2
  have := (hc j hj).symm.trans (kc j hj)
  simpa using this
/-- there is a function that reads a number out of memory. -/
theorem numOf_is : ∃ f : World → Value → Nat, ∀ (w : World) (v : Value) (m : Nat) (Y : Int), Nt w v m Y → f w v = Y.toNat := by
  classical
  refine ⟨fun w v => if h : ∃ p : Nat × Int, Nt w v p.1 p.2 then (Classical.choose h).2.toNat else 0, fun w v m Y h => ?_⟩
  have hh : ∃ p : Nat × Int, Nt w v p.1 p.2 := ⟨(m, Y), h⟩
  show (if h : ∃ p : Nat × Int, Nt w v p.1 p.2 then (Classical.choose h).2.toNat else 0) = _
  rw [dif_pos hh, (Classical.choose_spec hh).one_num h]
theorem Nz.one (w : World) (a : Int) (h0 : 0 < a) (h1 : a ≤ 18446744073709551615) : Nz (w.alloc (.cells #[.int .u64 a] 22)) (.slice (some ⟨w.heap.size, 0, none⟩) 1 1) 1 a := by
  obtain ⟨x, o, s, e⟩ := Nt.one w a (by omega) h1
  refine ⟨x, o, s, Or.inr ?_, e⟩
  have : V x o 1 = x (o + 0) := by simp [V, P]
  rw [this] at e
  show x (o + 0) ≠ 0
  omega
theorem cmpI_lt' {a b : Int} (h : a < b) : cmpI a b = -1 := by unfold cmpI; rw [if_pos h]
theorem cmpI_ge' {a b : Int} (h : ¬ a < b) : ¬ cmpI a b < 0 := by unfold cmpI; rw [if_neg h]; split <;> decide
/-- what the loop of 'Gcd' keeps. -/
def Grel (G L : Nat) (w : World) (xv yv : Value) (wr : World) : Prop := ∃ (n m : Nat) (X Y : Int), Nz wr xv n X ∧ Nz wr yv m Y ∧ Y ≤ X ∧ X < P L ∧ Int.gcd X Y = G ∧ Below w.heap.size w wr
end Go.Proofs.YtocfenjampmdlabGreatDoor.B
