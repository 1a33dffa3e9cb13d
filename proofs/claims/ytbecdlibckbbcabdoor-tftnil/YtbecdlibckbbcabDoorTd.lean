/- What is asked of tft's Back, and that it is told by its values. -/
import Derived.Test.YtbecdlibckbbcabDoorTr
namespace Go.Proofs.YtbecdlibckbbcabDoor
open Go.RowKit Num Nmb

/-- b is the polynomial of n coefficients that has the values a at the first points. -/
def Fnd (p k r n : Nat) (a b : Nat → Int) : Prop := ∀ j, j < n → 0 ≤ b j ∧ b j < p ∧ ev b n ((r : Int) ^ rv k j) % p = a j % p
theorem Fnd.is {p k r n : Nat} {a b c : Nat → Int} (h : Fnd p k r n a b) (T : TabOk p k r) (hn : n ≤ 2 ^ k) (hc : ∀ j, j < n → ev c n ((r : Int) ^ rv k j) % p = a j % p) (j : Nat) (hj : j < n) : b j = c j % p := by
  have h1 := T.pri.tell (n := n) (a := b) (b := c) (x := fun j => (r : Int) ^ rv k j) (fun i j hij hj => T.rt.points i j hij (by omega)) (fun i hi => (h i hi).2.2.trans (hc i hi).symm) j hj
  have h2 := h j hj
  unfold Cg at h1
  rw [Int.emod_eq_of_lt h2.1 h2.2.1] at h1
  exact h1
/-- Back of Go. -/
theorem Fnd.back {p k r n : Nat} {a b c : Nat → Int} (h : Fnd p k r n b c) (T : TabOk p k r) (hn : n ≤ 2 ^ k) (hb : ∀ j, j < n → b j = ev a n ((r : Int) ^ rv k j) % p) (j : Nat) (hj : j < n) : c j = a j % p :=
  h.is T hn (fun i hi => by rw [hb i hi, Int.emod_emod_of_dvd _ (Int.dvd_refl _)]) j hj
end Go.Proofs.YtbecdlibckbbcabDoor
