/- The reference's products of polynomials. -/
import Derived.Test.YtbecdlibckbbcabDoorQr
import Derived.Test.YtbecdlibckbbcabDoorRgq
import Derived.BigQuiet
namespace Go.Proofs.YtbecdlibckbbcabDoor
open Go.RowKit Num Nmb

/-- what stands at m when the products of the first i of a, and of the first k of b with the next one, were added. -/
def acc (f : Nat → Nat → Nat) (a b : Nat → Int) (lb i k m : Nat) : Int := sm (fun i' => sm (fun l => if f i' l = m then a i' * b l else 0) lb) i + sm (fun l => if f i l = m then a i * b l else 0) k
theorem acc_step (f : Nat → Nat → Nat) (a b : Nat → Int) (lb i k m : Nat) : acc f a b lb i (k + 1) m = acc f a b lb i k m + (if f i k = m then a i * b k else 0) := by
  unfold acc
  rw [sm_succ, Int.add_assoc]
theorem acc_next (f : Nat → Nat → Nat) (a b : Nat → Int) (lb i m : Nat) : acc f a b lb i lb m = acc f a b lb (i + 1) 0 m := by
  unfold acc
  rw [sm_succ]
  exact (Int.add_zero _).symm
theorem acc_zero (f : Nat → Nat → Nat) (a b : Nat → Int) (lb m : Nat) : acc f a b lb 0 0 m = 0 := rfl
theorem acc_prd (a b : Nat → Int) (la lb m : Nat) : acc (fun i l => i + l) a b lb la 0 m = prd a b la lb m := Int.add_zero _
theorem acc_rnd (a b : Nat → Int) (n m : Nat) : acc (fun i l => (i + l) % n) a b n n 0 m = rnd a b n m := Int.add_zero _
/-- the row's numbers are what is left of the sums. -/
def AcR (f : Nat → Nat → Nat) (a b : Nat → Int) (lb i k N : Nat) (p : Int) (z : Nat → Int) : Prop := ∀ m, m < N → z m = acc f a b lb i k m % p
theorem AcR.step {f : Nat → Nat → Nat} {a b : Nat → Int} {lb i k N : Nat} {p : Int} {z : Nat → Int} (h : AcR f a b lb i k N p z) (hf : f i k < N) :
    AcR f a b lb i (k + 1) N p (fun m => if m = f i k then (z (f i k) + a i * b k % p) % p else z m) := by
  intro m hm
  show (if m = f i k then _ else _) = _
  rw [acc_step]
  by_cases e : m = f i k
  · rw [if_pos e, e, if_pos rfl, h _ hf, ← Int.add_emod]
  · rw [if_neg e, if_neg (fun h' => e h'.symm), Int.add_zero]
    exact h m hm
theorem AcR.val {f : Nat → Nat → Nat} {a b : Nat → Int} {lb i k N : Nat} {p : Int} {z : Nat → Int} (h : AcR f a b lb i k N p z) (hp : 0 < p) {m : Nat} (hm : m < N) : 0 ≤ z m ∧ z m < p := by
  rw [h m hm]
  exact ⟨Int.emod_nonneg _ (by omega), Int.emod_lt_of_pos _ hp⟩
theorem Wl.cell {w : World} {ao : Option Addr} {n cap : Nat} {x : Nat → Int} (h : Wl w (.slice ao n cap) n x) {j : Nat} (hj : j < n) : ∃ b off, ao = some ⟨b, off, none⟩ ∧ b < w.heap.size ∧ w.cell? ⟨b, off + j, none⟩ = some (.int .u64 (x j)) := by
  obtain ⟨ao', cap', e, h1, h2, h3, h5⟩ := h
  cases e
  obtain ⟨b, off, h6, h7, h8⟩ := h5 (by omega)
  exact ⟨b, off, h6, h7, h8 j hj⟩
end Go.Proofs.YtbecdlibckbbcabDoor
