/- What the law's great answers (chapter 7). -/
import Derived.Test.YtbecdlibckbbcabDoorTe
namespace Go.Proofs.YtbecdlibckbbcabDoor
open Go.RowKit Num Nmb

/-- one of the law's primes. -/
def GreatT (p : Nat) : Prop := p = 998244353 ∨ p = 4179340454199820289 ∨ p = 180143985094819841
theorem GreatT.pri {p : Nat} (h : GreatT p) : Pri p := by
  rcases h with rfl | rfl | rfl
  · exact pri998
  · exact priA
  · exact priB
theorem GreatT.le {p : Nat} (h : GreatT p) : p ≤ 4179340454199820289 := by
  rcases h with rfl | rfl | rfl <;> decide
theorem GreatT.tw {p : Nat} (h : GreatT p) : 10 ≤ tw p := by
  rcases h with rfl | rfl | rfl <;> decide +kernel
set_option maxHeartbeats 1600000 in
set_option maxRecDepth 100000 in
theorem great7 (n : Int) (w : World) :
    Calls Tryd.prog 6 #[.int .i64 n] w fun e w' => (∃ p : Nat, e = .returned (.int .u64 p) ∧ GreatT p) ∧ Below w.heap.size w w' := by
  have q0 := Int.tmod_lt_of_pos n (show (0 : Int) < 3 by decide)
  have q1 := Int.lt_tmod_of_pos n (show (0 : Int) < 3 by decide)
  obtain ⟨q, hq⟩ : ∃ q, q = Int.tmod n 3 := ⟨_, rfl⟩
  have B0 : ∀ o, Hid (Below w.heap.size w (w.alloc o)) := fun o => (Below.refl _ _).alloc (Nat.le_refl _) _
  have wq : IntKind.i64.wrap (Int.tmod n 3) = Int.tmod n 3 := by rw [IntKind.wrap_i64]; omega
  have ws : IntKind.i64.wrap (Int.tmod n 3 + 3) = Int.tmod n 3 + 3 := by rw [IntKind.wrap_i64]; omega
  rw [← hq] at wq ws q0 q1
  have hq' := hq.symm
  clear hq
  have e : Int.tmod (q + 3) 3 = 0 ∨ Int.tmod (q + 3) 3 = 1 ∨ Int.tmod (q + 3) 3 = 2 := by
    rw [Int.tmod_eq_emod_of_nonneg (by omega)]
    omega
  rcases e with e | e | e
  all_goals
    go_enter Tryd.func6, Tryd.ntmps6
    go_wp2
    go_ret
    refine ⟨⟨_, rfl, ?_⟩, (B0 _).out⟩
    first | exact Or.inl rfl | exact Or.inr (Or.inl rfl) | exact Or.inr (Or.inr rfl)
end Go.Proofs.YtbecdlibckbbcabDoor
