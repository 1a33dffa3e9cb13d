/- The law PrimeRoots, walked. -/
import Derived.Test.YteeldlaidohjiabDoorRr
namespace Go.Proofs.YteeldlaidohjiabDoor
open Go.RowKit Num Nmb

/-- what Root answers of a prime, whatever k is. -/
def RootAns (p : Nat) (k : Int) (r : Nat) (er : Int) : Prop := ((k < 0 ∨ (tw p : Int) < k) ∧ r = 0 ∧ er = 1) ∨ (∃ j : Nat, k = j ∧ j ≤ tw p ∧ er = 0 ∧ RootIs p j r)
theorem RootAns.uniq {p r r' : Nat} {k er er' : Int} (h : RootAns p k r er) (h' : RootAns p k r' er') : r = r' ∧ er = er' := by
  rcases h with ⟨h1, rfl, rfl⟩ | ⟨j, rfl, h2, rfl, h3⟩
  · rcases h' with ⟨_, rfl, rfl⟩ | ⟨j, rfl, h2, rfl, h3⟩
    · exact ⟨rfl, rfl⟩
    · omega
  · rcases h' with ⟨h1, rfl, rfl⟩ | ⟨j', e, h2', rfl, h3'⟩
    · omega
    · obtain rfl : j = j' := by omega
      exact ⟨h3.uniq h3', rfl⟩
theorem root_all (p : Nat) (k : Int) (w : World) (hp : Pri p) (hl : p ≤ 100000) (L : Lay w) :
    Calls Tryd.prog 10 #[.int .u64 p, .int .i64 k] w fun e w' => (∃ (r : Nat) (er : Int), e = .returned (.tuple #[.int .u64 r, .int .i64 er]) ∧ RootAns p k r er) ∧ Below w.heap.size w w' := by
  by_cases h : k < 0 ∨ (tw p : Int) < k
  · refine (root_arg p k w (isB_of_pri hp (by omega)) (by omega) h L).mono ?_
    rintro e w' ⟨rfl, B⟩
    exact ⟨⟨0, 1, rfl, Or.inl ⟨h, rfl, rfl⟩⟩, B⟩
  · obtain ⟨k, rfl⟩ : ∃ j : Nat, k = j := ⟨k.toNat, by omega⟩
    refine (root_any p k w hp (by omega) (by omega) L).mono ?_
    rintro e w' ⟨⟨y, rfl, _, hy⟩, B⟩
    exact ⟨⟨y, 0, rfl, Or.inr ⟨k, rfl, by omega, rfl, hy⟩⟩, B⟩
theorem rroot_all (p : Nat) (k : Int) (w : World) (hp : Pri p) (hl : p ≤ 100000) :
    Calls Tryd.prog 13 #[.int .u64 p, .int .i64 k] w fun e w' => (∃ (r : Nat) (er : Int), e = .returned (.tuple #[.int .u64 r, .int .i64 er]) ∧ RootAns p k r er) ∧ ∃ c, w' = w.drewN c := by
  by_cases h : k < 0 ∨ (tw p : Int) < k
  · refine (rroot_bad p k w hp.1 hl h).mono ?_
    rintro e w' ⟨rfl, rfl⟩
    exact ⟨⟨0, 1, rfl, Or.inl ⟨h, rfl, rfl⟩⟩, 0, rfl⟩
  · obtain ⟨k, rfl⟩ : ∃ j : Nat, k = j := ⟨k.toNat, by omega⟩
    refine (rroot_any p k w hp hl (by omega)).mono ?_
    rintro e w' ⟨⟨y, rfl, hy⟩, c, rfl⟩
    exact ⟨⟨y, 0, rfl, Or.inr ⟨k, rfl, by omega, rfl, hy⟩⟩, c, rfl⟩
/-- both orders are one. -/
theorem ord_same {p x n : Nat} {er m : Int} (hp : Pri p) (hl : p ≤ 100000) (h : OrdIs p x n er) (hx : x % p ≠ 0) (hm : RO p x m) : (m < 0 ∧ er = 19 ∧ n = 0) ∨ (¬ m < 0 ∧ er = 0 ∧ m = n) := by
  have h2 := hp.1
  have t64 := (tw_said (n := p) (by omega) (by omega)).2.2
  rcases h with ⟨h1, _⟩ | ⟨_, h3, h4, h5⟩ | ⟨_, h3, h4, h5⟩
  · exact absurd h1 hx
  · have := (hm.ord (k := n) (by omega)).2 (ord_mod.1 h5)
    exact Or.inr ⟨by omega, h3, this⟩
  · rcases hm with ⟨k, h6, h7, h8⟩ | ⟨h6, _⟩
    · exfalso
      simp only [← Nat.pow_mod] at h5
      have hk : tw p < k := by
        apply Nat.lt_of_not_le
        intro hle
        exact h5 k hle h8.1
      by_cases hp2 : p = 2
      · subst hp2
        have := h5 0 (by omega)
        rw [Nat.pow_zero, Nat.pow_one] at this
        omega
      · obtain ⟨j, rfl⟩ : ∃ j, k = j + 1 := ⟨k - 1, by omega⟩
        have hd := hp.order_le hp2 h8.1 (h8.2 j (by omega))
        obtain ⟨e1, e2, _⟩ := tw_said (n := p) (by omega) (by omega)
        rw [e1, show od p = 2 * (od p / 2) + 1 by omega, Nat.mul_comm] at hd
        have := two_le hd
        omega
    · exact Or.inl ⟨by omega, h3, h4⟩
end Go.Proofs.YteeldlaidohjiabDoor
