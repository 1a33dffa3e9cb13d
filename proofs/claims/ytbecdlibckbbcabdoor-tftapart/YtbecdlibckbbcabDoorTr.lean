/- The reference's Turned, Point and values at points (chapter 7). -/
import Derived.Test.YtbecdlibckbbcabDoorQb
import Derived.Test.YtbecdlibckbbcabDoorRgt
namespace Go.Proofs.YtbecdlibckbbcabDoor
open Go.RowKit Num Nmb

theorem rv_mod : ∀ m b, rv m (b % 2 ^ m) = rv m b
  | 0, _ => rfl
  | m + 1, b => by
    show b % 2 ^ (m + 1) % 2 * 2 ^ m + rv m (b % 2 ^ (m + 1) / 2) = b % 2 * 2 ^ m + rv m (b / 2)
    have e1 : b % 2 ^ (m + 1) % 2 = b % 2 := Nat.mod_mod_of_dvd _ (by rw [Nat.pow_succ]; exact Nat.dvd_mul_left _ _)
    have e2 : b % 2 ^ (m + 1) / 2 = b / 2 % 2 ^ m := by rw [Nat.pow_succ, Nat.mul_comm, Nat.mod_mul_right_div_self]
    rw [e1, e2, rv_mod m (b / 2)]
theorem rv_step (m b : Nat) : rv (m + 1) b = 2 * rv m b + b / 2 ^ m % 2 := by rw [rv_up, rv_mod]
/-- what Turned answers. -/
def TurnIs (i k : Int) (r er : Int) : Prop := (0 ≤ k ∧ k ≤ 20 ∧ 0 ≤ i ∧ i < 2 ^ k.toNat ∧ r = (rv k.toNat i.toNat : Nat) ∧ er = 0) ∨ (¬ (0 ≤ k ∧ k ≤ 20 ∧ 0 ≤ i ∧ i < 2 ^ k.toNat) ∧ r = 0 ∧ er = 1)
theorem TurnIs.uniq {i k r er r' er' : Int} (h : TurnIs i k r er) (h' : TurnIs i k r' er') : r = r' ∧ er = er' := by
  rcases h with ⟨a, b, c, d, rfl, rfl⟩ | ⟨n, rfl, rfl⟩
  · rcases h' with ⟨_, _, _, _, rfl, rfl⟩ | ⟨n, _, _⟩
    · exact ⟨rfl, rfl⟩
    · exact absurd ⟨a, b, c, d⟩ n
  · rcases h' with ⟨a, b, c, d, _, _⟩ | ⟨_, rfl, rfl⟩
    · exact absurd ⟨a, b, c, d⟩ n
    · exact ⟨rfl, rfl⟩
/-- the first values at the points. -/
def PtR (a : Nat → Int) (r p k n : Nat) (X : List Nat) : Prop := (∀ j, j < X.length → lw X j = ev a n ((r : Int) ^ rv k j) % p) ∧ ∀ c, c ∈ X → c ≤ 18446744073709551615
theorem PtR.push {a : Nat → Int} {r p k n c : Nat} {X : List Nat} (h : PtR a r p k n X) (hp : 0 < p) (hp' : p ≤ 9223372036854775807) (hc : (c : Int) = ev a n (r ^ rv k X.length % p : Nat) % p) : PtR a r p k n (X ++ [c]) := by
  refine ⟨fun j hj => ?_, fun d hd => ?_⟩
  · rw [lw_push]
    by_cases e : j = X.length
    · rw [if_pos e, hc, e]
      have : Cg p ((r ^ rv k X.length % p : Nat) : Int) ((r : Int) ^ rv k X.length) := by
        rw [Int.natCast_emod, Int.natCast_pow]
        exact Cg.mod
      exact ev_cg (fun i _ => Cg.rfl) this
    · rw [if_neg e]
      exact h.1 j (by simp at hj; omega)
  · rcases List.mem_append.1 hd with hd | hd
    · exact h.2 d hd
    · simp at hd
      subst hd
      have := Int.emod_lt_of_pos (ev a n (r ^ rv k X.length % p : Nat)) (show 0 < (p : Int) by omega)
      omega
end Go.Proofs.YtbecdlibckbbcabDoor
