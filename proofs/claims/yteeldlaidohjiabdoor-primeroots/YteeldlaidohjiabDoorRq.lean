/- What the reference's Order answers. -/
import Derived.Test.YteeldlaidohjiabDoorRt
import Derived.Test.YteeldlaidohjiabDoorPo
import Derived.Test.YteeldlaidohjiabDoorVq
import Derived.Deep.RegionHeld3
namespace Go.Proofs.YteeldlaidohjiabDoor
open Go.RowKit Num Nmb

theorem rmul_nat (x y m : Nat) (w : World) (hm : 2 ≤ m) (hm' : m ≤ 9223372036854775807) :
    Calls Tryd.prog 15 #[.int .u64 x, .int .u64 y, .int .u64 m] w fun e w' => e = .returned (.int .u64 (x * y % m : Nat)) ∧ ∃ k, w' = w.drewN k := by
  have h := rmul_any x y m w (by omega) (by omega) (by omega) (by omega)
  rw [← Int.natCast_mul, ← Int.natCast_emod] at h
  exact h
/-- what the reference's Order answers. -/
def RO (p x : Nat) (m : Int) : Prop := (∃ k : Nat, m = k ∧ k < 64 ∧ Ord p x k) ∨ (m = -1 ∧ ∀ i, i < 64 → x ^ 2 ^ i % p ≠ 1)
theorem Ord.uniq {p x a b : Nat} (h : Ord p x a) (h' : Ord p x b) : a = b := by
  rcases Nat.lt_trichotomy a b with hl | hl | hl
  · exact absurd h.1 (h'.2 a hl)
  · exact hl
  · exact absurd h'.1 (h.2 b hl)
theorem RO.ord {p x k : Nat} {m : Int} (h : RO p x m) (hk : k < 64) : m = k ↔ Ord p x k := by
  constructor
  · intro e
    rcases h with ⟨j, h1, _, h3⟩ | ⟨h1, _⟩
    · obtain rfl : j = k := by omega
      exact h3
    · omega
  · intro ho
    rcases h with ⟨j, h1, _, h3⟩ | ⟨_, h2⟩
    · rw [h1, h3.uniq ho]
    · exact absurd ho.1 (h2 k hk)
set_option maxHeartbeats 1600000 in
set_option maxRecDepth 100000 in
theorem rorder_any (p x : Nat) (w : World) (h2 : 2 ≤ p) (hp : p ≤ 100000) :
    Calls Tryd.prog 14 #[.int .u64 p, .int .u64 x] w fun e w' => (∃ m : Int, e = .returned (.int .i64 m) ∧ RO p x m) ∧ ∃ c, w' = w.drewN c := by
  have p0 : ((p : Int) == 0) = false := beq_eq_false_iff_ne.2 (by omega)
  have p0' : ¬ (p : Int) = 0 := by omega
  have p0'' : ¬ p = 0 := by omega
  have em : (x : Int) % (p : Int) = ((x % p : Nat) : Int) := (Int.natCast_emod x p).symm
  have e1 : (1 : Int) % (p : Int) = 1 := Int.emod_eq_of_lt (by decide) (by omega)
  have yl := Nat.mod_lt x (show 0 < p by omega)
  have Y0 : Hid (x % p = x ^ 2 ^ 0 % p) := by show _ = _; rw [Nat.pow_zero, Nat.pow_one]
  have pl : (p : Int) ≤ 100000 := by omega
  generalize x % p = y at *
  go_enter Tryd.func14, Tryd.ntmps14
  go_wp2
  go_loopw [1, 5] (fun xv iv wr => ∃ (q i : Nat), xv = .int .u64 q ∧ iv = .int .i64 i ∧ i ≤ 64 ∧ q < p ∧ Hid (q = x ^ 2 ^ i % p) ∧ Hid (∀ j, j < i → x ^ 2 ^ j % p ≠ 1) ∧ ∃ c, wr = w.drewN c) (fun _ iv _ => (64 - intOf iv).toNat)
  case atStart => exact ⟨y, 0, by rw [em], rfl, by decide, yl, Y0, fun j hj => absurd hj (by omega), 0, rfl⟩
  case round =>
    obtain ⟨q, i, rfl, rfl, hi, hq, Q, R, c, rfl⟩ := hrel
    clear Y0 em
    by_cases h64 : i = 64
    · have S : Hid (RO p x (-1)) := Or.inr ⟨rfl, fun j hj => R.out j (by omega)⟩
      subst h64
      clear Q R
      go_wp2
      go_ret
      exact ⟨⟨-1, rfl, S.out⟩, c, rfl⟩
    · have hi' : (i : Int) < 64 := by omega
      by_cases h1 : q = 1
      · have S : Hid (RO p x i) := Or.inl ⟨i, rfl, by omega, by rw [← Q.out]; exact h1, R.out⟩
        subst h1
        clear Q R
        go_wp2
        go_ret
        exact ⟨⟨i, rfl, S.out⟩, c, rfl⟩
      · have h1' : ((q : Int) == 1) = false := beq_eq_false_iff_ne.2 (by omega)
        have R' : Hid (∀ j, j < i + 1 → x ^ 2 ^ j % p ≠ 1) := fun j hj => by
          by_cases e : j = i
          · rw [e, ← Q.out]; exact h1
          · exact R.out j (by omega)
        have ql := Nat.mod_lt (q * q) (show 0 < p by omega)
        have Q' : Hid (q * q % p = x ^ 2 ^ (i + 1) % p) := by show _ = _; rw [Q.out, sq_next]
        have MM := hid (rmul_nat q q p (w.drewN c) h2 (by omega))
        clear Q R h1
        generalize q * q % p = q' at *
        go_wp2_with fail
        refine MM.out.mono ?_
        rintro e w3 ⟨rfl, c2, rfl⟩
        clear MM
        go_wp2
        exact ⟨⟨q', i + 1, rfl, rfl, by omega, ql, Q', R', c + c2, by simp⟩, by simp only [intOf]; omega⟩
end Go.Proofs.YteeldlaidohjiabDoor
