/- "Double" and "Bits" of the reference. -/
import Derived.Test.YtnoeclmccbhkmaaDoorRefq
namespace Go.Proofs.YtnoeclmccbhkmaaDoor
open Go.RowKit Num
open Go.Lib (decDigits)
theorem dt1 : dt 1 = ⟨#[49]⟩ := by
  refine bytes_eq ?_
  rw [dt_list, dec_small (by decide)]; rfl
theorem pow_size {k : Nat} (h : k ≤ 3000) : (dt (2 ^ k)).size ≤ 100000 := by
  rw [dt_size]
  have h1 : 2 ^ k < 10 ^ (k + 1) := by
    have h2 : 2 ^ k ≤ 10 ^ k := Nat.pow_le_pow_left (by decide) k
    have h3 : 10 ^ k < 10 ^ (k + 1) := by rw [Nat.pow_succ]; have := Nat.pow_pos (n := k) (show 0 < 10 by decide); omega
    omega
  have := len_dec (2 ^ k) (k + 1) (by omega) h1
  omega
theorem two_pow (k : Nat) : 2 ^ k + 2 ^ k = 2 ^ (k + 1) := by rw [Nat.pow_succ]; omega
set_option maxHeartbeats 800000 in
set_option maxRecDepth 100000 in
theorem rdouble_any (n : Nat) (w : World) (hn : n ≤ 1000) :
    Calls Tryd.prog 33 #[.int .i64 n] w fun e w' => e = .returned (.string (dt (2 ^ n))) ∧ Below w.heap.size w w' := by
  go_enter Tryd.func33, Tryd.ntmps33
  go_wp2
  go_loopw [3, 4] (fun ov iv wr => ∃ k : Nat, k ≤ n ∧ ov = .string (dt (2 ^ k)) ∧ iv = .int .i64 k ∧ Hid (Below w.heap.size w wr)) (fun _ iv _ => n - (intOf iv).toNat)
  case atStart => exact ⟨0, by omega, by rw [Nat.pow_zero, dt1], rfl, Below.refl _ _⟩
  case round =>
    obtain ⟨k, hk, rfl, rfl, hr⟩ := hrel
    by_cases hlt : k < n
    · have hlt' : (k : Int) < n := by omega
      have AD := hid (add_dt (2 ^ k) (2 ^ k) wr (pow_size (by omega)) (pow_size (by omega)))
      rw [two_pow] at AD
      have hks : (k : Int) + 1 ≤ 1000 := by omega
      generalize 2 ^ k = q at *
      go_wp2_with fail
      refine AD.out.mono ?_
      rintro e w1 ⟨rfl, C1⟩
      go_wp2
      exact ⟨⟨k + 1, by omega, rfl, rfl, hr.out.trans (C1.mono hr.out.size)⟩, by simp only [intOf]; omega⟩
    · have hlt' : ¬ (k : Int) < n := by omega
      obtain rfl : k = n := by omega
      go_wp2
      go_ret
      exact ⟨rfl, hr.out⟩
/-- how many bits a number has. -/
def BitsIs (a n : Nat) : Prop := a < 2 ^ n ∧ (n = 0 ∨ 2 ^ (n - 1) ≤ a)
theorem bits_one {a n m : Nat} (h : BitsIs a n) (k : BitsIs a m) : n = m := by
  rcases Nat.lt_trichotomy n m with e | e | e
  · have h1 : 2 ^ n ≤ 2 ^ (m - 1) := Nat.pow_le_pow_right (by decide) (by omega)
    have := h.1
    rcases k.2 with h2 | h2 <;> omega
  · exact e
  · have h1 : 2 ^ m ≤ 2 ^ (n - 1) := Nat.pow_le_pow_right (by decide) (by omega)
    have := k.1
    rcases h.2 with h2 | h2 <;> omega
set_option maxHeartbeats 800000 in
set_option maxRecDepth 100000 in
theorem rbits_any (a N : Nat) (w : World) (ha : a < 2 ^ N) (hN : N ≤ 1000) :
    Calls Tryd.prog 32 #[.string (dt a)] w fun e w' => (∃ n : Nat, e = .returned (.int .i64 n) ∧ BitsIs a n) ∧ Below w.heap.size w w' := by
  go_enter Tryd.func32, Tryd.ntmps32
  go_wp2
  go_loopw [3, 4] (fun nv pv wr => ∃ k : Nat, k ≤ N ∧ pv = .string (dt (2 ^ k)) ∧ nv = .int .i64 k ∧ Hid ((k = 0 ∨ 2 ^ (k - 1) ≤ a) ∧ Below w.heap.size w wr)) (fun nv _ _ => N + 1 - (intOf nv).toNat)
  case atStart => exact ⟨0, by omega, by rw [Nat.pow_zero, dt1], rfl, Or.inl rfl, Below.refl _ _⟩
  case round =>
    obtain ⟨k, hk, rfl, rfl, hr⟩ := hrel
    by_cases hge : 2 ^ k ≤ a
    · have hkN : k < N := by
        apply Decidable.byContradiction
        intro h
        have h1 : 2 ^ N ≤ 2 ^ k := Nat.pow_le_pow_right (by decide) (by omega)
        omega
      have hcg : decide (0 ≤ cmpI a (2 ^ k : Nat)) = true := by simpa using cmpI_ge (a := (a : Int)) (b := ((2 ^ k : Nat) : Int)) (by omega)
      have RC := hid (rcmp_any a (2 ^ k) wr)
      have AD := hid (add_dt (2 ^ k) (2 ^ k) wr (pow_size (by omega)) (pow_size (by omega)))
      rw [two_pow] at AD
      have HG := hid hge
      have hks : (k : Int) + 1 ≤ 1001 := by omega
      generalize cmpI a (2 ^ k : Nat) = cv at *
      clear hge
      generalize hq : 2 ^ k = q at *
      have HQ := hid hq
      clear hq
      go_wp2_with fail
      refine RC.out.mono ?_
      rintro e w1 ⟨rfl, rfl⟩
      go_wp2_with fail
      refine AD.out.mono ?_
      rintro e w2 ⟨rfl, C2⟩
      go_wp2
      exact ⟨⟨k + 1, by omega, rfl, rfl, Or.inr (by rw [Nat.add_sub_cancel, HQ.out]; exact HG.out), hr.out.2.trans (C2.mono hr.out.2.size)⟩, by simp only [intOf]; omega⟩
    · have hcl : cmpI a (2 ^ k : Nat) = -1 := cmpI_lt (by omega)
      have RC := hid (rcmp_any a (2 ^ k) wr)
      rw [hcl] at RC
      have HG := hid (show a < 2 ^ k by omega)
      clear hge hcl
      go_wp2_with fail
      refine RC.out.mono ?_
      rintro e w1 ⟨rfl, rfl⟩
      go_wp2
      go_ret
      exact ⟨⟨k, rfl, HG.out, hr.out.1⟩, hr.out.2⟩
end Go.Proofs.YtnoeclmccbhkmaaDoor
