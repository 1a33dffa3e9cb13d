/- What the reference's Order answers. -/
/- What the reference's Root answers. -/
import Derived.Test.YtbecdlibckbbcaaDoorRt
import Derived.Test.YtbecdlibckbbcaaDoorPo
import Derived.Test.YtbecdlibckbbcaaDoorVq
import Derived.Deep.RegionHeld3
namespace Go.Proofs.YtbecdlibckbbcaaDoor
open Go.RowKit Num Nmb

theorem rmul_nat (x y m : Nat) (w : World) (hm : 2 ≤ m) (hm' : m ≤ 9223372036854775807) :
    Calls Tryd.prog 39 #[.int .u64 x, .int .u64 y, .int .u64 m] w fun e w' => e = .returned (.int .u64 (x * y % m : Nat)) ∧ ∃ k, w' = w.drewN k := by
  have h := rmul_any x y m w (by omega) (by omega) (by omega) (by omega)
  rw [← Int.natCast_mul, ← Int.natCast_emod] at h
  exact h
/-- what the reference's Order answers. -/
def RO (p x : Nat) (m : Int) : Prop := (∃ k : Nat, m = k ∧ k < 64 ∧ Ord p x k) ∨ (m = -1 ∧ ∀ i, i < 64 → x ^ 2 ^ i % p ≠ 1)
theorem Ord.uniq {p x a b : Nat} (h : Ord p x a) (h' : Ord p x b) : a = b := by
  rcases Nat.lt_trichotomy a b with hl | hl | hl
  · exact absurd h.1 (h'.2 a hl)
  · exact hl
  · exact absurd h'.1 (h.2 b hl)
theorem RO.ord {p x k : Nat} {m : Int} (h : RO p x m) (hk : k < 64) : m = k ↔ Ord p x k := by
  constructor
  · intro e
    rcases h with ⟨j, h1, _, h3⟩ | ⟨h1, _⟩
    · obtain rfl : j = k := by omega
      exact h3
    · omega
  · intro ho
    rcases h with ⟨j, h1, _, h3⟩ | ⟨_, h2⟩
    · rw [h1, h3.uniq ho]
    · exact absurd ho.1 (h2 k hk)
set_option maxHeartbeats 1600000 in
set_option maxRecDepth 100000 in
theorem rorder_any (p x : Nat) (w : World) (h2 : 2 ≤ p) (hp : p ≤ 100000) :
    Calls Tryd.prog 48 #[.int .u64 p, .int .u64 x] w fun e w' => (∃ m : Int, e = .returned (.int .i64 m) ∧ RO p x m) ∧ ∃ c, w' = w.drewN c := by
  have p0 : ((p : Int) == 0) = false := beq_eq_false_iff_ne.2 (by omega)
  have p0' : ¬ (p : Int) = 0 := by omega
  have p0'' : ¬ p = 0 := by omega
  have em : (x : Int) % (p : Int) = ((x % p : Nat) : Int) := (Int.natCast_emod x p).symm
  have e1 : (1 : Int) % (p : Int) = 1 := Int.emod_eq_of_lt (by decide) (by omega)
  have yl := Nat.mod_lt x (show 0 < p by omega)
  have Y0 : Hid (x % p = x ^ 2 ^ 0 % p) := by show _ = _; rw [Nat.pow_zero, Nat.pow_one]
  have pl : (p : Int) ≤ 100000 := by omega
  generalize x % p = y at *
  go_enter Tryd.func48, Tryd.ntmps48
  go_wp2
  go_loopw [1, 5] (fun xv iv wr => ∃ (q i : Nat), xv = .int .u64 q ∧ iv = .int .i64 i ∧ i ≤ 64 ∧ q < p ∧ Hid (q = x ^ 2 ^ i % p) ∧ Hid (∀ j, j < i → x ^ 2 ^ j % p ≠ 1) ∧ ∃ c, wr = w.drewN c) (fun _ iv _ => (64 - intOf iv).toNat)
  case atStart => exact ⟨y, 0, by rw [em], rfl, by decide, yl, Y0, fun j hj => absurd hj (by omega), 0, rfl⟩
  case round =>
    obtain ⟨q, i, rfl, rfl, hi, hq, Q, R, c, rfl⟩ := hrel
    clear Y0 em
    by_cases h64 : i = 64
    · have S : Hid (RO p x (-1)) := Or.inr ⟨rfl, fun j hj => R.out j (by omega)⟩
      subst h64
      clear Q R
      go_wp2
      go_ret
      exact ⟨⟨-1, rfl, S.out⟩, c, rfl⟩
    · have hi' : (i : Int) < 64 := by omega
      by_cases h1 : q = 1
      · have S : Hid (RO p x i) := Or.inl ⟨i, rfl, by omega, by rw [← Q.out]; exact h1, R.out⟩
        subst h1
        clear Q R
        go_wp2
        go_ret
        exact ⟨⟨i, rfl, S.out⟩, c, rfl⟩
      · have h1' : ((q : Int) == 1) = false := beq_eq_false_iff_ne.2 (by omega)
        have R' : Hid (∀ j, j < i + 1 → x ^ 2 ^ j % p ≠ 1) := fun j hj => by
          by_cases e : j = i
          · rw [e, ← Q.out]; exact h1
          · exact R.out j (by omega)
        have ql := Nat.mod_lt (q * q) (show 0 < p by omega)
        have Q' : Hid (q * q % p = x ^ 2 ^ (i + 1) % p) := by show _ = _; rw [Q.out, sq_next]
        have MM := hid (rmul_nat q q p (w.drewN c) h2 (by omega))
        clear Q R h1
        generalize q * q % p = q' at *
        go_wp2_with fail
        refine MM.out.mono ?_
        rintro e w3 ⟨rfl, c2, rfl⟩
        clear MM
        go_wp2
        exact ⟨⟨q', i + 1, rfl, rfl, by omega, ql, Q', R', c + c2, by simp⟩, by simp only [intOf]; omega⟩
end Go.Proofs.YtbecdlibckbbcaaDoor
namespace Go.Proofs.YtbecdlibckbbcaaDoor
open Go.RowKit Num Nmb

theorem tw_uniq {p t : Nat} (h2 : 2 ≤ p) (hn : p ≤ 18446744073709551615) (h : Tw (p - 1) t) : t = tw p := by
  obtain ⟨m, hm⟩ := h
  obtain ⟨e1, e2, _⟩ := tw_said (n := p) (by omega) hn
  rw [e1, show od p = 2 * (od p / 2) + 1 by omega, Nat.mul_comm] at hm
  exact (two_uniq hm).symm
theorem rtwos_p (p : Nat) (w : World) (h2 : 2 ≤ p) (hn : p ≤ 100000) :
    Calls Tryd.prog 47 #[.int .u64 ((p : Int) - 1)] w fun e w' => e = .returned (.int .i64 (tw p : Nat)) ∧ w' = w := by
  have h := rtwos_any (p - 1) w (by omega) (by omega)
  have en : ((p - 1 : Nat) : Int) = (p : Int) - 1 := by omega
  rw [en] at h
  refine h.mono ?_
  rintro e w' ⟨⟨t, rfl, _, ht⟩, rfl⟩
  rw [tw_uniq h2 (by omega) ht]
  exact ⟨rfl, rfl⟩
set_option maxHeartbeats 1600000 in
set_option maxRecDepth 100000 in
theorem rroot_bad (p : Nat) (k : Int) (w : World) (h2 : 2 ≤ p) (hp : p ≤ 100000) (hk : k < 0 ∨ (tw p : Int) < k) :
    Calls Tryd.prog 29 #[.int .u64 p, .int .i64 k] w fun e w' => e = .returned (.tuple #[.int .u64 0, .int .i64 1]) ∧ w' = w := by
  have TZ := hid (rtwos_p p w h2 hp)
  have pl : (p : Int) ≤ 100000 := by omega
  have p2 : (2 : Int) ≤ (p : Int) := by omega
  by_cases h0 : k < 0
  · clear hk
    go_enter Tryd.func29, Tryd.ntmps29
    go_wp2
    go_ret2
    exact ⟨rfl, rfl⟩
  · have h1 : (tw p : Int) < k := by omega
    by_cases hp2 : p = 2
    · have k0 : 0 < k := by omega
      subst hp2
      generalize (tw 2 : Int) = t at *
      clear hk
      go_enter Tryd.func29, Tryd.ntmps29
      go_wp2_with fail
      refine TZ.out.mono ?_
      rintro e w2 ⟨rfl, rfl⟩
      go_wp2
      go_ret2
      exact ⟨rfl, rfl⟩
    · have hp3 : (2 : Int) < (p : Int) := by omega
      generalize (tw p : Int) = t at *
      clear hk
      go_enter Tryd.func29, Tryd.ntmps29
      go_wp2_with fail
      refine TZ.out.mono ?_
      rintro e w2 ⟨rfl, rfl⟩
      go_wp2
      go_ret2
      exact ⟨rfl, rfl⟩
set_option maxHeartbeats 1600000 in
set_option maxRecDepth 100000 in
theorem rroot_odd (p k : Nat) (w : World) (hp : Pri p) (hl : p ≤ 100000) (hk : k ≤ tw p) (hp2 : p ≠ 2) :
    Calls Tryd.prog 29 #[.int .u64 p, .int .i64 k] w fun e w' => (∃ y : Nat, e = .returned (.tuple #[.int .u64 y, .int .i64 0]) ∧ RootIs p k y) ∧ ∃ c, w' = w.drewN c := by
  obtain ⟨x0, x1, x2, x3⟩ := root_is hp (by omega) hk
  have h2 := hp.1
  have TZ := hid (rtwos_p p w h2 hl)
  have t64 := (tw_said (n := p) (by omega) (by omega)).2.2
  have X := hid x3
  have RI : Hid (∀ x y, 1 ≤ x → y = x ^ ((p - 1) / 2 ^ k) % p → Ord p y k → (∀ x', 1 ≤ x' → x' < x → ¬ Ord p (x' ^ ((p - 1) / 2 ^ k) % p) k) → RootIs p k y) := fun x y a b c d => ⟨x, a, b, c, d⟩
  have el : (p - 1) / 2 ^ k ≤ 18446744073709551615 := Nat.le_trans (Nat.div_le_self _ _) (by omega)
  have D0 : Hid (p - 1 = (p - 1) / 2 ^ 0) := by show _ = _; rw [Nat.pow_zero, Nat.div_one]
  have kt : ¬ tw p < k := by omega
  have kt' : decide ((tw p : Int) < (k : Int)) = false := by simp; omega
  have k0 : decide ((k : Int) < 0) = false := by simp
  have k64 : k < 64 := by omega
  have pl : (p : Int) ≤ 100000 := by omega
  have p2 : (2 : Int) ≤ (p : Int) := by omega
  have kp : ((p : Int) == 2) = false := beq_eq_false_iff_ne.2 (by omega)
  clear x3 hp hk
  go_enter Tryd.func29, Tryd.ntmps29
  go_wp2_with fail
  refine TZ.out.mono ?_
  rintro e w2 ⟨rfl, rfl⟩
  generalize tw p = t at *
  go_wp2
  go_loop [6, 7] (fun nv iv => ∃ (n i : Nat), nv = .int .u64 n ∧ iv = .int .i64 i ∧ i ≤ k ∧ n ≤ 100000 ∧ Hid (n = (p - 1) / 2 ^ i)) (fun _ iv => (k - intOf iv).toNat)
  case atStart => exact ⟨p - 1, 0, by congr 1; omega, rfl, by omega, by omega, D0⟩
  case round =>
    obtain ⟨n, i, rfl, rfl, hi, hn, D⟩ := hrel
    by_cases hik : i = k
    · have hik' : ¬ (i : Int) < (k : Int) := by omega
      have D' : Hid ((p - 1) / 2 ^ k = n) := by show _ = _; rw [D.out, hik]
      rw [D'.out] at RI X el
      clear D D0 TZ D'
      go_wp2
      go_loopw [8] (fun xv wr => ∃ (x : Nat), xv = .int .u64 x ∧ 1 ≤ x ∧ x ≤ x0 ∧ Hid (∀ x', 1 ≤ x' → x' < x → ¬ Ord p (x' ^ n % p) k) ∧ ∃ c, wr = w2.drewN c) (fun xv _ => (p - intOf xv).toNat)
      case atStart => exact ⟨1, rfl, by decide, by omega, fun j h h' => absurd h' (by omega), 0, rfl⟩
      case round =>
        obtain ⟨x, rfl, hx1, hx, R, c, rfl⟩ := hrel
        have PW := hid (fun w => rpow_nat x n p w h2 (by omega) el)
        have yl := Nat.mod_lt (x ^ n) (show 0 < p by omega)
        have R' : Hid (¬ Ord p (x ^ n % p) k → ∀ x', 1 ≤ x' → x' < x + 1 → ¬ Ord p (x' ^ n % p) k) := fun h x' h1 h3 => by
          by_cases e : x' = x
          · rw [e]; exact h
          · exact R.out x' h1 (by omega)
        have RX : Hid (Ord p (x ^ n % p) k → RootIs p k (x ^ n % p)) := fun h => RI.out x _ hx1 rfl h R.out
        have XX : Hid (¬ Ord p (x ^ n % p) k → x < x0) := fun h => by
          apply Nat.lt_of_le_of_ne hx
          intro e
          rw [e] at h
          exact h X.out
        have OR := hid (fun w => rorder_any p (x ^ n % p) w h2 hl)
        clear R RI X
        generalize x ^ n % p = y at *
        go_wp2_with fail
        refine (PW.out _).mono ?_
        rintro e w3 ⟨rfl, c2, rfl⟩
        go_wp2_with fail
        refine (OR.out _).mono ?_
        rintro e w3 ⟨⟨m, rfl, hm⟩, c3, rfl⟩
        have MO := hid (hm.ord k64)
        clear hm OR
        by_cases hr : m = k
        · have rr := hid (RX.out (MO.out.1 hr))
          subst hr
          clear MO RX XX R'
          go_wp2_with fail
          refine (PW.out _).mono ?_
          rintro e w3 ⟨rfl, c4, rfl⟩
          go_wp2
          go_ret2
          exact ⟨⟨y, rfl, rr.out⟩, c + c2 + c3 + c4, by simp⟩
        · have no : ¬ Ord p y k := fun h => hr (MO.out.2 h)
          have rr := hid (R'.out no)
          have xx := XX.out no
          have hr' : (m != (k : Int)) = true := bne_iff_ne.2 hr
          clear MO RX XX R' no
          go_wp2
          exact ⟨⟨x + 1, rfl, by omega, by omega, rr, c + c2 + c3, by simp⟩, by simp only [intOf]; omega⟩
    · have hik' : (i : Int) < (k : Int) := by omega
      have D' : Hid (n / 2 = (p - 1) / 2 ^ (i + 1)) := by show _ = _; rw [D.out, Nat.div_div_eq_div_mul, Nat.pow_succ]
      clear D D0 TZ
      go_wp2
      exact ⟨⟨n / 2, i + 1, by congr 1, rfl, by omega, by omega, D'⟩, by simp only [intOf]; omega⟩
theorem root2 : RootIs 2 0 1 := ⟨1, by decide, by decide, ⟨by decide, fun i hi => absurd hi (by omega)⟩, fun x h1 h2 => absurd h2 (by omega)⟩
set_option maxHeartbeats 1600000 in
set_option maxRecDepth 100000 in
theorem rroot_two (w : World) :
    Calls Tryd.prog 29 #[.int .u64 2, .int .i64 0] w fun e w' => (∃ y : Nat, e = .returned (.tuple #[.int .u64 y, .int .i64 0]) ∧ RootIs 2 0 y) ∧ ∃ c, w' = w.drewN c := by
  have TZ := hid (rtwos_p 2 w (by decide) (by decide))
  rw [tw2] at TZ
  have PW := hid (fun w => rpow_nat 1 1 2 w (by decide) (by decide) (by decide))
  have OR : Hid (∀ w : World, Calls Tryd.prog 48 #[.int .u64 2, .int .u64 1] w fun e w' => (e = .returned (.int .i64 0)) ∧ ∃ c, w' = w.drewN c) := fun w => by
    refine (rorder_any 2 1 w (by decide) (by decide)).mono ?_
    rintro e w' ⟨⟨m, rfl, hm⟩, c, rfl⟩
    rw [(hm.ord (k := 0) (by decide)).2 ⟨by decide, fun i hi => absurd hi (by omega)⟩]
    exact ⟨rfl, c, rfl⟩
  have e1 : ((1 ^ 1 % 2 : Nat) : Int) = 1 := by decide
  rw [e1] at PW
  go_enter Tryd.func29, Tryd.ntmps29
  go_wp2_with fail
  refine TZ.out.mono ?_
  rintro e w2 ⟨rfl, rfl⟩
  go_wp2
  go_loop [6, 7] (fun nv iv => nv = .int .u64 1 ∧ iv = .int .i64 0) (fun _ _ => 0)
  case atStart => exact ⟨rfl, rfl⟩
  case round =>
    obtain ⟨rfl, rfl⟩ := hrel
    go_wp2
    go_loopw [8] (fun xv wr => xv = .int .u64 1 ∧ wr = w2) (fun _ _ => 0)
    case atStart => exact ⟨rfl, rfl⟩
    case round =>
      obtain ⟨rfl, rfl⟩ := hrel
      go_wp2_with fail
      refine (PW.out _).mono ?_
      rintro e w3 ⟨rfl, c2, rfl⟩
      go_wp2_with fail
      refine (OR.out _).mono ?_
      rintro e w3 ⟨rfl, c3, rfl⟩
      go_wp2_with fail
      refine (PW.out _).mono ?_
      rintro e w3 ⟨rfl, c4, rfl⟩
      go_wp2
      go_ret2
      exact ⟨⟨1, rfl, root2⟩, c2 + c3 + c4, by simp⟩
theorem rroot_any (p k : Nat) (w : World) (hp : Pri p) (hl : p ≤ 100000) (hk : k ≤ tw p) :
    Calls Tryd.prog 29 #[.int .u64 p, .int .i64 k] w fun e w' => (∃ y : Nat, e = .returned (.tuple #[.int .u64 y, .int .i64 0]) ∧ RootIs p k y) ∧ ∃ c, w' = w.drewN c := by
  by_cases h : p = 2
  · subst h
    rw [tw2] at hk
    obtain rfl : k = 0 := by omega
    exact rroot_two w
  · exact rroot_odd p k w hp hl hk h
end Go.Proofs.YtbecdlibckbbcaaDoor
