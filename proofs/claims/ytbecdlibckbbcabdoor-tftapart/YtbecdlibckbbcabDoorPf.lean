/- What prime's field, squares and Root answer. -/
import Derived.Test.YtbecdlibckbbcabDoorPk
import Derived.OwnWalk
namespace Go.Proofs.YtbecdlibckbbcabDoor
open Go.RowKit Num Nmb

theorem mul_nat (g : Nat) (p x y : Nat) (f s : Int) (w : World) (h : Fld w g p f s) (hm : Ok p f s) :
    Calls Tryd.prog 22 #[.pointer (some ⟨g, 0, none⟩), .int .u64 x, .int .u64 y] w fun e w' => e = .returned (.int .u64 (x * y % p : Nat)) ∧ ∃ k, w' = w.drewN k := by
  have h := mul_any g p f s x y w h hm (by omega) (by omega)
  rw [← Int.natCast_mul, ← Int.natCast_emod] at h
  exact h
theorem pow_nat (g : Nat) (p x n : Nat) (f s : Int) (w : World) (h : Fld w g p f s) (hm : Ok p f s) (hn : n ≤ 18446744073709551615) :
    Calls Tryd.prog 18 #[.pointer (some ⟨g, 0, none⟩), .int .u64 x, .int .u64 n] w fun e w' => e = .returned (.int .u64 (x ^ n % p : Nat)) ∧ ∃ k, w' = w.drewN k := by
  have h := pow_any g p f s x n w h hm (by omega) hn
  rw [← Int.natCast_pow, ← Int.natCast_emod] at h
  exact h
/-- r squares lead to 1, or more than most would. -/
def Sq (p y most r : Nat) : Prop := r ≤ most + 1 ∧ (∀ i, i < r → y ^ 2 ^ i % p ≠ 1) ∧ (r ≤ most → y ^ 2 ^ r % p = 1)
/-- the order of y is 2 to the kth. -/
def Ord (p y k : Nat) : Prop := y ^ 2 ^ k % p = 1 ∧ ∀ i, i < k → y ^ 2 ^ i % p ≠ 1
theorem Sq.ord {p y k r : Nat} (h : Sq p y k r) : r = k ↔ Ord p y k := by
  obtain ⟨h1, h2, h3⟩ := h
  constructor
  · intro e
    subst e
    exact ⟨h3 (by omega), h2⟩
  · intro ⟨h4, h5⟩
    rcases Nat.lt_trichotomy r k with hl | hl | hl
    · exact absurd (h3 (by omega)) (h5 r hl)
    · exact hl
    · exact absurd h4 (h2 k hl)
set_option maxHeartbeats 1600000 in
theorem squares_any (g : Nat) (p y most : Nat) (f s : Int) (w : World) (h : Fld w g p f s) (hm : Ok p f s) (hy : y < p) (hmo : most ≤ 64) :
    Calls Tryd.prog 24 #[.pointer (some ⟨g, 0, none⟩), .int .u64 y, .int .i64 most] w fun e w' => (∃ r : Nat, e = .returned (.int .i64 r) ∧ Sq p y most r) ∧ ∃ k, w' = w.drewN k := by
  have H := hid h
  have HO := hid hm
  have h2 := hm.h2
  have Y0 : Hid (y = y ^ 2 ^ 0 % p) := by show _ = _; rw [Nat.pow_zero, Nat.pow_one, Nat.mod_eq_of_lt hy]
  clear h hm
  go_enter Tryd.func24, Tryd.ntmps24
  go_wp2
  go_loopw [1, 7] (fun yv iv wr => ∃ (i q : Nat), iv = .int .i64 i ∧ yv = .int .u64 q ∧ i ≤ most + 1 ∧ q < p ∧ Hid (q = y ^ 2 ^ i % p) ∧ Hid (∀ j, j < i → y ^ 2 ^ j % p ≠ 1) ∧ ∃ c, wr = w.drewN c) (fun _ iv _ => (most + 1 - intOf iv).toNat)
  case atStart => exact ⟨0, y, rfl, rfl, by omega, hy, Y0, fun j hj => absurd hj (by omega), 0, rfl⟩
  case round =>
    obtain ⟨i, q, rfl, rfl, hi, hq, Q, R, c, rfl⟩ := hrel
    clear Y0
    by_cases h1 : q = 1
    · have S : Hid (Sq p y most i) := ⟨hi, R.out, fun _ => by rw [← Q.out]; exact h1⟩
      clear Q R
      subst h1
      go_wp2
      go_ret
      exact ⟨⟨i, rfl, S.out⟩, c, rfl⟩
    · have h1' : ((q : Int) != 1) = true := bne_iff_ne.2 (by omega)
      by_cases hl : i = most + 1
      · have S : Hid (Sq p y most i) := ⟨hi, R.out, fun h => absurd h (by omega)⟩
        have hl' : ¬ (i : Int) ≤ (most : Int) := by omega
        clear Q R hl
        go_wp2
        go_ret
        exact ⟨⟨i, rfl, S.out⟩, c, rfl⟩
      · have hl' : (i : Int) ≤ (most : Int) := by omega
        have R' : Hid (∀ j, j < i + 1 → y ^ 2 ^ j % p ≠ 1) := fun j hj => by
          by_cases e : j = i
          · rw [e, ← Q.out]; exact h1
          · exact R.out j (by omega)
        have ql := Nat.mod_lt (q * q) (show 0 < p by omega)
        have Q' : Hid (q * q % p = y ^ 2 ^ (i + 1) % p) := by show _ = _; rw [Q.out, sq_next]
        have MM := hid (mul_nat g p q q f s (w.drewN c) (H.out.drew c) HO.out)
        clear Q R h1
        generalize q * q % p = q' at *
        go_wp2_with fail
        refine MM.out.mono ?_
        rintro e w3 ⟨rfl, c2, rfl⟩
        clear MM
        go_wp2
        exact ⟨⟨i + 1, q', rfl, rfl, by omega, ql, Q', R', c + c2, by simp⟩, by simp only [intOf]; omega⟩
theorem Below.of_drew {w w' : World} {c : Nat} (h : Below (w.drewN c).heap.size (w.drewN c) w') : Below w.heap.size w w' := by
  have e : (w.drewN c).heap = w.heap := by simp
  have b : Below w.heap.size w (w.drewN c) := below_drewN (Below.refl _ _) c
  rw [show (w.drewN c).heap.size = w.heap.size by rw [e]] at h
  exact b.trans h
set_option maxHeartbeats 1600000 in
theorem field_any (p : Nat) (w : World) (hp : isB p = true) (h63 : p < 9223372036854775808) (L : Lay w) :
    Calls Tryd.prog 23 #[.int .u64 p] w fun e w' => e = .returned (.tuple #[.pointer (some ⟨w.heap.size, 0, none⟩), .int .i64 (tw p : Nat), .int .i64 0]) ∧ Below w.heap.size w w' ∧ ∃ f s, Fld w' w.heap.size p f s ∧ Ok p f s := by
  have h2 : 2 ≤ p := by
    apply Nat.le_of_not_lt
    intro h; rw [isP_low h] at hp; cases hp
  have IS := hid (is_any p w (by omega) L)
  rw [hp] at IS
  have LL := hid L
  have NW : Hid (∀ w : World, Calls Tryd.prog 15 #[.int .u64 p] w fun e w' => e = .returned (.tuple #[.pointer (some ⟨w.heap.size, 0, none⟩), .int .i64 0]) ∧ Below w.heap.size w w' ∧ ∃ f s, Fld w' w.heap.size p f s ∧ Ok p f s) := fun w => new_any p w (by omega) (by omega)
  have TZ : Hid (∀ w, Lay w → Calls Tryd.prog 37 #[.int .u64 ((p : Int) - 1)] w fun e w' => e = .returned (.int .i64 (tw p : Nat)) ∧ w' = w) := fun w L => by
    have h := tz_any (p - 1) w (by omega) L
    have en : ((p - 1 : Nat) : Int) = (p : Int) - 1 := by omega
    rw [en] at h
    exact h
  have hb : ¬ 9223372036854775808 ≤ (p : Int) := by omega
  clear hp L
  go_enter Tryd.func23, Tryd.ntmps23
  go_wp2_with fail
  refine IS.out.mono ?_
  rintro e w1 ⟨rfl, c, rfl⟩
  go_wp2_with fail
  refine (NW.out _).mono ?_
  rintro e w2 ⟨rfl, B, f, s, F, O⟩
  have L2 := hid ((LL.out.drew c).below B (LL.out.drew c).size)
  have BB := hid (Below.of_drew B)
  have F' : Fld w2 w.heap.size p f s := by simpa using F
  have FF := hid F'
  clear F'
  have OO := hid O
  clear F O B NW IS
  go_wp2_with fail
  refine (TZ.out _ L2.out).mono ?_
  rintro e w3 ⟨rfl, rfl⟩
  go_wp2
  go_ret3
  exact ⟨rfl, BB.out, f, s, FF.out, OO.out⟩
set_option maxHeartbeats 1600000 in
theorem field_no (p : Nat) (w : World) (hn : p ≤ 18446744073709551615) (hp : 9223372036854775808 ≤ p ∨ isB p = false) (L : Lay w) :
    Calls Tryd.prog 23 #[.int .u64 p] w fun e w' => e = .returned (.tuple #[.pointer none, .int .i64 0, .int .i64 14]) ∧ ∃ k, w' = w.drewN k := by
  by_cases hb : 9223372036854775808 ≤ p
  · have hb' : 9223372036854775808 ≤ (p : Int) := by omega
    clear hp
    go_enter Tryd.func23, Tryd.ntmps23
    go_wp2
    go_ret3
    exact ⟨rfl, 0, rfl⟩
  · have hb' : ¬ 9223372036854775808 ≤ (p : Int) := by omega
    have hf : isB p = false := by rcases hp with h | h; exact absurd h hb; exact h
    have IS := hid (is_any p w hn L)
    rw [hf] at IS
    clear hp hf L
    go_enter Tryd.func23, Tryd.ntmps23
    go_wp2_with fail
    refine IS.out.mono ?_
    rintro e w1 ⟨rfl, c, rfl⟩
    go_wp2
    go_ret3
    exact ⟨rfl, c, rfl⟩
/-- what Root answers. -/
def RootIs (p k y : Nat) : Prop := ∃ x, 1 ≤ x ∧ y = x ^ ((p - 1) / 2 ^ k) % p ∧ Ord p y k ∧ ∀ x', 1 ≤ x' → x' < x → ¬ Ord p (x' ^ ((p - 1) / 2 ^ k) % p) k
theorem RootIs.uniq {p k y y' : Nat} (h : RootIs p k y) (h' : RootIs p k y') : y = y' := by
  obtain ⟨x, a1, rfl, a2, a3⟩ := h
  obtain ⟨x', b1, rfl, b2, b3⟩ := h'
  rcases Nat.lt_trichotomy x x' with hl | hl | hl
  · exact absurd a2 (b3 x a1 hl)
  · rw [hl]
  · exact absurd b2 (a3 x' b1 hl)
theorem ord_mod {p z k : Nat} : Ord p (z % p) k ↔ Ord p z k := by
  unfold Ord
  simp only [← Nat.pow_mod]
theorem tw_dvd {p k : Nat} (h2 : 2 ≤ p) (hn : p ≤ 18446744073709551615) (hk : k ≤ tw p) : 2 ^ k ∣ p - 1 := by
  obtain ⟨e, _, _⟩ := tw_said (n := p) (by omega) hn
  rw [e]
  exact Nat.dvd_trans (Nat.pow_dvd_pow 2 hk) (Nat.dvd_mul_left _ _)
theorem tw2 : tw 2 = 0 := by decide
theorem root_is {p k : Nat} (h : Pri p) (hn : p ≤ 18446744073709551615) (hk : k ≤ tw p) : ∃ x, 1 ≤ x ∧ x < p ∧ Ord p (x ^ ((p - 1) / 2 ^ k) % p) k := by
  by_cases hp : p = 2
  · subst hp
    rw [tw2] at hk
    obtain rfl : k = 0 := by omega
    exact ⟨1, by decide, by decide, by decide, fun i hi => absurd hi (by omega)⟩
  · have ho : p % 2 = 1 := by
      rcases Nat.mod_two_eq_zero_or_one p with h0 | h0
      · rcases h.2 2 (Nat.dvd_of_mod_eq_zero h0) with h1 | h1
        · exact absurd h1 (by decide)
        · exact absurd h1.symm hp
      · exact h0
    obtain ⟨x, h1, h3, h4, h5⟩ := h.root ho (tw_dvd h.1 hn hk)
    exact ⟨x, h1, h3, ord_mod.2 ⟨h4, h5⟩⟩
set_option maxHeartbeats 1600000 in
theorem root_any (p k : Nat) (w : World) (hp : Pri p) (h63 : p < 9223372036854775808) (hk : k ≤ tw p) (L : Lay w) :
    Calls Tryd.prog 14 #[.int .u64 p, .int .i64 k] w fun e w' => (∃ y : Nat, e = .returned (.tuple #[.int .u64 y, .int .i64 0]) ∧ y < p ∧ RootIs p k y) ∧ Below w.heap.size w w' := by
  obtain ⟨x0, x1, x2, x3⟩ := root_is hp (by omega) hk
  have FA := hid (field_any p w (isB_of_pri hp (by omega)) h63 L)
  have h2 := hp.1
  have t64 := (tw_said (n := p) (by omega) (by omega)).2.2
  have X := hid x3
  have RI : Hid (∀ x y, 1 ≤ x → y = x ^ ((p - 1) / 2 ^ k) % p → Ord p y k → (∀ x', 1 ≤ x' → x' < x → ¬ Ord p (x' ^ ((p - 1) / 2 ^ k) % p) k) → RootIs p k y) := fun x y a b c d => ⟨x, a, b, c, d⟩
  have esh : ((p : Int) - 1) / 2 ^ k = ((p - 1) / 2 ^ k : Nat) := by
    rw [Int.natCast_ediv, Int.natCast_pow]
    congr 1
    omega
  have el : (p - 1) / 2 ^ k ≤ 18446744073709551615 := Nat.le_trans (Nat.div_le_self _ _) (by omega)
  generalize (p - 1) / 2 ^ k = E at *
  have kt : ¬ tw p < k := by omega
  have k0 : ¬ (k : Int) < 0 := by omega
  have k64 : k ≤ 64 := by omega
  generalize tw p = t at *
  clear x3 hp L hk
  go_enter Tryd.func14, Tryd.ntmps14
  go_wp2_with fail
  refine FA.out.mono ?_
  rintro e w1 ⟨rfl, B, f, s, F, O⟩
  have FF := hid F
  have OO := hid O
  have BB := hid B
  generalize hgz : w.heap.size = g at *
  have HG := hid hgz
  clear F O B FA hgz
  go_wp2
  clear kt t64
  go_loopw [9] (fun xv wr => ∃ (x : Nat), xv = .int .u64 x ∧ 1 ≤ x ∧ x ≤ x0 ∧ Hid (∀ x', 1 ≤ x' → x' < x → ¬ Ord p (x' ^ E % p) k) ∧ ∃ c, wr = w1.drewN c) (fun xv _ => (p - intOf xv).toNat)
  case atStart => exact ⟨1, rfl, by decide, by omega, fun j h h' => absurd h' (by omega), 0, rfl⟩
  case round =>
    obtain ⟨x, rfl, hx1, hx, R, c, rfl⟩ := hrel
    have PW := hid (pow_nat g p x E f s (w1.drewN c) (FF.out.drew c) OO.out el)
    have yl := Nat.mod_lt (x ^ E) (show 0 < p by omega)
    have R' : Hid (¬ Ord p (x ^ E % p) k → ∀ x', 1 ≤ x' → x' < x + 1 → ¬ Ord p (x' ^ E % p) k) := fun h x' h1 h3 => by
      by_cases e : x' = x
      · rw [e]; exact h
      · exact R.out x' h1 (by omega)
    have RX : Hid (Ord p (x ^ E % p) k → RootIs p k (x ^ E % p)) := fun h => RI.out x _ hx1 rfl h R.out
    have XX : Hid (¬ Ord p (x ^ E % p) k → x < x0) := fun h => by
      apply Nat.lt_of_le_of_ne hx
      intro e
      rw [e] at h
      exact h X.out
    have SQ := hid (fun w h => squares_any g p (x ^ E % p) k f s w h OO.out yl k64)
    clear R
    generalize x ^ E % p = y at *
    go_wp2_with fail
    refine PW.out.mono ?_
    rintro e w3 ⟨rfl, c2, rfl⟩
    go_wp2_with fail
    refine (SQ.out _ (by simpa using FF.out.drew (c + c2))).mono ?_
    rintro e w3 ⟨⟨r, rfl, S⟩, c3, rfl⟩
    have SO := hid S.ord
    clear S SQ PW
    by_cases hr : r = k
    · have rr := hid (RX.out (SO.out.1 hr))
      subst hr
      clear SO RX XX R' RI X
      go_wp2
      go_ret2
      exact ⟨⟨y, rfl, yl, rr.out⟩, by rw [HG.out]; simpa using below_drewN BB.out (c + c2 + c3)⟩
    · have no : ¬ Ord p y k := fun h => hr (SO.out.2 h)
      have rr := hid (R'.out no)
      have xx := XX.out no
      have hr' : ((r : Int) == (k : Int)) = false := beq_eq_false_iff_ne.2 (by omega)
      clear SO RX XX R' RI X no
      go_wp2
      exact ⟨⟨x + 1, rfl, by omega, by omega, rr, c + c2 + c3, by simp⟩, by simp only [intOf]; omega⟩
end Go.Proofs.YtbecdlibckbbcabDoor
