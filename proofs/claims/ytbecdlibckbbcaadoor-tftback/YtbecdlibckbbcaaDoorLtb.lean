/- The law TftBack. -/
import Derived.Test.YtbecdlibckbbcaaDoorLtp
namespace Go.Proofs.YtbecdlibckbbcaaDoor
open Go.RowKit Num Nmb

/-- one of the law's primes. -/
def GreatT (p : Nat) : Prop := p = 998244353 ∨ p = 4179340454199820289 ∨ p = 180143985094819841
theorem GreatT.pri {p : Nat} (h : GreatT p) : Pri p := by
  rcases h with rfl | rfl | rfl
  · exact pri998
  · exact priA
  · exact priB
theorem GreatT.le {p : Nat} (h : GreatT p) : p ≤ 4179340454199820289 := by
  rcases h with rfl | rfl | rfl <;> decide
theorem GreatT.tw {p : Nat} (h : GreatT p) : 10 ≤ tw p := by
  rcases h with rfl | rfl | rfl <;> decide +kernel
set_option maxHeartbeats 1600000 in
set_option maxRecDepth 100000 in
theorem great7 (n : Int) (w : World) :
    Calls Tryd.prog 23 #[.int .i64 n] w fun e w' => (∃ p : Nat, e = .returned (.int .u64 p) ∧ GreatT p) ∧ Below w.heap.size w w' := by
  have q0 := Int.tmod_lt_of_pos n (show (0 : Int) < 3 by decide)
  have q1 := Int.lt_tmod_of_pos n (show (0 : Int) < 3 by decide)
  obtain ⟨q, hq⟩ : ∃ q, q = Int.tmod n 3 := ⟨_, rfl⟩
  have B0 : ∀ o, Hid (Below w.heap.size w (w.alloc o)) := fun o => (Below.refl _ _).alloc (Nat.le_refl _) _
  have wq : IntKind.i64.wrap (Int.tmod n 3) = Int.tmod n 3 := by rw [IntKind.wrap_i64]; omega
  have ws : IntKind.i64.wrap (Int.tmod n 3 + 3) = Int.tmod n 3 + 3 := by rw [IntKind.wrap_i64]; omega
  rw [← hq] at wq ws q0 q1
  have hq' := hq.symm
  clear hq
  have e : Int.tmod (q + 3) 3 = 0 ∨ Int.tmod (q + 3) 3 = 1 ∨ Int.tmod (q + 3) 3 = 2 := by
    rw [Int.tmod_eq_emod_of_nonneg (by omega)]
    omega
  rcases e with e | e | e
  all_goals
    go_enter Tryd.func23, Tryd.ntmps23
    go_wp2
    go_ret
    refine ⟨⟨_, rfl, ?_⟩, (B0 _).out⟩
    first | exact Or.inl rfl | exact Or.inr (Or.inl rfl) | exact Or.inr (Or.inr rfl)
set_option maxHeartbeats 3200000 in
set_option maxRecDepth 100000 in
theorem tback_law (n0 k : Int) (u : Value) (n : Nat) (a : Nat → Int) (w : World) (U : Wl w u n a) (L : Lay w) :
    Calls Tryd.prog 8 #[.int .i64 n0, .int .i64 k, u] w fun e w' => e = .returned (.bool true) ∧ Below w.heap.size w w' := by
  have AWA : Hid (∀ w', Below w.heap.size w w' → Calls Tryd.prog 11 #[] w' fun e w'' => e = .returned (.bool true) ∧ Below w'.heap.size w' w'') := fun w' B => awake7 w' (L.below B L.size)
  have LL := hid L
  have U0 := hid U
  obtain ⟨ao, cap, rfl, -⟩ := U
  clear L
  by_cases hk0 : k < 0
  · have B0 := hid (Below.refl w.heap.size w)
    go_enter Tryd.func8, Tryd.ntmps8
    go_wp2_with fail
    refine (AWA.out _ B0.out).mono ?_
    rintro e w9 ⟨rfl, B9⟩
    have BB9 := hid (B0.out.trans (B9.mono B0.out.size))
    clear B9
    go_wp2
    go_ret
    exact ⟨rfl, BB9.out⟩
  by_cases hk10 : 10 < k
  · have B0 := hid (Below.refl w.heap.size w)
    go_enter Tryd.func8, Tryd.ntmps8
    go_wp2_with fail
    refine (AWA.out _ B0.out).mono ?_
    rintro e w9 ⟨rfl, B9⟩
    have BB9 := hid (B0.out.trans (B9.mono B0.out.size))
    clear B9
    go_wp2
    go_ret
    exact ⟨rfl, BB9.out⟩
  by_cases hl : 1024 < n
  · have h2' : (1024 : Int) < (n : Int) := by omega
    have B0 := hid (Below.refl w.heap.size w)
    go_enter Tryd.func8, Tryd.ntmps8
    go_wp2_with fail
    refine (AWA.out _ B0.out).mono ?_
    rintro e w9 ⟨rfl, B9⟩
    have BB9 := hid (B0.out.trans (B9.mono B0.out.size))
    clear B9
    go_wp2
    go_ret
    exact ⟨rfl, BB9.out⟩
  have hn' : ¬ (1024 : Int) < (n : Int) := by omega
  obtain ⟨K, rfl⟩ : ∃ K : Nat, k = (K : Int) := ⟨k.toNat, by omega⟩
  have GR := hid (great7 n0 w)
  obtain ⟨N, hN⟩ : ∃ N, N = 2 ^ K := ⟨_, rfl⟩
  have HN := hid hN
  have MO : Hid (∀ g p r w, Pln w g p K r → Calls Tryd.prog 15 #[.pointer (some ⟨g, 0, none⟩)] w fun e w' => e = .returned (.int .i64 N) ∧ w' = w) := by
    intro g p r w T
    rw [hN]
    exact tmost_any g p K r w T
  clear hN
  go_enter Tryd.func8, Tryd.ntmps8
  go_wp2_with fail
  refine GR.out.mono ?_
  rintro e w1 ⟨⟨p, rfl, GP⟩, B1⟩
  have pl := GP.le
  have p2 := GP.pri.1
  have BB1 := hid B1
  have U1 := hid (U0.out.below B1)
  have NW := hid (tnew_yes p K w1 GP.pri (by omega) (by omega) (by have := GP.tw; omega) (LL.out.below B1 LL.out.size))
  clear GP B1 GR LL U0
  go_wp2_with fail
  refine NW.out.mono ?_
  rintro e w2 ⟨⟨g, r, rfl, T⟩, B2⟩
  have T2 := hid T
  have U2 := hid (U1.out.below B2)
  have BB2 := hid (BB1.out.trans (B2.mono BB1.out.size))
  clear B2 NW BB1 U1 T
  go_wp2_with fail
  refine (MO.out g p r _ T2.out).mono ?_
  rintro e w3 ⟨rfl, hw⟩
  obtain rfl := hw.symm
  by_cases hlim : N < n
  · have hl' : (N : Int) < (n : Int) := by omega
    have LIM : Hid (2 ^ K < n) := by show _ < _; rw [← HN.out]; exact hlim
    clear hlim
    go_wp2_with fail
    refine (tback_limit g p K r _ n a _ T2.out U2.out LIM.out).mono ?_
    rintro e w3 ⟨⟨go, gc, rfl⟩, B3⟩
    have BB3 := hid (BB2.out.trans (B3.mono BB2.out.size))
    clear B3 BB2 
    go_wp2_with fail
    refine (AWA.out _ BB3.out).mono ?_
    rintro e w9 ⟨rfl, B9⟩
    have BB9 := hid (BB3.out.trans (B9.mono BB3.out.size))
    clear B9
    go_wp2
    go_ret
    exact ⟨rfl, BB9.out⟩
  have hl' : ¬ (N : Int) < (n : Int) := by omega
  have LE : Hid (n ≤ 2 ^ K) := by show _ ≤ _; rw [← HN.out]; omega
  clear hlim
  go_wp2_with fail
  refine (tgo_any g p K r _ n n a _ T2.out U2.out LE.out LE.out).mono ?_
  rintro e w3 ⟨⟨go, gc, rfl, G⟩, B3⟩
  have T3 := hid (T2.out.below B3)
  have U3 := hid (U2.out.below B3)
  have BB3 := hid (BB2.out.trans (B3.mono BB2.out.size))
  clear B3 BB2 T2 U2
  have G3 := hid G
  clear G
  go_wp2_with fail
  refine (tback_any g p K r _ n _ _ T3.out G3.out LE.out).mono ?_
  rintro e w4 ⟨⟨bo, bc, b, rfl, W, FB⟩, B4⟩
  have U4 := hid (U3.out.below B4)
  have BB4 := hid (BB3.out.trans (B4.mono BB3.out.size))
  clear B4 BB3 U3
  have W4 := hid (W.eq (FB.back T3.out.ok LE.out (fun j _ => rfl)))
  clear W FB G3 T3 MO
  go_wp2
  go_loopw [16] (fun jv wr => ∃ (j : Nat), jv = .int .i64 j ∧ j ≤ n ∧ ∃ c, wr = w4.drewN c) (fun jv _ => ((n : Int) - intOf jv).toNat)
  case atStart => exact ⟨0, rfl, Nat.zero_le _, 0, rfl⟩
  case round =>
    obtain ⟨j, rfl, hj, c0, rfl⟩ := hrel
    by_cases hjq : j = n
    · subst hjq
      have BB5 := hid (below_drewN BB4.out c0)
      go_wp2_with fail
      refine (AWA.out _ BB5.out).mono ?_
      rintro e w9 ⟨rfl, B9⟩
      have BB9 := hid (BB5.out.trans (B9.mono BB5.out.size))
      clear B9
      go_wp2
      go_ret
      exact ⟨rfl, BB9.out⟩
    · have hjq' : (j : Int) < (n : Int) := by omega
      obtain ⟨x1, o1, rfl, -, c1'⟩ := U4.out.cell (j := j) (by omega)
      obtain ⟨x2, o2, rfl, -, c2'⟩ := W4.out.cell (j := j) (by omega)
      have v0 := U4.out.val (j := j) (by omega)
      have m1 : Int.tmod (a j) (p : Int) = a j % (p : Int) := Int.tmod_eq_emod_of_nonneg v0.1
      have d0 := Int.emod_nonneg (a j) (show (p : Int) ≠ 0 by omega)
      have d1 := Int.emod_lt_of_pos (a j) (show (0 : Int) < (p : Int) by omega)
      have m2 : IntKind.u64.wrap (a j % (p : Int)) = a j % (p : Int) := by rw [IntKind.wrap_u64]; omega
      have c1 : (w4.drewN c0).cell? ⟨x1, o1 + j, none⟩ = some (.int .u64 (a j)) := by simpa using c1'
      have c2 : (w4.drewN c0).cell? ⟨x2, o2 + j, none⟩ = some (.int .u64 (a j % p)) := by simpa using c2'
      have p0 : ¬ p = 0 := by omega
      have p0' : ¬ (p : Int) = 0 := by omega
      have p0'' : ((p : Int) == 0) = false := beq_eq_false_iff_ne.2 p0'
      clear c1' c2' v0
      generalize a j % (p : Int) = zp at *
      generalize hw : w4.drewN c0 = w8 at *
      have HE := hid hw
      clear hw
      go_wp2_with fail
      go_quiet (fail)
      rename_i nq
      go_wp2
      exact ⟨⟨j + 1, rfl, by omega, c0 + nq, by rw [← HE.out]; simp⟩, by simp only [intOf]; omega⟩
end Go.Proofs.YtbecdlibckbbcaaDoor
