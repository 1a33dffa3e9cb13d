/- What the calls of the landed tft answer. -/
/- Products, in the landed tft. -/
import Derived.Test.YtbecdlibckbbcabDoorUi
import Derived.Test.YtbecdlibckbbcabDoorUj
namespace Go.Proofs.YtbecdlibckbbcabDoor
open Go.RowKit Num Nmb

set_option maxHeartbeats 1600000 in
theorem tturned_any (i k : Int) (w : World) (hi : -9223372036854775808 ≤ i ∧ i ≤ 9223372036854775807) (hk : -9223372036854775808 ≤ k ∧ k ≤ 9223372036854775807) :
    Calls Tryd.prog 17 #[.int .i64 i, .int .i64 k] w fun e w' => (∃ r er, e = .returned (.tuple #[.int .i64 r, .int .i64 er]) ∧ TurnIs i k r er) ∧ Below w.heap.size w w' := by
  have B := hid (Below.refl w.heap.size w)
  by_cases c1 : k < 0
  · have T : Hid (TurnIs i k 0 1) := Or.inr ⟨fun h => by omega, rfl, rfl⟩
    go_enter Tryd.func17, Tryd.ntmps17
    go_wp2
    go_ret2
    exact ⟨⟨_, _, rfl, T.out⟩, B.out⟩
  by_cases c2 : 20 < k
  · have T : Hid (TurnIs i k 0 1) := Or.inr ⟨fun h => by omega, rfl, rfl⟩
    go_enter Tryd.func17, Tryd.ntmps17
    go_wp2
    go_ret2
    exact ⟨⟨_, _, rfl, T.out⟩, B.out⟩
  by_cases c3 : i < 0
  · have T : Hid (TurnIs i k 0 1) := Or.inr ⟨fun h => by omega, rfl, rfl⟩
    go_enter Tryd.func17, Tryd.ntmps17
    go_wp2
    go_ret2
    exact ⟨⟨_, _, rfl, T.out⟩, B.out⟩
  obtain ⟨kn, rfl⟩ : ∃ kn : Nat, k = kn := ⟨k.toNat, by omega⟩
  obtain ⟨j, rfl⟩ : ∃ j : Nat, i = j := ⟨i.toNat, by omega⟩
  have e2 : (2 : Int) ^ kn = ((2 ^ kn : Nat) : Int) := (Int.natCast_pow 2 kn).symm
  have l20 : 2 ^ kn ≤ 2 ^ 20 := Nat.pow_le_pow_right (by decide) (by omega)
  have TU := hid (turned_any j kn w (by omega) (by omega))
  by_cases c4 : 2 ^ kn ≤ j
  · have T : Hid (TurnIs j kn 0 1) := Or.inr ⟨fun h => by
      have := h.2.2.2
      rw [Int.toNat_natCast, e2] at this
      omega, rfl, rfl⟩
    have c4' : ((2 ^ kn : Nat) : Int) ≤ (j : Int) := by omega
    clear c4
    generalize 2 ^ kn = N at *
    go_enter Tryd.func17, Tryd.ntmps17
    go_wp2
    go_ret2
    exact ⟨⟨_, _, rfl, T.out⟩, B.out⟩
  · have T : Hid (TurnIs j kn (rv kn j : Nat) 0) := Or.inl ⟨by omega, by omega, by omega, by rw [Int.toNat_natCast, e2]; omega, by rw [Int.toNat_natCast, Int.toNat_natCast], rfl⟩
    have c4' : ¬ ((2 ^ kn : Nat) : Int) ≤ (j : Int) := by omega
    clear c4
    generalize 2 ^ kn = N at *
    go_enter Tryd.func17, Tryd.ntmps17
    go_wp2_with fail
    refine TU.out.mono ?_
    rintro e w3 ⟨rfl, hw⟩
    obtain rfl := hw.symm
    go_wp2
    go_ret2
    exact ⟨⟨_, _, rfl, T.out⟩, B.out⟩
set_option maxHeartbeats 1600000 in
theorem tpoint_any (g p k r i : Nat) (w : World) (T : Pln w g p k r) (hi : i < 2 ^ k) :
    Calls Tryd.prog 8 #[.pointer (some ⟨g, 0, none⟩), .int .i64 i] w fun e w' => e = .returned (.tuple #[.int .u64 (r ^ rv k i % p : Nat), .int .i64 0]) ∧ Below w.heap.size w w' := by
  have k20 := T.ok.k20
  have l20 : 2 ^ k ≤ 2 ^ 20 := Nat.pow_le_pow_right (by decide) k20
  obtain ⟨TO, gf, gm, h, f, s, TF, hh, OK⟩ := T
  have TU : Hid (Calls Tryd.prog 17 #[.int .i64 i, .int .i64 k] w fun e w' => e = .returned (.tuple #[.int .i64 (rv k i : Nat), .int .i64 0]) ∧ Below w.heap.size w w') := by
    refine (tturned_any i k w (by omega) (by omega)).mono ?_
    rintro e w' ⟨⟨y, er, rfl, T⟩, B⟩
    rcases T with ⟨_, _, _, _, rfl, rfl⟩ | ⟨n, _⟩
    · rw [Int.toNat_natCast, Int.toNat_natCast]
      exact ⟨rfl, B⟩
    · exact absurd ⟨by omega, by omega, by omega, by rw [Int.toNat_natCast]; have : (2 : Int) ^ k = ((2 ^ k : Nat) : Int) := (Int.natCast_pow 2 k).symm; omega⟩ n
  have TT := hid TF
  have c1 := TF.tc.cell1
  have rl := rv_lt k i
  have PW : Hid (∀ W, Fld W gf p f s → Calls Tryd.prog 18 #[.pointer (some ⟨gf, 0, none⟩), .int .u64 r, .int .u64 (rv k i : Nat)] W fun e w' => e = .returned (.int .u64 (r ^ rv k i % p : Nat)) ∧ ∃ k, w' = W.drewN k) := fun W F => by
    have := pow_any gf p f s r (rv k i) W F OK (by omega) (by omega)
    rw [← Int.natCast_pow, ← Int.natCast_emod] at this
    exact this
  have w1 : IntKind.u64.wrap ((rv k i : Nat) : Int) = ((rv k i : Nat) : Int) := by rw [IntKind.wrap_u64]; omega
  clear TF hh OK TO
  generalize r ^ rv k i % p = v at *
  generalize rv k i = j at *
  go_enter Tryd.func8, Tryd.ntmps8
  go_wp2_with fail
  refine TU.out.mono ?_
  rintro e w3 ⟨rfl, B3⟩
  have T3 := TT.out.below B3 TT.out.lt
  have c0 := T3.tc.cell0
  have c2 := T3.tc.cell2
  have P3 := hid (fun q => PW.out (w3.drewN q) (T3.fld.drew q))
  have BB := hid B3
  clear T3 B3 TU TT PW c1
  go_wp2_with fail
  go_quiet ((go_at_call 18; exact Calls.quiet_of (P3.out _)))
  rename_i nq
  have B4 := hid (below_drewN BB.out nq)
  clear BB P3 c0 c2
  go_wp2
  go_ret2
  exact ⟨rfl, B4.out⟩
set_option maxHeartbeats 1600000 in
theorem tpoint_arg (g p k r : Nat) (i : Int) (w : World) (T : Pln w g p k r) (hr : -9223372036854775808 ≤ i ∧ i ≤ 9223372036854775807) (hi : i < 0 ∨ (2 ^ k : Nat) ≤ i) :
    Calls Tryd.prog 8 #[.pointer (some ⟨g, 0, none⟩), .int .i64 i] w fun e w' => e = .returned (.tuple #[.int .u64 0, .int .i64 1]) ∧ Below w.heap.size w w' := by
  have k20 := T.ok.k20
  obtain ⟨TO, gf, gm, h, f, s, TF, hh, OK⟩ := T
  have TU : Hid (Calls Tryd.prog 17 #[.int .i64 i, .int .i64 k] w fun e w' => e = .returned (.tuple #[.int .i64 0, .int .i64 1]) ∧ Below w.heap.size w w') := by
    refine (tturned_any i k w hr (by omega)).mono ?_
    rintro e w' ⟨⟨y, er, rfl, T⟩, B⟩
    rcases T with ⟨_, _, h0, h1, _, _⟩ | ⟨n, rfl, rfl⟩
    · rw [Int.toNat_natCast, show (2 : Int) ^ k = ((2 ^ k : Nat) : Int) from (Int.natCast_pow 2 k).symm] at h1
      omega
    · exact ⟨rfl, B⟩
  have c1 := TF.tc.cell1
  clear TF hh OK TO hi
  go_enter Tryd.func8, Tryd.ntmps8
  go_wp2_with fail
  refine TU.out.mono ?_
  rintro e w3 ⟨rfl, B3⟩
  have BB := hid B3
  clear TU B3
  go_wp2
  go_ret2
  exact ⟨rfl, BB.out⟩
set_option maxHeartbeats 800000 in
theorem tpoint_nil (i : Int) (w : World) : Calls Tryd.prog 8 #[.pointer none, .int .i64 i] w fun e w' => (∃ v, e = .returned (.tuple #[v, .int .i64 2])) ∧ Below w.heap.size w w' := by
  go_enter Tryd.func8, Tryd.ntmps8
  go_wp2
  go_ret2
  exact ⟨⟨_, rfl⟩, Below.refl _ _⟩
set_option maxHeartbeats 1600000 in
theorem tgo_any (g p k r : Nat) (u : Value) (n m : Nat) (a : Nat → Int) (w : World) (T : Pln w g p k r) (U : Wl w u n a) (hn : n ≤ 2 ^ k) (hm : m ≤ 2 ^ k) :
    Calls Tryd.prog 10 #[.pointer (some ⟨g, 0, none⟩), u, .int .i64 m] w fun e w' => (∃ ao cap, e = .returned (.tuple #[.slice ao m cap, .int .i64 0]) ∧ Wl w' (.slice ao m cap) m (fun j => ev a n ((r : Int) ^ rv k j) % p)) ∧ Below w.heap.size w w' := by
  have p2 := T.ok.pri.1
  have p63 := T.ok.h63
  have MA := hid (tmost_any g p k r w T)
  have VA : Hid (Calls Tryd.prog 20 #[.pointer (some ⟨g, 0, none⟩), u, .int .i64 m] w fun e w' => (∃ ao, e = .returned (.slice ao m m) ∧ Wl w' (.slice ao m m) m (fun j => ev a n ((r : Int) ^ rv k j) % p)) ∧ Below w.heap.size w w') := by
    by_cases m0 : m = 0
    · subst m0
      refine (values_none g u w).mono ?_
      rintro e w' ⟨rfl, rfl⟩
      exact ⟨⟨none, rfl, Wl.nil _ _⟩, Below.refl _ _⟩
    · refine (values_some g p k r u n m a w T U hn hm (by omega)).mono ?_
      rintro e w' ⟨rfl, ⟨N, X, R, h1, h2, h3⟩, B⟩
      refine ⟨⟨_, rfl, _, m, rfl, Nat.le_refl _, by omega, fun j hj => ?_, fun _ => ⟨w.heap.size, 0, rfl, R.lt, fun j hj => ?_⟩⟩, B⟩
      · show 0 ≤ ev a n ((r : Int) ^ rv k j) % p ∧ ev a n ((r : Int) ^ rv k j) % p ≤ 18446744073709551615
        have := Int.emod_nonneg (ev a n ((r : Int) ^ rv k j)) (show (p : Int) ≠ 0 by omega)
        have := Int.emod_lt_of_pos (ev a n ((r : Int) ^ rv k j)) (show (0 : Int) < (p : Int) by omega)
        omega
      · rw [Nat.zero_add, R.cell (by omega), h3 j hj]
  obtain ⟨ao, cap, rfl, hcap⟩ := U
  have LE := hid (tlen_yes g p k r w T ao n cap hn)
  have hm' : ¬ ((2 ^ k : Nat) : Int) < (m : Int) := by omega
  clear T hn hm hcap
  generalize 2 ^ k = N at *
  go_enter Tryd.func10, Tryd.ntmps10
  go_wp2_with fail
  refine LE.out.mono ?_
  rintro e w3 ⟨rfl, hw⟩
  obtain rfl := hw.symm
  go_wp2_with fail
  refine MA.out.mono ?_
  rintro e w3 ⟨rfl, hw⟩
  obtain rfl := hw.symm
  go_wp2_with fail
  refine VA.out.mono ?_
  rintro e w4 ⟨⟨vo, rfl, R⟩, B⟩
  have RR := hid R
  have BB := hid B
  clear R B VA LE MA
  go_wp2
  go_ret2
  exact ⟨⟨vo, m, rfl, RR.out⟩, BB.out⟩
set_option maxHeartbeats 1600000 in
theorem tgo_limit (g p k r : Nat) (u : Value) (n : Nat) (m : Int) (a : Nat → Int) (w : World) (T : Pln w g p k r) (U : Wl w u n a) (hn : 2 ^ k < n) (_hm : -9223372036854775808 ≤ m ∧ m ≤ 9223372036854775807) :
    Calls Tryd.prog 10 #[.pointer (some ⟨g, 0, none⟩), u, .int .i64 m] w fun e w' => (∃ ao cap, e = .returned (.tuple #[.slice ao 0 cap, .int .i64 13])) ∧ Below w.heap.size w w' := by
  obtain ⟨ao, cap, rfl, hcap⟩ := U
  have LE := hid (tlen_no g p k r w T ao n cap hn)
  have B := hid (Below.refl w.heap.size w)
  clear T hn hcap
  go_enter Tryd.func10, Tryd.ntmps10
  go_wp2_with fail
  refine LE.out.mono ?_
  rintro e w3 ⟨rfl, hw⟩
  obtain rfl := hw.symm
  go_wp2
  go_ret2
  exact ⟨⟨_, _, rfl⟩, B.out⟩
set_option maxHeartbeats 1600000 in
theorem tgo_arg (g p k r : Nat) (u : Value) (n : Nat) (m : Int) (a : Nat → Int) (w : World) (T : Pln w g p k r) (U : Wl w u n a) (hn : n ≤ 2 ^ k) (_hr : -9223372036854775808 ≤ m ∧ m ≤ 9223372036854775807) (hm : m < 0 ∨ (2 ^ k : Nat) < m) :
    Calls Tryd.prog 10 #[.pointer (some ⟨g, 0, none⟩), u, .int .i64 m] w fun e w' => (∃ ao cap, e = .returned (.tuple #[.slice ao 0 cap, .int .i64 1])) ∧ Below w.heap.size w w' := by
  obtain ⟨ao, cap, rfl, hcap⟩ := U
  have LE := hid (tlen_yes g p k r w T ao n cap hn)
  have MA := hid (tmost_any g p k r w T)
  have B := hid (Below.refl w.heap.size w)
  by_cases m0 : m < 0
  · clear T hn hcap hm
    go_enter Tryd.func10, Tryd.ntmps10
    go_wp2_with fail
    refine LE.out.mono ?_
    rintro e w3 ⟨rfl, hw⟩
    obtain rfl := hw.symm
    go_wp2
    go_ret2
    exact ⟨⟨_, _, rfl⟩, B.out⟩
  · have hm' : ((2 ^ k : Nat) : Int) < m := by omega
    clear T hn hcap hm
    generalize 2 ^ k = N at *
    go_enter Tryd.func10, Tryd.ntmps10
    go_wp2_with fail
    refine LE.out.mono ?_
    rintro e w3 ⟨rfl, hw⟩
    obtain rfl := hw.symm
    go_wp2_with fail
    refine MA.out.mono ?_
    rintro e w3 ⟨rfl, hw⟩
    obtain rfl := hw.symm
    go_wp2
    go_ret2
    exact ⟨⟨_, _, rfl⟩, B.out⟩
set_option maxHeartbeats 1600000 in
theorem tgo_nil (u : Value) (n : Nat) (a : Nat → Int) (m : Int) (w : World) (_U : Wl w u n a) : Calls Tryd.prog 10 #[.pointer none, u, .int .i64 m] w fun e w' => (∃ v, e = .returned (.tuple #[v, .int .i64 2])) ∧ Below w.heap.size w w' := by
  have LE := hid (tlen_nil u w)
  have B := hid (Below.refl w.heap.size w)
  clear _U
  go_enter Tryd.func10, Tryd.ntmps10
  go_wp2_with fail
  refine LE.out.mono ?_
  rintro e w3 ⟨rfl, hw⟩
  obtain rfl := hw.symm
  go_wp2
  go_ret2
  exact ⟨⟨_, rfl⟩, B.out⟩
set_option maxHeartbeats 1600000 in
theorem tback_any (g p k r : Nat) (u : Value) (n : Nat) (a : Nat → Int) (w : World) (T : Pln w g p k r) (U : Wl w u n a) (hn : n ≤ 2 ^ k) :
    Calls Tryd.prog 12 #[.pointer (some ⟨g, 0, none⟩), u] w fun e w' => (∃ ao cap b, e = .returned (.tuple #[.slice ao n cap, .int .i64 0]) ∧ Wl w' (.slice ao n cap) n b ∧ Fnd p k r n a b) ∧ Below w.heap.size w w' := by
  have CO : Hid (Calls Tryd.prog 21 #[.pointer (some ⟨g, 0, none⟩), u] w fun e w' => (∃ ao b, e = .returned (.slice ao n n) ∧ Wl w' (.slice ao n n) n b ∧ Fnd p k r n a b) ∧ Below w.heap.size w w') := by
    by_cases n0 : n = 0
    · subst n0
      obtain ⟨ao, cap, rfl, -⟩ := U
      refine (coefs_none g ao cap w).mono ?_
      rintro e w' ⟨rfl, rfl⟩
      exact ⟨⟨none, a, rfl, Wl.nil _ _, fun j hj => absurd hj (by omega)⟩, Below.refl _ _⟩
    · refine (coefs_some g p k r u n a w T U hn (by omega)).mono ?_
      rintro e w' ⟨rfl, ⟨b, R, F⟩, B⟩
      exact ⟨⟨_, b, rfl, R, F⟩, B⟩
  obtain ⟨ao, cap, rfl, hcap⟩ := U
  have LE := hid (tlen_yes g p k r w T ao n cap hn)
  clear T hn hcap
  go_enter Tryd.func12, Tryd.ntmps12
  go_wp2_with fail
  refine LE.out.mono ?_
  rintro e w3 ⟨rfl, hw⟩
  obtain rfl := hw.symm
  go_wp2_with fail
  refine CO.out.mono ?_
  rintro e w4 ⟨⟨vo, b, rfl, R, F⟩, B⟩
  have RR := hid R
  have FF := hid F
  have BB := hid B
  clear R B F CO LE
  go_wp2
  go_ret2
  exact ⟨⟨vo, n, b, rfl, RR.out, FF.out⟩, BB.out⟩
set_option maxHeartbeats 1600000 in
theorem tback_limit (g p k r : Nat) (u : Value) (n : Nat) (a : Nat → Int) (w : World) (T : Pln w g p k r) (U : Wl w u n a) (hn : 2 ^ k < n) :
    Calls Tryd.prog 12 #[.pointer (some ⟨g, 0, none⟩), u] w fun e w' => (∃ ao cap, e = .returned (.tuple #[.slice ao 0 cap, .int .i64 13])) ∧ Below w.heap.size w w' := by
  obtain ⟨ao, cap, rfl, hcap⟩ := U
  have LE := hid (tlen_no g p k r w T ao n cap hn)
  have B := hid (Below.refl w.heap.size w)
  clear T hn hcap
  go_enter Tryd.func12, Tryd.ntmps12
  go_wp2_with fail
  refine LE.out.mono ?_
  rintro e w3 ⟨rfl, hw⟩
  obtain rfl := hw.symm
  go_wp2
  go_ret2
  exact ⟨⟨_, _, rfl⟩, B.out⟩
set_option maxHeartbeats 1600000 in
theorem tback_nil (u : Value) (n : Nat) (a : Nat → Int) (w : World) (_U : Wl w u n a) : Calls Tryd.prog 12 #[.pointer none, u] w fun e w' => (∃ v, e = .returned (.tuple #[v, .int .i64 2])) ∧ Below w.heap.size w w' := by
  have LE := hid (tlen_nil u w)
  have B := hid (Below.refl w.heap.size w)
  clear _U
  go_enter Tryd.func12, Tryd.ntmps12
  go_wp2_with fail
  refine LE.out.mono ?_
  rintro e w3 ⟨rfl, hw⟩
  obtain rfl := hw.symm
  go_wp2
  go_ret2
  exact ⟨⟨_, rfl⟩, B.out⟩
set_option maxHeartbeats 800000 in
theorem tmul_nil (u v : Value) (n m : Nat) (a b : Nat → Int) (w : World) (_U : Wl w u n a) (_V : Wl w v m b) : Calls Tryd.prog 13 #[.pointer none, u, v] w fun e w' => (∃ v, e = .returned (.tuple #[v, .int .i64 2])) ∧ Below w.heap.size w w' := by
  have B := hid (Below.refl w.heap.size w)
  clear _U _V
  go_enter Tryd.func13, Tryd.ntmps13
  go_wp2
  go_ret2
  exact ⟨⟨_, rfl⟩, B.out⟩
set_option maxHeartbeats 800000 in
theorem tmul_none (g p k r : Nat) (u v : Value) (n m : Nat) (a b : Nat → Int) (w : World) (_T : Pln w g p k r) (U : Wl w u n a) (V : Wl w v m b) (h : n = 0 ∨ m = 0) :
    Calls Tryd.prog 13 #[.pointer (some ⟨g, 0, none⟩), u, v] w fun e w' => (∃ ao cap, e = .returned (.tuple #[.slice ao 0 cap, .int .i64 0]) ∧ Wl w' (.slice ao 0 cap) 0 a) ∧ Below w.heap.size w w' := by
  have B := hid (Below.refl w.heap.size w)
  have W := hid (Wl.nil w a)
  obtain ⟨ao, cap, rfl, -⟩ := U
  obtain ⟨bo, bap, rfl, -⟩ := V
  clear _T
  by_cases n0 : n = 0
  · subst n0
    go_enter Tryd.func13, Tryd.ntmps13
    go_wp2
    go_ret2
    exact ⟨⟨_, _, rfl, W.out⟩, B.out⟩
  · obtain rfl : m = 0 := by omega
    have n0' : ((n : Int) == 0) = false := beq_eq_false_iff_ne.2 (by omega)
    go_enter Tryd.func13, Tryd.ntmps13
    go_wp2
    go_ret2
    exact ⟨⟨_, _, rfl, W.out⟩, B.out⟩
set_option maxHeartbeats 800000 in
theorem tmul_limit (g p k r : Nat) (u v : Value) (n m : Nat) (a b : Nat → Int) (w : World) (T : Pln w g p k r) (U : Wl w u n a) (V : Wl w v m b) (hn : 0 < n) (hm : 0 < m) (h : 2 ^ k < n + m - 1) (hs : n + m ≤ 9223372036854775807) :
    Calls Tryd.prog 13 #[.pointer (some ⟨g, 0, none⟩), u, v] w fun e w' => (∃ ao cap, e = .returned (.tuple #[.slice ao 0 cap, .int .i64 13])) ∧ Below w.heap.size w w' := by
  have B := hid (Below.refl w.heap.size w)
  have l20 : 2 ^ k ≤ 2 ^ 20 := Nat.pow_le_pow_right (by decide) T.ok.k20
  obtain ⟨ao, cap, rfl, -⟩ := U
  obtain ⟨bo, bap, rfl, -⟩ := V
  have MA := hid (tmost_any g p k r w T)
  have n0' : ((n : Int) == 0) = false := beq_eq_false_iff_ne.2 (by omega)
  have m0' : ((m : Int) == 0) = false := beq_eq_false_iff_ne.2 (by omega)
  have w1 : IntKind.i64.wrap ((n : Int) + (m : Int)) = (n : Int) + (m : Int) := by rw [IntKind.wrap_i64]; omega
  have w2 : ((2 ^ k : Nat) : Int) + 2 ≤ (n : Int) + (m : Int) := by omega
  clear T h
  generalize 2 ^ k = N at *
  go_enter Tryd.func13, Tryd.ntmps13
  go_wp2_with fail
  refine MA.out.mono ?_
  rintro e w3 ⟨rfl, hw⟩
  obtain rfl := hw.symm
  go_wp2
  go_ret2
  exact ⟨⟨_, _, rfl⟩, B.out⟩
end Go.Proofs.YtbecdlibckbbcabDoor
namespace Go.Proofs.YtbecdlibckbbcabDoor
open Go.RowKit Num Nmb

set_option maxHeartbeats 1600000 in
set_option maxRecDepth 100000 in
theorem tmul_any (g p k r : Nat) (u v : Value) (n m : Nat) (a b : Nat → Int) (w : World) (T : Pln w g p k r) (U : Wl w u n a) (V : Wl w v m b) (hn : 0 < n) (hm : 0 < m) (h : n + m - 1 ≤ 2 ^ k) :
    Calls Tryd.prog 13 #[.pointer (some ⟨g, 0, none⟩), u, v] w fun e w' => (∃ ao cap, e = .returned (.tuple #[.slice ao (n + m - 1 : Nat) cap, .int .i64 0]) ∧ Wl w' (.slice ao (n + m - 1) cap) (n + m - 1) (fun j => prd a b n m j % p)) ∧ Below w.heap.size w w' := by
  have p2 := T.ok.pri.1
  have p63 := T.ok.h63
  have l20 : 2 ^ k ≤ 1048576 := Nat.pow_le_pow_right (n := 2) (j := 20) (by decide) T.ok.k20
  have TO := T.ok
  obtain ⟨M, hM⟩ : ∃ M, M = n + m - 1 := ⟨_, rfl⟩
  have MA := hid (tmost_any g p k r w T)
  have VA := hid (values_some g p k r u n M a w T U (by omega) (by omega) (by omega))
  have VB : Hid (∀ w1, Below w.heap.size w w1 → Calls Tryd.prog 20 #[.pointer (some ⟨g, 0, none⟩), v, .int .i64 M] w1 fun e w' => e = .returned (.slice (some ⟨w1.heap.size, 0, none⟩) M M) ∧ (∃ N X, Row w' w1.heap.size N X ∧ M ≤ N ∧ N ≤ 1048576 ∧ ∀ j, j < M → X j = ev b m ((r : Int) ^ rv k j) % p) ∧ Below w1.heap.size w1 w') := fun w1 B => values_some g p k r v m M b w1 (T.below B) (V.below B) (by omega) (by omega) (by omega)
  obtain ⟨ao, cap, rfl, -⟩ := U
  obtain ⟨bo, bap, rfl, -⟩ := V
  obtain ⟨_, gf, gm, hh, f, s, TF, hh2, OK⟩ := T
  have TT := hid TF
  have lt := TF.lt
  have PL : Hid (∀ W, PlnF W g gf gm p k r hh f s → Pln W g p k r) := fun W F => ⟨TO, gf, gm, hh, f, s, F, hh2, OK⟩
  have CO : Hid (∀ W gv (z : Nat → Int), PlnF W g gf gm p k r hh f s → Wl W (.slice (some ⟨gv, 0, none⟩) M M) M z → Calls Tryd.prog 21 #[.pointer (some ⟨g, 0, none⟩), .slice (some ⟨gv, 0, none⟩) M M] W fun e w' => e = .returned (.slice (some ⟨W.heap.size, 0, none⟩) M M) ∧ (∃ b, Wl w' (.slice (some ⟨W.heap.size, 0, none⟩) M M) M b ∧ Fnd p k r M z b) ∧ Below W.heap.size W w') := fun W gv z F Z => coefs_some g p k r _ M z W (PL.out W F) Z (by omega) (by omega)
  have MU : Hid (∀ W x y, Fld W gf p f s → 0 ≤ x → 0 ≤ y → Calls Tryd.prog 22 #[.pointer (some ⟨gf, 0, none⟩), .int .u64 x, .int .u64 y] W fun e w' => e = .returned (.int .u64 (x * y % p)) ∧ ∃ k, w' = W.drewN k) := fun W x y F hx hy => mul_any gf p f s x y W F OK hx hy
  have em : ∀ x : Int, 0 ≤ x % (p : Int) ∧ x % (p : Int) < p := fun x => ⟨Int.emod_nonneg _ (by omega), Int.emod_lt_of_pos _ (by omega)⟩
  have EM := hid em
  have FIN : Hid (∀ (w' : World) (sv : Value) (c z : Nat → Int), (∀ j, j < M → z j = ev a n ((r : Int) ^ rv k j) % p * (ev b m ((r : Int) ^ rv k j) % p) % p) → Wl w' sv M c → Fnd p k r M z c → Wl w' sv M (fun j => prd a b n m j % p)) := by
    intro w' sv c z hz W F
    refine W.eq fun j hj => ?_
    refine F.is TO (by omega) (fun i hi => ?_) j hj
    rw [hz i hi, ev_prd a b (by omega), Int.emod_emod_of_dvd _ (Int.dvd_refl _), ← Int.mul_emod]
  have n0' : ((n : Int) == 0) = false := beq_eq_false_iff_ne.2 (by omega)
  have m0' : ((m : Int) == 0) = false := beq_eq_false_iff_ne.2 (by omega)
  have w1 : IntKind.i64.wrap ((n : Int) + (m : Int)) = (n : Int) + (m : Int) := by rw [IntKind.wrap_i64]; omega
  have w2 : ¬ ((2 ^ k : Nat) : Int) + 2 ≤ (n : Int) + (m : Int) := by omega
  have w3 : (n : Int) + (m : Int) - 1 = (M : Int) := by omega
  have w4 : IntKind.i64.wrap (M : Int) = (M : Int) := by rw [IntKind.wrap_i64]; omega
  have M20 : M ≤ 1048576 := by omega
  rw [← hM]
  clear TF OK hM h TO hh2 PL em
  generalize 2 ^ k = Nk at *
  go_enter Tryd.func13, Tryd.ntmps13
  go_wp2_with fail
  refine MA.out.mono ?_
  rintro e w3 ⟨rfl, hw⟩
  obtain rfl := hw.symm
  go_wp2_with fail
  refine VA.out.mono ?_
  rintro e w5 ⟨rfl, ⟨N, X, R1, hMN, hN2, hX⟩, B1⟩
  have V2 := hid (VB.out w5 B1)
  have lt5 := R1.lt
  have RR1 := hid R1
  have BB1 := hid B1
  have HX := hid hX
  clear R1 B1 hX VA VB MA
  go_wp2_with fail
  refine V2.out.mono ?_
  rintro e w6 ⟨rfl, ⟨N2, X2, R2, hMN2, hN22, hX2⟩, B2⟩
  have RV := hid (RR1.out.below B2 lt5)
  have RO := hid R2
  have BB2 := hid (BB1.out.trans (B2.mono BB1.out.size))
  have T6 := hid (TT.out.below BB2.out lt)
  have HX2 := hid hX2
  have ne : w5.heap.size ≠ w.heap.size := by omega
  have d3 : g ≠ w.heap.size ∧ gf ≠ w.heap.size ∧ gm ≠ w.heap.size := by omega
  have D3 := hid d3
  clear RR1 BB1 R2 B2 V2 TT hX2 d3 lt lt5
  obtain ⟨gv, hgv⟩ : ∃ gv, gv = w.heap.size := ⟨_, rfl⟩
  have HG := hid hgv
  rw [← hgv] at RV BB2 D3 ne ⊢
  clear hgv
  generalize w5.heap.size = go at *
  go_wp2
  go_loopw [50] (fun iv wr => ∃ (i : Nat) (Z : Nat → Int), iv = .int .i64 i ∧ i ≤ M ∧ Hid (∀ j, j < N → Z j = if j < i then X j * X2 j % p else X j) ∧ Hid (Row wr gv N Z) ∧ Hid (OnlyB gv w6 wr)) (fun iv _ => ((M : Int) - intOf iv).toNat)
  case atStart => exact ⟨0, X, rfl, Nat.zero_le _, fun j _ => by rw [if_neg (by omega)], RV.out, OnlyB.refl _ _⟩
  case round =>
    obtain ⟨i, Z, rfl, hi, HZ, Ri, Oi⟩ := hrel
    by_cases him : i = M
    · have him' : ¬ (i : Int) < (M : Int) := by omega
      obtain rfl := him
      have ZW : Wl wr (.slice (some ⟨gv, 0, none⟩) i i) i Z := ⟨_, i, rfl, Nat.le_refl _, by omega, fun j hj => by
        rw [HZ.out j (by omega), if_pos hj]
        have := EM.out (X j * X2 j)
        omega, fun _ => ⟨gv, 0, rfl, Ri.out.lt, fun j hj => by rw [Nat.zero_add]; exact Ri.out.cell (by omega)⟩⟩
      have C1 := hid (CO.out wr gv Z (T6.out.only Oi.out D3.out) ZW)
      have hz : Hid (∀ j, j < i → Z j = ev a n ((r : Int) ^ rv k j) % p * (ev b m ((r : Int) ^ rv k j) % p) % p) := fun j hj => by rw [HZ.out j (by omega), if_pos hj, HX.out j hj, HX2.out j hj]
      have B7 := hid (BB2.out.trans (Oi.out.below))
      clear ZW CO HZ Ri Oi RV RO BB2 T6 HX HX2 MU D3 EM
      go_wp2_with fail
      refine C1.out.mono ?_
      rintro e w7 ⟨rfl, ⟨c, W7, F7⟩, B8⟩
      have G := hid (FIN.out w7 _ c Z hz.out W7 F7)
      have B9 := hid (B7.out.trans (B8.mono (by have := B7.out.size; have := HG.out; omega)))
      clear C1 W7 F7 B8 B7 hz FIN
      go_wp2
      go_ret2
      refine ⟨⟨_, _, rfl, G.out⟩, ?_⟩
      rw [← HG.out]
      exact B9.out
    · have him' : (i : Int) < (M : Int) := by omega
      have hi' : i < M := by omega
      have Ti := T6.out.only Oi.out D3.out
      have cf := Ti.tc.cell0
      have cl := Ri.out.cell (i := i) (by omega)
      have fl := Ri.out.frozen i
      have co := (RO.out.only Oi.out ne).cell (i := i) (by omega)
      rw [HZ.out i (by omega), if_neg (by omega)] at cl
      have x0 : 0 ≤ X i := by rw [HX.out i hi']; exact (EM.out _).1
      have y0 : 0 ≤ X2 i := by rw [HX2.out i hi']; exact (EM.out _).1
      have M1 := hid (fun q => MU.out (wr.drewN q) (X i) (X2 i) (Ti.fld.drew q) x0 y0)
      have N1 : Hid (∀ q, Hid (∀ j, j < N → (fun t => if t = i then X i * X2 i % p else Z t) j = if j < i + 1 then X j * X2 j % p else X j) ∧ Hid (Row ((wr.drewN q).setCell ⟨gv, i, none⟩ (.int .u64 (X i * X2 i % p))) gv N (fun t => if t = i then X i * X2 i % p else Z t)) ∧ Hid (OnlyB gv w6 ((wr.drewN q).setCell ⟨gv, i, none⟩ (.int .u64 (X i * X2 i % p))))) := fun q =>
        ⟨fun j hj => by
          show (if j = i then X i * X2 i % p else Z j) = _
          by_cases e : j = i
          · rw [if_pos e, if_pos (by omega), e]
          · rw [if_neg e, HZ.out j hj]
            by_cases e2 : j < i
            · rw [if_pos e2, if_pos (by omega)]
            · rw [if_neg e2, if_neg (by omega)], (Ri.out.drew q).set i _ (fun _ _ => rfl), (Oi.out.drew q).set _ _⟩
      clear Ti x0 y0 MU CO HZ Ri Oi RV RO BB2 T6 HX HX2 D3 EM FIN
      generalize X i * X2 i % (p : Int) = v1 at *
      go_wp2_with fail
      refine wp_region_last (by kernel_rfl) (by kernel_rfl) (by kernel_rfl) (by kernel_rfl) (by decide) ?_
      simp only [stillLast, still, lastOf]
      repeat (quiet_step ((go_at_call 22; exact Calls.quiet_of (M1.out _))))
      refine wpQuiet_nil ?_
      intro _ hw'
      obtain ⟨nq, hw''⟩ := hw'
      subst hw''
      have N2 := hid (N1.out nq)
      have cl2 : (wr.drewN nq).cell? ⟨gv, i, none⟩ = some (.int .u64 (X i)) := by simpa using cl
      have fl2 : (wr.drewN nq).frozen? ⟨gv, i, none⟩ = false := by simpa using fl
      clear cf cl fl co M1 N1
      generalize wr.drewN nq = w8 at *
      go_wp2
      exact ⟨⟨i + 1, _, rfl, by omega, N2.out.1, N2.out.2.1, N2.out.2.2⟩, by simp only [intOf]; omega⟩
end Go.Proofs.YtbecdlibckbbcabDoor
