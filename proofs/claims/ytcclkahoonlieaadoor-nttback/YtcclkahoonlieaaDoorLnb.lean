/- The law NttBack. -/
import Derived.Test.YtcclkahoonlieaaDoorLnv
namespace Go.Proofs.YtcclkahoonlieaaDoor
open Go.RowKit Num Nmb

set_option maxHeartbeats 3200000 in
set_option maxRecDepth 100000 in
theorem back_law (n0 k : Int) (u : Value) (n : Nat) (a : Nat → Int) (w : World) (U : Wl w u n a) (L : Lay w) :
    Calls Tryd.prog 6 #[.int .i64 n0, .int .i64 k, u] w fun e w' => e = .returned (.bool true) ∧ Below w.heap.size w w' := by
  have AWA : Hid (∀ w', Below w.heap.size w w' → Calls Tryd.prog 9 #[] w' fun e w'' => e = .returned (.bool true) ∧ Below w'.heap.size w' w'') := fun w' B => awake_yes w' (L.below B L.size)
  have LL := hid L
  have U0 := hid U
  obtain ⟨ao, cap, rfl, -⟩ := U
  clear L
  by_cases hk0 : k < 0
  · have B0 := hid (Below.refl w.heap.size w)
    go_enter Tryd.func6, Tryd.ntmps6
    go_wp2_with fail
    refine (AWA.out _ B0.out).mono ?_
    rintro e w9 ⟨rfl, B9⟩
    have BB9 := hid (B0.out.trans (B9.mono B0.out.size))
    clear B9
    go_wp2
    go_ret
    exact ⟨rfl, BB9.out⟩
  by_cases hk10 : 10 < k
  · have B0 := hid (Below.refl w.heap.size w)
    go_enter Tryd.func6, Tryd.ntmps6
    go_wp2_with fail
    refine (AWA.out _ B0.out).mono ?_
    rintro e w9 ⟨rfl, B9⟩
    have BB9 := hid (B0.out.trans (B9.mono B0.out.size))
    clear B9
    go_wp2
    go_ret
    exact ⟨rfl, BB9.out⟩
  by_cases hl : 1024 < n
  · have h2' : (1024 : Int) < (n : Int) := by omega
    have B0 := hid (Below.refl w.heap.size w)
    go_enter Tryd.func6, Tryd.ntmps6
    go_wp2_with fail
    refine (AWA.out _ B0.out).mono ?_
    rintro e w9 ⟨rfl, B9⟩
    have BB9 := hid (B0.out.trans (B9.mono B0.out.size))
    clear B9
    go_wp2
    go_ret
    exact ⟨rfl, BB9.out⟩
  have hn' : ¬ (1024 : Int) < (n : Int) := by omega
  obtain ⟨K, rfl⟩ : ∃ K : Nat, k = (K : Int) := ⟨k.toNat, by omega⟩
  have GR := hid (great_any n0 w)
  go_enter Tryd.func6, Tryd.ntmps6
  go_wp2_with fail
  refine GR.out.mono ?_
  rintro e w1 ⟨⟨p, rfl, GP⟩, B1⟩
  have hP := hid GP.pri
  have pl := GP.le
  have p2 := GP.pri.1
  have BB1 := hid B1
  have L1 := hid (LL.out.below B1 LL.out.size)
  have U1 := hid (U0.out.below B1)
  clear GP B1 GR LL U0
  by_cases hA : K ≤ tw p
  rotate_left
  · have AR := hid (nnew_arg p K w1 hP.out (by omega) (by omega) (Or.inr (by omega)) L1.out)
    clear hA L1 U1
    go_wp2_with fail
    refine AR.out.mono ?_
    rintro e w2 ⟨rfl, B2⟩
    have BB2 := hid (BB1.out.trans (B2.mono BB1.out.size))
    clear B2 AR BB1
    go_wp2_with fail
    refine (AWA.out _ BB2.out).mono ?_
    rintro e w9 ⟨rfl, B9⟩
    have BB9 := hid (BB2.out.trans (B9.mono BB2.out.size))
    clear B9
    go_wp2
    go_ret
    exact ⟨rfl, BB9.out⟩
  have NW := hid (nnew_yes p K w1 hP.out (by omega) (by omega) hA L1.out)
  clear hA L1
  go_wp2_with fail
  refine NW.out.mono ?_
  rintro e w2 ⟨⟨g, r, rfl, T⟩, B2⟩
  have T2 := hid T
  have U2 := hid (U1.out.below B2)
  have BB2 := hid (BB1.out.trans (B2.mono BB1.out.size))
  clear B2 NW BB1 U1 T
  go_wp2
  go_loopw [10, 11] (fun mv iv wr => ∃ (i q : Nat), iv = .int .i64 i ∧ mv = .int .i64 q ∧ i ≤ K ∧ q ≤ 1024 ∧ Hid (q = 2 ^ i) ∧ wr = w2) (fun _ iv _ => ((K : Int) - intOf iv).toNat)
  case atStart => exact ⟨0, 1, rfl, rfl, Nat.zero_le _, by omega, rfl, rfl⟩
  case round =>
    obtain ⟨i, q, rfl, rfl, hi, hq, Q, hwr⟩ := hrel
    obtain rfl := hwr.symm
    by_cases hik : i = K
    rotate_left
    · have hik' : (i : Int) < (K : Int) := by omega
      have hle : 2 ^ (i + 1) ≤ 2 ^ 10 := Nat.pow_le_pow_right (by omega) (by omega)
      have Q' : Hid (2 * q = 2 ^ (i + 1)) := by show _ = _; rw [Q.out, Nat.pow_succ, Nat.mul_comm]
      have hq2 : 2 * q ≤ 1024 := by rw [Q'.out]; exact hle
      clear Q hle
      go_wp2
      exact ⟨⟨i + 1, 2 * q, rfl, by rw [Int.natCast_mul]; rfl, by omega, hq2, Q', by first | trivial | rfl⟩, by simp only [intOf]; omega⟩
    have hik' : ¬ (i : Int) < (K : Int) := by omega
    subst hik
    go_wp2_with fail
    refine (sized_any _ n q a _ U2.out (by omega)).mono ?_
    rintro e w3 ⟨⟨v, rfl, V⟩, B3⟩
    have T3 := hid (T2.out.below B3)
    have BB3 := hid (BB2.out.trans (B3.mono BB2.out.size))
    clear B3 BB2 T2
    have V3 := hid V
    clear V U2
    obtain ⟨vo, vc, hv, -⟩ := V3.out
    subst hv
    go_wp2_with fail
    refine (ngo_any g p i r _ q (szd a n) _ T3.out V3.out Q.out).mono ?_
    rintro e w4 ⟨⟨fo, fc, rfl, G⟩, B4⟩
    have T4 := hid (T3.out.below B4)
    have V4 := hid (V3.out.below B4)
    have BB4 := hid (BB3.out.trans (B4.mono BB3.out.size))
    clear B4 BB3 T3 V3
    have G4 := hid G
    clear G
    go_wp2_with fail
    refine (nback_any g p i r _ q _ _ T4.out G4.out Q.out).mono ?_
    rintro e w5 ⟨⟨bo, bc, b, rfl, W, BK⟩, B5⟩
    have T5 := hid (T4.out.below B5)
    have V5 := hid (V4.out.below B5)
    have BB5 := hid (BB4.out.trans (B5.mono BB4.out.size))
    clear B5 BB4 T4 V4
    have W5 := hid W
    have E1 : Hid (∀ j, j < q → b j = szd a n j % p) := by
      have h := BK.there (a := szd a n) T5.out.ok (fun j hj => by rw [← Q.out])
      rw [← Q.out] at h
      exact h
    clear W BK G4
    go_wp2_with fail
    refine (nback_any g p i r _ q _ _ T5.out V5.out Q.out).mono ?_
    rintro e w6 ⟨⟨co, cc, c, rfl, C, BK⟩, B6⟩
    have T6 := hid (T5.out.below B6)
    have V6 := hid (V5.out.below B6)
    have W6 := hid (W5.out.below B6)
    have BB6 := hid (BB5.out.trans (B6.mono BB5.out.size))
    clear B6 BB5 T5 V5 W5
    have C6 := hid C
    have E2 : Hid (∀ j, j < q → dft c r q j % p = szd a n j % p) := by
      have h := BK.again T6.out.ok
      rw [← Q.out] at h
      exact h
    clear C BK
    go_wp2_with fail
    refine (ngo_any g p i r _ q c _ T6.out C6.out Q.out).mono ?_
    rintro e w7 ⟨⟨do_, dc, rfl, G⟩, B7⟩
    have V7 := hid (V6.out.below B7)
    have W7 := hid (W6.out.below B7)
    have BB7 := hid (BB6.out.trans (B7.mono BB6.out.size))
    clear B7 BB6 V6 W6
    have G7 := hid (G.eq E2.out)
    have W7' := hid (W7.out.eq E1.out)
    clear G E1 E2 W7 C6 T6 Q
    generalize szd a n = z at *
    go_wp2
    go_loopw [20] (fun jv wr => ∃ (j : Nat), jv = .int .i64 j ∧ j ≤ q ∧ ∃ c, wr = w7.drewN c) (fun jv _ => ((q : Int) - intOf jv).toNat)
    case atStart => exact ⟨0, rfl, Nat.zero_le _, 0, rfl⟩
    case round =>
      obtain ⟨j, rfl, hj, c0, rfl⟩ := hrel
      by_cases hjq : j = q
      · subst hjq
        have BB8 := hid (below_drewN BB7.out c0)
        go_wp2_with fail
        refine (AWA.out _ BB8.out).mono ?_
        rintro e w9 ⟨rfl, B9⟩
        have BB9 := hid (BB8.out.trans (B9.mono BB8.out.size))
        clear B9
        go_wp2
        go_ret
        exact ⟨rfl, BB9.out⟩
      · have hjq' : (j : Int) < (q : Int) := by omega
        obtain ⟨x1, o1, rfl, -, c1'⟩ := V7.out.cell (j := j) (by omega)
        obtain ⟨x2, o2, rfl, -, c2'⟩ := W7'.out.cell (j := j) (by omega)
        obtain ⟨x3, o3, rfl, -, c3'⟩ := G7.out.cell (j := j) (by omega)
        have v0 := V7.out.val (j := j) (by omega)
        have m1 : Int.tmod (z j) (p : Int) = z j % (p : Int) := Int.tmod_eq_emod_of_nonneg v0.1
        have d0 := Int.emod_nonneg (z j) (show (p : Int) ≠ 0 by omega)
        have d1 := Int.emod_lt_of_pos (z j) (show (0 : Int) < (p : Int) by omega)
        have m2 : IntKind.u64.wrap (z j % (p : Int)) = z j % (p : Int) := by rw [IntKind.wrap_u64]; omega
        have c1 : (w7.drewN c0).cell? ⟨x1, o1 + j, none⟩ = some (.int .u64 (z j)) := by simpa using c1'
        have c2 : (w7.drewN c0).cell? ⟨x2, o2 + j, none⟩ = some (.int .u64 (z j % p)) := by simpa using c2'
        have c3 : (w7.drewN c0).cell? ⟨x3, o3 + j, none⟩ = some (.int .u64 (z j % p)) := by simpa using c3'
        have p0 : ¬ p = 0 := by omega
        have p0' : ¬ (p : Int) = 0 := by omega
        have p0'' : ((p : Int) == 0) = false := beq_eq_false_iff_ne.2 p0'
        clear c1' c2' c3' v0
        generalize z j % (p : Int) = zp at *
        generalize hw : w7.drewN c0 = w8 at *
        have HE := hid hw
        clear hw
        go_wp2_with fail
        go_quiet (fail)
        rename_i nq
        go_wp2
        exact ⟨⟨j + 1, rfl, by omega, c0 + nq, by rw [← HE.out]; simp⟩, by simp only [intOf]; omega⟩
end Go.Proofs.YtcclkahoonlieaaDoor
