/- The law TftFinds. -/
import Derived.Test.YtbecdlibckbbcaaDoorLtp
namespace Go.Proofs.YtbecdlibckbbcaaDoor
open Go.RowKit Num Nmb

set_option maxHeartbeats 3200000 in
set_option maxRecDepth 100000 in
theorem finds_law (p : Nat) (u : Value) (n : Nat) (a : Nat → Int) (w : World) (hn : p ≤ 18446744073709551615) (U : Wl w u n a) (L : Lay w) :
    Calls Tryd.prog 6 #[.int .u64 p, u] w fun e w' => e = .returned (.bool true) ∧ Below w.heap.size w w' := by
  have AWA : Hid (∀ w', Below w.heap.size w w' → Calls Tryd.prog 11 #[] w' fun e w'' => e = .returned (.bool true) ∧ Below w'.heap.size w' w'') := fun w' B => awake7 w' (L.below B L.size)
  have LL := hid L
  have U0 := hid U
  obtain ⟨ao, cap, rfl, -⟩ := U
  clear L
  by_cases hbig : 100000 < p
  · have hb' : (100000 : Int) < (p : Int) := by omega
    have B0 := hid (Below.refl w.heap.size w)
    go_enter Tryd.func6, Tryd.ntmps6
    go_wp2_with fail
    refine (AWA.out _ B0.out).mono ?_
    rintro e w9 ⟨rfl, B9⟩
    have BB9 := hid (B0.out.trans (B9.mono B0.out.size))
    clear B9
    go_wp2
    go_ret
    exact ⟨rfl, BB9.out⟩
  have hb' : ¬ (100000 : Int) < (p : Int) := by omega
  by_cases h70 : 70 < n
  · have h2' : (70 : Int) < (n : Int) := by omega
    have B0 := hid (Below.refl w.heap.size w)
    go_enter Tryd.func6, Tryd.ntmps6
    go_wp2_with fail
    refine (AWA.out _ B0.out).mono ?_
    rintro e w9 ⟨rfl, B9⟩
    have BB9 := hid (B0.out.trans (B9.mono B0.out.size))
    clear B9
    go_wp2
    go_ret
    exact ⟨rfl, BB9.out⟩
  have h2' : ¬ (70 : Int) < (n : Int) := by omega
  have hp1 : p ≤ 100000 := by omega
  rcases plans_cases p 5 w hp1 LL.out with ⟨E, HE⟩ | ⟨K, hK5, hK, HE⟩
  · have NE := hid ((HE w (Below.refl _ _)).1)
    have RE := hid (fun w1 B => (HE w1 B).2)
    clear HE
    go_enter Tryd.func6, Tryd.ntmps6
    go_wp2_with fail
    refine NE.out.mono ?_
    rintro e w1 ⟨rfl, B1⟩
    have R1 := hid (RE.out w1 B1)
    have BB1 := hid B1
    clear B1 NE RE
    go_wp2_with fail
    refine R1.out.mono ?_
    rintro e w2 ⟨rfl, B2⟩
    have BB2 := hid (BB1.out.trans (B2.mono BB1.out.size))
    clear B2 R1 BB1
    go_wp2_with fail
    refine (AWA.out _ BB2.out).mono ?_
    rintro e w9 ⟨rfl, B9⟩
    have BB9 := hid (BB2.out.trans (B9.mono BB2.out.size))
    clear B9
    go_wp2
    go_ret
    exact ⟨rfl, BB9.out⟩
  · obtain rfl : K = 5 := by omega
    have NE := hid ((HE w (Below.refl _ _)).1)
    have RE : Hid (∀ w1, Below w.heap.size w w1 → Calls Tryd.prog 13 #[.int .u64 p, .int .i64 5] w1 fun e w'' => (∃ r, e = .returned (.tuple #[.pointer (some ⟨w1.heap.size, 0, none⟩), .int .i64 0]) ∧ RT w'' w1.heap.size p 5 32 r ∧ RootIs p 5 r) ∧ Below w1.heap.size w1 w'') := fun w1 B => (HE w1 B).2
    clear HE LL hbig hn hK5 hK
    by_cases h32 : 32 < n
    · have h32' : (32 : Int) < (n : Int) := by omega
      have LIM : Hid (2 ^ 5 < n) := h32
      go_enter Tryd.func6, Tryd.ntmps6
      go_wp2_with fail
      refine NE.out.mono ?_
      rintro e w1 ⟨⟨g, r, rfl, T⟩, B1⟩
      have R1 := hid (RE.out w1 B1)
      have BB1 := hid B1
      have T1 := hid T
      clear B1 NE RE T
      go_wp2_with fail
      refine R1.out.mono ?_
      rintro e w2 ⟨⟨r', rfl, T', RI⟩, B2⟩
      obtain rfl : r' = r := RI.uniq T1.out.ok.root
      have T2 := hid (T1.out.below B2)
      have BB2 := hid (BB1.out.trans (B2.mono BB1.out.size))
      have S2 := hid T'
      clear B2 R1 BB1 T1 T' RI
      generalize w1.heap.size = g2 at *
      have p2 := T2.out.ok.pri.1
      have U2 := hid (U0.out.below BB2.out)
      clear U0
      go_wp2_with fail
      refine (tback_limit g p 5 r' _ n a _ T2.out U2.out LIM.out).mono ?_
      rintro e w3 ⟨⟨go, gc, rfl⟩, B3⟩
      have BB3 := hid (BB2.out.trans (B3.mono BB2.out.size))
      clear B3 BB2 
      go_wp2_with fail
      refine (AWA.out _ BB3.out).mono ?_
      rintro e w9 ⟨rfl, B9⟩
      have BB9 := hid (BB3.out.trans (B9.mono BB3.out.size))
      clear B9
      go_wp2
      go_ret
      exact ⟨rfl, BB9.out⟩
    have h32' : ¬ (32 : Int) < (n : Int) := by omega
    have LE : Hid (n ≤ 2 ^ 5) := by show n ≤ 32; omega
    go_enter Tryd.func6, Tryd.ntmps6
    go_wp2_with fail
    refine NE.out.mono ?_
    rintro e w1 ⟨⟨g, r, rfl, T⟩, B1⟩
    have R1 := hid (RE.out w1 B1)
    have BB1 := hid B1
    have T1 := hid T
    clear B1 NE RE T
    go_wp2_with fail
    refine R1.out.mono ?_
    rintro e w2 ⟨⟨r', rfl, T', RI⟩, B2⟩
    obtain rfl : r' = r := RI.uniq T1.out.ok.root
    have T2 := hid (T1.out.below B2)
    have BB2 := hid (BB1.out.trans (B2.mono BB1.out.size))
    have S2 := hid T'
    clear B2 R1 BB1 T1 T' RI
    generalize w1.heap.size = g2 at *
    have p2 := T2.out.ok.pri.1
    have U2 := hid (U0.out.below BB2.out)
    clear U0
    go_wp2_with fail
    refine (tback_any g p 5 r' _ n a _ T2.out U2.out LE.out).mono ?_
    rintro e w3 ⟨⟨bo, bc, b, rfl, G, FB⟩, B3⟩
    have S3 := hid (S2.out.below B3 S2.out.lt)
    have U3 := hid (U2.out.below B3)
    have BB3 := hid (BB2.out.trans (B3.mono BB2.out.size))
    clear B3 BB2 S2 U2
    have G3 := hid G
    have FF := hid FB
    clear G FB
    go_wp2_with fail
    refine (rtgo_any g2 p 5 32 r' _ n n b _ S3.out G3.out (by decide) LE.out p2 (by omega)).mono ?_
    rintro e w4 ⟨⟨v, rfl, V⟩, B4⟩
    have G4 := hid (G3.out.below B4)
    have U4 := hid (U3.out.below B4)
    have BB4 := hid (BB3.out.trans (B4.mono BB3.out.size))
    clear B4 BB3 G3 U3
    have V4 := hid (V.eq (fun j hj => (FF.out j hj).2.2))
    obtain ⟨vo, vc, hv, -⟩ := V4.out
    subst hv
    clear V
    go_wp2
    go_loopw [12] (fun jv wr => ∃ (j : Nat), jv = .int .i64 j ∧ j ≤ n ∧ ∃ c, wr = w4.drewN c) (fun jv _ => ((n : Int) - intOf jv).toNat)
    case atStart => exact ⟨0, rfl, Nat.zero_le _, 0, rfl⟩
    case round =>
      obtain ⟨j, rfl, hj, c0, rfl⟩ := hrel
      by_cases hjq : j = n
      · subst hjq
        have BB5 := hid (below_drewN BB4.out c0)
        go_wp2_with fail
        refine (AWA.out _ BB5.out).mono ?_
        rintro e w9 ⟨rfl, B9⟩
        have BB9 := hid (BB5.out.trans (B9.mono BB5.out.size))
        clear B9
        go_wp2
        go_ret
        exact ⟨rfl, BB9.out⟩
      · have hjq' : (j : Int) < (n : Int) := by omega
        obtain ⟨x1, o1, rfl, -, c1'⟩ := U4.out.cell (j := j) (by omega)
        obtain ⟨x2, o2, rfl, -, c2'⟩ := V4.out.cell (j := j) (by omega)
        obtain ⟨x3, o3, rfl, -, c3'⟩ := G4.out.cell (j := j) (by omega)
        have v0 := U4.out.val (j := j) (by omega)
        have bl := FF.out j (by omega)
        have b1 : ¬ (p : Int) ≤ b j := by omega
        have m1 : Int.tmod (a j) (p : Int) = a j % (p : Int) := Int.tmod_eq_emod_of_nonneg v0.1
        have d0 := Int.emod_nonneg (a j) (show (p : Int) ≠ 0 by omega)
        have d1 := Int.emod_lt_of_pos (a j) (show (0 : Int) < (p : Int) by omega)
        have m2 : IntKind.u64.wrap (a j % (p : Int)) = a j % (p : Int) := by rw [IntKind.wrap_u64]; omega
        have c1 : (w4.drewN c0).cell? ⟨x1, o1 + j, none⟩ = some (.int .u64 (a j)) := by simpa using c1'
        have c2 : (w4.drewN c0).cell? ⟨x2, o2 + j, none⟩ = some (.int .u64 (a j % p)) := by simpa using c2'
        have c3 : (w4.drewN c0).cell? ⟨x3, o3 + j, none⟩ = some (.int .u64 (b j)) := by simpa using c3'
        have p0 : ¬ p = 0 := by omega
        have p0' : ¬ (p : Int) = 0 := by omega
        have p0'' : ((p : Int) == 0) = false := beq_eq_false_iff_ne.2 p0'
        clear c1' c2' c3' v0 bl
        generalize a j % (p : Int) = zp at *
        generalize hw : w4.drewN c0 = w8 at *
        have HE := hid hw
        clear hw
        go_wp2_with fail
        go_quiet (fail)
        rename_i nq
        go_wp2
        exact ⟨⟨j + 1, rfl, by omega, c0 + nq, by rw [← HE.out]; simp⟩, by simp only [intOf]; omega⟩
end Go.Proofs.YtbecdlibckbbcaaDoor
