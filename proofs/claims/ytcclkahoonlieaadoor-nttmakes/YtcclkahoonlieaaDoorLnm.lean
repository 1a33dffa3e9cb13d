/- The law NttMakes. -/
import Derived.Test.YtcclkahoonlieaaDoorQe
import Derived.Test.YtcclkahoonlieaaDoorRgp
namespace Go.Proofs.YtcclkahoonlieaaDoor
open Go.RowKit Num Nmb

set_option maxHeartbeats 3200000 in
set_option maxRecDepth 100000 in
theorem makes_law (p : Nat) (k : Int) (w : World) (hn : p ≤ 18446744073709551615) (hk : -9223372036854775808 ≤ k ∧ k ≤ 9223372036854775807) (L : Lay w) :
    Calls Tryd.prog 3 #[.int .u64 p, .int .i64 k] w fun e w' => e = .returned (.bool true) ∧ Below w.heap.size w w' := by
  have AW := hid (awake_yes w L)
  have AWA : Hid (∀ w', Below w.heap.size w w' → Calls Tryd.prog 9 #[] w' fun e w'' => e = .returned (.bool true) ∧ Below w'.heap.size w' w'') := fun w' B => awake_yes w' (L.below B L.size)
  have LL := hid L
  clear L
  by_cases hbig : 100000 < p
  · have hb' : (100000 : Int) < (p : Int) := by omega
    clear LL
    go_enter Tryd.func3, Tryd.ntmps3
    go_wp2_with fail
    refine AW.out.mono ?_
    rintro e w1 ⟨rfl, B⟩
    have BB := hid B
    clear B
    go_wp2
    go_ret
    exact ⟨rfl, BB.out⟩
  · have hb' : ¬ (100000 : Int) < (p : Int) := by omega
    by_cases hmid : 9 < k ∧ k ≤ 20
    · obtain ⟨m1, m2⟩ := hmid
      clear LL
      go_enter Tryd.func3, Tryd.ntmps3
      go_wp2_with fail
      refine AW.out.mono ?_
      rintro e w1 ⟨rfl, B⟩
      have BB := hid B
      clear B
      go_wp2
      go_ret
      exact ⟨rfl, BB.out⟩
    · -- the two answers are alike
      have none_way : ∀ (E : Int), (∀ w', Below w.heap.size w w' → Calls Tryd.prog 10 #[.int .u64 p, .int .i64 k] w' fun e w'' => e = .returned (.tuple #[.pointer none, .int .i64 E]) ∧ Below w'.heap.size w' w'') →
          (∀ w', Below w.heap.size w w' → Calls Tryd.prog 11 #[.int .u64 p, .int .i64 k] w' fun e w'' => e = .returned (.tuple #[.pointer none, .int .i64 E]) ∧ Below w'.heap.size w' w'') →
          Calls Tryd.prog 3 #[.int .u64 p, .int .i64 k] w fun e w' => e = .returned (.bool true) ∧ Below w.heap.size w w' := by
        intro E N R
        have NN := hid (N w (Below.refl _ _))
        have RR := hid R
        have kk : ¬ ((9 : Int) < k ∧ k ≤ 20) := hmid
        clear N R LL AW hmid
        by_cases h9 : 9 < k
        · have h20 : ¬ k ≤ 20 := by omega
          clear kk
          go_enter Tryd.func3, Tryd.ntmps3
          go_wp2_with fail
          refine NN.out.mono ?_
          rintro e w1 ⟨rfl, B1⟩
          have BB1 := hid B1
          have R1 := hid (RR.out w1 B1)
          clear B1 NN RR
          go_wp2_with fail
          refine R1.out.mono ?_
          rintro e w2 ⟨rfl, B2⟩
          have BB2 := hid (BB1.out.trans (B2.mono BB1.out.size))
          clear B2 R1 BB1
          go_wp2_with fail
          have nb := Beh.some w2
          refine wp_region_beh (by kernel_rfl) (by kernel_rfl) ?_
          repeat (go_big_quiet_step ((go_at_call 9; rename_i x; exact Calls.beh_of (AWA.out _ (BB2.out.trans (x.2.mono BB2.out.size))))))
          refine wpQuiet_nil ?_
          intro _ hw'
          obtain ⟨⟨w9, B9⟩, rfl⟩ := hw'
          have BB9 := hid (BB2.out.trans (B9.mono BB2.out.size))
          clear B9
          go_wp2
          go_ret
          exact ⟨rfl, BB9.out⟩
        · have h9' : ¬ (9 : Int) < k := h9
          clear kk
          go_enter Tryd.func3, Tryd.ntmps3
          go_wp2_with fail
          refine NN.out.mono ?_
          rintro e w1 ⟨rfl, B1⟩
          have BB1 := hid B1
          have R1 := hid (RR.out w1 B1)
          clear B1 NN RR
          go_wp2_with fail
          refine R1.out.mono ?_
          rintro e w2 ⟨rfl, B2⟩
          have BB2 := hid (BB1.out.trans (B2.mono BB1.out.size))
          clear B2 R1 BB1
          go_wp2_with fail
          have nb := Beh.some w2
          refine wp_region_beh (by kernel_rfl) (by kernel_rfl) ?_
          repeat (go_big_quiet_step ((go_at_call 9; rename_i x; exact Calls.beh_of (AWA.out _ (BB2.out.trans (x.2.mono BB2.out.size))))))
          refine wpQuiet_nil ?_
          intro _ hw'
          obtain ⟨⟨w9, B9⟩, rfl⟩ := hw'
          have BB9 := hid (BB2.out.trans (B9.mono BB2.out.size))
          clear B9
          go_wp2
          go_ret
          exact ⟨rfl, BB9.out⟩
      by_cases h20 : 20 < k
      · exact none_way 13 (fun w' _ => nnew_limit p k w' h20) (fun w' _ => (rnew_limit p k w' h20).mono fun _ _ h => ⟨h.1, by rw [h.2]; exact Below.refl _ _⟩)
      · have k9 : k ≤ 9 := by omega
        cases hB : isB p
        · exact none_way 14 (fun w' B => nnew_prime p k w' hn (by omega) hB (LL.out.below B LL.out.size)) (fun w' _ => rnew_prime p k w' (by omega) (by omega) hB)
        · have hP := pri_of_isB hB (by omega)
          by_cases hA : k < 0 ∨ (tw p : Int) < k
          · exact none_way 1 (fun w' B => nnew_arg p k w' hP (by omega) (by omega) hA (LL.out.below B LL.out.size)) (fun w' _ => rnew_arg p k w' (by omega) (by omega) hP hA)
          · obtain ⟨K, rfl⟩ : ∃ K : Nat, k = (K : Int) := ⟨k.toNat, by omega⟩
            have NN := hid (nnew_yes p K w hP (by omega) (by omega) (by omega) LL.out)
            have RR : Hid (∀ w', Calls Tryd.prog 11 #[.int .u64 p, .int .i64 K] w' fun e w'' => (∃ r, e = .returned (.tuple #[.pointer (some ⟨w'.heap.size, 0, none⟩), .int .i64 0]) ∧ RT w'' w'.heap.size p K (2 ^ K) r ∧ RootIs p K r) ∧ Below w'.heap.size w' w'') := fun w' => rnew_yes p K w' (by omega) (by omega) hP (by omega)
            have h9' : ¬ (9 : Int) < (K : Int) := by omega
            clear none_way LL AW hA hP hB hmid k9 h20
            go_enter Tryd.func3, Tryd.ntmps3
            go_wp2_with fail
            refine NN.out.mono ?_
            rintro e w1 ⟨⟨g, r, rfl, T⟩, B1⟩
            have BB1 := hid B1
            have T1 := hid T
            have R1 := hid (RR.out w1)
            clear B1 NN RR T
            go_wp2_with fail
            refine R1.out.mono ?_
            rintro e w2 ⟨⟨r', rfl, T', RI⟩, B2⟩
            obtain rfl : r' = r := RI.uniq T1.out.ok.root
            have BB2 := hid (BB1.out.trans (B2.mono BB1.out.size))
            have T2 := hid (T1.out.below B2)
            have RT2 := hid T'
            clear B2 R1 BB1 T1 T' RI
            generalize w1.heap.size = g2 at *
            have c3 : ∀ x : Beh w2, x.1.cell? ⟨g2, 3, none⟩ = some (.int .u64 r') := fun x => (RT2.out.below x.2 RT2.out.lt).cell3
            go_wp2_with fail
            have nb := Beh.some w2
            refine wp_region_beh (by kernel_rfl) (by kernel_rfl) ?_
            repeat (go_big_quiet_step (first
              | (go_at_call 12; rename_i x; exact Calls.beh_same (nk_any g p K r' _ (T2.out.below x.2)))
              | (go_at_call 13; rename_i x; exact Calls.beh_same (np_any g p K r' _ (T2.out.below x.2)))
              | (go_at_call 14; rename_i x; exact Calls.beh_same (nroot_any g p K r' _ (T2.out.below x.2)))
              | (go_at_call 9; rename_i x; exact Calls.beh_of (AWA.out _ (BB2.out.trans (x.2.mono BB2.out.size))))))
            refine wpQuiet_nil ?_
            intro _ hw'
            obtain ⟨⟨w9, B9⟩, rfl⟩ := hw'
            have BB9 := hid (BB2.out.trans (B9.mono BB2.out.size))
            clear B9
            go_wp2
            go_ret
            exact ⟨rfl, BB9.out⟩
end Go.Proofs.YtcclkahoonlieaaDoor
