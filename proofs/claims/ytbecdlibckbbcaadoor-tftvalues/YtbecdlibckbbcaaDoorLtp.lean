/- The law TftPoints. -/
import Derived.Test.YtbecdlibckbbcaaDoorTe
import Derived.Test.YtbecdlibckbbcaaDoorRgp
namespace Go.Proofs.YtbecdlibckbbcaaDoor
open Go.RowKit Num Nmb

/-- the two News: both answer the same error, or both a table. -/
theorem plans_cases (p : Nat) (k : Int) (w : World) (hp : p ≤ 100000) (L : Lay w) :
    (∃ E : Int, ∀ w', Below w.heap.size w w' → (Calls Tryd.prog 12 #[.int .u64 p, .int .i64 k] w' fun e w'' => e = .returned (.tuple #[.pointer none, .int .i64 E]) ∧ Below w'.heap.size w' w'') ∧
      (Calls Tryd.prog 13 #[.int .u64 p, .int .i64 k] w' fun e w'' => e = .returned (.tuple #[.pointer none, .int .i64 E]) ∧ Below w'.heap.size w' w'')) ∨
    (∃ K : Nat, k = K ∧ K ≤ 20 ∧ ∀ w', Below w.heap.size w w' → (Calls Tryd.prog 12 #[.int .u64 p, .int .i64 K] w' fun e w'' => (∃ g r, e = .returned (.tuple #[.pointer (some ⟨g, 0, none⟩), .int .i64 0]) ∧ Pln w'' g p K r) ∧ Below w'.heap.size w' w'') ∧
      (Calls Tryd.prog 13 #[.int .u64 p, .int .i64 K] w' fun e w'' => (∃ r, e = .returned (.tuple #[.pointer (some ⟨w'.heap.size, 0, none⟩), .int .i64 0]) ∧ RT w'' w'.heap.size p K (2 ^ K) r ∧ RootIs p K r) ∧ Below w'.heap.size w' w'')) := by
  by_cases h20 : 20 < k
  · exact Or.inl ⟨13, fun w' _ => ⟨tnew_limit p k w' h20, (rnew_limit p k w' h20).mono fun _ _ h => ⟨h.1, by rw [h.2]; exact Below.refl _ _⟩⟩⟩
  · cases hB : isB p
    · exact Or.inl ⟨14, fun w' B => ⟨tnew_prime p k w' (by omega) (by omega) hB (L.below B L.size), rnew_prime p k w' (by omega) (by omega) hB⟩⟩
    · have hP := pri_of_isB hB (by omega)
      by_cases hA : k < 0 ∨ (tw p : Int) < k
      · exact Or.inl ⟨1, fun w' B => ⟨tnew_arg p k w' hP (by omega) (by omega) hA (L.below B L.size), rnew_arg p k w' (by omega) (by omega) hP hA⟩⟩
      · obtain ⟨K, rfl⟩ : ∃ K : Nat, k = (K : Int) := ⟨k.toNat, by omega⟩
        exact Or.inr ⟨K, rfl, by omega, fun w' B => ⟨tnew_yes p K w' hP (by omega) (by omega) (by omega) (L.below B L.size), rnew_yes p K w' (by omega) (by omega) hP (by omega)⟩⟩
set_option maxHeartbeats 3200000 in
set_option maxRecDepth 100000 in
theorem points_law (p : Nat) (k i : Int) (w : World) (hn : p ≤ 18446744073709551615) (hi : -9223372036854775808 ≤ i ∧ i ≤ 9223372036854775807) (L : Lay w) :
    Calls Tryd.prog 4 #[.int .u64 p, .int .i64 k, .int .i64 i] w fun e w' => e = .returned (.bool true) ∧ Below w.heap.size w w' := by
  have AWA : Hid (∀ w', Below w.heap.size w w' → Calls Tryd.prog 11 #[] w' fun e w'' => e = .returned (.bool true) ∧ Below w'.heap.size w' w'') := fun w' B => awake7 w' (L.below B L.size)
  have LL := hid L
  clear L
  by_cases hbig : 100000 < p
  · have hb' : (100000 : Int) < (p : Int) := by omega
    have B0 := hid (Below.refl w.heap.size w)
    go_enter Tryd.func4, Tryd.ntmps4
    go_wp2_with fail
    refine (AWA.out _ B0.out).mono ?_
    rintro e w9 ⟨rfl, B9⟩
    have BB9 := hid (B0.out.trans (B9.mono B0.out.size))
    clear B9
    go_wp2
    go_ret
    exact ⟨rfl, BB9.out⟩
  have hb' : ¬ (100000 : Int) < (p : Int) := by omega
  by_cases hmid : 8 < k ∧ k ≤ 20
  · obtain ⟨m1, m2⟩ := hmid
    have B0 := hid (Below.refl w.heap.size w)
    go_enter Tryd.func4, Tryd.ntmps4
    go_wp2_with fail
    refine (AWA.out _ B0.out).mono ?_
    rintro e w9 ⟨rfl, B9⟩
    have BB9 := hid (B0.out.trans (B9.mono B0.out.size))
    clear B9
    go_wp2
    go_ret
    exact ⟨rfl, BB9.out⟩
  have hp1 : p ≤ 100000 := by omega
  rcases plans_cases p k w hp1 LL.out with ⟨E, HE⟩ | ⟨K, rfl, hK, HE⟩
  · clear LL hbig
    have kk : ¬ ((8 : Int) < k ∧ k ≤ 20) := hmid
    clear hmid
    by_cases h8 : 8 < k
    · have h20 : ¬ k ≤ 20 := by omega
      clear kk
      have NE := hid ((HE w (Below.refl _ _)).1)
      have RE := hid (fun w1 B => (HE w1 B).2)
      clear HE
      go_enter Tryd.func4, Tryd.ntmps4
      go_wp2_with fail
      refine NE.out.mono ?_
      rintro e w1 ⟨rfl, B1⟩
      have R1 := hid (RE.out w1 B1)
      have BB1 := hid B1
      clear B1 NE RE
      go_wp2_with fail
      refine R1.out.mono ?_
      rintro e w2 ⟨rfl, B2⟩
      have BB2 := hid (BB1.out.trans (B2.mono BB1.out.size))
      clear B2 R1 BB1
      go_wp2_with fail
      refine (AWA.out _ BB2.out).mono ?_
      rintro e w9 ⟨rfl, B9⟩
      have BB9 := hid (BB2.out.trans (B9.mono BB2.out.size))
      clear B9
      go_wp2
      go_ret
      exact ⟨rfl, BB9.out⟩
    · have h8' : ¬ (8 : Int) < k := h8
      clear kk
      have NE := hid ((HE w (Below.refl _ _)).1)
      have RE := hid (fun w1 B => (HE w1 B).2)
      clear HE
      go_enter Tryd.func4, Tryd.ntmps4
      go_wp2_with fail
      refine NE.out.mono ?_
      rintro e w1 ⟨rfl, B1⟩
      have R1 := hid (RE.out w1 B1)
      have BB1 := hid B1
      clear B1 NE RE
      go_wp2_with fail
      refine R1.out.mono ?_
      rintro e w2 ⟨rfl, B2⟩
      have BB2 := hid (BB1.out.trans (B2.mono BB1.out.size))
      clear B2 R1 BB1
      go_wp2_with fail
      refine (AWA.out _ BB2.out).mono ?_
      rintro e w9 ⟨rfl, B9⟩
      have BB9 := hid (BB2.out.trans (B9.mono BB2.out.size))
      clear B9
      go_wp2
      go_ret
      exact ⟨rfl, BB9.out⟩
  · have NE := hid ((HE w (Below.refl _ _)).1)
    have RE := hid (fun w1 B => (HE w1 B).2)
    have K8 : K ≤ 8 := by omega
    have K8' : ¬ (8 : Int) < (K : Int) := by omega
    clear HE LL hbig hn hmid
    obtain ⟨N, hN⟩ : ∃ N, N = 2 ^ K := ⟨_, rfl⟩
    have HN := hid hN
    have RE' : Hid (∀ w1, Below w.heap.size w w1 → Calls Tryd.prog 13 #[.int .u64 p, .int .i64 K] w1 fun e w'' => (∃ r, e = .returned (.tuple #[.pointer (some ⟨w1.heap.size, 0, none⟩), .int .i64 0]) ∧ RT w'' w1.heap.size p K N r ∧ RootIs p K r) ∧ Below w1.heap.size w1 w'') := by
      intro w1 B
      rw [hN]
      exact RE.out w1 B
    have MO' : Hid (∀ g r w, Pln w g p K r → Calls Tryd.prog 15 #[.pointer (some ⟨g, 0, none⟩)] w fun e w' => e = .returned (.int .i64 N) ∧ w' = w) := by
      intro g r w T
      rw [hN]
      exact tmost_any g p K r w T
    have PA' : Hid (∀ g r w, Pln w g p K r → (i < 0 ∨ (N : Int) ≤ i) → Calls Tryd.prog 14 #[.pointer (some ⟨g, 0, none⟩), .int .i64 i] w fun e w' => e = .returned (.tuple #[.int .u64 0, .int .i64 1]) ∧ Below w.heap.size w w') := by
      intro g r w T h
      rw [hN] at h
      exact tpoint_arg g p K r i w T hi h
    clear RE hN
    have RE := RE'
    clear RE'
    by_cases hbad : i < 0 ∨ (N : Int) ≤ i
    · have BAD := hid hbad
      go_enter Tryd.func4, Tryd.ntmps4
      go_wp2_with fail
      refine NE.out.mono ?_
      rintro e w1 ⟨⟨g, r, rfl, T⟩, B1⟩
      have R1 := hid (RE.out w1 B1)
      have BB1 := hid B1
      have T1 := hid T
      clear B1 NE RE T
      go_wp2_with fail
      refine R1.out.mono ?_
      rintro e w2 ⟨⟨r', rfl, T', RI⟩, B2⟩
      obtain rfl : r' = r := RI.uniq T1.out.ok.root
      have T2 := hid (T1.out.below B2)
      have BB2 := hid (BB1.out.trans (B2.mono BB1.out.size))
      have S2 := hid T'
      clear B2 R1 BB1 T1 T' RI
      generalize w1.heap.size = g2 at *
      have MO := hid (MO'.out g r')
      have PA := hid (PA'.out g r' w2 T2.out BAD.out)
      clear MO' PA'
      go_wp2_with fail
      refine PA.out.mono ?_
      rintro e w3 ⟨rfl, B3⟩
      have T3 := hid (T2.out.below B3)
      have S3 := hid (S2.out.below B3 S2.out.lt)
      have BB3 := hid (BB2.out.trans (B3.mono BB2.out.size))
      clear B3 BB2 T2 S2 PA BAD
      have c2 : ∀ x : Beh w3, x.1.cell? ⟨g2, 2, none⟩ = some (.int .i64 N) := fun x => (S3.out.below x.2 S3.out.lt).cell2
      have c2' := S3.out.cell2
      by_cases hi0 : i < 0
      · clear hbad
        have nb := Beh.some w3
        go_wp2_with fail
        refine wp_region_beh (by kernel_rfl) (by kernel_rfl) ?_
        repeat (go_big_quiet_step (first
          | (go_at_call 15; rename_i x; exact Calls.beh_same (MO.out _ (T3.out.below x.2)))
          | (go_at_call 11; rename_i x; exact Calls.beh_of (AWA.out _ (BB3.out.trans (x.2.mono BB3.out.size))))))
        refine wpQuiet_nil ?_
        intro _ hw'
        obtain ⟨⟨w9, B9⟩, rfl⟩ := hw'
        have BB9 := hid (BB3.out.trans (B9.mono BB3.out.size))
        clear B9
        go_wp2
        go_ret
        exact ⟨rfl, BB9.out⟩
      · have hiN : (N : Int) ≤ i := by omega
        clear hbad
        have nb := Beh.some w3
        go_wp2_with fail
        refine wp_region_beh (by kernel_rfl) (by kernel_rfl) ?_
        repeat (go_big_quiet_step (first
          | (go_at_call 15; rename_i x; exact Calls.beh_same (MO.out _ (T3.out.below x.2)))
          | (go_at_call 11; rename_i x; exact Calls.beh_of (AWA.out _ (BB3.out.trans (x.2.mono BB3.out.size))))))
        refine wpQuiet_nil ?_
        intro _ hw'
        obtain ⟨⟨w9, B9⟩, rfl⟩ := hw'
        have BB9 := hid (BB3.out.trans (B9.mono BB3.out.size))
        clear B9
        go_wp2
        go_ret
        exact ⟨rfl, BB9.out⟩
    · have hi0 : ¬ i < 0 := by omega
      have hiN : ¬ (N : Int) ≤ i := by omega
      obtain ⟨I, rfl⟩ : ∃ I : Nat, i = (I : Int) := ⟨i.toNat, by omega⟩
      have hI : I < 2 ^ K := by rw [← HN.out]; omega
      have HI := hid hI
      clear hbad PA' hI
      go_enter Tryd.func4, Tryd.ntmps4
      go_wp2_with fail
      refine NE.out.mono ?_
      rintro e w1 ⟨⟨g, r, rfl, T⟩, B1⟩
      have R1 := hid (RE.out w1 B1)
      have BB1 := hid B1
      have T1 := hid T
      clear B1 NE RE T
      go_wp2_with fail
      refine R1.out.mono ?_
      rintro e w2 ⟨⟨r', rfl, T', RI⟩, B2⟩
      obtain rfl : r' = r := RI.uniq T1.out.ok.root
      have T2 := hid (T1.out.below B2)
      have BB2 := hid (BB1.out.trans (B2.mono BB1.out.size))
      have S2 := hid T'
      clear B2 R1 BB1 T1 T' RI
      generalize w1.heap.size = g2 at *
      have p2 := T2.out.ok.pri.1
      have MO := hid (MO'.out g r')
      have PT := hid (tpoint_any g p K r' I w2 T2.out HI.out)
      clear MO'
      obtain ⟨y, hy⟩ : ∃ y, y = r' ^ rv K I % p := ⟨_, rfl⟩
      rw [← hy] at PT
      go_wp2_with fail
      refine PT.out.mono ?_
      rintro e w3 ⟨rfl, B3⟩
      have T3 := hid (T2.out.below B3)
      have S3 := hid (S2.out.below B3 S2.out.lt)
      have BB3 := hid (BB2.out.trans (B3.mono BB2.out.size))
      clear B3 BB2 T2 S2 PT
      have RP : Hid (∀ x : Beh w3, Calls Tryd.prog 16 #[.pointer (some ⟨g2, 0, none⟩), .int .i64 I] x.1 fun e w' => e = .returned (.int .u64 y) ∧ ∃ c, w' = x.1.drewN c) := fun x => by
        rw [hy]
        exact rpoint_any g2 p K N r' I x.1 (S3.out.below x.2 S3.out.lt) (by omega) HI.out p2 (by omega)
      clear hy
      have c2 : ∀ x : Beh w3, x.1.cell? ⟨g2, 2, none⟩ = some (.int .i64 N) := fun x => (S3.out.below x.2 S3.out.lt).cell2
      have c2' := S3.out.cell2
      have nb := Beh.some w3
      go_wp2_with fail
      refine wp_region_beh (by kernel_rfl) (by kernel_rfl) ?_
      repeat (go_big_quiet_step (first
        | (go_at_call 16; rename_i x; exact Calls.beh_drew (RP.out x))
        | (go_at_call 15; rename_i x; exact Calls.beh_same (MO.out _ (T3.out.below x.2)))
        | (go_at_call 11; rename_i x; exact Calls.beh_of (AWA.out _ (BB3.out.trans (x.2.mono BB3.out.size))))))
      refine wpQuiet_nil ?_
      intro _ hw'
      obtain ⟨⟨w9, B9⟩, rfl⟩ := hw'
      have BB9 := hid (BB3.out.trans (B9.mono BB3.out.size))
      clear B9
      go_wp2
      go_ret
      exact ⟨rfl, BB9.out⟩
end Go.Proofs.YtbecdlibckbbcaaDoor
