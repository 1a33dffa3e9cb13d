/- The law NttValues. -/
import Derived.Test.YtcclkahoonlieaaDoorQe
namespace Go.Proofs.YtcclkahoonlieaaDoor
open Go.RowKit Num Nmb

/-- the two News: both answer the same error, or both a table. -/
theorem news_cases (p : Nat) (k : Int) (w : World) (hp : p ≤ 100000) (L : Lay w) :
    (∃ E : Int, ∀ w', Below w.heap.size w w' → (Calls Tryd.prog 10 #[.int .u64 p, .int .i64 k] w' fun e w'' => e = .returned (.tuple #[.pointer none, .int .i64 E]) ∧ Below w'.heap.size w' w'') ∧
      (Calls Tryd.prog 11 #[.int .u64 p, .int .i64 k] w' fun e w'' => e = .returned (.tuple #[.pointer none, .int .i64 E]) ∧ Below w'.heap.size w' w'')) ∨
    (∃ K : Nat, k = K ∧ K ≤ 20 ∧ ∀ w', Below w.heap.size w w' → (Calls Tryd.prog 10 #[.int .u64 p, .int .i64 K] w' fun e w'' => (∃ g r, e = .returned (.tuple #[.pointer (some ⟨g, 0, none⟩), .int .i64 0]) ∧ Tab w'' g p K r) ∧ Below w'.heap.size w' w'') ∧
      (Calls Tryd.prog 11 #[.int .u64 p, .int .i64 K] w' fun e w'' => (∃ r, e = .returned (.tuple #[.pointer (some ⟨w'.heap.size, 0, none⟩), .int .i64 0]) ∧ RT w'' w'.heap.size p K (2 ^ K) r ∧ RootIs p K r) ∧ Below w'.heap.size w' w'')) := by
  by_cases h20 : 20 < k
  · exact Or.inl ⟨13, fun w' _ => ⟨nnew_limit p k w' h20, (rnew_limit p k w' h20).mono fun _ _ h => ⟨h.1, by rw [h.2]; exact Below.refl _ _⟩⟩⟩
  · cases hB : isB p
    · exact Or.inl ⟨14, fun w' B => ⟨nnew_prime p k w' (by omega) (by omega) hB (L.below B L.size), rnew_prime p k w' (by omega) (by omega) hB⟩⟩
    · have hP := pri_of_isB hB (by omega)
      by_cases hA : k < 0 ∨ (tw p : Int) < k
      · exact Or.inl ⟨1, fun w' B => ⟨nnew_arg p k w' hP (by omega) (by omega) hA (L.below B L.size), rnew_arg p k w' (by omega) (by omega) hP hA⟩⟩
      · obtain ⟨K, rfl⟩ : ∃ K : Nat, k = (K : Int) := ⟨k.toNat, by omega⟩
        exact Or.inr ⟨K, rfl, by omega, fun w' B => ⟨nnew_yes p K w' hP (by omega) (by omega) (by omega) (L.below B L.size), rnew_yes p K w' (by omega) (by omega) hP (by omega)⟩⟩
set_option maxHeartbeats 3200000 in
set_option maxRecDepth 100000 in
theorem values_law (p : Nat) (k : Int) (u : Value) (n : Nat) (a : Nat → Int) (w : World) (hn : p ≤ 18446744073709551615) (U : Wl w u n a) (L : Lay w) :
    Calls Tryd.prog 4 #[.int .u64 p, .int .i64 k, u] w fun e w' => e = .returned (.bool true) ∧ Below w.heap.size w w' := by
  have AWA : Hid (∀ w', Below w.heap.size w w' → Calls Tryd.prog 9 #[] w' fun e w'' => e = .returned (.bool true) ∧ Below w'.heap.size w' w'') := fun w' B => awake_yes w' (L.below B L.size)
  have LL := hid L
  have U0 := hid U
  obtain ⟨ao, cap, rfl, -⟩ := U
  clear L
  by_cases hbig : 100000 < p
  · have hb' : (100000 : Int) < (p : Int) := by omega
    have B0 := hid (Below.refl w.heap.size w)
    go_enter Tryd.func4, Tryd.ntmps4
    go_wp2_with fail
    refine (AWA.out _ B0.out).mono ?_
    rintro e w9 ⟨rfl, B9⟩
    have BB9 := hid (B0.out.trans (B9.mono B0.out.size))
    clear B9
    go_wp2
    go_ret
    exact ⟨rfl, BB9.out⟩
  have hb' : ¬ (100000 : Int) < (p : Int) := by omega
  by_cases h6 : 6 < k
  · have B0 := hid (Below.refl w.heap.size w)
    go_enter Tryd.func4, Tryd.ntmps4
    go_wp2_with fail
    refine (AWA.out _ B0.out).mono ?_
    rintro e w9 ⟨rfl, B9⟩
    have BB9 := hid (B0.out.trans (B9.mono B0.out.size))
    clear B9
    go_wp2
    go_ret
    exact ⟨rfl, BB9.out⟩
  by_cases h200 : 200 < n
  · have h2' : (200 : Int) < (n : Int) := by omega
    have B0 := hid (Below.refl w.heap.size w)
    go_enter Tryd.func4, Tryd.ntmps4
    go_wp2_with fail
    refine (AWA.out _ B0.out).mono ?_
    rintro e w9 ⟨rfl, B9⟩
    have BB9 := hid (B0.out.trans (B9.mono B0.out.size))
    clear B9
    go_wp2
    go_ret
    exact ⟨rfl, BB9.out⟩
  have h2' : ¬ (200 : Int) < (n : Int) := by omega
  have hp1 : p ≤ 100000 := by omega
  rcases news_cases p k w hp1 LL.out with ⟨E, HE⟩ | ⟨K, rfl, hK, HE⟩
  · have NE := hid ((HE w (Below.refl _ _)).1)
    have RE := hid (fun w1 B => (HE w1 B).2)
    clear HE
    go_enter Tryd.func4, Tryd.ntmps4
    go_wp2_with fail
    refine NE.out.mono ?_
    rintro e w1 ⟨rfl, B1⟩
    have R1 := hid (RE.out w1 B1)
    have BB1 := hid B1
    clear B1 NE RE
    go_wp2_with fail
    refine R1.out.mono ?_
    rintro e w2 ⟨rfl, B2⟩
    have BB2 := hid (BB1.out.trans (B2.mono BB1.out.size))
    clear B2 R1 BB1
    go_wp2_with fail
    refine (AWA.out _ BB2.out).mono ?_
    rintro e w9 ⟨rfl, B9⟩
    have BB9 := hid (BB2.out.trans (B9.mono BB2.out.size))
    clear B9
    go_wp2
    go_ret
    exact ⟨rfl, BB9.out⟩
  · have NE := hid ((HE w (Below.refl _ _)).1)
    have RE := hid (fun w1 B => (HE w1 B).2)
    clear HE LL hbig hn
    obtain ⟨N, hN⟩ : ∃ N, N = 2 ^ K := ⟨_, rfl⟩
    have hNl : N ≤ 64 := by
      rw [hN]
      exact Nat.pow_le_pow_right (n := 2) (j := 6) (by decide) (by omega)
    have HN := hid hN
    have RE' : Hid (∀ w1, Below w.heap.size w w1 → Calls Tryd.prog 11 #[.int .u64 p, .int .i64 K] w1 fun e w'' => (∃ r, e = .returned (.tuple #[.pointer (some ⟨w1.heap.size, 0, none⟩), .int .i64 0]) ∧ RT w'' w1.heap.size p K N r ∧ RootIs p K r) ∧ Below w1.heap.size w1 w'') := by
      intro w1 B
      rw [hN]
      exact RE.out w1 B
    clear RE hN
    have RE := RE'
    clear RE'
    by_cases hnN : n = N
    · subst hnN
      go_enter Tryd.func4, Tryd.ntmps4
      go_wp2_with fail
      refine NE.out.mono ?_
      rintro e w1 ⟨⟨g, r, rfl, T⟩, B1⟩
      have R1 := hid (RE.out w1 B1)
      have BB1 := hid B1
      have T1 := hid T
      clear B1 NE RE T
      go_wp2_with fail
      refine R1.out.mono ?_
      rintro e w2 ⟨⟨r', rfl, T', RI⟩, B2⟩
      obtain rfl : r' = r := RI.uniq T1.out.ok.root
      have T2 := hid (T1.out.below B2)
      have BB2 := hid (BB1.out.trans (B2.mono BB1.out.size))
      have S2 := hid T'
      clear B2 R1 BB1 T1 T' RI
      generalize w1.heap.size = g2 at *
      have p2 := T2.out.ok.pri.1
      have U2 := hid (U0.out.below BB2.out)
      clear U0
      go_wp2_with fail
      refine (ngo_any g p K r' _ n a _ T2.out U2.out HN.out).mono ?_
      rintro e w3 ⟨⟨go, gc, rfl, G⟩, B3⟩
      have T3 := hid (T2.out.below B3)
      have S3 := hid (S2.out.below B3 S2.out.lt)
      have U3 := hid (U2.out.below B3)
      have BB3 := hid (BB2.out.trans (B3.mono BB2.out.size))
      clear B3 BB2 T2 S2 U2
      have G3 := hid G
      clear G
      go_wp2_with fail
      refine (nback_any g p K r' _ n a _ T3.out U3.out HN.out).mono ?_
      rintro e w4 ⟨⟨bo, bc, b, rfl, B, BK⟩, B4⟩
      have S4 := hid (S3.out.below B4 S3.out.lt)
      have U4 := hid (U3.out.below B4)
      have G4 := hid (G3.out.below B4)
      have BB4 := hid (BB3.out.trans (B4.mono BB3.out.size))
      clear B4 BB3 S3 U3 G3
      have c2 := S4.out.cell2
      clear B BK T3
      go_wp2_with fail
      refine (rgo_any g2 _ n n K r' a p _ S4.out U4.out (by omega) p2 (by omega)).mono ?_
      rintro e w5 ⟨⟨v, rfl, V⟩, B5⟩
      have G5 := hid (G4.out.below B5)
      have BB5 := hid (BB4.out.trans (B5.mono BB4.out.size))
      clear B5 BB4 G4
      have V5 := hid V
      clear V
      go_wp2_with fail
      refine (same_yes _ _ n _ _ _ G5.out V5.out (fun j hj => rfl)).mono ?_
      rintro e w6 ⟨rfl, c, rfl⟩
      have BB6 := hid (below_drewN BB5.out c)
      clear G5 V5 BB5
      go_wp2_with fail
      refine (AWA.out _ BB6.out).mono ?_
      rintro e w9 ⟨rfl, B9⟩
      have BB9 := hid (BB6.out.trans (B9.mono BB6.out.size))
      clear B9
      go_wp2
      go_ret
      exact ⟨rfl, BB9.out⟩
    · have hne : ((n : Int) != (N : Int)) = true := bne_iff_ne.2 (by omega)
      go_enter Tryd.func4, Tryd.ntmps4
      go_wp2_with fail
      refine NE.out.mono ?_
      rintro e w1 ⟨⟨g, r, rfl, T⟩, B1⟩
      have R1 := hid (RE.out w1 B1)
      have BB1 := hid B1
      have T1 := hid T
      clear B1 NE RE T
      go_wp2_with fail
      refine R1.out.mono ?_
      rintro e w2 ⟨⟨r', rfl, T', RI⟩, B2⟩
      obtain rfl : r' = r := RI.uniq T1.out.ok.root
      have T2 := hid (T1.out.below B2)
      have BB2 := hid (BB1.out.trans (B2.mono BB1.out.size))
      have S2 := hid T'
      clear B2 R1 BB1 T1 T' RI
      generalize w1.heap.size = g2 at *
      have p2 := T2.out.ok.pri.1
      have U2 := hid (U0.out.below BB2.out)
      have hn2 : n ≠ 2 ^ K := by rw [← HN.out]; exact hnN
      have HN2 := hid hn2
      clear U0 hn2 hnN
      go_wp2_with fail
      refine (ngo_arg g p K r' _ n a _ T2.out U2.out HN2.out).mono ?_
      rintro e w3 ⟨⟨go, gc, rfl⟩, B3⟩
      have T3 := hid (T2.out.below B3)
      have S3 := hid (S2.out.below B3 S2.out.lt)
      have U3 := hid (U2.out.below B3)
      have BB3 := hid (BB2.out.trans (B3.mono BB2.out.size))
      clear B3 BB2 T2 S2 U2
      go_wp2_with fail
      refine (nback_arg g p K r' _ n a _ T3.out U3.out HN2.out).mono ?_
      rintro e w4 ⟨⟨bo, bc, rfl⟩, B4⟩
      have T4 := hid (T3.out.below B4)
      have S4 := hid (S3.out.below B4 S3.out.lt)
      have U4 := hid (U3.out.below B4)
      have BB4 := hid (BB3.out.trans (B4.mono BB3.out.size))
      clear B4 BB3 T3 S3 U3
      have c2 := S4.out.cell2
      go_wp2_with fail
      refine (sized_any _ n N a _ U4.out (by omega)).mono ?_
      rintro e w5 ⟨⟨v, rfl, V⟩, B5⟩
      have T5 := hid (T4.out.below B5)
      have S5 := hid (S4.out.below B5 S4.out.lt)
      have BB5 := hid (BB4.out.trans (B5.mono BB4.out.size))
      clear B5 BB4 T4 S4
      have V5 := hid V
      clear V c2
      obtain ⟨vo, vc, hv, -⟩ := V5.out
      subst hv
      go_wp2_with fail
      refine (ngo_any g p K r' _ N (szd a n) _ T5.out V5.out HN.out).mono ?_
      rintro e w6 ⟨⟨fo, fc, rfl, G⟩, B6⟩
      have S6 := hid (S5.out.below B6 S5.out.lt)
      have V6 := hid (V5.out.below B6)
      have BB6 := hid (BB5.out.trans (B6.mono BB5.out.size))
      clear B6 BB5 S5 V5
      have G6 := hid G
      clear G T5
      go_wp2_with fail
      refine (rgo_any g2 _ N N K r' (szd a n) p _ S6.out V6.out (by omega) p2 (by omega)).mono ?_
      rintro e w7 ⟨⟨v, rfl, V⟩, B7⟩
      have G7 := hid (G6.out.below B7)
      have BB7 := hid (BB6.out.trans (B7.mono BB6.out.size))
      clear B7 BB6 G6
      have V7 := hid V
      clear V
      go_wp2_with fail
      refine (same_yes _ _ N _ _ _ G7.out V7.out (fun j hj => rfl)).mono ?_
      rintro e w8 ⟨rfl, c, rfl⟩
      have BB8 := hid (below_drewN BB7.out c)
      clear G7 V7 BB7
      go_wp2_with fail
      refine (AWA.out _ BB8.out).mono ?_
      rintro e w9 ⟨rfl, B9⟩
      have BB9 := hid (BB8.out.trans (B9.mono BB8.out.size))
      clear B9
      go_wp2
      go_ret
      exact ⟨rfl, BB9.out⟩
end Go.Proofs.YtcclkahoonlieaaDoor
