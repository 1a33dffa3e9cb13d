/- The law NttRounds. -/
import Derived.Test.YtcclkahoonlieaaDoorLnv
namespace Go.Proofs.YtcclkahoonlieaaDoor
open Go.RowKit Num Nmb

set_option maxHeartbeats 3200000 in
set_option maxRecDepth 100000 in
theorem rounds_law (p : Nat) (u v : Value) (n m : Nat) (a b : Nat → Int) (w : World) (hn : p ≤ 18446744073709551615) (U : Wl w u n a) (V : Wl w v m b) (L : Lay w) :
    Calls Tryd.prog 5 #[.int .u64 p, u, v] w fun e w' => e = .returned (.bool true) ∧ Below w.heap.size w w' := by
  have AWA : Hid (∀ w', Below w.heap.size w w' → Calls Tryd.prog 9 #[] w' fun e w'' => e = .returned (.bool true) ∧ Below w'.heap.size w' w'') := fun w' B => awake_yes w' (L.below B L.size)
  have LL := hid L
  have U0 := hid U
  have V0 := hid V
  obtain ⟨ao, cap, rfl, -⟩ := U
  obtain ⟨bo, bap, rfl, -⟩ := V
  clear L
  by_cases hbig : 100000 < p
  · have hb' : (100000 : Int) < (p : Int) := by omega
    have B0 := hid (Below.refl w.heap.size w)
    go_enter Tryd.func5, Tryd.ntmps5
    go_wp2_with fail
    refine (AWA.out _ B0.out).mono ?_
    rintro e w9 ⟨rfl, B9⟩
    have BB9 := hid (B0.out.trans (B9.mono B0.out.size))
    clear B9
    go_wp2
    go_ret
    exact ⟨rfl, BB9.out⟩
  have hb' : ¬ (100000 : Int) < (p : Int) := by omega
  by_cases hn40 : 40 < n
  · have h2' : (40 : Int) < (n : Int) := by omega
    have B0 := hid (Below.refl w.heap.size w)
    go_enter Tryd.func5, Tryd.ntmps5
    go_wp2_with fail
    refine (AWA.out _ B0.out).mono ?_
    rintro e w9 ⟨rfl, B9⟩
    have BB9 := hid (B0.out.trans (B9.mono B0.out.size))
    clear B9
    go_wp2
    go_ret
    exact ⟨rfl, BB9.out⟩
  have hn' : ¬ (40 : Int) < (n : Int) := by omega
  by_cases hm40 : 40 < m
  · have h2' : (40 : Int) < (m : Int) := by omega
    have B0 := hid (Below.refl w.heap.size w)
    go_enter Tryd.func5, Tryd.ntmps5
    go_wp2_with fail
    refine (AWA.out _ B0.out).mono ?_
    rintro e w9 ⟨rfl, B9⟩
    have BB9 := hid (B0.out.trans (B9.mono B0.out.size))
    clear B9
    go_wp2
    go_ret
    exact ⟨rfl, BB9.out⟩
  have hm' : ¬ (40 : Int) < (m : Int) := by omega
  have hp1 : p ≤ 100000 := by omega
  rcases news_cases p 4 w hp1 LL.out with ⟨E, HE⟩ | ⟨K, hK4, hK, HE⟩
  · have NE := hid ((HE w (Below.refl _ _)).1)
    have RE := hid (fun w1 B => (HE w1 B).2)
    clear HE
    go_enter Tryd.func5, Tryd.ntmps5
    go_wp2_with fail
    refine NE.out.mono ?_
    rintro e w1 ⟨rfl, B1⟩
    have R1 := hid (RE.out w1 B1)
    have BB1 := hid B1
    clear B1 NE RE
    go_wp2_with fail
    refine R1.out.mono ?_
    rintro e w2 ⟨rfl, B2⟩
    have BB2 := hid (BB1.out.trans (B2.mono BB1.out.size))
    clear B2 R1 BB1
    go_wp2_with fail
    refine (AWA.out _ BB2.out).mono ?_
    rintro e w9 ⟨rfl, B9⟩
    have BB9 := hid (BB2.out.trans (B9.mono BB2.out.size))
    clear B9
    go_wp2
    go_ret
    exact ⟨rfl, BB9.out⟩
  · obtain rfl : K = 4 := by omega
    have NE := hid ((HE w (Below.refl _ _)).1)
    have RE : Hid (∀ w1, Below w.heap.size w w1 → Calls Tryd.prog 11 #[.int .u64 p, .int .i64 4] w1 fun e w'' => (∃ r, e = .returned (.tuple #[.pointer (some ⟨w1.heap.size, 0, none⟩), .int .i64 0]) ∧ RT w'' w1.heap.size p 4 16 r ∧ RootIs p 4 r) ∧ Below w1.heap.size w1 w'') := fun w1 B => (HE w1 B).2
    clear HE LL hbig hn hK4 hK
    by_cases hnone : n = 0 ∨ m = 0
    · have n16 : n ≠ 16 ∨ m ≠ 16 := by omega
      have RA : Hid (n ≠ 2 ^ 4 ∨ m ≠ 2 ^ 4) := n16
      by_cases hn0 : n = 0
      · subst hn0
        clear hnone n16
        go_enter Tryd.func5, Tryd.ntmps5
        go_wp2_with fail
        refine NE.out.mono ?_
        rintro e w1 ⟨⟨g, r, rfl, T⟩, B1⟩
        have R1 := hid (RE.out w1 B1)
        have BB1 := hid B1
        have T1 := hid T
        clear B1 NE RE T
        go_wp2_with fail
        refine R1.out.mono ?_
        rintro e w2 ⟨⟨r', rfl, T', RI⟩, B2⟩
        obtain rfl : r' = r := RI.uniq T1.out.ok.root
        have T2 := hid (T1.out.below B2)
        have BB2 := hid (BB1.out.trans (B2.mono BB1.out.size))
        have S2 := hid T'
        clear B2 R1 BB1 T1 T' RI
        generalize w1.heap.size = g2 at *
        have p2 := T2.out.ok.pri.1
        have U2 := hid (U0.out.below BB2.out)
        have V2 := hid (V0.out.below BB2.out)
        clear U0 V0
        go_wp2_with fail
        refine (nprod_none g p 4 r' _ _ 0 m a b _ T2.out U2.out V2.out (by omega)).mono ?_
        rintro e w3 ⟨⟨po, pc, rfl, G⟩, B3⟩
        have T3 := hid (T2.out.below B3)
        have U3 := hid (U2.out.below B3)
        have V3 := hid (V2.out.below B3)
        have BB3 := hid (BB2.out.trans (B3.mono BB2.out.size))
        clear B3 BB2 T2 U2 V2
        have G3 := hid G
        clear G S2
        go_wp2_with fail
        refine (rmulp_none _ _ 0 m a b p _ U3.out V3.out (by omega)).mono ?_
        rintro e w4 ⟨rfl, hw⟩
        obtain rfl := hw.symm
        go_wp2_with fail
        refine (same_yes _ _ 0 _ a _ G3.out (Wl.nil _ _) (fun j hj => absurd hj (by omega))).mono ?_
        rintro e w5 ⟨rfl, c, rfl⟩
        have T5 := hid (T3.out.heap (w' := w3.drewN c) (by simp))
        have U5 := hid (U3.out.drew c)
        have V5 := hid (V3.out.drew c)
        have BB5 := hid (below_drewN BB3.out c)
        clear T3 U3 V3 BB3 G3
        generalize w3.drewN c = w5 at *
        go_wp2_with fail
        refine (nround_arg g p 4 r' _ _ 0 m a b _ T5.out U5.out V5.out RA.out).mono ?_
        rintro e w6 ⟨⟨fo, fc, rfl⟩, B6⟩
        have BB6 := hid (BB5.out.trans (B6.mono BB5.out.size))
        clear B6 BB5 
        go_wp2_with fail
        refine (AWA.out _ BB6.out).mono ?_
        rintro e w9 ⟨rfl, B9⟩
        have BB9 := hid (BB6.out.trans (B9.mono BB6.out.size))
        clear B9
        go_wp2
        go_ret
        exact ⟨rfl, BB9.out⟩
      · obtain rfl : m = 0 := by omega
        have hn0' : (0 : Int) < (n : Int) := by omega
        clear hnone
        by_cases hn16 : n = 16
        · subst hn16
          clear n16 hn0
          go_enter Tryd.func5, Tryd.ntmps5
          go_wp2_with fail
          refine NE.out.mono ?_
          rintro e w1 ⟨⟨g, r, rfl, T⟩, B1⟩
          have R1 := hid (RE.out w1 B1)
          have BB1 := hid B1
          have T1 := hid T
          clear B1 NE RE T
          go_wp2_with fail
          refine R1.out.mono ?_
          rintro e w2 ⟨⟨r', rfl, T', RI⟩, B2⟩
          obtain rfl : r' = r := RI.uniq T1.out.ok.root
          have T2 := hid (T1.out.below B2)
          have BB2 := hid (BB1.out.trans (B2.mono BB1.out.size))
          have S2 := hid T'
          clear B2 R1 BB1 T1 T' RI
          generalize w1.heap.size = g2 at *
          have p2 := T2.out.ok.pri.1
          have U2 := hid (U0.out.below BB2.out)
          have V2 := hid (V0.out.below BB2.out)
          clear U0 V0
          go_wp2_with fail
          refine (nprod_none g p 4 r' _ _ 16 0 a b _ T2.out U2.out V2.out (by omega)).mono ?_
          rintro e w3 ⟨⟨po, pc, rfl, G⟩, B3⟩
          have T3 := hid (T2.out.below B3)
          have U3 := hid (U2.out.below B3)
          have V3 := hid (V2.out.below B3)
          have BB3 := hid (BB2.out.trans (B3.mono BB2.out.size))
          clear B3 BB2 T2 U2 V2
          have G3 := hid G
          clear G S2
          go_wp2_with fail
          refine (rmulp_none _ _ 16 0 a b p _ U3.out V3.out (by omega)).mono ?_
          rintro e w4 ⟨rfl, hw⟩
          obtain rfl := hw.symm
          go_wp2_with fail
          refine (same_yes _ _ 0 _ a _ G3.out (Wl.nil _ _) (fun j hj => absurd hj (by omega))).mono ?_
          rintro e w5 ⟨rfl, c, rfl⟩
          have T5 := hid (T3.out.heap (w' := w3.drewN c) (by simp))
          have U5 := hid (U3.out.drew c)
          have V5 := hid (V3.out.drew c)
          have BB5 := hid (below_drewN BB3.out c)
          clear T3 U3 V3 BB3 G3
          generalize w3.drewN c = w5 at *
          go_wp2_with fail
          refine (nround_arg g p 4 r' _ _ 16 0 a b _ T5.out U5.out V5.out RA.out).mono ?_
          rintro e w6 ⟨⟨fo, fc, rfl⟩, B6⟩
          have BB6 := hid (BB5.out.trans (B6.mono BB5.out.size))
          clear B6 BB5 
          go_wp2_with fail
          refine (AWA.out _ BB6.out).mono ?_
          rintro e w9 ⟨rfl, B9⟩
          have BB9 := hid (BB6.out.trans (B9.mono BB6.out.size))
          clear B9
          go_wp2
          go_ret
          exact ⟨rfl, BB9.out⟩
        · have hn16' : ((n : Int) != 16) = true := bne_iff_ne.2 (by omega)
          clear n16 hn0 hn16
          go_enter Tryd.func5, Tryd.ntmps5
          go_wp2_with fail
          refine NE.out.mono ?_
          rintro e w1 ⟨⟨g, r, rfl, T⟩, B1⟩
          have R1 := hid (RE.out w1 B1)
          have BB1 := hid B1
          have T1 := hid T
          clear B1 NE RE T
          go_wp2_with fail
          refine R1.out.mono ?_
          rintro e w2 ⟨⟨r', rfl, T', RI⟩, B2⟩
          obtain rfl : r' = r := RI.uniq T1.out.ok.root
          have T2 := hid (T1.out.below B2)
          have BB2 := hid (BB1.out.trans (B2.mono BB1.out.size))
          have S2 := hid T'
          clear B2 R1 BB1 T1 T' RI
          generalize w1.heap.size = g2 at *
          have p2 := T2.out.ok.pri.1
          have U2 := hid (U0.out.below BB2.out)
          have V2 := hid (V0.out.below BB2.out)
          clear U0 V0
          go_wp2_with fail
          refine (nprod_none g p 4 r' _ _ n 0 a b _ T2.out U2.out V2.out (by omega)).mono ?_
          rintro e w3 ⟨⟨po, pc, rfl, G⟩, B3⟩
          have T3 := hid (T2.out.below B3)
          have U3 := hid (U2.out.below B3)
          have V3 := hid (V2.out.below B3)
          have BB3 := hid (BB2.out.trans (B3.mono BB2.out.size))
          clear B3 BB2 T2 U2 V2
          have G3 := hid G
          clear G S2
          go_wp2_with fail
          refine (rmulp_none _ _ n 0 a b p _ U3.out V3.out (by omega)).mono ?_
          rintro e w4 ⟨rfl, hw⟩
          obtain rfl := hw.symm
          go_wp2_with fail
          refine (same_yes _ _ 0 _ a _ G3.out (Wl.nil _ _) (fun j hj => absurd hj (by omega))).mono ?_
          rintro e w5 ⟨rfl, c, rfl⟩
          have T5 := hid (T3.out.heap (w' := w3.drewN c) (by simp))
          have U5 := hid (U3.out.drew c)
          have V5 := hid (V3.out.drew c)
          have BB5 := hid (below_drewN BB3.out c)
          clear T3 U3 V3 BB3 G3
          generalize w3.drewN c = w5 at *
          go_wp2_with fail
          refine (nround_arg g p 4 r' _ _ n 0 a b _ T5.out U5.out V5.out RA.out).mono ?_
          rintro e w6 ⟨⟨fo, fc, rfl⟩, B6⟩
          have BB6 := hid (BB5.out.trans (B6.mono BB5.out.size))
          clear B6 BB5 
          go_wp2_with fail
          refine (AWA.out _ BB6.out).mono ?_
          rintro e w9 ⟨rfl, B9⟩
          have BB9 := hid (BB6.out.trans (B9.mono BB6.out.size))
          clear B9
          go_wp2
          go_ret
          exact ⟨rfl, BB9.out⟩
    · have hn0 : 0 < n := by omega
      have hm0 : 0 < m := by omega
      have hn0' : (0 : Int) < (n : Int) := by omega
      have hm0' : (0 : Int) < (m : Int) := by omega
      clear hnone
      by_cases hlim : 16 < n + m - 1
      · have hl' : (16 : Int) < (n : Int) + (m : Int) - 1 := by omega
        have LIM : Hid (2 ^ 4 < n + m - 1) := hlim
        clear hlim
        by_cases hn16 : n = 16
        · subst hn16
          by_cases hm16 : m = 16
          · subst hm16
            go_enter Tryd.func5, Tryd.ntmps5
            go_wp2_with fail
            refine NE.out.mono ?_
            rintro e w1 ⟨⟨g, r, rfl, T⟩, B1⟩
            have R1 := hid (RE.out w1 B1)
            have BB1 := hid B1
            have T1 := hid T
            clear B1 NE RE T
            go_wp2_with fail
            refine R1.out.mono ?_
            rintro e w2 ⟨⟨r', rfl, T', RI⟩, B2⟩
            obtain rfl : r' = r := RI.uniq T1.out.ok.root
            have T2 := hid (T1.out.below B2)
            have BB2 := hid (BB1.out.trans (B2.mono BB1.out.size))
            have S2 := hid T'
            clear B2 R1 BB1 T1 T' RI
            generalize w1.heap.size = g2 at *
            have p2 := T2.out.ok.pri.1
            have U2 := hid (U0.out.below BB2.out)
            have V2 := hid (V0.out.below BB2.out)
            clear U0 V0
            go_wp2_with fail
            refine (nprod_limit g p 4 r' _ _ 16 16 a b _ T2.out U2.out V2.out hn0 hm0 LIM.out (by omega)).mono ?_
            rintro e w3 ⟨⟨po, pc, rfl⟩, B3⟩
            have T3 := hid (T2.out.below B3)
            have S3 := hid (S2.out.below B3 S2.out.lt)
            have U3 := hid (U2.out.below B3)
            have V3 := hid (V2.out.below B3)
            have BB3 := hid (BB2.out.trans (B3.mono BB2.out.size))
            clear B3 BB2 T2 S2 U2 V2
            go_wp2_with fail
            refine (nround_any g p 4 r' _ _ 16 a b _ T3.out U3.out V3.out rfl).mono ?_
            rintro e w4 ⟨⟨fo, fc, rfl, G⟩, B4⟩
            have S4 := hid (S3.out.below B4 S3.out.lt)
            have U4 := hid (U3.out.below B4)
            have V4 := hid (V3.out.below B4)
            have BB4 := hid (BB3.out.trans (B4.mono BB3.out.size))
            clear B4 BB3 S3 U3 V3
            have G4 := hid G
            clear G
            go_wp2_with fail
            refine (rround_any g2 _ _ 16 4 r' a b p _ S4.out U4.out V4.out (by decide) (by decide) p2 (by omega)).mono ?_
            rintro e w5 ⟨⟨v, rfl, G⟩, B5⟩
            have G5 := hid (G4.out.below B5)
            have BB5 := hid (BB4.out.trans (B5.mono BB4.out.size))
            clear B5 BB4 G4
            have H5 := hid G
            clear G
            go_wp2_with fail
            refine (same_yes _ _ 16 _ _ _ G5.out H5.out (fun j hj => rfl)).mono ?_
            rintro e w7 ⟨rfl, c, rfl⟩
            have BBx := hid (below_drewN BB5.out c)
            clear G5 H5 BB5
            go_wp2_with fail
            refine (AWA.out _ BBx.out).mono ?_
            rintro e w9 ⟨rfl, B9⟩
            have BB9 := hid (BBx.out.trans (B9.mono BBx.out.size))
            clear B9
            go_wp2
            go_ret
            exact ⟨rfl, BB9.out⟩
          · have hm16' : ((m : Int) != 16) = true := bne_iff_ne.2 (by omega)
            have RA : Hid (16 ≠ 2 ^ 4 ∨ m ≠ 2 ^ 4) := Or.inr hm16
            clear hm16
            go_enter Tryd.func5, Tryd.ntmps5
            go_wp2_with fail
            refine NE.out.mono ?_
            rintro e w1 ⟨⟨g, r, rfl, T⟩, B1⟩
            have R1 := hid (RE.out w1 B1)
            have BB1 := hid B1
            have T1 := hid T
            clear B1 NE RE T
            go_wp2_with fail
            refine R1.out.mono ?_
            rintro e w2 ⟨⟨r', rfl, T', RI⟩, B2⟩
            obtain rfl : r' = r := RI.uniq T1.out.ok.root
            have T2 := hid (T1.out.below B2)
            have BB2 := hid (BB1.out.trans (B2.mono BB1.out.size))
            have S2 := hid T'
            clear B2 R1 BB1 T1 T' RI
            generalize w1.heap.size = g2 at *
            have p2 := T2.out.ok.pri.1
            have U2 := hid (U0.out.below BB2.out)
            have V2 := hid (V0.out.below BB2.out)
            clear U0 V0
            go_wp2_with fail
            refine (nprod_limit g p 4 r' _ _ 16 m a b _ T2.out U2.out V2.out hn0 hm0 LIM.out (by omega)).mono ?_
            rintro e w3 ⟨⟨po, pc, rfl⟩, B3⟩
            have T3 := hid (T2.out.below B3)
            have S3 := hid (S2.out.below B3 S2.out.lt)
            have U3 := hid (U2.out.below B3)
            have V3 := hid (V2.out.below B3)
            have BB3 := hid (BB2.out.trans (B3.mono BB2.out.size))
            clear B3 BB2 T2 S2 U2 V2
            go_wp2_with fail
            refine (nround_arg g p 4 r' _ _ 16 m a b _ T3.out U3.out V3.out RA.out).mono ?_
            rintro e w4 ⟨⟨fo, fc, rfl⟩, B4⟩
            have BB4 := hid (BB3.out.trans (B4.mono BB3.out.size))
            clear B4 BB3 
            go_wp2_with fail
            refine (AWA.out _ BB4.out).mono ?_
            rintro e w9 ⟨rfl, B9⟩
            have BB9 := hid (BB4.out.trans (B9.mono BB4.out.size))
            clear B9
            go_wp2
            go_ret
            exact ⟨rfl, BB9.out⟩
        · have hn16' : ((n : Int) != 16) = true := bne_iff_ne.2 (by omega)
          have RA : Hid (n ≠ 2 ^ 4 ∨ m ≠ 2 ^ 4) := Or.inl hn16
          clear hn16
          go_enter Tryd.func5, Tryd.ntmps5
          go_wp2_with fail
          refine NE.out.mono ?_
          rintro e w1 ⟨⟨g, r, rfl, T⟩, B1⟩
          have R1 := hid (RE.out w1 B1)
          have BB1 := hid B1
          have T1 := hid T
          clear B1 NE RE T
          go_wp2_with fail
          refine R1.out.mono ?_
          rintro e w2 ⟨⟨r', rfl, T', RI⟩, B2⟩
          obtain rfl : r' = r := RI.uniq T1.out.ok.root
          have T2 := hid (T1.out.below B2)
          have BB2 := hid (BB1.out.trans (B2.mono BB1.out.size))
          have S2 := hid T'
          clear B2 R1 BB1 T1 T' RI
          generalize w1.heap.size = g2 at *
          have p2 := T2.out.ok.pri.1
          have U2 := hid (U0.out.below BB2.out)
          have V2 := hid (V0.out.below BB2.out)
          clear U0 V0
          go_wp2_with fail
          refine (nprod_limit g p 4 r' _ _ n m a b _ T2.out U2.out V2.out hn0 hm0 LIM.out (by omega)).mono ?_
          rintro e w3 ⟨⟨po, pc, rfl⟩, B3⟩
          have T3 := hid (T2.out.below B3)
          have S3 := hid (S2.out.below B3 S2.out.lt)
          have U3 := hid (U2.out.below B3)
          have V3 := hid (V2.out.below B3)
          have BB3 := hid (BB2.out.trans (B3.mono BB2.out.size))
          clear B3 BB2 T2 S2 U2 V2
          go_wp2_with fail
          refine (nround_arg g p 4 r' _ _ n m a b _ T3.out U3.out V3.out RA.out).mono ?_
          rintro e w4 ⟨⟨fo, fc, rfl⟩, B4⟩
          have BB4 := hid (BB3.out.trans (B4.mono BB3.out.size))
          clear B4 BB3 
          go_wp2_with fail
          refine (AWA.out _ BB4.out).mono ?_
          rintro e w9 ⟨rfl, B9⟩
          have BB9 := hid (BB4.out.trans (B9.mono BB4.out.size))
          clear B9
          go_wp2
          go_ret
          exact ⟨rfl, BB9.out⟩
      · have hl' : ¬ (16 : Int) < (n : Int) + (m : Int) - 1 := by omega
        have LIM : Hid (n + m - 1 ≤ 2 ^ 4) := by show n + m - 1 ≤ 16; omega
        clear hlim
        obtain ⟨q, hq⟩ : ∃ q, q = n + m - 1 := ⟨_, rfl⟩
        have PA := hid (fun g r w T U V => nprod_any g p 4 r (.slice ao n cap) (.slice bo m bap) n m a b w T U V hn0 hm0 LIM.out)
        have MA := hid (fun w U V h2 => rmulp_any (.slice ao n cap) (.slice bo m bap) n m a b p w U V hn0 hm0 (by omega) (by omega) h2 (by omega))
        rw [← hq] at PA MA
        clear hq LIM
        by_cases hn16 : n = 16
        · subst hn16
          have hm16' : ((m : Int) != 16) = true := bne_iff_ne.2 (by omega)
          have RA : Hid (16 ≠ 2 ^ 4 ∨ m ≠ 2 ^ 4) := Or.inr (by show m ≠ 16; omega)
          go_enter Tryd.func5, Tryd.ntmps5
          go_wp2_with fail
          refine NE.out.mono ?_
          rintro e w1 ⟨⟨g, r, rfl, T⟩, B1⟩
          have R1 := hid (RE.out w1 B1)
          have BB1 := hid B1
          have T1 := hid T
          clear B1 NE RE T
          go_wp2_with fail
          refine R1.out.mono ?_
          rintro e w2 ⟨⟨r', rfl, T', RI⟩, B2⟩
          obtain rfl : r' = r := RI.uniq T1.out.ok.root
          have T2 := hid (T1.out.below B2)
          have BB2 := hid (BB1.out.trans (B2.mono BB1.out.size))
          have S2 := hid T'
          clear B2 R1 BB1 T1 T' RI
          generalize w1.heap.size = g2 at *
          have p2 := T2.out.ok.pri.1
          have U2 := hid (U0.out.below BB2.out)
          have V2 := hid (V0.out.below BB2.out)
          clear U0 V0
          go_wp2_with fail
          refine (PA.out g r' _ T2.out U2.out V2.out).mono ?_
          rintro e w3 ⟨⟨po, pc, rfl, G⟩, B3⟩
          have T3 := hid (T2.out.below B3)
          have U3 := hid (U2.out.below B3)
          have V3 := hid (V2.out.below B3)
          have BB3 := hid (BB2.out.trans (B3.mono BB2.out.size))
          clear B3 BB2 T2 U2 V2
          have G3 := hid G
          clear G S2 PA
          go_wp2_with fail
          refine (MA.out _ U3.out V3.out (by omega)).mono ?_
          rintro e w4 ⟨⟨v, rfl, H⟩, B4⟩
          have T4 := hid (T3.out.below B4)
          have U4 := hid (U3.out.below B4)
          have V4 := hid (V3.out.below B4)
          have G4 := hid (G3.out.below B4)
          have BB4 := hid (BB3.out.trans (B4.mono BB3.out.size))
          clear B4 BB3 T3 U3 V3 G3
          have H4 := hid H
          clear H MA
          go_wp2_with fail
          refine (same_yes _ _ q _ _ _ G4.out H4.out (fun j hj => rfl)).mono ?_
          rintro e w5 ⟨rfl, c, rfl⟩
          have T5 := hid (T4.out.heap (w' := w4.drewN c) (by simp))
          have U5 := hid (U4.out.drew c)
          have V5 := hid (V4.out.drew c)
          have BB5 := hid (below_drewN BB4.out c)
          clear T4 U4 V4 BB4 G4 H4
          generalize w4.drewN c = w5 at *
          go_wp2_with fail
          refine (nround_arg g p 4 r' _ _ 16 m a b _ T5.out U5.out V5.out RA.out).mono ?_
          rintro e w6 ⟨⟨fo, fc, rfl⟩, B6⟩
          have BB6 := hid (BB5.out.trans (B6.mono BB5.out.size))
          clear B6 BB5 
          go_wp2_with fail
          refine (AWA.out _ BB6.out).mono ?_
          rintro e w9 ⟨rfl, B9⟩
          have BB9 := hid (BB6.out.trans (B9.mono BB6.out.size))
          clear B9
          go_wp2
          go_ret
          exact ⟨rfl, BB9.out⟩
        · have hn16' : ((n : Int) != 16) = true := bne_iff_ne.2 (by omega)
          have RA : Hid (n ≠ 2 ^ 4 ∨ m ≠ 2 ^ 4) := Or.inl hn16
          clear hn16
          go_enter Tryd.func5, Tryd.ntmps5
          go_wp2_with fail
          refine NE.out.mono ?_
          rintro e w1 ⟨⟨g, r, rfl, T⟩, B1⟩
          have R1 := hid (RE.out w1 B1)
          have BB1 := hid B1
          have T1 := hid T
          clear B1 NE RE T
          go_wp2_with fail
          refine R1.out.mono ?_
          rintro e w2 ⟨⟨r', rfl, T', RI⟩, B2⟩
          obtain rfl : r' = r := RI.uniq T1.out.ok.root
          have T2 := hid (T1.out.below B2)
          have BB2 := hid (BB1.out.trans (B2.mono BB1.out.size))
          have S2 := hid T'
          clear B2 R1 BB1 T1 T' RI
          generalize w1.heap.size = g2 at *
          have p2 := T2.out.ok.pri.1
          have U2 := hid (U0.out.below BB2.out)
          have V2 := hid (V0.out.below BB2.out)
          clear U0 V0
          go_wp2_with fail
          refine (PA.out g r' _ T2.out U2.out V2.out).mono ?_
          rintro e w3 ⟨⟨po, pc, rfl, G⟩, B3⟩
          have T3 := hid (T2.out.below B3)
          have U3 := hid (U2.out.below B3)
          have V3 := hid (V2.out.below B3)
          have BB3 := hid (BB2.out.trans (B3.mono BB2.out.size))
          clear B3 BB2 T2 U2 V2
          have G3 := hid G
          clear G S2 PA
          go_wp2_with fail
          refine (MA.out _ U3.out V3.out (by omega)).mono ?_
          rintro e w4 ⟨⟨v, rfl, H⟩, B4⟩
          have T4 := hid (T3.out.below B4)
          have U4 := hid (U3.out.below B4)
          have V4 := hid (V3.out.below B4)
          have G4 := hid (G3.out.below B4)
          have BB4 := hid (BB3.out.trans (B4.mono BB3.out.size))
          clear B4 BB3 T3 U3 V3 G3
          have H4 := hid H
          clear H MA
          go_wp2_with fail
          refine (same_yes _ _ q _ _ _ G4.out H4.out (fun j hj => rfl)).mono ?_
          rintro e w5 ⟨rfl, c, rfl⟩
          have T5 := hid (T4.out.heap (w' := w4.drewN c) (by simp))
          have U5 := hid (U4.out.drew c)
          have V5 := hid (V4.out.drew c)
          have BB5 := hid (below_drewN BB4.out c)
          clear T4 U4 V4 BB4 G4 H4
          generalize w4.drewN c = w5 at *
          go_wp2_with fail
          refine (nround_arg g p 4 r' _ _ n m a b _ T5.out U5.out V5.out RA.out).mono ?_
          rintro e w6 ⟨⟨fo, fc, rfl⟩, B6⟩
          have BB6 := hid (BB5.out.trans (B6.mono BB5.out.size))
          clear B6 BB5 
          go_wp2_with fail
          refine (AWA.out _ BB6.out).mono ?_
          rintro e w9 ⟨rfl, B9⟩
          have BB9 := hid (BB6.out.trans (B9.mono BB6.out.size))
          clear B9
          go_wp2
          go_ret
          exact ⟨rfl, BB9.out⟩
end Go.Proofs.YtcclkahoonlieaaDoor
