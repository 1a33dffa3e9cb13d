/- The law TftMuls. -/
import Derived.Test.YtbecdlibckbbcaaDoorLtp
namespace Go.Proofs.YtbecdlibckbbcaaDoor
open Go.RowKit Num Nmb

set_option maxHeartbeats 3200000 in
set_option maxRecDepth 100000 in
theorem muls_law (p : Nat) (u v : Value) (n m : Nat) (a b : Nat → Int) (w : World) (hn : p ≤ 18446744073709551615) (U : Wl w u n a) (V : Wl w v m b) (L : Lay w) :
    Calls Tryd.prog 7 #[.int .u64 p, u, v] w fun e w' => e = .returned (.bool true) ∧ Below w.heap.size w w' := by
  have AWA : Hid (∀ w', Below w.heap.size w w' → Calls Tryd.prog 11 #[] w' fun e w'' => e = .returned (.bool true) ∧ Below w'.heap.size w' w'') := fun w' B => awake7 w' (L.below B L.size)
  have LL := hid L
  have U0 := hid U
  have V0 := hid V
  obtain ⟨ao, cap, rfl, -⟩ := U
  obtain ⟨bo, bap, rfl, -⟩ := V
  clear L
  by_cases hbig : 100000 < p
  · have hb' : (100000 : Int) < (p : Int) := by omega
    have B0 := hid (Below.refl w.heap.size w)
    go_enter Tryd.func7, Tryd.ntmps7
    go_wp2_with fail
    refine (AWA.out _ B0.out).mono ?_
    rintro e w9 ⟨rfl, B9⟩
    have BB9 := hid (B0.out.trans (B9.mono B0.out.size))
    clear B9
    go_wp2
    go_ret
    exact ⟨rfl, BB9.out⟩
  have hb' : ¬ (100000 : Int) < (p : Int) := by omega
  by_cases hn40 : 40 < n
  · have h2' : (40 : Int) < (n : Int) := by omega
    have B0 := hid (Below.refl w.heap.size w)
    go_enter Tryd.func7, Tryd.ntmps7
    go_wp2_with fail
    refine (AWA.out _ B0.out).mono ?_
    rintro e w9 ⟨rfl, B9⟩
    have BB9 := hid (B0.out.trans (B9.mono B0.out.size))
    clear B9
    go_wp2
    go_ret
    exact ⟨rfl, BB9.out⟩
  have hn' : ¬ (40 : Int) < (n : Int) := by omega
  by_cases hm40 : 40 < m
  · have h2' : (40 : Int) < (m : Int) := by omega
    have B0 := hid (Below.refl w.heap.size w)
    go_enter Tryd.func7, Tryd.ntmps7
    go_wp2_with fail
    refine (AWA.out _ B0.out).mono ?_
    rintro e w9 ⟨rfl, B9⟩
    have BB9 := hid (B0.out.trans (B9.mono B0.out.size))
    clear B9
    go_wp2
    go_ret
    exact ⟨rfl, BB9.out⟩
  have hm' : ¬ (40 : Int) < (m : Int) := by omega
  have hp1 : p ≤ 100000 := by omega
  rcases plans_cases p 5 w hp1 LL.out with ⟨E, HE⟩ | ⟨K, hK5, hK, HE⟩
  · have NE := hid ((HE w (Below.refl _ _)).1)
    have RE := hid (fun w1 B => (HE w1 B).2)
    clear HE
    go_enter Tryd.func7, Tryd.ntmps7
    go_wp2_with fail
    refine NE.out.mono ?_
    rintro e w1 ⟨rfl, B1⟩
    have R1 := hid (RE.out w1 B1)
    have BB1 := hid B1
    clear B1 NE RE
    go_wp2_with fail
    refine R1.out.mono ?_
    rintro e w2 ⟨rfl, B2⟩
    have BB2 := hid (BB1.out.trans (B2.mono BB1.out.size))
    clear B2 R1 BB1
    go_wp2_with fail
    refine (AWA.out _ BB2.out).mono ?_
    rintro e w9 ⟨rfl, B9⟩
    have BB9 := hid (BB2.out.trans (B9.mono BB2.out.size))
    clear B9
    go_wp2
    go_ret
    exact ⟨rfl, BB9.out⟩
  · obtain rfl : K = 5 := by omega
    have NE := hid ((HE w (Below.refl _ _)).1)
    have RE : Hid (∀ w1, Below w.heap.size w w1 → Calls Tryd.prog 13 #[.int .u64 p, .int .i64 5] w1 fun e w'' => (∃ r, e = .returned (.tuple #[.pointer (some ⟨w1.heap.size, 0, none⟩), .int .i64 0]) ∧ RT w'' w1.heap.size p 5 32 r ∧ RootIs p 5 r) ∧ Below w1.heap.size w1 w'') := fun w1 B => (HE w1 B).2
    clear HE LL hbig hn hK5 hK
    by_cases hn0 : n = 0
    · subst hn0
      go_enter Tryd.func7, Tryd.ntmps7
      go_wp2_with fail
      refine NE.out.mono ?_
      rintro e w1 ⟨⟨g, r, rfl, T⟩, B1⟩
      have R1 := hid (RE.out w1 B1)
      have BB1 := hid B1
      have T1 := hid T
      clear B1 NE RE T
      go_wp2_with fail
      refine R1.out.mono ?_
      rintro e w2 ⟨⟨r', rfl, T', RI⟩, B2⟩
      obtain rfl : r' = r := RI.uniq T1.out.ok.root
      have T2 := hid (T1.out.below B2)
      have BB2 := hid (BB1.out.trans (B2.mono BB1.out.size))
      have S2 := hid T'
      clear B2 R1 BB1 T1 T' RI
      generalize w1.heap.size = g2 at *
      have p2 := T2.out.ok.pri.1
      have U2 := hid (U0.out.below BB2.out)
      have V2 := hid (V0.out.below BB2.out)
      clear U0 V0
      go_wp2_with fail
      refine (tmul_none g p 5 r' _ _ 0 m a b _ T2.out U2.out V2.out (by omega)).mono ?_
      rintro e w3 ⟨⟨po, pc, rfl, G⟩, B3⟩
      have U3 := hid (U2.out.below B3)
      have V3 := hid (V2.out.below B3)
      have BB3 := hid (BB2.out.trans (B3.mono BB2.out.size))
      clear B3 BB2 U2 V2
      have G3 := hid G
      clear G
      go_wp2_with fail
      refine (rmulp_none _ _ 0 m a b p _ U3.out V3.out (by omega)).mono ?_
      rintro e w4 ⟨rfl, hw⟩
      obtain rfl := hw.symm
      go_wp2_with fail
      refine (same_yes _ _ 0 _ a _ G3.out (Wl.nil _ _) (fun j hj => absurd hj (by omega))).mono ?_
      rintro e w5 ⟨rfl, c, rfl⟩
      have BB5 := hid (below_drewN BB3.out c)
      clear G3 BB3
      go_wp2_with fail
      refine (AWA.out _ BB5.out).mono ?_
      rintro e w9 ⟨rfl, B9⟩
      have BB9 := hid (BB5.out.trans (B9.mono BB5.out.size))
      clear B9
      go_wp2
      go_ret
      exact ⟨rfl, BB9.out⟩
    have hn0' : (0 : Int) < (n : Int) := by omega
    by_cases hm0 : m = 0
    · subst hm0
      go_enter Tryd.func7, Tryd.ntmps7
      go_wp2_with fail
      refine NE.out.mono ?_
      rintro e w1 ⟨⟨g, r, rfl, T⟩, B1⟩
      have R1 := hid (RE.out w1 B1)
      have BB1 := hid B1
      have T1 := hid T
      clear B1 NE RE T
      go_wp2_with fail
      refine R1.out.mono ?_
      rintro e w2 ⟨⟨r', rfl, T', RI⟩, B2⟩
      obtain rfl : r' = r := RI.uniq T1.out.ok.root
      have T2 := hid (T1.out.below B2)
      have BB2 := hid (BB1.out.trans (B2.mono BB1.out.size))
      have S2 := hid T'
      clear B2 R1 BB1 T1 T' RI
      generalize w1.heap.size = g2 at *
      have p2 := T2.out.ok.pri.1
      have U2 := hid (U0.out.below BB2.out)
      have V2 := hid (V0.out.below BB2.out)
      clear U0 V0
      go_wp2_with fail
      refine (tmul_none g p 5 r' _ _ n 0 a b _ T2.out U2.out V2.out (by omega)).mono ?_
      rintro e w3 ⟨⟨po, pc, rfl, G⟩, B3⟩
      have U3 := hid (U2.out.below B3)
      have V3 := hid (V2.out.below B3)
      have BB3 := hid (BB2.out.trans (B3.mono BB2.out.size))
      clear B3 BB2 U2 V2
      have G3 := hid G
      clear G
      go_wp2_with fail
      refine (rmulp_none _ _ n 0 a b p _ U3.out V3.out (by omega)).mono ?_
      rintro e w4 ⟨rfl, hw⟩
      obtain rfl := hw.symm
      go_wp2_with fail
      refine (same_yes _ _ 0 _ a _ G3.out (Wl.nil _ _) (fun j hj => absurd hj (by omega))).mono ?_
      rintro e w5 ⟨rfl, c, rfl⟩
      have BB5 := hid (below_drewN BB3.out c)
      clear G3 BB3
      go_wp2_with fail
      refine (AWA.out _ BB5.out).mono ?_
      rintro e w9 ⟨rfl, B9⟩
      have BB9 := hid (BB5.out.trans (B9.mono BB5.out.size))
      clear B9
      go_wp2
      go_ret
      exact ⟨rfl, BB9.out⟩
    have hm0' : (0 : Int) < (m : Int) := by omega
    have hnp : 0 < n := by omega
    have hmp : 0 < m := by omega
    by_cases hlim : 32 < n + m - 1
    · have hl' : (32 : Int) < (n : Int) + (m : Int) - 1 := by omega
      have LIM : Hid (2 ^ 5 < n + m - 1) := hlim
      clear hlim
      go_enter Tryd.func7, Tryd.ntmps7
      go_wp2_with fail
      refine NE.out.mono ?_
      rintro e w1 ⟨⟨g, r, rfl, T⟩, B1⟩
      have R1 := hid (RE.out w1 B1)
      have BB1 := hid B1
      have T1 := hid T
      clear B1 NE RE T
      go_wp2_with fail
      refine R1.out.mono ?_
      rintro e w2 ⟨⟨r', rfl, T', RI⟩, B2⟩
      obtain rfl : r' = r := RI.uniq T1.out.ok.root
      have T2 := hid (T1.out.below B2)
      have BB2 := hid (BB1.out.trans (B2.mono BB1.out.size))
      have S2 := hid T'
      clear B2 R1 BB1 T1 T' RI
      generalize w1.heap.size = g2 at *
      have p2 := T2.out.ok.pri.1
      have U2 := hid (U0.out.below BB2.out)
      have V2 := hid (V0.out.below BB2.out)
      clear U0 V0
      go_wp2_with fail
      refine (tmul_limit g p 5 r' _ _ n m a b _ T2.out U2.out V2.out hnp hmp LIM.out (by omega)).mono ?_
      rintro e w3 ⟨⟨po, pc, rfl⟩, B3⟩
      have BB3 := hid (BB2.out.trans (B3.mono BB2.out.size))
      clear B3 BB2 
      go_wp2_with fail
      refine (AWA.out _ BB3.out).mono ?_
      rintro e w9 ⟨rfl, B9⟩
      have BB9 := hid (BB3.out.trans (B9.mono BB3.out.size))
      clear B9
      go_wp2
      go_ret
      exact ⟨rfl, BB9.out⟩
    · have hl' : ¬ (32 : Int) < (n : Int) + (m : Int) - 1 := by omega
      have LIM : Hid (n + m - 1 ≤ 2 ^ 5) := by show n + m - 1 ≤ 32; omega
      clear hlim
      obtain ⟨q, hq⟩ : ∃ q, q = n + m - 1 := ⟨_, rfl⟩
      have PA := hid (fun g r w T U V => tmul_any g p 5 r (.slice ao n cap) (.slice bo m bap) n m a b w T U V hnp hmp LIM.out)
      have MA := hid (fun w U V h2 => rmulp_any (.slice ao n cap) (.slice bo m bap) n m a b p w U V hnp hmp (by omega) (by omega) h2 (by omega))
      rw [← hq] at PA MA
      clear hq LIM
      go_enter Tryd.func7, Tryd.ntmps7
      go_wp2_with fail
      refine NE.out.mono ?_
      rintro e w1 ⟨⟨g, r, rfl, T⟩, B1⟩
      have R1 := hid (RE.out w1 B1)
      have BB1 := hid B1
      have T1 := hid T
      clear B1 NE RE T
      go_wp2_with fail
      refine R1.out.mono ?_
      rintro e w2 ⟨⟨r', rfl, T', RI⟩, B2⟩
      obtain rfl : r' = r := RI.uniq T1.out.ok.root
      have T2 := hid (T1.out.below B2)
      have BB2 := hid (BB1.out.trans (B2.mono BB1.out.size))
      have S2 := hid T'
      clear B2 R1 BB1 T1 T' RI
      generalize w1.heap.size = g2 at *
      have p2 := T2.out.ok.pri.1
      have U2 := hid (U0.out.below BB2.out)
      have V2 := hid (V0.out.below BB2.out)
      clear U0 V0
      go_wp2_with fail
      refine (PA.out g r' _ T2.out U2.out V2.out).mono ?_
      rintro e w3 ⟨⟨po, pc, rfl, G⟩, B3⟩
      have U3 := hid (U2.out.below B3)
      have V3 := hid (V2.out.below B3)
      have BB3 := hid (BB2.out.trans (B3.mono BB2.out.size))
      clear B3 BB2 U2 V2
      have G3 := hid G
      clear G PA
      go_wp2_with fail
      refine (MA.out _ U3.out V3.out (by omega)).mono ?_
      rintro e w4 ⟨⟨v, rfl, H⟩, B4⟩
      have G4 := hid (G3.out.below B4)
      have BB4 := hid (BB3.out.trans (B4.mono BB3.out.size))
      clear B4 BB3 G3
      have H4 := hid H
      clear H MA
      go_wp2_with fail
      refine (same_yes _ _ q _ _ _ G4.out H4.out (fun j hj => rfl)).mono ?_
      rintro e w5 ⟨rfl, c, rfl⟩
      have BB5 := hid (below_drewN BB4.out c)
      clear BB4 G4 H4
      go_wp2_with fail
      refine (AWA.out _ BB5.out).mono ?_
      rintro e w9 ⟨rfl, B9⟩
      have BB9 := hid (BB5.out.trans (B9.mono BB5.out.size))
      clear B9
      go_wp2
      go_ret
      exact ⟨rfl, BB9.out⟩
end Go.Proofs.YtbecdlibckbbcaaDoor
