/- The laws ConvPlaces and ConvMuls, walked. -/
import Derived.Test.YtocfenjampmdlaaGreatDoorCe
namespace Go.Proofs.YtocfenjampmdlaaGreatDoor
open Go.RowKit Num Nmb

set_option maxHeartbeats 1600000 in
set_option maxRecDepth 100000 in
theorem places_law (u v : Value) (n m : Nat) (d e : Nat → Int) (w : World) (U : Wi w u n d) (V : Wi w v m e) (L : LayB w) :
    Calls Tryz.prog 5 #[u, v] w fun e w' => e = .returned (.bool true) ∧ Below w.heap.size w w' := by
  have AWA : Hid (∀ w', Below w.heap.size w w' → Calls Tryz.prog 9 #[] w' fun e w'' => e = .returned (.bool true) ∧ Below w'.heap.size w' w'') := fun w' B => awake8 w' (L.below B)
  have UU := hid U
  have VV := hid V
  have B0 := hid (Below.refl w.heap.size w)
  obtain ⟨ao, cap, rfl, -⟩ := U
  obtain ⟨bo, bap, rfl, -⟩ := V
  clear L
  by_cases h1 : 20 < n
  · have h1' : (20 : Int) < (n : Int) := by omega
    go_enter Tryz.func5, Tryz.ntmps5
    go_wp2_with fail
    refine (AWA.out _ B0.out).mono ?_
    rintro e w9 ⟨rfl, B9⟩
    have BB9 := hid (B0.out.trans (B9.mono B0.out.size))
    clear B9
    go_wp2
    go_ret
    exact ⟨rfl, BB9.out⟩
  have h1' : ¬ (20 : Int) < (n : Int) := by omega
  by_cases h2 : 20 < m
  · have h2' : (20 : Int) < (m : Int) := by omega
    go_enter Tryz.func5, Tryz.ntmps5
    go_wp2_with fail
    refine (AWA.out _ B0.out).mono ?_
    rintro e w9 ⟨rfl, B9⟩
    have BB9 := hid (B0.out.trans (B9.mono B0.out.size))
    clear B9
    go_wp2
    go_ret
    exact ⟨rfl, BB9.out⟩
  have h2' : ¬ (20 : Int) < (m : Int) := by omega
  go_enter Tryz.func5, Tryz.ntmps5
  go_wp2_with fail
  refine (csize_any _ n d w UU.out).mono ?_
  rintro e1 w1 ⟨⟨r1, er1, rfl, S1⟩, B1⟩
  have BB1 := hid B1
  have U1 := hid (UU.out.below B1)
  have V1 := hid (VV.out.below B1)
  clear B1 UU VV
  go_wp2_with fail
  refine (rsize_any _ n d w1 U1.out).mono ?_
  rintro e2 w2 ⟨⟨r2, er2, rfl, S2⟩, hw⟩
  obtain rfl := hw.symm
  obtain ⟨q1, q2⟩ := S2.uniq S1
  subst q1 q2
  clear S1 S2
  go_wp2_with fail
  refine (cplace_any _ _ n m d e w1 U1.out V1.out).mono ?_
  rintro e3 w3 ⟨⟨r3, er3, rfl, S3⟩, B3⟩
  have U3 := hid (U1.out.below B3)
  have V3 := hid (V1.out.below B3)
  have BB3 := hid (BB1.out.trans (B3.mono BB1.out.size))
  clear B3 U1 V1 BB1
  go_wp2_with fail
  refine (rplace_any _ _ n m d e w3 U3.out V3.out).mono ?_
  rintro e4 w4 ⟨⟨r4, er4, rfl, S4⟩, c, rfl⟩
  obtain ⟨q1, q2⟩ := S4.uniq S3
  subst q1 q2
  have BB4 := hid (below_drewN BB3.out c)
  clear S3 S4 U3 V3 BB3
  go_wp2_with fail
  refine (AWA.out _ BB4.out).mono ?_
  rintro e w9 ⟨rfl, B9⟩
  have BB9 := hid (BB4.out.trans (B9.mono BB4.out.size))
  clear B9
  go_wp2
  go_ret
  exact ⟨rfl, BB9.out⟩
set_option maxHeartbeats 800000 in
theorem rmay8 (m : Int) (w : World) :
    Calls Tryz.prog 11 #[.int .u64 m] w fun e w' => e = .returned (.bool (decide (2 ≤ m) && decide (m < 9223372036854775808))) ∧ w' = w := by
  by_cases h : 2 ≤ m
  · have h' : decide (2 ≤ m) = true := decide_eq_true h
    rw [h', Bool.true_and]
    go_enter Tryz.func11, Tryz.ntmps11
    go_wp2
    go_ret
    exact ⟨rfl, rfl⟩
  · have h' : decide (2 ≤ m) = false := decide_eq_false h
    rw [h', Bool.false_and]
    go_enter Tryz.func11, Tryz.ntmps11
    go_wp2
    go_ret
    exact ⟨rfl, rfl⟩
theorem rmay_yes (m : Int) (w : World) (h : 2 ≤ m) (h' : m ≤ 9223372036854775807) : Calls Tryz.prog 11 #[.int .u64 m] w fun e w' => e = .returned (.bool true) ∧ w' = w := by
  refine (rmay8 m w).mono ?_
  rintro e w' ⟨rfl, rfl⟩
  rw [decide_eq_true h, decide_eq_true (show m < 9223372036854775808 by omega)]
  exact ⟨rfl, rfl⟩
theorem rmay_no (m : Int) (w : World) (h : m < 2 ∨ 9223372036854775807 < m) : Calls Tryz.prog 11 #[.int .u64 m] w fun e w' => e = .returned (.bool false) ∧ w' = w := by
  refine (rmay8 m w).mono ?_
  rintro e w' ⟨rfl, rfl⟩
  refine ⟨?_, rfl⟩
  congr 2
  rw [Bool.and_eq_false_iff, decide_eq_false_iff_not, decide_eq_false_iff_not]
  omega
set_option maxHeartbeats 1600000 in
set_option maxRecDepth 100000 in
theorem cmuls_law (u v : Value) (n m : Nat) (a b : Nat → Int) (M : Nat) (w : World) (hM : M ≤ 18446744073709551615) (U : Wl w u n a) (V : Wl w v m b) (L : LayB w) :
    Calls Tryz.prog 3 #[u, v, .int .u64 M] w fun e w' => e = .returned (.bool true) ∧ Below w.heap.size w w' := by
  have AWA : Hid (∀ w', Below w.heap.size w w' → Calls Tryz.prog 9 #[] w' fun e w'' => e = .returned (.bool true) ∧ Below w'.heap.size w' w'') := fun w' B => awake8 w' (L.below B)
  have UU := hid U
  have VV := hid V
  have LL := hid L
  have B0 := hid (Below.refl w.heap.size w)
  obtain ⟨ao, cap, rfl, -⟩ := U
  obtain ⟨bo, bap, rfl, -⟩ := V
  clear L
  by_cases h1 : 60 < n
  · have h1' : (60 : Int) < (n : Int) := by omega
    go_enter Tryz.func3, Tryz.ntmps3
    go_wp2_with fail
    refine (AWA.out _ B0.out).mono ?_
    rintro e w9 ⟨rfl, B9⟩
    have BB9 := hid (B0.out.trans (B9.mono B0.out.size))
    clear B9
    go_wp2
    go_ret
    exact ⟨rfl, BB9.out⟩
  have h1' : ¬ (60 : Int) < (n : Int) := by omega
  by_cases h2 : 60 < m
  · have h2' : (60 : Int) < (m : Int) := by omega
    go_enter Tryz.func3, Tryz.ntmps3
    go_wp2_with fail
    refine (AWA.out _ B0.out).mono ?_
    rintro e w9 ⟨rfl, B9⟩
    have BB9 := hid (B0.out.trans (B9.mono B0.out.size))
    clear B9
    go_wp2
    go_ret
    exact ⟨rfl, BB9.out⟩
  have h2' : ¬ (60 : Int) < (m : Int) := by omega
  by_cases hb : (M : Int) < 2 ∨ 9223372036854775807 < (M : Int)
  · go_enter Tryz.func3, Tryz.ntmps3
    go_wp2_with fail
    refine (conv_bad _ _ n m a b M w UU.out VV.out (by omega) hb).mono ?_
    rintro e1 w1 ⟨⟨lo, lc, rfl⟩, B1⟩
    have BB1 := hid B1
    clear B1
    go_wp2_with fail
    refine (rmay_no M w1 hb).mono ?_
    rintro e w9 ⟨rfl, hw⟩
    obtain rfl := hw.symm
    go_wp2_with fail
    refine (AWA.out _ BB1.out).mono ?_
    rintro e w9 ⟨rfl, B9⟩
    have BB9 := hid (BB1.out.trans (B9.mono BB1.out.size))
    clear B9
    go_wp2
    go_ret
    exact ⟨rfl, BB9.out⟩
  have M2 : 2 ≤ M := by omega
  have M63 : M ≤ 9223372036854775807 := by omega
  obtain ⟨N, hN⟩ : ∃ N, N = n + m - 1 := ⟨_, rfl⟩
  have CV : Hid (Calls Tryz.prog 10 #[.slice ao n cap, .slice bo m bap, .int .u64 M] w fun e w' => (∃ lo lc, e = .returned (.tuple #[.slice lo (if n = 0 ∨ m = 0 then 0 else N : Nat) lc, .int .i64 0]) ∧ Wl w' (.slice lo (if n = 0 ∨ m = 0 then 0 else N : Nat) lc) (if n = 0 ∨ m = 0 then 0 else N) (fun j => prd a b n m j % M)) ∧ Below w.heap.size w w') := by
    by_cases z : n = 0 ∨ m = 0
    · rw [if_pos z]
      refine (conv_none _ _ n m a b M w UU.out VV.out M2 M63 z).mono ?_
      rintro e w' ⟨⟨lo, lc, rfl, W⟩, B⟩
      exact ⟨⟨lo, lc, rfl, W.eq (fun j hj => absurd hj (by omega))⟩, B⟩
    · rw [if_neg z]
      refine (conv_yes _ _ n m a b M w LL.out UU.out VV.out M2 M63 (by omega) (by omega) (by omega)).mono ?_
      rintro e w' ⟨⟨lo, lc, rfl, W⟩, B⟩
      rw [hN]
      exact ⟨⟨lo, lc, rfl, W⟩, B⟩
  have RM : Hid (∀ w1, Below w.heap.size w w1 → Calls Tryz.prog 13 #[.slice ao n cap, .slice bo m bap, .int .u64 M] w1 fun e w' => (∃ r, e = .returned r ∧ Wl w' r (if n = 0 ∨ m = 0 then 0 else N) (fun j => prd a b n m j % M)) ∧ Below w1.heap.size w1 w') := by
    intro w1 B
    by_cases z : n = 0 ∨ m = 0
    · rw [if_pos z]
      refine (rmulp_none _ _ n m a b M w1 (UU.out.below B) (VV.out.below B) z).mono ?_
      rintro e w' ⟨rfl, rfl⟩
      exact ⟨⟨_, rfl, Wl.nil _ _⟩, Below.refl _ _⟩
    · rw [if_neg z, hN]
      exact rmulp_any _ _ n m a b M w1 (UU.out.below B) (VV.out.below B) (by omega) (by omega) (by omega) (by omega) (by omega) (by omega)
  generalize (if n = 0 ∨ m = 0 then 0 else N) = K at *
  clear hN UU VV LL
  go_enter Tryz.func3, Tryz.ntmps3
  go_wp2_with fail
  refine CV.out.mono ?_
  rintro e1 w1 ⟨⟨lo, lc, rfl, W⟩, B1⟩
  have W1 := hid W
  have BB1 := hid B1
  clear W B1 CV
  go_wp2_with fail
  refine (rmay_yes M w1 (by omega) (by omega)).mono ?_
  rintro e w9 ⟨rfl, hw⟩
  obtain rfl := hw.symm
  go_wp2_with fail
  refine (RM.out w1 BB1.out).mono ?_
  rintro e2 w2 ⟨⟨r, rfl, R⟩, B2⟩
  have W2 := hid (W1.out.below B2)
  have BB2 := hid (BB1.out.trans (B2.mono BB1.out.size))
  have R2 := hid R
  clear R B2 W1 BB1 RM
  go_wp2_with fail
  refine (same_yes8 _ _ K _ _ w2 W2.out R2.out (fun j hj => rfl)).mono ?_
  rintro e w3 ⟨rfl, c, rfl⟩
  have BB3 := hid (below_drewN BB2.out c)
  clear W2 R2 BB2
  go_wp2_with fail
  refine (AWA.out _ BB3.out).mono ?_
  rintro e w9 ⟨rfl, B9⟩
  have BB9 := hid (BB3.out.trans (B9.mono BB3.out.size))
  clear B9
  go_wp2
  go_ret
  exact ⟨rfl, BB9.out⟩
end Go.Proofs.YtocfenjampmdlaaGreatDoor
