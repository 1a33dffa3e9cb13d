/- Whole numbers: division by 0, exact quotients, what is left of a word. -/
/- What the law BigintDivides calls besides: Plain with its sign, Few, Is. -/
/- The region 'v, z := F(G(a), G(b))' over the reference's numbers, in any order. -/
import Derived.Test.YtnaiahjgdakneaaGreatDoorBgc
import Derived.Test.YtnaiahjgdakneaaGreatDoorInte
import Derived.Test.YtnaiahjgdakneaaGreatDoorRdy
import Derived.Deep.RegionHeld3
import Derived.Test.YtnaiahjgdakneaaGreatDoorRga
namespace Go.Proofs.YtnaiahjgdakneaaGreatDoor
open Go.RowKit Num

theorem sgn_nz {R : Int} (h : R ≠ 0) : ¬ sgn R = 0 := by
  unfold sgn
  by_cases h1 : R < 0
  · rw [if_pos h1]; decide
  · rw [if_neg h1, if_neg h]; decide
theorem it_zero (w : World) : It w (.agg #[.bool false, .slice none 0 0]) 0 0 := by
  exact ⟨false, none, 0, 0, 0, rfl, nil_nz w, Nat.le_refl _, rfl, (fun h => by cases h), Int.le_refl _⟩
set_option maxHeartbeats 1600000 in
theorem QuoRem_zero (vx vy : Value) (n m : Nat) (A : Int) (w : World) (hx : It w vx n A) (hy : It w vy m 0) :
    Calls Tryz.prog 8 #[vx, vy] w fun e w' => e = .returned (.tuple #[.agg #[.bool false, .slice none 0 0], .agg #[.bool false, .slice none 0 0], .int .i64 10]) ∧ Below w.heap.size w w' := by
  obtain ⟨neg, ao, k, cap, a, rfl, hz, hk, rfl, hne, h0⟩ := hx
  obtain ⟨neg', ao', k', cap', b, rfl, hz', hk', hb, hne', h0'⟩ := hy
  have b0 : b = 0 := by unfold sg at hb; split at hb <;> omega
  subst b0
  obtain ⟨v0, w0, r0, q0, t0⟩ := entry22 w neg ao k cap neg' ao' k' cap'
  have H := hid (divMod_zero _ _ k k' a _ (hz.nt.below t0) (hz'.nt.below t0))
  have R0 := hid r0
  have Q0 := hid q0
  have T0 := hid t0
  clear hz hz' hne hne' v0 w0 r0 q0 t0 hb
  go_enter Tryz.func8, Tryz.ntmps8
  go_wp2_with fail
  generalize (((w.alloc (.cells #[.bool neg, .slice ao k cap] 30)).alloc (.cells #[.bool neg', .slice ao' k' cap'] 30)).alloc (.cells #[.bool false, .slice none 0 0] 30)).alloc (.cells #[.bool false, .slice none 0 0] 30) = wa at *
  refine H.out.mono ?_
  rintro e w1 ⟨rfl, rfl⟩
  clear H
  obtain ⟨x0, x1, x2, x3, x4⟩ := Var.facts R0.out
  have O1 := only_two (w.heap.size + 2) w1 (.bool false) (.slice none 0 0)
  have R1 := hid (Var.set (q := false) (bo := none) (m := 0) (d := 0) R0.out)
  have Q1 := hid (Q0.out.at O1 (by omega))
  obtain ⟨y0, y1, y2, y3, y4⟩ := Var.facts Q1.out
  go_wp2
  have O2 := only_two (w.heap.size + 3) ((w1.setCell ⟨w.heap.size + 2, 0, none⟩ (.bool false)).setCell ⟨w.heap.size + 2, 1, none⟩ (.slice none 0 0)) (.bool false) (.slice none 0 0)
  refine bodyPost_ret (ret_var3 (R1.out.at O2 (by omega)) (Var.set Q1.out) rfl rfl rfl rfl) rfl ?_
  exact ⟨rfl, (T0.out.trans (O1.below (by omega))).trans (O2.below (by omega))⟩
set_option maxHeartbeats 1600000 in
theorem Mod_zero (vx : Value) (n : Nat) (A : Int) (w : World) (hx : It w vx n A) :
    Calls Tryz.prog 11 #[vx, .int .u64 0] w fun e w' => e = .returned (.tuple #[.int .u64 0, .int .i64 10]) ∧ Below w.heap.size w w' := by
  obtain ⟨p, ao, k, c, rfl⟩ := hx.shape
  clear hx
  go_enter Tryz.func11, Tryz.ntmps11
  cases p
  · go_wp2_with fail
    refine (divWord_zero _ _).mono ?_
    rintro e w1 ⟨rfl, rfl⟩
    go_wp2
    go_ret2
    exact ⟨rfl, below_new w _⟩
  · go_wp2_with fail
    refine (divWord_zero _ _).mono ?_
    rintro e w1 ⟨rfl, rfl⟩
    go_wp2
    go_ret2
    exact ⟨rfl, below_new w _⟩
/-- what is left of A, from 0 on, divided by f. -/
def ModIs (A f r : Int) : Prop := 0 ≤ r ∧ r < f ∧ ∃ q, q * f + r = A
set_option maxHeartbeats 1600000 in
theorem Mod_any (vx : Value) (n : Nat) (A f : Int) (w : World) (hx : It w vx n A) (hn : n ≤ 1000) (hf0 : 0 < f) (hf1 : f ≤ 18446744073709551615) :
    Calls Tryz.prog 11 #[vx, .int .u64 f] w fun e w' => (∃ r, e = .returned (.tuple #[.int .u64 r, .int .i64 0]) ∧ ModIs A f r) ∧ Below w.heap.size w w' := by
  obtain ⟨neg, ao, k, cap, a, rfl, hz, hk, rfl, hne, h0⟩ := hx
  have t0 := below_new w (.cells #[.bool neg, .slice ao k cap] 30)
  have H := hid (divWord_any _ k a f _ (hz.nt.below t0) (by omega) hf0 hf1)
  have V0 := hid (var_mk w neg ao k cap)
  have T0 := hid t0
  clear hz hne t0
  go_enter Tryz.func11, Tryz.ntmps11
  go_wp2_with fail
  generalize w.alloc (.cells #[.bool neg, .slice ao k cap] 30) = wa at *
  refine H.out.mono ?_
  rintro e w1 ⟨v', k1, q, r, rfl, _, e1, r0, r1, _, C1⟩
  have T1 := hid (bt T0.out C1)
  obtain ⟨x0, x1, x2, x3, x4⟩ := Var.facts (V0.out.go C1)
  have E1 := hid e1
  clear C1 H V0 T0 e1
  cases neg
  · go_wp2
    go_ret2
    exact ⟨⟨r, rfl, r0, r1, q, E1.out⟩, T1.out⟩
  · by_cases hr : r = 0
    · subst hr
      go_wp2
      go_ret2
      exact ⟨⟨0, rfl, r0, r1, -q, by rw [Int.neg_mul]; have := E1.out; simp [sg]; omega⟩, T1.out⟩
    · have hr' : (r == 0) = false := by simpa using hr
      have hw : IntKind.u64.wrap (f - r) = f - r := by rw [IntKind.wrap_u64]; omega
      go_wp2
      go_ret2
      exact ⟨⟨f - r, rfl, by omega, by omega, -q - 1, by rw [Int.sub_mul, Int.neg_mul]; have := E1.out; simp [sg]; omega⟩, T1.out⟩
set_option maxHeartbeats 1600000 in
set_option maxRecDepth 100000 in
theorem DivMod_zero (vx vy : Value) (n m : Nat) (A : Int) (w : World) (hx : It w vx n A) (hy : It w vy m 0) :
    Calls Tryz.prog 9 #[vx, vy] w fun e w' => e = .returned (.tuple #[.agg #[.bool false, .slice none 0 0], .agg #[.bool false, .slice none 0 0], .int .i64 10]) ∧ Below w.heap.size w w' := by
  obtain ⟨neg, ao, k, cap, rfl⟩ := hx.shape
  obtain ⟨neg', ao', k', cap', rfl⟩ := hy.shape
  obtain ⟨v0, w0, r0, q0, t0⟩ := entry22 w neg ao k cap neg' ao' k' cap'
  have H := hid (QuoRem_zero _ _ n m A _ (hx.below t0) (hy.below t0))
  have R0 := hid r0
  have Q0 := hid q0
  have T0 := hid t0
  clear hx hy v0 w0 r0 q0 t0
  go_enter Tryz.func9, Tryz.ntmps9
  go_wp2_with fail
  generalize (((w.alloc (.cells #[.bool neg, .slice ao k cap] 30)).alloc (.cells #[.bool neg', .slice ao' k' cap'] 30)).alloc (.cells #[.bool false, .slice none 0 0] 30)).alloc (.cells #[.bool false, .slice none 0 0] 30) = wa at *
  refine H.out.mono ?_
  rintro e w1 ⟨rfl, C1⟩
  obtain ⟨v1, v2, t2⟩ := pair w1 false none 0 0 false none 0 0
  have T2 := hid (bt C1 t2)
  have V1 := hid v1
  have V2 := hid v2
  have z0 := Blk.lt Q0.out
  have z1 := C1.size
  clear v1 v2 t2 C1 H
  go_wp2_with fail
  generalize (w1.alloc (.cells #[.bool false, .slice none 0 0] 30)).alloc (.cells #[.bool false, .slice none 0 0] 30) = w2 at *
  refine (Sign_any _ _ _ _ (it_zero w2)).mono ?_
  rintro e w3 ⟨rfl, C3⟩
  have T3 := hid (bt T2.out C3)
  have V3 := hid (V1.out.go C3)
  have V4 := hid (V2.out.go C3)
  have e0 : sgn 0 = 0 := rfl
  rw [e0]
  obtain ⟨x0, x1, x2, x3, x4⟩ := Var.facts V3.out
  obtain ⟨y0, y1, y2, y3, y4⟩ := Var.facts V4.out
  have R3 := hid (R0.out.go T3.out)
  have Q3 := hid (Q0.out.go T3.out)
  obtain ⟨c0, c1, f0, f1, g0⟩ := Var.facts R3.out
  obtain ⟨d0, d1, e0, e1, g1⟩ := Var.facts Q3.out
  have n1 : w1.heap.size ≠ w.heap.size + 2 := by omega
  have n2 : w1.heap.size + 1 ≠ w.heap.size + 2 := by omega
  have TT := hid (bt T0.out T3.out)
  clear V1 V2 T2 C3
  go_wp2_with fail
  go_region
  all_goals
    have O1 := only_two (w.heap.size + 2) w3 (.bool false) (.slice none 0 0)
    have Q4 := Q3.out.at O1 (by omega)
    have R4 := Var.set (q := false) (bo := none) (m := 0) (d := 0) R3.out
    go_wp2
    have O2 := only_two (w.heap.size + 3) ((w3.setCell ⟨w.heap.size + 2, 0, none⟩ (.bool false)).setCell ⟨w.heap.size + 2, 1, none⟩ (.slice none 0 0)) (.bool false) (.slice none 0 0)
    refine bodyPost_ret (ret_var3 (R4.at O2 (by omega)).drew (Var.set Q4).drew rfl rfl rfl rfl) rfl ?_
    exact ⟨rfl, (((TT.out.trans (O1.below (by omega))).trans (O2.below (by omega)))).drew⟩
set_option maxHeartbeats 1600000 in
set_option maxRecDepth 100000 in
theorem Exact_zero (vx vy : Value) (n m : Nat) (A : Int) (w : World) (hx : It w vx n A) (hy : It w vy m 0) :
    Calls Tryz.prog 10 #[vx, vy] w fun e w' => e = .returned (.tuple #[.agg #[.bool false, .slice none 0 0], .int .i64 10]) ∧ Below w.heap.size w w' := by
  obtain ⟨neg, ao, k, cap, rfl⟩ := hx.shape
  obtain ⟨neg', ao', k', cap', rfl⟩ := hy.shape
  obtain ⟨v0, w0, r0, t0⟩ := entry2 w neg ao k cap neg' ao' k' cap'
  have H := hid (QuoRem_zero _ _ n m A _ (hx.below t0) (hy.below t0))
  have R0 := hid r0
  have T0 := hid t0
  clear hx hy v0 w0 r0 t0
  go_enter Tryz.func10, Tryz.ntmps10
  go_wp2_with fail
  generalize ((w.alloc (.cells #[.bool neg, .slice ao k cap] 30)).alloc (.cells #[.bool neg', .slice ao' k' cap'] 30)).alloc (.cells #[.bool false, .slice none 0 0] 30) = wa at *
  refine H.out.mono ?_
  rintro e w1 ⟨rfl, C1⟩
  obtain ⟨_, _, t2⟩ := pair w1 false none 0 0 false none 0 0
  have R1 := hid ((R0.out.go C1).go t2)
  have T1 := hid (bt (bt T0.out C1) t2)
  clear C1 H t2
  obtain ⟨c0, c1, f0, f1, g0⟩ := Var.facts R1.out
  go_wp2
  have O1 := only_two (w.heap.size + 2) ((w1.alloc (.cells #[.bool false, .slice none 0 0] 30)).alloc (.cells #[.bool false, .slice none 0 0] 30)) (.bool false) (.slice none 0 0)
  refine bodyPost_ret (ret_var2 (Var.set R1.out) rfl rfl rfl) rfl ?_
  exact ⟨rfl, T1.out.trans (O1.below (by omega))⟩
set_option maxHeartbeats 1600000 in
set_option maxRecDepth 100000 in
theorem Exact_any (vx vy : Value) (n m : Nat) (A B : Int) (w : World) (hx : It w vx n A) (hy : It w vy m B) (hn : n ≤ 1000) (hm : m ≤ 1000) (hB : B ≠ 0) :
    Calls Tryz.prog 10 #[vx, vy] w fun e w' => (∃ Q R, QuoIs A B Q R ∧ ((R ≠ 0 ∧ e = .returned (.tuple #[.agg #[.bool false, .slice none 0 0], .int .i64 11])) ∨ (R = 0 ∧ ∃ v, e = .returned (.tuple #[v, .int .i64 0]) ∧ It w' v n Q))) ∧ Below w.heap.size w w' := by
  obtain ⟨neg, ao, k, cap, rfl⟩ := hx.shape
  obtain ⟨neg', ao', k', cap', rfl⟩ := hy.shape
  obtain ⟨v0, w0, r0, t0⟩ := entry2 w neg ao k cap neg' ao' k' cap'
  have H := hid (QuoRem_any _ _ n m A B _ (hx.below t0) (hy.below t0) (by omega) (by omega) hB)
  have R0 := hid r0
  have T0 := hid t0
  clear hx hy v0 w0 r0 t0
  go_enter Tryz.func10, Tryz.ntmps10
  go_wp2_with fail
  generalize ((w.alloc (.cells #[.bool neg, .slice ao k cap] 30)).alloc (.cells #[.bool neg', .slice ao' k' cap'] 30)).alloc (.cells #[.bool false, .slice none 0 0] 30) = wa at *
  refine H.out.mono ?_
  rintro e w1 ⟨v1, v2, Q, R, rfl, s1, s2, hq, C1⟩
  obtain ⟨g1, ao1, k1, cap1, rfl⟩ := s1.shape
  obtain ⟨g2, ao2, k2, cap2, rfl⟩ := s2.shape
  obtain ⟨v1, v2, t2⟩ := pair w1 g1 ao1 k1 cap1 g2 ao2 k2 cap2
  have S3 := hid (s1.below t2)
  have S4 := hid (s2.below t2)
  have R1 := hid ((R0.out.go C1).go t2)
  have T1 := hid (bt (bt T0.out C1) t2)
  have V1 := hid v1
  have V2 := hid v2
  have HQ := hid hq
  have z0 := Blk.lt R0.out
  have z1 := C1.size
  clear C1 H t2 v1 v2 s1 s2 hq
  go_wp2_with fail
  generalize (w1.alloc (.cells #[.bool g1, .slice ao1 k1 cap1] 30)).alloc (.cells #[.bool g2, .slice ao2 k2 cap2] 30) = w2 at *
  refine (Sign_any _ _ _ _ S4.out).mono ?_
  rintro e w3 ⟨rfl, C3⟩
  have R3 := hid (R1.out.go C3)
  have T3 := hid (bt T1.out C3)
  have S5 := hid (S3.out.below C3)
  have V3 := hid (V1.out.go C3)
  obtain ⟨x0, x1, x2, x3, x4⟩ := Var.facts V3.out
  obtain ⟨c0, c1, f0, f1, g0⟩ := Var.facts R3.out
  clear C3 V1 V2 R1 T1 S3 S4
  have n1 : w1.heap.size ≠ w.heap.size + 2 := by omega
  by_cases hr : R = 0
  · have hs : sgn R = 0 := by rw [hr]; rfl
    rw [hs]
    go_wp2
    have O1 := only_two (w.heap.size + 2) w3 (.bool g1) (.slice ao1 k1 cap1)
    refine bodyPost_ret (ret_var2 (Var.set R3.out) rfl rfl rfl) rfl ?_
    exact ⟨⟨Q, R, HQ.out, Or.inr ⟨hr, _, rfl, S5.out.off R3.out O1⟩⟩, T3.out.trans (O1.below (by omega))⟩
  · have hs' := sgn_nz hr
    have hs : (sgn R == 0) = false := by simpa using hs'
    generalize sgn R = sr at *
    go_wp2
    have O1 := only_two (w.heap.size + 2) w3 (.bool false) (.slice none 0 0)
    refine bodyPost_ret (ret_var2 (Var.set R3.out) rfl rfl rfl) rfl ?_
    exact ⟨⟨Q, R, HQ.out, Or.inl ⟨hr, rfl⟩⟩, T3.out.trans (O1.below (by omega))⟩
end Go.Proofs.YtnaiahjgdakneaaGreatDoor
namespace Go.Proofs.YtnaiahjgdakneaaGreatDoor
open Go.RowKit Num
open Go.Lib (decDigits)

set_option maxHeartbeats 800000 in
theorem rof2_ri (neg : Bool) (v : Value) (n : Nat) (x : Nat → Int) (o : Nat) (w : World) (h : Sl w v n x o) (hn : n ≤ 1000) :
    Calls Tryz.prog 32 #[.bool neg, v] w fun e w' => (∃ ng S, e = .returned (.agg #[.bool ng, .string S]) ∧ RI ng S (sg neg (V x o n)) ∧ S = dt (V x o n).toNat) ∧ Below w.heap.size w w' := by
  have G0 : Hid (Blk (w.alloc (.cells #[.bool false, .string ⟨#[]⟩] 40)) w.heap.size #[.bool false, .string ⟨#[]⟩] 40) := Blk.new _ _ _
  have B0 := hid (below_new w (.cells #[.bool false, .string ⟨#[]⟩] 40))
  have H := hid (h.below B0.out)
  have h0 : 0 ≤ V x o n := (V_bd n h.wd).1
  clear h
  go_enter Tryz.func32, Tryz.ntmps32
  go_wp2_with fail
  generalize w.alloc (.cells #[.bool false, .string ⟨#[]⟩] 40) = wa at *
  refine (rof_any v n x o wa H.out hn).mono ?_
  rintro e w1 ⟨rfl, C1⟩
  have G1 := hid (G0.out.go2 C1)
  have B1 := hid (bt B0.out C1)
  obtain ⟨S, hS⟩ : ∃ S, dt (V x o n).toNat = S := ⟨_, rfl⟩
  have HS := hid hS
  rw [hS]
  clear C1 G0 B0 hS
  go_wp2_with fail
  refine (made_any neg S _).mono ?_
  rintro e w2 ⟨rfl, C2⟩
  have G2 := hid (G1.out.go2 C2)
  have B2 := hid (bt B1.out C2)
  obtain ⟨c0, c1, f0, f1, l0⟩ := Blk.two G2.out
  have M := hid (RI.made (p := neg) (S := S) (A := sg neg (V x o n)) (V x o n).toNat HS.out.symm (by rw [Int.toNat_of_nonneg h0]))
  generalize (neg && !(S.toList == [48])) = ng at *
  clear C2
  go_wp2
  refine bodyPost_ret (ret_ref (Blk.set2 G2.out) rfl rfl) rfl ?_
  exact ⟨⟨ng, S, rfl, M.out, HS.out.symm⟩, B2.out.trans ((only_two _ _ _ _).below (Nat.le_refl _))⟩
set_option maxHeartbeats 800000 in
theorem plain_ri (neg : Bool) (ao : Option Addr) (n c : Nat) (x : Nat → Int) (o : Nat) (w : World) (h : Sl w (.slice ao n c) n x o) (hn : n ≤ 1000) :
    Calls Tryz.prog 13 #[.agg #[.bool neg, .slice ao n c]] w fun e w' => (∃ ng S, e = .returned (.agg #[.bool ng, .string S]) ∧ RI ng S (sg neg (V x o n)) ∧ S = dt (V x o n).toNat) ∧ Below w.heap.size w w' := by
  have h0 : Below w.heap.size w ((w.alloc (.cells #[.bool neg, .slice ao n c] 25)).alloc (.cells #[.bool false, .string ⟨#[]⟩] 40)) := bt (below_new w _) (below_new _ _)
  have B0 := hid h0
  have H := hid (h.below h0)
  have G0 : Hid (Blk ((w.alloc (.cells #[.bool neg, .slice ao n c] 25)).alloc (.cells #[.bool false, .string ⟨#[]⟩] 40)) (w.heap.size + 1) #[.bool false, .string ⟨#[]⟩] 40) := by
    have := Blk.new (w.alloc (.cells #[.bool neg, .slice ao n c] 25)) #[.bool false, .string ⟨#[]⟩] 40
    rw [World.size_alloc] at this
    exact this
  clear h h0
  go_enter Tryz.func13, Tryz.ntmps13
  go_wp2_with fail
  generalize (w.alloc (.cells #[.bool neg, .slice ao n c] 25)).alloc (.cells #[.bool false, .string ⟨#[]⟩] 40) = wa at *
  refine (rof2_ri neg _ n x o wa H.out hn).mono ?_
  rintro e w1 ⟨⟨ng, S, rfl, m, hS⟩, C1⟩
  have M := hid m
  have G1 := hid (G0.out.go2 C1)
  have B1 := hid (bt B0.out C1)
  have HS := hid hS
  obtain ⟨c0, c1, f0, f1, l0⟩ := Blk.two G1.out
  clear C1 G0 B0 hS m
  go_wp2
  refine bodyPost_ret (ret_ref (Blk.set2 G1.out) rfl rfl) rfl ?_
  exact ⟨⟨ng, S, rfl, M.out, HS.out⟩, B1.out.trans ((only_two _ _ _ _).below (by omega))⟩
set_option maxHeartbeats 1600000 in
theorem few_any (neg : Bool) (ao : Option Addr) (n c : Nat) (w : World) :
    Calls Tryz.prog 5 #[.agg #[.bool neg, .slice ao n c]] w fun e w' => e = .returned (.bool (decide (n ≤ 8))) ∧ Below w.heap.size w w' := by
  have e : decide ((n : Int) ≤ 8) = decide (n ≤ 8) := by
    by_cases h : n ≤ 8
    · rw [decide_eq_true h, decide_eq_true (show (n : Int) ≤ 8 by omega)]
    · rw [decide_eq_false h, decide_eq_false (show ¬ (n : Int) ≤ 8 by omega)]
  go_enter Tryz.func5, Tryz.ntmps5
  go_wp2
  go_ret
  exact ⟨by rw [← e]; rfl, below_new w _⟩
/-- the reference's text of a number. -/
def rtx (ng : Bool) (S : ByteArray) : ByteArray := if ng then ⟨#[45]⟩ ++ S else S
set_option maxHeartbeats 800000 in
theorem rprint_any (ng : Bool) (S : ByteArray) (w : World) (hS : S.size ≤ 100000) :
    Calls Tryz.prog 37 #[.agg #[.bool ng, .string S]] w fun e w' => e = .returned (.string (rtx ng S)) ∧ Below w.heap.size w w' := by
  have h1 : (S.size : Int) ≤ 100000 := by omega
  go_enter Tryz.func37, Tryz.ntmps37
  cases ng
  · go_wp2
    go_ret
    exact ⟨rfl, below_new w _⟩
  · go_wp2
    go_ret
    exact ⟨rfl, below_new w _⟩
set_option maxHeartbeats 1600000 in
set_option maxRecDepth 100000 in
theorem is_same (p : Bool) (ao : Option Addr) (k c n : Nat) (A : Int) (ng : Bool) (S : ByteArray) (w : World) (h : It w (.agg #[.bool p, .slice ao k c]) n A) (hn : n ≤ 100000) (hS : S.size ≤ 100000) (ht : Tab w) (e : (⟨(idt A).toArray⟩ : ByteArray) = rtx ng S) :
    Calls Tryz.prog 18 #[.agg #[.bool p, .slice ao k c], .agg #[.bool ng, .string S]] w fun e w' => e = .returned (.bool true) ∧ Below w.heap.size w w' := by
  have HT := hid ht
  have H := hid h
  have E := hid e
  have B0 : Hid (Below w.heap.size w ((w.alloc (.cells #[.bool p, .slice ao k c] 30)).alloc (.cells #[.bool ng, .string S] 40))) := bt (below_new w _) (below_new _ _)
  have G0 : Hid (Blk ((w.alloc (.cells #[.bool p, .slice ao k c] 30)).alloc (.cells #[.bool ng, .string S] 40)) (w.heap.size + 1) #[.bool ng, .string S] 40) := by
    have := Blk.new (w.alloc (.cells #[.bool p, .slice ao k c] 30)) #[.bool ng, .string S] 40
    rw [World.size_alloc] at this
    exact this
  have V0 : Hid (Var ((w.alloc (.cells #[.bool p, .slice ao k c] 30)).alloc (.cells #[.bool ng, .string S] 40)) w.heap.size p ao k c) := (var_mk w p ao k c).alloc _
  clear h ht e
  go_enter Tryz.func18, Tryz.ntmps18
  go_wp2_with fail
  generalize (w.alloc (.cells #[.bool p, .slice ao k c] 30)).alloc (.cells #[.bool ng, .string S] 40) = wa at *
  have K0 : wa.drew.cell? ⟨w.heap.size, 0, none⟩ = some (.bool p) ∧ wa.drew.cell? ⟨w.heap.size, 1, none⟩ = some (.slice ao k c) ∧ wa.drew.cell? ⟨w.heap.size + 1, 0, none⟩ = some (.bool ng) ∧ wa.drew.cell? ⟨w.heap.size + 1, 1, none⟩ = some (.string S) := by
    obtain ⟨a0, a1, _⟩ := Var.facts V0.out
    obtain ⟨b0, b1, _⟩ := Blk.two G0.out
    exact ⟨a0, a1, b0, b1⟩
  go_region_held3 (fun W => W.cell? ⟨w.heap.size, 0, none⟩ = some (.bool p) ∧ W.cell? ⟨w.heap.size, 1, none⟩ = some (.slice ao k c) ∧ W.cell? ⟨w.heap.size + 1, 0, none⟩ = some (.bool ng) ∧ W.cell? ⟨w.heap.size + 1, 1, none⟩ = some (.string S)) (first | exact K0 | exact K1 | exact K2) (first
    | (go_at_call 20; go_must (refine ((Print_any _ n A wa.drew (H.out.below (bt B0.out (Below.refl _ _).drew)) hn (HT.out.below (bt B0.out (Below.refl _ _).drew) HT.out.lt)).mono ?_); rw [E.out]; rintro e w1 ⟨rfl, C1⟩; have B1 := hid (bt (bt B0.out (Below.refl _ _).drew) C1); have V1 := hid ((V0.out.go (Below.refl _ _).drew).go C1); have G1 := hid ((Blk.go2 G0.out (Below.refl _ _).drew).go2 C1); have K1 : w1.cell? ⟨w.heap.size, 0, none⟩ = some (.bool p) ∧ w1.cell? ⟨w.heap.size, 1, none⟩ = some (.slice ao k c) ∧ w1.cell? ⟨w.heap.size + 1, 0, none⟩ = some (.bool ng) ∧ w1.cell? ⟨w.heap.size + 1, 1, none⟩ = some (.string S) := ⟨(Var.facts V1.out).1, (Var.facts V1.out).2.1, (Blk.two G1.out).1, (Blk.two G1.out).2.1⟩; clear C1))
    | (go_at_call 37; go_must (refine (rprint_any ng S w1 hS).mono ?_; rintro e w2 ⟨rfl, C2⟩; have B2 := hid (bt B1.out C2); have K2 : w2.cell? ⟨w.heap.size, 0, none⟩ = some (.bool p) ∧ w2.cell? ⟨w.heap.size, 1, none⟩ = some (.slice ao k c) ∧ w2.cell? ⟨w.heap.size + 1, 0, none⟩ = some (.bool ng) ∧ w2.cell? ⟨w.heap.size + 1, 1, none⟩ = some (.string S) := ⟨(Var.facts (V1.out.go C2)).1, (Var.facts (V1.out.go C2)).2.1, (Blk.two (G1.out.go2 C2)).1, (Blk.two (G1.out.go2 C2)).2.1⟩; clear C2)))
  go_wp2
  go_ret
  exact ⟨rfl, B2.out⟩
theorem idt_ri {p : Bool} {S : ByteArray} {A : Int} (h : RI p S A) : (⟨(idt A).toArray⟩ : ByteArray) = rtx p S := by
  obtain ⟨rfl, rfl⟩ := h
  unfold idt rtx dt
  by_cases hA : A < 0
  · rw [if_pos hA, if_pos (decide_eq_true hA)]
    apply bytes_eq
    simp
  · rw [if_neg hA, if_neg (by simpa using hA)]
theorem is_ri (v : Value) (n : Nat) (A : Int) (ng : Bool) (S : ByteArray) (w : World) (h : It w v n A) (hn : n ≤ 1000) (hS : S.size ≤ 100000) (ht : Tab w) (r : RI ng S A) :
    Calls Tryz.prog 18 #[v, .agg #[.bool ng, .string S]] w fun e w' => e = .returned (.bool true) ∧ Below w.heap.size w w' := by
  obtain ⟨p, ao, k, c, rfl⟩ := h.shape
  exact is_same p ao k c n A ng S w h (by omega) hS ht (idt_ri r)
theorem quo_one {A B Q R Q' R' : Int} (_h0 : B ≠ 0) (h : QuoIs A B Q R) (h' : QuoIs A B Q' R') : Q = Q' ∧ R = R' := by
  obtain ⟨e, l, s⟩ := h
  obtain ⟨e', l', s'⟩ := h'
  have hd : (Q - Q') * B = R' - R := by rw [Int.sub_mul]; omega
  have hl : (R' - R).natAbs < B.natAbs := by omega
  have hz : Q - Q' = 0 := by
    by_cases hc : Q - Q' = 0
    · exact hc
    · exfalso
      have h1 : 1 ≤ (Q - Q').natAbs := by omega
      have h2 : (Q - Q').natAbs * B.natAbs = (R' - R).natAbs := by rw [← Int.natAbs_mul, hd]
      have h3 : 1 * B.natAbs ≤ (Q - Q').natAbs * B.natAbs := Nat.mul_le_mul_right _ h1
      omega
  have : Q = Q' := by omega
  subst this
  exact ⟨rfl, by omega⟩
theorem div_one {A B Q R Q' R' : Int} (_h0 : B ≠ 0) (h : DivIs A B Q R) (h' : DivIs A B Q' R') : Q = Q' ∧ R = R' := by
  obtain ⟨e, l, s⟩ := h
  obtain ⟨e', l', s'⟩ := h'
  have hd : (Q - Q') * B = R' - R := by rw [Int.sub_mul]; omega
  have hl : (R' - R).natAbs < B.natAbs := by omega
  have hz : Q - Q' = 0 := by
    by_cases hc : Q - Q' = 0
    · exact hc
    · exfalso
      have h1 : 1 ≤ (Q - Q').natAbs := by omega
      have h2 : (Q - Q').natAbs * B.natAbs = (R' - R).natAbs := by rw [← Int.natAbs_mul, hd]
      have h3 : 1 * B.natAbs ≤ (Q - Q').natAbs * B.natAbs := Nat.mul_le_mul_right _ h1
      omega
  have : Q = Q' := by omega
  subst this
  exact ⟨rfl, by omega⟩
end Go.Proofs.YtnaiahjgdakneaaGreatDoor
namespace Go.Proofs.YtnaiahjgdakneaaGreatDoor
open Go.RowKit Num
/-- the reference's number A. -/
def rv (A : Int) : Value := .agg #[.bool (decide (A < 0)), .string (dt A.natAbs)]
theorem rv_of {p : Bool} {S : ByteArray} {A : Int} (h : RI p S A) : Value.agg #[.bool p, .string S] = rv A := by unfold rv; rw [h.1, h.2]
theorem ri_rv (A : Int) : RI (decide (A < 0)) (dt A.natAbs) A := ⟨rfl, rfl⟩
def RVar (w : World) (v : Value) (B : Nat) : Prop := ∃ g p S, v = .pointer (some ⟨g, 0, none⟩) ∧ B ≤ g ∧ Blk w g #[.bool p, .string S] 40
def RHold (w : World) (v : Value) (A : Int) : Prop := ∃ g, v = .pointer (some ⟨g, 0, none⟩) ∧ Blk w g #[.bool (decide (A < 0)), .string (dt A.natAbs)] 40
theorem RVar.below {w w' : World} {v : Value} {B : Nat} (h : RVar w v B) (b : Below w.heap.size w w') : RVar w' v B := by
  obtain ⟨g, p, S, h1, h2, h3⟩ := h
  exact ⟨g, p, S, h1, h2, h3.go2 b⟩
theorem RHold.below {w w' : World} {v : Value} {A : Int} (h : RHold w v A) (b : Below w.heap.size w w') : RHold w' v A := by
  obtain ⟨g, h1, h2⟩ := h
  exact ⟨g, h1, h2.go2 b⟩
def setr (w : World) (g : Nat) (p : Bool) (S : ByteArray) : World := (w.setCell ⟨g, 0, none⟩ (.bool p)).setCell ⟨g, 1, none⟩ (.string S)
theorem only_setr (w : World) (g : Nat) (p : Bool) (S : ByteArray) : Only g w (setr w g p S) := only_two g w _ _
theorem RVar.set {w : World} {v : Value} {B g : Nat} {p q : Bool} {S U : ByteArray} (h : RVar w v B) (hv : Blk w g #[.bool p, .string S] 40) : RVar (setr w g q U) v B := by
  obtain ⟨g', p', S', h1, h2, h3⟩ := h
  by_cases e : g' = g
  · subst e
    exact ⟨g', q, U, h1, h2, Blk.set2 hv⟩
  · exact ⟨g', p', S', h1, h2, h3.only (only_setr w g q U) e⟩
theorem RHold.set {w : World} {v : Value} {g : Nat} {A : Int} {q : Bool} {U : ByteArray} (h : RHold w v A) (hne : v ≠ .pointer (some ⟨g, 0, none⟩)) : RHold (setr w g q U) v A := by
  obtain ⟨g', h1, h2⟩ := h
  have e : g' ≠ g := by rintro rfl; exact hne h1
  exact ⟨g', h1, h2.only (only_setr w g q U) e⟩
/-- what each operation leaves behind. -/
def RR (va vb : Value) (A B Q R : Int) (M : Nat) : Nat → (Nat → Value) → World → Prop
  | 0, s, _ => s 0 = va
  | 1, s, _ => s 1 = rv A
  | 2, s, _ => s 2 = vb
  | 3, s, _ => s 3 = rv B
  | 4, s, _ => s 4 = .tuple #[rv Q, rv R]
  | 5, s, _ => s 5 = .tuple #[rv Q, rv R]
  | 6, s, _ => s 6 = rv Q
  | 7, s, _ => s 7 = rv R
  | 8, s, w => RVar w (s 8) M
  | 9, s, w => RVar w (s 9) M
  | 10, s, w => RHold w (s 8) Q
  | 11, s, w => RHold w (s 9) R
  | _, _, _ => True
variable {va vb : Value} {M : Nat} {A B Q R : Int}
theorem RR.below {s : Nat → Value} {w w' : World} (hb : Below w.heap.size w w') : ∀ j, RR va vb A B Q R M j s w → RR va vb A B Q R M j s w'
  | 0, h => h
  | 1, h => h
  | 2, h => h
  | 3, h => h
  | 4, h => h
  | 5, h => h
  | 6, h => h
  | 7, h => h
  | 8, h => RVar.below h hb
  | 9, h => RVar.below h hb
  | 10, h => RHold.below h hb
  | 11, h => RHold.below h hb
  | _ + 12, _ => trivial
theorem RR.put {s : Nat → Value} {w : World} {i : Nat} {v : Value} : ∀ j, j ≠ i → (j = 10 → i ≠ 8) → (j = 11 → i ≠ 9) → RR va vb A B Q R M j s w → RR va vb A B Q R M j (upd s i v) w
  | 0, h, _, _, hr => (upd_other s v h).trans hr
  | 1, h, _, _, hr => (upd_other s v h).trans hr
  | 2, h, _, _, hr => (upd_other s v h).trans hr
  | 3, h, _, _, hr => (upd_other s v h).trans hr
  | 4, h, _, _, hr => (upd_other s v h).trans hr
  | 5, h, _, _, hr => (upd_other s v h).trans hr
  | 6, h, _, _, hr => (upd_other s v h).trans hr
  | 7, h, _, _, hr => (upd_other s v h).trans hr
  | 8, h, _, _, hr => by show RVar w (upd s i v 8) M; rw [upd_other s v h]; exact hr
  | 9, h, _, _, hr => by show RVar w (upd s i v 9) M; rw [upd_other s v h]; exact hr
  | 10, _, h, _, hr => by show RHold w (upd s i v 8) Q; rw [upd_other s v (Ne.symm (h rfl))]; exact hr
  | 11, _, _, h, hr => by show RHold w (upd s i v 9) R; rw [upd_other s v (Ne.symm (h rfl))]; exact hr
  | _ + 12, _, _, _, _ => trivial
theorem RR.set {s : Nat → Value} {w : World} {g : Nat} {p q : Bool} {S U : ByteArray} (hv : Blk w g #[.bool p, .string S] 40) :
    ∀ j, (j = 10 → s 8 ≠ .pointer (some ⟨g, 0, none⟩)) → (j = 11 → s 9 ≠ .pointer (some ⟨g, 0, none⟩)) → RR va vb A B Q R M j s w → RR va vb A B Q R M j s (setr w g q U)
  | 0, _, _, h => h
  | 1, _, _, h => h
  | 2, _, _, h => h
  | 3, _, _, h => h
  | 4, _, _, h => h
  | 5, _, _, h => h
  | 6, _, _, h => h
  | 7, _, _, h => h
  | 8, _, _, h => RVar.set h hv
  | 9, _, _, h => RVar.set h hv
  | 10, k, _, h => RHold.set h (k rfl)
  | 11, _, k, h => RHold.set h (k rfl)
  | _ + 12, _, _, _ => trivial
/-- what holds all along: the old memory; the two new variables are two. -/
structure CR (w0 : World) (s : Nat → Value) (w : World) : Prop where
  old : Below w0.heap.size w0 w
  u8 : s 8 = undef ∨ RVar w (s 8) w0.heap.size
  u9 : s 9 = undef ∨ RVar w (s 9) w0.heap.size
  two : ∀ g, s 8 = .pointer (some ⟨g, 0, none⟩) → s 9 = .pointer (some ⟨g, 0, none⟩) → False
variable {w0 : World}
theorem CR.go {s : Nat → Value} {w w' : World} (h : CR w0 s w) (hb : Below w.heap.size w w') : CR w0 s w' :=
  ⟨bt h.old hb, h.u8.imp id (·.below hb), h.u9.imp id (·.below hb), h.two⟩
theorem CR.put {s : Nat → Value} {w : World} {i : Nat} {v : Value} (h : CR w0 s w) (h8 : i ≠ 8) (h9 : i ≠ 9) : CR w0 (Go.Proofs.YtnaiahjgdakneaaGreatDoor.upd s i v) w := by
  have e8 := upd_other s v (Ne.symm h8)
  have e9 := upd_other s v (Ne.symm h9)
  exact ⟨h.old, by rw [e8]; exact h.u8, by rw [e9]; exact h.u9, by rw [e8, e9]; exact h.two⟩
theorem CR.set {s : Nat → Value} {w : World} {g : Nat} {p q : Bool} {S U : ByteArray} (h : CR w0 s w) (hv : Blk w g #[.bool p, .string S] 40) (hg : w0.heap.size ≤ g) : CR w0 s (setr w g q U) :=
  ⟨h.old.trans ((only_setr w g q U).below hg), h.u8.imp id (·.set hv), h.u9.imp id (·.set hv), h.two⟩
theorem RVar.lt {w : World} {v : Value} {B g : Nat} (h : RVar w v B) (e : v = .pointer (some ⟨g, 0, none⟩)) : g < w.heap.size := by
  obtain ⟨g', p, S, h1, _, h3⟩ := h
  rw [h1] at e
  simp at e
  subst e
  exact Blk.lt h3
theorem rvar_new {w : World} {M : Nat} (h : M ≤ w.heap.size) : RVar (w.alloc (.cells #[.bool false, .string ⟨#[]⟩] 40)) (.pointer (some ⟨w.heap.size, 0, none⟩)) M :=
  ⟨_, _, _, rfl, h, Blk.new _ _ _⟩
theorem CR.new8 {s : Nat → Value} {w : World} (h : CR w0 s w) :
    CR w0 (Go.Proofs.YtnaiahjgdakneaaGreatDoor.upd s 8 (.pointer (some ⟨w.heap.size, 0, none⟩))) (w.alloc (.cells #[.bool false, .string ⟨#[]⟩] 40)) := by
  have g := h.go (below_new w (.cells #[.bool false, .string ⟨#[]⟩] 40))
  have e8 := upd_same s 8 (.pointer (some ⟨w.heap.size, 0, none⟩))
  have e9 := upd_other s (i := 8) (j := 9) (.pointer (some ⟨w.heap.size, 0, none⟩)) (by decide)
  refine ⟨g.old, by rw [e8]; exact Or.inr (rvar_new h.old.size), by rw [e9]; exact g.u9, fun k a b => ?_⟩
  rw [e8] at a
  rw [e9] at b
  simp at a
  subst a
  rcases h.u9 with h1 | h1
  · rw [h1] at b; exact undef_ne b
  · exact absurd (h1.lt b) (by omega)
theorem CR.new9 {s : Nat → Value} {w : World} (h : CR w0 s w) :
    CR w0 (Go.Proofs.YtnaiahjgdakneaaGreatDoor.upd s 9 (.pointer (some ⟨w.heap.size, 0, none⟩))) (w.alloc (.cells #[.bool false, .string ⟨#[]⟩] 40)) := by
  have g := h.go (below_new w (.cells #[.bool false, .string ⟨#[]⟩] 40))
  have e9 := upd_same s 9 (.pointer (some ⟨w.heap.size, 0, none⟩))
  have e8 := upd_other s (i := 9) (j := 8) (.pointer (some ⟨w.heap.size, 0, none⟩)) (by decide)
  refine ⟨g.old, by rw [e8]; exact g.u8, by rw [e9]; exact Or.inr (rvar_new h.old.size), fun k a b => ?_⟩
  rw [e8] at a
  rw [e9] at b
  simp at b
  subst b
  rcases h.u8 with h1 | h1
  · rw [h1] at a; exact undef_ne a
  · exact absurd (h1.lt a) (by omega)
end Go.Proofs.YtnaiahjgdakneaaGreatDoor
