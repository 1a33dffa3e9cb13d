/- The product modulo a word, in the landed conv. -/
import Derived.Test.YtocfenjampmdlabGreatDoorDj
namespace Go.Proofs.YtocfenjampmdlabGreatDoor
open Go.RowKit Num Nmb

set_option maxHeartbeats 800000 in
theorem mayDivide_any (m : Int) (w : World) : Calls Tryz.prog 13 #[.int .u64 m] w fun e w' => e = .returned (.bool (decide (2 ≤ m ∧ m ≤ 9223372036854775807))) ∧ w' = w := by
  by_cases h1 : 2 ≤ m
  · by_cases h2 : m < 9223372036854775808
    · have e : decide (2 ≤ m ∧ m ≤ 9223372036854775807) = true := decide_eq_true (by omega)
      rw [e]
      clear e
      go_enter Tryz.func13, Tryz.ntmps13
      go_wp2
      go_ret
      exact ⟨rfl, rfl⟩
    · have e : decide (2 ≤ m ∧ m ≤ 9223372036854775807) = false := decide_eq_false (by omega)
      rw [e]
      clear e
      go_enter Tryz.func13, Tryz.ntmps13
      go_wp2
      go_ret
      exact ⟨rfl, rfl⟩
  · have e : decide (2 ≤ m ∧ m ≤ 9223372036854775807) = false := decide_eq_false (by omega)
    rw [e]
    clear e
    go_enter Tryz.func13, Tryz.ntmps13
    go_wp2
    go_ret
    exact ⟨rfl, rfl⟩
set_option maxHeartbeats 800000 in
theorem tooMany_yes (ao bo : Option Addr) (n m ca cb : Nat) (w : World) (hn : 0 < n) (hm : 0 < m) (h : 1048577 ≤ n + m) (hs : n + m ≤ 9223372036854775807) :
    Calls Tryz.prog 14 #[.slice ao n ca, .slice bo m cb] w fun e w' => e = .returned (.bool true) ∧ w' = w := by
  have w1 : IntKind.i64.wrap ((n : Int) + (m : Int)) = (n : Int) + (m : Int) := by rw [IntKind.wrap_i64]; omega
  have h1 : (0 : Int) < (n : Int) := by omega
  have h2 : (0 : Int) < (m : Int) := by omega
  have h3 : (1048576 : Int) < (n : Int) + (m : Int) := by omega
  clear hn hm h hs
  go_enter Tryz.func14, Tryz.ntmps14
  go_wp2
  go_ret
  exact ⟨rfl, rfl⟩
set_option maxHeartbeats 800000 in
theorem tooMany_no (ao bo : Option Addr) (n m ca cb : Nat) (w : World) (h : n = 0 ∨ m = 0 ∨ n + m ≤ 1048576) :
    Calls Tryz.prog 14 #[.slice ao n ca, .slice bo m cb] w fun e w' => e = .returned (.bool false) ∧ w' = w := by
  by_cases n0 : n = 0
  · subst n0
    clear h
    go_enter Tryz.func14, Tryz.ntmps14
    go_wp2
    go_ret
    exact ⟨rfl, rfl⟩
  · have h1 : (0 : Int) < (n : Int) := by omega
    by_cases m0 : m = 0
    · subst m0
      clear h
      go_enter Tryz.func14, Tryz.ntmps14
      go_wp2
      go_ret
      exact ⟨rfl, rfl⟩
    · have h2 : (0 : Int) < (m : Int) := by omega
      have w1 : IntKind.i64.wrap ((n : Int) + (m : Int)) = (n : Int) + (m : Int) := by rw [IntKind.wrap_i64]; omega
      have h3 : ¬ (1048576 : Int) < (n : Int) + (m : Int) := by omega
      clear h
      go_enter Tryz.func14, Tryz.ntmps14
      go_wp2
      go_ret
      exact ⟨rfl, rfl⟩
set_option maxHeartbeats 800000 in
theorem conv_bad (u v : Value) (n m : Nat) (a b : Nat → Int) (M : Int) (w : World) (U : Wl w u n a) (V : Wl w v m b) (hM : 0 ≤ M ∧ M ≤ 18446744073709551615) (hb : M < 2 ∨ 9223372036854775807 < M) :
    Calls Tryz.prog 6 #[u, v, .int .u64 M] w fun e w' => (∃ ao cap, e = .returned (.tuple #[.slice ao 0 cap, .int .i64 1])) ∧ Below w.heap.size w w' := by
  obtain ⟨ao, cap, rfl, -⟩ := U
  obtain ⟨bo, bap, rfl, -⟩ := V
  have MD := hid (mayDivide_any M w)
  rw [show decide (2 ≤ M ∧ M ≤ 9223372036854775807) = false from decide_eq_false (by omega)] at MD
  clear hM hb
  go_enter Tryz.func6, Tryz.ntmps6
  go_wp2_with fail
  refine MD.out.mono ?_
  rintro e w3 ⟨rfl, hw⟩
  obtain rfl := hw.symm
  clear MD
  go_wp2
  go_ret2
  exact ⟨⟨_, _, rfl⟩, Below.refl _ _⟩
set_option maxHeartbeats 800000 in
theorem conv_limit (u v : Value) (n m : Nat) (a b : Nat → Int) (M : Nat) (w : World) (U : Wl w u n a) (V : Wl w v m b) (h2 : 2 ≤ M) (h63 : M ≤ 9223372036854775807) (hn : 0 < n) (hm : 0 < m) (h : 1048577 ≤ n + m) (hs : n + m ≤ 9223372036854775807) :
    Calls Tryz.prog 6 #[u, v, .int .u64 M] w fun e w' => (∃ ao cap, e = .returned (.tuple #[.slice ao 0 cap, .int .i64 13])) ∧ Below w.heap.size w w' := by
  obtain ⟨ao, cap, rfl, -⟩ := U
  obtain ⟨bo, bap, rfl, -⟩ := V
  have MD := hid (mayDivide_any M w)
  rw [show decide (2 ≤ (M : Int) ∧ (M : Int) ≤ 9223372036854775807) = true from decide_eq_true (by omega)] at MD
  have TM := hid (tooMany_yes ao bo n m cap bap w hn hm h hs)
  clear h2 h63 hn hm h hs
  go_enter Tryz.func6, Tryz.ntmps6
  go_wp2_with fail
  refine MD.out.mono ?_
  rintro e w3 ⟨rfl, hw⟩
  obtain rfl := hw.symm
  clear MD
  go_wp2_with fail
  refine TM.out.mono ?_
  rintro e w3 ⟨rfl, hw⟩
  obtain rfl := hw.symm
  clear TM
  go_wp2
  go_ret2
  exact ⟨⟨_, _, rfl⟩, Below.refl _ _⟩
set_option maxHeartbeats 1600000 in
theorem conv_none (u v : Value) (n m : Nat) (a b : Nat → Int) (M : Nat) (w : World) (U : Wl w u n a) (V : Wl w v m b) (h2 : 2 ≤ M) (h63 : M ≤ 9223372036854775807) (h : n = 0 ∨ m = 0) :
    Calls Tryz.prog 6 #[u, v, .int .u64 M] w fun e w' => (∃ ao cap, e = .returned (.tuple #[.slice ao 0 cap, .int .i64 0]) ∧ Wl w' (.slice ao 0 cap) 0 a) ∧ Below w.heap.size w w' := by
  have PN := hid (product_none u v n m a b w U V h)
  obtain ⟨ao, cap, rfl, -⟩ := U
  obtain ⟨bo, bap, rfl, -⟩ := V
  have MD := hid (mayDivide_any M w)
  rw [show decide (2 ≤ (M : Int) ∧ (M : Int) ≤ 9223372036854775807) = true from decide_eq_true (by omega)] at MD
  have TM := hid (tooMany_no ao bo n m cap bap w (by omega))
  clear h2 h63 h
  go_enter Tryz.func6, Tryz.ntmps6
  go_wp2_with fail
  refine MD.out.mono ?_
  rintro e w3 ⟨rfl, hw⟩
  obtain rfl := hw.symm
  clear MD
  go_wp2_with fail
  refine TM.out.mono ?_
  rintro e w3 ⟨rfl, hw⟩
  obtain rfl := hw.symm
  clear TM
  go_wp2_with fail
  refine PN.out.mono ?_
  rintro e w3 ⟨rfl, hw⟩
  obtain rfl := hw.symm
  clear PN
  go_wp2_with (at_make; refine wp_make _ rfl _ _ rfl _ _ 0 rfl rfl (by omega) (by omega) (by omega) ?_; intro w1 R1 C1 Z1; have HR := hid R1; have HC := hid C1; clear R1 C1 Z1)
  go_loopw [28] (fun iv wr => iv = .int .i64 0 ∧ wr = w1) (fun _ _ => 0)
  case atStart => exact ⟨rfl, rfl⟩
  case round =>
    obtain ⟨rfl, rfl⟩ := hrel
    go_wp2
    go_ret2
    exact ⟨⟨_, _, rfl, ⟨_, _, rfl, Nat.le_refl _, by omega, fun j hj => absurd hj (by omega), fun h => absurd h (by omega)⟩⟩, HC.out⟩
set_option maxHeartbeats 3200000 in
theorem conv_yes (u v : Value) (n m : Nat) (a b : Nat → Int) (M : Nat) (w : World) (L : LayB w) (U : Wl w u n a) (V : Wl w v m b) (h2 : 2 ≤ M) (h63 : M ≤ 9223372036854775807) (hn : 0 < n) (hm : 0 < m) (h : n + m ≤ 1048576) :
    Calls Tryz.prog 6 #[u, v, .int .u64 M] w fun e w' => (∃ ao cap, e = .returned (.tuple #[.slice ao (n + m - 1 : Nat) cap, .int .i64 0]) ∧ Wl w' (.slice ao (n + m - 1) cap) (n + m - 1) (fun j => prd a b n m j % M)) ∧ Below w.heap.size w w' := by
  have PR := hid (product_any u v n m a b w L U V hn hm h)
  have AB := hid (prd_bd (fun j hj => U.val hj) (fun j hj => V.val hj) (show n ≤ 1048576 by omega) (show m ≤ 1048576 by omega))
  obtain ⟨ao, cap, rfl, -⟩ := U
  obtain ⟨bo, bap, rfl, -⟩ := V
  have MD := hid (mayDivide_any M w)
  rw [show decide (2 ≤ (M : Int) ∧ (M : Int) ≤ 9223372036854775807) = true from decide_eq_true (by omega)] at MD
  have TM := hid (tooMany_no ao bo n m cap bap w (by omega))
  have K0 : 0 < n + m - 1 := by omega
  have K20 : n + m - 1 ≤ 1048576 := by omega
  generalize prd a b n m = A at *
  generalize n + m - 1 = K at *
  clear hn hm h L
  go_enter Tryz.func6, Tryz.ntmps6
  go_wp2_with fail
  refine MD.out.mono ?_
  rintro e w3 ⟨rfl, hw⟩
  obtain rfl := hw.symm
  clear MD
  go_wp2_with fail
  refine TM.out.mono ?_
  rintro e w3 ⟨rfl, hw⟩
  obtain rfl := hw.symm
  clear TM
  go_wp2_with fail
  refine PR.out.mono ?_
  rintro e w3 ⟨⟨gs, rfl, R3⟩, B3⟩
  have HS := hid R3
  have HB := hid B3
  have gs3 := R3.lt
  clear PR R3 B3
  go_wp2_with (at_make; refine wp_make _ rfl _ _ rfl _ _ K rfl rfl (by omega) (by omega) (by omega) ?_; intro w4 R4 C4 Z4; have HR := hid R4; have HC := hid C4; clear R4 C4 Z4)
  go_loopw [28] (fun iv wr => ∃ (i : Nat), iv = .int .i64 i ∧ i ≤ K ∧ Hid (Row wr w3.heap.size K (fun j => if j < i then A j % M else 0)) ∧ Hid (Below w3.heap.size w3 wr)) (fun iv _ => ((K : Int) - intOf iv).toNat)
  case atStart => exact ⟨0, rfl, Nat.zero_le _, HR.out.eq (fun j _ => by rw [if_neg (by omega)]), HC.out⟩
  case round =>
    clear HR HC
    obtain ⟨i, rfl, hi, HR, HC⟩ := hrel
    by_cases him : i = K
    · have him' : ¬ (i : Int) < (K : Int) := by omega
      subst him
      have BF := hid (HB.out.trans (HC.out.mono HB.out.size))
      have RF := hid ((HR.out.eq (y := fun j => A j % M) (fun j hj => by rw [if_pos hj])).wl (fun j hj => ⟨Int.emod_nonneg _ (by omega), by have := Int.emod_lt_of_pos (A j) (show 0 < (M : Int) by omega); omega⟩) (by omega))
      clear HS HB HR HC AB
      go_wp2
      go_ret2
      exact ⟨⟨_, _, rfl, RF.out⟩, BF.out⟩
    · have him' : (i : Int) < (K : Int) := by omega
      have hi' : i < K := by omega
      have rs := HS.out.below HC.out gs3
      have c0 := rs.cell (i := i * 3) (by omega)
      have c1 := rs.cell (i := i * 3 + 1) (by omega)
      have c2 := rs.cell (i := i * 3 + 2) (by omega)
      unfold pw at c0 c1 c2
      rw [if_pos (by omega), show i * 3 / 3 = i by omega, show i * 3 % 3 = 0 by omega] at c0
      rw [if_pos (by omega), show (i * 3 + 1) / 3 = i by omega, show (i * 3 + 1) % 3 = 1 by omega] at c1
      rw [if_pos (by omega), show (i * 3 + 2) / 3 = i by omega, show (i * 3 + 2) % 3 = 2 by omega] at c2
      have ab := AB.out i
      have LE : Hid (∀ W, Calls Tryz.prog 16 #[.agg #[.int .u64 (dgt (A i) 0), .int .u64 (dgt (A i) 1), .int .u64 (dgt (A i) 2)], .int .u64 M] W fun e w' => e = .returned (.int .u64 (A i % M)) ∧ Below W.heap.size W w') := fun W => wleft_dgt (A i) M W ab.1 (by omega) (by omega)
      have NX : Hid (∀ W, Below wr.heap.size wr W → Row (W.setCell ⟨w3.heap.size, i, none⟩ (.int .u64 (A i % M))) w3.heap.size K (fun j => if j < i + 1 then A j % M else 0) ∧ Below w3.heap.size w3 (W.setCell ⟨w3.heap.size, i, none⟩ (.int .u64 (A i % M))) ∧ W.frozen? ⟨w3.heap.size, i, none⟩ = false ∧ ∃ v, W.cell? ⟨w3.heap.size, i, none⟩ = some v) := fun W B => by
        have r := HR.out.below B HR.out.lt
        refine ⟨r.set i _ (fun j hj => ?_), below_set (HC.out.trans (B.mono (Nat.le_of_lt HR.out.lt))) (Nat.le_refl _) _ _, r.frozen i, _, r.cell hi'⟩
        by_cases e : j = i
        · rw [if_pos (by omega), if_pos e, e]
        · rw [if_neg e]
          by_cases e2 : j < i
          · rw [if_pos e2, if_pos (by omega)]
          · rw [if_neg e2, if_neg (by omega)]
      clear rs ab HS HB HR HC AB
      generalize A i % (M : Int) = r at *
      generalize dgt (A i) = Y at *
      go_wp2_with fail
      refine (LE.out _).mono ?_
      rintro e w5 ⟨rfl, B5⟩
      obtain ⟨n1, n2, fz, vv, cz⟩ := NX.out w5 ((below_new' wr _).trans (B5.mono (by simp)))
      have N1 := hid n1
      have N2 := hid n2
      clear n1 n2 NX LE c0 c1 c2 B5
      go_wp2
      exact ⟨⟨i + 1, rfl, by omega, N1, N2⟩, by simp only [intOf]; omega⟩
end Go.Proofs.YtocfenjampmdlabGreatDoor
