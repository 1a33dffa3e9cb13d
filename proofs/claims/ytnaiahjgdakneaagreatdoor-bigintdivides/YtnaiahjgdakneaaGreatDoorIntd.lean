/- Whole numbers: quotients, towards 0 and downwards, and what is left. -/
import Derived.Test.YtnaiahjgdakneaaGreatDoorInts
import Derived.Test.YtnaiahjgdakneaaGreatDoorLong
namespace Go.Proofs.YtnaiahjgdakneaaGreatDoor
open Go.RowKit Num

/-- what a quotient towards 0 is. -/
def QuoIs (A B Q R : Int) : Prop := Q * B + R = A ∧ R.natAbs < B.natAbs ∧ (R = 0 ∨ (R < 0 ↔ A < 0))
/-- what a quotient downwards is. -/
def DivIs (A B Q R : Int) : Prop := Q * B + R = A ∧ R.natAbs < B.natAbs ∧ (R = 0 ∨ (R < 0 ↔ B < 0))
theorem quo_is (p p' : Bool) (a b q r : Int) (ha : 0 ≤ a) (hb : 0 < b) (h : q * b + r = a) (h0 : 0 ≤ r) (h1 : r < b) (hq : 0 ≤ q) (hp : p = true → a ≠ 0) : QuoIs (sg p a) (sg p' b) (sg (p != p') q) (sg p r) := by
  have hqb : 0 ≤ q * b := Int.mul_nonneg hq (by omega)
  refine ⟨?_, ?_, ?_⟩
  · rw [sg_mul]
    have : ((p != p') != p') = p := by cases p <;> cases p' <;> rfl
    rw [this]
    cases p <;> simp [sg] <;> omega
  · cases p <;> cases p' <;> simp [sg] <;> omega
  · by_cases hr : r = 0
    · left; rw [hr]; cases p <;> rfl
    · right
      cases p
      · simp [sg]; omega
      · have := hp rfl; simp [sg]; omega
theorem div_same {A B Q R : Int} (h : QuoIs A B Q R) (hs : R = 0 ∨ (R < 0 ↔ B < 0)) : DivIs A B Q R := ⟨h.1, h.2.1, hs⟩
theorem div_turn {A B Q R : Int} (h : QuoIs A B Q R) (hr : R ≠ 0) (hs : ¬ (R < 0 ↔ B < 0)) : DivIs A B (Q - 1) (R + B) := by
  obtain ⟨h1, h2, _⟩ := h
  refine ⟨?_, ?_, ?_⟩
  · rw [Int.sub_mul]; omega
  · omega
  · right; omega
theorem undrew {B : Nat} {a w : World} (h : Below B a.drew w) : Below B a w := ⟨h.os, h.tape, h.output, h.size, h.block⟩
theorem Nz.pos {w : World} {v : Value} {k : Nat} {a : Int} (h : Nz w v k a) : 0 ≤ a := h.nt.nonneg


theorem entry22 (w : World) (neg : Bool) (ao : Option Addr) (k cap : Nat) (neg' : Bool) (ao' : Option Addr) (k' cap' : Nat) :
    Var ((((w.alloc (.cells #[.bool neg, .slice ao k cap] 30)).alloc (.cells #[.bool neg', .slice ao' k' cap'] 30)).alloc (.cells #[.bool false, .slice none 0 0] 30)).alloc (.cells #[.bool false, .slice none 0 0] 30)) w.heap.size neg ao k cap ∧ Var ((((w.alloc (.cells #[.bool neg, .slice ao k cap] 30)).alloc (.cells #[.bool neg', .slice ao' k' cap'] 30)).alloc (.cells #[.bool false, .slice none 0 0] 30)).alloc (.cells #[.bool false, .slice none 0 0] 30)) (w.heap.size + 1) neg' ao' k' cap' ∧ Var ((((w.alloc (.cells #[.bool neg, .slice ao k cap] 30)).alloc (.cells #[.bool neg', .slice ao' k' cap'] 30)).alloc (.cells #[.bool false, .slice none 0 0] 30)).alloc (.cells #[.bool false, .slice none 0 0] 30)) (w.heap.size + 2) false none 0 0 ∧ Var ((((w.alloc (.cells #[.bool neg, .slice ao k cap] 30)).alloc (.cells #[.bool neg', .slice ao' k' cap'] 30)).alloc (.cells #[.bool false, .slice none 0 0] 30)).alloc (.cells #[.bool false, .slice none 0 0] 30)) (w.heap.size + 3) false none 0 0 ∧ Below w.heap.size w ((((w.alloc (.cells #[.bool neg, .slice ao k cap] 30)).alloc (.cells #[.bool neg', .slice ao' k' cap'] 30)).alloc (.cells #[.bool false, .slice none 0 0] 30)).alloc (.cells #[.bool false, .slice none 0 0] 30)) := by
  obtain ⟨h1, h2, h3, h4⟩ := entry2 w neg ao k cap neg' ao' k' cap'
  exact ⟨h1.alloc _, h2.alloc _, h3.alloc _, by simpa using var_mk (((w.alloc (.cells #[.bool neg, .slice ao k cap] 30)).alloc (.cells #[.bool neg', .slice ao' k' cap'] 30)).alloc (.cells #[.bool false, .slice none 0 0] 30)) false none 0 0, bt h4 (below_new _ _)⟩

set_option maxHeartbeats 1600000 in
theorem QuoRem_any (vx vy : Value) (n m : Nat) (A B : Int) (w : World) (hx : It w vx n A) (hy : It w vy m B) (hn : n ≤ 100000) (hm : m ≤ 100000) (hB : B ≠ 0) :
    Calls Tryz.prog 8 #[vx, vy] w fun e w' => ∃ v1 v2 Q R, e = .returned (.tuple #[v1, v2, .int .i64 0]) ∧ It w' v1 n Q ∧ It w' v2 (max n m) R ∧ QuoIs A B Q R ∧ Below w.heap.size w w' := by
  obtain ⟨neg, ao, k, cap, a, rfl, hz, hk, rfl, hne, h0⟩ := hx
  obtain ⟨neg', ao', k', cap', b, rfl, hz', hk', rfl, hne', h0'⟩ := hy
  have hb : 0 < b := by
    rcases Int.lt_or_eq_of_le h0' with h | h
    · exact h
    · exact absurd (by rw [← h]; cases neg' <;> rfl) hB
  obtain ⟨v0, w0, r0, q0, t0⟩ := entry22 w neg ao k cap neg' ao' k' cap'
  have H := hid (divMod_any _ _ k k' a b _ (hz.nt.below t0) (hz'.nt.below t0) (by omega) (by omega) hb (fun _ => long_said))
  have HN := hid hne
  have V0 := hid v0
  have W0 := hid w0
  have R0 := hid r0
  have Q0 := hid q0
  have T0 := hid t0
  clear hz hz' hne hne' hB v0 w0 r0 q0 t0
  go_enter Tryz.func8, Tryz.ntmps8
  go_wp2_with fail
  generalize (((w.alloc (.cells #[.bool neg, .slice ao k cap] 30)).alloc (.cells #[.bool neg', .slice ao' k' cap'] 30)).alloc (.cells #[.bool false, .slice none 0 0] 30)).alloc (.cells #[.bool false, .slice none 0 0] 30) = wa at *
  refine H.out.mono ?_
  rintro e w1 ⟨v1, v2, k1, k2, q, r, rfl, s1, s2, e1, r0, r1, l1, l2, C1⟩
  have hq0 := s1.pos
  have HQ := hid (quo_is neg neg' a b q r h0 hb e1 r0 r1 hq0 HN.out)
  have S1 := hid s1; clear s1
  have S2 := hid s2; clear s2
  clear e1 H HN
  obtain ⟨x0, x1, x2, x3, x4⟩ := Var.facts (V0.out.go C1)
  obtain ⟨y0, y1, y2, y3, y4⟩ := Var.facts (W0.out.go C1)
  go_wp2_with fail
  go_region_with (first
    | (go_at_call_of 26 v1; go_must (refine (signed_any _ _ _ _ _ (S1.out.below (Below.refl _ _).drew)).mono ?_; rintro e w2 ⟨v3, rfl, I, C2⟩; obtain ⟨p8, ao8, k8, cap8, rfl⟩ := I.shape; have I8 := hid I; clear I; have T2 := bt C1.drew C2; have S3 := hid (S2.out.below (undrew C2)); obtain ⟨x0, x1, x2, x3, x4⟩ := Var.facts (V0.out.go T2); obtain ⟨y0, y1, y2, y3, y4⟩ := Var.facts (W0.out.go T2)))
    | (go_at_call_of 26 v2; go_must (refine (signed_any _ _ _ _ _ S3.out).mono ?_; rintro e w3 ⟨v4, rfl, I, C3⟩; obtain ⟨p9, ao9, k9, cap9, rfl⟩ := I.shape; have I9 := hid I; clear I; have T3 := bt T2 C3; have R3 := hid (R0.out.go T3); have Q3 := hid (Q0.out.go T3); obtain ⟨c0, c1, f0, f1, g0⟩ := Var.facts R3.out; obtain ⟨d0, d1, e0, e1, g1⟩ := Var.facts Q3.out)))
  all_goals
    have O1 := only_two (w.heap.size + 2) w3 (.bool p8) (.slice ao8 k8 cap8)
    have Q4 := Q3.out.at O1 (by omega)
    have R4 := Var.set (q := p8) (bo := ao8) (m := k8) (d := cap8) R3.out
    have J8 := hid ((I8.out.below C3).off R3.out O1)
    have J9 := hid (I9.out.off R3.out O1)
    go_wp2
    generalize (w3.setCell ⟨w.heap.size + 2, 0, none⟩ (.bool p8)).setCell ⟨w.heap.size + 2, 1, none⟩ (.slice ao8 k8 cap8) = w4 at *
    have O2 := only_two (w.heap.size + 3) w4 (.bool p9) (.slice ao9 k9 cap9)
    refine bodyPost_ret (ret_var3 (R4.at O2 (by omega)) (Var.set Q4) rfl rfl rfl rfl) rfl ?_
    exact ⟨_, _, _, _, rfl, (J8.out.off Q4 O2).mono (by omega), (J9.out.off Q4 O2).mono (by omega), HQ.out, ((bt T0.out T3).trans (O1.below (by omega))).trans (O2.below (by omega))⟩
end Go.Proofs.YtnaiahjgdakneaaGreatDoor
