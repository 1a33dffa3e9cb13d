/- Whole numbers: quotients, towards 0 and downwards, and what is left. -/
/- Whole numbers: quotients downwards. -/
/- Whole numbers: division by 0, exact quotients, what is left of a word. -/
import Derived.Test.YtocfenjampmdlaaGreatDoorBBld
import Derived.Test.YtocfenjampmdlaaGreatDoorBRefb
import Derived.Deep.Cut
import Derived.Deep.QuietTactic
import Derived.BigQuiet
import Derived.BigRegion
import Derived.Test.YtocfenjampmdlaaGreatDoorBBgc
namespace Go.Proofs.YtocfenjampmdlaaGreatDoor.B
open Go.RowKit NumB

/-- what a quotient towards 0 is. -/
def QuoIs (A B Q R : Int) : Prop := Q * B + R = A ∧ R.natAbs < B.natAbs ∧ (R = 0 ∨ (R < 0 ↔ A < 0))
/-- what a quotient downwards is. -/
def DivIs (A B Q R : Int) : Prop := Q * B + R = A ∧ R.natAbs < B.natAbs ∧ (R = 0 ∨ (R < 0 ↔ B < 0))
theorem quo_is (p p' : Bool) (a b q r : Int) (ha : 0 ≤ a) (hb : 0 < b) (h : q * b + r = a) (h0 : 0 ≤ r) (h1 : r < b) (hq : 0 ≤ q) (hp : p = true → a ≠ 0) : QuoIs (sg p a) (sg p' b) (sg (p != p') q) (sg p r) := by
  have hqb : 0 ≤ q * b := Int.mul_nonneg hq (by omega)
  refine ⟨?_, ?_, ?_⟩
  · rw [sg_mul]
    have : ((p != p') != p') = p := by cases p <;> cases p' <;> rfl
    rw [this]
    cases p <;> simp [sg] <;> omega
  · cases p <;> cases p' <;> simp [sg] <;> omega
  · by_cases hr : r = 0
    · left; rw [hr]; cases p <;> rfl
    · right
      cases p
      · simp [sg]; omega
      · have := hp rfl; simp [sg]; omega
theorem div_same {A B Q R : Int} (h : QuoIs A B Q R) (hs : R = 0 ∨ (R < 0 ↔ B < 0)) : DivIs A B Q R := ⟨h.1, h.2.1, hs⟩
theorem div_turn {A B Q R : Int} (h : QuoIs A B Q R) (hr : R ≠ 0) (hs : ¬ (R < 0 ↔ B < 0)) : DivIs A B (Q - 1) (R + B) := by
  obtain ⟨h1, h2, _⟩ := h
  refine ⟨?_, ?_, ?_⟩
  · rw [Int.sub_mul]; omega
  · omega
  · right; omega
theorem undrew {B : Nat} {a w : World} (h : Below B a.drew w) : Below B a w := ⟨h.os, h.tape, h.output, h.size, h.block⟩
theorem Nz.pos {w : World} {v : Value} {k : Nat} {a : Int} (h : Nz w v k a) : 0 ≤ a := h.nt.nonneg


theorem entry22 (w : World) (neg : Bool) (ao : Option Addr) (k cap : Nat) (neg' : Bool) (ao' : Option Addr) (k' cap' : Nat) :
    Var ((((w.alloc (.cells #[.bool neg, .slice ao k cap] 39)).alloc (.cells #[.bool neg', .slice ao' k' cap'] 39)).alloc (.cells #[.bool false, .slice none 0 0] 39)).alloc (.cells #[.bool false, .slice none 0 0] 39)) w.heap.size neg ao k cap ∧ Var ((((w.alloc (.cells #[.bool neg, .slice ao k cap] 39)).alloc (.cells #[.bool neg', .slice ao' k' cap'] 39)).alloc (.cells #[.bool false, .slice none 0 0] 39)).alloc (.cells #[.bool false, .slice none 0 0] 39)) (w.heap.size + 1) neg' ao' k' cap' ∧ Var ((((w.alloc (.cells #[.bool neg, .slice ao k cap] 39)).alloc (.cells #[.bool neg', .slice ao' k' cap'] 39)).alloc (.cells #[.bool false, .slice none 0 0] 39)).alloc (.cells #[.bool false, .slice none 0 0] 39)) (w.heap.size + 2) false none 0 0 ∧ Var ((((w.alloc (.cells #[.bool neg, .slice ao k cap] 39)).alloc (.cells #[.bool neg', .slice ao' k' cap'] 39)).alloc (.cells #[.bool false, .slice none 0 0] 39)).alloc (.cells #[.bool false, .slice none 0 0] 39)) (w.heap.size + 3) false none 0 0 ∧ Below w.heap.size w ((((w.alloc (.cells #[.bool neg, .slice ao k cap] 39)).alloc (.cells #[.bool neg', .slice ao' k' cap'] 39)).alloc (.cells #[.bool false, .slice none 0 0] 39)).alloc (.cells #[.bool false, .slice none 0 0] 39)) := by
  obtain ⟨h1, h2, h3, h4⟩ := entry2 w neg ao k cap neg' ao' k' cap'
  exact ⟨h1.alloc _, h2.alloc _, h3.alloc _, by simpa using var_mk (((w.alloc (.cells #[.bool neg, .slice ao k cap] 39)).alloc (.cells #[.bool neg', .slice ao' k' cap'] 39)).alloc (.cells #[.bool false, .slice none 0 0] 39)) false none 0 0, bt h4 (below_new _ _)⟩

end Go.Proofs.YtocfenjampmdlaaGreatDoor.B
namespace Go.Proofs.YtocfenjampmdlaaGreatDoor.B
open Go.RowKit NumB

theorem sgn_ne {R : Int} (h : R ≠ 0) : (sgn R != 0) = true := by
  unfold sgn
  by_cases h1 : R < 0
  · rw [if_pos h1]; rfl
  · rw [if_neg h1, if_neg h]; rfl
theorem It.sign {w : World} {p : Bool} {ao : Option Addr} {k cap n : Nat} {A : Int} (h : It w (.agg #[.bool p, .slice ao k cap]) n A) : p = decide (A < 0) := by
  obtain ⟨neg, ao', k', cap', a, e, h1, h2, rfl, h4, h5⟩ := h
  simp only [Value.agg.injEq, Array.mk.injEq, List.cons.injEq, Value.bool.injEq] at e
  obtain ⟨rfl, -⟩ := e
  cases p
  · simp [sg]; omega
  · have := h4 rfl; simp [sg]; omega
theorem Var.drew {w : World} {g : Nat} {p : Bool} {ao : Option Addr} {n c : Nat} (h : Var w g p ao n c) : Var w.drew g p ao n c := h
theorem pair (w : World) (p : Bool) (ao : Option Addr) (n c : Nat) (q : Bool) (bo : Option Addr) (m d : Nat) :
    Var ((w.alloc (.cells #[.bool p, .slice ao n c] 39)).alloc (.cells #[.bool q, .slice bo m d] 39)) w.heap.size p ao n c ∧
    Var ((w.alloc (.cells #[.bool p, .slice ao n c] 39)).alloc (.cells #[.bool q, .slice bo m d] 39)) (w.heap.size + 1) q bo m d ∧
    Below w.heap.size w ((w.alloc (.cells #[.bool p, .slice ao n c] 39)).alloc (.cells #[.bool q, .slice bo m d] 39)) :=
  ⟨(var_mk w p ao n c).alloc _, by simpa using var_mk (w.alloc (.cells #[.bool p, .slice ao n c] 39)) q bo m d, bt (below_new w _) (below_new _ _)⟩
/-- what the two variables hold ahead of the return. -/
def DM (w : World) (gq gl n m : Nat) (Q R : Int) (w' : World) : Prop :=
  ∃ p1 ao1 k1 c1 p2 ao2 k2 c2, Var w' gq p1 ao1 k1 c1 ∧ Var w' gl p2 ao2 k2 c2 ∧ Var w' (w.heap.size + 2) false none 0 0 ∧ Var w' (w.heap.size + 3) false none 0 0 ∧
    It w' (.agg #[.bool p1, .slice ao1 k1 c1]) (n + 2) Q ∧ It w' (.agg #[.bool p2, .slice ao2 k2 c2]) (max n m + 1) R ∧ Below w.heap.size w w'
end Go.Proofs.YtocfenjampmdlaaGreatDoor.B
namespace Go.Proofs.YtocfenjampmdlaaGreatDoor.B
open Go.RowKit NumB

theorem sgn_nz {R : Int} (h : R ≠ 0) : ¬ sgn R = 0 := by
  unfold sgn
  by_cases h1 : R < 0
  · rw [if_pos h1]; decide
  · rw [if_neg h1, if_neg h]; decide
theorem it_zero (w : World) : It w (.agg #[.bool false, .slice none 0 0]) 0 0 := by
  exact ⟨false, none, 0, 0, 0, rfl, nil_nz w, Nat.le_refl _, rfl, (fun h => by cases h), Int.le_refl _⟩
set_option maxHeartbeats 1600000 in
theorem Mod_zero (vx : Value) (n : Nat) (A : Int) (w : World) (hx : It w vx n A) :
    Calls Tryz.prog 28 #[vx, .int .u64 0] w fun e w' => e = .returned (.tuple #[.int .u64 0, .int .i64 10]) ∧ Below w.heap.size w w' := by
  obtain ⟨p, ao, k, c, rfl⟩ := hx.shape
  clear hx
  go_enter Tryz.func28, Tryz.ntmps28
  cases p
  · go_wp2_with fail
    refine (divWord_zero _ _).mono ?_
    rintro e w1 ⟨rfl, rfl⟩
    go_wp2
    go_ret2
    exact ⟨rfl, below_new w _⟩
  · go_wp2_with fail
    refine (divWord_zero _ _).mono ?_
    rintro e w1 ⟨rfl, rfl⟩
    go_wp2
    go_ret2
    exact ⟨rfl, below_new w _⟩
/-- what is left of A, from 0 on, divided by f. -/
def ModIs (A f r : Int) : Prop := 0 ≤ r ∧ r < f ∧ ∃ q, q * f + r = A
set_option maxHeartbeats 1600000 in
theorem Mod_any (vx : Value) (n : Nat) (A f : Int) (w : World) (hx : It w vx n A) (hn : n ≤ 1000) (hf0 : 0 < f) (hf1 : f ≤ 18446744073709551615) :
    Calls Tryz.prog 28 #[vx, .int .u64 f] w fun e w' => (∃ r, e = .returned (.tuple #[.int .u64 r, .int .i64 0]) ∧ ModIs A f r) ∧ Below w.heap.size w w' := by
  obtain ⟨neg, ao, k, cap, a, rfl, hz, hk, rfl, hne, h0⟩ := hx
  have t0 := below_new w (.cells #[.bool neg, .slice ao k cap] 39)
  have H := hid (divWord_any _ k a f _ (hz.nt.below t0) (by omega) hf0 hf1)
  have V0 := hid (var_mk w neg ao k cap)
  have T0 := hid t0
  clear hz hne t0
  go_enter Tryz.func28, Tryz.ntmps28
  go_wp2_with fail
  generalize w.alloc (.cells #[.bool neg, .slice ao k cap] 39) = wa at *
  refine H.out.mono ?_
  rintro e w1 ⟨v', k1, q, r, rfl, _, e1, r0, r1, _, C1⟩
  have T1 := hid (bt T0.out C1)
  obtain ⟨x0, x1, x2, x3, x4⟩ := Var.facts (V0.out.go C1)
  have E1 := hid e1
  clear C1 H V0 T0 e1
  cases neg
  · go_wp2
    go_ret2
    exact ⟨⟨r, rfl, r0, r1, q, E1.out⟩, T1.out⟩
  · by_cases hr : r = 0
    · subst hr
      go_wp2
      go_ret2
      exact ⟨⟨0, rfl, r0, r1, -q, by rw [Int.neg_mul]; have := E1.out; simp [sg]; omega⟩, T1.out⟩
    · have hr' : (r == 0) = false := by simpa using hr
      have hw : IntKind.u64.wrap (f - r) = f - r := by rw [IntKind.wrap_u64]; omega
      go_wp2
      go_ret2
      exact ⟨⟨f - r, rfl, by omega, by omega, -q - 1, by rw [Int.sub_mul, Int.neg_mul]; have := E1.out; simp [sg]; omega⟩, T1.out⟩
end Go.Proofs.YtocfenjampmdlaaGreatDoor.B
