/- What the law BigintGcds calls: numbers as the program and as the reference have them, and bigint's Gcd. -/
/- Whole numbers: division by 0, exact quotients, what is left of a word. -/
import Derived.Test.YtocfenjampmdlaaGreatDoorBRefn
import Derived.Test.YtocfenjampmdlaaGreatDoorBGcf
import Derived.Test.YtocfenjampmdlaaGreatDoorBRgc
import Derived.Test.YtocfenjampmdlaaGreatDoorBIntn
namespace Go.Proofs.YtocfenjampmdlaaGreatDoor.B
open Go.RowKit NumB
open Go.Lib (decDigits)

theorem Blk.two {w : World} {g : Nat} {a b : Value} {t : TypeId} (h : Blk w g #[a, b] t) :
    w.cell? ⟨g, 0, none⟩ = some a ∧ w.cell? ⟨g, 1, none⟩ = some b ∧ w.frozen? ⟨g, 0, none⟩ = false ∧ w.frozen? ⟨g, 1, none⟩ = false ∧ g < w.heap.size := by
  have hl := Blk.lt h
  unfold Blk at h
  refine ⟨?_, ?_, ?_, ?_, hl⟩
  · simp only [World.cell?, h]; rfl
  · simp only [World.cell?, h]; rfl
  · simp only [World.frozen?, h]; rfl
  · simp only [World.frozen?, h]; rfl
theorem Blk.set2 {w : World} {g : Nat} {a b a' b' : Value} {t : TypeId} (h : Blk w g #[a, b] t) : Blk ((w.setCell ⟨g, 0, none⟩ a').setCell ⟨g, 1, none⟩ b') g #[a', b'] t := by
  unfold Blk at *
  have e1 := heap_setCell_same w g 0 _ _ a' h
  rw [heap_setCell_same _ g 1 _ _ b' e1]
  rfl
theorem Blk.go2 {w w' : World} {g : Nat} {cs : Array Value} {t : TypeId} (h : Blk w g cs t) (b : Below w.heap.size w w') : Blk w' g cs t := h.below b (Blk.lt h)
theorem Nz.numAbs {w : World} {p : Bool} {ao : Option Addr} {k c n : Nat} {A : Int} (h : It w (.agg #[.bool p, .slice ao k c]) n A) : Nz w (.slice ao k c) k A.natAbs ∧ k ≤ n := by
  obtain ⟨neg, ao', k', cap, a, e, h1, h2, rfl, _, h5⟩ := h
  simp at e
  obtain ⟨rfl, rfl, rfl, rfl⟩ := e
  have ea : ((sg p a).natAbs : Int) = a := by cases p <;> simp [sg] <;> omega
  rw [ea]
  exact ⟨h1, h2⟩
end Go.Proofs.YtocfenjampmdlaaGreatDoor.B
namespace Go.Proofs.YtocfenjampmdlaaGreatDoor.B
open Go.RowKit NumB

theorem sgn_nz {R : Int} (h : R ≠ 0) : ¬ sgn R = 0 := by
  unfold sgn
  by_cases h1 : R < 0
  · rw [if_pos h1]; decide
  · rw [if_neg h1, if_neg h]; decide
theorem it_zero (w : World) : It w (.agg #[.bool false, .slice none 0 0]) 0 0 := by
  exact ⟨false, none, 0, 0, 0, rfl, nil_nz w, Nat.le_refl _, rfl, (fun h => by cases h), Int.le_refl _⟩
set_option maxHeartbeats 1600000 in
theorem Mod_zero (vx : Value) (n : Nat) (A : Int) (w : World) (hx : It w vx n A) :
    Calls Tryz.prog 28 #[vx, .int .u64 0] w fun e w' => e = .returned (.tuple #[.int .u64 0, .int .i64 10]) ∧ Below w.heap.size w w' := by
  obtain ⟨p, ao, k, c, rfl⟩ := hx.shape
  clear hx
  go_enter Tryz.func28, Tryz.ntmps28
  cases p
  · go_wp2_with fail
    refine (divWord_zero _ _).mono ?_
    rintro e w1 ⟨rfl, rfl⟩
    go_wp2
    go_ret2
    exact ⟨rfl, below_new w _⟩
  · go_wp2_with fail
    refine (divWord_zero _ _).mono ?_
    rintro e w1 ⟨rfl, rfl⟩
    go_wp2
    go_ret2
    exact ⟨rfl, below_new w _⟩
/-- what is left of A, from 0 on, divided by f. -/
def ModIs (A f r : Int) : Prop := 0 ≤ r ∧ r < f ∧ ∃ q, q * f + r = A
set_option maxHeartbeats 1600000 in
theorem Mod_any (vx : Value) (n : Nat) (A f : Int) (w : World) (hx : It w vx n A) (hn : n ≤ 1000) (hf0 : 0 < f) (hf1 : f ≤ 18446744073709551615) :
    Calls Tryz.prog 28 #[vx, .int .u64 f] w fun e w' => (∃ r, e = .returned (.tuple #[.int .u64 r, .int .i64 0]) ∧ ModIs A f r) ∧ Below w.heap.size w w' := by
  obtain ⟨neg, ao, k, cap, a, rfl, hz, hk, rfl, hne, h0⟩ := hx
  have t0 := below_new w (.cells #[.bool neg, .slice ao k cap] 39)
  have H := hid (divWord_any _ k a f _ (hz.nt.below t0) (by omega) hf0 hf1)
  have V0 := hid (var_mk w neg ao k cap)
  have T0 := hid t0
  clear hz hne t0
  go_enter Tryz.func28, Tryz.ntmps28
  go_wp2_with fail
  generalize w.alloc (.cells #[.bool neg, .slice ao k cap] 39) = wa at *
  refine H.out.mono ?_
  rintro e w1 ⟨v', k1, q, r, rfl, _, e1, r0, r1, _, C1⟩
  have T1 := hid (bt T0.out C1)
  obtain ⟨x0, x1, x2, x3, x4⟩ := Var.facts (V0.out.go C1)
  have E1 := hid e1
  clear C1 H V0 T0 e1
  cases neg
  · go_wp2
    go_ret2
    exact ⟨⟨r, rfl, r0, r1, q, E1.out⟩, T1.out⟩
  · by_cases hr : r = 0
    · subst hr
      go_wp2
      go_ret2
      exact ⟨⟨0, rfl, r0, r1, -q, by rw [Int.neg_mul]; have := E1.out; simp [sg]; omega⟩, T1.out⟩
    · have hr' : (r == 0) = false := by simpa using hr
      have hw : IntKind.u64.wrap (f - r) = f - r := by rw [IntKind.wrap_u64]; omega
      go_wp2
      go_ret2
      exact ⟨⟨f - r, rfl, by omega, by omega, -q - 1, by rw [Int.sub_mul, Int.neg_mul]; have := E1.out; simp [sg]; omega⟩, T1.out⟩
end Go.Proofs.YtocfenjampmdlaaGreatDoor.B
