/- A region 'q, r, e := x.M(y)' with structs as results, in any order: what each operation leaves behind. -/
import Derived.Test.YtnaiahjgdakneaaGreatDoorInts
import Derived.Test.YtnaiahjgdakneaaGreatDoorReg
namespace Go.Proofs.YtnaiahjgdakneaaGreatDoor
open Go.RowKit Num

/-- v points to a variable of a whole number, at or above the mark. -/
def VarP (w : World) (v : Value) (B : Nat) : Prop := ∃ g p ao k c, v = .pointer (some ⟨g, 0, none⟩) ∧ B ≤ g ∧ Var w g p ao k c
/-- and it holds A. -/
def HoldP (w : World) (v : Value) (n : Nat) (A : Int) : Prop := ∃ g p ao k c, v = .pointer (some ⟨g, 0, none⟩) ∧ Var w g p ao k c ∧ It w (.agg #[.bool p, .slice ao k c]) n A
def Pair3 (w : World) (v : Value) (n : Nat) (A B : Int) : Prop := ∃ v1 v2, v = .tuple #[v1, v2, .int .i64 0] ∧ It w v1 n A ∧ It w v2 n B
theorem VarP.below {w w' : World} {v : Value} {B : Nat} (h : VarP w v B) (hb : Below w.heap.size w w') : VarP w' v B := by
  obtain ⟨g, p, ao, k, c, h1, h2, h3⟩ := h
  exact ⟨g, p, ao, k, c, h1, h2, h3.go hb⟩
theorem HoldP.below {w w' : World} {v : Value} {n : Nat} {A : Int} (h : HoldP w v n A) (hb : Below w.heap.size w w') : HoldP w' v n A := by
  obtain ⟨g, p, ao, k, c, h1, h2, h3⟩ := h
  exact ⟨g, p, ao, k, c, h1, h2.go hb, h3.below hb⟩
theorem Pair3.below {w w' : World} {v : Value} {n : Nat} {A B : Int} (h : Pair3 w v n A B) (hb : Below w.heap.size w w') : Pair3 w' v n A B := by
  obtain ⟨v1, v2, h1, h2, h3⟩ := h
  exact ⟨v1, v2, h1, h2.below hb, h3.below hb⟩
/-- two stores into a variable. -/
def set2 (w : World) (g : Nat) (p : Bool) (ao : Option Addr) (k c : Nat) : World := (w.setCell ⟨g, 0, none⟩ (.bool p)).setCell ⟨g, 1, none⟩ (.slice ao k c)
theorem only_set2 (w : World) (g : Nat) (p : Bool) (ao : Option Addr) (k c : Nat) : Only g w (set2 w g p ao k c) := only_two g w _ _
theorem VarP.set {w : World} {v : Value} {B g : Nat} {p q : Bool} {ao bo : Option Addr} {k c m d : Nat} (h : VarP w v B) (hv : Var w g p ao k c) : VarP (set2 w g q bo m d) v B := by
  obtain ⟨g', p', ao', k', c', h1, h2, h3⟩ := h
  by_cases e : g' = g
  · subst e
    exact ⟨g', q, bo, m, d, h1, h2, hv.set⟩
  · exact ⟨g', p', ao', k', c', h1, h2, h3.at (only_set2 w g q bo m d) e⟩
theorem HoldP.set {w : World} {v : Value} {n g : Nat} {A : Int} {p q : Bool} {ao bo : Option Addr} {k c m d : Nat} (h : HoldP w v n A) (hv : Var w g p ao k c) (hne : v ≠ .pointer (some ⟨g, 0, none⟩)) : HoldP (set2 w g q bo m d) v n A := by
  obtain ⟨g', p', ao', k', c', h1, h2, h3⟩ := h
  have e : g' ≠ g := by rintro rfl; exact hne h1
  exact ⟨g', p', ao', k', c', h1, h2.at (only_set2 w g q bo m d) e, h3.off hv (only_set2 w g q bo m d)⟩
theorem Pair3.set {w : World} {v : Value} {n g : Nat} {A B : Int} {p q : Bool} {ao bo : Option Addr} {k c m d : Nat} (h : Pair3 w v n A B) (hv : Var w g p ao k c) : Pair3 (set2 w g q bo m d) v n A B := by
  obtain ⟨v1, v2, h1, h2, h3⟩ := h
  exact ⟨v1, v2, h1, h2.off hv (only_set2 w g q bo m d), h3.off hv (only_set2 w g q bo m d)⟩
/-- what each operation of such a region leaves behind. -/
def RM (vx : Value) (m : Nat) (Y : Int) (n : Nat) (A B : Int) (M : Nat) : Nat → (Nat → Value) → World → Prop
  | 0, s, _ => s 0 = vx
  | 1, s, w => It w (s 1) m Y
  | 2, s, w => Pair3 w (s 2) n A B
  | 3, s, w => Pair3 w (s 3) n A B
  | 4, s, w => It w (s 4) n A
  | 5, s, w => It w (s 5) n B
  | 6, s, _ => s 6 = .int .i64 0
  | 7, s, w => VarP w (s 7) M
  | 8, s, w => VarP w (s 8) M
  | 9, s, w => HoldP w (s 7) n A
  | 10, s, w => HoldP w (s 8) n B
  | 11, s, _ => s 11 = .int .i64 0
  | _, _, _ => True
variable {vx : Value} {m n M : Nat} {Y A B : Int}
theorem RM.below {s : Nat → Value} {w w' : World} (hb : Below w.heap.size w w') : ∀ j, RM vx m Y n A B M j s w → RM vx m Y n A B M j s w'
  | 0, h => h
  | 1, h => It.below h hb
  | 2, h => Pair3.below h hb
  | 3, h => Pair3.below h hb
  | 4, h => It.below h hb
  | 5, h => It.below h hb
  | 6, h => h
  | 7, h => VarP.below h hb
  | 8, h => VarP.below h hb
  | 9, h => HoldP.below h hb
  | 10, h => HoldP.below h hb
  | 11, h => h
  | _ + 12, _ => trivial
theorem RM.put {s : Nat → Value} {w : World} {i : Nat} {v : Value} : ∀ j, j ≠ i → (j = 9 → i ≠ 7) → (j = 10 → i ≠ 8) → RM vx m Y n A B M j s w → RM vx m Y n A B M j (upd s i v) w
  | 0, h, _, _, hr => by show (upd s i v) 0 = vx; rw [upd_other s v h]; exact hr
  | 1, h, _, _, hr => by show It w (upd s i v 1) m Y; rw [upd_other s v h]; exact hr
  | 2, h, _, _, hr => by show Pair3 w (upd s i v 2) n A B; rw [upd_other s v h]; exact hr
  | 3, h, _, _, hr => by show Pair3 w (upd s i v 3) n A B; rw [upd_other s v h]; exact hr
  | 4, h, _, _, hr => by show It w (upd s i v 4) n A; rw [upd_other s v h]; exact hr
  | 5, h, _, _, hr => by show It w (upd s i v 5) n B; rw [upd_other s v h]; exact hr
  | 6, h, _, _, hr => by show upd s i v 6 = .int .i64 0; rw [upd_other s v h]; exact hr
  | 7, h, _, _, hr => by show VarP w (upd s i v 7) M; rw [upd_other s v h]; exact hr
  | 8, h, _, _, hr => by show VarP w (upd s i v 8) M; rw [upd_other s v h]; exact hr
  | 9, _, h7, _, hr => by show HoldP w (upd s i v 7) n A; rw [upd_other s v (Ne.symm (h7 rfl))]; exact hr
  | 10, _, _, h8, hr => by show HoldP w (upd s i v 8) n B; rw [upd_other s v (Ne.symm (h8 rfl))]; exact hr
  | 11, h, _, _, hr => by show upd s i v 11 = .int .i64 0; rw [upd_other s v h]; exact hr
  | _ + 12, _, _, _, _ => trivial
theorem RM.set {s : Nat → Value} {w : World} {g : Nat} {p q : Bool} {ao bo : Option Addr} {k c l d : Nat} (hv : Var w g p ao k c) :
    ∀ j, (j = 9 → s 7 ≠ .pointer (some ⟨g, 0, none⟩)) → (j = 10 → s 8 ≠ .pointer (some ⟨g, 0, none⟩)) → RM vx m Y n A B M j s w → RM vx m Y n A B M j s (set2 w g q bo l d)
  | 0, _, _, h => h
  | 1, _, _, h => It.off h hv (only_set2 w g q bo l d)
  | 2, _, _, h => Pair3.set h hv
  | 3, _, _, h => Pair3.set h hv
  | 4, _, _, h => It.off h hv (only_set2 w g q bo l d)
  | 5, _, _, h => It.off h hv (only_set2 w g q bo l d)
  | 6, _, _, h => h
  | 7, _, _, h => VarP.set h hv
  | 8, _, _, h => VarP.set h hv
  | 9, h9, _, h => HoldP.set h hv (h9 rfl)
  | 10, _, h10, h => HoldP.set h hv (h10 rfl)
  | 11, _, _, h => h
  | _ + 12, _, _, _ => trivial
/-- what holds all along: x's variable, x, the old memory; the two new variables are two. -/
structure CM (w0 : World) (gx : Nat) (p : Bool) (ao : Option Addr) (k c : Nat) (nx : Nat) (X : Int) (s : Nat → Value) (w : World) : Prop where
  old : Below w0.heap.size w0 w
  var : Var w gx p ao k c
  low : gx < w0.heap.size
  num : It w (.agg #[.bool p, .slice ao k c]) nx X
  u7 : s 7 = undef ∨ VarP w (s 7) w0.heap.size
  u8 : s 8 = undef ∨ VarP w (s 8) w0.heap.size
  two : ∀ g, s 7 = .pointer (some ⟨g, 0, none⟩) → s 8 = .pointer (some ⟨g, 0, none⟩) → False
variable {w0 : World} {gx : Nat} {p : Bool} {ao : Option Addr} {k c nx : Nat} {X : Int}
theorem CM.go {s : Nat → Value} {w w' : World} (h : CM w0 gx p ao k c nx X s w) (hb : Below w.heap.size w w') : CM w0 gx p ao k c nx X s w' :=
  ⟨bt h.old hb, h.var.go hb, h.low, h.num.below hb, h.u7.imp id (·.below hb), h.u8.imp id (·.below hb), h.two⟩
theorem CM.put {s : Nat → Value} {w : World} {i : Nat} {v : Value} (h : CM w0 gx p ao k c nx X s w) (h7 : i ≠ 7) (h8 : i ≠ 8) : CM w0 gx p ao k c nx X (Go.Proofs.YtnaiahjgdakneaaGreatDoor.upd s i v) w := by
  have e7 := upd_other s v (Ne.symm h7)
  have e8 := upd_other s v (Ne.symm h8)
  exact ⟨h.old, h.var, h.low, h.num, by rw [e7]; exact h.u7, by rw [e8]; exact h.u8, by rw [e7, e8]; exact h.two⟩
theorem CM.set {s : Nat → Value} {w : World} {g : Nat} {q q' : Bool} {bo bo' : Option Addr} {l d l' d' : Nat} (h : CM w0 gx p ao k c nx X s w) (hv : Var w g q bo l d) (hg : w0.heap.size ≤ g) : CM w0 gx p ao k c nx X s (set2 w g q' bo' l' d') :=
  ⟨h.old.trans ((only_set2 w g q' bo' l' d').below hg), h.var.at (only_set2 w g q' bo' l' d') (by have := h.low; omega), h.low, h.num.off hv (only_set2 w g q' bo' l' d'), h.u7.imp id (·.set hv), h.u8.imp id (·.set hv), h.two⟩
theorem VarP.lt {w : World} {v : Value} {B g : Nat} (h : VarP w v B) (e : v = .pointer (some ⟨g, 0, none⟩)) : g < w.heap.size := by
  obtain ⟨g', p, ao, k, c, h1, _, h3⟩ := h
  rw [h1] at e
  simp at e
  subst e
  exact Blk.lt h3
theorem undef_ne {g : Nat} : undef ≠ .pointer (some ⟨g, 0, none⟩) := by intro h; cases h
theorem CM.new7 {s : Nat → Value} {w : World} (h : CM w0 gx p ao k c nx X s w) (hz : VarP (w.alloc (.cells #[.bool false, .slice none 0 0] 30)) (.pointer (some ⟨w.heap.size, 0, none⟩)) w0.heap.size) :
    CM w0 gx p ao k c nx X (Go.Proofs.YtnaiahjgdakneaaGreatDoor.upd s 7 (.pointer (some ⟨w.heap.size, 0, none⟩))) (w.alloc (.cells #[.bool false, .slice none 0 0] 30)) := by
  have g := h.go (below_new w (.cells #[.bool false, .slice none 0 0] 30))
  have e7 := upd_same s 7 (.pointer (some ⟨w.heap.size, 0, none⟩))
  have e8 := upd_other s (i := 7) (j := 8) (.pointer (some ⟨w.heap.size, 0, none⟩)) (by decide)
  refine ⟨g.old, g.var, g.low, g.num, by rw [e7]; exact Or.inr hz, by rw [e8]; exact g.u8, fun k a b => ?_⟩
  rw [e7] at a
  rw [e8] at b
  simp at a
  subst a
  rcases h.u8 with h1 | h1
  · rw [h1] at b; exact undef_ne b
  · exact absurd (h1.lt b) (by omega)
theorem CM.new8 {s : Nat → Value} {w : World} (h : CM w0 gx p ao k c nx X s w) (hz : VarP (w.alloc (.cells #[.bool false, .slice none 0 0] 30)) (.pointer (some ⟨w.heap.size, 0, none⟩)) w0.heap.size) :
    CM w0 gx p ao k c nx X (Go.Proofs.YtnaiahjgdakneaaGreatDoor.upd s 8 (.pointer (some ⟨w.heap.size, 0, none⟩))) (w.alloc (.cells #[.bool false, .slice none 0 0] 30)) := by
  have g := h.go (below_new w (.cells #[.bool false, .slice none 0 0] 30))
  have e8 := upd_same s 8 (.pointer (some ⟨w.heap.size, 0, none⟩))
  have e7 := upd_other s (i := 8) (j := 7) (.pointer (some ⟨w.heap.size, 0, none⟩)) (by decide)
  refine ⟨g.old, g.var, g.low, g.num, by rw [e7]; exact g.u7, by rw [e8]; exact Or.inr hz, fun k a b => ?_⟩
  rw [e7] at a
  rw [e8] at b
  simp at b
  subst b
  rcases h.u7 with h1 | h1
  · rw [h1] at a; exact undef_ne a
  · exact absurd (h1.lt a) (by omega)
theorem varP_new {w : World} {M : Nat} (h : M ≤ w.heap.size) : VarP (w.alloc (.cells #[.bool false, .slice none 0 0] 30)) (.pointer (some ⟨w.heap.size, 0, none⟩)) M :=
  ⟨_, _, _, _, _, rfl, h, var_new w⟩
theorem HoldP.parts {w : World} {v : Value} {n : Nat} {A : Int} (h : HoldP w v n A) : ∃ g, ∃ q : Bool × Option Addr × Nat × Nat, v = .pointer (some ⟨g, 0, none⟩) ∧ Var w g q.1 q.2.1 q.2.2.1 q.2.2.2 ∧ It w (.agg #[.bool q.1, .slice q.2.1 q.2.2.1 q.2.2.2]) n A := by
  obtain ⟨g, p, ao, k, c, h1, h2, h3⟩ := h
  exact ⟨g, (p, ao, k, c), h1, h2, h3⟩
end Go.Proofs.YtnaiahjgdakneaaGreatDoor
