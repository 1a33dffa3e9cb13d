/- What 'leapOf' answers. -/
import Derived.Test.YtnaiahjgdakneaaGreatDoorGcb
namespace Go.Proofs.YtnaiahjgdakneaaGreatDoor
open Go.RowKit Num
theorem Lb.new (w : World) (a b c d : Int) (t : Bool) : Lb (w.alloc (.cells #[.int .u64 a, .int .u64 b, .int .u64 c, .int .u64 d, .bool t] 106)) w.heap.size a b c d t := heap_alloc_new w _
theorem Lb.below {B : Nat} {w w' : World} {g : Nat} {a b c d : Int} {t : Bool} (h : Lb w g a b c d t) (hb : Below B w w') (hg : g < B) : Lb w' g a b c d t := by
  unfold Lb; rw [hb.block g hg]; exact h
theorem Lb.other {w : World} {g r : Nat} {a b c d : Int} {t : Bool} (h : Lb w g a b c d t) (hg : g ≠ r) (i : Nat) (v : Value) : Lb (w.setCell ⟨r, i, none⟩ v) g a b c d t := by
  unfold Lb; rw [heap_setCell_other w ⟨r, i, none⟩ g v hg]; exact h
theorem Lb.s0 {w : World} {g : Nat} {a b c d : Int} {t : Bool} (h : Lb w g a b c d t) (v : Int) : Lb (w.setCell ⟨g, 0, none⟩ (.int .u64 v)) g v b c d t := by
  unfold Lb at *; rw [heap_setCell_same w g 0 _ _ _ h]; rfl
theorem Lb.s1 {w : World} {g : Nat} {a b c d : Int} {t : Bool} (h : Lb w g a b c d t) (v : Int) : Lb (w.setCell ⟨g, 1, none⟩ (.int .u64 v)) g a v c d t := by
  unfold Lb at *; rw [heap_setCell_same w g 1 _ _ _ h]; rfl
theorem Lb.s2 {w : World} {g : Nat} {a b c d : Int} {t : Bool} (h : Lb w g a b c d t) (v : Int) : Lb (w.setCell ⟨g, 2, none⟩ (.int .u64 v)) g a b v d t := by
  unfold Lb at *; rw [heap_setCell_same w g 2 _ _ _ h]; rfl
theorem Lb.s3 {w : World} {g : Nat} {a b c d : Int} {t : Bool} (h : Lb w g a b c d t) (v : Int) : Lb (w.setCell ⟨g, 3, none⟩ (.int .u64 v)) g a b c v t := by
  unfold Lb at *; rw [heap_setCell_same w g 3 _ _ _ h]; rfl
theorem Lb.s4 {w : World} {g : Nat} {a b c d : Int} {t : Bool} (h : Lb w g a b c d t) (v : Bool) : Lb (w.setCell ⟨g, 4, none⟩ (.bool v)) g a b c d v := by
  unfold Lb at *; rw [heap_setCell_same w g 4 _ _ _ h]; rfl
theorem below_put {B g : Nat} {w w' : World} (h : Below B w w') (hg : B ≤ g) (i : Nat) (v : Value) : Below B w (w'.setCell ⟨g, i, none⟩ v) :=
  ⟨h.os, h.tape, h.output, by simpa [World.setCell] using h.size, fun k hk => (heap_setCell_other w' ⟨g, i, none⟩ k v (by show k ≠ g; omega)).trans (h.block k hk)⟩
theorem Lb.drew {w : World} {g : Nat} {a b c d : Int} {t : Bool} (h : Lb w g a b c d t) : Lb w.drew g a b c d t := h
theorem ret_leap {fn : Func} {tmps : Array Value} {w : World} {u : Tmp} {g : Nat} {a b c d : Int} {t : Bool} (hv : Lb w g a b c d t) (h : fn.results = #[.cell u 106]) (ht : tmps[u]?.getD undef = .pointer (some ⟨g, 0, none⟩)) :
    (results fn tmps).run Tryz.prog w = .ok (.agg #[.int .u64 a, .int .u64 b, .int .u64 c, .int .u64 d, .bool t]) w := by
  obtain ⟨c0, c1, c2, c3, c4, _⟩ := hv.facts
  simp [results, h, go_sem, ht, c0, c1, c2, c3, c4]
/-- what 'leapOf' answers: no steps, or rows that are right. -/
def Lok (A B : Int) (e : Ending) : Prop := ∃ a b c d t, e = .returned (.agg #[.int .u64 a, .int .u64 b, .int .u64 c, .int .u64 d, .bool t]) ∧ (b = 0 ∨ Lg A B a b c d t) ∧ (0 ≤ a ∧ a ≤ 18446744073709551615) ∧ (0 ≤ b ∧ b ≤ 18446744073709551615) ∧ (0 ≤ c ∧ c ≤ 18446744073709551615) ∧ (0 ≤ d ∧ d ≤ 18446744073709551615)
/-- what its loop keeps. -/
def Lrel (A B : Int) (w : World) (xv yv ev fv : Value) (wr : World) : Prop := ∃ (x y a b c d e f : Int) (t : Bool), xv = .int .u64 x ∧ yv = .int .u64 y ∧ ev = .int .u64 e ∧ fv = .int .u64 f ∧ (x ≤ 18446744073709551615 ∧ f ≤ 18446744073709551615 ∧ d ≤ 18446744073709551615 ∧ c ≤ 18446744073709551615 ∧ (0 ≤ a ∧ a ≤ 18446744073709551615) ∧ (0 ≤ b ∧ b ≤ 18446744073709551615)) ∧ Hid (Lh A B x y c d e f t ∧ (b = 0 ∨ Lg A B a b c d t) ∧ Lb wr (w.heap.size + 1) a b c d t ∧ Lb wr w.heap.size 0 0 0 0 false ∧ Below w.heap.size w wr)
set_option maxHeartbeats 3200000 in
set_option maxRecDepth 100000 in
theorem leapOf_any (A B : Int) (w : World) (hB : 0 ≤ B) (hAB : B ≤ A) (hA : A ≤ 18446744073709551615) :
    Calls Tryz.prog 76 #[.int .u64 A, .int .u64 B] w fun e w' => Lok A B e ∧ Below w.heap.size w w' := by
  have S0 := hid (Lh.start hB hAB)
  have L0 := (Lb.new w 0 0 0 0 false)
  have B1 : Below w.heap.size w (w.alloc (.cells #[.int .u64 0, .int .u64 0, .int .u64 0, .int .u64 0, .bool false] 106)) := (Below.refl _ _).alloc (Nat.le_refl _) _
  have L1 := Lb.new (w.alloc (.cells #[.int .u64 0, .int .u64 0, .int .u64 0, .int .u64 0, .bool false] 106)) 0 0 1 0 true
  rw [World.size_alloc] at L1
  have B2 : Below (w.heap.size + 1) (w.alloc (.cells #[.int .u64 0, .int .u64 0, .int .u64 0, .int .u64 0, .bool false] 106)) ((w.alloc (.cells #[.int .u64 0, .int .u64 0, .int .u64 0, .int .u64 0, .bool false] 106)).alloc (.cells #[.int .u64 0, .int .u64 0, .int .u64 1, .int .u64 0, .bool true] 106)) := (Below.refl _ _).alloc (by simp) _
  have H1 := hid L1
  have H0 := hid (L0.below B2 (by omega))
  have HB := hid (B1.trans (B2.mono (by omega)))
  clear L0 L1 B1 B2
  go_enter Tryz.func76, Tryz.ntmps76
  go_wp2
  go_loopw [0, 1, 6, 7] (fun xv yv ev fv wr => Lrel A B w xv yv ev fv wr) (fun _ yv _ _ _ => (intOf yv).toNat)
  case atStart => exact ⟨A, B, 0, 0, 1, 0, 0, 1, true, rfl, rfl, rfl, rfl, ⟨hA, by decide, by decide, by decide, ⟨by decide, by decide⟩, by decide, by decide⟩, S0.out, Or.inl rfl, H1.out, H0.out, HB.out⟩
  case round =>
    obtain ⟨x, y, a, b, c, d, e, f, t, rfl, rfl, rfl, rfl, ⟨hx, hf, hd, hc, ha, hb⟩, HH⟩ := hrel
    clear S0 H1 H0 HB
    obtain ⟨m0, m1, m2, m3, m4, mf, mg⟩ := HH.out.2.2.1.facts
    obtain ⟨r0, r1, r2, r3, r4, rf, rg⟩ := HH.out.2.2.2.1.facts
    have g0 := mf 0; have g1 := mf 1; have g2 := mf 2; have g3 := mf 3; have g4 := mf 4
    have z0 := rf 0; have z1 := rf 1; have z2 := rf 2; have z3 := rf 3; have z4 := rf 4
    have y0 := HH.out.1.hy
    have yx := HH.out.1.hxy
    have c0 := HH.out.1.c0
    have d0 := HH.out.1.d0
    have e0 := HH.out.1.e0
    have f1 := HH.out.1.f1
    have ef := HH.out.1.ef
    clear mf rf
    by_cases hfy : f ≤ y
    · have hdf := HH.out.1.test hfy
      by_cases hdx : d + f ≤ x - y
      · obtain ⟨N, q1, q2, q3, q4, q5, q6, q7, q8, q9, q10, q11⟩ := HH.out.1.step hfy
        have NN := hid N
        have GG := hid (HH.out.1.good hfy hdx)
        have hne : ¬ y = 0 := by omega
        have hy' : (y == 0) = false := beq_eq_false_iff_ne.2 hne
        have hqd : 0 ≤ x / y := by omega
        have Q1 := hid q1
        have LX := hid HH.out.2.2
        clear N HH q1
        generalize hq : x / y = q at *
        generalize hr : x % y = r at *
        go_wp2
        go_region
        go_wp2
        refine ⟨⟨y, x % y, c, d, e, f, c + q * e, d + q * f, !t, rfl, rfl, rfl, rfl, ⟨by omega, by omega, by omega, by omega, ⟨c0, hc⟩, d0, hd⟩, ?_, GG.out, ?_, ?_, ?_⟩, by simp only [intOf]; omega⟩
        · have := NN.out
          rw [Q1.out] at this
          rw [hr]; exact this
        · exact Lb.drew (((((LX.out.1.s0 c).s2 e).s1 d).s3 f).s4 (!t))
        · exact Lb.drew (((((LX.out.2.1.other (by omega) _ _).other (by omega) _ _).other (by omega) _ _).other (by omega) _ _).other (by omega) _ _)
        · exact Below.drew (below_put (below_put (below_put (below_put (below_put LX.out.2.2 (by omega) _ _) (by omega) _ _) (by omega) _ _) (by omega) _ _) (by omega) _ _)
      · have FIN := hid ((((((HH.out.2.2.2.1.s0 a).s1 b).s2 c).s3 d).s4 t))
        have FB := hid (below_put (below_put (below_put (below_put (below_put HH.out.2.2.2.2 (Nat.le_refl _) 0 (.int .u64 a)) (Nat.le_refl _) 1 (.int .u64 b)) (Nat.le_refl _) 2 (.int .u64 c)) (Nat.le_refl _) 3 (.int .u64 d)) (Nat.le_refl _) 4 (.bool t))
        have LG := hid HH.out.2.1
        clear HH
        go_wp2
        refine bodyPost_ret (ret_leap FIN.out rfl rfl) rfl ?_
        exact ⟨⟨a, b, c, d, t, rfl, LG.out, ha, hb, ⟨c0, hc⟩, d0, hd⟩, FB.out⟩
    · have FIN := hid ((((((HH.out.2.2.2.1.s0 a).s1 b).s2 c).s3 d).s4 t))
      have FB := hid (below_put (below_put (below_put (below_put (below_put HH.out.2.2.2.2 (Nat.le_refl _) 0 (.int .u64 a)) (Nat.le_refl _) 1 (.int .u64 b)) (Nat.le_refl _) 2 (.int .u64 c)) (Nat.le_refl _) 3 (.int .u64 d)) (Nat.le_refl _) 4 (.bool t))
      have LG := hid HH.out.2.1
      clear HH
      go_wp2
      refine bodyPost_ret (ret_leap FIN.out rfl rfl) rfl ?_
      exact ⟨⟨a, b, c, d, t, rfl, LG.out, ha, hb, ⟨c0, hc⟩, d0, hd⟩, FB.out⟩
end Go.Proofs.YtnaiahjgdakneaaGreatDoor
