/- Whole numbers: what an Int is in memory, and what the calls of package bigint answer that make, add, take away and multiply them. -/
import Derived.Test.YtocfenjampmdlabGreatDoorBKarb
namespace Go.Proofs.YtocfenjampmdlabGreatDoor.B
open Go.RowKit NumB

/-- block g holds the cells cs. -/
def Blk (w : World) (g : Nat) (cs : Array Value) (t : TypeId) : Prop := w.heap[g]? = some (.cells cs t (0, 0))
theorem Blk.new (w : World) (cs : Array Value) (t : TypeId) : Blk (w.alloc (.cells cs t)) w.heap.size cs t := heap_alloc_new w _
theorem Blk.lt {w : World} {g : Nat} {cs : Array Value} {t : TypeId} (h : Blk w g cs t) : g < w.heap.size := (Array.getElem?_eq_some_iff.1 h).1
theorem Blk.below {B : Nat} {w w' : World} {g : Nat} {cs : Array Value} {t : TypeId} (h : Blk w g cs t) (hb : Below B w w') (hg : g < B) : Blk w' g cs t := by
  unfold Blk; rw [hb.block g hg]; exact h
theorem Blk.alloc {w : World} {g : Nat} {cs : Array Value} {t : TypeId} (h : Blk w g cs t) (o : Obj) : Blk (w.alloc o) g cs t :=
  h.below ((Below.refl w.heap.size w).alloc (Nat.le_refl _) o) h.lt
theorem Blk.only {w w' : World} {g b : Nat} {cs : Array Value} {t : TypeId} (h : Blk w g cs t) (o : Only b w w') (hg : g ≠ b) : Blk w' g cs t := by
  unfold Blk; rw [o.block g hg]; exact h
/-- a variable that holds a whole number: two cells. -/
def Var (w : World) (g : Nat) (p : Bool) (ao : Option Addr) (n c : Nat) : Prop := Blk w g #[.bool p, .slice ao n c] 42
theorem Var.facts {w : World} {g : Nat} {p : Bool} {ao : Option Addr} {n c : Nat} (h : Var w g p ao n c) :
    w.cell? ⟨g, 0, none⟩ = some (.bool p) ∧ w.cell? ⟨g, 1, none⟩ = some (.slice ao n c) ∧ w.frozen? ⟨g, 0, none⟩ = false ∧ w.frozen? ⟨g, 1, none⟩ = false ∧ g < w.heap.size := by
  have hl := Blk.lt h
  unfold Var Blk at h
  refine ⟨?_, ?_, ?_, ?_, hl⟩
  · simp only [World.cell?, h]; rfl
  · simp only [World.cell?, h]; rfl
  · simp only [World.frozen?, h]; rfl
  · simp only [World.frozen?, h]; rfl
theorem Var.set {w : World} {g : Nat} {p q : Bool} {ao bo : Option Addr} {n c m d : Nat} (h : Var w g p ao n c) :
    Var ((w.setCell ⟨g, 0, none⟩ (.bool q)).setCell ⟨g, 1, none⟩ (.slice bo m d)) g q bo m d := by
  unfold Var Blk at *
  have e1 := heap_setCell_same w g 0 _ _ (.bool q) h
  rw [heap_setCell_same _ g 1 _ _ (.slice bo m d) e1]
  rfl
theorem ret_var {fn : Func} {tmps : Array Value} {w : World} {t : Tmp} {g : Nat} {p : Bool} {ao : Option Addr} {n c : Nat} (hv : Var w g p ao n c) (h : fn.results = #[.cell t 42]) (ht : tmps[t]?.getD undef = .pointer (some ⟨g, 0, none⟩)) :
    (results fn tmps).run Tryz.prog w = .ok (.agg #[.bool p, .slice ao n c]) w := by
  obtain ⟨c0, c1, _⟩ := hv.facts
  simp [results, h, go_sem, ht, c0, c1]
theorem ret_var3 {fn : Func} {tmps : Array Value} {w : World} {t t' u : Tmp} {g g' : Nat} {p p' : Bool} {ao ao' : Option Addr} {n c n' c' : Nat} {v : Value} (hv : Var w g p ao n c) (hv' : Var w g' p' ao' n' c') (h : fn.results = #[.cell t 42, .cell t' 42, .tmp u])
    (ht : tmps[t]?.getD undef = .pointer (some ⟨g, 0, none⟩)) (ht' : tmps[t']?.getD undef = .pointer (some ⟨g', 0, none⟩)) (hu : tmps[u]?.getD undef = v) :
    (results fn tmps).run Tryz.prog w = .ok (.tuple #[.agg #[.bool p, .slice ao n c], .agg #[.bool p', .slice ao' n' c'], v]) w := by
  obtain ⟨c0, c1, _⟩ := hv.facts
  obtain ⟨d0, d1, _⟩ := hv'.facts
  simp [results, h, go_sem, ht, ht', hu, c0, c1, d0, d1]
theorem ret_var2 {fn : Func} {tmps : Array Value} {w : World} {t u : Tmp} {g : Nat} {p : Bool} {ao : Option Addr} {n c : Nat} {v : Value} (hv : Var w g p ao n c) (h : fn.results = #[.cell t 42, .tmp u])
    (ht : tmps[t]?.getD undef = .pointer (some ⟨g, 0, none⟩)) (hu : tmps[u]?.getD undef = v) :
    (results fn tmps).run Tryz.prog w = .ok (.tuple #[.agg #[.bool p, .slice ao n c], v]) w := by
  obtain ⟨c0, c1, _⟩ := hv.facts
  simp [results, h, go_sem, ht, hu, c0, c1]
theorem var_new (w : World) : Var (w.alloc (.cells #[.bool false, .slice none 0 0] 42)) w.heap.size false none 0 0 := Blk.new _ _ _
theorem Sl.off {w : World} {v : Value} {n : Nat} {x : Nat → Int} {o g : Nat} {p : Bool} {ao : Option Addr} {l c : Nat} (h : Sl w v n x o) (hb : Var w g p ao l c) : SlN g w v n x o := by
  obtain ⟨ao', cap, rfl, h1, h2, h3, h4, h5⟩ := h
  refine ⟨ao', cap, rfl, h1, h2, h3, h4, fun hn => ?_⟩
  obtain ⟨b, off, rfl, hbs, hc⟩ := h5 hn
  refine ⟨b, off, rfl, hbs, ?_, hc⟩
  rintro rfl
  have := hc 0 hn
  unfold Var Blk at hb
  simp only [World.cell?, hb] at this
  match off with
  | 0 => simp at this
  | 1 => simp at this
  | k + 2 => simp at this
theorem SlN.sl {g : Nat} {w : World} {v : Value} {n : Nat} {x : Nat → Int} {o : Nat} (h : SlN g w v n x o) : Sl w v n x o := by
  obtain ⟨ao, cap, rfl, h1, h2, h3, h4, h5⟩ := h
  refine ⟨ao, cap, rfl, h1, h2, h3, h4, fun hn => ?_⟩
  obtain ⟨b, off, rfl, hbs, _, hc⟩ := h5 hn
  exact ⟨b, off, rfl, hbs, hc⟩

/-- a number below 0, or not. -/
def sg (neg : Bool) (a : Int) : Int := if neg then -a else a
theorem sg_not (neg : Bool) (a : Int) : sg (!neg) a = - sg neg a := by cases neg <;> simp [sg]
/-- 'v' is the whole number A, of up to n words. -/
def It (w : World) (v : Value) (n : Nat) (A : Int) : Prop :=
  ∃ (neg : Bool) (ao : Option Addr) (k cap : Nat) (a : Int), v = .agg #[.bool neg, .slice ao k cap] ∧ Nz w (.slice ao k cap) k a ∧ k ≤ n ∧ A = sg neg a ∧ (neg = true → a ≠ 0) ∧ 0 ≤ a
theorem It.below {w w' : World} {v : Value} {n : Nat} {A : Int} (h : It w v n A) (hb : Below w.heap.size w w') : It w' v n A := by
  obtain ⟨neg, ao, k, cap, a, rfl, h1, h2, h3, h4, h5⟩ := h
  exact ⟨neg, ao, k, cap, a, rfl, h1.below hb, h2, h3, h4, h5⟩
theorem It.mono {w : World} {v : Value} {n m : Nat} {A : Int} (h : It w v n A) (hm : n ≤ m) : It w v m A := by
  obtain ⟨neg, ao, k, cap, a, rfl, h1, h2, h3, h4, h5⟩ := h
  exact ⟨neg, ao, k, cap, a, rfl, h1, by omega, h3, h4, h5⟩
theorem It.cast {w : World} {v : Value} {n : Nat} {A B : Int} (h : It w v n A) (e : A = B) : It w v n B := e ▸ h
theorem Nz.off {w w' : World} {v : Value} {k : Nat} {a : Int} {g : Nat} {p : Bool} {ao : Option Addr} {l c : Nat} (h : Nz w v k a) (hv : Var w g p ao l c) (ho : Only g w w') : Nz w' v k a := by
  obtain ⟨x, o, h1, h2, h3⟩ := h
  exact ⟨x, o, ((h1.off hv).only ho).sl, h2, h3⟩
theorem It.off {w w' : World} {v : Value} {n : Nat} {A : Int} {g : Nat} {p : Bool} {ao : Option Addr} {l c : Nat} (h : It w v n A) (hv : Var w g p ao l c) (ho : Only g w w') : It w' v n A := by
  obtain ⟨neg, ao, k, cap, a, rfl, h1, h2, h3, h4, h5⟩ := h
  exact ⟨neg, ao, k, cap, a, rfl, h1.off hv ho, h2, h3, h4, h5⟩
theorem It.shape {w : World} {v : Value} {n : Nat} {A : Int} (h : It w v n A) : ∃ p ao k cap, v = .agg #[.bool p, .slice ao k cap] := by
  obtain ⟨neg, ao, k, cap, a, rfl, -⟩ := h; exact ⟨neg, ao, k, cap, rfl⟩
theorem Nz.shape {w : World} {v : Value} {k : Nat} {a : Int} (h : Nz w v k a) : ∃ ao cap, v = .slice ao k cap := by
  obtain ⟨x, o, ⟨ao, cap, rfl, -⟩, -⟩ := h; exact ⟨ao, cap, rfl⟩
/-- the sign of a number. -/
def sgn (a : Int) : Int := if a < 0 then -1 else if a = 0 then 0 else 1
/-- what two stores into a variable leave. -/
theorem only_two (g : Nat) (w : World) (a b : Value) : Only g w ((w.setCell ⟨g, 0, none⟩ a).setCell ⟨g, 1, none⟩ b) := ((Only.refl g w).set 0 a).set 1 b
theorem below_new (w : World) (o : Obj) : Below w.heap.size w (w.alloc o) := (Below.refl _ _).alloc (Nat.le_refl _) o
theorem Nz.alloc {w : World} {v : Value} {k : Nat} {a : Int} (h : Nz w v k a) (o : Obj) : Nz (w.alloc o) v k a := h.below (below_new w o)
theorem Nt.alloc {w : World} {v : Value} {k : Nat} {a : Int} (h : Nt w v k a) (o : Obj) : Nt (w.alloc o) v k a := h.below (below_new w o)
theorem It.alloc {w : World} {v : Value} {k : Nat} {a : Int} (h : It w v k a) (o : Obj) : It (w.alloc o) v k a := h.below (below_new w o)

theorem bt {w w1 w2 : World} (h : Below w.heap.size w w1) (k : Below w1.heap.size w1 w2) : Below w.heap.size w w2 := h.trans (k.mono h.size)
theorem Var.go {w w' : World} {g : Nat} {p : Bool} {ao : Option Addr} {n c : Nat} (h : Var w g p ao n c) (hb : Below w.heap.size w w') : Var w' g p ao n c := Blk.below h hb (Blk.lt h)
theorem Var.at {w w' : World} {g b : Nat} {p : Bool} {ao : Option Addr} {n c : Nat} (h : Var w g p ao n c) (ho : Only b w w') (hg : g ≠ b) : Var w' g p ao n c := Blk.only h ho hg
theorem var_mk (w : World) (p : Bool) (ao : Option Addr) (n c : Nat) : Var (w.alloc (.cells #[.bool p, .slice ao n c] 42)) w.heap.size p ao n c := Blk.new _ _ _
theorem Var.alloc {w : World} {g : Nat} {p : Bool} {ao : Option Addr} {n c : Nat} (h : Var w g p ao n c) (o : Obj) : Var (w.alloc o) g p ao n c := h.go (below_new w o)
theorem entry1 (w : World) (p : Bool) (ao : Option Addr) (n c : Nat) :
    Var ((w.alloc (.cells #[.bool p, .slice ao n c] 42)).alloc (.cells #[.bool false, .slice none 0 0] 42)) w.heap.size p ao n c ∧
    Var ((w.alloc (.cells #[.bool p, .slice ao n c] 42)).alloc (.cells #[.bool false, .slice none 0 0] 42)) (w.heap.size + 1) false none 0 0 ∧
    Below w.heap.size w ((w.alloc (.cells #[.bool p, .slice ao n c] 42)).alloc (.cells #[.bool false, .slice none 0 0] 42)) :=
  ⟨(var_mk w p ao n c).alloc _, by simpa using var_mk (w.alloc (.cells #[.bool p, .slice ao n c] 42)) false none 0 0, bt (below_new w _) (below_new _ _)⟩
theorem entry2 (w : World) (p : Bool) (ao : Option Addr) (n c : Nat) (q : Bool) (bo : Option Addr) (m d : Nat) :
    Var (((w.alloc (.cells #[.bool p, .slice ao n c] 42)).alloc (.cells #[.bool q, .slice bo m d] 42)).alloc (.cells #[.bool false, .slice none 0 0] 42)) w.heap.size p ao n c ∧
    Var (((w.alloc (.cells #[.bool p, .slice ao n c] 42)).alloc (.cells #[.bool q, .slice bo m d] 42)).alloc (.cells #[.bool false, .slice none 0 0] 42)) (w.heap.size + 1) q bo m d ∧
    Var (((w.alloc (.cells #[.bool p, .slice ao n c] 42)).alloc (.cells #[.bool q, .slice bo m d] 42)).alloc (.cells #[.bool false, .slice none 0 0] 42)) (w.heap.size + 2) false none 0 0 ∧
    Below w.heap.size w (((w.alloc (.cells #[.bool p, .slice ao n c] 42)).alloc (.cells #[.bool q, .slice bo m d] 42)).alloc (.cells #[.bool false, .slice none 0 0] 42)) :=
  ⟨((var_mk w p ao n c).alloc _).alloc _, by simpa using (var_mk (w.alloc (.cells #[.bool p, .slice ao n c] 42)) q bo m d).alloc (.cells #[.bool false, .slice none 0 0] 42), by simpa using var_mk ((w.alloc (.cells #[.bool p, .slice ao n c] 42)).alloc (.cells #[.bool q, .slice bo m d] 42)) false none 0 0, bt (bt (below_new w _) (below_new _ _)) (below_new _ _)⟩

set_option maxHeartbeats 400000 in
theorem signed_any (neg : Bool) (s : Value) (k : Nat) (a : Int) (w : World) (h : Nz w s k a) :
    Calls Tryz.prog 25 #[.bool neg, s] w fun e w' => ∃ v, e = .returned v ∧ It w' v k (sg neg a) ∧ Below w.heap.size w w' := by
  have H := hid h
  have L := hid h.len.1
  have H0 := hid h.nt.nonneg
  obtain ⟨ao, cap, rfl⟩ := h.shape
  clear h
  by_cases h0 : k = 0
  · subst h0
    obtain rfl : a = 0 := L.out.2 rfl
    clear L
    go_enter Tryz.func25, Tryz.ntmps25
    go_wp2
    refine bodyPost_ret (v := .agg #[.bool false, .slice none 0 0]) (by simp [results, Tryz.results25, go_sem]) rfl ?_
    refine ⟨_, rfl, ⟨false, none, 0, 0, 0, rfl, nil_nz _, Nat.le_refl _, ?_, by simp, by omega⟩, below_new w _⟩
    cases neg <;> rfl
  · have hk0 : ((k : Int) == 0) = false := by simp; omega
    go_enter Tryz.func25, Tryz.ntmps25
    go_wp2
    refine bodyPost_ret (v := .agg #[.bool neg, .slice ao k cap]) (by simp [results, Tryz.results25, go_sem]) rfl ?_
    exact ⟨_, rfl, ⟨neg, ao, k, cap, a, rfl, H.out.alloc _, Nat.le_refl _, rfl, fun _ e => h0 (L.out.1 e), H0.out⟩, below_new w _⟩

set_option maxHeartbeats 400000 in
theorem From_any (neg : Bool) (v : Value) (n : Nat) (a : Int) (w : World) (h : Nt w v n a) (hn : n ≤ 100000000) :
    Calls Tryz.prog 17 #[.bool neg, v] w fun e w' => ∃ v', e = .returned v' ∧ It w' v' n (sg neg a) ∧ Below w.heap.size w w' := by
  have V0 := hid (var_new w)
  have B0 := hid (below_new w (.cells #[.bool false, .slice none 0 0] 42))
  have H := hid (norm_any v n a _ (h.alloc (.cells #[.bool false, .slice none 0 0] 42)) hn)
  clear h
  go_enter Tryz.func17, Tryz.ntmps17
  go_wp2_with fail
  refine H.out.mono ?_
  clear H
  generalize w.alloc (.cells #[.bool false, .slice none 0 0] 42) = wa at *
  rintro e w1 ⟨k, X, rfl, r1, r2, r3, r4, hk, C1, _⟩
  have N1 := hid (Nz.of_row r1 r2 r3 r4 (by omega)); clear r1 r2 r3 r4
  go_wp2_with fail
  refine (signed_any _ _ _ _ _ N1.out).mono ?_
  rintro e w2 ⟨v', rfl, I, C2⟩
  obtain ⟨p, ao, k', cap, rfl⟩ := I.shape
  have I1 := hid I
  clear I
  have V2 := hid ((V0.out.below C1 (Blk.lt V0.out)).below C2 (Nat.lt_of_lt_of_le (Blk.lt V0.out) C1.size))
  obtain ⟨c0, c1, f0, f1, l0⟩ := Var.facts V2.out
  go_wp2
  refine bodyPost_ret (ret_var (Var.set V2.out) rfl rfl) rfl ?_
  exact ⟨_, rfl, (I1.out.off V2.out (only_two _ _ _ _)).mono hk, (B0.out.trans (C1.mono B0.out.size)).trans ((C2.mono (Nat.le_trans B0.out.size C1.size)).trans ((only_two _ _ _ _).below (Nat.le_refl _)))⟩

theorem sg_mul (p q : Bool) (a b : Int) : sg p a * sg q b = sg (p != q) (a * b) := by cases p <;> cases q <;> simp [sg, Int.neg_mul, Int.mul_neg]
end Go.Proofs.YtocfenjampmdlabGreatDoor.B
