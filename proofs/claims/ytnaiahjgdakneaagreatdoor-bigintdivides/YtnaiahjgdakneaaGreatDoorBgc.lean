/- What the law BigintGcds calls: numbers as the program and as the reference have them, and bigint's Gcd. -/
import Derived.Test.YtnaiahjgdakneaaGreatDoorIntt
import Derived.Test.YtnaiahjgdakneaaGreatDoorGcf
import Derived.Test.YtnaiahjgdakneaaGreatDoorRgc
namespace Go.Proofs.YtnaiahjgdakneaaGreatDoor
open Go.RowKit Num
open Go.Lib (decDigits)

theorem Blk.two {w : World} {g : Nat} {a b : Value} {t : TypeId} (h : Blk w g #[a, b] t) :
    w.cell? ⟨g, 0, none⟩ = some a ∧ w.cell? ⟨g, 1, none⟩ = some b ∧ w.frozen? ⟨g, 0, none⟩ = false ∧ w.frozen? ⟨g, 1, none⟩ = false ∧ g < w.heap.size := by
  have hl := Blk.lt h
  unfold Blk at h
  refine ⟨?_, ?_, ?_, ?_, hl⟩
  · simp only [World.cell?, h]; rfl
  · simp only [World.cell?, h]; rfl
  · simp only [World.frozen?, h]; rfl
  · simp only [World.frozen?, h]; rfl
theorem Blk.set2 {w : World} {g : Nat} {a b a' b' : Value} {t : TypeId} (h : Blk w g #[a, b] t) : Blk ((w.setCell ⟨g, 0, none⟩ a').setCell ⟨g, 1, none⟩ b') g #[a', b'] t := by
  unfold Blk at *
  have e1 := heap_setCell_same w g 0 _ _ a' h
  rw [heap_setCell_same _ g 1 _ _ b' e1]
  rfl
theorem Blk.go2 {w w' : World} {g : Nat} {cs : Array Value} {t : TypeId} (h : Blk w g cs t) (b : Below w.heap.size w w') : Blk w' g cs t := h.below b (Blk.lt h)
theorem ret_ref {fn : Func} {tmps : Array Value} {w : World} {t : Tmp} {g : Nat} {p : Bool} {S : ByteArray} (hv : Blk w g #[.bool p, .string S] 40) (h : fn.results = #[.cell t 40])
    (ht : tmps[t]?.getD undef = .pointer (some ⟨g, 0, none⟩)) :
    (results fn tmps).run Tryz.prog w = .ok (.agg #[.bool p, .string S]) w := by
  obtain ⟨c0, c1, _⟩ := hv.two
  simp [results, h, go_sem, ht, c0, c1]
set_option maxHeartbeats 800000 in
theorem made_any (neg : Bool) (S : ByteArray) (w : World) :
    Calls Tryz.prog 36 #[.bool neg, .string S] w fun e w' => e = .returned (.agg #[.bool (neg && !(S.toList == [48])), .string S]) ∧ Below w.heap.size w w' := by
  go_enter Tryz.func36, Tryz.ntmps36
  cases neg
  · go_wp2
    refine bodyPost_ret (v := .agg #[.bool false, .string S]) (by simp [results, Tryz.results36, go_sem]) rfl ?_
    exact ⟨rfl, below_new w _⟩
  · go_wp2
    refine bodyPost_ret (v := .agg #[.bool (!(S.toList == [48])), .string S]) (by simp [results, Tryz.results36, go_sem]) rfl ?_
    exact ⟨by simp, below_new w _⟩
set_option maxHeartbeats 800000 in
theorem rof2_any (neg : Bool) (v : Value) (n : Nat) (x : Nat → Int) (o : Nat) (w : World) (h : Sl w v n x o) (hn : n ≤ 1000) :
    Calls Tryz.prog 32 #[.bool neg, v] w fun e w' => (∃ ng, e = .returned (.agg #[.bool ng, .string (dt (V x o n).toNat)])) ∧ Below w.heap.size w w' := by
  have G0 : Hid (Blk (w.alloc (.cells #[.bool false, .string ⟨#[]⟩] 40)) w.heap.size #[.bool false, .string ⟨#[]⟩] 40) := Blk.new _ _ _
  have B0 := hid (below_new w (.cells #[.bool false, .string ⟨#[]⟩] 40))
  have H := hid (h.below B0.out)
  clear h
  go_enter Tryz.func32, Tryz.ntmps32
  go_wp2_with fail
  generalize w.alloc (.cells #[.bool false, .string ⟨#[]⟩] 40) = wa at *
  refine (rof_any v n x o wa H.out hn).mono ?_
  rintro e w1 ⟨rfl, C1⟩
  have G1 := hid (G0.out.go2 C1)
  have B1 := hid (bt B0.out C1)
  obtain ⟨S, hS⟩ : ∃ S, dt (V x o n).toNat = S := ⟨_, rfl⟩
  have HS := hid hS
  rw [hS]
  clear C1 G0 B0 hS
  go_wp2_with fail
  refine (made_any neg S _).mono ?_
  rintro e w2 ⟨rfl, C2⟩
  have G2 := hid (G1.out.go2 C2)
  have B2 := hid (bt B1.out C2)
  obtain ⟨c0, c1, f0, f1, l0⟩ := Blk.two G2.out
  generalize (neg && !(S.toList == [48])) = ng at *
  clear C2
  go_wp2
  refine bodyPost_ret (ret_ref (Blk.set2 G2.out) rfl rfl) rfl ?_
  exact ⟨⟨ng, by rw [HS.out]⟩, B2.out.trans ((only_two _ _ _ _).below (Nat.le_refl _))⟩
set_option maxHeartbeats 800000 in
theorem plain_any (neg : Bool) (ao : Option Addr) (n c : Nat) (x : Nat → Int) (o : Nat) (w : World) (h : Sl w (.slice ao n c) n x o) (hn : n ≤ 1000) :
    Calls Tryz.prog 13 #[.agg #[.bool neg, .slice ao n c]] w fun e w' => (∃ ng, e = .returned (.agg #[.bool ng, .string (dt (V x o n).toNat)])) ∧ Below w.heap.size w w' := by
  have h0 : Below w.heap.size w ((w.alloc (.cells #[.bool neg, .slice ao n c] 25)).alloc (.cells #[.bool false, .string ⟨#[]⟩] 40)) := bt (below_new w _) (below_new _ _)
  have B0 := hid h0
  have H := hid (h.below h0)
  have G0 : Hid (Blk ((w.alloc (.cells #[.bool neg, .slice ao n c] 25)).alloc (.cells #[.bool false, .string ⟨#[]⟩] 40)) (w.heap.size + 1) #[.bool false, .string ⟨#[]⟩] 40) := by
    have := Blk.new (w.alloc (.cells #[.bool neg, .slice ao n c] 25)) #[.bool false, .string ⟨#[]⟩] 40
    rw [World.size_alloc] at this
    exact this
  clear h h0
  go_enter Tryz.func13, Tryz.ntmps13
  go_wp2_with fail
  generalize (w.alloc (.cells #[.bool neg, .slice ao n c] 25)).alloc (.cells #[.bool false, .string ⟨#[]⟩] 40) = wa at *
  refine (rof2_any neg _ n x o wa H.out hn).mono ?_
  rintro e w1 ⟨⟨ng, rfl⟩, C1⟩
  have G1 := hid (G0.out.go2 C1)
  have B1 := hid (bt B0.out C1)
  obtain ⟨S, hS⟩ : ∃ S, dt (V x o n).toNat = S := ⟨_, rfl⟩
  have HS := hid hS
  rw [hS]
  obtain ⟨c0, c1, f0, f1, l0⟩ := Blk.two G1.out
  clear C1 G0 B0 hS
  go_wp2
  refine bodyPost_ret (ret_ref (Blk.set2 G1.out) rfl rfl) rfl ?_
  exact ⟨⟨ng, by rw [HS.out]⟩, B1.out.trans ((only_two _ _ _ _).below (by omega))⟩
set_option maxHeartbeats 800000 in
theorem lof_any (neg : Bool) (ao : Option Addr) (n c : Nat) (x : Nat → Int) (o : Nat) (w : World) (h : Sl w (.slice ao n c) n x o) (hn : n ≤ 1000) :
    Calls Tryz.prog 7 #[.agg #[.bool neg, .slice ao n c]] w fun e w' => (∃ v, e = .returned v ∧ It w' v n (sg neg (V x o n))) ∧ Below w.heap.size w w' := by
  have h0 : Below w.heap.size w ((w.alloc (.cells #[.bool neg, .slice ao n c] 25)).alloc (.cells #[.bool false, .slice none 0 0] 30)) := bt (below_new w _) (below_new _ _)
  have B0 := hid h0
  have H := hid (h.below h0)
  have V0 : Hid (Var ((w.alloc (.cells #[.bool neg, .slice ao n c] 25)).alloc (.cells #[.bool false, .slice none 0 0] 30)) (w.heap.size + 1) false none 0 0) := by
    have := var_new (w.alloc (.cells #[.bool neg, .slice ao n c] 25))
    rw [World.size_alloc] at this
    exact this
  clear h h0
  go_enter Tryz.func7, Tryz.ntmps7
  go_wp2_with fail
  generalize (w.alloc (.cells #[.bool neg, .slice ao n c] 25)).alloc (.cells #[.bool false, .slice none 0 0] 30) = wa at *
  refine (From_any neg _ n (V x o n) wa ⟨x, o, H.out, rfl⟩ (by omega)).mono ?_
  rintro e w1 ⟨v, rfl, i, C1⟩
  obtain ⟨p, a1, k1, cc, rfl⟩ := i.shape
  have I1 := hid i
  have V1 := hid (V0.out.go C1)
  have B1 := hid (bt B0.out C1)
  obtain ⟨c0, c1, f0, f1, l0⟩ := Var.facts V1.out
  clear C1 V0 B0 i
  go_wp2
  refine bodyPost_ret (ret_var (Var.set V1.out) rfl rfl) rfl ?_
  exact ⟨⟨_, rfl, I1.out.off V1.out (only_two _ _ _ _)⟩, B1.out.trans ((only_two _ _ _ _).below (by omega))⟩
theorem Nz.numAbs {w : World} {p : Bool} {ao : Option Addr} {k c n : Nat} {A : Int} (h : It w (.agg #[.bool p, .slice ao k c]) n A) : Nz w (.slice ao k c) k A.natAbs ∧ k ≤ n := by
  obtain ⟨neg, ao', k', cap, a, e, h1, h2, rfl, _, h5⟩ := h
  simp at e
  obtain ⟨rfl, rfl, rfl, rfl⟩ := e
  have ea : ((sg p a).natAbs : Int) = a := by cases p <;> simp [sg] <;> omega
  rw [ea]
  exact ⟨h1, h2⟩
set_option maxHeartbeats 800000 in
theorem bgcd_any (vx vy : Value) (n m : Nat) (A B : Int) (w : World) (hx : It w vx n A) (hy : It w vy m B) (hn : n ≤ 1000) (hm : m ≤ 1000) :
    Calls Tryz.prog 19 #[vx, vy] w fun e w' => (∃ v, e = .returned v ∧ It w' v (max n m) (Int.gcd A B : Nat)) ∧ Below w.heap.size w w' := by
  obtain ⟨p, ao, k, c, rfl⟩ := hx.shape
  obtain ⟨p', ao', k', c', rfl⟩ := hy.shape
  obtain ⟨v0, w0, r0, t0⟩ := entry2 w p ao k c p' ao' k' c'
  have HX := hid (Nz.numAbs (hx.below t0))
  have HY := hid (Nz.numAbs (hy.below t0))
  have R0 := hid r0
  have T0 := hid t0
  have GE : Hid (Int.gcd (A.natAbs : Int) (B.natAbs : Int) = Int.gcd A B) := by show _ = _; simp [Int.gcd]
  clear hx hy v0 w0 r0 t0
  go_enter Tryz.func19, Tryz.ntmps19
  go_wp2_with fail
  generalize ((w.alloc (.cells #[.bool p, .slice ao k c] 30)).alloc (.cells #[.bool p', .slice ao' k' c'] 30)).alloc (.cells #[.bool false, .slice none 0 0] 30) = wa at *
  have hk := HX.out.2
  have hk' := HY.out.2
  refine (gcd_any _ _ k k' _ _ wa HX.out.1.nt HY.out.1.nt (by omega) (by omega)).mono ?_
  rintro e w1 ⟨⟨v, rfl, kg, ng, hkg⟩, C1⟩
  rw [GE.out] at ng
  have NG := hid ng
  have R1 := hid (R0.out.go C1)
  have T1 := hid (bt T0.out C1)
  clear C1 ng R0 T0 GE
  go_wp2_with fail
  refine (signed_any false _ kg _ w1 NG.out).mono ?_
  rintro e w2 ⟨v2, rfl, i2, C2⟩
  obtain ⟨p2, a2, k2, cc2, rfl⟩ := i2.shape
  have I2 := hid i2
  have R2 := hid (R1.out.go C2)
  have T2 := hid (bt T1.out C2)
  obtain ⟨c0, c1, f0, f1, l0⟩ := Var.facts R2.out
  clear C2 i2 R1 T1
  go_wp2
  refine bodyPost_ret (ret_var (Var.set R2.out) rfl rfl) rfl ?_
  exact ⟨⟨_, rfl, ((I2.out.off R2.out (only_two _ _ _ _)).cast (by simp [sg])).mono (by omega)⟩, T2.out.trans ((only_two _ _ _ _).below (by omega))⟩
end Go.Proofs.YtnaiahjgdakneaaGreatDoor
