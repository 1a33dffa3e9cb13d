/- The law BigintGcds, walked. -/
import Derived.Test.YtnaiahjgdakneaaGreatDoorBgc
import Derived.Test.YtnaiahjgdakneaaGreatDoorAwb
import Derived.Deep.RegionHeld3
namespace Go.Proofs.YtnaiahjgdakneaaGreatDoor
open Go.RowKit Num
open Go.Lib (decDigits)

/-- all along: the two given numbers, in their variables. -/
structure Two (W : World) (g : Nat) (na : Bool) (aa : Option Addr) (n ca : Nat) (xa : Nat → Int) (oa : Nat) (nb : Bool) (ab : Option Addr) (m cb : Nat) (xb : Nat → Int) (ob : Nat) (w : World) : Prop where
  old : Below W.heap.size W w
  fa : Blk w g #[.bool na, .slice aa n ca] 25
  fb : Blk w (g + 1) #[.bool nb, .slice ab m cb] 25
  sa : Sl w (.slice aa n ca) n xa oa
  sb : Sl w (.slice ab m cb) m xb ob
  tab : Tab w
theorem Two.go {W w w' : World} {g : Nat} {na nb : Bool} {aa ab : Option Addr} {n ca m cb : Nat} {xa xb : Nat → Int} {oa ob : Nat} (h : Two W g na aa n ca xa oa nb ab m cb xb ob w) (b : Below w.heap.size w w') : Two W g na aa n ca xa oa nb ab m cb xb ob w' :=
  ⟨bt h.old b, h.fa.go2 b, h.fb.go2 b, h.sa.below b, h.sb.below b, h.tab.below b h.tab.lt⟩
theorem Two.cells {W w : World} {g : Nat} {na nb : Bool} {aa ab : Option Addr} {n ca m cb : Nat} {xa xb : Nat → Int} {oa ob : Nat} (h : Two W g na aa n ca xa oa nb ab m cb xb ob w) :
    w.cell? ⟨g, 0, none⟩ = some (.bool na) ∧ w.cell? ⟨g, 1, none⟩ = some (.slice aa n ca) ∧ w.cell? ⟨g + 1, 0, none⟩ = some (.bool nb) ∧ w.cell? ⟨g + 1, 1, none⟩ = some (.slice ab m cb) :=
  ⟨(Blk.two h.fa).1, (Blk.two h.fa).2.1, (Blk.two h.fb).1, (Blk.two h.fb).2.1⟩
theorem fld (ng : Bool) (S : ByteArray) (W : World) : Sem.run Tryz.prog (Instr.field 40 (.agg #[.bool ng, .string S]) 1) W = .ok (.string S) W := by
  simp [Instr.field, go_sem, asAgg]
theorem idt_gcd (na nb : Bool) {A B : Int} (ha : 0 ≤ A) (hb : 0 ≤ B) : (⟨(idt ((Int.gcd (sg na A) (sg nb B) : Nat) : Int)).toArray⟩ : ByteArray) = dt (Nat.gcd A.toNat B.toNat) := by
  have e : Int.gcd (sg na A) (sg nb B) = Nat.gcd A.toNat B.toNat := by
    have e1 : (sg na A).natAbs = A.toNat := by cases na <;> simp only [sg, if_true, Bool.false_eq_true, if_false] <;> omega
    have e2 : (sg nb B).natAbs = B.toNat := by cases nb <;> simp only [sg, if_true, Bool.false_eq_true, if_false] <;> omega
    unfold Int.gcd
    rw [e1, e2]
  rw [e]
  unfold idt dt
  rw [if_neg (by omega), Int.natAbs_natCast]
set_option maxHeartbeats 6400000 in
set_option maxRecDepth 100000 in
theorem gcds_few (na : Bool) (aa : Option Addr) (n ca : Nat) (xa : Nat → Int) (oa : Nat) (nb : Bool) (ab : Option Addr) (m cb : Nat) (xb : Nat → Int) (ob : Nat) (w : World)
    (ha : Sl w (.slice aa n ca) n xa oa) (hb : Sl w (.slice ab m cb) m xb ob) (hn : n ≤ 4) (hm : m ≤ 4) (ht : Tab w) :
    Calls Tryz.prog 4 #[.agg #[.bool na, .slice aa n ca], .agg #[.bool nb, .slice ab m cb]] w fun e w' => e = .returned (.bool true) ∧ Below w.heap.size w w' := by
  have a0 := V_bd n ha.wd
  have b0 := V_bd m hb.wd
  have LA := hid (len_of (u := (V xa oa n).toNat) (k := n) (by have := a0; omega))
  have LB := hid (len_of (u := (V xb ob m).toNat) (k := m) (by have := b0; omega))
  rw [← dt_size] at LA LB
  have EG := hid (idt_gcd na nb a0.1 b0.1)
  have h0 : Below w.heap.size w ((w.alloc (.cells #[.bool na, .slice aa n ca] 25)).alloc (.cells #[.bool nb, .slice ab m cb] 25)) := bt (below_new w _) (below_new _ _)
  have K : Hid (Two w w.heap.size na aa n ca xa oa nb ab m cb xb ob ((w.alloc (.cells #[.bool na, .slice aa n ca] 25)).alloc (.cells #[.bool nb, .slice ab m cb] 25))) := by
    refine ⟨h0, Blk.go2 (Blk.new _ _ _) (below_new _ _), ?_, ha.below h0, hb.below h0, ht.below h0 ht.lt⟩
    have := Blk.new (w.alloc (.cells #[.bool na, .slice aa n ca] 25)) #[.bool nb, .slice ab m cb] 25
    rw [World.size_alloc] at this
    exact this
  have hn' : ¬ (4 : Int) < (n : Int) := by omega
  have hm' : ¬ (4 : Int) < (m : Int) := by omega
  clear h0 ha hb ht a0 b0
  go_enter Tryz.func4, Tryz.ntmps4
  go_wp2_with fail
  generalize (w.alloc (.cells #[.bool na, .slice aa n ca] 25)).alloc (.cells #[.bool nb, .slice ab m cb] 25) = wa at *
  generalize hg : w.heap.size = g at *
  have D := hid (K.out.go (Below.refl _ _).drew)
  have K0 := D.out.cells
  clear K
  go_region_held3 (fun W => W.cell? ⟨g, 0, none⟩ = some (.bool na) ∧ W.cell? ⟨g, 1, none⟩ = some (.slice aa n ca) ∧ W.cell? ⟨g + 1, 0, none⟩ = some (.bool nb) ∧ W.cell? ⟨g + 1, 1, none⟩ = some (.slice ab m cb)) (first | exact K0 | exact K1 | exact K2 | exact K3 | exact K4 | exact K5 | exact K6 | exact K7 | exact K8) (first
    | (go_at_call 7; go_must (first
      | (refine (lof_any na aa n ca xa oa wa.drew D.out.sa (by omega)).mono ?_; rintro e w1 ⟨⟨v1, rfl, i1⟩, C1⟩; obtain ⟨p1, o1, l1, c1, rfl⟩ := i1.shape; have I1 := hid i1; have D1 := hid (D.out.go C1); have K1 := D1.out.cells; clear C1 i1)
      | (refine (lof_any nb ab m cb xb ob w1 D1.out.sb (by omega)).mono ?_; rintro e w2 ⟨⟨v2, rfl, i2⟩, C2⟩; obtain ⟨p2, o2, l2, c2, rfl⟩ := i2.shape; have I2 := hid i2; have J1 := hid (I1.out.below C2); have D2 := hid (D1.out.go C2); have K2 := D2.out.cells; clear C2 i2)))
    | (go_at_call 19; go_must (refine (bgcd_any _ _ n m _ _ w2 J1.out I2.out (by omega) (by omega)).mono ?_; rintro e w3 ⟨⟨v3, rfl, i3⟩, C3⟩; obtain ⟨p3, o3, l3, c3, rfl⟩ := i3.shape; have I3 := hid i3; have D3 := hid (D2.out.go C3); have K3 := D3.out.cells; clear C3 i3))
    | (go_at_call 20; go_must (refine (Print_any _ (max n m) _ w3 I3.out (by omega) D3.out.tab).mono ?_; rw [EG.out]; rintro e w4 ⟨rfl, C4⟩; have D4 := hid (D3.out.go C4); have K4 := D4.out.cells; clear C4))
    | (go_at_call 13; go_must (first
      | (refine (plain_any na aa n ca xa oa w4 D4.out.sa (by omega)).mono ?_; rintro e w5 ⟨⟨ng5, rfl⟩, C5⟩; have f5 := fld ng5 (dt (V xa oa n).toNat); have D5 := hid (D4.out.go C5); have K5 := D5.out.cells; clear C5)
      | (refine (plain_any nb ab m cb xb ob w5 D5.out.sb (by omega)).mono ?_; rintro e w6 ⟨⟨ng6, rfl⟩, C6⟩; have f6 := fld ng6 (dt (V xb ob m).toNat); have D6 := hid (D5.out.go C6); have K6 := D6.out.cells; clear C6)))
    | (go_at_call 21; go_must (refine (rgcd_any (V xa oa n).toNat (V xb ob m).toNat w6 (by have := LA.out; omega) (by have := LB.out; omega)).mono ?_; rintro e w7 ⟨rfl, C7⟩; have D7 := hid (D6.out.go C7); have K7 := D7.out.cells; clear C7))
    | (go_at_call 6; go_must (refine (awake_any w7 D7.out.tab).mono ?_; rintro e w8 ⟨rfl, C8⟩; have D8 := hid (D7.out.go C8); have K8 := D8.out.cells; clear C8)))
  go_wp2
  go_ret
  exact ⟨rfl, hg ▸ D8.out.old⟩
set_option maxHeartbeats 1600000 in
set_option maxRecDepth 100000 in
theorem gcds_law (na : Bool) (aa : Option Addr) (n ca : Nat) (xa : Nat → Int) (oa : Nat) (nb : Bool) (ab : Option Addr) (m cb : Nat) (xb : Nat → Int) (ob : Nat) (w : World)
    (ha : Sl w (.slice aa n ca) n xa oa) (hb : Sl w (.slice ab m cb) m xb ob) (ht : Tab w) :
    Calls Tryz.prog 4 #[.agg #[.bool na, .slice aa n ca], .agg #[.bool nb, .slice ab m cb]] w fun e w' => e = .returned (.bool true) ∧ Below w.heap.size w w' := by
  by_cases hn : n ≤ 4
  · by_cases hm : m ≤ 4
    · exact gcds_few na aa n ca xa oa nb ab m cb xb ob w ha hb hn hm ht
    · have h0 : Below w.heap.size w ((w.alloc (.cells #[.bool na, .slice aa n ca] 25)).alloc (.cells #[.bool nb, .slice ab m cb] 25)) := bt (below_new w _) (below_new _ _)
      have B := hid h0
      have HT := hid (ht.below h0 ht.lt)
      have hn' : ¬ (4 : Int) < (n : Int) := by omega
      have hm' : (4 : Int) < (m : Int) := by omega
      clear h0 ht ha hb hn hm
      go_enter Tryz.func4, Tryz.ntmps4
      go_wp2_with fail
      refine (awake_any _ HT.out).mono ?_
      rintro e w7 ⟨rfl, C7⟩
      have B7 := hid (bt B.out C7)
      clear C7
      go_wp2
      go_ret
      exact ⟨rfl, B7.out⟩
  · have h0 : Below w.heap.size w ((w.alloc (.cells #[.bool na, .slice aa n ca] 25)).alloc (.cells #[.bool nb, .slice ab m cb] 25)) := bt (below_new w _) (below_new _ _)
    have B := hid h0
    have HT := hid (ht.below h0 ht.lt)
    have hn' : (4 : Int) < (n : Int) := by omega
    clear h0 ht ha hb hn
    go_enter Tryz.func4, Tryz.ntmps4
    go_wp2_with fail
    refine (awake_any _ HT.out).mono ?_
    rintro e w7 ⟨rfl, C7⟩
    have B7 := hid (bt B.out C7)
    clear C7
    go_wp2
    go_ret
    exact ⟨rfl, B7.out⟩
end Go.Proofs.YtnaiahjgdakneaaGreatDoor
