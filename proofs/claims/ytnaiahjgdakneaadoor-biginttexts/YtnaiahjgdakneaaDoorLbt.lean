/- The law BigintTexts, walked. -/
import Derived.Test.YtnaiahjgdakneaaDoorRtx
import Derived.Deep.RegionHeld3
namespace Go.Proofs.YtnaiahjgdakneaaDoor
open Go.RowKit Num
open Go.Lib (decDigits)

theorem Blk.go2 {w w' : World} {g : Nat} {cs : Array Value} {t : TypeId} (h : Blk w g cs t) (b : Below w.heap.size w w') : Blk w' g cs t := h.below b (Blk.lt h)
set_option maxHeartbeats 1600000 in
set_option maxRecDepth 100000 in
theorem is_same (p : Bool) (ao : Option Addr) (k c n : Nat) (A : Int) (ng : Bool) (S : ByteArray) (w : World) (h : It w (.agg #[.bool p, .slice ao k c]) n A) (hn : n ≤ 100000) (hS : S.size ≤ 100000) (ht : Tab w) (e : (⟨(idt A).toArray⟩ : ByteArray) = rtx ng S) :
    Calls Tryd.prog 8 #[.agg #[.bool p, .slice ao k c], .agg #[.bool ng, .string S]] w fun e w' => e = .returned (.bool true) ∧ Below w.heap.size w w' := by
  have HT := hid ht
  have H := hid h
  have E := hid e
  have B0 : Hid (Below w.heap.size w ((w.alloc (.cells #[.bool p, .slice ao k c] 26)).alloc (.cells #[.bool ng, .string S] 31))) := bt (below_new w _) (below_new _ _)
  have G0 : Hid (Blk ((w.alloc (.cells #[.bool p, .slice ao k c] 26)).alloc (.cells #[.bool ng, .string S] 31)) (w.heap.size + 1) #[.bool ng, .string S] 31) := by
    have := Blk.new (w.alloc (.cells #[.bool p, .slice ao k c] 26)) #[.bool ng, .string S] 31
    rw [World.size_alloc] at this
    exact this
  have V0 : Hid (Var ((w.alloc (.cells #[.bool p, .slice ao k c] 26)).alloc (.cells #[.bool ng, .string S] 31)) w.heap.size p ao k c) := (var_mk w p ao k c).alloc _
  clear h ht e
  go_enter Tryd.func8, Tryd.ntmps8
  go_wp2_with fail
  generalize (w.alloc (.cells #[.bool p, .slice ao k c] 26)).alloc (.cells #[.bool ng, .string S] 31) = wa at *
  have K0 : wa.drew.cell? ⟨w.heap.size, 0, none⟩ = some (.bool p) ∧ wa.drew.cell? ⟨w.heap.size, 1, none⟩ = some (.slice ao k c) ∧ wa.drew.cell? ⟨w.heap.size + 1, 0, none⟩ = some (.bool ng) ∧ wa.drew.cell? ⟨w.heap.size + 1, 1, none⟩ = some (.string S) := by
    obtain ⟨a0, a1, _⟩ := Var.facts V0.out
    obtain ⟨b0, b1, _⟩ := Blk.two G0.out
    exact ⟨a0, a1, b0, b1⟩
  go_region_held3 (fun W => W.cell? ⟨w.heap.size, 0, none⟩ = some (.bool p) ∧ W.cell? ⟨w.heap.size, 1, none⟩ = some (.slice ao k c) ∧ W.cell? ⟨w.heap.size + 1, 0, none⟩ = some (.bool ng) ∧ W.cell? ⟨w.heap.size + 1, 1, none⟩ = some (.string S)) (first | exact K0 | exact K1 | exact K2) (first
    | (go_at_call 9; go_must (refine ((Print_any _ n A wa.drew (H.out.below (bt B0.out (Below.refl _ _).drew)) hn (HT.out.below (bt B0.out (Below.refl _ _).drew) HT.out.lt)).mono ?_); rw [E.out]; rintro e w1 ⟨rfl, C1⟩; have B1 := hid (bt (bt B0.out (Below.refl _ _).drew) C1); have V1 := hid ((V0.out.go (Below.refl _ _).drew).go C1); have G1 := hid ((Blk.go2 G0.out (Below.refl _ _).drew).go2 C1); have K1 : w1.cell? ⟨w.heap.size, 0, none⟩ = some (.bool p) ∧ w1.cell? ⟨w.heap.size, 1, none⟩ = some (.slice ao k c) ∧ w1.cell? ⟨w.heap.size + 1, 0, none⟩ = some (.bool ng) ∧ w1.cell? ⟨w.heap.size + 1, 1, none⟩ = some (.string S) := ⟨(Var.facts V1.out).1, (Var.facts V1.out).2.1, (Blk.two G1.out).1, (Blk.two G1.out).2.1⟩; clear C1))
    | (go_at_call 25; go_must (refine (rprint_any ng S w1 hS).mono ?_; rintro e w2 ⟨rfl, C2⟩; have B2 := hid (bt B1.out C2); have K2 : w2.cell? ⟨w.heap.size, 0, none⟩ = some (.bool p) ∧ w2.cell? ⟨w.heap.size, 1, none⟩ = some (.slice ao k c) ∧ w2.cell? ⟨w.heap.size + 1, 0, none⟩ = some (.bool ng) ∧ w2.cell? ⟨w.heap.size + 1, 1, none⟩ = some (.string S) := ⟨(Var.facts (V1.out.go C2)).1, (Var.facts (V1.out.go C2)).2.1, (Blk.two (G1.out.go2 C2)).1, (Blk.two (G1.out.go2 C2)).2.1⟩; clear C2)))
  go_wp2
  go_ret
  exact ⟨rfl, B2.out⟩
set_option maxHeartbeats 1600000 in
set_option maxRecDepth 100000 in
theorem texts_few (s : ByteArray) (neg : Bool) (t : List UInt8) (w : World) (ht : Tab w) (hs : s.size ≤ 200)
    (PA : ∀ w : World, Calls Tryd.prog 6 #[.string s] w fun e w' => (∃ v A c, e = .returned (.tuple #[v, .int .i64 c]) ∧ It w' v 11 A ∧ TX s neg t c ⟨(idt A).toArray⟩) ∧ Below w.heap.size w w')
    (RP : ∀ w : World, Calls Tryd.prog 7 #[.string s] w fun e w' => (∃ ng S c, e = .returned (.tuple #[.agg #[.bool ng, .string S], .int .i64 c]) ∧ S.size ≤ 200 ∧ TX s neg t c (rtx ng S)) ∧ Below w.heap.size w w') :
    Calls Tryd.prog 3 #[.string s] w fun e w' => e = .returned (.bool true) ∧ Below w.heap.size w w' := by
  have HT := hid ht
  have P := hid PA
  have R := hid RP
  have hl : ¬ (200 : Int) < (s.size : Int) := by omega
  clear ht PA RP
  go_enter Tryd.func3, Tryd.ntmps3
  go_wp2_with fail
  refine (P.out _).mono ?_
  rintro e w1 ⟨⟨v, A, c, rfl, i1, t1⟩, C1⟩
  obtain ⟨p, ao, k, cc, rfl⟩ := i1.shape
  have T1 := hid t1
  have V1 := hid (var_mk w1 p ao k cc)
  have I1 := hid (i1.alloc (.cells #[.bool p, .slice ao k cc] 26))
  have B1 := hid (bt C1 (below_new w1 (.cells #[.bool p, .slice ao k cc] 26)))
  clear i1 t1 C1
  go_wp2_with fail
  generalize w1.alloc (.cells #[.bool p, .slice ao k cc] 26) = w2 at *
  generalize w1.heap.size = gx at *
  refine (R.out _).mono ?_
  rintro e w3 ⟨⟨ng, S, c', rfl, hS, t2⟩, C3⟩
  obtain ⟨rfl, hb⟩ := T1.out.uniq t2
  have HB := hid hb
  have G3 : Hid (Blk (w3.alloc (.cells #[.bool ng, .string S] 31)) w3.heap.size #[.bool ng, .string S] 31) := Blk.new _ _ _
  have Cn := bt C3 (below_new w3 (.cells #[.bool ng, .string S] 31))
  have V3 := hid (V1.out.go Cn)
  have I3 := hid (I1.out.below Cn)
  have B3 := hid (bt B1.out Cn)
  clear t2 C3 hb Cn V1 I1 B1
  obtain ⟨y0, y1, y2, y3, y4⟩ := Var.facts V3.out
  obtain ⟨z0, z1, z2, z3, z4⟩ := Blk.two G3.out
  go_wp2_with fail
  generalize w3.alloc (.cells #[.bool ng, .string S] 31) = w4 at *
  refine (is_same p ao k cc 11 A ng S w4 I3.out (by decide) (by omega) (HT.out.below B3.out HT.out.lt) HB.out).mono ?_
  rintro e w5 ⟨rfl, C5⟩
  have V5 := hid (V3.out.go C5)
  have I5 := hid (I3.out.below C5)
  have B5 := hid (bt B3.out C5)
  clear C5 V3 I3 B3 G3 y0 y1 y2 y3 y4 z0 z1 z2 z3 z4
  obtain ⟨y0, y1, y2, y3, y4⟩ := Var.facts V5.out
  rcases T1.out with ⟨_, rfl, hb⟩ | ⟨_, rfl, _⟩
  · have PR := Print_any _ 11 A _ I5.out (by decide) (HT.out.below B5.out HT.out.lt)
    rw [hb] at PR
    have PR' := hid PR
    clear PR hb
    go_wp2_with fail
    refine PR'.out.mono ?_
    rintro e w6 ⟨rfl, C6⟩
    have B6 := hid (bt B5.out C6)
    clear C6 PR' y0 y1 y2 y3 y4
    go_wp2_with fail
    refine (awake_any _ (HT.out.below B6.out HT.out.lt)).mono ?_
    rintro e w7 ⟨rfl, C7⟩
    have B7 := hid (bt B6.out C7)
    clear C7
    go_wp2
    go_ret
    exact ⟨rfl, B7.out⟩
  · go_wp2_with fail
    refine (awake_any _ (HT.out.below B5.out HT.out.lt)).mono ?_
    rintro e w7 ⟨rfl, C7⟩
    have B7 := hid (bt B5.out C7)
    clear C7
    go_wp2
    go_ret
    exact ⟨rfl, B7.out⟩
set_option maxHeartbeats 1600000 in
set_option maxRecDepth 100000 in
theorem texts_law (s : ByteArray) (w : World) (ht : Tab w) :
    Calls Tryd.prog 3 #[.string s] w fun e w' => e = .returned (.bool true) ∧ Below w.heap.size w w' := by
  by_cases hs : s.size ≤ 200
  · by_cases hm : ∃ t, s.data.toList = 45 :: t
    · obtain ⟨t, hm⟩ := hm
      have hsz : s.size = t.length + 1 := by rw [Lib.size_eq, hm]; rfl
      exact texts_few s true t w ht hs (fun w => Parse_any s true t w (by rw [hm]; exact minus_has t) (by rw [hm]; exact minus_trim t) (by unfold Made; rw [hm]; rfl) (by omega)) (fun w => rp_yes s t w hm (by omega))
    · have hm' : ∀ t, s.data.toList ≠ 45 :: t := fun t h => hm ⟨t, h⟩
      have h1 : Lib.hasPrefix s.data.toList [45] = false := by
        cases hc : s.data.toList with
        | nil => rfl
        | cons c t =>
          have hne : (45 == c) = false := by
            rw [beq_eq_false_iff_ne]
            rintro rfl
            exact hm' t hc
          show ((45 == c) && [].isPrefixOf t) = false
          rw [hne]
          rfl
      have h2 : Lib.trimPrefix s.data.toList [45] = s.data.toList := by unfold Lib.trimPrefix; rw [h1]; rfl
      exact texts_few s false s.data.toList w ht hs (fun w => Parse_any s false _ w h1 h2 rfl (by rw [← Lib.size_eq]; exact hs)) (fun w => rp_rest s w hm' hs)
  · have HT := hid ht
    have hl : (200 : Int) < (s.size : Int) := by omega
    clear ht hs
    go_enter Tryd.func3, Tryd.ntmps3
    go_wp2_with fail
    refine (awake_any _ HT.out).mono ?_
    rintro e w7 ⟨rfl, C7⟩
    go_wp2
    go_ret
    exact ⟨rfl, C7⟩
end Go.Proofs.YtnaiahjgdakneaaDoor
