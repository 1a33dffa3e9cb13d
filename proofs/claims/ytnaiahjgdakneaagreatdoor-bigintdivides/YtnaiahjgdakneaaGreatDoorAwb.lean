/- The chapter's examples: 'awake' answers true. -/
import Derived.Test.YtnaiahjgdakneaaGreatDoorRga
import Derived.Test.YtnaiahjgdakneaaGreatDoorInte
import Derived.Test.YtnaiahjgdakneaaGreatDoorIntt
namespace Go.Proofs.YtnaiahjgdakneaaGreatDoor
open Go.RowKit Num

theorem idt_m4 : (⟨(idt (-4)).toArray⟩ : ByteArray) = ⟨#[45, 52]⟩ := by decide +kernel
theorem idt_1 : (⟨(idt 1).toArray⟩ : ByteArray) = ⟨#[49]⟩ := by decide +kernel
theorem idt_m3 : (⟨(idt (-3)).toArray⟩ : ByteArray) = ⟨#[45, 51]⟩ := by decide +kernel
theorem idt_m1 : (⟨(idt (-1)).toArray⟩ : ByteArray) = ⟨#[45, 49]⟩ := by decide +kernel
set_option maxHeartbeats 3200000 in
set_option maxRecDepth 100000 in
theorem awake_any (w : World) (ht : Tab w) : Calls Tryz.prog 6 #[] w fun e w' => e = .returned (.bool true) ∧ Below w.heap.size w w' := by
  have HT := hid ht
  clear ht
  go_enter Tryz.func6, Tryz.ntmps6
  go_wp2_with fail
  refine (Of_any (-7) _ (by decide) (by decide)).mono ?_
  rintro e w1 ⟨v1, rfl, i1, C1⟩
  obtain ⟨p1, ao1, k1, c1, rfl⟩ := i1.shape
  have V1 := hid (var_mk w1 p1 ao1 k1 c1)
  have I1 := hid (i1.alloc (.cells #[.bool p1, .slice ao1 k1 c1] 30))
  have T1 := hid (bt C1 (below_new w1 (.cells #[.bool p1, .slice ao1 k1 c1] 30)))
  clear i1 C1
  go_wp2_with fail
  generalize w1.alloc (.cells #[.bool p1, .slice ao1 k1 c1] 30) = w2 at *
  generalize w1.heap.size = gx at *
  refine wp_region_each (by kernel_rfl) (fun s => ⟨#[_, _, s 7, s 8, s 11, _, _, _, _, _, _, s 3, s 0, s 1, s 2, s 4, s 5, s 6, _, _, _, _, _, _, _, _, _, _, _, _, _, _, _, _, _, _, _, _, _, _, _, _, _, _, _, _, _, _, _, _, _, _, _, _, _, _, _, _, _], []⟩)
    (RM (.agg #[.bool p1, .slice ao1 k1 c1]) 1 2 10 (-4) (1) w2.drew.heap.size) (CM w2.drew gx p1 ao1 k1 c1 1 (-7)) (by kernel_rfl) ?_ ?_ (fun _ => undef) _ _ rfl ?_
  · refine ⟨?_, ?_, ?_, ?_, ?_, ?_, ?_, ?_, ?_, ?_, ?_, ?_, trivial⟩
    · intro s w hC hd K hK
      obtain ⟨x0, x1, x2, x3, x4⟩ := Var.facts hC.var
      have HC := hid hC
      clear hC hd
      go_simp
      exact hK _ _ (HC.out.put (by decide) (by decide)) (upd_same _ _ _) (fun j _ hj _ hr => RM.put j hj (fun _ => by decide) (fun _ => by decide) hr)
    · intro s w hC hd K hK
      have HC := hid hC
      clear hC hd
      go_simp
      refine (Of_any 2 _ (by decide) (by decide)).mono ?_
      rintro e w' ⟨v, rfl, i, B⟩
      go_simp
      exact hK _ _ ((HC.out.go B).put (by decide) (by decide)) (by show It _ (upd s 1 v 1) 1 2; rw [upd_same]; exact i) (fun j _ hj _ hr => RM.put j hj (fun _ => by decide) (fun _ => by decide) (RM.below B j hr))
    · intro s w hC hd K hK
      obtain ⟨d0, d1, _⟩ := hd
      have e0 : s 0 = _ := d0 rfl
      have i1 : It w (s 1) 1 2 := d1 rfl
      have HC := hid hC
      have J1 := hid i1
      have E0 := hid e0
      clear hC d0 d1 i1 e0
      go_simp
      refine (DivMod_any _ _ 1 1 (-7) 2 w (by rw [E0.out]; exact HC.out.num) J1.out (by decide) (by decide) (by decide)).mono ?_
      rintro e w' ⟨v1, v2, Q, R, rfl, i1, i2, dd, B⟩
      have hQ : Q = -4 := by unfold DivIs at dd; omega
      have hR : R = 1 := by unfold DivIs at dd; omega
      have j1 := (i1.cast hQ).mono (show 1 + 2 ≤ 10 by decide)
      have j2 := (i2.cast hR).mono (show max 1 1 + 1 ≤ 10 by decide)
      clear i1 i2 dd hQ hR
      go_simp
      exact hK _ _ ((HC.out.go B).put (by decide) (by decide)) (by show Pair3 _ (upd s 2 _ 2) 10 (-4) (1); rw [upd_same]; exact ⟨v1, v2, rfl, j1, j2⟩) (fun j _ hj _ hr => RM.put j hj (fun _ => by decide) (fun _ => by decide) (RM.below B j hr))
    · intro s w hC hd K hK
      obtain ⟨d2, _⟩ := hd
      have i2 : Pair3 w (s 2) 10 (-4) (1) := d2 rfl
      clear d2
      go_simp
      exact hK _ _ (hC.put (by decide) (by decide)) (by show Pair3 _ (upd s 3 _ 3) 10 (-4) (1); rw [upd_same]; exact i2) (fun j _ hj _ hr => RM.put j hj (fun _ => by decide) (fun _ => by decide) hr)
    · intro s w hC hd K hK
      obtain ⟨d3, _⟩ := hd
      obtain ⟨v1, v2, e3, i1, i2⟩ := (show Pair3 w (s 3) 10 (-4) (1) from d3 rfl)
      clear d3
      go_simp
      rw [← e3]
      exact hK _ _ (hC.put (by decide) (by decide)) (by show It _ (upd s 4 _ 4) 10 (-4); rw [upd_same]; exact i1) (fun j _ hj _ hr => RM.put j hj (fun _ => by decide) (fun _ => by decide) hr)
    · intro s w hC hd K hK
      obtain ⟨d3, _⟩ := hd
      obtain ⟨v1, v2, e3, i1, i2⟩ := (show Pair3 w (s 3) 10 (-4) (1) from d3 rfl)
      clear d3
      go_simp
      rw [← e3]
      exact hK _ _ (hC.put (by decide) (by decide)) (by show It _ (upd s 5 _ 5) 10 (1); rw [upd_same]; exact i2) (fun j _ hj _ hr => RM.put j hj (fun _ => by decide) (fun _ => by decide) hr)
    · intro s w hC hd K hK
      obtain ⟨d3, _⟩ := hd
      obtain ⟨v1, v2, e3, i1, i2⟩ := (show Pair3 w (s 3) 10 (-4) (1) from d3 rfl)
      clear d3
      go_simp
      rw [← e3]
      exact hK _ _ (hC.put (by decide) (by decide)) (upd_same _ _ _) (fun j _ hj _ hr => RM.put j hj (fun _ => by decide) (fun _ => by decide) hr)
    · intro s w hC hd K hK
      clear hd
      go_simp
      have z := varP_new (w := w) (M := w2.drew.heap.size) hC.old.size
      exact hK _ _ (hC.new7 z) (by show VarP _ (upd s 7 _ 7) _; rw [upd_same]; exact z) (fun j _ hj hw hr => RM.put j hj (fun e => by subst e; exact absurd hw (by decide)) (fun _ => by decide) (RM.below (below_new w _) j hr))
    · intro s w hC hd K hK
      clear hd
      go_simp
      have z := varP_new (w := w) (M := w2.drew.heap.size) hC.old.size
      exact hK _ _ (hC.new8 z) (by show VarP _ (upd s 8 _ 8) _; rw [upd_same]; exact z) (fun j _ hj hw hr => RM.put j hj (fun _ => by decide) (fun e => by subst e; exact absurd hw (by decide)) (RM.below (below_new w _) j hr))
    · intro s w hC hd K hK
      obtain ⟨d7, d4, _⟩ := hd
      obtain ⟨g, p, ao, k, c, e7, hg, hv⟩ := (show VarP w (s 7) _ from d7 rfl)
      have i4 : It w (s 4) 10 (-4) := d4 rfl
      obtain ⟨p', ao', k', c', e4⟩ := i4.shape
      rw [e4] at i4
      have HC := hid hC
      have HV := hid hv
      have I4 := hid i4
      obtain ⟨f0, f1, f2, f3, f4⟩ := Var.facts hv
      clear d7 d4 hC hv i4
      go_simp
      rw [← e7, ← e4]
      exact hK undef (set2 w g p' ao' k' c') ((HC.out.set HV.out hg).put (by decide) (by decide)) ⟨g, p', ao', k', c', (upd_other s (i := 9) (j := 7) undef (by decide)).trans e7, HV.out.set, I4.out.off HV.out (only_set2 _ _ _ _ _ _)⟩ (fun j _ hj hw hr => RM.put j hj (fun _ => by decide) (fun _ => by decide) (RM.set HV.out j (fun e => absurd e hj) (fun e => by subst e; exact absurd hw (by decide)) hr))
    · intro s w hC hd K hK
      obtain ⟨d7, d4, _⟩ := hd
      obtain ⟨g, p, ao, k, c, e7, hg, hv⟩ := (show VarP w (s 8) _ from d7 rfl)
      have i4 : It w (s 5) 10 (1) := d4 rfl
      obtain ⟨p', ao', k', c', e4⟩ := i4.shape
      rw [e4] at i4
      have HC := hid hC
      have HV := hid hv
      have I4 := hid i4
      obtain ⟨f0, f1, f2, f3, f4⟩ := Var.facts hv
      clear d7 d4 hC hv i4
      go_simp
      rw [← e7, ← e4]
      exact hK undef (set2 w g p' ao' k' c') ((HC.out.set HV.out hg).put (by decide) (by decide)) ⟨g, p', ao', k', c', (upd_other s (i := 10) (j := 8) undef (by decide)).trans e7, HV.out.set, I4.out.off HV.out (only_set2 _ _ _ _ _ _)⟩ (fun j _ hj hw hr => RM.put j hj (fun _ => by decide) (fun _ => by decide) (RM.set HV.out j (fun _ e => HC.out.two g e e7) (fun e => absurd e hj) hr))
    · intro s w hC hd K hK
      obtain ⟨d6, _⟩ := hd
      have e6 : Hid (s 6 = .int .i64 0) := d6 rfl
      clear d6
      go_simp
      exact hK _ _ (hC.put (by decide) (by decide)) ((upd_same _ _ _).trans e6.out) (fun j _ hj _ hr => RM.put j hj (fun _ => by decide) (fun _ => by decide) hr)
  · intro s w3 hC hR
    obtain ⟨g2, q2, e7, V2, I2⟩ := (show HoldP w3 (s 7) 10 (-4) from hR 9 (by decide)).parts
    obtain ⟨g3, q3, e8, V3, I3⟩ := (show HoldP w3 (s 8) 10 (1) from hR 10 (by decide)).parts
    have e11 : s 11 = .int .i64 0 := hR 11 (by decide)
    have B3 := hid hC.old
    clear hC hR
    simp only [e7, e8, e11]
    clear e11 e7 e8
    have T3 := hid (bt T1.out (bt (Below.refl _ _).drew B3.out))
    have X1 := hid (V1.out.go (bt (Below.refl _ _).drew B3.out))
    have Y1 := hid (I1.out.below (bt (Below.refl _ _).drew B3.out))
    have HV2 := hid V2
    have HV3 := hid V3
    have HI2 := hid I2
    have HI3 := hid I3
    clear V2 V3 I2 I3 B3 V1 I1 T1
    go_wp2_with fail
    refine wp_region_each (by kernel_rfl) (fun s => ⟨#[_, _, _, _, _, s 7, s 8, s 11, _, _, _, _, _, _, _, _, _, _, s 3, s 0, s 1, s 2, s 4, s 5, s 6, _, _, _, _, _, _, _, _, _, _, _, _, _, _, _, _, _, _, _, _, _, _, _, _, _, _, _, _, _, _, _, _, _, _], []⟩)
      (RM (.agg #[.bool p1, .slice ao1 k1 c1]) 1 2 10 (-3) (-1) w3.drew.heap.size) (CM w3.drew gx p1 ao1 k1 c1 1 (-7)) (by kernel_rfl) ?_ ?_ (fun _ => undef) _ _ rfl ?_
    · refine ⟨?_, ?_, ?_, ?_, ?_, ?_, ?_, ?_, ?_, ?_, ?_, ?_, trivial⟩
      · intro s w hC hd K hK
        obtain ⟨x0, x1, x2, x3, x4⟩ := Var.facts hC.var
        have HC := hid hC
        clear hC hd
        go_simp
        exact hK _ _ (HC.out.put (by decide) (by decide)) (upd_same _ _ _) (fun j _ hj _ hr => RM.put j hj (fun _ => by decide) (fun _ => by decide) hr)
      · intro s w hC hd K hK
        have HC := hid hC
        clear hC hd
        go_simp
        refine (Of_any 2 _ (by decide) (by decide)).mono ?_
        rintro e w' ⟨v, rfl, i, B⟩
        go_simp
        exact hK _ _ ((HC.out.go B).put (by decide) (by decide)) (by show It _ (upd s 1 v 1) 1 2; rw [upd_same]; exact i) (fun j _ hj _ hr => RM.put j hj (fun _ => by decide) (fun _ => by decide) (RM.below B j hr))
      · intro s w hC hd K hK
        obtain ⟨d0, d1, _⟩ := hd
        have e0 : s 0 = _ := d0 rfl
        have i1 : It w (s 1) 1 2 := d1 rfl
        have HC := hid hC
        have J1 := hid i1
        have E0 := hid e0
        clear hC d0 d1 i1 e0
        go_simp
        refine (QuoRem_any _ _ 1 1 (-7) 2 w (by rw [E0.out]; exact HC.out.num) J1.out (by decide) (by decide) (by decide)).mono ?_
        rintro e w' ⟨v1, v2, Q, R, rfl, i1, i2, dd, B⟩
        have hQ : Q = -3 := by unfold QuoIs at dd; omega
        have hR : R = -1 := by unfold QuoIs at dd; omega
        have j1 := (i1.cast hQ).mono (show 1 ≤ 10 by decide)
        have j2 := (i2.cast hR).mono (show max 1 1 ≤ 10 by decide)
        clear i1 i2 dd hQ hR
        go_simp
        exact hK _ _ ((HC.out.go B).put (by decide) (by decide)) (by show Pair3 _ (upd s 2 _ 2) 10 (-3) (-1); rw [upd_same]; exact ⟨v1, v2, rfl, j1, j2⟩) (fun j _ hj _ hr => RM.put j hj (fun _ => by decide) (fun _ => by decide) (RM.below B j hr))
      · intro s w hC hd K hK
        obtain ⟨d2, _⟩ := hd
        have i2 : Pair3 w (s 2) 10 (-3) (-1) := d2 rfl
        clear d2
        go_simp
        exact hK _ _ (hC.put (by decide) (by decide)) (by show Pair3 _ (upd s 3 _ 3) 10 (-3) (-1); rw [upd_same]; exact i2) (fun j _ hj _ hr => RM.put j hj (fun _ => by decide) (fun _ => by decide) hr)
      · intro s w hC hd K hK
        obtain ⟨d3, _⟩ := hd
        obtain ⟨v1, v2, e3, i1, i2⟩ := (show Pair3 w (s 3) 10 (-3) (-1) from d3 rfl)
        clear d3
        go_simp
        rw [← e3]
        exact hK _ _ (hC.put (by decide) (by decide)) (by show It _ (upd s 4 _ 4) 10 (-3); rw [upd_same]; exact i1) (fun j _ hj _ hr => RM.put j hj (fun _ => by decide) (fun _ => by decide) hr)
      · intro s w hC hd K hK
        obtain ⟨d3, _⟩ := hd
        obtain ⟨v1, v2, e3, i1, i2⟩ := (show Pair3 w (s 3) 10 (-3) (-1) from d3 rfl)
        clear d3
        go_simp
        rw [← e3]
        exact hK _ _ (hC.put (by decide) (by decide)) (by show It _ (upd s 5 _ 5) 10 (-1); rw [upd_same]; exact i2) (fun j _ hj _ hr => RM.put j hj (fun _ => by decide) (fun _ => by decide) hr)
      · intro s w hC hd K hK
        obtain ⟨d3, _⟩ := hd
        obtain ⟨v1, v2, e3, i1, i2⟩ := (show Pair3 w (s 3) 10 (-3) (-1) from d3 rfl)
        clear d3
        go_simp
        rw [← e3]
        exact hK _ _ (hC.put (by decide) (by decide)) (upd_same _ _ _) (fun j _ hj _ hr => RM.put j hj (fun _ => by decide) (fun _ => by decide) hr)
      · intro s w hC hd K hK
        clear hd
        go_simp
        have z := varP_new (w := w) (M := w3.drew.heap.size) hC.old.size
        exact hK _ _ (hC.new7 z) (by show VarP _ (upd s 7 _ 7) _; rw [upd_same]; exact z) (fun j _ hj hw hr => RM.put j hj (fun e => by subst e; exact absurd hw (by decide)) (fun _ => by decide) (RM.below (below_new w _) j hr))
      · intro s w hC hd K hK
        clear hd
        go_simp
        have z := varP_new (w := w) (M := w3.drew.heap.size) hC.old.size
        exact hK _ _ (hC.new8 z) (by show VarP _ (upd s 8 _ 8) _; rw [upd_same]; exact z) (fun j _ hj hw hr => RM.put j hj (fun _ => by decide) (fun e => by subst e; exact absurd hw (by decide)) (RM.below (below_new w _) j hr))
      · intro s w hC hd K hK
        obtain ⟨d7, d4, _⟩ := hd
        obtain ⟨g, p, ao, k, c, e7, hg, hv⟩ := (show VarP w (s 7) _ from d7 rfl)
        have i4 : It w (s 4) 10 (-3) := d4 rfl
        obtain ⟨p', ao', k', c', e4⟩ := i4.shape
        rw [e4] at i4
        have HC := hid hC
        have HV := hid hv
        have I4 := hid i4
        obtain ⟨f0, f1, f2, f3, f4⟩ := Var.facts hv
        clear d7 d4 hC hv i4
        go_simp
        rw [← e7, ← e4]
        exact hK undef (set2 w g p' ao' k' c') ((HC.out.set HV.out hg).put (by decide) (by decide)) ⟨g, p', ao', k', c', (upd_other s (i := 9) (j := 7) undef (by decide)).trans e7, HV.out.set, I4.out.off HV.out (only_set2 _ _ _ _ _ _)⟩ (fun j _ hj hw hr => RM.put j hj (fun _ => by decide) (fun _ => by decide) (RM.set HV.out j (fun e => absurd e hj) (fun e => by subst e; exact absurd hw (by decide)) hr))
      · intro s w hC hd K hK
        obtain ⟨d7, d4, _⟩ := hd
        obtain ⟨g, p, ao, k, c, e7, hg, hv⟩ := (show VarP w (s 8) _ from d7 rfl)
        have i4 : It w (s 5) 10 (-1) := d4 rfl
        obtain ⟨p', ao', k', c', e4⟩ := i4.shape
        rw [e4] at i4
        have HC := hid hC
        have HV := hid hv
        have I4 := hid i4
        obtain ⟨f0, f1, f2, f3, f4⟩ := Var.facts hv
        clear d7 d4 hC hv i4
        go_simp
        rw [← e7, ← e4]
        exact hK undef (set2 w g p' ao' k' c') ((HC.out.set HV.out hg).put (by decide) (by decide)) ⟨g, p', ao', k', c', (upd_other s (i := 10) (j := 8) undef (by decide)).trans e7, HV.out.set, I4.out.off HV.out (only_set2 _ _ _ _ _ _)⟩ (fun j _ hj hw hr => RM.put j hj (fun _ => by decide) (fun _ => by decide) (RM.set HV.out j (fun _ e => HC.out.two g e e7) (fun e => absurd e hj) hr))
      · intro s w hC hd K hK
        obtain ⟨d6, _⟩ := hd
        have e6 : Hid (s 6 = .int .i64 0) := d6 rfl
        clear d6
        go_simp
        exact hK _ _ (hC.put (by decide) (by decide)) ((upd_same _ _ _).trans e6.out) (fun j _ hj _ hr => RM.put j hj (fun _ => by decide) (fun _ => by decide) hr)
    · intro s w4 hC hR
      obtain ⟨g4, q4, e7, V4, I4⟩ := (show HoldP w4 (s 7) 10 (-3) from hR 9 (by decide)).parts
      obtain ⟨g5, q5, e8, V5, I5⟩ := (show HoldP w4 (s 8) 10 (-1) from hR 10 (by decide)).parts
      have e11 : s 11 = .int .i64 0 := hR 11 (by decide)
      have B4 := hid hC.old
      clear hC hR
      simp only [e7, e8, e11]
      clear e11 e7 e8
      have T4 := hid (bt T3.out (bt (Below.refl _ _).drew B4.out))
      have B34 : Hid (Below w3.heap.size w3 w4) := bt (Below.refl _ _).drew B4.out
      have U2 := hid (HV2.out.go B34.out)
      have U3 := hid (HV3.out.go B34.out)
      have N2 := hid (HI2.out.below B34.out)
      have N3 := hid (HI3.out.below B34.out)
      have U4 := hid V4
      have U5 := hid V5
      have N4 := hid I4
      have N5 := hid I5
      clear V4 V5 I4 I5 HV2 HV3 HI2 HI3 B34 B4 T3 X1 Y1
      go_wp2_with fail
      refine (Parse_minus0 _).mono ?_
      rintro e w5 ⟨⟨v, rfl, iv⟩, B0⟩
      obtain ⟨p6, ao6, k6, c6, rfl⟩ := iv.shape
      have B := bt B0 (below_new w5 (.cells #[.bool p6, .slice ao6 k6 c6] 30))
      have T5 := hid (bt T4.out B)
      clear iv B0
      have U2' := hid (U2.out.go B)
      have N2' := hid (N2.out.below B)
      have U3' := hid (U3.out.go B)
      have N3' := hid (N3.out.below B)
      have U4' := hid (U4.out.go B)
      have N4' := hid (N4.out.below B)
      have U5' := hid (U5.out.go B)
      have N5' := hid (N5.out.below B)
      clear B T4 U2 U3 U4 U5 N2 N3 N4 N5
      obtain ⟨y20, y21, y22, y23, y24⟩ := Var.facts U2'.out
      go_wp2_with fail
      refine (Print_any _ 10 (-4) _ N2'.out (by decide) (HT.out.below T5.out HT.out.lt)).mono ?_
      rintro e w6 ⟨rfl, B⟩
      rw [idt_m4]
      have T6 := hid (bt T5.out B)
      have U3'' := hid (U3'.out.go B)
      have N3'' := hid (N3'.out.below B)
      have U4'' := hid (U4'.out.go B)
      have N4'' := hid (N4'.out.below B)
      have U5'' := hid (U5'.out.go B)
      have N5'' := hid (N5'.out.below B)
      clear B y20 y21 y22 y23 y24
      obtain ⟨y30, y31, y32, y33, y34⟩ := Var.facts U3''.out
      go_wp2_with fail
      refine (Print_any _ 10 (1) _ N3''.out (by decide) (HT.out.below T6.out HT.out.lt)).mono ?_
      rintro e w7 ⟨rfl, B⟩
      rw [idt_1]
      have T7 := hid (bt T6.out B)
      have U4''' := hid (U4''.out.go B)
      have N4''' := hid (N4''.out.below B)
      have U5''' := hid (U5''.out.go B)
      have N5''' := hid (N5''.out.below B)
      clear B y30 y31 y32 y33 y34
      obtain ⟨y40, y41, y42, y43, y44⟩ := Var.facts U4'''.out
      go_wp2_with fail
      refine (Print_any _ 10 (-3) _ N4'''.out (by decide) (HT.out.below T7.out HT.out.lt)).mono ?_
      rintro e w8 ⟨rfl, B⟩
      rw [idt_m3]
      have T8 := hid (bt T7.out B)
      have U5'''' := hid (U5'''.out.go B)
      have N5'''' := hid (N5'''.out.below B)
      clear B y40 y41 y42 y43 y44
      obtain ⟨y50, y51, y52, y53, y54⟩ := Var.facts U5''''.out
      go_wp2_with fail
      refine (Print_any _ 10 (-1) _ N5''''.out (by decide) (HT.out.below T8.out HT.out.lt)).mono ?_
      rintro e w9 ⟨rfl, B⟩
      rw [idt_m1]
      have T9 := hid (bt T8.out B)
      clear B y50 y51 y52 y53 y54
      go_wp2
      go_ret
      exact ⟨rfl, T9.out⟩
    · refine ⟨Below.refl _ _, X1.out.go (Below.refl _ _).drew, ?_, Y1.out.below (Below.refl _ _).drew, Or.inl rfl, Or.inl rfl, fun g a _ => undef_ne a⟩
      have := Blk.lt X1.out
      simpa using this
  · refine ⟨Below.refl _ _, V1.out.go (Below.refl _ _).drew, ?_, I1.out.below (Below.refl _ _).drew, Or.inl rfl, Or.inl rfl, fun g a _ => undef_ne a⟩
    have := Blk.lt V1.out
    simpa using this
end Go.Proofs.YtnaiahjgdakneaaGreatDoor
