/- Coefficients, in the landed ntt. -/
/- Coefficients as a whole, in the landed ntt. -/
/- Round, in the landed ntt. -/
/- Round as a whole, in the landed ntt. -/
import Derived.Test.YtcclkahoonlieaaDoorXv
import Derived.Test.YtcclkahoonlieaaDoorReg
namespace Go.Proofs.YtcclkahoonlieaaDoor
open Go.RowKit Num Nmb

/-- the inverse's powers are the root's, backwards. -/
theorem dft_back {p : Nat} {w v : Int} {k : Nat} (h : Rt p w k) (hv : Cg p (v * w) 1) (a : Nat → Int) (j : Nat) (hj : j < 2 ^ k) : Cg p (dft a v (2 ^ k) j) (dft a w (2 ^ k) ((2 ^ k - j) % 2 ^ k)) := by
  refine sm_cg _ fun i _ => Cg.rfl.mul ?_
  by_cases h0 : j = 0
  · subst h0
    rw [Nat.sub_zero, Nat.mod_self, Nat.mul_zero, Int.pow_zero, Int.pow_zero]
    exact Cg.rfl
  · rw [Nat.mod_eq_of_lt (by omega)]
    have h1 : Cg p (w ^ (i * 2 ^ k)) 1 := by
      rw [Nat.mul_comm, Int.pow_mul]
      exact h.one.pow_one i
    have h2 : Cg p (v ^ (i * j) * w ^ (i * j)) 1 := by
      rw [← Int.mul_pow]
      exact hv.pow_one _
    have h3 : w ^ (i * 2 ^ k) = w ^ (i * j) * w ^ (i * (2 ^ k - j)) := by
      rw [← Int.pow_add, ← Nat.mul_add, show j + (2 ^ k - j) = 2 ^ k by omega]
    have h4 : Cg p (v ^ (i * j)) (v ^ (i * j) * w ^ (i * 2 ^ k)) := by
      have := (Cg.rfl (p := p) (a := v ^ (i * j))).mul h1.symm
      rw [Int.mul_one] at this
      exact this
    rw [h3, ← Int.mul_assoc] at h4
    have h5 := h2.mul (Cg.rfl (p := p) (a := w ^ (i * (2 ^ k - j))))
    rw [Int.one_mul] at h5
    exact h4.trans h5
/-- what the function of coefficients has captured. -/
structure EnvC (w : World) (gT gV gN gI gS gv gr g gf gm N p k r hh : Nat) (f s c : Int) (z b : Nat → Int) : Prop where
  bT : Box w gT (.pointer (some ⟨g, 0, none⟩))
  bV : Box w gV (.slice (some ⟨gv, 0, none⟩) N N)
  bN : Box w gN (.int .i64 N)
  bI : Box w gI (.int .u64 c)
  bS : Box w gS (.slice (some ⟨gr, 0, none⟩) N N)
  rowv : Row w gv N z
  row : Row w gr N b
  tab : TabF w g gf gm p k r hh f s
  d : gT ≠ gr ∧ gV ≠ gr ∧ gN ≠ gr ∧ gI ≠ gr ∧ gS ≠ gr ∧ gv ≠ gr ∧ g ≠ gr ∧ gf ≠ gr ∧ gm ≠ gr
theorem EnvC.only {w w' : World} {gT gV gN gI gS gv gr g gf gm N p k r hh : Nat} {f s c : Int} {z b b' : Nat → Int} (E : EnvC w gT gV gN gI gS gv gr g gf gm N p k r hh f s c z b) (O : OnlyB gr w w') (R : Row w' gr N b') : EnvC w' gT gV gN gI gS gv gr g gf gm N p k r hh f s c z b' := by
  obtain ⟨d1, d2, d3, d4, d5, d6, d7⟩ := E.d
  exact ⟨E.bT.only O d1, E.bV.only O d2, E.bN.only O d3, E.bI.only O d4, E.bS.only O d5, E.rowv.only O d6, R, E.tab.only O d7, E.d⟩
theorem neg_mod (i N : Nat) (hi : i < N) : (-(i : Int)) % (N : Int) = (((N - i) % N : Nat) : Int) := by
  rw [Int.natCast_emod, show ((N - i : Nat) : Int) = -(i : Int) + N by omega, Int.add_emod_right]
set_option maxHeartbeats 3200000 in
set_option maxRecDepth 100000 in
theorem coef1_any {w : World} {gT gV gN gI gS gv gr g gf gm N p k r hh kk : Nat} {f s c : Int} {z b : Nat → Int} (E : EnvC w gT gV gN gI gS gv gr g gf gm N p k r hh f s c z b) (OK : Ok p f s) (hk : kk ≤ 20) (hN : N = 2 ^ kk) (hc : 0 ≤ c) (hz : ∀ j, j < N → 0 ≤ z j) (i : Nat) (hi : i < N) :
    Calls Tryd.prog 60 #[.int .i64 i, .pointer (some ⟨gT, 0, none⟩), .pointer (some ⟨gV, 0, none⟩), .pointer (some ⟨gN, 0, none⟩), .pointer (some ⟨gI, 0, none⟩), .pointer (some ⟨gS, 0, none⟩)] w fun e w' =>
      e = .returned (.tuple #[]) ∧ OnlyB gr w w' ∧ Row w' gr N (fun t => if t = i then z ((N - i) % N) * c % p else b t) := by
  have n20 : N ≤ 1048576 := by
    rw [hN]
    exact Nat.pow_le_pow_right (n := 2) (j := 20) (by decide) hk
  have am := and_mask (-(i : Int)) kk N (by omega) hN
  rw [neg_mod i N hi] at am
  have ml : (N - i) % N < N := Nat.mod_lt _ (by omega)
  have ct := E.bT.cell
  have cv := E.bV.cell
  have cn := E.bN.cell
  have ci := E.bI.cell
  have cs := E.bS.cell
  have cf := E.tab.tc.cell0
  have cz := E.rowv.cell (i := (N - i) % N) ml
  have cb := E.row.cell (i := i) hi
  have fb := E.row.frozen i
  have MU := hid (fun q => mul_any gf p f s (z ((N - i) % N)) c (w.drewN q) (E.tab.fld.drew q) OK (hz _ ml) hc)
  have RS : Hid (∀ nq, Row ((w.drewN nq).setCell ⟨gr, i, none⟩ (.int .u64 (z ((N - i) % N) * c % p))) gr N (fun t => if t = i then z ((N - i) % N) * c % p else b t)) := fun nq => (E.row.drew nq).set i _ (fun j _ => rfl)
  have BS : Hid (∀ nq x, OnlyB gr w ((w.drewN nq).setCell ⟨gr, i, none⟩ x)) := fun nq x => ((OnlyB.refl _ _).drew nq).set _ _
  have hin : (i : Int) < (N : Int) := by omega
  clear E OK hN
  generalize (N - i) % N = t at *
  generalize z t * c % (p : Int) = v at *
  have w1 : IntKind.i64.wrap (-(i : Int)) = -(i : Int) := by rw [IntKind.wrap_i64]; omega
  have w2 : IntKind.i64.wrap ((N : Int) - 1) = (N : Int) - 1 := by rw [IntKind.wrap_i64]; omega
  have tl : (t : Int) < (N : Int) := by omega
  go_enter Tryd.func60, Tryd.ntmps60
  go_wp2_with fail
  refine wp_region_last (by kernel_rfl) (by kernel_rfl) (by kernel_rfl) (by kernel_rfl) (by decide) ?_
  simp only [stillLast, still, lastOf]
  repeat (quiet_step ((go_at_call 50; exact Calls.quiet_of (MU.out _))))
  refine wpQuiet_nil ?_
  intro _ hw'
  obtain ⟨nq, hw''⟩ := hw'
  subst hw''
  go_wp2
  go_end0
  exact ⟨rfl, BS.out nq _, RS.out nq⟩
theorem eg_coef : ∀ args w, (callFunc 60 args).run Tryd.prog w = .ok (.enter 60 args) w := enters_of Tryd.func60 (by kernel_rfl) rfl
theorem coefs_any {w : World} {gT gV gN gI gS gv gr g gf gm N p k r hh kk : Nat} {f s c : Int} {z b : Nat → Int} (E : EnvC w gT gV gN gI gS gv gr g gf gm N p k r hh f s c z b) (OK : Ok p f s) (hk : kk ≤ 20) (hN : N = 2 ^ kk) (hc : 0 ≤ c) (hz : ∀ j, j < N → 0 ≤ z j) :
    Calls Tryd.prog 47 #[.int .i64 N, .func (.func 60) #[] #[.pointer (some ⟨gT, 0, none⟩), .pointer (some ⟨gV, 0, none⟩), .pointer (some ⟨gN, 0, none⟩), .pointer (some ⟨gI, 0, none⟩), .pointer (some ⟨gS, 0, none⟩)]] w fun e w' =>
      e = .returned (.tuple #[]) ∧ ∃ b, (∀ j, j < N → b j = z ((N - j) % N) * c % p) ∧ Row w' gr N b ∧ OnlyB gr w w' := by
  have n20 : N ≤ 1048576 := by
    rw [hN]
    exact Nat.pow_le_pow_right (n := 2) (j := 20) (by decide) hk
  refine each_any N _ _ eg_coef (fun i W => ∃ b, (∀ j, j < i → b j = z ((N - j) % N) * c % p) ∧ Row W gr N b ∧ OnlyB gr w W) w (by omega) ⟨b, fun j hj => absurd hj (by omega), E.row, OnlyB.refl _ _⟩ ?_
  rintro i W hi ⟨b, hb, R, O⟩
  refine (coef1_any (E.only O R) OK hk hN hc hz i hi).mono ?_
  rintro e w' ⟨rfl, O', R'⟩
  refine ⟨rfl, _, fun j hj => ?_, R', O.trans O'⟩
  show (if j = i then _ else _) = _
  by_cases e : j = i
  · rw [if_pos e, e]
  · rw [if_neg e]; exact hb j (by omega)
end Go.Proofs.YtcclkahoonlieaaDoor
namespace Go.Proofs.YtcclkahoonlieaaDoor
open Go.RowKit Num Nmb

/-- the part of the root for 2 to the kkth numbers. -/
def rpt (r k kk : Nat) : Nat := r ^ 2 ^ (k - kk)
theorem rpt_self (r k : Nat) : rpt r k k = r := by unfold rpt; rw [Nat.sub_self, Nat.pow_zero, Nat.pow_one]
theorem rpt_int (r k kk : Nat) : ((rpt r k kk : Nat) : Int) = (r : Int) ^ 2 ^ (k - kk) := by unfold rpt; rw [Int.natCast_pow]
theorem dft_ext (a : Nat → Int) (w : Int) (n j : Nat) : dft (ext a n) w n j = dft a w n j := sm_eq _ fun i hi => by unfold ext; rw [if_pos hi]
/-- what coefficients answers. -/
def CoeR (w w' : World) (p kk ro N : Nat) (a : Nat → Int) (e : Ending) : Prop := ∃ gr b, e = .returned (.slice (some ⟨gr, 0, none⟩) N N) ∧ Row w' gr N b ∧ w.heap.size ≤ gr ∧ (∀ t, t < N → 0 ≤ b t ∧ b t < p) ∧ Bk p kk ro a b
theorem two_nzk {p k r kk : Nat} (T : TabOk p k r) (h : kk ≤ k) : 2 ^ kk % p ≠ 0 := fun h0 => by
  refine two_nz T ?_
  obtain ⟨c, hc⟩ := Nat.dvd_of_mod_eq_zero h0
  refine Nat.mod_eq_zero_of_dvd ⟨c * 2 ^ (k - kk), ?_⟩
  rw [← Nat.mul_assoc, ← hc, ← Nat.pow_add, show kk + (k - kk) = k by omega]
/-- what the loop leaves are the coefficients. -/
theorem coe_bk {p k r kk N : Nat} {a z b : Nat → Int} (T : TabOk p k r) (hk : kk ≤ k) (hN : N = 2 ^ kk) (hz : ∀ j, j < N → z j = dft a ((r : Int) ^ 2 ^ (k - kk)) N j % p) (hb : ∀ j, j < N → b j = z ((N - j) % N) * (ivp p N : Nat) % p) : Bk p kk (rpt r k kk) a b := by
  have p2 := T.pri.1
  have v1 : Cg p (((ivp p r : Nat) : Int) * r) 1 := by
    rw [← Int.natCast_mul]
    refine (Cg.nat (b := 1)).2 ?_
    rw [Nat.mul_comm, ivp_said T.pri (root_nz T), Nat.mod_eq_of_lt (by omega)]
  have v2 : Cg p (((ivp p N : Nat) : Int) * (2 ^ kk : Nat)) 1 := by
    rw [← hN, ← Int.natCast_mul]
    refine (Cg.nat (b := 1)).2 ?_
    rw [Nat.mul_comm, ivp_said T.pri (by rw [hN]; exact two_nzk T hk), Nat.mod_eq_of_lt (by omega)]
  have v3 : Cg p ((((ivp p r : Nat) : Int) ^ 2 ^ (k - kk)) * (r : Int) ^ 2 ^ (k - kk)) 1 := by
    rw [← Int.mul_pow]
    exact v1.pow_one _
  refine ⟨((ivp p r : Nat) : Int) ^ 2 ^ (k - kk), (ivp p N : Nat), by rw [rpt_int]; exact v3, v2, fun j hj => ?_⟩
  have hjN : j < N := by omega
  rw [hb j hjN, hz _ (Nat.mod_lt _ (by omega)), Int.mul_comm]
  have h1 := dft_back (rt_part T.rt hk) v3 a j hj
  rw [← hN] at h1 ⊢
  exact Cg.mod_eq (Cg.mul Cg.rfl (Cg.trans Cg.mod h1.symm))
set_option maxHeartbeats 6400000 in
set_option maxRecDepth 100000 in
theorem coef_any (g p k r kk : Nat) (u : Value) (N : Nat) (a : Nat → Int) (w : World) (T : Tab w g p k r) (U : Wl w u N a) (hkk : kk ≤ k) (hN : N = 2 ^ kk) :
    Calls Tryd.prog 36 #[.pointer (some ⟨g, 0, none⟩), u, .int .i64 kk] w fun e w' =>
      CoeR w w' p kk (rpt r k kk) N a e ∧ Below w.heap.size w w' := by
  have TO := hid T.ok
  have k20 := T.ok.k20
  have p2 := T.ok.pri.1
  have p63 := T.ok.h63
  have VA : Hid (∀ W, Below w.heap.size w W → Calls Tryd.prog 35 #[.pointer (some ⟨g, 0, none⟩), u, .int .i64 kk] W fun e w' => ValR W w' p N ((r : Int) ^ 2 ^ (k - kk)) a e ∧ Below W.heap.size W w') := fun W B => by
    refine (values_any g p k r kk u N a W (T.below B) (U.below B) hkk (by omega)).mono ?_
    rintro e w' ⟨⟨gr, z, h1, h2, h3, h4⟩, h5⟩
    rw [← hN] at h1 h2 h4
    exact ⟨⟨gr, z, h1, h2, h3, fun j hj => by rw [h4 j hj, dft_ext]⟩, h5⟩
  obtain ⟨-, gf, gm, hh, f, s, h1, h2, h3⟩ := T
  have TF := hid h1
  have OO := hid h3
  obtain ⟨ao, cap, rfl, -⟩ := U
  clear h1 h2 h3
  have e2 : (2 : Int) ^ kk = (N : Int) := by rw [hN]; exact (Int.natCast_pow 2 kk).symm
  have n20 : N ≤ 1048576 := by rw [hN]; exact Nat.pow_le_pow_right (n := 2) (j := 20) (by decide) (by omega)
  have n1 : 1 ≤ N := by rw [hN]; exact Nat.two_pow_pos kk
  have HN := hid hN
  clear hN
  obtain ⟨X1, B1, Z1⟩ := alloc_box w (.pointer (some ⟨g, 0, none⟩)) 24
  obtain ⟨X2, B2, Z2⟩ := alloc_box (w.alloc (.cells #[.pointer (some ⟨g, 0, none⟩)] 24 (0, 0))) (.int .i64 N) 3
  rw [Z1] at X2 B2 Z2
  have X1' := X1.below B2 (by omega)
  have B' := B1.trans (B2.mono (by omega))
  have V1 := hid (VA.out _ B')
  rw [Z2] at V1
  have HX1 := hid X1'
  have HX2 := hid X2
  have HB := hid B'
  have HZ := hid Z2
  clear X1 B1 Z1 X2 B2 Z2 X1' B' VA
  go_enter Tryd.func36, Tryd.ntmps36
  go_wp2_with fail
  refine V1.out.mono ?_
  rintro e w1 ⟨V, C1⟩
  obtain ⟨gv, z, rfl, R1, l1, hz⟩ := V
  have HR1 := hid R1
  have Hl1 := hid l1
  have Hhz := hid hz
  have HC1 := hid C1
  clear R1 l1 hz C1
  go_wp2_with fail
  have R1 := HR1.out
  have l1 := Hl1.out
  have hz := Hhz.out
  have C1 := HC1.out
  rw [HZ.out] at l1
  have lv := R1.lt
  have L0 := TF.out.lt
  have D1 := HB.out.trans (C1.mono (by omega))
  obtain ⟨X3, B3, Z3⟩ := alloc_box w1 (.slice (some ⟨gv, 0, none⟩) N N) 36
  have D2 := D1.trans (B3.mono D1.size)
  have xT := (HX1.out.below C1 (by omega)).below B3 (by omega)
  have xN := (HX2.out.below C1 (by omega)).below B3 (by omega)
  have rv2 := R1.below B3 (by omega)
  have tf2 := TF.out.below D2 L0
  obtain ⟨gT, hgT⟩ : ∃ gT, gT = w.heap.size := ⟨_, rfl⟩
  obtain ⟨gN, hgN⟩ : ∃ gN, gN = w.heap.size + 1 := ⟨_, rfl⟩
  obtain ⟨gV, hgV⟩ : ∃ gV, gV = w1.heap.size := ⟨_, rfl⟩
  have ORD : Hid (g < gT ∧ gf < gT ∧ gm < gT ∧ gN = gT + 1 ∧ gN < gv ∧ gv < gV ∧ gT = w.heap.size) := ⟨by omega, by omega, by omega, by omega, by omega, by omega, by omega⟩
  rw [← hgV] at X3 Z3
  rw [← hgN] at xN
  rw [← hgT] at xT D2
  rw [← hgN, ← hgT, ← hgV]
  have HX3 := hid X3
  have HXT := hid xT
  have HXN := hid xN
  have HRV := hid rv2
  have HTF := hid tf2
  have HD2 := hid D2
  have HZ3 := hid Z3
  have HZV := hid hz
  clear HR1 Hl1 Hhz HC1 X3 Z3 xT xN rv2 tf2 D2 B3 D1 lv l1 L0 C1 R1 hz hgT hgN hgV HX1 HX2 HB HZ TF V1
  have cT := HXT.out.cell
  have cN := HXN.out.cell
  have cf := HTF.out.tc.cell0
  have wN : IntKind.u64.wrap (N : Int) = (N : Int) := by rw [IntKind.wrap_u64]; omega
  generalize w1.alloc (.cells #[.slice (some ⟨gv, 0, none⟩) N N] 36 (0, 0)) = w2 at *
  have IV : Hid (∀ W : World, Below w2.heap.size w2 W → Calls Tryd.prog 59 #[.pointer (some ⟨gf, 0, none⟩), .int .u64 N] W fun e w' => e = .returned (.tuple #[.int .u64 (ivp p N : Nat), .int .i64 0]) ∧ w' = W) := fun W B => inv_pri gf p N f s W (HTF.out.fld.below B HTF.out.fld.lt) OO.out TO.out.pri (by rw [HN.out]; exact two_nzk TO.out hkk)
  have ne1 := World.new_ne w2 _ cT
  have ne2 := World.new_ne w2 _ cN
  have ne3 := World.new_ne w2 _ cf
  go_region_held3 (fun W => W.cell? ⟨gT, 0, none⟩ = some (.pointer (some ⟨g, 0, none⟩)) ∧ W.cell? ⟨g, 0, none⟩ = some (.pointer (some ⟨gf, 0, none⟩)) ∧ W.cell? ⟨gN, 0, none⟩ = some (.int .i64 N)) (go_keep) ((go_at_call 59; go_must (refine (IV.out _ (by first | exact below_drewN (Below.refl _ _) _ | exact below_drewN ((Below.refl _ _).alloc (Nat.le_refl _) _) _)).mono ?_; rintro e w3 ⟨rfl, rfl⟩)))
  all_goals
    rename_i hKx hHx
    refine hKx _ _ ?_
    clear hKx hHx
    obtain ⟨X5, B5, Z5⟩ := alloc_box w2 (.int .u64 (ivp p N : Nat)) 22
    have o := ORD.out
    have z3 := HZ3.out
    have xI := X5.drew 1
    have xT := (HXT.out.below B5 (by omega)).drew 1
    have xN := (HXN.out.below B5 (by omega)).drew 1
    have xV := (HX3.out.below B5 (by omega)).drew 1
    have rv3 := (HRV.out.below B5 (by omega)).drew 1
    have tf3 := (HTF.out.below B5 HTF.out.lt).drew 1
    have D3 : Below gT w ((w2.alloc (.cells #[.int .u64 (ivp p N : Nat)] 22 (0, 0))).drewN 1) := below_drewN (HD2.out.trans (B5.mono (by omega))) 1
    have Z5' : ((w2.alloc (.cells #[.int .u64 (ivp p N : Nat)] 22 (0, 0))).drewN 1).heap.size = gV + 1 + 1 := by
      rw [show ((w2.alloc (.cells #[.int .u64 (ivp p N : Nat)] 22 (0, 0))).drewN 1).heap = (w2.alloc (.cells #[.int .u64 (ivp p N : Nat)] 22 (0, 0))).heap by simp]
      omega
    have z4 : w2.heap.size = gV + 1 := z3
    rw [z4] at xI
    have HXI := hid xI
    have HXT3 := hid xT
    have HXN3 := hid xN
    have HXV3 := hid xV
    have HRV3 := hid rv3
    have HTF3 := hid tf3
    have HD3 := hid D3
    have HZ5 := hid Z5'
    have cN3 := xN.cell
    rw [z4]
    clear X5 B5 Z5 o z3 z4 xI xT xN xV rv3 tf3 D3 Z5' HXT HXN HX3 HRV HTF HD2 HZ3 cT cN cf IV ne1 ne2 ne3
    change Code.wp _ _ _ _ ((w2.alloc (.cells #[.int .u64 (ivp p N : Nat)] 22 (0, 0))).drewN 1)
    generalize (w2.alloc (.cells #[.int .u64 (ivp p N : Nat)] 22 (0, 0))).drewN 1 = w3 at *
    go_wp2_with (at_make; refine wp_make _ rfl _ _ rfl _ _ N rfl rfl (by omega) (by omega) (by omega) ?_; intro w4 R4 C4 Z4; have cN4 := cell_past HXN3.out C4 (by have := ORD.out; have := HZ5.out; omega) (by omega) (.cells #[.slice (some ⟨w3.heap.size, 0, none⟩) N N] 36 (0, 0)); have HR := hid R4; have HC := hid C4; have HZ4 := hid Z4; clear R4 C4 Z4)
    obtain ⟨X6, B6, Z6⟩ := alloc_box w4 (.slice (some ⟨w3.heap.size, 0, none⟩) N N) 36
    have o := ORD.out
    have z5 := HZ5.out
    have z4 := HZ4.out
    have C4 := HC.out
    have lT := HTF3.out.lt
    have E6 : EnvC (w4.alloc (.cells #[.slice (some ⟨w3.heap.size, 0, none⟩) N N] 36 (0, 0))) gT gV gN (gV + 1) w4.heap.size gv w3.heap.size g gf gm N p k r hh f s (ivp p N : Nat) z (fun _ => 0) :=
      ⟨(HXT3.out.below C4 (by omega)).below B6 (by omega), (HXV3.out.below C4 (by omega)).below B6 (by omega), (HXN3.out.below C4 (by omega)).below B6 (by omega), (HXI.out.below C4 (by omega)).below B6 (by omega), X6, (HRV3.out.below C4 (by omega)).below B6 (by omega), HR.out.below B6 (by omega), (HTF3.out.below C4 lT).below B6 (by omega), ⟨by omega, by omega, by omega, by omega, by omega, by omega, by omega, by omega, by omega⟩⟩
    have CA := hid (coefs_any E6 OO.out (by omega) HN.out (by omega) (fun j hj => by rw [HZV.out j hj]; exact Int.emod_nonneg _ (by omega)))
    have D6 : Hid (∀ W, OnlyB w3.heap.size (w4.alloc (.cells #[.slice (some ⟨w3.heap.size, 0, none⟩) N N] 36 (0, 0))) W → Below gT w W) := fun W O => (HD3.out.trans ((C4.trans (B6.mono (by omega))).mono (by omega))).trans (O.below.mono (by omega))
    have G6 : Hid (w.heap.size ≤ w3.heap.size) := by show _ ≤ _; omega
    have S6 : Hid (∀ W, OnlyB w3.heap.size (w4.alloc (.cells #[.slice (some ⟨w3.heap.size, 0, none⟩) N N] 36 (0, 0))) W → W.cell? ⟨w4.heap.size, 0, none⟩ = some (.slice (some ⟨w3.heap.size, 0, none⟩) N N)) := fun W O => (E6.bS.only O (by omega)).cell
    clear X6 B6 Z6 o z5 z4 C4 lT E6 HXI HXT3 HXN3 HXV3 HRV3 HTF3 HD3 HZ5 HR HC HZ4 cN3 cN4
    refine CA.out.mono ?_
    rintro e w7 ⟨rfl, b, hb, R7, O7⟩
    have D : Hid (CoeR w w7 p kk (rpt r k kk) N a (.returned (.slice (some ⟨w3.heap.size, 0, none⟩) N N))) := ⟨_, b, rfl, R7, G6.out, fun t ht => by
      rw [hb t ht]
      exact ⟨Int.emod_nonneg _ (by omega), Int.emod_lt_of_pos _ (by omega)⟩, coe_bk TO.out hkk HN.out HZV.out hb⟩
    have c7 := S6.out w7 O7
    have B7 : Hid (Below w.heap.size w w7) := by
      show Below _ _ _
      have := D6.out w7 O7
      rw [ORD.out.2.2.2.2.2.2] at this
      exact this
    clear CA D6 G6 S6 R7 O7 hb
    go_wp2
    go_ret
    exact ⟨D.out, B7.out⟩
end Go.Proofs.YtcclkahoonlieaaDoor
namespace Go.Proofs.YtcclkahoonlieaaDoor
open Go.RowKit Num Nmb

/-- what the function of round has captured. -/
structure EnvR (w : World) (gT gA gB ga gb g gf gm N p k r hh : Nat) (f s : Int) (x y : Nat → Int) : Prop where
  bT : Box w gT (.pointer (some ⟨g, 0, none⟩))
  bA : Box w gA (.slice (some ⟨ga, 0, none⟩) N N)
  bB : Box w gB (.slice (some ⟨gb, 0, none⟩) N N)
  rowa : Row w ga N x
  rowb : Row w gb N y
  tab : TabF w g gf gm p k r hh f s
  d : gT ≠ ga ∧ gA ≠ ga ∧ gB ≠ ga ∧ gb ≠ ga ∧ g ≠ ga ∧ gf ≠ ga ∧ gm ≠ ga
theorem EnvR.only {w w' : World} {gT gA gB ga gb g gf gm N p k r hh : Nat} {f s : Int} {x x' y : Nat → Int} (E : EnvR w gT gA gB ga gb g gf gm N p k r hh f s x y) (O : OnlyB ga w w') (R : Row w' ga N x') : EnvR w' gT gA gB ga gb g gf gm N p k r hh f s x' y := by
  obtain ⟨d1, d2, d3, d4, d5⟩ := E.d
  exact ⟨E.bT.only O d1, E.bA.only O d2, E.bB.only O d3, R, E.rowb.only O d4, E.tab.only O d5, E.d⟩
set_option maxHeartbeats 3200000 in
set_option maxRecDepth 100000 in
theorem rnd1_any {w : World} {gT gA gB ga gb g gf gm N p k r hh : Nat} {f s : Int} {x y : Nat → Int} (E : EnvR w gT gA gB ga gb g gf gm N p k r hh f s x y) (OK : Ok p f s) (_n20 : N ≤ 1048576) (i : Nat) (hi : i < N) (hx : 0 ≤ x i) (hy : 0 ≤ y i) :
    Calls Tryd.prog 61 #[.int .i64 i, .pointer (some ⟨gT, 0, none⟩), .pointer (some ⟨gA, 0, none⟩), .pointer (some ⟨gB, 0, none⟩)] w fun e w' =>
      e = .returned (.tuple #[]) ∧ OnlyB ga w w' ∧ Row w' ga N (fun t => if t = i then x i * y i % p else x t) := by
  have ct := E.bT.cell
  have ca := E.bA.cell
  have cb := E.bB.cell
  have cf := E.tab.tc.cell0
  have cx := E.rowa.cell (i := i) hi
  have fx := E.rowa.frozen i
  have cy := E.rowb.cell (i := i) hi
  have MU := hid (fun q => mul_any gf p f s (x i) (y i) (w.drewN q) (E.tab.fld.drew q) OK hx hy)
  have RS : Hid (∀ nq, Row ((w.drewN nq).setCell ⟨ga, i, none⟩ (.int .u64 (x i * y i % p))) ga N (fun t => if t = i then x i * y i % p else x t)) := fun nq => (E.rowa.drew nq).set i _ (fun j _ => rfl)
  have BS : Hid (∀ nq x, OnlyB ga w ((w.drewN nq).setCell ⟨ga, i, none⟩ x)) := fun nq x => ((OnlyB.refl _ _).drew nq).set _ _
  have hin : (i : Int) < (N : Int) := by omega
  clear E OK
  generalize x i * y i % (p : Int) = v at *
  go_enter Tryd.func61, Tryd.ntmps61
  go_wp2_with fail
  refine wp_region_last (by kernel_rfl) (by kernel_rfl) (by kernel_rfl) (by kernel_rfl) (by decide) ?_
  simp only [stillLast, still, lastOf]
  repeat (quiet_step ((go_at_call 50; exact Calls.quiet_of (MU.out _))))
  refine wpQuiet_nil ?_
  intro _ hw'
  obtain ⟨nq, hw''⟩ := hw'
  subst hw''
  go_wp2
  go_end0
  exact ⟨rfl, BS.out nq _, RS.out nq⟩
theorem eg_rnd : ∀ args w, (callFunc 61 args).run Tryd.prog w = .ok (.enter 61 args) w := enters_of Tryd.func61 (by kernel_rfl) rfl
theorem rnds_any {w : World} {gT gA gB ga gb g gf gm N p k r hh : Nat} {f s : Int} {x y : Nat → Int} (E : EnvR w gT gA gB ga gb g gf gm N p k r hh f s x y) (OK : Ok p f s) (n20 : N ≤ 1048576) (hx : ∀ j, j < N → 0 ≤ x j) (hy : ∀ j, j < N → 0 ≤ y j) :
    Calls Tryd.prog 47 #[.int .i64 N, .func (.func 61) #[] #[.pointer (some ⟨gT, 0, none⟩), .pointer (some ⟨gA, 0, none⟩), .pointer (some ⟨gB, 0, none⟩)]] w fun e w' =>
      e = .returned (.tuple #[]) ∧ ∃ z, (∀ j, j < N → z j = x j * y j % p) ∧ Row w' ga N z ∧ OnlyB ga w w' := by
  refine (each_any N _ _ eg_rnd (fun i W => ∃ z, (∀ j, j < N → z j = if j < i then x j * y j % p else x j) ∧ Row W ga N z ∧ OnlyB ga w W) w (by omega) ⟨x, fun j _ => by rw [if_neg (by omega)], E.rowa, OnlyB.refl _ _⟩ ?_).mono ?_
  · rintro i W hi ⟨z, hz, R, O⟩
    have e0 := hz i hi
    rw [if_neg (by omega)] at e0
    refine (rnd1_any (E.only O R) OK n20 i hi (by rw [e0]; exact hx i hi) (hy i hi)).mono ?_
    rintro e w' ⟨rfl, O', R'⟩
    refine ⟨rfl, _, fun j hj => ?_, R', O.trans O'⟩
    show (if j = i then _ else _) = _
    by_cases e : j = i
    · rw [if_pos e, if_pos (by omega), e, e0]
    · rw [if_neg e, hz j hj]
      by_cases h : j < i
      · rw [if_pos h, if_pos (by omega)]
      · rw [if_neg h, if_neg (by omega)]
  · rintro e w' ⟨rfl, z, hz, R, O⟩
    exact ⟨rfl, z, fun j hj => by rw [hz j hj, if_pos hj], R, O⟩
/-- v is a slice of the values. -/
def ValP (w : World) (B N p : Nat) (f : Nat → Int) (v : Value) : Prop := ∃ gr z, v = .slice (some ⟨gr, 0, none⟩) N N ∧ Row w gr N z ∧ B ≤ gr ∧ ∀ j, j < N → z j = f j % p
/-- and it does not lie where v0 does. -/
def Val2 (w : World) (B N p : Nat) (f : Nat → Int) (v0 v : Value) : Prop := ∃ gr z, v = .slice (some ⟨gr, 0, none⟩) N N ∧ Row w gr N z ∧ B ≤ gr ∧ (∀ j, j < N → z j = f j % p) ∧ ∀ ga, v0 = .slice (some ⟨ga, 0, none⟩) N N → gr ≠ ga
/-- v points to a variable of a slice. -/
def BoxP (w : World) (B : Nat) (v : Value) : Prop := ∃ g a n c, v = .pointer (some ⟨g, 0, none⟩) ∧ B ≤ g ∧ Box w g (.slice a n c)
/-- and it holds x. -/
def HoldB (w : World) (B : Nat) (v x : Value) : Prop := ∃ g a n c, v = .pointer (some ⟨g, 0, none⟩) ∧ B ≤ g ∧ Box w g x ∧ x = .slice a n c
theorem OnlyB.put (g : Nat) (w : World) (v : Value) : OnlyB g w (w.setCell ⟨g, 0, none⟩ v) := (OnlyB.refl _ _).set 0 v
theorem Box.off {w : World} {g b N : Nat} {a : Option Addr} {n c : Nat} {z : Nat → Int} (h : Box w g (.slice a n c)) (r : Row w b N z) (hn : 0 < N) : b ≠ g := Ne.symm (h.row r (fun i e => by cases e) hn)
theorem ValP.below {w w' : World} {B N p : Nat} {f : Nat → Int} {v : Value} (h : ValP w B N p f v) (hb : Below w.heap.size w w') : ValP w' B N p f v := by
  obtain ⟨gr, z, h1, h2, h3, h4⟩ := h
  exact ⟨gr, z, h1, h2.below hb h2.lt, h3, h4⟩
theorem Val2.below {w w' : World} {B N p : Nat} {f : Nat → Int} {v0 v : Value} (h : Val2 w B N p f v0 v) (hb : Below w.heap.size w w') : Val2 w' B N p f v0 v := by
  obtain ⟨gr, z, h1, h2, h3, h4, h5⟩ := h
  exact ⟨gr, z, h1, h2.below hb h2.lt, h3, h4, h5⟩
theorem BoxP.below {w w' : World} {B : Nat} {v : Value} (h : BoxP w B v) (hb : Below w.heap.size w w') : BoxP w' B v := by
  obtain ⟨g, a, n, c, h1, h2, h3⟩ := h
  exact ⟨g, a, n, c, h1, h2, h3.below hb h3.lt⟩
theorem HoldB.below {w w' : World} {B : Nat} {v x : Value} (h : HoldB w B v x) (hb : Below w.heap.size w w') : HoldB w' B v x := by
  obtain ⟨g, a, n, c, h1, h2, h3, h4⟩ := h
  exact ⟨g, a, n, c, h1, h2, h3.below hb h3.lt, h4⟩
theorem ValP.set {w : World} {B N p g : Nat} {f : Nat → Int} {v x : Value} {a : Option Addr} {n c : Nat} (h : ValP w B N p f v) (hn : 0 < N) (hb : Box w g (.slice a n c)) : ValP (w.setCell ⟨g, 0, none⟩ x) B N p f v := by
  obtain ⟨gr, z, h1, h2, h3, h4⟩ := h
  exact ⟨gr, z, h1, h2.only (OnlyB.put g w x) (hb.off h2 hn), h3, h4⟩
theorem Val2.set {w : World} {B N p g : Nat} {f : Nat → Int} {v0 v x : Value} {a : Option Addr} {n c : Nat} (h : Val2 w B N p f v0 v) (hn : 0 < N) (hb : Box w g (.slice a n c)) : Val2 (w.setCell ⟨g, 0, none⟩ x) B N p f v0 v := by
  obtain ⟨gr, z, h1, h2, h3, h4, h5⟩ := h
  exact ⟨gr, z, h1, h2.only (OnlyB.put g w x) (hb.off h2 hn), h3, h4, h5⟩
theorem BoxP.set {w : World} {B g : Nat} {v : Value} {a a' : Option Addr} {n c n' c' : Nat} (h : BoxP w B v) (hb : Box w g (.slice a n c)) : BoxP (w.setCell ⟨g, 0, none⟩ (.slice a' n' c')) B v := by
  obtain ⟨g', a2, n2, c2, h1, h2, h3⟩ := h
  by_cases e : g' = g
  · subst e
    exact ⟨g', a', n', c', h1, h2, hb.set _⟩
  · exact ⟨g', a2, n2, c2, h1, h2, h3.only (OnlyB.put g w _) e⟩
theorem HoldB.set {w : World} {B g : Nat} {v x y : Value} (h : HoldB w B v x) (hne : v ≠ .pointer (some ⟨g, 0, none⟩)) : HoldB (w.setCell ⟨g, 0, none⟩ y) B v x := by
  obtain ⟨g', a2, n2, c2, h1, h2, h3, h4⟩ := h
  have e : g' ≠ g := by rintro rfl; exact hne h1
  exact ⟨g', a2, n2, c2, h1, h2, h3.only (OnlyB.put g w _) e, h4⟩
/-- what each operation of 'values, others := ..' leaves behind. -/
def RRd (g : Nat) (u v : Value) (kk : Nat) (B N p : Nat) (fa fb : Nat → Int) : Nat → (Nat → Value) → World → Prop
  | 0, s, _ => s 0 = .pointer (some ⟨g, 0, none⟩)
  | 1, s, _ => s 1 = u
  | 2, s, _ => s 2 = .int .i64 kk
  | 3, s, w => ValP w B N p fa (s 3)
  | 4, s, _ => s 4 = .pointer (some ⟨g, 0, none⟩)
  | 5, s, _ => s 5 = v
  | 6, s, _ => s 6 = .int .i64 kk
  | 7, s, w => Val2 w B N p fb (s 3) (s 7)
  | 8, s, w => BoxP w B (s 8)
  | 9, s, w => BoxP w B (s 9)
  | 10, s, w => HoldB w B (s 8) (s 3)
  | 11, s, w => HoldB w B (s 9) (s 7)
  | _, _, _ => True
section
variable {g : Nat} {u v : Value} {kk B N p : Nat} {fa fb : Nat → Int}
theorem RRd.below {s : Nat → Value} {w w' : World} (hb : Below w.heap.size w w') : ∀ j, RRd g u v kk B N p fa fb j s w → RRd g u v kk B N p fa fb j s w'
  | 0, h => h
  | 1, h => h
  | 2, h => h
  | 3, h => ValP.below h hb
  | 4, h => h
  | 5, h => h
  | 6, h => h
  | 7, h => Val2.below h hb
  | 8, h => BoxP.below h hb
  | 9, h => BoxP.below h hb
  | 10, h => HoldB.below h hb
  | 11, h => HoldB.below h hb
  | _ + 12, _ => trivial
theorem RRd.put {s : Nat → Value} {w : World} {i : Nat} {x : Value} : ∀ j, j ≠ i → (j = 7 → i ≠ 3) → (j = 10 → i ≠ 8 ∧ i ≠ 3) → (j = 11 → i ≠ 9 ∧ i ≠ 7) → RRd g u v kk B N p fa fb j s w → RRd g u v kk B N p fa fb j (upd s i x) w
  | 0, h, _, _, _, hr => by show upd s i x 0 = _; rw [upd_other s x h]; exact hr
  | 1, h, _, _, _, hr => by show upd s i x 1 = _; rw [upd_other s x h]; exact hr
  | 2, h, _, _, _, hr => by show upd s i x 2 = _; rw [upd_other s x h]; exact hr
  | 3, h, _, _, _, hr => by show ValP w B N p fa (upd s i x 3); rw [upd_other s x h]; exact hr
  | 4, h, _, _, _, hr => by show upd s i x 4 = _; rw [upd_other s x h]; exact hr
  | 5, h, _, _, _, hr => by show upd s i x 5 = _; rw [upd_other s x h]; exact hr
  | 6, h, _, _, _, hr => by show upd s i x 6 = _; rw [upd_other s x h]; exact hr
  | 7, h, h7, _, _, hr => by show Val2 w B N p fb (upd s i x 3) (upd s i x 7); rw [upd_other s x h, upd_other s x (Ne.symm (h7 rfl))]; exact hr
  | 8, h, _, _, _, hr => by show BoxP w B (upd s i x 8); rw [upd_other s x h]; exact hr
  | 9, h, _, _, _, hr => by show BoxP w B (upd s i x 9); rw [upd_other s x h]; exact hr
  | 10, _, _, h8, _, hr => by show HoldB w B (upd s i x 8) (upd s i x 3); rw [upd_other s x (Ne.symm (h8 rfl).1), upd_other s x (Ne.symm (h8 rfl).2)]; exact hr
  | 11, _, _, _, h9, hr => by show HoldB w B (upd s i x 9) (upd s i x 7); rw [upd_other s x (Ne.symm (h9 rfl).1), upd_other s x (Ne.symm (h9 rfl).2)]; exact hr
  | _ + 12, _, _, _, _, _ => trivial
theorem RRd.set {s : Nat → Value} {w : World} {gx : Nat} {a a' : Option Addr} {n c n' c' : Nat} (hn : 0 < N) (hb : Box w gx (.slice a n c)) :
    ∀ j, (j = 10 → s 8 ≠ .pointer (some ⟨gx, 0, none⟩)) → (j = 11 → s 9 ≠ .pointer (some ⟨gx, 0, none⟩)) → RRd g u v kk B N p fa fb j s w → RRd g u v kk B N p fa fb j s (w.setCell ⟨gx, 0, none⟩ (.slice a' n' c'))
  | 0, _, _, h => h
  | 1, _, _, h => h
  | 2, _, _, h => h
  | 3, _, _, h => ValP.set h hn hb
  | 4, _, _, h => h
  | 5, _, _, h => h
  | 6, _, _, h => h
  | 7, _, _, h => Val2.set h hn hb
  | 8, _, _, h => BoxP.set h hb
  | 9, _, _, h => BoxP.set h hb
  | 10, h8, _, h => HoldB.set h (h8 rfl)
  | 11, _, h9, h => HoldB.set h (h9 rfl)
  | _ + 12, _, _, _ => trivial
/-- what holds all along. -/
structure CRd (w0 : World) (s : Nat → Value) (w : World) : Prop where
  old : Below w0.heap.size w0 w
  u8 : s 8 = undef ∨ BoxP w w0.heap.size (s 8)
  u9 : s 9 = undef ∨ BoxP w w0.heap.size (s 9)
  two : ∀ g, s 8 = .pointer (some ⟨g, 0, none⟩) → s 9 = .pointer (some ⟨g, 0, none⟩) → False
variable {w0 : World}
theorem CRd.go {s : Nat → Value} {w w' : World} (h : CRd w0 s w) (hb : Below w.heap.size w w') : CRd w0 s w' :=
  ⟨h.old.trans (hb.mono h.old.size), h.u8.imp id (·.below hb), h.u9.imp id (·.below hb), h.two⟩
theorem CRd.put {s : Nat → Value} {w : World} {i : Nat} {x : Value} (h : CRd w0 s w) (h8 : i ≠ 8) (h9 : i ≠ 9) : CRd w0 (upd s i x) w := by
  have e8 := upd_other s x (Ne.symm h8)
  have e9 := upd_other s x (Ne.symm h9)
  exact ⟨h.old, by rw [e8]; exact h.u8, by rw [e9]; exact h.u9, by rw [e8, e9]; exact h.two⟩
theorem CRd.set {s : Nat → Value} {w : World} {gx : Nat} {a a' : Option Addr} {n c n' c' : Nat} (h : CRd w0 s w) (hb : Box w gx (.slice a n c)) (hg : w0.heap.size ≤ gx) : CRd w0 s (w.setCell ⟨gx, 0, none⟩ (.slice a' n' c')) :=
  ⟨h.old.trans ((OnlyB.put gx w _).below.mono hg), h.u8.imp id (·.set hb), h.u9.imp id (·.set hb), h.two⟩
theorem BoxP.lt {w : World} {B : Nat} {x : Value} {gx : Nat} (h : BoxP w B x) (e : x = .pointer (some ⟨gx, 0, none⟩)) : gx < w.heap.size := by
  obtain ⟨g', a, n, c, h1, _, h3⟩ := h
  rw [h1] at e
  simp at e
  subst e
  exact h3.lt
theorem undef_np {gx : Nat} : undef ≠ .pointer (some ⟨gx, 0, none⟩) := by intro h; cases h
theorem boxP_new {w : World} {M : Nat} (h : M ≤ w.heap.size) : BoxP (w.alloc (.cells #[.slice none 0 0] 36 (0, 0))) M (.pointer (some ⟨w.heap.size, 0, none⟩)) :=
  ⟨_, _, _, _, rfl, h, (alloc_box w _ _).1⟩
theorem below_new' (w : World) (o : Obj) : Below w.heap.size w (w.alloc o) := (Below.refl _ _).alloc (Nat.le_refl _) _
theorem CRd.new8 {s : Nat → Value} {w : World} (h : CRd w0 s w) : CRd w0 (upd s 8 (.pointer (some ⟨w.heap.size, 0, none⟩))) (w.alloc (.cells #[.slice none 0 0] 36 (0, 0))) := by
  have q := h.go (below_new' w (.cells #[.slice none 0 0] 36 (0, 0)))
  have e8 := upd_same s 8 (.pointer (some ⟨w.heap.size, 0, none⟩))
  have e9 := upd_other s (i := 8) (j := 9) (.pointer (some ⟨w.heap.size, 0, none⟩)) (by decide)
  refine ⟨q.old, by rw [e8]; exact Or.inr (boxP_new h.old.size), by rw [e9]; exact q.u9, fun k a b => ?_⟩
  rw [e8] at a
  rw [e9] at b
  simp at a
  subst a
  rcases h.u9 with h1 | h1
  · rw [h1] at b; exact undef_np b
  · exact absurd (h1.lt b) (by omega)
theorem CRd.new9 {s : Nat → Value} {w : World} (h : CRd w0 s w) : CRd w0 (upd s 9 (.pointer (some ⟨w.heap.size, 0, none⟩))) (w.alloc (.cells #[.slice none 0 0] 36 (0, 0))) := by
  have q := h.go (below_new' w (.cells #[.slice none 0 0] 36 (0, 0)))
  have e9 := upd_same s 9 (.pointer (some ⟨w.heap.size, 0, none⟩))
  have e8 := upd_other s (i := 9) (j := 8) (.pointer (some ⟨w.heap.size, 0, none⟩)) (by decide)
  refine ⟨q.old, by rw [e8]; exact q.u8, by rw [e9]; exact Or.inr (boxP_new h.old.size), fun k a b => ?_⟩
  rw [e8] at a
  rw [e9] at b
  simp at b
  subst b
  rcases h.u8 with h1 | h1
  · rw [h1] at a; exact undef_np a
  · exact absurd (h1.lt a) (by omega)
end
end Go.Proofs.YtcclkahoonlieaaDoor
namespace Go.Proofs.YtcclkahoonlieaaDoor
open Go.RowKit Num Nmb

/-- what round answers. -/
def RndR (w w' : World) (p N : Nat) (a b : Nat → Int) (e : Ending) : Prop := ∃ gr z, e = .returned (.slice (some ⟨gr, 0, none⟩) N N) ∧ Row w' gr N z ∧ w.heap.size ≤ gr ∧ ∀ j, j < N → z j = rnd a b N j % p
theorem bk_rounds {p k N : Nat} {r : Nat} {a b x z : Nat → Int} (T : Rt p r k) (hn : N = 2 ^ k) (hx : ∀ j, j < N → x j = (dft a r N j % p) * (dft b r N j % p) % p) (h : Bk p k r x z) (j : Nat) (hj : j < N) : z j = rnd a b N j % p := by
  obtain ⟨v, c, hv, hc, hz⟩ := h
  rw [hz j (by rw [← hn]; exact hj)]
  subst hn
  refine Cg.mod_eq (Cg.trans (Cg.rfl.mul (dft_cg (fun i hi => ?_) j)) (T.rounds hv hc a b j hj))
  rw [hx i hi]
  exact Cg.mod.trans (Cg.mod.mul Cg.mod)
set_option maxHeartbeats 6400000 in
set_option maxRecDepth 100000 in
theorem round_any (g p k r kk : Nat) (u v : Value) (n m N : Nat) (a b : Nat → Int) (w : World) (T : Tab w g p k r) (U : Wl w u n a) (V : Wl w v m b) (hkk : kk ≤ k) (hN : N = 2 ^ kk) (hn : n ≤ N) (hm : m ≤ N) :
    Calls Tryd.prog 39 #[.pointer (some ⟨g, 0, none⟩), u, v, .int .i64 kk] w fun e w' =>
      RndR w w' p N (ext a n) (ext b m) e ∧ Below w.heap.size w w' := by
  have TO := hid T.ok
  have k20 := T.ok.k20
  have p2 := T.ok.pri.1
  have p63 := T.ok.h63
  obtain ⟨X1, B1, Z1⟩ := alloc_box w (.pointer (some ⟨g, 0, none⟩)) 24
  have B1' : Below w.heap.size w (w.alloc (.cells #[.pointer (some ⟨g, 0, none⟩)] 24 (0, 0))).drew := below_drewN B1 1
  have Z1' : (w.alloc (.cells #[.pointer (some ⟨g, 0, none⟩)] 24 (0, 0))).drew.heap.size = w.heap.size + 1 := Z1
  have VA : Hid (∀ W, Below (w.heap.size + 1) (w.alloc (.cells #[.pointer (some ⟨g, 0, none⟩)] 24 (0, 0))).drew W → Calls Tryd.prog 35 #[.pointer (some ⟨g, 0, none⟩), u, .int .i64 kk] W fun e w' => ValR W w' p N ((r : Int) ^ 2 ^ (k - kk)) (ext a n) e ∧ Below W.heap.size W w') := fun W B => by
    have C := B1'.trans (B.mono (by omega))
    have := values_any g p k r kk u n a W (T.below C) (U.below C) hkk (by omega)
    rw [← hN] at this
    exact this
  have VB : Hid (∀ W, Below (w.heap.size + 1) (w.alloc (.cells #[.pointer (some ⟨g, 0, none⟩)] 24 (0, 0))).drew W → Calls Tryd.prog 35 #[.pointer (some ⟨g, 0, none⟩), v, .int .i64 kk] W fun e w' => ValR W w' p N ((r : Int) ^ 2 ^ (k - kk)) (ext b m) e ∧ Below W.heap.size W w') := fun W B => by
    have C := B1'.trans (B.mono (by omega))
    have := values_any g p k r kk v m b W (T.below C) (V.below C) hkk (by omega)
    rw [← hN] at this
    exact this
  have TB : Hid (∀ W, Below w.heap.size w W → Tab W g p k r) := fun W B => T.below B
  obtain ⟨-, gf, gm, hh, f, sq, h1, h2, h3⟩ := T
  have TF := hid h1
  have OO := hid h3
  have n20 : N ≤ 1048576 := by rw [hN]; exact Nat.pow_le_pow_right (n := 2) (j := 20) (by decide) (by omega)
  have n1 : 0 < N := by rw [hN]; exact Nat.two_pow_pos kk
  have HN := hid hN
  have HX := hid X1
  have HB := hid B1'
  have HZ := hid Z1'
  clear h1 h2 h3 X1 B1 Z1 B1' Z1' hN U V
  go_enter Tryd.func39, Tryd.ntmps39
  go_wp2_with fail
  rename_i hKx
  have hz0 := HZ.out
  rw [← hz0] at VA VB
  obtain ⟨gT, hgT⟩ : ∃ gT, gT = w.heap.size := ⟨_, rfl⟩
  have HGT := hid hgT
  rw [← hgT] at HX HZ
  rw [← hgT]
  clear hz0 hgT
  have cT : Hid (∀ W, Below (w.alloc (.cells #[.pointer (some ⟨g, 0, none⟩)] 24 (0, 0))).drew.heap.size (w.alloc (.cells #[.pointer (some ⟨g, 0, none⟩)] 24 (0, 0))).drew W → W.cell? ⟨gT, 0, none⟩ = some (.pointer (some ⟨g, 0, none⟩))) := fun W B => ((HX.out.drew 1).below B (by have := HZ.out; omega)).cell
  generalize w.alloc (.cells #[.pointer (some ⟨g, 0, none⟩)] 24 (0, 0)) = w2 at *
  refine wp_region_each (by kernel_rfl) (fun s => ⟨#[_, _, _, _, _, _, _, _, _, s 8, s 9, s 0, s 1, s 2, s 3, s 4, s 5, s 6, s 7, _, _, _, _, _, _, _, _], []⟩)
    (RRd g u v kk w2.drew.heap.size N p (dft (ext a n) ((r : Int) ^ 2 ^ (k - kk)) N) (dft (ext b m) ((r : Int) ^ 2 ^ (k - kk)) N)) (CRd w2.drew) (by kernel_rfl) ?_ ?_ (fun _ => undef) _ _ rfl ?_
  · refine ⟨?_, ?_, ?_, ?_, ?_, ?_, ?_, ?_, ?_, ?_, ?_, ?_, trivial⟩
    · intro s w hC hd K hK
      have x0 := cT.out w hC.old
      have HC := hid hC
      clear hC hd
      go_simp
      exact hK _ _ (HC.out.put (by decide) (by decide)) (upd_same _ _ _) (fun j _ hj _ hr => RRd.put j hj (fun _ => by decide) (fun _ => by decide) (fun _ => by decide) hr)
    · intro s w hC hd K hK
      have HC := hid hC
      clear hC hd
      go_simp
      exact hK _ _ (HC.out.put (by decide) (by decide)) (upd_same _ _ _) (fun j _ hj _ hr => RRd.put j hj (fun _ => by decide) (fun _ => by decide) (fun _ => by decide) hr)
    · intro s w hC hd K hK
      have HC := hid hC
      clear hC hd
      go_simp
      exact hK _ _ (HC.out.put (by decide) (by decide)) (upd_same _ _ _) (fun j _ hj _ hr => RRd.put j hj (fun _ => by decide) (fun _ => by decide) (fun _ => by decide) hr)
    · intro s w hC hd K hK
      obtain ⟨d0, d1, d2, _⟩ := hd
      have e0 : s 0 = _ := d0 rfl
      have e1 : s 1 = _ := d1 rfl
      have e2 : s 2 = _ := d2 rfl
      have HC := hid hC
      have CT := VA.out w hC.old
      rw [← e0, ← e1, ← e2] at CT
      have HCT := hid CT
      clear hC d0 d1 d2 CT e0 e1 e2
      go_simp
      refine HCT.out.mono ?_
      rintro e w' ⟨⟨gr, z, rfl, R, l, hz⟩, B⟩
      have vp : Hid (ValP w' w2.drew.heap.size N p (dft (ext a n) ((r : Int) ^ 2 ^ (k - kk)) N) (.slice (some ⟨gr, 0, none⟩) N N)) := ⟨gr, z, rfl, R, Nat.le_trans HC.out.old.size l, hz⟩
      have BB := hid B
      clear R l hz B
      go_simp
      exact hK _ _ ((HC.out.go BB.out).put (by decide) (by decide)) (by show ValP _ _ _ _ _ (upd s 3 _ 3); rw [upd_same]; exact vp.out) (fun j _ hj hw hr => RRd.put j hj (fun e => by subst e; exact absurd hw (by decide)) (fun e => by subst e; exact absurd hw (by decide)) (fun _ => by decide) (RRd.below BB.out j hr))
    · intro s w hC hd K hK
      have x0 := cT.out w hC.old
      have HC := hid hC
      clear hC hd
      go_simp
      exact hK _ _ (HC.out.put (by decide) (by decide)) (upd_same _ _ _) (fun j _ hj _ hr => RRd.put j hj (fun _ => by decide) (fun _ => by decide) (fun _ => by decide) hr)
    · intro s w hC hd K hK
      have HC := hid hC
      clear hC hd
      go_simp
      exact hK _ _ (HC.out.put (by decide) (by decide)) (upd_same _ _ _) (fun j _ hj _ hr => RRd.put j hj (fun _ => by decide) (fun _ => by decide) (fun _ => by decide) hr)
    · intro s w hC hd K hK
      have HC := hid hC
      clear hC hd
      go_simp
      exact hK _ _ (HC.out.put (by decide) (by decide)) (upd_same _ _ _) (fun j _ hj _ hr => RRd.put j hj (fun _ => by decide) (fun _ => by decide) (fun _ => by decide) hr)
    · intro s w hC hd K hK
      obtain ⟨d0, d1, d2, d3, _⟩ := hd
      have e0 : s 4 = _ := d0 rfl
      have e1 : s 5 = _ := d1 rfl
      have e2 : s 6 = _ := d2 rfl
      have v3 : ValP w _ _ _ _ (s 3) := d3 rfl
      have HV := hid v3
      have HC := hid hC
      have CT := VB.out w hC.old
      rw [← e0, ← e1, ← e2] at CT
      have HCT := hid CT
      clear hC d0 d1 d2 d3 v3 CT e0 e1 e2
      go_simp
      refine HCT.out.mono ?_
      rintro e w' ⟨⟨gr, z, rfl, R, l, hz⟩, B⟩
      have vp : Hid (Val2 w' w2.drew.heap.size N p (dft (ext b m) ((r : Int) ^ 2 ^ (k - kk)) N) (s 3) (.slice (some ⟨gr, 0, none⟩) N N)) := ⟨gr, z, rfl, R, Nat.le_trans HC.out.old.size l, hz, fun ga ea => by
        obtain ⟨ga', z', e', R', -, -⟩ := HV.out
        rw [e'] at ea
        simp at ea
        have := R'.lt
        omega⟩
      have BB := hid B
      clear R l hz B
      go_simp
      exact hK _ _ ((HC.out.go BB.out).put (by decide) (by decide)) (by show Val2 _ _ _ _ _ (upd s 7 _ 3) (upd s 7 _ 7); rw [upd_same, upd_other s (i := 7) (j := 3) _ (by decide)]; exact vp.out) (fun j _ hj hw hr => RRd.put j hj (fun _ => by decide) (fun e => by subst e; exact absurd hw (by decide)) (fun e => by subst e; exact absurd hw (by decide)) (RRd.below BB.out j hr))
    · intro s w hC hd K hK
      clear hd
      go_simp
      exact hK _ _ hC.new8 (by show BoxP _ _ (upd s 8 _ 8); rw [upd_same]; exact boxP_new hC.old.size) (fun j _ hj hw hr => RRd.put j hj (fun _ => by decide) (fun e => by subst e; exact absurd hw (by decide)) (fun _ => by decide) (RRd.below (below_new' w _) j hr))
    · intro s w hC hd K hK
      clear hd
      go_simp
      exact hK _ _ hC.new9 (by show BoxP _ _ (upd s 9 _ 9); rw [upd_same]; exact boxP_new hC.old.size) (fun j _ hj hw hr => RRd.put j hj (fun _ => by decide) (fun _ => by decide) (fun e => by subst e; exact absurd hw (by decide)) (RRd.below (below_new' w _) j hr))
    · intro s w hC hd K hK
      obtain ⟨d8, d3, _⟩ := hd
      obtain ⟨gx, a0, n0, c0, e8, hg, hb⟩ := (show BoxP w _ (s 8) from d8 rfl)
      obtain ⟨ga, z, e3, -, -, -⟩ := (show ValP w _ _ _ _ (s 3) from d3 rfl)
      have HC := hid hC
      have HBX := hid hb
      have cx := hb.cell
      have fx := hb.frozen 0
      clear d8 d3 hC hb
      go_simp
      rw [← e8, ← e3, show w.setCell ⟨gx, 0, none⟩ (s 3) = w.setCell ⟨gx, 0, none⟩ (.slice (some ⟨ga, 0, none⟩) N N) by rw [e3]]
      refine hK undef (w.setCell ⟨gx, 0, none⟩ (.slice (some ⟨ga, 0, none⟩) N N)) ((HC.out.set HBX.out hg).put (by decide) (by decide)) ⟨gx, _, _, _, (upd_other s (i := 10) (j := 8) undef (by decide)).trans e8, hg, ?_, (upd_other s (i := 10) (j := 3) undef (by decide)).trans e3⟩ (fun j _ hj hw hr => RRd.put j hj (fun _ => by decide) (fun _ => by decide) (fun _ => by decide) (RRd.set n1 HBX.out j (fun e => absurd e hj) (fun e => by subst e; exact absurd hw (by decide)) hr))
      rw [upd_other s (i := 10) (j := 3) undef (by decide), e3]
      exact HBX.out.set _
    · intro s w hC hd K hK
      obtain ⟨d9, d7, _⟩ := hd
      obtain ⟨gx, a0, n0, c0, e9, hg, hb⟩ := (show BoxP w _ (s 9) from d9 rfl)
      obtain ⟨gb, z, e7, -, -, -, -⟩ := (show Val2 w _ _ _ _ _ (s 7) from d7 rfl)
      have HC := hid hC
      have HBX := hid hb
      have cx := hb.cell
      have fx := hb.frozen 0
      clear d9 d7 hC hb
      go_simp
      rw [← e9, ← e7, show w.setCell ⟨gx, 0, none⟩ (s 7) = w.setCell ⟨gx, 0, none⟩ (.slice (some ⟨gb, 0, none⟩) N N) by rw [e7]]
      refine hK undef (w.setCell ⟨gx, 0, none⟩ (.slice (some ⟨gb, 0, none⟩) N N)) ((HC.out.set HBX.out hg).put (by decide) (by decide)) ⟨gx, _, _, _, (upd_other s (i := 11) (j := 9) undef (by decide)).trans e9, hg, ?_, (upd_other s (i := 11) (j := 7) undef (by decide)).trans e7⟩ (fun j _ hj hw hr => RRd.put j hj (fun _ => by decide) (fun _ => by decide) (fun _ => by decide) (RRd.set n1 HBX.out j (fun _ e => HC.out.two gx e e9) (fun e => absurd e hj) hr))
      rw [upd_other s (i := 11) (j := 7) undef (by decide), e7]
      exact HBX.out.set _
  · intro s w3 hC hR
    obtain ⟨gA, a8, n8, c8, e8, l8, b8, -⟩ := (show HoldB w3 _ (s 8) (s 3) from hR 10 (by decide))
    obtain ⟨gB, a9, n9, c9, e9, l9, b9, -⟩ := (show HoldB w3 _ (s 9) (s 7) from hR 11 (by decide))
    obtain ⟨ga, x, e3, r3, l3, hx⟩ := (show ValP w3 _ _ _ _ (s 3) from hR 3 (by decide))
    obtain ⟨gb, y, e7, r7, l7, hy, d7⟩ := (show Val2 w3 _ _ _ _ (s 3) (s 7) from hR 7 (by decide))
    have dab := d7 ga e3
    have e0 : s 0 = _ := hR 0 (by decide)
    have e1 : s 1 = _ := hR 1 (by decide)
    have e2 : s 2 = _ := hR 2 (by decide)
    have e4 : s 4 = _ := hR 4 (by decide)
    have e5 : s 5 = _ := hR 5 (by decide)
    have e6 : s 6 = _ := hR 6 (by decide)
    rw [e3] at b8
    rw [e7] at b9
    have C3 := hC.old
    have D3 := HB.out.trans (C3.mono (by have := HZ.out; have := HGT.out; omega))
    have hz := HZ.out
    have hg := HGT.out
    have L0 := TF.out.lt
    have dA := b8.off r3 n1
    have dB := b9.off r3 n1
    have E3 : EnvR w3 gT gA gB ga gb g gf gm N p k r hh f sq x y := ⟨(HX.out.drew 1).below C3 (by omega), b8, b9, r3, r7, TF.out.below D3 L0, ⟨by omega, Ne.symm dA, Ne.symm dB, dab, by omega, by omega, by omega⟩⟩
    have RN := hid (rnds_any E3 OO.out n20 (fun j hj => by rw [hx j hj]; exact Int.emod_nonneg _ (by omega)) (fun j hj => by rw [hy j hj]; exact Int.emod_nonneg _ (by omega)))
    have NX : Hid (∀ W z, OnlyB ga w3 W → Row W ga N z → (∀ j, j < N → z j = x j * y j % p) → W.cell? ⟨gT, 0, none⟩ = some (.pointer (some ⟨g, 0, none⟩)) ∧ W.cell? ⟨gA, 0, none⟩ = some (.slice (some ⟨ga, 0, none⟩) N N) ∧ Below w.heap.size w W ∧ Calls Tryd.prog 36 #[.pointer (some ⟨g, 0, none⟩), .slice (some ⟨ga, 0, none⟩) N N, .int .i64 kk] W fun e w' => RndR w w' p N (ext a n) (ext b m) e ∧ Below w.heap.size w w') := fun W z O R hzz => by
      have E4 := E3.only O R
      have D4 := D3.trans (O.below.mono (by omega))
      refine ⟨E4.bT.cell, E4.bA.cell, D4, (coef_any g p k r kk _ N z W (TB.out W D4) (R.wl (fun j hj => ?_) (by omega)) hkk HN.out).mono ?_⟩
      · rw [hzz j hj]
        have := Int.emod_nonneg (x j * y j) (show (p : Int) ≠ 0 by omega)
        have := Int.emod_lt_of_pos (x j * y j) (show (0 : Int) < (p : Int) by omega)
        omega
      · rintro e w' ⟨⟨gr, c, h1, h2, h3, -, h5⟩, h6⟩
        have RP := rt_part TO.out.rt hkk
        rw [← rpt_int] at RP
        exact ⟨⟨gr, c, h1, h2, Nat.le_trans D4.size h3, fun j hj => bk_rounds RP HN.out (fun i hi => by rw [hzz i hi, hx i hi, hy i hi, rpt_int]) h5 j hj⟩, D4.trans (h6.mono D4.size)⟩
    have cA := b8.cell
    simp only [e0, e1, e2, e3, e4, e5, e6, e7, e8, e9]
    clear e0 e1 e2 e3 e4 e5 e6 e7 e8 e9 d7 dab b8 b9 C3 D3 hz hg L0 dA dB E3 hC hR r3 r7 l3 l7 l8 l9 hx hy HX HB HZ VA VB cT TF TB
    refine hKx _ _ ?_
    clear hKx
    go_wp2_with fail
    refine RN.out.mono ?_
    rintro e w4 ⟨rfl, z, hzz, R4, O4⟩
    obtain ⟨c1, c2, D4, CO⟩ := NX.out w4 z O4 R4 hzz
    have HCO := hid CO
    clear NX RN hzz R4 O4 D4 CO cA
    go_wp2_with fail
    refine HCO.out.mono ?_
    rintro e w5 ⟨R5, B5⟩
    have HR5 := hid R5
    have HB5 := hid B5
    obtain ⟨gr, c, rfl, -⟩ := R5
    clear B5 HCO c1 c2
    go_wp2
    go_ret
    exact ⟨HR5.out, HB5.out⟩
  · exact ⟨Below.refl _ _, Or.inl rfl, Or.inl rfl, fun g h _ => undef_np h⟩
end Go.Proofs.YtcclkahoonlieaaDoor
