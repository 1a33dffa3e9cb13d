/- The walk of 'NatOwn': what is handed in is left alone, and what is answered is the caller's. -/
import Derived.Test.YtnoeclmccbhkmabDoorOwa
import Derived.Test.YtnoeclmccbhkmabDoorGcf
import Derived.Test.YtnoeclmccbhkmabDoorAwk
import Derived.Test.YtnoeclmccbhkmabDoorKarb
namespace Go.Proofs.YtnoeclmccbhkmabDoor
open Go.RowKit Num
set_option maxHeartbeats 800000 in
set_option maxRecDepth 100000 in
theorem few_any (ao bo : Option Addr) (n m ca cb : Nat) (w : World) :
    Calls Tryd.prog 16 #[.slice ao n ca, .slice bo m cb] w fun e w' => e = .returned (.bool (decide (n ≤ 12) && decide (m ≤ 12))) ∧ w' = w := by
  by_cases h1 : n ≤ 12
  · have h1' : (n : Int) ≤ 12 := by omega
    have e1 : decide (n ≤ 12) = true := by simpa using h1
    by_cases h2 : m ≤ 12
    · have h2' : (m : Int) ≤ 12 := by omega
      have e2 : decide (m ≤ 12) = true := by simpa using h2
      rw [e1, e2]
      clear e1 e2
      go_enter Tryd.func16, Tryd.ntmps16
      go_wp2
      go_ret
      exact ⟨rfl, rfl⟩
    · have h2' : ¬ (m : Int) ≤ 12 := by omega
      have e2 : decide (m ≤ 12) = false := by simpa using h2
      rw [e1, e2]
      clear e1 e2
      go_enter Tryd.func16, Tryd.ntmps16
      go_wp2
      go_ret
      exact ⟨rfl, rfl⟩
  · have h1' : ¬ (n : Int) ≤ 12 := by omega
    have e1 : decide (n ≤ 12) = false := by simpa using h1
    rw [e1]
    clear e1
    go_enter Tryd.func16, Tryd.ntmps16
    go_wp2
    go_ret
    exact ⟨rfl, rfl⟩
theorem sub_all (vx vy : Value) (n m : Nat) (a b : Int) (w : World) (hx : Nt w vx n a) (hy : Nt w vy m b) (hn : n ≤ 100000000) :
    Calls Tryd.prog 8 #[vx, vy] w fun e w' => (∃ u1 u2, e = .returned (.tuple #[u1, u2])) ∧ Below w.heap.size w w' := by
  by_cases h : a < b
  · refine (sub_less vx vy n m a b w hx hy h).mono ?_
    rintro e w' ⟨rfl, C⟩
    exact ⟨⟨_, _, rfl⟩, C⟩
  · refine (sub_any vx vy n m a b w hx hy hn (by omega)).mono ?_
    rintro e w' ⟨v, k, rfl, _, _, C⟩
    exact ⟨⟨_, _, rfl⟩, C⟩
theorem divMod_all (vx vy : Value) (n m : Nat) (a b : Int) (w : World) (hx : Nt w vx n a) (hy : Nt w vy m b) (hn : n ≤ 100000000) (hm : m ≤ 100000000) :
    Calls Tryd.prog 13 #[vx, vy] w fun e w' => (∃ v1 v2 er, e = .returned (.tuple #[v1, v2, .int .i64 er]) ∧ Fr w.heap.size w' v1 ∧ Fr w.heap.size w' v2) ∧ Below w.heap.size w w' := by
  by_cases h : b = 0
  · subst h
    refine (divMod_zero vx vy n m a w hx hy).mono ?_
    rintro e w' ⟨rfl, rfl⟩
    exact ⟨⟨_, _, _, rfl, Fr.nil _ _, Fr.nil _ _⟩, Below.refl _ _⟩
  · refine (divMod_own vx vy n m a b w hx hy hn hm (by have := hy.nonneg; omega)).mono ?_
    rintro e w' ⟨v1, v2, rfl, f1, f2, C⟩
    exact ⟨⟨_, _, _, rfl, f1, f2⟩, C⟩
/-- the four numbers that are written. -/
def four (v0 v1 v2 v3 : Value) (i : Nat) : Value := if i = 0 then v0 else if i = 1 then v1 else if i = 2 then v2 else v3
/-- what the loops that write keep. -/
def Wrel (B ga : Nat) (v0 v1 v2 v3 : Value) (w wr : World) : Prop :=
  wr.heap[ga]? = some (.cells #[v0, v1, v2, v3] 23 (0, 0)) ∧ (Fr B wr v0 ∧ Fr B wr v1 ∧ Fr B wr v2 ∧ Fr B wr v3) ∧ Below B w wr
theorem Wrel.fr {B ga : Nat} {v0 v1 v2 v3 : Value} {w wr : World} (h : Wrel B ga v0 v1 v2 v3 w wr) (i : Nat) : Fr B wr (four v0 v1 v2 v3 i) := by
  obtain ⟨_, ⟨f0, f1, f2, f3⟩, _⟩ := h
  unfold four
  split
  · exact f0
  · split
    · exact f1
    · split
      · exact f2
      · exact f3
theorem Wrel.cell {B ga : Nat} {v0 v1 v2 v3 : Value} {w wr : World} (h : Wrel B ga v0 v1 v2 v3 w wr) {i : Nat} (hi : i < 4) : wr.cell? ⟨ga, i, none⟩ = some (four v0 v1 v2 v3 i) := by
  have e : i = 0 ∨ i = 1 ∨ i = 2 ∨ i = 3 := by omega
  simp only [World.cell?, h.1]
  rcases e with rfl | rfl | rfl | rfl <;> rfl
theorem Wrel.set {B ga : Nat} {v0 v1 v2 v3 : Value} {w wr : World} (h : Wrel B ga v0 v1 v2 v3 w wr) {g N k : Nat} {X : Nat → Int} (hr : Row wr g N X) (hB : B ≤ g) (u : Int) : Wrel B ga v0 v1 v2 v3 w (wr.setCell ⟨g, k, none⟩ (.int .u64 u)) := by
  obtain ⟨ha, ⟨f0, f1, f2, f3⟩, hb⟩ := h
  have hne : ga ≠ g := by
    rintro rfl
    obtain ⟨cur, hc, _⟩ := hr
    rw [ha] at hc
    simp at hc
  exact ⟨(heap_setCell_other wr ⟨g, k, none⟩ ga (.int .u64 u) hne).trans ha, ⟨f0.set g k u, f1.set g k u, f2.set g k u, f3.set g k u⟩, below_put hb hB k _⟩
/-- what stays as it was. -/
def Bd (wf : World) (vx vy va vb : Value) (n m : Nat) (x y : Nat → Int) (o p : Nat) (wr : World) : Prop :=
  Sl wr vx n x o ∧ Sl wr vy m y p ∧ Sl wr va n x o ∧ Sl wr vb m y p ∧ Tab wr ∧ Below wf.heap.size wf wr
theorem Bd.go {wf : World} {vx vy va vb : Value} {n m : Nat} {x y : Nat → Int} {o p : Nat} {wr w' : World} (h : Bd wf vx vy va vb n m x y o p wr) (k : Below wr.heap.size wr w') : Bd wf vx vy va vb n m x y o p w' := by
  obtain ⟨h1, h2, h3, h4, h5, h6⟩ := h
  exact ⟨h1.below k, h2.below k, h3.below k, h4.below k, h5.below k h5.lt, h6.trans (k.mono h6.size)⟩
set_option maxHeartbeats 6400000 in
set_option maxRecDepth 100000 in
theorem own_few (vx vy : Value) (n m : Nat) (A B : Int) (w : World) (hx : Nt w vx n A) (hy : Nt w vy m B) (ht : Tab w) (hn : n ≤ 12) (hm : m ≤ 12) :
    Calls Tryd.prog 6 #[vx, vy] w fun e w' => e = .returned (.bool true) ∧ Below w.heap.size w w' := by
  obtain ⟨x, o, sx, ex⟩ := hx
  obtain ⟨y, p, sy, ey⟩ := hy
  have HX := hid sx
  have HY := hid sy
  have HT := hid ht
  have EX := hid ex
  have EY := hid ey
  obtain ⟨xo, xc, rfl, _⟩ := sx
  obtain ⟨yo, yc, rfl, _⟩ := sy
  have d1 : decide (n ≤ 12) = true := by simpa using hn
  have d2 : decide (m ≤ 12) = true := by simpa using hm
  have FW := hid (few_any xo yo n m xc yc w)
  rw [d1, d2] at FW
  clear ht d1 d2 ex ey
  go_enter Tryd.func6, Tryd.ntmps6
  go_wp2_with fail
  refine FW.out.mono ?_
  rintro e wf ⟨rfl, rfl⟩
  clear FW
  go_wp2_with (first
    | (at_builtin; refine wp_copyall _ rfl _ _ rfl rfl (.slice xo n xc) rfl n x o HX.out (by omega) ?_; intro va w1 SA C1)
    | (at_builtin; refine wp_copyall _ rfl _ _ rfl rfl (.slice yo m yc) rfl m y p (HY.out.below C1) (by omega) ?_; intro vb w2 SB C2))
  have G2 : Hid (Bd wf (.slice xo n xc) (.slice yo m yc) va vb n m x y o p w2) :=
    ⟨(HX.out.below C1).below C2, (HY.out.below C1).below C2, SA.below C2, SB, HT.out.below (C1.trans (C2.mono C1.size)) HT.out.lt, C1.trans (C2.mono C1.size)⟩
  clear C1 C2 SA SB HX HY HT
  refine (norm_any _ n A _ ⟨x, o, G2.out.1, EX.out⟩ (by omega)).mono ?_
  rintro e w3 ⟨kn, Xn, rfl, R3, W3, N3, V3, l3, C3, z3⟩
  have HR3 := hid R3
  have HC3 := hid C3
  clear R3 W3 N3 V3 C3 z3
  go_wp2
  go_loopw [8] (fun iv wr => ∃ (k : Nat) (Z : Nat → Int), k ≤ kn ∧ iv = .int .i64 k ∧ Hid (Row wr w2.heap.size kn Z ∧ Only w2.heap.size w3 wr)) (fun iv _ => kn - (intOf iv).toNat)
  case atStart => exact ⟨0, Xn, Nat.zero_le _, rfl, HR3.out, Only.refl _ _⟩
  case round =>
    obtain ⟨k, Z, hk, rfl, HH⟩ := hrel
    clear HR3
    by_cases hkn : k = kn
    · subst hkn
      have G4 := hid (G2.out.go (HC3.out.trans (HH.out.2.below (Nat.le_refl _))))
      clear HH G2 HC3
      go_wp2_with fail
      refine (add_any _ _ n m A B _ ⟨x, o, G4.out.1, EX.out⟩ ⟨y, p, G4.out.2.1, EY.out⟩ (by omega) (by omega)).mono ?_
      rintro e w5 ⟨u5, k5, rfl, _, _, D5⟩
      have G5 := hid (G4.out.go D5)
      clear D5 G4
      go_wp2_with fail
      refine (sub_all _ _ n m A B _ ⟨x, o, G5.out.1, EX.out⟩ ⟨y, p, G5.out.2.1, EY.out⟩ (by omega)).mono ?_
      rintro e w6 ⟨⟨u6, u6', rfl⟩, D6⟩
      have G6 := hid (G5.out.go D6)
      clear D6 G5
      go_wp2_with fail
      refine (mul_any _ _ n m A B _ ⟨x, o, G6.out.1, EX.out⟩ ⟨y, p, G6.out.2.1, EY.out⟩ (by omega) (by omega)).mono ?_
      rintro e w7 ⟨u7, k7, rfl, _, _, D7⟩
      have G7 := hid (G6.out.go D7)
      clear D7 G6
      go_wp2_with fail
      refine (karatsuba_any _ _ n m A B 1 _ ⟨x, o, G7.out.1, EX.out⟩ ⟨y, p, G7.out.2.1, EY.out⟩ (by omega) (by omega) (by decide) (by decide)).mono ?_
      rintro e w8 ⟨u8, k8, rfl, _, _, D8⟩
      have G8 := hid (G7.out.go D8)
      clear D8 G7
      go_wp2_with fail
      refine (gcd_any _ _ n m A B _ ⟨x, o, G8.out.1, EX.out⟩ ⟨y, p, G8.out.2.1, EY.out⟩ (by omega) (by omega)).mono ?_
      rintro e w9 ⟨⟨u9, rfl, k9, _, _⟩, D9⟩
      have G9 := hid (G8.out.go D9)
      clear D9 G8
      go_wp2_with fail
      refine (shl_own _ n A 3 0 3 _ ⟨x, o, G9.out.1, EX.out⟩ (by omega) (by decide) (by decide) (by decide)).mono ?_
      rintro e w10 ⟨v0, rfl, F0, D10⟩
      have H0 := hid F0
      have E10 := hid D10
      have G10 := hid (G9.out.go D10)
      clear F0 D10
      go_wp2_with fail
      refine (shr_own _ m B 3 0 3 _ ⟨y, p, G10.out.2.1, EY.out⟩ (by omega) (by decide) (by decide) (by decide)).mono ?_
      rintro e w11 ⟨v1, rfl, F1, D11⟩
      have H1 := hid (F1.mono E10.out.size)
      have H0' := hid (H0.out.below D11)
      have E11 := hid (E10.out.trans (D11.mono E10.out.size))
      have G11 := hid (G10.out.go D11)
      clear F1 D11 H0 E10 G10
      go_wp2_with fail
      refine (divMod_all _ _ n m A B _ ⟨x, o, G11.out.1, EX.out⟩ ⟨y, p, G11.out.2.1, EY.out⟩ (by omega) (by omega)).mono ?_
      rintro e w12 ⟨⟨v2, v3, er, rfl, F2, F3⟩, D12⟩
      have WR : Hid (Wrel w9.heap.size w12.heap.size v0 v1 v2 v3 w9 (w12.alloc (.cells #[v0, v1, v2, v3] 23))) := by
        have al : Below w12.heap.size w12 (w12.alloc (.cells #[v0, v1, v2, v3] 23)) := (Below.refl _ _).alloc (Nat.le_refl _) _
        exact ⟨heap_alloc_new w12 _, ⟨(H0'.out.below D12).below al, (H1.out.below D12).below al, (F2.mono E11.out.size).below al, (F3.mono E11.out.size).below al⟩, (E11.out.trans (D12.mono E11.out.size)).trans (al.mono (Nat.le_trans E11.out.size D12.size))⟩
      obtain ⟨s0, l0, t0, rfl, _⟩ := H0'.out
      obtain ⟨s1, l1, t1, rfl, _⟩ := H1.out
      obtain ⟨s2, l2, t2, rfl, _⟩ := F2
      obtain ⟨s3, l3', t3, rfl, _⟩ := F3
      clear D12 H0' H1 E11 G11
      go_wp2
      go_loopw [17] (fun iv wr => ∃ i : Nat, i ≤ 4 ∧ iv = .int .i64 i ∧ Hid (Wrel w9.heap.size w12.heap.size (.slice s0 l0 t0) (.slice s1 l1 t1) (.slice s2 l2 t2) (.slice s3 l3' t3) w9 wr)) (fun iv _ => 4 - (intOf iv).toNat)
      case atStart => exact ⟨0, by omega, rfl, WR.out⟩
      case round =>
        clear WR
        obtain ⟨i, hi, rfl, HW⟩ := hrel
        by_cases hi4 : i = 4
        · subst hi4
          have GX := hid (G9.out.go HW.out.2.2)
          clear HW
          go_wp2
          obtain ⟨ya, yb, yc', yd, ye, yf⟩ := GX.out
          obtain ⟨bx, cx, ex', x1, x2, x3, x4, x5⟩ := ya
          cases ex'
          obtain ⟨by', cy, ey', y1, y2, y3, y4, y5⟩ := yb
          cases ey'
          obtain ⟨ba, ca, rfl, a1, a2, a3, a4, a5⟩ := yc'
          obtain ⟨bb, cb, rfl, b1, b2, b3, b4, b5⟩ := yd
          have X5 := hid x5
          have Y5 := hid y5
          have A5 := hid a5
          have B5 := hid b5
          have TF := hid yf
          have TT := hid ye
          clear x3 x4 x5 y3 y4 y5 a3 a4 a5 b3 b4 b5 ye yf
          go_loopw [19] (fun iv wr3 => ∃ i : Nat, i ≤ n ∧ iv = .int .i64 i ∧ Hid (∃ q, wr3 = wr.drewN q)) (fun iv _ => n - (intOf iv).toNat)
          case atStart => exact ⟨0, Nat.zero_le _, rfl, 0, rfl⟩
          case round =>
            obtain ⟨i, hin, rfl, HQ⟩ := hrel
            obtain ⟨q, rfl⟩ := HQ.out
            by_cases hie : i = n
            · subst hie
              go_wp2
              go_loopw [20] (fun iv wr4 => ∃ j : Nat, j ≤ m ∧ iv = .int .i64 j ∧ Hid (∃ q, wr4 = wr.drewN q)) (fun iv _ => m - (intOf iv).toNat)
              case atStart => exact ⟨0, Nat.zero_le _, rfl, q, rfl⟩
              case round =>
                clear HQ
                obtain ⟨j, hjm, rfl, HQ⟩ := hrel
                obtain ⟨q', rfl⟩ := HQ.out
                by_cases hje : j = m
                · subst hje
                  have T8 := hid (TT.out.below (below_drewN (Below.refl wr.heap.size wr) q') TT.out.lt)
                  have B8 := hid (below_drewN TF.out q')
                  go_wp2_with fail
                  refine (awake_any _ T8.out).mono ?_
                  rintro e w20 ⟨rfl, D20⟩
                  have BF := hid (B8.out.trans (D20.mono (by simpa using B8.out.size)))
                  clear D20
                  go_wp2
                  go_ret
                  exact ⟨rfl, BF.out⟩
                · have hj' : (j : Int) < m := by omega
                  obtain ⟨g1, o1, rfl, _, hc1⟩ := Y5.out (by omega)
                  obtain ⟨g2, o2, rfl, _, hc2⟩ := B5.out (by omega)
                  have e1 : (wr.drewN q').cell? ⟨g1, o1 + j, none⟩ = some (.int .u64 (y (p + j))) := hc1 j (by omega)
                  have e2 : (wr.drewN q').cell? ⟨g2, o2 + j, none⟩ = some (.int .u64 (y (p + j))) := hc2 j (by omega)
                  clear hc1 hc2 HQ
                  generalize hw : wr.drewN q' = w21 at *
                  have HW := hid hw
                  clear hw
                  go_wp2
                  go_region
                  go_wp2
                  exact ⟨⟨j + 1, by omega, rfl, q' + 1, by rw [← HW.out]; rfl⟩, by simp only [intOf]; omega⟩
            · have hi' : (i : Int) < n := by omega
              obtain ⟨g1, o1, rfl, _, hc1⟩ := X5.out (by omega)
              obtain ⟨g2, o2, rfl, _, hc2⟩ := A5.out (by omega)
              have e1 : (wr.drewN q).cell? ⟨g1, o1 + i, none⟩ = some (.int .u64 (x (o + i))) := hc1 i (by omega)
              have e2 : (wr.drewN q).cell? ⟨g2, o2 + i, none⟩ = some (.int .u64 (x (o + i))) := hc2 i (by omega)
              clear hc1 hc2 HQ
              generalize hw : wr.drewN q = w21 at *
              have HW := hid hw
              clear hw
              go_wp2
              go_region
              go_wp2
              exact ⟨⟨i + 1, by omega, rfl, q + 1, by rw [← HW.out]; rfl⟩, by simp only [intOf]; omega⟩
        · have hi' : (i : Int) < 4 := by omega
          obtain ⟨ao', k', c', e', hkc, hcb, _⟩ := HW.out.fr i
          have cA := HW.out.cell (i := i) (by omega)
          rw [e'] at cA
          go_wp2
          go_loopw [18] (fun kv wr2 => ∃ kk : Nat, kk ≤ k' ∧ kv = .int .i64 kk ∧ Hid (Wrel w9.heap.size w12.heap.size (.slice s0 l0 t0) (.slice s1 l1 t1) (.slice s2 l2 t2) (.slice s3 l3' t3) w9 wr2)) (fun kv _ => k' - (intOf kv).toNat)
          case atStart => exact ⟨0, Nat.zero_le _, rfl, HW.out⟩
          case round =>
            clear HW cA
            obtain ⟨kk, hkk, rfl, HV⟩ := hrel
            have cB := HV.out.cell (i := i) (by omega)
            rw [e'] at cB
            by_cases hke : kk = k'
            · subst hke
              go_wp2
              exact ⟨⟨i + 1, by omega, rfl, HV.out⟩, by simp only [intOf]; omega⟩
            · have hlt : (kk : Int) < k' := by omega
              obtain ⟨ao2, k2, c2, e2, _, _, hF⟩ := HV.out.fr i
              rw [e'] at e2
              cases e2
              obtain ⟨g, NN, X, rfl, hr, hN, hB⟩ := hF (by omega)
              have rc := hr.cell (i := kk) (by omega)
              have rf := hr.frozen kk
              have ST := hid (HV.out.set (k := kk) hr hB 7)
              clear hF hr HV
              go_wp2
              exact ⟨⟨kk + 1, by omega, rfl, ST.out⟩, by simp only [intOf]; omega⟩
    · have hk' : (k : Int) < kn := by omega
      have rc := HH.out.1.cell (i := k) (by omega)
      have rf := HH.out.1.frozen k
      go_wp2
      exact ⟨⟨k + 1, _, by omega, rfl, HH.out.1.set k _, HH.out.2.set k _⟩, by simp only [intOf]; omega⟩
set_option maxHeartbeats 800000 in
theorem own_many (vx vy : Value) (n m : Nat) (a b : Int) (w : World) (hx : Nt w vx n a) (hy : Nt w vy m b) (ht : Tab w) (h : ¬ (n ≤ 12 ∧ m ≤ 12)) :
    Calls Tryd.prog 6 #[vx, vy] w fun e w' => e = .returned (.bool true) ∧ Below w.heap.size w w' := by
  have HT := hid ht
  obtain ⟨_, _, ⟨ao, ca, rfl, _⟩, _⟩ := hx
  obtain ⟨_, _, ⟨bo, cb, rfl, _⟩, _⟩ := hy
  have FW := hid (few_any ao bo n m ca cb w)
  have e : (decide (n ≤ 12) && decide (m ≤ 12)) = false := by simpa using h
  rw [e] at FW
  clear ht e h
  go_enter Tryd.func6, Tryd.ntmps6
  go_wp2_with fail
  refine FW.out.mono ?_
  rintro e wf ⟨rfl, rfl⟩
  go_wp2_with fail
  refine (awake_any _ HT.out).mono ?_
  rintro e w6 ⟨rfl, C6⟩
  go_wp2
  go_ret
  exact ⟨rfl, C6⟩
theorem ownlaw_any (vx vy : Value) (n m : Nat) (a b : Int) (w : World) (hx : Nt w vx n a) (hy : Nt w vy m b) (ht : Tab w) :
    Calls Tryd.prog 6 #[vx, vy] w fun e w' => e = .returned (.bool true) ∧ Below w.heap.size w w' := by
  by_cases h : n ≤ 12 ∧ m ≤ 12
  · exact own_few vx vy n m a b w hx hy ht h.1 h.2
  · exact own_many vx vy n m a b w hx hy ht h
end Go.Proofs.YtnoeclmccbhkmabDoor
