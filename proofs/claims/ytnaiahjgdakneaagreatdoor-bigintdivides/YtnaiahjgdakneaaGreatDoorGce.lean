/- What 'euclid' answers: several of Euclid's steps. -/
import Derived.Test.YtnaiahjgdakneaaGreatDoorGcc
import Derived.Test.YtnaiahjgdakneaaGreatDoorKar
import Derived.Deep.RegionHeld3
namespace Go.Proofs.YtnaiahjgdakneaaGreatDoor
open Go.RowKit Num

theorem head_split {x : Nat → Int} {o k : Nat} (h : Wd x o (k + 2)) {K M : Int} (hM : 0 < M) (hKM : K * M = 18446744073709551616) :
    ∃ r, V x o (k + 2) = (x (o + (k + 1)) * K + x (o + k) / M) * (P k * M) + r ∧ 0 ≤ r ∧ r < P k * M := by
  have e : V x o (k + 2) = V x o k + x (o + k) * P k + x (o + (k + 1)) * (P k * 18446744073709551616) := rfl
  have hb := V_bd k (h.mono (by omega))
  have hp := P_pos k
  have d1 := Int.emod_add_mul_ediv (x (o + k)) M
  have d2 := Int.emod_nonneg (x (o + k)) (show M ≠ 0 by omega)
  have d3 := Int.emod_lt_of_pos (x (o + k)) hM
  refine ⟨x (o + k) % M * P k + V x o k, ?_, ?_, ?_⟩
  · rw [e, ← hKM]
    generalize x (o + (k + 1)) = t1 at *
    generalize hq : x (o + k) / M = q at *
    generalize hr : x (o + k) % M = r at *
    have : x (o + k) = r + M * q := by omega
    rw [this]; grind
  · have := Int.mul_nonneg d2 (Int.le_of_lt hp); omega
  · have : (x (o + k) % M + 1) * P k ≤ M * P k := Int.mul_le_mul_of_nonneg_right (by omega) (by omega)
    rw [Int.add_mul, Int.one_mul] at this
    rw [Int.mul_comm (P k) M]
    omega
theorem V_ext (y : Nat → Int) (p m n : Nat) (h : m ≤ n) : V (fun j => wy y p m j) 0 n = V y p m := by
  obtain ⟨r, rfl⟩ := Nat.le.dest h
  rw [V_split, Nat.zero_add, V_zero r (fun j _ => by show wy y p m (m + j) = 0; unfold wy; rw [if_neg (by omega)])]
  rw [V_congr (x := fun j => wy y p m j) (y := y) (o := 0) (p := p) m (fun j hj => by show wy y p m (0 + j) = _; unfold wy; rw [Nat.zero_add, if_pos hj])]
  simp
theorem top_le {x y : Nat → Int} {o p m k : Nat} (hx : Wd x o (k + 2)) (hy : Wd y p m) (hm : m ≤ k + 2) (h : V y p m ≤ V x o (k + 2)) : wy y p m (k + 1) ≤ x (o + (k + 1)) := by
  have hw : Wd (fun j => wy y p m j) 0 (k + 1) := fun j _ => by rw [Nat.zero_add]; exact wy_bd hy j
  have e1 : V (fun j => wy y p m j) 0 (k + 2) = V (fun j => wy y p m j) 0 (k + 1) + wy y p m (0 + (k + 1)) * P (k + 1) := rfl
  rw [V_ext y p m (k + 2) hm, Nat.zero_add] at e1
  have e2 : V x o (k + 2) = V x o (k + 1) + x (o + (k + 1)) * P (k + 1) := rfl
  have b1 := (V_bd (k + 1) hw).1
  have b2 := (V_bd (k + 1) (hx.mono (by omega))).2
  have hp := P_pos (k + 1)
  apply Int.not_lt.1
  intro hc
  have : (x (o + (k + 1)) + 1) * P (k + 1) ≤ wy y p m (k + 1) * P (k + 1) := Int.mul_le_mul_of_nonneg_right (by omega) (by omega)
  rw [Int.add_mul, Int.one_mul] at this
  omega
/-- what the heads are. -/
structure Hd (X Y A B D x0 y0 : Int) : Prop where
  hD : 0 < D
  eX : X = A * D + x0
  eY : Y = B * D + y0
  px : 0 ≤ x0
  lx : x0 < D
  py : 0 ≤ y0
  ly : y0 < D
theorem Hd.le {X Y A B D x0 y0 : Int} (h : Hd X Y A B D x0 y0) (hle : Y ≤ X) : B ≤ A := by
  apply Int.not_lt.1
  intro hc
  have : (A + 1) * D ≤ B * D := Int.mul_le_mul_of_nonneg_right (by omega) (Int.le_of_lt h.hD)
  rw [Int.add_mul, Int.one_mul] at this
  have := h.eX; have := h.eY; have := h.lx; have := h.py
  omega
set_option maxHeartbeats 800000 in
theorem heads_nz (vx vy : Value) (n m : Nat) (X Y : Int) (w : World) (hx : Nz w vx n X) (hy : Nz w vy m Y) (hle : Y ≤ X) (h2 : 2 ≤ m) (hn : n ≤ 100000000) :
    Calls Tryz.prog 77 #[vx, vy] w fun e w' => (∃ A B D x0 y0 : Int, e = .returned (.tuple #[.int .u64 A, .int .u64 B]) ∧ Hd X Y A B D x0 y0 ∧ 0 ≤ B ∧ B ≤ A ∧ A ≤ 18446744073709551615) ∧ ∃ q, w' = w.drewN q := by
  have hmn : m ≤ n := hy.le_len hx.nt hle
  obtain ⟨k, rfl⟩ : ∃ k, n = k + 2 := ⟨n - 2, by omega⟩
  obtain ⟨x, o, sx, nx, ex⟩ := hx
  obtain ⟨y, p, sy, ny, ey⟩ := hy
  have wx : Wd x o (k + 2) := by obtain ⟨_, _, _, _, _, q, _⟩ := sx; exact q
  have wyd : Wd y p m := by obtain ⟨_, _, _, _, _, q, _⟩ := sy; exact q
  have ht : 0 < x (o + (k + 1)) := by
    have := wx (k + 1) (by omega)
    rcases nx with h | h
    · omega
    · have h' : x (o + (k + 1)) ≠ 0 := h
      omega
  subst ex; subst ey
  refine (heads_any vx vy k m x y o p w sx sy ht (top_le wx wyd hmn hle) (by omega)).mono ?_
  rintro e w' ⟨⟨A, B, K, M, rfl, hK, hM, hKM, hb, eA, eB⟩, q, rfl⟩
  obtain ⟨rx, e1, r0, r1⟩ := head_split wx hM hKM
  have wext : Wd (fun j => wy y p m j) 0 (k + 2) := fun j _ => by rw [Nat.zero_add]; exact wy_bd wyd j
  obtain ⟨ry, e2, s0, s1⟩ := head_split wext hM hKM
  rw [V_ext y p m (k + 2) hmn] at e2
  simp only [Nat.zero_add] at e2
  rw [← eA] at e1
  rw [← eB] at e2
  have H : Hd (V x o (k + 2)) (V y p m) A B (P k * M) rx ry := ⟨Int.mul_pos (P_pos k) hM, e1, e2, r0, r1, s0, s1⟩
  refine ⟨⟨A, B, P k * M, rx, ry, rfl, H, ?_, H.le hle, ?_⟩, q, rfl⟩
  · rw [eB]
    have b1 := wy_bd wyd (k + 1)
    have b2 := wy_bd wyd k
    have := Int.mul_nonneg b1.1 (Int.le_of_lt hK)
    have := Int.ediv_nonneg b2.1 (Int.le_of_lt hM)
    omega
  · have b2 := wx k (by omega)
    have : x (o + k) / M < K := Int.ediv_lt_of_lt_mul hM (by rw [hKM]; omega)
    rw [Int.add_mul, Int.one_mul] at hb
    omega
/-- what one call of 'euclid' does to two numbers. -/
structure Eu (X Y X' Y' : Int) : Prop where
  h0 : 0 ≤ Y'
  h1 : Y' < Y
  h2 : Y' ≤ X'
  h3 : X' ≤ Y
  g : Int.gcd X' Y' = Int.gcd X Y
theorem Eu.of {X Y A B D x0 y0 a b c d : Int} {t : Bool} (H : Hd X Y A B D x0 y0) (h : Lg A B a b c d t) : Eu X Y (Num.nx X Y a b t) (Num.ny X Y c d t) := by
  obtain ⟨p0, p1, p2, i1, i2⟩ := h.whole H.hD H.eX H.eY H.px H.lx H.py H.ly
  exact ⟨p0, by omega, by omega, p2, gcd_same i1 i2 rfl rfl⟩
theorem bt4 {B : Nat} {w w1 w2 : World} (h : Below B w w1) (k : Below w1.heap.size w1 w2) (hB : B ≤ w1.heap.size := by first | exact Nat.le_refl _ | omega) : Below B w w2 := h.trans (k.mono hB)
set_option maxHeartbeats 3200000 in
set_option maxRecDepth 100000 in
theorem euclid_any (vx vy : Value) (n m : Nat) (X Y : Int) (w : World) (hx : Nz w vx n X) (hy : Nz w vy m Y) (hle : Y ≤ X) (h2 : 2 ≤ m) (hn : n ≤ 100000000) :
    Calls Tryz.prog 54 #[vx, vy] w fun e w' => (∃ v1 v2 k1 k2 X' Y', e = .returned (.tuple #[v1, v2]) ∧ Nz w' v1 k1 X' ∧ Nz w' v2 k2 Y' ∧ Eu X Y X' Y') ∧ Below w.heap.size w w' := by
  have hmn : m ≤ n := hy.le_len hx.nt hle
  have HX := hid hx
  have HY := hid hy
  have HD := hid (fun w => heads_nz vx vy n m X Y w)
  obtain ⟨_, _, ⟨xo, xc, rfl, _⟩, _⟩ := hx
  obtain ⟨_, _, ⟨yo, yc, rfl, _⟩, _⟩ := hy
  go_enter Tryz.func54, Tryz.ntmps54
  go_wp2_with fail
  refine (HD.out _ HX.out HY.out hle h2 hn).mono ?_
  rintro e w1 ⟨⟨A, B, D, x0, y0, rfl, H, hB0, hBA, hA⟩, q, hw1⟩
  have B1 : Below w.heap.size w w1 := by rw [hw1]; exact below_drewN (Below.refl _ _) q
  have HH := hid H
  clear hw1 H HD
  go_wp2_with fail
  refine (leapOf_any A B w1 hB0 hBA hA).mono ?_
  rintro e w2 ⟨⟨a, b, c, d, t, rfl, LG, ⟨a0, a1⟩, ⟨b0, b1⟩, ⟨c0, c1⟩, ⟨d0, d1⟩⟩, B2⟩
  have HG := hid LG
  clear LG
  have L3 := Lb.new w2 a b c d t
  have B3 : Below w2.heap.size w2 (w2.alloc (.cells #[.int .u64 a, .int .u64 b, .int .u64 c, .int .u64 d, .bool t] 106)) := (Below.refl _ _).alloc (Nat.le_refl _) _
  have B4 := hid (B1.trans ((B2.trans (B3.mono B2.size)).mono B1.size))
  have HL := hid L3
  clear L3 B1 B2 B3
  have hY0 : 0 < Y := by
    have := HY.out.nt.nonneg
    have := HY.out.len.1
    omega
  by_cases hb : b = 0
  · subst hb
    go_wp2_with fail
    refine (divMod_any _ _ n m X Y _ (HX.out.nt.below B4.out) (HY.out.nt.below B4.out) hn (by omega) hY0 (fun _ => long_said)).mono ?_
    rintro e w5 ⟨v1, v2, k1, k2, qq, r, rfl, s1, s2, e1, r0, r1, l1, l2, B5⟩
    have S2 := hid s2
    have G := hid (gcd_div e1)
    have B6 := hid (B4.out.trans (B5.mono B4.out.size))
    have HY6 := hid (HY.out.below B6.out)
    clear s1 s2 e1 B5 l1 l2
    obtain ⟨_, _, ⟨so, sc, rfl, _⟩, _⟩ := S2.out
    go_wp2
    go_ret2
    exact ⟨⟨_, _, m, k2, Y, r, rfl, HY6.out, S2.out, r0, r1, by omega, Int.le_refl _, G.out⟩, B6.out⟩
  · rcases HG.out with h | LG
    · exact absurd h hb
    · have EU := hid (Eu.of HH.out LG)
      have hb' : (b == 0) = false := beq_eq_false_iff_ne.2 hb
      clear LG HG HH
      cases t with
      | false =>
        have N1 := hid (show b * Y ≤ a * X by have := EU.out.h0; have := EU.out.h2; have e : Num.nx X Y a b false = a * X - b * Y := rfl; omega)
        have N2 := hid (show c * X ≤ d * Y by have := EU.out.h0; have e : Num.ny X Y c d false = d * Y - c * X := rfl; omega)
        obtain ⟨m0, m1, m2, m3, m4, mf, mg⟩ := HL.out.facts
        clear mf
        go_wp2_with fail
        generalize w2.alloc (.cells #[.int .u64 a, .int .u64 b, .int .u64 c, .int .u64 d, .bool false] 106) = w3 at *
        generalize w2.heap.size = g at *
        go_region_held3 (fun W => W.cell? ⟨g, 0, none⟩ = some (.int .u64 a) ∧ W.cell? ⟨g, 1, none⟩ = some (.int .u64 b) ∧ W.cell? ⟨g, 2, none⟩ = some (.int .u64 c) ∧ W.cell? ⟨g, 3, none⟩ = some (.int .u64 d)) (first | (refine ⟨?_, ?_, ?_, ?_⟩ <;> assumption) | (simp [*]; done)) (first
          | (go_at_call_of 78 (Value.int IntKind.u64 a); go_must (refine (timesLess_any _ _ n m X Y a b _ (HX.out.nt.below B4.out.drew) (HY.out.nt.below B4.out.drew) (by omega) (by omega) a0 a1 b0 b1 N1.out).mono ?_; rintro e w4 ⟨⟨v1, k1, rfl, O1⟩, C1⟩; have P1 := hid O1; obtain ⟨g1, Z1, X1, rfl, _⟩ := O1; have T1 := bt4 B4.out.drew C1 B4.out.size; have e0 := (C1.cell (p := ⟨g, 0, none⟩) mg).trans m0; have e1 := (C1.cell (p := ⟨g, 1, none⟩) mg).trans m1; have e2 := (C1.cell (p := ⟨g, 2, none⟩) mg).trans m2; have e3 := (C1.cell (p := ⟨g, 3, none⟩) mg).trans m3))
          | (go_at_call_of 78 (Value.int IntKind.u64 d); go_must (refine (timesLess_any _ _ m n Y X d c _ (HY.out.nt.below T1) (HX.out.nt.below T1) (by omega) (by omega) d0 d1 c0 c1 N2.out).mono ?_; rintro e w5 ⟨⟨v2, k2, rfl, O2⟩, C2⟩; have P2 := hid O2; obtain ⟨g2, Z2, X2, rfl, _⟩ := O2; have T2 := bt4 T1 C2 T1.size; have f0 := (C2.cell (p := ⟨g, 0, none⟩) (Nat.lt_of_lt_of_le mg C1.size)).trans e0; have f1 := (C2.cell (p := ⟨g, 1, none⟩) (Nat.lt_of_lt_of_le mg C1.size)).trans e1; have f2 := (C2.cell (p := ⟨g, 2, none⟩) (Nat.lt_of_lt_of_le mg C1.size)).trans e2; have f3 := (C2.cell (p := ⟨g, 3, none⟩) (Nat.lt_of_lt_of_le mg C1.size)).trans e3)))
        all_goals
          have Z9 := hid (P1.out.nz.below C2)
          have BB := hid T2
          clear C1 C2 T1 T2
          go_wp2
          go_ret2
          exact ⟨⟨_, _, k1, k2, _, _, rfl, Z9.out, P2.out.nz, EU.out⟩, BB.out⟩
      | true =>
        have N1 := hid (show a * X ≤ b * Y by have := EU.out.h0; have := EU.out.h2; have e : Num.nx X Y a b true = b * Y - a * X := rfl; omega)
        have N2 := hid (show d * Y ≤ c * X by have := EU.out.h0; have e : Num.ny X Y c d true = c * X - d * Y := rfl; omega)
        obtain ⟨m0, m1, m2, m3, m4, mf, mg⟩ := HL.out.facts
        clear mf
        go_wp2_with fail
        generalize w2.alloc (.cells #[.int .u64 a, .int .u64 b, .int .u64 c, .int .u64 d, .bool true] 106) = w3 at *
        generalize w2.heap.size = g at *
        go_region_held3 (fun W => W.cell? ⟨g, 0, none⟩ = some (.int .u64 a) ∧ W.cell? ⟨g, 1, none⟩ = some (.int .u64 b) ∧ W.cell? ⟨g, 2, none⟩ = some (.int .u64 c) ∧ W.cell? ⟨g, 3, none⟩ = some (.int .u64 d)) (first | (refine ⟨?_, ?_, ?_, ?_⟩ <;> assumption) | (simp [*]; done)) (first
          | (go_at_call_of 78 (Value.int IntKind.u64 b); go_must (refine (timesLess_any _ _ m n Y X b a _ (HY.out.nt.below B4.out.drew) (HX.out.nt.below B4.out.drew) (by omega) (by omega) b0 b1 a0 a1 N1.out).mono ?_; rintro e w4 ⟨⟨v1, k1, rfl, O1⟩, C1⟩; have P1 := hid O1; obtain ⟨g1, Z1, X1, rfl, _⟩ := O1; have T1 := bt4 B4.out.drew C1 B4.out.size; have e0 := (C1.cell (p := ⟨g, 0, none⟩) mg).trans m0; have e1 := (C1.cell (p := ⟨g, 1, none⟩) mg).trans m1; have e2 := (C1.cell (p := ⟨g, 2, none⟩) mg).trans m2; have e3 := (C1.cell (p := ⟨g, 3, none⟩) mg).trans m3))
          | (go_at_call_of 78 (Value.int IntKind.u64 c); go_must (refine (timesLess_any _ _ n m X Y c d _ (HX.out.nt.below T1) (HY.out.nt.below T1) (by omega) (by omega) c0 c1 d0 d1 N2.out).mono ?_; rintro e w5 ⟨⟨v2, k2, rfl, O2⟩, C2⟩; have P2 := hid O2; obtain ⟨g2, Z2, X2, rfl, _⟩ := O2; have T2 := bt4 T1 C2 T1.size; have f0 := (C2.cell (p := ⟨g, 0, none⟩) (Nat.lt_of_lt_of_le mg C1.size)).trans e0; have f1 := (C2.cell (p := ⟨g, 1, none⟩) (Nat.lt_of_lt_of_le mg C1.size)).trans e1; have f2 := (C2.cell (p := ⟨g, 2, none⟩) (Nat.lt_of_lt_of_le mg C1.size)).trans e2; have f3 := (C2.cell (p := ⟨g, 3, none⟩) (Nat.lt_of_lt_of_le mg C1.size)).trans e3)))
        all_goals
          have Z9 := hid (P1.out.nz.below C2)
          have BB := hid T2
          clear C1 C2 T1 T2
          go_wp2
          go_ret2
          exact ⟨⟨_, _, k1, k2, _, _, rfl, Z9.out, P2.out.nz, EU.out⟩, BB.out⟩
end Go.Proofs.YtnaiahjgdakneaaGreatDoor
