/- What 'addTimes' and 'Mul' do: the product of two numbers, word by word. -/
import Derived.Test.YtnaiahjgdakneaaDoorAdd
import Derived.Test.YtnaiahjgdakneaaDoorShelf
namespace Go.Proofs.YtnaiahjgdakneaaDoor
open Go.RowKit Num

theorem mul64 (x y : Int) (hx : 0 ≤ x) (hx' : x ≤ 18446744073709551615) (hy : 0 ≤ y) (hy' : y ≤ 18446744073709551615) (w : World) :
    Calls Tryd.prog 50 #[.int .u64 x, .int .u64 y] w fun e w' => e = .returned (.tuple #[.int .u64 (hi (x * y)), .int .u64 (lo (x * y))]) ∧ w' = w := by
  obtain ⟨x, rfl⟩ := Int.eq_ofNat_of_zero_le hx
  obtain ⟨y, rfl⟩ := Int.eq_ofNat_of_zero_le hy
  have h := Tryd.bits_Mul64 x y (by omega) (by omega) w
  have e1 : ((x * y / 18446744073709551616 : Nat) : Int) = hi ((x : Int) * y) := by unfold hi; rw [← Int.natCast_mul]; omega
  have e2 : ((x * y % 18446744073709551616 : Nat) : Int) = lo ((x : Int) * y) := by unfold lo; rw [← Int.natCast_mul]; omega
  rw [← e1, ← e2]
  exact h

set_option maxHeartbeats 800000 in
set_option maxRecDepth 100000 in
theorem addTimes_any (g oz nz cz N : Nat) (X : Nat → Int) (v : Value) (ny : Nat) (y : Nat → Int) (p : Nat) (f : Int) (w : World)
    (hz : Row w g N X) (hN : oz + nz ≤ N) (_hcz : nz ≤ cz) (_hbz : cz ≤ 9223372036854775807) (hX : Wd X oz nz)
    (hy : SlN g w v ny y p) (hny : ny ≤ nz) (hf0 : 0 ≤ f) (hf1 : f ≤ 18446744073709551615) :
    Calls Tryd.prog 79 #[.slice (some ⟨g, oz, none⟩) nz cz, v, .int .u64 f] w fun e w' => ∃ c X', e = .returned (.int .u64 c) ∧
      Row w' g N X' ∧ Only g w w' ∧ V X' oz ny + c * P ny = V X oz ny + V y p ny * f ∧ Wd X' oz nz ∧ (∀ j, j < oz ∨ oz + ny ≤ j → X' j = X j) ∧ 0 ≤ c ∧ c ≤ 18446744073709551615 := by
  obtain ⟨ao, cy, rfl, y1, y2, y3, y4, y5⟩ := hy
  go_enter Tryd.func79, Tryd.ntmps79
  go_wp2
  go_loopw [7, 15] (fun cs i wr => ∃ (k : Nat) (c : Int) (X' : Nat → Int), k ≤ ny ∧ cs = .int .u64 c ∧ i = .int .i64 k ∧
     Hid (Row wr g N X' ∧ Only g w wr ∧ V X' oz k + c * P k = V X oz k + V y p k * f ∧ Wd X' oz nz ∧ (∀ j, j < oz ∨ oz + k ≤ j → X' j = X j)) ∧ 0 ≤ c ∧ c ≤ 18446744073709551615) (fun _ i _ => ny - (intOf i).toNat)
  case atStart => exact ⟨0, 0, X, Nat.zero_le _, rfl, rfl, ⟨hz, Only.refl _ _, by simp [V], hX, fun _ _ => rfl⟩, by decide, by decide⟩
  case round =>
    obtain ⟨k, c, X', hk, rfl, rfl, hr, c0, c1⟩ := hrel
    by_cases hlt : k < ny
    · obtain ⟨b, off, rfl, hb, hbg, hc⟩ := y5 (by omega)
      obtain ⟨h1, h2, h3, h4, h5⟩ := hr.out
      have gy : wr.cell? ⟨b, off + k, none⟩ = some (.int .u64 (y (p + k))) := (h2.cell (p := ⟨b, off + k, none⟩) hbg).trans (hc k hlt)
      have gz : wr.cell? ⟨g, oz + k, none⟩ = some (.int .u64 (X' (oz + k))) := h1.cell (by omega)
      have gf := h1.frozen (oz + k)
      have qx := h4 k (by omega)
      have qy := y3 k hlt
      have mb := mul_bd qy ⟨hf0, hf1⟩ ⟨c0, c1⟩ qx
      obtain ⟨t1, t2, t3, t4, t5, t6, t7, t8⟩ := times_word (y (p + k) * f) c (X' (oz + k)) mb.1 ⟨c0, c1⟩ qx mb.2
      have T2 := hid t2
      have T3 := hid t3
      have H2 := hid h2
      have H3 := hid h3
      have H4 := hid h4
      have H5 := hid h5
      have bq := lo_nonneg (y (p + k) * f)
      have br := lo_nonneg (lo (y (p + k) * f) + c)
      obtain ⟨qx0, qx1⟩ := qx
      obtain ⟨qy0, qy1⟩ := qy
      have t9 : hi (y (p + k) * f) + hi (lo (y (p + k) * f) + c) + hi (X' (oz + k) + lo (lo (y (p + k) * f) + c)) ≤ 18446744073709551615 := by rw [t2]; exact t5
      clear h2 h3 h4 h5 t2 t3 hz hc y5 hX mb y3
      go_wp2_with (first
        | (go_at_call 50; refine (mul64 _ _ qy0 qy1 hf0 hf1 _).mono ?_; rintro e w1 ⟨rfl, rfl⟩)
        | simp only [add64_0 (lo (y (p + k) * f)) c bq c0]
        | simp only [add64_0 (X' (oz + k)) (lo (lo (y (p + k) * f) + c)) qx0 br])
      refine ⟨⟨k + 1, hi (y (p + k) * f + c + X' (oz + k)), upd X' (oz + k) (lo (X' (oz + k) + lo (lo (y (p + k) * f) + c))), by omega, by rw [T2.out], by go_num, ?_, t4, t5⟩, by simp [intOf]; omega⟩
      refine ⟨h1.set _ _, H2.out.set _ _, ?_, ?_, ?_⟩
      · rw [T3.out, times_step X' oz k _ c _ H3.out, H5.out (oz + k) (by omega)]
        simp only [V]
        grind
      · exact Wd_upd H4.out (lo_nonneg _) (lo_le _)
      · intro j hj
        rw [upd_other _ _ _ _ (by omega)]
        exact H5.out j (by omega)
    · have hkn : k = ny := by omega
      subst hkn
      go_wp2
      go_ret
      obtain ⟨h1, h2, h3, h4, h5⟩ := hr.out
      exact ⟨c, X', rfl, h1, h2, h3, h4, h5, c0, c1⟩

theorem nil_nz (w : World) : Nz w (.slice none 0 0) 0 0 :=
  ⟨fun _ => 0, 0, ⟨none, 0, rfl, Nat.le_refl _, by omega, (fun j hj => absurd hj (by omega)), (fun _ => rfl), (fun h => absurd h (by omega))⟩, Or.inl rfl, rfl⟩

/-- a number without words 0 at its end, in memory from block B on (or without words). -/
def NzF (B : Nat) (w : World) (v : Value) (k : Nat) (a : Int) : Prop :=
  Nz w v k a ∧ ∀ g, g < B → ∃ x o, SlN g w v k x o ∧ Nm x o k ∧ V x o k = a
theorem Own.nzf {B : Nat} {w : World} {v : Value} {k : Nat} {a : Int} (h : Own B w v k a) : NzF B w v k a := by
  refine ⟨h.nz, fun g' hg' => ?_⟩
  obtain ⟨g, N, X, rfl, h1, h2, h3, h4, h5, h6, h7⟩ := h
  exact ⟨X, 0, ⟨_, k, rfl, Nat.le_refl _, h7, h4, (fun e => by cases e), fun _ => ⟨g, 0, rfl, h1.lt, by omega, fun j hj => by rw [Nat.zero_add]; exact h1.cell (by omega)⟩⟩, h5, h6⟩
theorem nil_nzf (B : Nat) (w : World) : NzF B w (.slice none 0 0) 0 0 :=
  ⟨nil_nz w, fun g _ => ⟨fun _ => 0, 0, ⟨none, 0, rfl, Nat.le_refl _, by omega, (fun j hj => absurd hj (by omega)), (fun _ => rfl), (fun h => absurd h (by omega))⟩, Or.inl rfl, rfl⟩⟩
theorem NzF.mono {B B' : Nat} {w : World} {v : Value} {k : Nat} {a : Int} (h : NzF B w v k a) (hB : B' ≤ B) : NzF B' w v k a := ⟨h.1, fun g hg => h.2 g (by omega)⟩

set_option maxHeartbeats 800000 in
set_option maxRecDepth 100000 in
/-- 'Mul' is the product, in memory of its own. -/
theorem mul_fresh (vx vy : Value) (n m : Nat) (a b : Int) (w : World) (hx : Nt w vx n a) (hy : Nt w vy m b) (hn : n ≤ 100000000) (hm : m ≤ 100000000) :
    Calls Tryd.prog 62 #[vx, vy] w fun e w' => ∃ v k, e = .returned v ∧ NzF w.heap.size w' v k (a * b) ∧ k ≤ n + m ∧ Below w.heap.size w w' := by
  have Hx := hid (trimmed_nt vx n a w hx)
  have Hy := hid (trimmed_nt vy m b w hy)
  clear hx hy
  go_enter Tryd.func62, Tryd.ntmps62
  go_wp2_with fail
  refine Hx.out.mono ?_
  rintro e w' ⟨⟨v1, n', rfl, s1, l1⟩, rfl⟩
  go_wp2_with fail
  refine Hy.out.mono ?_
  rintro e w' ⟨⟨v2, m', rfl, s2, l2⟩, rfl⟩
  clear Hx Hy
  obtain ⟨x, o, s1, -, e1⟩ := s1
  obtain ⟨y, p, s2, -, e2⟩ := s2
  have E1 := hid e1
  have E2 := hid e2
  have S1 := hid s1
  have S2 := hid s2
  obtain ⟨ao, c1, rfl, x1, x2, x3, x4, x5⟩ := s1
  obtain ⟨bo, c2, rfl, -⟩ := s2
  clear e1 e2
  by_cases hn0 : n' = 0
  · subst hn0
    have hab : a * b = 0 := by rw [← E1.out]; simp [V]
    have Hab := hid hab
    clear hab x1 x2 x3 x4 x5
    go_wp2
    go_ret
    exact ⟨_, 0, rfl, by rw [Hab.out]; exact nil_nzf _ _, by omega, Below.refl _ _⟩
  by_cases hm0 : m' = 0
  · subst hm0
    have hab : a * b = 0 := by rw [← E2.out]; simp [V]
    have Hab := hid hab
    have hq : ((n' : Int) == 0) = false := beq_eq_false_iff_ne.2 (by omega)
    clear hab x1 x2 x3 x4 x5
    go_wp2
    go_ret
    exact ⟨_, 0, rfl, by rw [Hab.out]; exact nil_nzf _ _, by omega, Below.refl _ _⟩
  have hq1 : ((n' : Int) == 0) = false := beq_eq_false_iff_ne.2 (by omega)
  have hq2 : ((m' : Int) == 0) = false := beq_eq_false_iff_ne.2 (by omega)
  obtain ⟨bx, ox, rfl, hbx, hcx⟩ := x5 (by omega)
  clear x4 x5
  have HC := hid hcx
  clear hcx
  go_wp2_with (at_make; refine wp_make _ rfl _ _ rfl _ _ (n' + m') rfl rfl (by omega) (by omega) (by omega) ?_; intro w1 R1 B1 Z1; have HZ := hid Z1; clear Z1)
  go_loopw [28] (fun i wr => ∃ (k : Nat) (Z : Nat → Int), k ≤ n' ∧ i = .int .i64 k ∧ Hid (Row wr w'.heap.size (n' + m') Z ∧ Only w'.heap.size w1 wr ∧ V Z 0 (k + m') = V x o k * V y p m' ∧ Wd Z 0 (n' + m') ∧ (∀ j, k + m' ≤ j → Z j = 0))) (fun i _ => n' - (intOf i).toNat)
  case atStart => exact ⟨0, fun _ => 0, Nat.zero_le _, rfl, R1, Only.refl _ _, by rw [V_zero _ (fun _ _ => rfl)]; simp [V], (fun j hj => by simp), fun _ _ => rfl⟩
  case round =>
    obtain ⟨k, Z, hk, rfl, hr⟩ := hrel
    by_cases hlt : k < n'
    · obtain ⟨h1, h2, h3, h4, h5⟩ := hr.out
      have gx : wr.cell? ⟨bx, ox + k, none⟩ = some (.int .u64 (x (o + k))) := (h2.cell (p := ⟨bx, ox + k, none⟩) (by show bx ≠ _; omega)).trans ((B1.cell (p := ⟨bx, ox + k, none⟩) hbx).trans (HC.out k hlt))
      have H2 := hid h2
      have H3 := hid h3
      have H4 := hid h4
      have H5 := hid h5
      obtain ⟨xk0, xk1⟩ := x3 k hlt
      clear h2 h3 h4 h5 hr
      go_wp2_with (go_at_call 79; refine (addTimes_any w'.heap.size k m' (n' + m' - k) (n' + m') Z _ m' y p (x (o + k)) wr h1 (by omega) (by omega) (by omega) (fun j hj => by have := H4.out (k + j) (by omega); rwa [Nat.zero_add] at this) ((S2.out.apart B1 (Nat.le_refl _)).only H2.out) (Nat.le_refl _) xk0 xk1).mono ?_; rintro e w3 ⟨c, Z', rfl, R3, O3, V3, W3, F3, c0, c1⟩; have G3 := R3.cell (show k + m' < n' + m' by omega); have G3f := R3.frozen (k + m'); have HV3 := hid V3; have HF3 := hid F3; clear V3 F3)
      refine ⟨⟨k + 1, upd Z' (k + m') c, by omega, by go_num, ?_⟩, by simp [intOf]; omega⟩
      refine ⟨R3.set _ _, (H2.out.trans O3).set _ _, ?_, ?_, ?_⟩
      · have e0 : k + 1 + m' = k + (m' + 1) := by omega
        rw [e0, V_split, Nat.zero_add, V_upd_top]
        have e1 : V (upd Z' (k + m') c) 0 k = V Z 0 k := V_congr k (fun j hj => by rw [upd_other _ _ _ _ (by omega)]; exact HF3.out _ (by omega))
        have e2 := H3.out
        rw [V_split, Nat.zero_add] at e2
        rw [e1, HV3.out]
        simp only [V]
        have e3 : P k * (V Z k m' + V y p m' * x (o + k)) = P k * V Z k m' + x (o + k) * P k * V y p m' := by grind
        rw [e3, Int.add_mul, ← e2]
        omega
      · refine Wd_upd (fun j hj => ?_) c0 c1
        rw [Nat.zero_add]
        by_cases hin : k ≤ j ∧ j < k + m'
        · obtain ⟨i, rfl⟩ := Nat.le.dest hin.1
          exact W3 i (by omega)
        · rw [HF3.out j (by omega)]; have := H4.out j hj; rwa [Nat.zero_add] at this
      · intro j hj
        rw [upd_other _ _ _ _ (by omega), HF3.out j (by omega)]
        exact H5.out j (by omega)
    · have hkn : k = n' := by omega
      subst hkn
      obtain ⟨h1, h2, h3, h4, h5⟩ := hr.out
      have NT := hid (trimmed_own w'.heap.size w'.heap.size (k + m') (k + m') Z (a * b) wr h1 (Nat.le_refl _) (Nat.le_refl _) h4 (by rw [h3, E1.out, E2.out]) (by omega))
      have H2 := hid h2
      clear h1 h2 h3 h4 h5 hr x3
      go_wp2_with (go_at_call 39; refine NT.out.mono ?_; rintro e w4 ⟨⟨v, q, rfl, s, l⟩, rfl⟩)
      go_ret
      exact ⟨v, q, rfl, s.nzf, by omega, B1.trans (H2.out.below (Nat.le_refl _))⟩

/-- 'Mul' is the product. -/
theorem mul_any (vx vy : Value) (n m : Nat) (a b : Int) (w : World) (hx : Nt w vx n a) (hy : Nt w vy m b) (hn : n ≤ 100000000) (hm : m ≤ 100000000) :
    Calls Tryd.prog 62 #[vx, vy] w fun e w' => ∃ v k, e = .returned v ∧ Nz w' v k (a * b) ∧ k ≤ n + m ∧ Below w.heap.size w w' := by
  refine (mul_fresh vx vy n m a b w hx hy hn hm).mono ?_
  rintro e w' ⟨v, k, rfl, h1, h2, h3⟩
  exact ⟨v, k, rfl, h1.1, h2, h3⟩
end Go.Proofs.YtnaiahjgdakneaaDoor
