/- What 'takeFrom' and 'Sub' do: the difference of two numbers. -/
import Derived.Test.YtnaiahjgdakneaaGreatDoorDivm
namespace Go.Proofs.YtnaiahjgdakneaaGreatDoor
open Go.RowKit Num

theorem dl_db (x y b : Int) (hx : 0 ≤ x ∧ x ≤ 18446744073709551615) (hy : 0 ≤ y ∧ y ≤ 18446744073709551615) (hb : 0 ≤ b ∧ b ≤ 1) :
    dl x y b = x - y - b + db x y b * 18446744073709551616 ∧ 0 ≤ dl x y b ∧ dl x y b ≤ 18446744073709551615 ∧ 0 ≤ db x y b ∧ db x y b ≤ 1 := by
  unfold dl db; split <;> omega
theorem borrow_step (x : Nat → Int) (o k : Nat) (a c t : Int) (hx : 0 ≤ x (o + k) ∧ x (o + k) ≤ 18446744073709551615) (ha : 0 ≤ a ∧ a ≤ 18446744073709551615) (hc : 0 ≤ c ∧ c ≤ 1) (h : V x o k - c * P k = t) :
    V (upd x (o + k) (dl (x (o + k)) a c)) o (k + 1) - db (x (o + k)) a c * P (k + 1) = t + x (o + k) * P k - a * P k := by
  rw [V_upd_top]
  have e := (dl_db _ a c hx ha hc).1
  generalize dl (x (o + k)) a c = l at *
  generalize db (x (o + k)) a c = m at *
  simp only [P]
  generalize P k = q at *
  generalize x (o + k) = u at *
  rw [← h, e]
  grind

/-- what the loops of 'takeFrom' keep. -/
def SubRel (g N oz : Nat) (X : Nat → Int) (w : World) (k : Nat) (t c : Int) (X' : Nat → Int) (wr : World) : Prop :=
  Row wr g N X' ∧ Only g w wr ∧ V X' oz k - c * P k = t ∧ Wd X' oz k ∧ (∀ j, j < oz ∨ oz + k ≤ j → X' j = X j) ∧ 0 ≤ c ∧ c ≤ 1

theorem SubRel.step {g N oz : Nat} {X : Nat → Int} {w : World} {k : Nat} {t c : Int} {X' : Nat → Int} {wr : World} (h : SubRel g N oz X w k t c X' wr) (a : Int)
    (ha : 0 ≤ a ∧ a ≤ 18446744073709551615) (hx : 0 ≤ X (oz + k) ∧ X (oz + k) ≤ 18446744073709551615) :
    SubRel g N oz X w (k + 1) (t + X (oz + k) * P k - a * P k) (db (X' (oz + k)) a c) (upd X' (oz + k) (dl (X' (oz + k)) a c))
      (wr.setCell ⟨g, oz + k, none⟩ (.int .u64 (dl (X' (oz + k)) a c))) := by
  obtain ⟨h1, h2, h3, h4, h5, h6, h7⟩ := h
  have e := h5 (oz + k) (Or.inr (Nat.le_refl _))
  have hx' : 0 ≤ X' (oz + k) ∧ X' (oz + k) ≤ 18446744073709551615 := by rw [e]; exact hx
  have hs := borrow_step X' oz k a c t hx' ha ⟨h6, h7⟩ h3
  obtain ⟨_, d1, d2, d3, d4⟩ := dl_db (X' (oz + k)) a c hx' ha ⟨h6, h7⟩
  refine ⟨h1.set _ _, h2.set _ _, ?_, ?_, ?_, d3, d4⟩
  · rw [hs, e]
  · intro j hj
    by_cases hjk : j = k
    · subst hjk; rw [upd_same]; exact ⟨d1, d2⟩
    · rw [upd_other _ _ _ _ (by omega)]; exact h4 j (by omega)
  · intro j hj; rw [upd_other _ _ _ _ (by omega)]; exact h5 j (by omega)

set_option maxHeartbeats 800000 in
theorem takeFrom_any (g oz nz cz N : Nat) (X : Nat → Int) (v : Value) (ny : Nat) (y : Nat → Int) (p : Nat) (w : World)
    (hz : Row w g N X) (hN : oz + nz ≤ N) (hcz : nz ≤ cz) (hbz : cz ≤ 9223372036854775807) (hX : Wd X oz nz)
    (hy : SlN g w v ny y p) (hny : ny ≤ nz) (hroom : V y p ny ≤ V X oz nz) :
    Calls Tryz.prog 96 #[.slice (some ⟨g, oz, none⟩) nz cz, v] w fun e w' => e = .returned (.tuple #[]) ∧
      ∃ X', Row w' g N X' ∧ Only g w w' ∧ V X' oz nz = V X oz nz - V y p ny ∧ Wd X' oz nz ∧ ∀ j, j < oz ∨ oz + nz ≤ j → X' j = X j := by
  obtain ⟨ao, cy, rfl, y1, y2, y3, y4, y5⟩ := hy
  go_enter Tryz.func96, Tryz.ntmps96
  go_wp2
  go_loopw [4, 10] (fun cs i wr => ∃ (k : Nat) (c : Int) (X' : Nat → Int), k ≤ ny ∧ cs = .int .u64 c ∧ i = .int .i64 k ∧ SubRel g N oz X w k (V X oz k - V y p k) c X' wr) (fun _ i _ => ny - (intOf i).toNat)
  case atStart => exact ⟨0, 0, X, Nat.zero_le _, rfl, rfl, hz, Only.refl _ _, by simp [V], fun j hj => by omega, fun _ _ => rfl, by decide, by decide⟩
  case round =>
    obtain ⟨k, c, X', hk, rfl, rfl, hr⟩ := hrel
    by_cases hlt : k < ny
    · obtain ⟨b, off, rfl, hb, hbg, hc⟩ := y5 (by omega)
      have hst := hr.step (y (p + k)) (y3 k hlt) (hX k (by omega))
      obtain ⟨h1, h2, h3, h4, h5, h6, h7⟩ := hr
      have gy : wr.cell? ⟨b, off + k, none⟩ = some (.int .u64 (y (p + k))) := (h2.cell (p := ⟨b, off + k, none⟩) hbg).trans (hc k hlt)
      have gz : wr.cell? ⟨g, oz + k, none⟩ = some (.int .u64 (X' (oz + k))) := h1.cell (by omega)
      have gf := h1.frozen (oz + k)
      have e5 := h5 (oz + k) (Or.inr (Nat.le_refl _))
      have q1 : 0 ≤ X' (oz + k) := by rw [e5]; exact (hX k (by omega)).1
      obtain ⟨q2, q3⟩ := y3 k hlt
      have Hst := hid hst
      clear hst e5 h1 h2 h3 h4 h5 hz hroom hc y5
      go_wp2_with (simp only [sub64 (X' (oz + k)) (y (p + k)) c q1 q2 q3 h6 h7])
      refine ⟨⟨k + 1, _, upd X' (oz + k) (dl (X' (oz + k)) (y (p + k)) c), by omega, rfl, by go_num, ?_⟩, by simp [intOf]; omega⟩
      have := Hst.out
      simp only [V]
      rw [show V X oz k + X (oz + k) * P k - (V y p k + y (p + k) * P k) = V X oz k - V y p k + X (oz + k) * P k - y (p + k) * P k by omega]
      exact this
    · have hkn : k = ny := by omega
      subst hkn
      have Hroom : Hid (V y p k ≤ V X oz nz) := hroom
      clear hroom y5
      go_wp2
      go_loopw [4, 7] (fun cs i wr' => ∃ (m : Nat) (c : Int) (X' : Nat → Int), m ≤ nz ∧ cs = .int .u64 c ∧ i = .int .i64 m ∧ SubRel g N oz X w m (V X oz m - V y p k) c X' wr') (fun _ i _ => nz - (intOf i).toNat)
      case atStart => exact ⟨k, c, X', hny, rfl, rfl, hr⟩
      case round =>
        clear hr
        obtain ⟨m, c, X', hm, rfl, rfl, hr⟩ := hrel
        by_cases hc0 : c = 0
        · subst hc0
          obtain ⟨h1, h2, h3, h4, h5, h6, h7⟩ := hr
          have F : Hid (∃ X', Row wr g N X' ∧ Only g w wr ∧ V X' oz nz = V X oz nz - V y p k ∧ Wd X' oz nz ∧ ∀ j, j < oz ∨ oz + nz ≤ j → X' j = X j) := by
            refine ⟨X', h1, h2, ?_, ?_, fun j hj => h5 j (by omega)⟩
            · have := V_tail (x := X) (x' := X') (o := oz) hm (fun j h _ => h5 (oz + j) (by omega))
              simp at h3
              omega
            · intro j hj
              by_cases hjm : j < m
              · exact h4 j hjm
              · rw [h5 (oz + j) (by omega)]; exact hX j hj
          clear h1 h2 h3 h4 h5 hz hX y3
          go_wp2
          go_end0
          exact ⟨rfl, F.out⟩
        · have hcb : (c != 0) = true := by rw [bne_iff_ne]; exact hc0
          have hlt : m < nz := by
            obtain ⟨h1, h2, h3, h4, h5, h6, h7⟩ := hr
            have hm' : m ≠ nz := by
              intro e; subst e
              have hc1 : c = 1 := by omega
              subst hc1
              have := (V_bd m h4).2
              have := Hroom.out
              simp at h3
              omega
            omega
          have hst := hr.step 0 (by decide) (hX m hlt)
          simp only [Int.zero_mul, Int.sub_zero] at hst
          obtain ⟨h1, h2, h3, h4, h5, h6, h7⟩ := hr
          have gz : wr.cell? ⟨g, oz + m, none⟩ = some (.int .u64 (X' (oz + m))) := h1.cell (by omega)
          have gf := h1.frozen (oz + m)
          have e5 := h5 (oz + m) (Or.inr (Nat.le_refl _))
          have q1 : 0 ≤ X' (oz + m) := by rw [e5]; exact (hX m (by omega)).1
          have Hst := hid hst
          clear hst e5 h1 h2 h3 h4 h5 hz hc0 hX y3
          go_wp2_with (simp only [sub64 (X' (oz + m)) 0 c q1 (Int.le_refl 0) (by decide) h6 h7])
          refine ⟨⟨m + 1, _, upd X' (oz + m) (dl (X' (oz + m)) 0 c), by omega, rfl, by go_num, ?_⟩, by simp [intOf]; omega⟩
          have := Hst.out
          simp only [V]
          rw [show V X oz m + X (oz + m) * P m - V y p k = V X oz m - V y p k + X (oz + m) * P m by omega]
          exact this

/-- the view that 'trimmed' answers. -/
def trimV (v : Value) (k : Nat) : Value := match v with
  | .slice ao _ _ => .slice ao k k
  | u => u
theorem trimmed_val (v : Value) (n : Nat) (x : Nat → Int) (o : Nat) (w : World) (h : Sl w v n x o) :
    Calls Tryz.prog 44 #[v] w fun e w' => e = .returned (trimV v (tr x o n)) ∧ w' = w := by
  obtain ⟨ao, cap, rfl, h1, h2, h3, h4, h5⟩ := h
  cases n with
  | zero => exact trimmed_nil ao cap w h4 h2
  | succ n =>
    obtain ⟨b, off, rfl, hb, hc⟩ := h5 (by omega)
    exact trimmed_pos b off (n + 1) cap x o w h1 h2 hc
theorem Sl.trim {w : World} {v : Value} {n : Nat} {x : Nat → Int} {o : Nat} (h : Sl w v n x o) : Sl w (trimV v (tr x o n)) (tr x o n) x o := by
  obtain ⟨ao, cap, rfl, h1, h2, h3, h4, h5⟩ := h
  have hl := tr_le x o n
  refine ⟨ao, tr x o n, rfl, Nat.le_refl _, by omega, h3.mono hl, fun e => ?_, fun hpos => ?_⟩
  · have := h4 e; omega
  · obtain ⟨b, off, rfl, hb, hc⟩ := h5 (by omega)
    exact ⟨b, off, rfl, hb, fun j hj => hc j (by omega)⟩
/-- 'trimmed' in a later world: what it answers is a number of the elder one, too. -/
theorem trimmed_old (v : Value) (n : Nat) (a : Int) (w0 w : World) (h : Nt w0 v n a) (hb : Below w0.heap.size w0 w) :
    Calls Tryz.prog 44 #[v] w fun e w' => (∃ v' k, e = .returned v' ∧ Nz w0 v' k a ∧ k ≤ n) ∧ w' = w := by
  obtain ⟨x, o, h1, rfl⟩ := h
  refine (trimmed_val v n x o w (h1.below hb)).mono ?_
  rintro e w' ⟨rfl, rfl⟩
  exact ⟨⟨_, _, rfl, ⟨x, o, h1.trim, tr_nm x o n, V_tr x o n⟩, tr_le x o n⟩, rfl⟩
/-- a number is no shorter than a smaller one without words 0 at its end. -/
theorem Nz.le_len {w w2 : World} {v v2 : Value} {k n : Nat} {a b : Int} (h : Nz w v k a) (h2 : Nt w2 v2 n b) (hab : a ≤ b) : k ≤ n := by
  obtain ⟨x, o, h1, h3, rfl⟩ := h
  apply Nat.le_of_not_lt
  intro hlt
  obtain ⟨j, rfl⟩ : ∃ j, k = j + 1 := ⟨k - 1, by omega⟩
  have := V_ge h1.wd (by rcases h3 with h | h; omega; simpa using h)
  have := h2.lt
  have := P_le (show n ≤ j by omega)
  omega

set_option maxHeartbeats 800000 in
set_option maxRecDepth 100000 in
theorem sub_less (vx vy : Value) (n m : Nat) (a b : Int) (w : World) (hx : Nt w vx n a) (hy : Nt w vy m b) (hlt : a < b) :
    Calls Tryz.prog 93 #[vx, vy] w fun e w' => e = .returned (.tuple #[.slice none 0 0, .int .i64 1]) ∧ Below w.heap.size w w' := by
  have Hc := hid (cmp_nt vx vy n m a b w hx hy)
  clear hx hy
  go_enter Tryz.func93, Tryz.ntmps93
  go_wp2_with fail
  refine Hc.out.mono ?_
  rintro e w1 ⟨rfl, i, rfl⟩
  rw [cmpI_lt hlt]
  go_wp2
  go_ret2
  exact ⟨rfl, below_drewN (Below.refl _ _) i⟩

set_option maxHeartbeats 800000 in
set_option maxRecDepth 100000 in
/-- 'Sub' is the difference. -/
theorem sub_any (vx vy : Value) (n m : Nat) (a b : Int) (w : World) (hx : Nt w vx n a) (hy : Nt w vy m b) (hn : n ≤ 100000000) (hle : b ≤ a) :
    Calls Tryz.prog 93 #[vx, vy] w fun e w' => ∃ v k, e = .returned (.tuple #[v, .int .i64 0]) ∧ Nz w' v k (a - b) ∧ k ≤ n ∧ Below w.heap.size w w' := by
  have Hc := hid (cmp_nt vx vy n m a b w hx hy)
  have hc := cmpI_ge (show ¬ a < b by omega)
  have hcb : decide (cmpI a b < 0) = false := by simpa using hc
  have HX := hid hx
  have HY := hid hy
  clear hx hy
  go_enter Tryz.func93, Tryz.ntmps93
  go_wp2_with fail
  refine Hc.out.mono ?_
  rintro e w1 ⟨rfl, i, hw1⟩
  have B1 : Below w.heap.size w w1 := by rw [hw1]; exact below_drewN (Below.refl _ _) i
  have hs1 : w.heap.size ≤ w1.heap.size := B1.size
  clear hw1 Hc
  go_wp2_with fail
  refine (norm_any _ n a w1 (HX.out.below B1) hn).mono ?_
  rintro e w2 ⟨k, X, rfl, R2, W2, N2, V2, l2, B2, Z2⟩
  have HV2 := hid V2
  have HZ2 := hid Z2
  have HN2 := hid N2
  clear V2 Z2 N2
  have B12 := B1.trans (B2.mono hs1)
  go_wp2_with fail
  refine (trimmed_old _ m b w w2 HY.out B12).mono ?_
  rintro e w3 ⟨⟨v2, m', rfl, s2, l3⟩, hw3⟩
  subst hw3
  have hlen : m' ≤ k := s2.le_len (Nt.of_row R2 W2 HV2.out (by omega)) hle
  obtain ⟨y, p, sy, -, ey⟩ := s2
  have SY := hid (sy.apart B12 hs1)
  have EY := hid ey
  clear sy ey
  go_wp2_with fail
  refine (takeFrom_any w1.heap.size 0 k k k X _ m' y p w3 R2 (by omega) (Nat.le_refl _) (by omega) W2 SY.out hlen (by rw [HV2.out, EY.out]; exact hle)).mono ?_
  rintro e w4 ⟨rfl, X', R4, O4, V4, W4, -⟩
  have HV4 := hid V4
  clear V4 R2 W2
  go_wp2_with fail
  refine (trimmed_nt _ k (a - b) w4 (sum_nt R4 W4 HV4.out (by rw [HV2.out, EY.out]) (by omega))).mono ?_
  rintro e w5 ⟨⟨v', k', rfl, s5, l5⟩, rfl⟩
  go_wp2
  go_ret2
  exact ⟨v', k', rfl, s5, by omega, B12.trans (O4.below hs1)⟩
end Go.Proofs.YtnaiahjgdakneaaGreatDoor
