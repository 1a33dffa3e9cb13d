/- What 'addTo' and 'Add' do: the sum of two numbers. -/
import Derived.Test.YtnaiahjgdakneaaGreatDoorOps
namespace Go.Proofs.YtnaiahjgdakneaaGreatDoor
open Go.RowKit Num

/-- what the first loop of 'addTo' keeps. -/
def AddRel (g N oz : Nat) (X : Nat → Int) (w : World) (k : Nat) (t c : Int) (X' : Nat → Int) (wr : World) : Prop :=
  Row wr g N X' ∧ Only g w wr ∧ V X' oz k + c * P k = t ∧ Wd X' oz k ∧ (∀ j, j < oz ∨ oz + k ≤ j → X' j = X j) ∧ 0 ≤ c ∧ c ≤ 1

theorem AddRel.step {g N oz : Nat} {X : Nat → Int} {w : World} {k : Nat} {t c : Int} {X' : Nat → Int} {wr : World} (h : AddRel g N oz X w k t c X' wr) (a : Int)
    (ha : 0 ≤ a ∧ a ≤ 18446744073709551615) (hx : 0 ≤ X (oz + k) ∧ X (oz + k) ≤ 18446744073709551615) :
    AddRel g N oz X w (k + 1) (t + X (oz + k) * P k + a * P k) (hi (X' (oz + k) + a + c)) (upd X' (oz + k) (lo (X' (oz + k) + a + c)))
      (wr.setCell ⟨g, oz + k, none⟩ (.int .u64 (lo (X' (oz + k) + a + c)))) := by
  obtain ⟨h1, h2, h3, h4, h5, h6, h7⟩ := h
  have e := h5 (oz + k) (Or.inr (Nat.le_refl _))
  have hs := carry_step X' oz k a c t h3
  refine ⟨h1.set _ _, h2.set _ _, ?_, ?_, ?_, ?_⟩
  · rw [hs, e]
  · intro j hj
    by_cases hjk : j = k
    · subst hjk; rw [upd_same]; exact ⟨lo_nonneg _, lo_le _⟩
    · rw [upd_other _ _ _ _ (by omega)]; exact h4 j (by omega)
  · intro j hj; rw [upd_other _ _ _ _ (by omega)]; exact h5 j (by omega)
  · rw [e]; exact hi_le1 _ (by omega) (by omega)

set_option maxHeartbeats 800000 in
theorem addTo_any (g oz nz cz N : Nat) (X : Nat → Int) (v : Value) (ny : Nat) (y : Nat → Int) (p : Nat) (w : World)
    (hz : Row w g N X) (hN : oz + nz ≤ N) (hcz : nz ≤ cz) (hbz : cz ≤ 9223372036854775807) (hX : Wd X oz nz)
    (hy : SlN g w v ny y p) (hny : ny ≤ nz) (hroom : V X oz nz + V y p ny < P nz) :
    Calls Tryz.prog 92 #[.slice (some ⟨g, oz, none⟩) nz cz, v] w fun e w' => e = .returned (.tuple #[]) ∧
      ∃ X', Row w' g N X' ∧ Only g w w' ∧ V X' oz nz = V X oz nz + V y p ny ∧ Wd X' oz nz ∧ ∀ j, j < oz ∨ oz + nz ≤ j → X' j = X j := by
  obtain ⟨ao, cy, rfl, y1, y2, y3, y4, y5⟩ := hy
  go_enter Tryz.func92, Tryz.ntmps92
  go_wp2
  go_loopw [4, 10] (fun cs i wr => ∃ (k : Nat) (c : Int) (X' : Nat → Int), k ≤ ny ∧ cs = .int .u64 c ∧ i = .int .i64 k ∧ AddRel g N oz X w k (V X oz k + V y p k) c X' wr) (fun _ i _ => ny - (intOf i).toNat)
  case atStart => exact ⟨0, 0, X, Nat.zero_le _, rfl, rfl, hz, Only.refl _ _, by simp [V], fun j hj => by omega, fun _ _ => rfl, by decide, by decide⟩
  case round =>
    obtain ⟨k, c, X', hk, rfl, rfl, hr⟩ := hrel
    by_cases hlt : k < ny
    · obtain ⟨b, off, rfl, hb, hbg, hc⟩ := y5 (by omega)
      have hst := hr.step (y (p + k)) (y3 k hlt) (hX k (by omega))
      obtain ⟨h1, h2, h3, h4, h5, h6, h7⟩ := hr
      have gy : wr.cell? ⟨b, off + k, none⟩ = some (.int .u64 (y (p + k))) := (h2.cell (p := ⟨b, off + k, none⟩) hbg).trans (hc k hlt)
      have gz : wr.cell? ⟨g, oz + k, none⟩ = some (.int .u64 (X' (oz + k))) := h1.cell (by omega)
      have gf := h1.frozen (oz + k)
      have e5 := h5 (oz + k) (Or.inr (Nat.le_refl _))
      have q1 : 0 ≤ X' (oz + k) := by rw [e5]; exact (hX k (by omega)).1
      have q2 : 0 ≤ y (p + k) := (y3 k hlt).1
      have Hst := hid (hst)
      clear hst e5 h1 h2 h3 h4 h5 hz hroom hc y5
      go_wp2_with (simp only [add64 (X' (oz + k)) (y (p + k)) c q1 q2 h6 h7])
      refine ⟨⟨k + 1, _, upd X' (oz + k) (lo (X' (oz + k) + y (p + k) + c)), by omega, rfl, by go_num, ?_⟩, by simp [intOf]; omega⟩
      have := Hst.out
      simp only [V]
      rw [show V X oz k + X (oz + k) * P k + (V y p k + y (p + k) * P k) = V X oz k + V y p k + X (oz + k) * P k + y (p + k) * P k by omega]
      exact this
    · have hkn : k = ny := by omega
      subst hkn
      have Hroom : Hid (V X oz nz + V y p k < P nz) := hroom
      clear hroom y5
      go_wp2
      go_loopw [4, 7] (fun cs i wr' => ∃ (m : Nat) (c : Int) (X' : Nat → Int), m ≤ nz ∧ cs = .int .u64 c ∧ i = .int .i64 m ∧ AddRel g N oz X w m (V X oz m + V y p k) c X' wr') (fun _ i _ => nz - (intOf i).toNat)
      case atStart => exact ⟨k, c, X', hny, rfl, rfl, hr⟩
      case round =>
        clear hr
        obtain ⟨m, c, X', hm, rfl, rfl, hr⟩ := hrel
        by_cases hc0 : c = 0
        · subst hc0
          obtain ⟨h1, h2, h3, h4, h5, h6, h7⟩ := hr
          have F : Hid (∃ X', Row wr g N X' ∧ Only g w wr ∧ V X' oz nz = V X oz nz + V y p k ∧ Wd X' oz nz ∧ ∀ j, j < oz ∨ oz + nz ≤ j → X' j = X j) := by
            refine ⟨X', h1, h2, ?_, ?_, fun j hj => h5 j (by omega)⟩
            · have := V_tail (x := X) (x' := X') (o := oz) hm (fun j h _ => h5 (oz + j) (by omega))
              simp at h3
              omega
            · intro j hj
              by_cases hjm : j < m
              · exact h4 j hjm
              · rw [h5 (oz + j) (by omega)]; exact hX j hj
          clear h1 h2 h3 h4 h5 hz hX y3
          go_wp2
          go_end0
          exact ⟨rfl, F.out⟩
        · have hcb : (c != 0) = true := by rw [bne_iff_ne]; exact hc0
          have hlt : m < nz := by
            obtain ⟨h1, h2, h3, h4, h5, h6, h7⟩ := hr
            have hm' : m ≠ nz := by
              intro e; subst e
              have hc1 : c = 1 := by omega
              subst hc1
              have := (V_bd m h4).1
              have := Hroom.out
              simp at h3
              omega
            omega
          have hst := hr.step 0 (by decide) (hX m hlt)
          simp only [Int.add_zero, Int.zero_mul] at hst
          obtain ⟨h1, h2, h3, h4, h5, h6, h7⟩ := hr
          have gz : wr.cell? ⟨g, oz + m, none⟩ = some (.int .u64 (X' (oz + m))) := h1.cell (by omega)
          have gf := h1.frozen (oz + m)
          have e5 := h5 (oz + m) (Or.inr (Nat.le_refl _))
          have q1 : 0 ≤ X' (oz + m) := by rw [e5]; exact (hX m (by omega)).1
          have Hst := hid (hst)
          clear hst e5 h1 h2 h3 h4 h5 hz hc0 hX y3
          go_wp2_with (simp only [add64 (X' (oz + m)) 0 c q1 (Int.le_refl 0) h6 h7])
          refine ⟨⟨m + 1, _, upd X' (oz + m) (lo (X' (oz + m) + c)), by omega, rfl, by go_num, ?_⟩, by simp [intOf]; omega⟩
          have := Hst.out
          simp only [V]
          rw [show V X oz m + X (oz + m) * P m + V y p k = V X oz m + V y p k + X (oz + m) * P m by omega]
          exact this

/-- 'v' is a slice of k words whose number is a. -/
def Nt (w : World) (v : Value) (k : Nat) (a : Int) : Prop := ∃ x o, Sl w v k x o ∧ V x o k = a
/-- .. and no word 0 stands at its end. -/
def Nz (w : World) (v : Value) (k : Nat) (a : Int) : Prop := ∃ x o, Sl w v k x o ∧ Nm x o k ∧ V x o k = a
theorem Nz.nt {w : World} {v : Value} {k : Nat} {a : Int} (h : Nz w v k a) : Nt w v k a := by
  obtain ⟨x, o, h1, _, h3⟩ := h; exact ⟨x, o, h1, h3⟩
theorem Nt.below {w w' : World} {v : Value} {k : Nat} {a : Int} (h : Nt w v k a) (hb : Below w.heap.size w w') : Nt w' v k a := by
  obtain ⟨x, o, h1, h3⟩ := h; exact ⟨x, o, h1.below hb, h3⟩
theorem Nz.below {w w' : World} {v : Value} {k : Nat} {a : Int} (h : Nz w v k a) (hb : Below w.heap.size w w') : Nz w' v k a := by
  obtain ⟨x, o, h1, h2, h3⟩ := h; exact ⟨x, o, h1.below hb, h2, h3⟩
theorem Nt.nonneg {w : World} {v : Value} {k : Nat} {a : Int} (h : Nt w v k a) : 0 ≤ a := by
  obtain ⟨x, o, ⟨_, _, _, _, _, hw, _⟩, rfl⟩ := h; exact (V_bd k hw).1
theorem Nt.lt {w : World} {v : Value} {k : Nat} {a : Int} (h : Nt w v k a) : a < P k := by
  obtain ⟨x, o, ⟨_, _, _, _, _, hw, _⟩, rfl⟩ := h; exact (V_bd k hw).2
theorem trimmed_nt (v : Value) (n : Nat) (a : Int) (w : World) (h : Nt w v n a) :
    Calls Tryz.prog 44 #[v] w fun e w' => (∃ v' k, e = .returned v' ∧ Nz w v' k a ∧ k ≤ n) ∧ w' = w := by
  obtain ⟨x, o, h1, rfl⟩ := h
  refine (trimmed_any v n x o w h1).mono ?_
  rintro e w' ⟨⟨v', rfl, s⟩, rfl⟩
  exact ⟨⟨v', _, rfl, ⟨x, o, s, tr_nm x o n, V_tr x o n⟩, tr_le x o n⟩, rfl⟩

/-- 'v' is the front of a row of the call's own (from block B on), without words 0 at its end, and its number is a. -/
def Own (B : Nat) (w : World) (v : Value) (k : Nat) (a : Int) : Prop :=
  ∃ g N X, v = .slice (some ⟨g, 0, none⟩) k k ∧ Row w g N X ∧ k ≤ N ∧ B ≤ g ∧ Wd X 0 k ∧ Nm X 0 k ∧ V X 0 k = a ∧ k ≤ 9223372036854775807
theorem Own.nz {B : Nat} {w : World} {v : Value} {k : Nat} {a : Int} (h : Own B w v k a) : Nz w v k a := by
  obtain ⟨g, N, X, rfl, h1, h2, _, h4, h5, h6, h7⟩ := h
  exact ⟨X, 0, h1.sl 0 k k (by omega) (Nat.le_refl _) h7 h4, h5, h6⟩
theorem trimmed_own (B g n N : Nat) (X : Nat → Int) (a : Int) (w : World) (hr : Row w g N X) (hn : n ≤ N) (hB : B ≤ g) (hw : Wd X 0 n) (hv : V X 0 n = a) (hb : n ≤ 9223372036854775807) :
    Calls Tryz.prog 44 #[.slice (some ⟨g, 0, none⟩) n n] w fun e w' => (∃ v k, e = .returned v ∧ Own B w v k a ∧ k ≤ n) ∧ w' = w := by
  refine (trimmed_pos g 0 n n X 0 w (Nat.le_refl _) hb (fun j hj => by rw [Nat.zero_add]; exact hr.cell (by omega))).mono ?_
  rintro e w' ⟨rfl, rfl⟩
  have hl := tr_le X 0 n
  exact ⟨⟨_, _, rfl, ⟨g, N, X, rfl, hr, by omega, hB, hw.mono hl, tr_nm X 0 n, by rw [V_tr, hv], by omega⟩, hl⟩, rfl⟩

theorem add_room {a b : Int} {n m : Nat} (ha : a < P n) (hb : b < P m) (h : m ≤ n) : a + b < P (n + 1) := by
  have := P_le h
  have := P_pos n
  simp only [P]
  omega

theorem over_wd {n : Nat} {y : Nat → Int} {p : Nat} (k : Nat) (h : Wd y p n) : Wd (over (fun _ => 0) 0 n y p) 0 k := by
  intro j _
  by_cases hj : j < n
  · rw [over_in hj]; exact h j hj
  · rw [over_out (by omega)]; decide
theorem over_V {n : Nat} {y : Nat → Int} {p : Nat} (k : Nat) (hk : n ≤ k) : V (over (fun _ => 0) 0 n y p) 0 k = V y p n := by
  obtain ⟨r, rfl⟩ := Nat.le.dest hk
  rw [V_split]
  rw [V_congr (y := y) (p := p) n (fun j hj => over_in hj), V_zero r (fun j hj => over_out (by omega))]
  omega
theorem Sl.wd {w : World} {v : Value} {n : Nat} {x : Nat → Int} {o : Nat} (h : Sl w v n x o) : Wd x o n := by
  obtain ⟨_, _, _, _, _, hw, _⟩ := h; exact hw
theorem sum_nt {w : World} {g k : Nat} {X : Nat → Int} {t s : Int} (hR : Row w g k X) (hW : Wd X 0 k) (hV : V X 0 k = t) (e : t = s) (hk : k ≤ 9223372036854775807) : Nt w (.slice (some ⟨g, 0, none⟩) k k) k s :=
  ⟨X, 0, hR.sl 0 k k (by omega) (Nat.le_refl _) hk hW, by rw [hV, e]⟩

set_option maxHeartbeats 800000 in
set_option maxRecDepth 100000 in
/-- 'Add' is the sum, in a row of its own. -/
theorem add_own (vx vy : Value) (n m : Nat) (a b : Int) (w : World) (hx : Nt w vx n a) (hy : Nt w vy m b) (hn : n ≤ 100000000) (hm : m ≤ 100000000) :
    Calls Tryz.prog 71 #[vx, vy] w fun e w' => ∃ v k, e = .returned v ∧ Own w.heap.size w' v k (a + b) ∧ k ≤ max n m + 1 ∧ Below w.heap.size w w' := by
  have Hx := hid (trimmed_nt vx n a w hx)
  have Hy := hid (trimmed_nt vy m b w hy)
  clear hx hy
  go_enter Tryz.func71, Tryz.ntmps71
  go_wp2_with fail
  refine Hx.out.mono ?_
  rintro e w' ⟨⟨v1, n', rfl, s1, l1⟩, rfl⟩
  go_wp2_with fail
  refine Hy.out.mono ?_
  rintro e w' ⟨⟨v2, m', rfl, s2, l2⟩, rfl⟩
  clear Hx Hy
  have r1 := s1.nt.lt
  have r2 := s2.nt.lt
  obtain ⟨x, o, s1, _, e1⟩ := s1
  obtain ⟨y, p, s2, _, e2⟩ := s2
  have E1 := hid e1
  have E2 := hid e2
  clear e1 e2
  by_cases hlt : n' < m'
  · have Hroom := hid (add_room r2 r1 (by omega))
    have S1 := hid (s1)
    have S2 := hid (s2)
    obtain ⟨ao, c1, rfl, -⟩ := s1
    obtain ⟨bo, c2, rfl, -⟩ := s2
    clear r1 r2
    have Wo := hid (over_wd (m' + 1) S2.out.wd)
    have Vo := over_V (y := y) (p := p) (n := m') (m' + 1) (by omega)
    have HVo := hid Vo
    clear Vo
    go_wp2_with (first
      | (at_make; refine wp_make _ rfl _ _ rfl _ _ (m' + 1) rfl rfl (by omega) (by omega) (by omega) ?_; intro w1 R1 B1 Z1; have HZ := hid Z1; clear Z1)
      | (refine wp_copy w1 rfl (.tmp 21) (.tmp 22) rfl w'.heap.size 0 (m' + 1) (m' + 1) (m' + 1) (fun _ => 0) rfl _ rfl m' y p (S2.out.apart B1 (Nat.le_refl _)) R1 (by omega) (by omega) ?_; intro w2 R2 O2)
      | (go_at_call 92; refine (addTo_any w'.heap.size 0 (m' + 1) (m' + 1) (m' + 1) _ _ n' x o w2 R2 (by omega) (Nat.le_refl _) (by omega) Wo.out ((S1.out.apart B1 (Nat.le_refl _)).only O2) (by omega) (by rw [HVo.out, E1.out, E2.out]; exact Hroom.out)).mono ?_; rintro e w3 ⟨rfl, Z, R3, O3, V3, W3, F3⟩; have HV3 := hid V3; clear V3)
      | (go_at_call 44; refine (trimmed_own w'.heap.size w'.heap.size (m' + 1) (m' + 1) Z (a + b) w3 R3 (Nat.le_refl _) (Nat.le_refl _) W3 (by rw [HV3.out, HVo.out, E1.out, E2.out]; omega) (by omega)).mono ?_; rintro e w4 ⟨⟨v, k, rfl, s, l⟩, rfl⟩))
    go_ret
    exact ⟨v, k, rfl, s, by omega, B1.trans ((O2.trans O3).below (Nat.le_refl _))⟩
  · have Hroom := hid (add_room r1 r2 (by omega))
    have S1 := hid s1
    have S2 := hid s2
    obtain ⟨ao, c1, rfl, -⟩ := s1
    obtain ⟨bo, c2, rfl, -⟩ := s2
    clear r1 r2
    have Wo := hid (over_wd (n' + 1) S1.out.wd)
    have Vo := over_V (y := x) (p := o) (n := n') (n' + 1) (by omega)
    have HVo := hid Vo
    clear Vo
    go_wp2_with (first
      | (at_make; refine wp_make _ rfl _ _ rfl _ _ (n' + 1) rfl rfl (by omega) (by omega) (by omega) ?_; intro w1 R1 B1 Z1; have HZ := hid Z1; clear Z1)
      | (refine wp_copy w1 rfl (.tmp 21) (.tmp 22) rfl w'.heap.size 0 (n' + 1) (n' + 1) (n' + 1) (fun _ => 0) rfl _ rfl n' x o (S1.out.apart B1 (Nat.le_refl _)) R1 (by omega) (by omega) ?_; intro w2 R2 O2)
      | (go_at_call 92; refine (addTo_any w'.heap.size 0 (n' + 1) (n' + 1) (n' + 1) _ _ m' y p w2 R2 (by omega) (Nat.le_refl _) (by omega) Wo.out ((S2.out.apart B1 (Nat.le_refl _)).only O2) (by omega) (by rw [HVo.out, E1.out, E2.out]; exact Hroom.out)).mono ?_; rintro e w3 ⟨rfl, Z, R3, O3, V3, W3, F3⟩; have HV3 := hid V3; clear V3)
      | (go_at_call 44; refine (trimmed_own w'.heap.size w'.heap.size (n' + 1) (n' + 1) Z (a + b) w3 R3 (Nat.le_refl _) (Nat.le_refl _) W3 (by rw [HV3.out, HVo.out, E1.out, E2.out]) (by omega)).mono ?_; rintro e w4 ⟨⟨v, k, rfl, s, l⟩, rfl⟩))
    go_ret
    exact ⟨v, k, rfl, s, by omega, B1.trans ((O2.trans O3).below (Nat.le_refl _))⟩

/-- 'Add' is the sum. -/
theorem add_any (vx vy : Value) (n m : Nat) (a b : Int) (w : World) (hx : Nt w vx n a) (hy : Nt w vy m b) (hn : n ≤ 100000000) (hm : m ≤ 100000000) :
    Calls Tryz.prog 71 #[vx, vy] w fun e w' => ∃ v k, e = .returned v ∧ Nz w' v k (a + b) ∧ k ≤ max n m + 1 ∧ Below w.heap.size w w' := by
  refine (add_own vx vy n m a b w hx hy hn hm).mono ?_
  rintro e w' ⟨v, k, rfl, h1, h2, h3⟩
  exact ⟨v, k, rfl, h1.nz, h2, h3⟩
end Go.Proofs.YtnaiahjgdakneaaGreatDoor
