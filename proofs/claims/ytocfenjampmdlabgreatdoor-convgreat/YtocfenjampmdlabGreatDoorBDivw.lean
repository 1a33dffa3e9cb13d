/- What 'Norm', 'divBy' and 'DivWord' do: a copy without words 0 at the end; a number divided by a word. -/
import Derived.Test.YtocfenjampmdlabGreatDoorBDv
import Derived.Test.YtocfenjampmdlabGreatDoorBMul
import Derived.Test.YtocfenjampmdlabGreatDoorBCmp
namespace Go.Proofs.YtocfenjampmdlabGreatDoor.B
open Go.RowKit NumB

theorem Only.drewN {g : Nat} {a w : World} (h : Only g a w) (n : Nat) : Only g a (w.drewN n) := h.trans ⟨rfl, rfl, rfl, rfl, fun _ _ => rfl⟩
theorem Row.drewN {w : World} {g n : Nat} {x : Nat → Int} (h : Row w g n x) (k : Nat) : Row (w.drewN k) g n x := h

set_option maxHeartbeats 800000 in
set_option maxRecDepth 100000 in
/-- 'Norm': a new row that holds the number, and nothing else. -/
theorem norm_any (v : Value) (n : Nat) (a : Int) (w : World) (h : Nt w v n a) (hn : n ≤ 100000000) :
    Calls Tryz.prog 26 #[v] w fun e w' => ∃ k X, e = .returned (.slice (some ⟨w.heap.size, 0, none⟩) k k) ∧ Row w' w.heap.size k X ∧ Wd X 0 k ∧ Nm X 0 k ∧ V X 0 k = a ∧ k ≤ n ∧ Below w.heap.size w w' ∧ w'.heap.size = w.heap.size + 1 := by
  have H := hid (trimmed_nt v n a w h)
  clear h
  go_enter Tryz.func26, Tryz.ntmps26
  go_wp2_with fail
  refine H.out.mono ?_
  rintro e w' ⟨⟨v1, k, rfl, s1, l1⟩, rfl⟩
  clear H
  obtain ⟨x, o, s1, nm, e1⟩ := s1
  have S1 := hid s1
  have E1 := hid e1
  have NM := hid nm
  obtain ⟨ao, c1, rfl, -⟩ := s1
  clear e1 nm
  go_wp2_with (first
      | (at_make; refine wp_make _ rfl _ _ rfl _ _ k rfl rfl rfl rfl (by omega) ?_; intro w1 R1 B1 Z1; have HZ := hid Z1; clear Z1)
      | (refine wp_copy w1 rfl (.tmp 9) (.tmp 10) rfl w'.heap.size 0 k k k (fun _ => 0) rfl _ rfl k x o (S1.out.apart B1 (Nat.le_refl _)) R1 (by omega) (by omega) ?_; intro w2 R2 O2))
  go_ret
  refine ⟨k, _, rfl, R2, over_wd k S1.out.wd, ?_, by rw [over_V k (Nat.le_refl _), E1.out], l1, B1.trans (O2.below (Nat.le_refl _)), by rw [O2.size, HZ.out]⟩
  rcases NM.out with h | h
  · exact Or.inl h
  · by_cases hk : k = 0
    · exact Or.inl hk
    · exact Or.inr (by rw [over_in (by omega)]; exact h)

/-- what the loop of 'divBy' keeps: the upper m words are divided. -/
def DivRel (g N oz n : Nat) (X : Nat → Int) (f : Int) (w : World) (k : Nat) (r : Int) (X' : Nat → Int) (wr : World) : Prop :=
  Row wr g N X' ∧ Only g w wr ∧ V X' (oz + k) (n - k) * f + r = V X (oz + k) (n - k) ∧ Wd X' oz n ∧ ∀ j, j < oz + k ∨ oz + n ≤ j → X' j = X j

theorem dq_bd {h l y : Int} (hh : 0 ≤ h) (hl : 0 ≤ l ∧ l ≤ 18446744073709551615) (hy : h < y) : 0 ≤ dq h l y ∧ dq h l y ≤ 18446744073709551615 ∧ 0 ≤ dr h l y ∧ dr h l y < y ∧ dq h l y * y + dr h l y = h * 18446744073709551616 + l := by
  unfold dq dr
  have e : (h * 18446744073709551616 + l) / y * y + (h * 18446744073709551616 + l) % y = h * 18446744073709551616 + l := by
    generalize h * 18446744073709551616 + l = m
    have := Int.emod_add_mul_ediv m y; rw [Int.mul_comm] at this; omega
  have h1 := Int.emod_nonneg (h * 18446744073709551616 + l) (show y ≠ 0 by omega)
  have h2 := Int.emod_lt_of_pos (h * 18446744073709551616 + l) (show 0 < y by omega)
  refine ⟨Int.ediv_nonneg (by omega) (by omega), ?_, h1, h2, e⟩
  apply Int.not_lt.1
  intro hc
  have : 18446744073709551616 * y ≤ (h * 18446744073709551616 + l) / y * y := Int.mul_le_mul_of_nonneg_right (by omega) (by omega)
  omega

theorem DivRel.step {g N oz n : Nat} {X : Nat → Int} {f : Int} {w : World} {k : Nat} {r : Int} {X' : Nat → Int} {wr : World} (h : DivRel g N oz n X f w (k + 1) r X' wr) (hk : k + 1 ≤ n)
    (hr : 0 ≤ r) (hf : r < f) (i : Nat) :
    DivRel g N oz n X f w k (dr r (X' (oz + k)) f) (upd X' (oz + k) (dq r (X' (oz + k)) f)) ((wr.drewN i).setCell ⟨g, oz + k, none⟩ (.int .u64 (dq r (X' (oz + k)) f))) := by
  obtain ⟨h1, h2, h3, h4, h5⟩ := h
  obtain ⟨b1, b2, b3, b4, b5⟩ := dq_bd hr (h4 k (by omega)) hf
  refine ⟨(h1.drewN i).set _ _, (h2.drewN i).set _ _, ?_, Wd_upd h4 b1 b2, fun j hj => by rw [upd_other _ _ _ _ (by omega)]; exact h5 j (by omega)⟩
  obtain ⟨m, hm⟩ : ∃ m, n - k = m + 1 := ⟨n - k - 1, by omega⟩
  rw [show n - (k + 1) = m by omega] at h3
  rw [hm, V_low, V_low, upd_same, V_upd_out m (by omega)]
  have e1 := h5 (oz + k) (by omega)
  rw [e1] at b5 ⊢
  rw [show oz + k + 1 = oz + (k + 1) by omega]
  generalize V X' (oz + (k + 1)) m = p at *
  generalize V X (oz + (k + 1)) m = q at *
  generalize dq r (X (oz + k)) f = u at *
  generalize dr r (X (oz + k)) f = t at *
  have : (u + 18446744073709551616 * p) * f + t = (u * f + t) + 18446744073709551616 * (p * f) := by grind
  rw [this, b5, ← h3]
  omega

set_option maxHeartbeats 800000 in
set_option maxRecDepth 100000 in
/-- 'divBy': words divided by a word, in their place. -/
theorem divBy_any (g oz n cz N : Nat) (X : Nat → Int) (f : Int) (w : World)
    (hz : Row w g N X) (hN : oz + n ≤ N) (hcz : n ≤ cz) (hbz : cz ≤ 9223372036854775807) (hX : Wd X oz n) (hf0 : 0 < f) (hf1 : f ≤ 18446744073709551615) :
    Calls Tryz.prog 29 #[.slice (some ⟨g, oz, none⟩) n cz, .int .u64 f] w fun e w' => ∃ r X', e = .returned (.int .u64 r) ∧
      Row w' g N X' ∧ Only g w w' ∧ V X' oz n * f + r = V X oz n ∧ Wd X' oz n ∧ (∀ j, j < oz ∨ oz + n ≤ j → X' j = X j) ∧ 0 ≤ r ∧ r < f := by
  have HX := hid hX
  clear hX
  go_enter Tryz.func29, Tryz.ntmps29
  go_wp2
  go_loopw [5, 6] (fun ls i wr => ∃ (k : Nat) (r : Int) (X' : Nat → Int), k ≤ n ∧ ls = .int .u64 r ∧ i = .int .i64 ((k : Int) - 1) ∧ Hid (DivRel g N oz n X f w k r X' wr) ∧ 0 ≤ r ∧ r < f) (fun _ i _ => (intOf i + 1).toNat)
  case atStart => exact ⟨n, 0, X, Nat.le_refl _, rfl, rfl, ⟨hz, Only.refl _ _, by simp [V], HX.out, fun _ _ => rfl⟩, Int.le_refl _, hf0⟩
  case round =>
    obtain ⟨k, r, X', hk, rfl, rfl, hr, r0, r1⟩ := hrel
    cases k with
    | zero =>
      go_wp2
      go_ret
      obtain ⟨h1, h2, h3, h4, h5⟩ := hr.out
      exact ⟨r, X', rfl, h1, h2, by simpa using h3, h4, fun j hj => h5 j (by omega), r0, r1⟩
    | succ k =>
      have hst := hid (fun i => hr.out.step hk r0 r1 i)
      obtain ⟨h1, h2, h3, h4, h5⟩ := hr.out
      obtain ⟨x0, x1⟩ := h4 k (by omega)
      obtain ⟨b1, b2, b3, b4, b5⟩ := dq_bd r0 ⟨x0, x1⟩ r1
      have gz : wr.cell? ⟨g, oz + k, none⟩ = some (.int .u64 (X' (oz + k))) := h1.cell (by omega)
      have gf := h1.frozen (oz + k)
      clear h2 h3 h4 h5 b5 hr hz
      go_wp2_with (go_at_call 24; refine (div64_any _ _ _ _ r0 x0 x1 r1 hf1).mono ?_; rintro e w1 ⟨rfl, i, rfl⟩)
      refine ⟨⟨k, _, upd X' (oz + k) (dq r (X' (oz + k)) f), by omega, rfl, rfl, ?_, b3, b4⟩, by simp [intOf]⟩
      exact hst.out i
end Go.Proofs.YtocfenjampmdlabGreatDoor.B
