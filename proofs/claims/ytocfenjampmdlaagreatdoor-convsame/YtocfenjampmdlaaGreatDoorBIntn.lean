/- What 'Norm', 'divBy' and 'DivWord' do: a copy without words 0 at the end; a number divided by a word. -/
/- What 'DivWord' and 'DivMod' answer: how often a number goes into another, and what is left. -/
/- What 'takeFrom' and 'Sub' do: the difference of two numbers. -/
/- What 'halves' and 'apart' answer: the two parts of a number; how far two numbers are from each other. -/
/- What 'byHalves' and 'Karatsuba' answer: the product, by halves. -/
/- 'byHalves' and 'Karatsuba': the product, whatever the cut is. -/
/- Whole numbers: what an Int is in memory, and what the calls of package bigint answer that make, add, take away and multiply them. -/
/- What the builder's 'copyCheck' and 'WriteString' do in this program. -/
/- What 'moveUp', 'moveDown', 'takeTimes' and 'addBack' do to words. -/
/- What 'moveDown', 'takeTimes' and 'addBack' do to words. -/
/- What 'wordAt', 'gcdOfWords' and 'timesLess' answer. -/
/- What 'guessDigit' answers: how often a number goes into another one, or one more. -/
/- The walk of 'guessDigit'. -/
/- What 'takeDigit' does: it takes a number off another as often as it goes, and answers how often that is. -/
/- What 'divLong' answers: Knuth's quotient, and what is left. -/
/- What 'heads' and 'leapOf' answer. -/
/- What 'leapOf' answers. -/
/- Whole numbers: quotients, towards 0 and downwards, and what is left. -/
/- Whole numbers: quotients downwards. -/
/- Whole numbers: the number without its sign. -/
import Derived.Test.YtocfenjampmdlaaGreatDoorBDv
import Derived.Test.YtocfenjampmdlaaGreatDoorBMul
import Derived.Test.YtocfenjampmdlaaGreatDoorBCmp
import Derived.Deep.QuietTactic
import Derived.BigQuiet
import Derived.Deep.RegionWith
import Derived.Test.YtocfenjampmdlaaGreatDoorBLeh
import Derived.Deep.Cut
import Derived.BigRegion
namespace Go.Proofs.YtocfenjampmdlaaGreatDoor.B
open Go.RowKit NumB

theorem Only.drewN {g : Nat} {a w : World} (h : Only g a w) (n : Nat) : Only g a (w.drewN n) := h.trans ⟨rfl, rfl, rfl, rfl, fun _ _ => rfl⟩
theorem Row.drewN {w : World} {g n : Nat} {x : Nat → Int} (h : Row w g n x) (k : Nat) : Row (w.drewN k) g n x := h

set_option maxHeartbeats 800000 in
set_option maxRecDepth 100000 in
/-- 'Norm': a new row that holds the number, and nothing else. -/
theorem norm_any (v : Value) (n : Nat) (a : Int) (w : World) (h : Nt w v n a) (hn : n ≤ 100000000) :
    Calls Tryz.prog 51 #[v] w fun e w' => ∃ k X, e = .returned (.slice (some ⟨w.heap.size, 0, none⟩) k k) ∧ Row w' w.heap.size k X ∧ Wd X 0 k ∧ Nm X 0 k ∧ V X 0 k = a ∧ k ≤ n ∧ Below w.heap.size w w' ∧ w'.heap.size = w.heap.size + 1 := by
  have H := hid (trimmed_nt v n a w h)
  clear h
  go_enter Tryz.func51, Tryz.ntmps51
  go_wp2_with fail
  refine H.out.mono ?_
  rintro e w' ⟨⟨v1, k, rfl, s1, l1⟩, rfl⟩
  clear H
  obtain ⟨x, o, s1, nm, e1⟩ := s1
  have S1 := hid s1
  have E1 := hid e1
  have NM := hid nm
  obtain ⟨ao, c1, rfl, -⟩ := s1
  clear e1 nm
  go_wp2_with (first
      | (at_make; refine wp_make _ rfl _ _ rfl _ _ k rfl rfl rfl rfl (by omega) ?_; intro w1 R1 B1 Z1; have HZ := hid Z1; clear Z1)
      | (refine wp_copy w1 rfl (.tmp 9) (.tmp 10) rfl w'.heap.size 0 k k k (fun _ => 0) rfl _ rfl k x o (S1.out.apart B1 (Nat.le_refl _)) R1 (by omega) (by omega) ?_; intro w2 R2 O2))
  go_ret
  refine ⟨k, _, rfl, R2, over_wd k S1.out.wd, ?_, by rw [over_V k (Nat.le_refl _), E1.out], l1, B1.trans (O2.below (Nat.le_refl _)), by rw [O2.size, HZ.out]⟩
  rcases NM.out with h | h
  · exact Or.inl h
  · by_cases hk : k = 0
    · exact Or.inl hk
    · exact Or.inr (by rw [over_in (by omega)]; exact h)

/-- what the loop of 'divBy' keeps: the upper m words are divided. -/
def DivRel (g N oz n : Nat) (X : Nat → Int) (f : Int) (w : World) (k : Nat) (r : Int) (X' : Nat → Int) (wr : World) : Prop :=
  Row wr g N X' ∧ Only g w wr ∧ V X' (oz + k) (n - k) * f + r = V X (oz + k) (n - k) ∧ Wd X' oz n ∧ ∀ j, j < oz + k ∨ oz + n ≤ j → X' j = X j

theorem dq_bd {h l y : Int} (hh : 0 ≤ h) (hl : 0 ≤ l ∧ l ≤ 18446744073709551615) (hy : h < y) : 0 ≤ dq h l y ∧ dq h l y ≤ 18446744073709551615 ∧ 0 ≤ dr h l y ∧ dr h l y < y ∧ dq h l y * y + dr h l y = h * 18446744073709551616 + l := by
  unfold dq dr
  have e : (h * 18446744073709551616 + l) / y * y + (h * 18446744073709551616 + l) % y = h * 18446744073709551616 + l := by
    generalize h * 18446744073709551616 + l = m
    have := Int.emod_add_mul_ediv m y; rw [Int.mul_comm] at this; omega
  have h1 := Int.emod_nonneg (h * 18446744073709551616 + l) (show y ≠ 0 by omega)
  have h2 := Int.emod_lt_of_pos (h * 18446744073709551616 + l) (show 0 < y by omega)
  refine ⟨Int.ediv_nonneg (by omega) (by omega), ?_, h1, h2, e⟩
  apply Int.not_lt.1
  intro hc
  have : 18446744073709551616 * y ≤ (h * 18446744073709551616 + l) / y * y := Int.mul_le_mul_of_nonneg_right (by omega) (by omega)
  omega

theorem DivRel.step {g N oz n : Nat} {X : Nat → Int} {f : Int} {w : World} {k : Nat} {r : Int} {X' : Nat → Int} {wr : World} (h : DivRel g N oz n X f w (k + 1) r X' wr) (hk : k + 1 ≤ n)
    (hr : 0 ≤ r) (hf : r < f) (i : Nat) :
    DivRel g N oz n X f w k (dr r (X' (oz + k)) f) (upd X' (oz + k) (dq r (X' (oz + k)) f)) ((wr.drewN i).setCell ⟨g, oz + k, none⟩ (.int .u64 (dq r (X' (oz + k)) f))) := by
  obtain ⟨h1, h2, h3, h4, h5⟩ := h
  obtain ⟨b1, b2, b3, b4, b5⟩ := dq_bd hr (h4 k (by omega)) hf
  refine ⟨(h1.drewN i).set _ _, (h2.drewN i).set _ _, ?_, Wd_upd h4 b1 b2, fun j hj => by rw [upd_other _ _ _ _ (by omega)]; exact h5 j (by omega)⟩
  obtain ⟨m, hm⟩ : ∃ m, n - k = m + 1 := ⟨n - k - 1, by omega⟩
  rw [show n - (k + 1) = m by omega] at h3
  rw [hm, V_low, V_low, upd_same, V_upd_out m (by omega)]
  have e1 := h5 (oz + k) (by omega)
  rw [e1] at b5 ⊢
  rw [show oz + k + 1 = oz + (k + 1) by omega]
  generalize V X' (oz + (k + 1)) m = p at *
  generalize V X (oz + (k + 1)) m = q at *
  generalize dq r (X (oz + k)) f = u at *
  generalize dr r (X (oz + k)) f = t at *
  have : (u + 18446744073709551616 * p) * f + t = (u * f + t) + 18446744073709551616 * (p * f) := by grind
  rw [this, b5, ← h3]
  omega

set_option maxHeartbeats 800000 in
set_option maxRecDepth 100000 in
/-- 'divBy': words divided by a word, in their place. -/
theorem divBy_any (g oz n cz N : Nat) (X : Nat → Int) (f : Int) (w : World)
    (hz : Row w g N X) (hN : oz + n ≤ N) (hcz : n ≤ cz) (hbz : cz ≤ 9223372036854775807) (hX : Wd X oz n) (hf0 : 0 < f) (hf1 : f ≤ 18446744073709551615) :
    Calls Tryz.prog 55 #[.slice (some ⟨g, oz, none⟩) n cz, .int .u64 f] w fun e w' => ∃ r X', e = .returned (.int .u64 r) ∧
      Row w' g N X' ∧ Only g w w' ∧ V X' oz n * f + r = V X oz n ∧ Wd X' oz n ∧ (∀ j, j < oz ∨ oz + n ≤ j → X' j = X j) ∧ 0 ≤ r ∧ r < f := by
  have HX := hid hX
  clear hX
  go_enter Tryz.func55, Tryz.ntmps55
  go_wp2
  go_loopw [5, 6] (fun ls i wr => ∃ (k : Nat) (r : Int) (X' : Nat → Int), k ≤ n ∧ ls = .int .u64 r ∧ i = .int .i64 ((k : Int) - 1) ∧ Hid (DivRel g N oz n X f w k r X' wr) ∧ 0 ≤ r ∧ r < f) (fun _ i _ => (intOf i + 1).toNat)
  case atStart => exact ⟨n, 0, X, Nat.le_refl _, rfl, rfl, ⟨hz, Only.refl _ _, by simp [V], HX.out, fun _ _ => rfl⟩, Int.le_refl _, hf0⟩
  case round =>
    obtain ⟨k, r, X', hk, rfl, rfl, hr, r0, r1⟩ := hrel
    cases k with
    | zero =>
      go_wp2
      go_ret
      obtain ⟨h1, h2, h3, h4, h5⟩ := hr.out
      exact ⟨r, X', rfl, h1, h2, by simpa using h3, h4, fun j hj => h5 j (by omega), r0, r1⟩
    | succ k =>
      have hst := hid (fun i => hr.out.step hk r0 r1 i)
      obtain ⟨h1, h2, h3, h4, h5⟩ := hr.out
      obtain ⟨x0, x1⟩ := h4 k (by omega)
      obtain ⟨b1, b2, b3, b4, b5⟩ := dq_bd r0 ⟨x0, x1⟩ r1
      have gz : wr.cell? ⟨g, oz + k, none⟩ = some (.int .u64 (X' (oz + k))) := h1.cell (by omega)
      have gf := h1.frozen (oz + k)
      clear h2 h3 h4 h5 b5 hr hz
      go_wp2_with (go_at_call 49; refine (div64_any _ _ _ _ r0 x0 x1 r1 hf1).mono ?_; rintro e w1 ⟨rfl, i, rfl⟩)
      refine ⟨⟨k, _, upd X' (oz + k) (dq r (X' (oz + k)) f), by omega, rfl, rfl, ?_, b3, b4⟩, by simp [intOf]⟩
      exact hst.out i
end Go.Proofs.YtocfenjampmdlaaGreatDoor.B
namespace Go.Proofs.YtocfenjampmdlaaGreatDoor.B
open Go.RowKit NumB

theorem Row.one (w : World) (a : Int) : Row (w.alloc (.cells #[.int .u64 a] 23)) w.heap.size 1 (fun _ => a) :=
  ⟨#[.int .u64 a], heap_alloc_new w _, rfl, fun j hj => by have : j = 0 := by omega
                                                           subst this; rfl⟩
theorem Nt.one (w : World) (a : Int) (h0 : 0 ≤ a) (h1 : a ≤ 18446744073709551615) : Nt (w.alloc (.cells #[.int .u64 a] 23)) (.slice (some ⟨w.heap.size, 0, none⟩) 1 1) 1 a :=
  ⟨fun _ => a, 0, (Row.one w a).sl 0 1 1 (Nat.le_refl _) (Nat.le_refl _) (by omega) (fun _ _ => ⟨h0, h1⟩), by simp [V, P]⟩
theorem Nt.of_row {w : World} {g k : Nat} {X : Nat → Int} {a : Int} (hR : Row w g k X) (hW : Wd X 0 k) (hV : V X 0 k = a) (hk : k ≤ 9223372036854775807) : Nt w (.slice (some ⟨g, 0, none⟩) k k) k a :=
  ⟨X, 0, hR.sl 0 k k (by omega) (Nat.le_refl _) hk hW, hV⟩
theorem Nz.of_row {w : World} {g k : Nat} {X : Nat → Int} {a : Int} (hR : Row w g k X) (hW : Wd X 0 k) (hN : Nm X 0 k) (hV : V X 0 k = a) (hk : k ≤ 9223372036854775807) : Nz w (.slice (some ⟨g, 0, none⟩) k k) k a :=
  ⟨X, 0, hR.sl 0 k k (by omega) (Nat.le_refl _) hk hW, hN, hV⟩

set_option maxHeartbeats 800000 in
set_option maxRecDepth 100000 in
theorem divWord_zero (v : Value) (w : World) :
    Calls Tryz.prog 44 #[v, .int .u64 0] w fun e w' => e = .returned (.tuple #[.slice none 0 0, .int .u64 0, .int .i64 10]) ∧ w' = w := by
  go_enter Tryz.func44, Tryz.ntmps44
  go_wp2
  go_ret3
  exact ⟨rfl, rfl⟩

set_option maxHeartbeats 800000 in
set_option maxRecDepth 100000 in
/-- 'DivWord'. -/
theorem divWord_any (v : Value) (n : Nat) (a f : Int) (w : World) (h : Nt w v n a) (hn : n ≤ 100000000) (hf0 : 0 < f) (hf1 : f ≤ 18446744073709551615) :
    Calls Tryz.prog 44 #[v, .int .u64 f] w fun e w' => ∃ v' k q r, e = .returned (.tuple #[v', .int .u64 r, .int .i64 0]) ∧ Nz w' v' k q ∧ q * f + r = a ∧ 0 ≤ r ∧ r < f ∧ k ≤ n ∧ Below w.heap.size w w' := by
  have H := hid (norm_any v n a w h hn)
  have hq : (f == 0) = false := beq_eq_false_iff_ne.2 (by omega)
  clear h
  go_enter Tryz.func44, Tryz.ntmps44
  go_wp2_with fail
  refine H.out.mono ?_
  rintro e w1 ⟨k, X, rfl, R1, W1, -, V1, l1, B1, Z1⟩
  have HZ := hid Z1
  have HV1 := hid V1
  clear H Z1 V1
  go_wp2_with fail
  refine (divBy_any w.heap.size 0 k k k X f w1 R1 (by omega) (Nat.le_refl _) (by omega) W1 hf0 hf1).mono ?_
  rintro e w2 ⟨r, X', rfl, R2, O2, V2, W2, -, r0, r1⟩
  have HV2 := hid V2
  clear V2
  go_wp2_with fail
  refine (trimmed_nt _ k _ w2 (Nt.of_row R2 W2 rfl (by omega))).mono ?_
  rintro e w3 ⟨⟨v', k', rfl, s3, l3⟩, rfl⟩
  go_wp2
  go_ret3
  exact ⟨v', k', _, r, rfl, s3, by rw [HV2.out, HV1.out], r0, r1, by omega, B1.trans (O2.below (Nat.le_refl _))⟩

theorem Nz.len {w : World} {v : Value} {k : Nat} {a : Int} (h : Nz w v k a) : (a = 0 ↔ k = 0) ∧ (a < P 1 → k ≤ 1) := by
  obtain ⟨x, o, h1, h2, rfl⟩ := h
  cases k with
  | zero => simp [V]
  | succ k =>
    have h3 := V_ge h1.wd (by rcases h2 with h | h; omega; simpa using h)
    have h4 := P_pos k
    refine ⟨⟨fun h => by omega, fun h => by omega⟩, fun h => ?_⟩
    apply Nat.not_lt.1
    intro hk
    have := P_le (show 1 ≤ k by omega)
    omega

theorem cmpI_lt {a b : Int} (h : a < b) : cmpI a b = -1 := by unfold cmpI; rw [if_pos h]
theorem cmpI_ge {a b : Int} (h : ¬ a < b) : 0 ≤ cmpI a b := by unfold cmpI; rw [if_neg h]; split <;> decide
theorem Nz.drewN {w : World} {v : Value} {k : Nat} {a : Int} (h : Nz w v k a) (i : Nat) : Nz (w.drewN i) v k a := h
theorem Nt.drewN {w : World} {v : Value} {k : Nat} {a : Int} (h : Nt w v k a) (i : Nat) : Nt (w.drewN i) v k a := h
theorem Below.drewN' {B : Nat} {a w : World} (n : Nat) (h : Below B (a.drewN n) w) : Below B a w := ⟨h.os, h.tape, h.output, h.size, h.block⟩

end Go.Proofs.YtocfenjampmdlaaGreatDoor.B
namespace Go.Proofs.YtocfenjampmdlaaGreatDoor.B
open Go.RowKit NumB

theorem dl_db (x y b : Int) (hx : 0 ≤ x ∧ x ≤ 18446744073709551615) (hy : 0 ≤ y ∧ y ≤ 18446744073709551615) (hb : 0 ≤ b ∧ b ≤ 1) :
    dl x y b = x - y - b + db x y b * 18446744073709551616 ∧ 0 ≤ dl x y b ∧ dl x y b ≤ 18446744073709551615 ∧ 0 ≤ db x y b ∧ db x y b ≤ 1 := by
  unfold dl db; split <;> omega
theorem borrow_step (x : Nat → Int) (o k : Nat) (a c t : Int) (hx : 0 ≤ x (o + k) ∧ x (o + k) ≤ 18446744073709551615) (ha : 0 ≤ a ∧ a ≤ 18446744073709551615) (hc : 0 ≤ c ∧ c ≤ 1) (h : V x o k - c * P k = t) :
    V (upd x (o + k) (dl (x (o + k)) a c)) o (k + 1) - db (x (o + k)) a c * P (k + 1) = t + x (o + k) * P k - a * P k := by
  rw [V_upd_top]
  have e := (dl_db _ a c hx ha hc).1
  generalize dl (x (o + k)) a c = l at *
  generalize db (x (o + k)) a c = m at *
  simp only [P]
  generalize P k = q at *
  generalize x (o + k) = u at *
  rw [← h, e]
  grind

/-- what the loops of 'takeFrom' keep. -/
def SubRel (g N oz : Nat) (X : Nat → Int) (w : World) (k : Nat) (t c : Int) (X' : Nat → Int) (wr : World) : Prop :=
  Row wr g N X' ∧ Only g w wr ∧ V X' oz k - c * P k = t ∧ Wd X' oz k ∧ (∀ j, j < oz ∨ oz + k ≤ j → X' j = X j) ∧ 0 ≤ c ∧ c ≤ 1

theorem SubRel.step {g N oz : Nat} {X : Nat → Int} {w : World} {k : Nat} {t c : Int} {X' : Nat → Int} {wr : World} (h : SubRel g N oz X w k t c X' wr) (a : Int)
    (ha : 0 ≤ a ∧ a ≤ 18446744073709551615) (hx : 0 ≤ X (oz + k) ∧ X (oz + k) ≤ 18446744073709551615) :
    SubRel g N oz X w (k + 1) (t + X (oz + k) * P k - a * P k) (db (X' (oz + k)) a c) (upd X' (oz + k) (dl (X' (oz + k)) a c))
      (wr.setCell ⟨g, oz + k, none⟩ (.int .u64 (dl (X' (oz + k)) a c))) := by
  obtain ⟨h1, h2, h3, h4, h5, h6, h7⟩ := h
  have e := h5 (oz + k) (Or.inr (Nat.le_refl _))
  have hx' : 0 ≤ X' (oz + k) ∧ X' (oz + k) ≤ 18446744073709551615 := by rw [e]; exact hx
  have hs := borrow_step X' oz k a c t hx' ha ⟨h6, h7⟩ h3
  obtain ⟨_, d1, d2, d3, d4⟩ := dl_db (X' (oz + k)) a c hx' ha ⟨h6, h7⟩
  refine ⟨h1.set _ _, h2.set _ _, ?_, ?_, ?_, d3, d4⟩
  · rw [hs, e]
  · intro j hj
    by_cases hjk : j = k
    · subst hjk; rw [upd_same]; exact ⟨d1, d2⟩
    · rw [upd_other _ _ _ _ (by omega)]; exact h4 j (by omega)
  · intro j hj; rw [upd_other _ _ _ _ (by omega)]; exact h5 j (by omega)

/-- the view that 'trimmed' answers. -/
def trimV (v : Value) (k : Nat) : Value := match v with
  | .slice ao _ _ => .slice ao k k
  | u => u
theorem trimmed_val (v : Value) (n : Nat) (x : Nat → Int) (o : Nat) (w : World) (h : Sl w v n x o) :
    Calls Tryz.prog 56 #[v] w fun e w' => e = .returned (trimV v (tr x o n)) ∧ w' = w := by
  obtain ⟨ao, cap, rfl, h1, h2, h3, h4, h5⟩ := h
  cases n with
  | zero => exact trimmed_nil ao cap w h4 h2
  | succ n =>
    obtain ⟨b, off, rfl, hb, hc⟩ := h5 (by omega)
    exact trimmed_pos b off (n + 1) cap x o w h1 h2 hc
theorem Sl.trim {w : World} {v : Value} {n : Nat} {x : Nat → Int} {o : Nat} (h : Sl w v n x o) : Sl w (trimV v (tr x o n)) (tr x o n) x o := by
  obtain ⟨ao, cap, rfl, h1, h2, h3, h4, h5⟩ := h
  have hl := tr_le x o n
  refine ⟨ao, tr x o n, rfl, Nat.le_refl _, by omega, h3.mono hl, fun e => ?_, fun hpos => ?_⟩
  · have := h4 e; omega
  · obtain ⟨b, off, rfl, hb, hc⟩ := h5 (by omega)
    exact ⟨b, off, rfl, hb, fun j hj => hc j (by omega)⟩
/-- 'trimmed' in a later world: what it answers is a number of the elder one, too. -/
theorem trimmed_old (v : Value) (n : Nat) (a : Int) (w0 w : World) (h : Nt w0 v n a) (hb : Below w0.heap.size w0 w) :
    Calls Tryz.prog 56 #[v] w fun e w' => (∃ v' k, e = .returned v' ∧ Nz w0 v' k a ∧ k ≤ n) ∧ w' = w := by
  obtain ⟨x, o, h1, rfl⟩ := h
  refine (trimmed_val v n x o w (h1.below hb)).mono ?_
  rintro e w' ⟨rfl, rfl⟩
  exact ⟨⟨_, _, rfl, ⟨x, o, h1.trim, tr_nm x o n, V_tr x o n⟩, tr_le x o n⟩, rfl⟩
/-- a number is no shorter than a smaller one without words 0 at its end. -/
theorem Nz.le_len {w w2 : World} {v v2 : Value} {k n : Nat} {a b : Int} (h : Nz w v k a) (h2 : Nt w2 v2 n b) (hab : a ≤ b) : k ≤ n := by
  obtain ⟨x, o, h1, h3, rfl⟩ := h
  apply Nat.le_of_not_lt
  intro hlt
  obtain ⟨j, rfl⟩ : ∃ j, k = j + 1 := ⟨k - 1, by omega⟩
  have := V_ge h1.wd (by rcases h3 with h | h; omega; simpa using h)
  have := h2.lt
  have := P_le (show n ≤ j by omega)
  omega

end Go.Proofs.YtocfenjampmdlaaGreatDoor.B
namespace Go.Proofs.YtocfenjampmdlaaGreatDoor.B
open Go.RowKit NumB

theorem trimmed_quiet (b off n cap : Nat) (x : Nat → Int) (o : Nat) (w : World) (hcap : n ≤ cap) (hbig : cap ≤ 9223372036854775807) (hc : ∀ j, j < n → w.cell? ⟨b, off + j, none⟩ = some (.int .u64 (x (o + j)))) (i : Nat) :
    Calls Tryz.prog 56 #[.slice (some ⟨b, off, none⟩) n cap] (w.drewN i) fun e w' => e = .returned (.slice (some ⟨b, off, none⟩) (tr x o n) (tr x o n)) ∧ w' = w.drewN i :=
  trimmed_pos b off n cap x o (w.drewN i) hcap hbig hc

end Go.Proofs.YtocfenjampmdlaaGreatDoor.B
namespace Go.Proofs.YtocfenjampmdlaaGreatDoor.B
open Go.RowKit NumB

theorem Nz.len_le {w : World} {v : Value} {k n : Nat} {a : Int} (h : Nz w v k a) (hab : a < P n) : k ≤ n := by
  obtain ⟨x, o, h1, h3, rfl⟩ := h
  apply Nat.le_of_not_lt
  intro hlt
  obtain ⟨j, rfl⟩ : ∃ j, k = j + 1 := ⟨k - 1, by omega⟩
  have := V_ge h1.wd (by rcases h3 with h | h; omega; simpa using h)
  have := P_le (show n ≤ j by omega)
  omega
theorem prod_lt {a b : Int} {n m : Nat} (ha : 0 ≤ a ∧ a < P n) (hb : 0 ≤ b ∧ b < P m) : a * b < P (n + m) := by
  rw [P_add]
  have h1 : a * b ≤ a * P m := Int.mul_le_mul_of_nonneg_left (by omega) ha.1
  have h2 : a * P m < P n * P m := Int.mul_lt_mul_of_pos_right ha.2 (P_pos m)
  omega
/-- what is added from place h on has room, if the sum of all has. -/
theorem seg_room {X : Nat → Int} {h r : Nat} {t c : Int} (hX : Wd X 0 h) (hV : V X 0 (h + r) = t) (hs : t + P h * c < P (h + r)) : V X h r + c < P r := by
  rw [V_split, Nat.zero_add] at hV
  rw [P_add] at hs
  have h0 := (V_bd h hX).1
  have hp := P_pos h
  apply Int.not_le.1
  intro hc
  have : P h * P r ≤ P h * (V X h r + c) := Int.mul_le_mul_of_nonneg_left hc (by omega)
  rw [Int.mul_add] at this
  omega
theorem seg_sum {X X' : Nat → Int} {h r : Nat} {t c : Int} (hV : V X 0 (h + r) = t) (ho : ∀ j, j < h → X' j = X j) (hs : V X' h r = V X h r + c) : V X' 0 (h + r) = t + P h * c := by
  rw [V_split, Nat.zero_add] at hV ⊢
  rw [hs, V_congr (y := X) (p := 0) h (fun j hj => by rw [Nat.zero_add]; exact ho j hj), ← hV, Int.mul_add]
  omega

theorem wd_shift {X : Nat → Int} {h r n : Nat} (hw : Wd X 0 n) (hn : h + r ≤ n) : Wd X h r := fun j hj => by have := hw (h + j) (by omega); rwa [Nat.zero_add] at this
theorem wd_join {X Y : Nat → Int} {h r n : Nat} (hw : Wd X h r) (hy : Wd Y 0 n) (ho : ∀ j, j < h ∨ h + r ≤ j → X j = Y j) : Wd X 0 n := fun j hj => by
  rw [Nat.zero_add]
  by_cases hin : h ≤ j ∧ j < h + r
  · obtain ⟨i, rfl⟩ := Nat.le.dest hin.1
    exact hw i (by omega)
  · rw [ho j (by omega)]; have := hy j hj; rwa [Nat.zero_add] at this

/-- the middle of a product by halves. -/
theorem two_over {xl xh : Nat → Int} {ol oh k5 k6 h2 r : Nat} (h5 : k5 ≤ h2) (h6 : k6 ≤ r) : V (over (over (fun _ => 0) 0 k5 xl ol) h2 k6 xh oh) 0 (h2 + r) = V xl ol k5 + P h2 * V xh oh k6 := by
  rw [V_split, V_congr (y := over (fun _ => 0) 0 k5 xl ol) (p := 0) h2 (fun j hj => over_out (by omega)), over_V h2 h5, Nat.zero_add]
  obtain ⟨q, rfl⟩ := Nat.le.dest h6
  rw [V_split, V_congr (y := xh) (p := oh) k6 (fun j hj => over_in hj), V_zero (o := h2 + k6) q (fun j hj => by rw [over_out (by omega), over_out (by omega)])]
  simp
theorem two_over_wd {xl xh : Nat → Int} {ol oh k5 k6 h2 k : Nat} (h5 : Wd xl ol k5) (h6 : Wd xh oh k6) : Wd (over (over (fun _ => 0) 0 k5 xl ol) h2 k6 xh oh) 0 k := fun j hj => by
  rw [Nat.zero_add]
  by_cases hin : h2 ≤ j ∧ j < h2 + k6
  · obtain ⟨i, rfl⟩ := Nat.le.dest hin.1
    rw [over_in (by omega)]; exact h6 i (by omega)
  · rw [over_out (by omega)]; have := over_wd k h5 j hj; rwa [Nat.zero_add] at this
theorem mid_same {a1 a2 b1 b2 d1 d2 : Int} {f : Bool} (h1 : f = true → d1 = a1 - a2 ∧ a2 < a1) (h1' : f = false → d1 = a2 - a1 ∧ a1 ≤ a2) (h2 : f = true → d2 = b1 - b2 ∧ b2 < b1) (h2' : f = false → d2 = b2 - b1 ∧ b1 ≤ b2) :
    a1 * b1 + a2 * b2 - d1 * d2 = a1 * b2 + a2 * b1 := by
  cases f with
  | true => obtain ⟨rfl, _⟩ := h1 rfl; obtain ⟨rfl, _⟩ := h2 rfl; grind
  | false => obtain ⟨rfl, _⟩ := h1' rfl; obtain ⟨rfl, _⟩ := h2' rfl; grind
theorem mid_other {a1 a2 b1 b2 d1 d2 : Int} {f : Bool} (h1 : f = true → d1 = a1 - a2 ∧ a2 < a1) (h1' : f = false → d1 = a2 - a1 ∧ a1 ≤ a2) (h2 : (!f) = true → d2 = b1 - b2 ∧ b2 < b1) (h2' : (!f) = false → d2 = b2 - b1 ∧ b1 ≤ b2) :
    a1 * b1 + a2 * b2 + d1 * d2 = a1 * b2 + a2 * b1 := by
  cases f with
  | true => obtain ⟨rfl, _⟩ := h1 rfl; obtain ⟨rfl, _⟩ := h2' rfl; grind
  | false => obtain ⟨rfl, _⟩ := h1' rfl; obtain ⟨rfl, _⟩ := h2 rfl; grind
theorem prod_split {a1 a2 b1 b2 p : Int} : (a1 + p * a2) * (b1 + p * b2) = a1 * b1 + p * p * (a2 * b2) + p * (a1 * b2 + a2 * b1) := by grind

end Go.Proofs.YtocfenjampmdlaaGreatDoor.B
namespace Go.Proofs.YtocfenjampmdlaaGreatDoor.B
open Go.RowKit NumB

end Go.Proofs.YtocfenjampmdlaaGreatDoor.B
namespace Go.Proofs.YtocfenjampmdlaaGreatDoor.B
open Go.RowKit NumB

/-- block g holds the cells cs. -/
def Blk (w : World) (g : Nat) (cs : Array Value) (t : TypeId) : Prop := w.heap[g]? = some (.cells cs t (0, 0))
theorem Blk.new (w : World) (cs : Array Value) (t : TypeId) : Blk (w.alloc (.cells cs t)) w.heap.size cs t := heap_alloc_new w _
theorem Blk.lt {w : World} {g : Nat} {cs : Array Value} {t : TypeId} (h : Blk w g cs t) : g < w.heap.size := (Array.getElem?_eq_some_iff.1 h).1
theorem Blk.below {B : Nat} {w w' : World} {g : Nat} {cs : Array Value} {t : TypeId} (h : Blk w g cs t) (hb : Below B w w') (hg : g < B) : Blk w' g cs t := by
  unfold Blk; rw [hb.block g hg]; exact h
theorem Blk.alloc {w : World} {g : Nat} {cs : Array Value} {t : TypeId} (h : Blk w g cs t) (o : Obj) : Blk (w.alloc o) g cs t :=
  h.below ((Below.refl w.heap.size w).alloc (Nat.le_refl _) o) h.lt
theorem Blk.only {w w' : World} {g b : Nat} {cs : Array Value} {t : TypeId} (h : Blk w g cs t) (o : Only b w w') (hg : g ≠ b) : Blk w' g cs t := by
  unfold Blk; rw [o.block g hg]; exact h
/-- a variable that holds a whole number: two cells. -/
def Var (w : World) (g : Nat) (p : Bool) (ao : Option Addr) (n c : Nat) : Prop := Blk w g #[.bool p, .slice ao n c] 39
theorem Var.facts {w : World} {g : Nat} {p : Bool} {ao : Option Addr} {n c : Nat} (h : Var w g p ao n c) :
    w.cell? ⟨g, 0, none⟩ = some (.bool p) ∧ w.cell? ⟨g, 1, none⟩ = some (.slice ao n c) ∧ w.frozen? ⟨g, 0, none⟩ = false ∧ w.frozen? ⟨g, 1, none⟩ = false ∧ g < w.heap.size := by
  have hl := Blk.lt h
  unfold Var Blk at h
  refine ⟨?_, ?_, ?_, ?_, hl⟩
  · simp only [World.cell?, h]; rfl
  · simp only [World.cell?, h]; rfl
  · simp only [World.frozen?, h]; rfl
  · simp only [World.frozen?, h]; rfl
theorem Var.set {w : World} {g : Nat} {p q : Bool} {ao bo : Option Addr} {n c m d : Nat} (h : Var w g p ao n c) :
    Var ((w.setCell ⟨g, 0, none⟩ (.bool q)).setCell ⟨g, 1, none⟩ (.slice bo m d)) g q bo m d := by
  unfold Var Blk at *
  have e1 := heap_setCell_same w g 0 _ _ (.bool q) h
  rw [heap_setCell_same _ g 1 _ _ (.slice bo m d) e1]
  rfl
theorem ret_var {fn : Func} {tmps : Array Value} {w : World} {t : Tmp} {g : Nat} {p : Bool} {ao : Option Addr} {n c : Nat} (hv : Var w g p ao n c) (h : fn.results = #[.cell t 39]) (ht : tmps[t]?.getD undef = .pointer (some ⟨g, 0, none⟩)) :
    (results fn tmps).run Tryz.prog w = .ok (.agg #[.bool p, .slice ao n c]) w := by
  obtain ⟨c0, c1, _⟩ := hv.facts
  simp [results, h, go_sem, ht, c0, c1]
theorem ret_var3 {fn : Func} {tmps : Array Value} {w : World} {t t' u : Tmp} {g g' : Nat} {p p' : Bool} {ao ao' : Option Addr} {n c n' c' : Nat} {v : Value} (hv : Var w g p ao n c) (hv' : Var w g' p' ao' n' c') (h : fn.results = #[.cell t 39, .cell t' 39, .tmp u])
    (ht : tmps[t]?.getD undef = .pointer (some ⟨g, 0, none⟩)) (ht' : tmps[t']?.getD undef = .pointer (some ⟨g', 0, none⟩)) (hu : tmps[u]?.getD undef = v) :
    (results fn tmps).run Tryz.prog w = .ok (.tuple #[.agg #[.bool p, .slice ao n c], .agg #[.bool p', .slice ao' n' c'], v]) w := by
  obtain ⟨c0, c1, _⟩ := hv.facts
  obtain ⟨d0, d1, _⟩ := hv'.facts
  simp [results, h, go_sem, ht, ht', hu, c0, c1, d0, d1]
theorem ret_var2 {fn : Func} {tmps : Array Value} {w : World} {t u : Tmp} {g : Nat} {p : Bool} {ao : Option Addr} {n c : Nat} {v : Value} (hv : Var w g p ao n c) (h : fn.results = #[.cell t 39, .tmp u])
    (ht : tmps[t]?.getD undef = .pointer (some ⟨g, 0, none⟩)) (hu : tmps[u]?.getD undef = v) :
    (results fn tmps).run Tryz.prog w = .ok (.tuple #[.agg #[.bool p, .slice ao n c], v]) w := by
  obtain ⟨c0, c1, _⟩ := hv.facts
  simp [results, h, go_sem, ht, hu, c0, c1]
theorem var_new (w : World) : Var (w.alloc (.cells #[.bool false, .slice none 0 0] 39)) w.heap.size false none 0 0 := Blk.new _ _ _
theorem Sl.off {w : World} {v : Value} {n : Nat} {x : Nat → Int} {o g : Nat} {p : Bool} {ao : Option Addr} {l c : Nat} (h : Sl w v n x o) (hb : Var w g p ao l c) : SlN g w v n x o := by
  obtain ⟨ao', cap, rfl, h1, h2, h3, h4, h5⟩ := h
  refine ⟨ao', cap, rfl, h1, h2, h3, h4, fun hn => ?_⟩
  obtain ⟨b, off, rfl, hbs, hc⟩ := h5 hn
  refine ⟨b, off, rfl, hbs, ?_, hc⟩
  rintro rfl
  have := hc 0 hn
  unfold Var Blk at hb
  simp only [World.cell?, hb] at this
  match off with
  | 0 => simp at this
  | 1 => simp at this
  | k + 2 => simp at this
theorem SlN.sl {g : Nat} {w : World} {v : Value} {n : Nat} {x : Nat → Int} {o : Nat} (h : SlN g w v n x o) : Sl w v n x o := by
  obtain ⟨ao, cap, rfl, h1, h2, h3, h4, h5⟩ := h
  refine ⟨ao, cap, rfl, h1, h2, h3, h4, fun hn => ?_⟩
  obtain ⟨b, off, rfl, hbs, _, hc⟩ := h5 hn
  exact ⟨b, off, rfl, hbs, hc⟩

/-- a number below 0, or not. -/
def sg (neg : Bool) (a : Int) : Int := if neg then -a else a
theorem sg_not (neg : Bool) (a : Int) : sg (!neg) a = - sg neg a := by cases neg <;> simp [sg]
/-- 'v' is the whole number A, of up to n words. -/
def It (w : World) (v : Value) (n : Nat) (A : Int) : Prop :=
  ∃ (neg : Bool) (ao : Option Addr) (k cap : Nat) (a : Int), v = .agg #[.bool neg, .slice ao k cap] ∧ Nz w (.slice ao k cap) k a ∧ k ≤ n ∧ A = sg neg a ∧ (neg = true → a ≠ 0) ∧ 0 ≤ a
theorem It.below {w w' : World} {v : Value} {n : Nat} {A : Int} (h : It w v n A) (hb : Below w.heap.size w w') : It w' v n A := by
  obtain ⟨neg, ao, k, cap, a, rfl, h1, h2, h3, h4, h5⟩ := h
  exact ⟨neg, ao, k, cap, a, rfl, h1.below hb, h2, h3, h4, h5⟩
theorem It.mono {w : World} {v : Value} {n m : Nat} {A : Int} (h : It w v n A) (hm : n ≤ m) : It w v m A := by
  obtain ⟨neg, ao, k, cap, a, rfl, h1, h2, h3, h4, h5⟩ := h
  exact ⟨neg, ao, k, cap, a, rfl, h1, by omega, h3, h4, h5⟩
theorem It.cast {w : World} {v : Value} {n : Nat} {A B : Int} (h : It w v n A) (e : A = B) : It w v n B := e ▸ h
theorem Nz.off {w w' : World} {v : Value} {k : Nat} {a : Int} {g : Nat} {p : Bool} {ao : Option Addr} {l c : Nat} (h : Nz w v k a) (hv : Var w g p ao l c) (ho : Only g w w') : Nz w' v k a := by
  obtain ⟨x, o, h1, h2, h3⟩ := h
  exact ⟨x, o, ((h1.off hv).only ho).sl, h2, h3⟩
theorem It.off {w w' : World} {v : Value} {n : Nat} {A : Int} {g : Nat} {p : Bool} {ao : Option Addr} {l c : Nat} (h : It w v n A) (hv : Var w g p ao l c) (ho : Only g w w') : It w' v n A := by
  obtain ⟨neg, ao, k, cap, a, rfl, h1, h2, h3, h4, h5⟩ := h
  exact ⟨neg, ao, k, cap, a, rfl, h1.off hv ho, h2, h3, h4, h5⟩
theorem It.shape {w : World} {v : Value} {n : Nat} {A : Int} (h : It w v n A) : ∃ p ao k cap, v = .agg #[.bool p, .slice ao k cap] := by
  obtain ⟨neg, ao, k, cap, a, rfl, -⟩ := h; exact ⟨neg, ao, k, cap, rfl⟩
theorem Nz.shape {w : World} {v : Value} {k : Nat} {a : Int} (h : Nz w v k a) : ∃ ao cap, v = .slice ao k cap := by
  obtain ⟨x, o, ⟨ao, cap, rfl, -⟩, -⟩ := h; exact ⟨ao, cap, rfl⟩
/-- the sign of a number. -/
def sgn (a : Int) : Int := if a < 0 then -1 else if a = 0 then 0 else 1
/-- what two stores into a variable leave. -/
theorem only_two (g : Nat) (w : World) (a b : Value) : Only g w ((w.setCell ⟨g, 0, none⟩ a).setCell ⟨g, 1, none⟩ b) := ((Only.refl g w).set 0 a).set 1 b
theorem below_new (w : World) (o : Obj) : Below w.heap.size w (w.alloc o) := (Below.refl _ _).alloc (Nat.le_refl _) o
theorem Nz.alloc {w : World} {v : Value} {k : Nat} {a : Int} (h : Nz w v k a) (o : Obj) : Nz (w.alloc o) v k a := h.below (below_new w o)
theorem Nt.alloc {w : World} {v : Value} {k : Nat} {a : Int} (h : Nt w v k a) (o : Obj) : Nt (w.alloc o) v k a := h.below (below_new w o)
theorem It.alloc {w : World} {v : Value} {k : Nat} {a : Int} (h : It w v k a) (o : Obj) : It (w.alloc o) v k a := h.below (below_new w o)

theorem bt {w w1 w2 : World} (h : Below w.heap.size w w1) (k : Below w1.heap.size w1 w2) : Below w.heap.size w w2 := h.trans (k.mono h.size)
theorem Var.go {w w' : World} {g : Nat} {p : Bool} {ao : Option Addr} {n c : Nat} (h : Var w g p ao n c) (hb : Below w.heap.size w w') : Var w' g p ao n c := Blk.below h hb (Blk.lt h)
theorem Var.at {w w' : World} {g b : Nat} {p : Bool} {ao : Option Addr} {n c : Nat} (h : Var w g p ao n c) (ho : Only b w w') (hg : g ≠ b) : Var w' g p ao n c := Blk.only h ho hg
theorem var_mk (w : World) (p : Bool) (ao : Option Addr) (n c : Nat) : Var (w.alloc (.cells #[.bool p, .slice ao n c] 39)) w.heap.size p ao n c := Blk.new _ _ _
theorem Var.alloc {w : World} {g : Nat} {p : Bool} {ao : Option Addr} {n c : Nat} (h : Var w g p ao n c) (o : Obj) : Var (w.alloc o) g p ao n c := h.go (below_new w o)
theorem entry1 (w : World) (p : Bool) (ao : Option Addr) (n c : Nat) :
    Var ((w.alloc (.cells #[.bool p, .slice ao n c] 39)).alloc (.cells #[.bool false, .slice none 0 0] 39)) w.heap.size p ao n c ∧
    Var ((w.alloc (.cells #[.bool p, .slice ao n c] 39)).alloc (.cells #[.bool false, .slice none 0 0] 39)) (w.heap.size + 1) false none 0 0 ∧
    Below w.heap.size w ((w.alloc (.cells #[.bool p, .slice ao n c] 39)).alloc (.cells #[.bool false, .slice none 0 0] 39)) :=
  ⟨(var_mk w p ao n c).alloc _, by simpa using var_mk (w.alloc (.cells #[.bool p, .slice ao n c] 39)) false none 0 0, bt (below_new w _) (below_new _ _)⟩
theorem entry2 (w : World) (p : Bool) (ao : Option Addr) (n c : Nat) (q : Bool) (bo : Option Addr) (m d : Nat) :
    Var (((w.alloc (.cells #[.bool p, .slice ao n c] 39)).alloc (.cells #[.bool q, .slice bo m d] 39)).alloc (.cells #[.bool false, .slice none 0 0] 39)) w.heap.size p ao n c ∧
    Var (((w.alloc (.cells #[.bool p, .slice ao n c] 39)).alloc (.cells #[.bool q, .slice bo m d] 39)).alloc (.cells #[.bool false, .slice none 0 0] 39)) (w.heap.size + 1) q bo m d ∧
    Var (((w.alloc (.cells #[.bool p, .slice ao n c] 39)).alloc (.cells #[.bool q, .slice bo m d] 39)).alloc (.cells #[.bool false, .slice none 0 0] 39)) (w.heap.size + 2) false none 0 0 ∧
    Below w.heap.size w (((w.alloc (.cells #[.bool p, .slice ao n c] 39)).alloc (.cells #[.bool q, .slice bo m d] 39)).alloc (.cells #[.bool false, .slice none 0 0] 39)) :=
  ⟨((var_mk w p ao n c).alloc _).alloc _, by simpa using (var_mk (w.alloc (.cells #[.bool p, .slice ao n c] 39)) q bo m d).alloc (.cells #[.bool false, .slice none 0 0] 39), by simpa using var_mk ((w.alloc (.cells #[.bool p, .slice ao n c] 39)).alloc (.cells #[.bool q, .slice bo m d] 39)) false none 0 0, bt (bt (below_new w _) (below_new _ _)) (below_new _ _)⟩

set_option maxHeartbeats 400000 in
theorem signed_any (neg : Bool) (s : Value) (k : Nat) (a : Int) (w : World) (h : Nz w s k a) :
    Calls Tryz.prog 50 #[.bool neg, s] w fun e w' => ∃ v, e = .returned v ∧ It w' v k (sg neg a) ∧ Below w.heap.size w w' := by
  have H := hid h
  have L := hid h.len.1
  have H0 := hid h.nt.nonneg
  obtain ⟨ao, cap, rfl⟩ := h.shape
  clear h
  by_cases h0 : k = 0
  · subst h0
    obtain rfl : a = 0 := L.out.2 rfl
    clear L
    go_enter Tryz.func50, Tryz.ntmps50
    go_wp2
    refine bodyPost_ret (v := .agg #[.bool false, .slice none 0 0]) (by simp [results, Tryz.results50, go_sem]) rfl ?_
    refine ⟨_, rfl, ⟨false, none, 0, 0, 0, rfl, nil_nz _, Nat.le_refl _, ?_, by simp, by omega⟩, below_new w _⟩
    cases neg <;> rfl
  · have hk0 : ((k : Int) == 0) = false := by simp; omega
    go_enter Tryz.func50, Tryz.ntmps50
    go_wp2
    refine bodyPost_ret (v := .agg #[.bool neg, .slice ao k cap]) (by simp [results, Tryz.results50, go_sem]) rfl ?_
    exact ⟨_, rfl, ⟨neg, ao, k, cap, a, rfl, H.out.alloc _, Nat.le_refl _, rfl, fun _ e => h0 (L.out.1 e), H0.out⟩, below_new w _⟩

set_option maxHeartbeats 400000 in
theorem From_any (neg : Bool) (v : Value) (n : Nat) (a : Int) (w : World) (h : Nt w v n a) (hn : n ≤ 100000000) :
    Calls Tryz.prog 33 #[.bool neg, v] w fun e w' => ∃ v', e = .returned v' ∧ It w' v' n (sg neg a) ∧ Below w.heap.size w w' := by
  have V0 := hid (var_new w)
  have B0 := hid (below_new w (.cells #[.bool false, .slice none 0 0] 39))
  have H := hid (norm_any v n a _ (h.alloc (.cells #[.bool false, .slice none 0 0] 39)) hn)
  clear h
  go_enter Tryz.func33, Tryz.ntmps33
  go_wp2_with fail
  refine H.out.mono ?_
  clear H
  generalize w.alloc (.cells #[.bool false, .slice none 0 0] 39) = wa at *
  rintro e w1 ⟨k, X, rfl, r1, r2, r3, r4, hk, C1, _⟩
  have N1 := hid (Nz.of_row r1 r2 r3 r4 (by omega)); clear r1 r2 r3 r4
  go_wp2_with fail
  refine (signed_any _ _ _ _ _ N1.out).mono ?_
  rintro e w2 ⟨v', rfl, I, C2⟩
  obtain ⟨p, ao, k', cap, rfl⟩ := I.shape
  have I1 := hid I
  clear I
  have V2 := hid ((V0.out.below C1 (Blk.lt V0.out)).below C2 (Nat.lt_of_lt_of_le (Blk.lt V0.out) C1.size))
  obtain ⟨c0, c1, f0, f1, l0⟩ := Var.facts V2.out
  go_wp2
  refine bodyPost_ret (ret_var (Var.set V2.out) rfl rfl) rfl ?_
  exact ⟨_, rfl, (I1.out.off V2.out (only_two _ _ _ _)).mono hk, (B0.out.trans (C1.mono B0.out.size)).trans ((C2.mono (Nat.le_trans B0.out.size C1.size)).trans ((only_two _ _ _ _).below (Nat.le_refl _)))⟩

theorem sg_mul (p q : Bool) (a b : Int) : sg p a * sg q b = sg (p != q) (a * b) := by cases p <;> cases q <;> simp [sg, Int.neg_mul, Int.mul_neg]
end Go.Proofs.YtocfenjampmdlaaGreatDoor.B
namespace Go.Proofs.YtocfenjampmdlaaGreatDoor.B
open Go.RowKit NumB

theorem Tryz.infoBuilder : (Tryz.prog.info? 96).map (fun i => i.size) = some 2 := by kernel_rfl
theorem Tryz.liesBuilder : liesAt Tryz.prog Tryz.prog.depth 96 (2 / Tryz.prog.cellsOf 96) 0 96 1 = true := by kernel_rfl
theorem Tryz.infoByte : (Tryz.prog.info? 5).map (fun i => (i.zero, i.size, i.bytes)) = some (some (.int .u8 0), 1, 1) := by kernel_rfl

set_option maxHeartbeats 1000000 in
set_option maxRecDepth 100000 in
theorem copyCheck_used (b : Nat) (w : World) (h0 : w.cell? ⟨b, 0, none⟩ = some (.pointer (some ⟨b, 0, none⟩))) :
    Calls Tryz.prog 75 #[.pointer (some ⟨b, 0, none⟩)] w fun e w' => e = .returned (.tuple #[]) ∧ w' = w := by
  obtain ⟨j, hj, -⟩ := Option.map_eq_some_iff.1 Tryz.infoBuilder
  go_enter Tryz.func75, Tryz.ntmps75
  go_wp2
  rw [Lib.run_neq_ptr_same w _ Tryz.underlying94 hj]
  go_wp2
  go_end0
  exact ⟨rfl, rfl⟩

set_option maxHeartbeats 1000000 in
set_option maxRecDepth 100000 in
theorem copyCheck_fresh (b : Nat) (w : World) (h0 : w.cell? ⟨b, 0, none⟩ = some (.pointer none)) (hsh : w.shape? b = some (96, 2)) (hfz : w.frozen? ⟨b, 0, none⟩ = false) :
    Calls Tryz.prog 75 #[.pointer (some ⟨b, 0, none⟩)] w fun e w' => e = .returned (.tuple #[]) ∧ w' = w.setCell ⟨b, 0, none⟩ (.pointer (some ⟨b, 0, none⟩)) := by
  obtain ⟨j, hj, hjs⟩ := Option.map_eq_some_iff.1 Tryz.infoBuilder
  go_enter Tryz.func75, Tryz.ntmps75
  go_wp2
  rw [Lib.run_to_unsafe w ⟨b, 0, none⟩ Tryz.underlying94 Tryz.underlying138 hj (by rw [hjs]; decide) hsh (Nat.zero_lt_succ 1)]
  simp only [Result.andThen]
  rw [Oper.upon_value]
  go_wp2
  rw [run_callFunc_extern Tryz.func98 (by kernel_rfl) (by kernel_rfl) (by kernel_rfl) (e := Extern.AbiNoEscape.same) (by kernel_rfl)]
  rw [Lib.run_noEscape]
  simp only [Result.andThen]
  rw [Oper.upon_value]
  go_wp2
  rw [Lib.run_from_unsafe w ⟨b, 0, none⟩ Tryz.underlying138 Tryz.underlying94 hj hsh Tryz.liesBuilder]
  simp only [Result.andThen]
  rw [Oper.upon_value]
  go_wp2
  go_end0
  exact ⟨rfl, rfl⟩

theorem copyCheck_any (B b : Nat) (bs : List Value) (w : World) (h : Lib.IsBuilder 96 5 B b bs w) :
    Calls Tryz.prog 75 #[.pointer (some ⟨b, 0, none⟩)] w fun e w' => e = .returned (.tuple #[]) ∧ (Lib.BuilderAt 96 5 B b (.pointer (some ⟨b, 0, none⟩)) bs w' ∧ Below B w w') := by
  rcases h with h | h
  · refine (copyCheck_fresh b w h.cell0 h.shape h.frozen0).mono ?_
    rintro e w' ⟨rfl, rfl⟩
    exact ⟨rfl, h.used _, (Below.refl B w).setCell (p := ⟨b, 0, none⟩) h.1 _⟩
  · refine (copyCheck_used b w h.cell0).mono ?_
    rintro e w' ⟨rfl, rfl⟩
    exact ⟨rfl, h, Below.refl B _⟩

set_option maxHeartbeats 2000000 in
set_option maxRecDepth 100000 in
theorem writeString_any (B b : Nat) (bs : List Value) (s : ByteArray) (w : World) (h : Lib.IsBuilder 96 5 B b bs w) (hlen : bs.length + s.size ≤ 140737488355328) (hBw : B ≤ w.heap.size) :
    Calls Tryz.prog 57 #[.pointer (some ⟨b, 0, none⟩), .string s] w fun e w' => e = .returned (.tuple #[.int .i64 s.size, .nilIface]) ∧ (Lib.BuilderAt 96 5 B b (.pointer (some ⟨b, 0, none⟩)) (bs ++ Lib.strCells s) w' ∧ Below B w w') := by
  obtain ⟨i0, hi, hz0, hz1, hz2⟩ := info_parts Tryz.infoByte
  go_enter Tryz.func57, Tryz.ntmps57
  go_wp2_with (go_at_call 75; refine (copyCheck_any B b bs _ h).mono ?_)
  rintro e w1 ⟨rfl, h1, hb1⟩
  obtain ⟨hB, v, hbk, hown, hne⟩ := h1
  have c0 : w1.cell? ⟨b, 0, none⟩ = some (.pointer (some ⟨b, 0, none⟩)) := by rw [Lib.cell_of_heap hbk]; rfl
  have c1 : w1.cell? ⟨b, 1, none⟩ = some v := by rw [Lib.cell_of_heap hbk]; rfl
  go_wp2_with (at_builtin; refine Lib.wpList_append_own_string _ rfl _ _ 89 9 rfl B 5 i0 Tryz.underlying89 Tryz.underlying9 hi hz0 hz1 hz2 _ _ _ rfl hown s rfl ?c3 ?c4 ?c5 ?_)
  case c3 => unfold maxLen; omega
  case c4 => omega
  case c5 => have := hb1.size; omega
  intro v' w2 hown' hgrow _
  have hlt : b < w1.heap.size := (Array.getElem?_eq_some_iff.1 hbk).1
  have hb2 : w2.heap[b]? = some (.cells #[.pointer (some ⟨b, 0, none⟩), v] 96 (0, 0)) := by
    rw [hgrow.block b hlt (fun e => hne e.symm)]
    exact hbk
  have d0 : w2.cell? ⟨b, 0, none⟩ = some (.pointer (some ⟨b, 0, none⟩)) := by rw [Lib.cell_of_heap hb2]; rfl
  have d1 : w2.cell? ⟨b, 1, none⟩ = some v := by rw [Lib.cell_of_heap hb2]; rfl
  have f1 : w2.frozen? ⟨b, 1, none⟩ = false := Lib.frozen_of_heap hb2 1
  obtain ⟨ao, n', cap, rfl⟩ : ∃ ao n' cap, v' = .slice ao n' cap := by
    rcases hown'.2 with ⟨hv, _⟩ | ⟨g, cap, cur, hv, _⟩
    · exact ⟨_, _, _, hv⟩
    · exact ⟨_, _, _, hv⟩
  go_wp2
  go_ret2
  refine ⟨rfl, ?_, ?_⟩
  · exact Lib.BuilderAt.put (T := 96) (e := 5) hB hb2 (bs' := bs ++ Lib.strCells s) (by simpa [Lib.strCells_length] using hown') (by decide)
  · exact (hb1.grown hgrow (by have := hb1.size; omega) (fun k hk => (hown.lt k hk).1)).setCell (p := ⟨b, 1, none⟩) hB _
end Go.Proofs.YtocfenjampmdlaaGreatDoor.B
namespace Go.Proofs.YtocfenjampmdlaaGreatDoor.B
open Go.RowKit NumB

theorem pow_split (s : Nat) (hs : s ≤ 63) : (2 : Int) ^ (64 - s) * 2 ^ s = 18446744073709551616 := by
  rw [← Int.pow_add, show 64 - s + s = 64 by omega]; rfl
theorem shr_hi (b : Int) (s : Nat) (hs : s ≤ 63) : b / 2 ^ (64 - s) = hi (b * 2 ^ s) := by
  unfold hi
  rw [← pow_split s hs, Int.mul_ediv_mul_of_pos_left _ _ (Int.pow_pos (by decide))]
/-- a word moved up, and what comes from below. -/
theorem or_words (x b : Int) (s : Nat) (hs : s ≤ 63) (hx : 0 ≤ x) (hb : 0 ≤ b) (hb' : b ≤ 18446744073709551615) :
    bits .or .u64 (IntKind.u64.wrap (x * 2 ^ s)) (b / 2 ^ (64 - s)) = lo (x * 2 ^ s) + hi (b * 2 ^ s) ∧ 0 ≤ lo (x * 2 ^ s) + hi (b * 2 ^ s) ∧ lo (x * 2 ^ s) + hi (b * 2 ^ s) ≤ 18446744073709551615 := by
  obtain ⟨x, rfl⟩ := Int.eq_ofNat_of_zero_le hx
  obtain ⟨b, rfl⟩ := Int.eq_ofNat_of_zero_le hb
  have hKpos : 0 < 2 ^ s := Nat.two_pow_pos s
  have hMpos : 0 < 2 ^ (64 - s) := Nat.two_pow_pos _
  have hMK : 2 ^ (64 - s) * 2 ^ s = 18446744073709551616 := by rw [← Nat.pow_add, show 64 - s + s = 64 by omega]
  have pK : (2 : Int) ^ s = ((2 ^ s : Nat) : Int) := by simp
  have pM : (2 : Int) ^ (64 - s) = ((2 ^ (64 - s) : Nat) : Int) := by simp
  have hlt : b / 2 ^ (64 - s) < 2 ^ s := by rw [Nat.div_lt_iff_lt_mul hMpos, Nat.mul_comm, hMK]; omega
  rw [← shr_hi _ s hs]
  have e1 : lo ((x : Int) * 2 ^ s) = ((x * 2 ^ s % 18446744073709551616 : Nat) : Int) := by unfold lo; rw [pK, ← Int.natCast_mul]; omega
  have e2 : (b : Int) / 2 ^ (64 - s) = ((b / 2 ^ (64 - s) : Nat) : Int) := by rw [pM, Int.natCast_ediv]
  have e3 : x * 2 ^ s % 18446744073709551616 = x % 2 ^ (64 - s) * 2 ^ s := by rw [← hMK, Nat.mul_mod_mul_right]
  rw [e1, e2, IntKind.wrap_u64, pK, ← Int.natCast_mul, show ((x * 2 ^ s : Nat) : Int) % 18446744073709551616 = ((x * 2 ^ s % 18446744073709551616 : Nat) : Int) by omega]
  have hx1 : x % 2 ^ (64 - s) < 2 ^ (64 - s) := Nat.mod_lt _ hMpos
  have hsum : x % 2 ^ (64 - s) * 2 ^ s + b / 2 ^ (64 - s) < 18446744073709551616 := by
    have : (x % 2 ^ (64 - s) + 1) * 2 ^ s ≤ 2 ^ (64 - s) * 2 ^ s := Nat.mul_le_mul_right _ hx1
    rw [Nat.add_mul, hMK] at this
    omega
  rw [e3, bits_or_u64_nat _ _ (by omega) (by omega)]
  have hor : x % 2 ^ (64 - s) * 2 ^ s ||| b / 2 ^ (64 - s) = x % 2 ^ (64 - s) * 2 ^ s + b / 2 ^ (64 - s) := or_add _ _ s hlt
  rw [hor]
  omega

theorem up_step (x' : Nat → Int) (oz k : Nat) (a c t K : Int) (h : V x' oz k + hi (c * K) * P k = t) :
    V (upd x' (oz + k) (lo (a * K) + hi (c * K))) oz (k + 1) + hi (a * K) * P (k + 1) = t + a * K * P k := by
  rw [V_upd_top]
  have e := lo_hi (a * K)
  generalize lo (a * K) = l at *
  generalize hi (a * K) = m at *
  generalize hi (c * K) = q at *
  simp only [P]
  generalize P k = p at *
  rw [← h, ← e]
  grind

end Go.Proofs.YtocfenjampmdlaaGreatDoor.B
namespace Go.Proofs.YtocfenjampmdlaaGreatDoor.B
open Go.RowKit NumB

theorem lo_mul (c : Int) (s : Nat) (hs : s ≤ 63) : lo (c * 2 ^ (64 - s)) = 2 ^ (64 - s) * (c % 2 ^ s) := by
  unfold lo
  rw [← pow_split s hs, Int.mul_comm c, Int.mul_emod_mul_of_pos _ _ (Int.pow_pos (by decide))]
/-- a word moved down, and what comes from above. -/
theorem or_down (x c : Int) (s : Nat) (hs : s ≤ 63) (hx : 0 ≤ x) (hx' : x ≤ 18446744073709551615) (hc : 0 ≤ c) :
    bits .or .u64 (x / 2 ^ s) (IntKind.u64.wrap (c * 2 ^ (64 - s))) = x / 2 ^ s + lo (c * 2 ^ (64 - s)) ∧ 0 ≤ x / 2 ^ s + lo (c * 2 ^ (64 - s)) ∧ x / 2 ^ s + lo (c * 2 ^ (64 - s)) ≤ 18446744073709551615 := by
  obtain ⟨x, rfl⟩ := Int.eq_ofNat_of_zero_le hx
  obtain ⟨c, rfl⟩ := Int.eq_ofNat_of_zero_le hc
  have hKpos : 0 < 2 ^ s := Nat.two_pow_pos s
  have hMpos : 0 < 2 ^ (64 - s) := Nat.two_pow_pos _
  have hMK : 2 ^ (64 - s) * 2 ^ s = 18446744073709551616 := by rw [← Nat.pow_add, show 64 - s + s = 64 by omega]
  have pK : (2 : Int) ^ s = ((2 ^ s : Nat) : Int) := by simp
  have pM : (2 : Int) ^ (64 - s) = ((2 ^ (64 - s) : Nat) : Int) := by simp
  have hlt : x / 2 ^ s < 2 ^ (64 - s) := by rw [Nat.div_lt_iff_lt_mul hKpos, hMK]; omega
  have e1 : lo ((c : Int) * 2 ^ (64 - s)) = ((c % 2 ^ s * 2 ^ (64 - s) : Nat) : Int) := by
    rw [lo_mul _ s hs, pK, pM, Int.natCast_mul, Int.natCast_emod, Int.mul_comm]
  have e0 : IntKind.u64.wrap ((c : Int) * 2 ^ (64 - s)) = lo ((c : Int) * 2 ^ (64 - s)) := by rw [IntKind.wrap_u64]; rfl
  have e2 : (x : Int) / 2 ^ s = ((x / 2 ^ s : Nat) : Int) := by rw [pK, Int.natCast_ediv]
  rw [e0, e1, e2]
  have hc1 : c % 2 ^ s < 2 ^ s := Nat.mod_lt _ hKpos
  have hsum : c % 2 ^ s * 2 ^ (64 - s) + x / 2 ^ s < 18446744073709551616 := by
    have : (c % 2 ^ s + 1) * 2 ^ (64 - s) ≤ 2 ^ s * 2 ^ (64 - s) := Nat.mul_le_mul_right _ hc1
    rw [Nat.add_mul, Nat.mul_comm (2 ^ s), hMK] at this
    omega
  have hor := or_add (c % 2 ^ s) (x / 2 ^ s) (64 - s) hlt
  clear e0 e1 e2
  generalize c % 2 ^ s * 2 ^ (64 - s) = Q at *
  generalize x / 2 ^ s = R at *
  rw [bits_or_u64_nat _ _ (by omega) (by omega), Nat.or_comm, hor]
  omega
theorem down_step {y c T T2 B K M : Int} (hK : 0 < K) (hB : M * K = B) (hT : T = c + B * T2) : y / K + M * (c % K) + B * (T / K) = (y + B * T) / K := by
  have e1 : T % K = c % K := by
    rw [hT, ← hB, show c + M * K * T2 = c + K * (M * T2) by grind, Int.add_mul_emod_self_left]
  have e2 := Int.emod_add_mul_ediv T K
  have e3 : M * T = M * (c % K) + B * (T / K) := by
    rw [← e1, ← hB]
    generalize T / K = q at *
    generalize T % K = r at *
    rw [← e2]; grind
  rw [show y + B * T = y + K * (M * T) by rw [← hB]; grind, Int.add_mul_ediv_left _ _ (by omega), e3]
  omega

/-- how 'takeTimes' reckons a word. -/
theorem take_word (m o x : Int) (hm : 0 ≤ m) (hm' : m ≤ 340282366920938463426481119284349108225) (ho : 0 ≤ o ∧ o ≤ 18446744073709551615) (hx : 0 ≤ x ∧ x ≤ 18446744073709551615) :
    hi m + hi (lo m + o) ≤ 18446744073709551615 ∧ hi m + hi (lo m + o) + db x (lo (lo m + o)) 0 ≤ 18446744073709551615 ∧ dl x (lo (lo m + o)) 0 - (hi m + hi (lo m + o) + db x (lo (lo m + o)) 0) * 18446744073709551616 = x - m - o ∧ 0 ≤ hi m ∧ 0 ≤ hi (lo m + o) ∧ 0 ≤ db x (lo (lo m + o)) 0 ∧ 0 ≤ dl x (lo (lo m + o)) 0 ∧ dl x (lo (lo m + o)) 0 ≤ 18446744073709551615 := by
  unfold dl db hi lo; split <;> omega
theorem take_step (x : Nat → Int) (o k : Nat) (d q m c t : Int) (he : d - q * 18446744073709551616 = x (o + k) - m - c) (h : V x o k - c * P k = t) :
    V (upd x (o + k) d) o (k + 1) - q * P (k + 1) = t + x (o + k) * P k - m * P k := by
  rw [V_upd_top]
  simp only [P]
  generalize P k = p at *
  generalize x (o + k) = u at *
  have : d = u - m - c + q * 18446744073709551616 := by omega
  rw [← h, this]; grind
theorem word_sq {a b : Int} (ha : 0 ≤ a ∧ a ≤ 18446744073709551615) (hb : 0 ≤ b ∧ b ≤ 18446744073709551615) : 0 ≤ a * b ∧ a * b ≤ 340282366920938463426481119284349108225 := by
  refine ⟨Int.mul_nonneg ha.1 hb.1, ?_⟩
  have : a * b ≤ 18446744073709551615 * b := Int.mul_le_mul_of_nonneg_right ha.2 hb.1
  omega
end Go.Proofs.YtocfenjampmdlaaGreatDoor.B
namespace Go.Proofs.YtocfenjampmdlaaGreatDoor.B
open Go.RowKit NumB

/-- word j of a number, or 0 behind its end. -/
def wy (y : Nat → Int) (p m j : Nat) : Int := if j < m then y (p + j) else 0
/-- the numbers of 'timesLess'. -/
theorem tl_room {X2 X3 : Nat → Int} {m N : Nat} {c T S : Int} (hm : m ≤ N) (h1 : V X3 0 m - c * P m = V X2 0 m - S) (h2 : V X2 0 N = T) (h3 : ∀ j, m ≤ j → X3 j = X2 j) (hw : Wd X3 0 m) (hle : S ≤ T) :
    c ≤ V X3 m (N - m) ∧ V X3 0 m + P m * (V X3 m (N - m) - c) = T - S := by
  have e : V X2 0 N = V X2 0 m + P m * V X2 m (N - m) := by
    have := V_split X2 0 m (N - m)
    rw [Nat.zero_add, show m + (N - m) = N by omega] at this
    exact this
  have e3 : V X3 m (N - m) = V X2 m (N - m) := V_congr _ (fun j hj => h3 _ (by omega))
  have hb := V_bd m hw
  have hp := P_pos m
  rw [e3]
  generalize V X2 m (N - m) = H at *
  have k : P m * (H - c) = P m * H - c * P m := by grind
  have t : V X3 0 m + P m * (H - c) = T - S := by rw [k]; omega
  refine ⟨?_, t⟩
  apply Int.not_lt.1
  intro hc
  have : P m * (H - c) ≤ P m * (-1) := Int.mul_le_mul_of_nonneg_left (by omega) (by omega)
  omega
theorem tl_first {X1 : Nat → Int} {n N : Nat} {c T : Int} (hn : n < N) (h1 : V X1 0 n + c * P n = T) (h2 : ∀ j, n ≤ j → X1 j = 0) : V (upd X1 n c) 0 N = T := by
  have e := V_split (upd X1 n c) 0 (n + 1) (N - (n + 1))
  rw [Nat.zero_add, show n + 1 + (N - (n + 1)) = N by omega] at e
  have z : V (upd X1 n c) (n + 1) (N - (n + 1)) = 0 := V_zero _ (fun j _ => by rw [upd_other _ _ _ _ (by omega)]; exact h2 _ (by omega))
  have t := V_upd_top X1 0 n c
  rw [Nat.zero_add] at t
  rw [e, z, t, h1]; simp
end Go.Proofs.YtocfenjampmdlaaGreatDoor.B
namespace Go.Proofs.YtocfenjampmdlaaGreatDoor.B
open Go.RowKit NumB

/-- three words of a number, two of another, and what stands below them. -/
structure Gd (xl yl p u2 u1 u0 v1 v2 x y : Int) : Prop where
  fp : 0 < p
  fxl : 0 ≤ xl
  fxl' : xl < p
  fyl : 0 ≤ yl
  fyl' : yl < p
  fu2 : 0 ≤ u2
  fu1 : 0 ≤ u1
  fu1' : u1 ≤ 18446744073709551615
  fu0 : 0 ≤ u0
  fu0' : u0 ≤ 18446744073709551615
  fv1 : 9223372036854775808 ≤ v1
  fv1' : v1 ≤ 18446744073709551615
  fv2 : 0 ≤ v2
  fv2' : v2 ≤ 18446744073709551615
  fx : x = xl + (u0 + u1 * 18446744073709551616 + u2 * 340282366920938463463374607431768211456) * p
  fy : y = yl + (v2 + v1 * 18446744073709551616) * p
  flt : x < y * 18446744073709551616
/-- a guess and what it leaves. -/
structure Gt (xl yl p u2 u1 u0 v1 v2 x y g l : Int) : Prop where
  fd : Gd xl yl p u2 u1 u0 v1 v2 x y
  fe : g * v1 + l = u2 * 18446744073709551616 + u1
  fg : 0 ≤ g
  fg' : g ≤ 18446744073709551615
  fl : 0 ≤ l
  fh : x < (g + 1) * y

theorem mul_lt_p {a b p : Int} (hp : 0 < p) (h : a < b) : a * p + p ≤ b * p := by
  have : (a + 1) * p ≤ b * p := Int.mul_le_mul_of_nonneg_right (by omega) (by omega)
  rw [Int.add_mul] at this; omega
theorem Gd.top {xl yl p u2 u1 u0 v1 v2 x y : Int} (h : Gd xl yl p u2 u1 u0 v1 v2 x y) : u2 ≤ v1 := by
  apply Int.not_lt.1
  intro hc
  have h1 := h.flt
  rw [h.fx, h.fy] at h1
  have hp := h.fp
  have e : (yl + (v2 + v1 * 18446744073709551616) * p) * 18446744073709551616 ≤ (u0 + u1 * 18446744073709551616 + u2 * 340282366920938463463374607431768211456) * p := by
    have a1 : yl + (v2 + v1 * 18446744073709551616) * p ≤ (v1 + 1) * 18446744073709551616 * p := by
      have := mul_lt_p hp (show v2 + v1 * 18446744073709551616 < (v1 + 1) * 18446744073709551616 by have := h.fv2'; omega)
      have := h.fyl'; omega
    have a2 : (v1 + 1) * 340282366920938463463374607431768211456 * p ≤ (u0 + u1 * 18446744073709551616 + u2 * 340282366920938463463374607431768211456) * p :=
      Int.mul_le_mul_of_nonneg_right (by have := h.fu0; have := h.fu1; omega) (by omega)
    have a3 : (v1 + 1) * 340282366920938463463374607431768211456 * p = (v1 + 1) * 18446744073709551616 * p * 18446744073709551616 := by grind
    omega
  have := h.fxl
  omega
theorem Gd.same {xl yl p u2 u1 u0 v1 v2 x y : Int} (h : Gd xl yl p u2 u1 u0 v1 v2 x y) (he : u2 = v1) : x < (18446744073709551615 + 1) * y ∧ (18446744073709551615 - 1) * y ≤ x := by
  subst he
  have hp := h.fp
  constructor
  · have := h.flt; omega
  · have h1 := h.fx
    have h2 := h.fy
    have a1 : y ≤ (u2 + 1) * 18446744073709551616 * p := by
      have := mul_lt_p hp (show v2 + u2 * 18446744073709551616 < (u2 + 1) * 18446744073709551616 by have := h.fv2'; omega)
      have := h.fyl'; omega
    have a2 : 18446744073709551614 * ((u2 + 1) * 18446744073709551616 * p) ≤ (u0 + u1 * 18446744073709551616 + u2 * 340282366920938463463374607431768211456) * p := by
      rw [← Int.mul_assoc]
      exact Int.mul_le_mul_of_nonneg_right (by have := h.fu0; have := h.fu1; have := h.fv1; omega) (by omega)
    have := h.fxl
    omega
theorem Gt.start {xl yl p u2 u1 u0 v1 v2 x y : Int} (h : Gd xl yl p u2 u1 u0 v1 v2 x y) (hlt : u2 < v1) : Gt xl yl p u2 u1 u0 v1 v2 x y (dq u2 u1 v1) (dr u2 u1 v1) := by
  obtain ⟨b1, b2, b3, b4, b5⟩ := dq_bd h.fu2 ⟨h.fu1, h.fu1'⟩ hlt
  refine ⟨h, b5, b1, b2, b3, ?_⟩
  have hp := h.fp
  have a1 : u2 * 18446744073709551616 + u1 + 1 ≤ (dq u2 u1 v1 + 1) * v1 := by rw [Int.add_mul]; omega
  have a2 : (u2 * 18446744073709551616 + u1 + 1) * 18446744073709551616 * p ≤ (dq u2 u1 v1 + 1) * v1 * 18446744073709551616 * p :=
    Int.mul_le_mul_of_nonneg_right (by omega) (by omega)
  have a3 : (dq u2 u1 v1 + 1) * (v1 * 18446744073709551616 * p) ≤ (dq u2 u1 v1 + 1) * y := by
    refine Int.mul_le_mul_of_nonneg_left ?_ (by omega)
    rw [h.fy]
    have := h.fyl
    have : v1 * 18446744073709551616 * p ≤ (v2 + v1 * 18446744073709551616) * p := Int.mul_le_mul_of_nonneg_right (by have := h.fv2; omega) (by omega)
    omega
  have a4 : x < (u2 * 18446744073709551616 + u1 + 1) * 18446744073709551616 * p := by
    rw [h.fx]
    have := mul_lt_p hp (show u0 + u1 * 18446744073709551616 + u2 * 340282366920938463463374607431768211456 < (u2 * 18446744073709551616 + u1 + 1) * 18446744073709551616 by have := h.fu0'; omega)
    have := h.fxl'
    omega
  have a5 : (dq u2 u1 v1 + 1) * (v1 * 18446744073709551616 * p) = (dq u2 u1 v1 + 1) * v1 * 18446744073709551616 * p := by grind
  omega
theorem Gt.three {xl yl p u2 u1 u0 v1 v2 x y g l : Int} (h : Gt xl yl p u2 u1 u0 v1 v2 x y g l) : g * (v2 + v1 * 18446744073709551616) = g * v2 + (u2 * 18446744073709551616 + u1) * 18446744073709551616 - l * 18446744073709551616 := by
  rw [← h.fe]; grind
theorem Gt.done {xl yl p u2 u1 u0 v1 v2 x y g l : Int} (h : Gt xl yl p u2 u1 u0 v1 v2 x y g l) (ht : g * v2 ≤ l * 18446744073709551616 + u0) : (g - 1) * y ≤ x := by
  have hd := h.fd
  have hp := hd.fp
  have h3 := h.three
  have hy : y ≤ (v2 + v1 * 18446744073709551616 + 1) * p := by rw [hd.fy, Int.add_mul _ 1 p]; have := hd.fyl'; omega
  by_cases hg : g = 0
  · subst hg
    have h0 : 0 ≤ y := by rw [hd.fy]; have := hd.fyl; have := Int.mul_nonneg (show 0 ≤ v2 + v1 * 18446744073709551616 by have := hd.fv2; have := hd.fv1; omega) (Int.le_of_lt hp); omega
    have h1 : 0 ≤ x := by rw [hd.fx]; have := hd.fxl; have := Int.mul_nonneg (show 0 ≤ u0 + u1 * 18446744073709551616 + u2 * 340282366920938463463374607431768211456 by have := hd.fu0; have := hd.fu1; have := hd.fu2; omega) (Int.le_of_lt hp); omega
    omega
  · have a1 : (g - 1) * y ≤ (g - 1) * ((v2 + v1 * 18446744073709551616 + 1) * p) := Int.mul_le_mul_of_nonneg_left hy (by have := h.fg; omega)
    have a2 : (g - 1) * ((v2 + v1 * 18446744073709551616 + 1) * p) = (g * (v2 + v1 * 18446744073709551616) + g - (v2 + v1 * 18446744073709551616) - 1) * p := by grind
    have a3 : (g * (v2 + v1 * 18446744073709551616) + g - (v2 + v1 * 18446744073709551616) - 1) * p ≤ (u0 + u1 * 18446744073709551616 + u2 * 340282366920938463463374607431768211456) * p := by
      refine Int.mul_le_mul_of_nonneg_right ?_ (by omega)
      rw [h3]
      have := h.fg'; have := hd.fv1; have := hd.fv2
      omega
    have := hd.fx; have := hd.fxl
    omega
theorem Gt.less {xl yl p u2 u1 u0 v1 v2 x y g l : Int} (h : Gt xl yl p u2 u1 u0 v1 v2 x y g l) (ht : l * 18446744073709551616 + u0 < g * v2) : 1 ≤ g ∧ Gt xl yl p u2 u1 u0 v1 v2 x y (g - 1) (l + v1) := by
  have hd := h.fd
  have hp := hd.fp
  have h3 := h.three
  have h1 : 1 ≤ g := by
    apply Int.not_lt.1
    intro hc
    have : g = 0 := by have := h.fg; omega
    subst this
    have := h.fl; have := hd.fu0
    omega
  refine ⟨h1, hd, by rw [Int.sub_mul, ← h.fe]; omega, by omega, by have := h.fg'; omega, by have := h.fl; have := hd.fv1; omega, ?_⟩
  rw [show g - 1 + 1 = g by omega]
  have a1 : (u0 + u1 * 18446744073709551616 + u2 * 340282366920938463463374607431768211456 + 1) * p ≤ g * (v2 + v1 * 18446744073709551616) * p :=
    Int.mul_le_mul_of_nonneg_right (by rw [h3]; omega) (by omega)
  have a2 : g * ((v2 + v1 * 18446744073709551616) * p) ≤ g * y := Int.mul_le_mul_of_nonneg_left (by rw [hd.fy]; have := hd.fyl; omega) (by omega)
  have a3 : g * ((v2 + v1 * 18446744073709551616) * p) = g * (v2 + v1 * 18446744073709551616) * p := by grind
  have := hd.fx; have := hd.fxl'
  rw [Int.add_mul _ 1 p] at a1
  omega
theorem test_yes {m l u : Int} (h : hi m < l ∨ hi m = l ∧ lo m ≤ u) (hu : 0 ≤ u) : m ≤ l * 18446744073709551616 + u := by unfold hi lo at h; omega
theorem test_no {m l u : Int} (h1 : ¬ hi m < l) (h2 : ¬ (hi m = l ∧ lo m ≤ u)) (hu : u ≤ 18446744073709551615) : l * 18446744073709551616 + u < m := by unfold hi lo at *; omega
end Go.Proofs.YtocfenjampmdlaaGreatDoor.B
namespace Go.Proofs.YtocfenjampmdlaaGreatDoor.B
open Go.RowKit NumB

theorem div64_quiet (h l y : Int) (w : World) (n : Nat) (hh : 0 ≤ h) (hl : 0 ≤ l) (hl1 : l ≤ 18446744073709551615) (hy : h < y) (hy1 : y ≤ 18446744073709551615) :
    Calls Tryz.prog 49 #[.int .u64 h, .int .u64 l, .int .u64 y] (w.drewN n) fun e w' => e = .returned (.tuple #[.int .u64 (dq h l y), .int .u64 (dr h l y)]) ∧ ∃ m, w' = w.drewN m := by
  refine (div64_any h l y (w.drewN n) hh hl hl1 hy hy1).mono ?_
  rintro e w' ⟨rfl, k, rfl⟩
  exact ⟨rfl, n + k, by simp⟩

end Go.Proofs.YtocfenjampmdlaaGreatDoor.B
namespace Go.Proofs.YtocfenjampmdlaaGreatDoor.B
open Go.RowKit NumB

theorem gd_of {X Y : Nat → Int} {o q m : Nat} (hX : Wd X o (m + 3)) (hY : Wd Y q (m + 2)) (ht : 9223372036854775808 ≤ Y (q + (m + 1))) (hlt : V X o (m + 3) < V Y q (m + 2) * 18446744073709551616) :
    Gd (V X o m) (V Y q m) (P m) (X (o + (m + 2))) (X (o + (m + 1))) (X (o + m)) (Y (q + (m + 1))) (Y (q + m)) (V X o (m + 3)) (V Y q (m + 2)) := by
  have x1 := V_bd m (hX.mono (by omega))
  have y1 := V_bd m (hY.mono (by omega))
  have a2 := hX (m + 2) (by omega); have a1 := hX (m + 1) (by omega); have a0 := hX m (by omega)
  have b1 := hY (m + 1) (by omega); have b0 := hY m (by omega)
  refine ⟨P_pos m, x1.1, x1.2, y1.1, y1.2, a2.1, a1.1, a1.2, a0.1, a0.2, ht, b1.2, b0.1, b0.2, ?_, ?_, hlt⟩
  · simp only [V, P]; grind
  · simp only [V, P]; grind

/-- the digit was not too great. -/
theorem dig_ok {x y g t v u p : Int} (e : t - v * p = x - u * p - y * g) (hx : 0 ≤ t) (ht : t < p) (hy : y ≤ p) (hvu : v ≤ u) (h1 : x < (g + 1) * y) : v = u ∧ t = x - g * y ∧ x - g * y < y := by
  have e1 : (g + 1) * y = y * g + y := by grind
  have e2 : g * y = y * g := by grind
  have hp : 0 < p := by omega
  by_cases h : v = u
  · subst h; refine ⟨rfl, by omega, by omega⟩
  · have : (v + 1) * p ≤ u * p := Int.mul_le_mul_of_nonneg_right (by omega) (by omega)
    rw [Int.add_mul] at this
    omega
/-- the digit was one too great. -/
theorem dig_over {x y g t v u p t2 c : Int} (e : t - v * p = x - u * p - y * g) (e2 : t2 + c * p = t + y) (h2 : 0 ≤ t2) (h2' : t2 < p) (ht : t < p) (_hy0 : 0 < y) (hy : y ≤ p) (hvu : u < v) (h1 : (g - 1) * y ≤ x) : t2 = x - (g - 1) * y ∧ x - (g - 1) * y < y := by
  have e3 : (g - 1) * y = y * g - y := by grind
  have hp : 0 < p := by omega
  have e4 : (c - (v - u)) * p = c * p - v * p + u * p := by grind
  have e5 : (v - u) * p = v * p - u * p := by grind
  have a1 : x - (g - 1) * y = t2 + (c - (v - u)) * p := by omega
  have hx : x - y * g = t - (v - u) * p := by omega
  have a2 : (1 : Int) * p ≤ (v - u) * p := Int.mul_le_mul_of_nonneg_right (by omega) (by omega)
  have lt : x - (g - 1) * y < y := by omega
  have z : c - (v - u) = 0 := by
    have nn : 0 ≤ x - (g - 1) * y := by omega
    by_cases hz : 0 ≤ c - (v - u)
    · by_cases hz2 : 1 ≤ c - (v - u)
      · have : 1 * p ≤ (c - (v - u)) * p := Int.mul_le_mul_of_nonneg_right hz2 (by omega)
        omega
      · omega
    · have : (c - (v - u)) * p ≤ (-1) * p := Int.mul_le_mul_of_nonneg_right (by omega) (by omega)
      omega
  rw [z] at a1
  refine ⟨by omega, lt⟩

end Go.Proofs.YtocfenjampmdlaaGreatDoor.B
namespace Go.Proofs.YtocfenjampmdlaaGreatDoor.B
open Go.RowKit NumB

/-- how far a highest word is moved up, so that its highest bit is set. -/
theorem lead (t : Int) (h0 : 0 < t) (h1 : t ≤ 18446744073709551615) : ∃ s : Nat, s ≤ 63 ∧ (64 - (Lib.bitLen t.toNat : Int)) = s ∧ 9223372036854775808 ≤ t * 2 ^ s ∧ (t + 1) * 2 ^ s ≤ 18446744073709551616 := by
  obtain ⟨y, rfl⟩ := Int.eq_ofNat_of_zero_le (show 0 ≤ t by omega)
  obtain ⟨k1, k2, k3⟩ := Lib.bitLenAux_bounds 64 y (by omega) (by omega)
  have k4 : Lib.bitLen y ≤ 64 := Lib.bitLen_le y 64 (Nat.le_refl _) (by omega)
  have k1 : 1 ≤ Lib.bitLen y := k1
  have k2 : 2 ^ (Lib.bitLen y - 1) ≤ y := k2
  have k3 : y < 2 ^ Lib.bitLen y := k3
  refine ⟨64 - Lib.bitLen y, by omega, by rw [Int.toNat_natCast]; omega, ?_, ?_⟩
  · have : 2 ^ (Lib.bitLen y - 1) * 2 ^ (64 - Lib.bitLen y) ≤ y * 2 ^ (64 - Lib.bitLen y) := Nat.mul_le_mul_right _ k2
    rw [← Nat.pow_add, show Lib.bitLen y - 1 + (64 - Lib.bitLen y) = 63 by omega] at this
    have e : ((y * 2 ^ (64 - Lib.bitLen y) : Nat) : Int) = (y : Int) * 2 ^ (64 - Lib.bitLen y) := by simp
    rw [← e]; omega
  · have : (y + 1) * 2 ^ (64 - Lib.bitLen y) ≤ 2 ^ Lib.bitLen y * 2 ^ (64 - Lib.bitLen y) := Nat.mul_le_mul_right _ k3
    rw [← Nat.pow_add, show Lib.bitLen y + (64 - Lib.bitLen y) = 64 by omega] at this
    have e : (((y + 1) * 2 ^ (64 - Lib.bitLen y) : Nat) : Int) = ((y : Int) + 1) * 2 ^ (64 - Lib.bitLen y) := by simp
    rw [← e]; omega
/-- the divisor, moved up. -/
theorem normed {Y X : Nat → Int} {p m : Nat} {K : Int} (hK : 0 < K) (hY : Wd Y p (m + 2)) (h1 : 9223372036854775808 ≤ Y (p + (m + 1)) * K) (h2 : (Y (p + (m + 1)) + 1) * K ≤ 18446744073709551616) (hX : Wd X 0 (m + 3)) (hV : V X 0 (m + 3) = V Y p (m + 2) * K) :
    X (m + 2) = 0 ∧ 9223372036854775808 ≤ X (0 + (m + 1)) ∧ V X 0 (m + 2) = V Y p (m + 2) * K ∧ tr X 0 (m + 3) = m + 2 := by
  have hb := V_bd (m + 1) (hY.mono (by omega))
  have hp := P_pos (m + 1)
  have eY : V Y p (m + 2) = V Y p (m + 1) + Y (p + (m + 1)) * P (m + 1) := rfl
  have up : V Y p (m + 2) * K < P (m + 2) := by
    have a1 : V Y p (m + 2) + 1 ≤ (Y (p + (m + 1)) + 1) * P (m + 1) := by rw [Int.add_mul]; omega
    have a2 : (V Y p (m + 2) + 1) * K ≤ (Y (p + (m + 1)) + 1) * P (m + 1) * K := Int.mul_le_mul_of_nonneg_right a1 (by omega)
    have a3 : (Y (p + (m + 1)) + 1) * K * P (m + 1) ≤ 18446744073709551616 * P (m + 1) := Int.mul_le_mul_of_nonneg_right h2 (by omega)
    have a4 : (Y (p + (m + 1)) + 1) * P (m + 1) * K = (Y (p + (m + 1)) + 1) * K * P (m + 1) := by grind
    rw [Int.add_mul] at a2
    have e : P (m + 2) = P (m + 1) * 18446744073709551616 := rfl
    omega
  have low : 9223372036854775808 * P (m + 1) ≤ V Y p (m + 2) * K := by
    have a1 : Y (p + (m + 1)) * P (m + 1) ≤ V Y p (m + 2) := by omega
    have a2 : Y (p + (m + 1)) * P (m + 1) * K ≤ V Y p (m + 2) * K := Int.mul_le_mul_of_nonneg_right a1 (by omega)
    have a3 : 9223372036854775808 * P (m + 1) ≤ Y (p + (m + 1)) * K * P (m + 1) := Int.mul_le_mul_of_nonneg_right h1 (by omega)
    have a4 : Y (p + (m + 1)) * P (m + 1) * K = Y (p + (m + 1)) * K * P (m + 1) := by grind
    omega
  have eX : V X 0 (m + 3) = V X 0 (m + 2) + X (0 + (m + 2)) * P (m + 2) := rfl
  have eX2 : V X 0 (m + 2) = V X 0 (m + 1) + X (0 + (m + 1)) * P (m + 1) := rfl
  have b2 := V_bd (m + 2) (hX.mono (by omega))
  have b1 := V_bd (m + 1) (hX.mono (by omega))
  have t2 := hX (m + 2) (by omega)
  have z : X (0 + (m + 2)) = 0 := by
    apply Int.le_antisymm _ t2.1
    apply Int.not_lt.1
    intro hc
    have : 1 * P (m + 2) ≤ X (0 + (m + 2)) * P (m + 2) := Int.mul_le_mul_of_nonneg_right (by omega) (Int.le_of_lt (P_pos _))
    omega
  have top : 9223372036854775808 ≤ X (0 + (m + 1)) := by
    apply Int.not_lt.1
    intro hc
    have : (X (0 + (m + 1)) + 1) * P (m + 1) ≤ 9223372036854775808 * P (m + 1) := Int.mul_le_mul_of_nonneg_right (by omega) (by omega)
    rw [Int.add_mul] at this
    rw [z] at eX
    omega
  refine ⟨by simpa using z, top, by rw [z] at eX; omega, ?_⟩
  simp only [tr]
  rw [if_pos z, if_neg (by omega)]
/-- words 0 at the end. -/
theorem V_cut {Z : Nat → Int} {k r N : Nat} (h : k + r ≤ N) (hz : ∀ j, k + r ≤ j → j < N → Z j = 0) : V Z 0 N = V Z 0 k + P k * V Z k r := by
  obtain ⟨q, rfl⟩ := Nat.le.dest h
  rw [V_split, V_split Z 0 k r, Nat.zero_add, Nat.zero_add, V_zero q (fun j hj => hz _ (by omega) (by omega))]
  simp

/-- what the loop of 'divLong' keeps. -/
def LongRel (w : World) (g1 g2 g3 n m l : Nat) (X1 : Nat → Int) (A d : Int) (k : Nat) (Z Q : Nat → Int) (wr : World) : Prop :=
  Row wr g1 (m + 3) X1 ∧ Row wr g2 (n + 1) Z ∧ Row wr g3 l Q ∧ Below w.heap.size w wr ∧ A = V Z 0 (n + 1) + d * (P k * V Q k (l - k)) ∧ V Z k (m + 2) < d ∧ (∀ j, k + (m + 2) ≤ j → j < n + 1 → Z j = 0) ∧ Wd Z 0 (n + 1) ∧ Wd Q 0 l
theorem LongRel.step {w : World} {g1 g2 g3 n m l : Nat} {X1 : Nat → Int} {A d : Int} {k : Nat} {Z Q : Nat → Int} {wr w2 : World} (h : LongRel w g1 g2 g3 n m l X1 A d (k + 1) Z Q wr) (hl : l = n + 1 - (m + 2)) (hk : k + 1 ≤ l)
    (h12 : g1 ≠ g2) (h13 : g1 ≠ g3) (h23 : g2 ≠ g3) (hB2 : w.heap.size ≤ g2) (hB3 : w.heap.size ≤ g3) {D : Int} {Z' : Nat → Int} (R2 : Row w2 g2 (n + 1) Z') (O2 : Only g2 wr w2) (e : V Z k (m + 3) = D * d + V Z' k (m + 2)) (hr : V Z' k (m + 2) < d)
    (hz : Z' (k + (m + 2)) = 0) (hW : Wd Z' k (m + 3)) (ho : ∀ j, j < k ∨ k + (m + 3) ≤ j → Z' j = Z j) (d0 : 0 ≤ D) (d1 : D ≤ 18446744073709551615) :
    LongRel w g1 g2 g3 n m l X1 A d k Z' (upd Q k D) (w2.setCell ⟨g3, k, none⟩ (.int .u64 D)) := by
  obtain ⟨r1, r2, r3, b, eA, lt, zz, wz, wq⟩ := h
  have OO : Only g3 w2 (w2.setCell ⟨g3, k, none⟩ (.int .u64 D)) := (Only.refl _ _).set k _
  have zz' : ∀ j, k + (m + 2) ≤ j → j < n + 1 → Z' j = 0 := fun j h1 h2 => by
    by_cases ej : j = k + (m + 2)
    · subst ej; exact hz
    · rw [ho j (by omega)]; exact zz j (by omega) h2
  refine ⟨OO.row h13 (O2.row h12 r1), OO.row h23 R2, (O2.row (Ne.symm h23) r3).set _ _, (b.trans (O2.below hB2)).trans (OO.below hB3), ?_, hr, zz', ?_, Wd_upd wq d0 d1⟩
  · have c1 := V_cut (Z := Z) (k := k) (r := m + 3) (N := n + 1) (by omega) (fun j h1 h2 => zz j (by omega) h2)
    have c2 := V_cut (Z := Z') (k := k) (r := m + 2) (N := n + 1) (by omega) zz'
    have c3 : V Z' 0 k = V Z 0 k := V_congr k (fun j hj => by rw [Nat.zero_add]; exact ho j (by omega))
    obtain ⟨t, ht⟩ : ∃ t, l - k = t + 1 := ⟨l - k - 1, by omega⟩
    rw [show l - (k + 1) = t by omega] at eA
    have hq : V (upd Q k D) k (t + 1) = D + 18446744073709551616 * V Q (k + 1) t := by rw [V_low, upd_same, V_upd_out t (by omega)]
    rw [ht, hq, eA, c1, c2, c3, e]
    simp only [P]
    generalize V Q (k + 1) t = q
    generalize P k = p
    generalize V Z' k (m + 2) = v
    generalize V Z 0 k = u
    grind
  · intro j hj
    rw [Nat.zero_add]
    by_cases hin : k ≤ j ∧ j < k + (m + 3)
    · obtain ⟨i, rfl⟩ := Nat.le.dest hin.1
      exact hW i (by omega)
    · rw [ho j (by omega)]; have := wz j hj; rwa [Nat.zero_add] at this

theorem fin {a b q R K : Int} (hK : 0 < K) (e : a * K = R + b * K * q) (h0 : 0 ≤ R) (hlt : R < b * K) : q * b + R / K = a ∧ 0 ≤ R / K ∧ R / K < b := by
  have e1 : R = (a - b * q) * K := by rw [Int.sub_mul, e]; grind
  have e2 : R / K = a - b * q := by rw [e1]; exact Int.mul_ediv_cancel _ (by omega)
  have e3 : q * b = b * q := by grind
  refine ⟨by omega, Int.ediv_nonneg h0 (by omega), ?_⟩
  exact Int.ediv_lt_of_lt_mul hK hlt
theorem start_lt {X2 X1 : Nat → Int} {n m l s : Nat} {t : Int} (hW : Wd X2 0 (n + 1)) (hL : X2 (0 + n) < 2 ^ s) (hl : l + (m + 1) = n) (h2 : (t + 1) * 2 ^ s ≤ 18446744073709551616) (ht : 1 ≤ t) (htop : 9223372036854775808 ≤ X1 (0 + (m + 1))) (hW1 : Wd X1 0 (m + 3)) : V X2 l (m + 2) < V X1 0 (m + 2) := by
  have hw : Wd X2 l (m + 1) := fun j hj => by have := hW (l + j) (by omega); rwa [Nat.zero_add] at this
  have b1 := V_bd (m + 1) hw
  have b2 := V_bd (m + 1) (hW1.mono (show m + 1 ≤ m + 3 by omega))
  have e1 : V X2 l (m + 2) = V X2 l (m + 1) + X2 (l + (m + 1)) * P (m + 1) := rfl
  have e2 : V X1 0 (m + 2) = V X1 0 (m + 1) + X1 (0 + (m + 1)) * P (m + 1) := rfl
  have hp := P_pos (m + 1)
  have hK : (0 : Int) < 2 ^ s := Int.pow_pos (by decide)
  have h3 : 2 * (2 : Int) ^ s ≤ (t + 1) * 2 ^ s := Int.mul_le_mul_of_nonneg_right (by omega) (by omega)
  rw [Nat.zero_add, ← hl] at hL
  have h4 : (X2 (l + (m + 1)) + 1) * P (m + 1) ≤ 9223372036854775808 * P (m + 1) := Int.mul_le_mul_of_nonneg_right (by omega) (by omega)
  have h5 : 9223372036854775808 * P (m + 1) ≤ X1 (0 + (m + 1)) * P (m + 1) := Int.mul_le_mul_of_nonneg_right htop (by omega)
  rw [Int.add_mul] at h4
  omega

end Go.Proofs.YtocfenjampmdlaaGreatDoor.B
namespace Go.Proofs.YtocfenjampmdlaaGreatDoor.B
open Go.RowKit NumB

theorem head_or (t1 t0 : Int) (s : Nat) (hs : s ≤ 63) (h1 : 0 ≤ t1) (h2 : (t1 + 1) * 2 ^ s ≤ 18446744073709551616) (h3 : 0 ≤ t0) (h4 : t0 ≤ 18446744073709551615) :
    bits .or .u64 (IntKind.u64.wrap (t1 * 2 ^ s)) (t0 / 2 ^ (64 - s)) = t1 * 2 ^ s + t0 / 2 ^ (64 - s) := by
  obtain ⟨t1, rfl⟩ := Int.eq_ofNat_of_zero_le h1
  obtain ⟨t0, rfl⟩ := Int.eq_ofNat_of_zero_le h3
  have hMK : 2 ^ (64 - s) * 2 ^ s = 18446744073709551616 := by rw [← Nat.pow_add, show 64 - s + s = 64 by omega]
  have pK : (2 : Int) ^ s = ((2 ^ s : Nat) : Int) := by simp
  have pM : (2 : Int) ^ (64 - s) = ((2 ^ (64 - s) : Nat) : Int) := by simp
  have hKpos : 0 < 2 ^ s := Nat.two_pow_pos s
  have hMpos : 0 < 2 ^ (64 - s) := Nat.two_pow_pos _
  have hb : t0 / 2 ^ (64 - s) < 2 ^ s := by rw [Nat.div_lt_iff_lt_mul hMpos, Nat.mul_comm, hMK]; omega
  have hor := or_add t1 (t0 / 2 ^ (64 - s)) s hb
  rw [pK] at h2
  rw [pK, pM]
  generalize 2 ^ s = K at *
  generalize 2 ^ (64 - s) = M at *
  have h5 : t1 * K + K ≤ 18446744073709551616 := by
    have e : ((t1 : Int) + 1) * (K : Int) = ((t1 * K + K : Nat) : Int) := by rw [Int.natCast_add, Int.natCast_mul]; grind
    omega
  rw [← Int.natCast_mul, ← Int.natCast_ediv, IntKind.wrap_u64, show ((t1 * K : Nat) : Int) % 18446744073709551616 = ((t1 * K : Nat) : Int) by omega, bits_or_u64_nat _ _ (by omega) (by omega), hor]
  simp
theorem wy_bd {y : Nat → Int} {p m : Nat} (h : Wd y p m) (j : Nat) : 0 ≤ wy y p m j ∧ wy y p m j ≤ 18446744073709551615 := by
  unfold wy; split
  · exact h j (by assumption)
  · decide
end Go.Proofs.YtocfenjampmdlaaGreatDoor.B
namespace Go.Proofs.YtocfenjampmdlaaGreatDoor.B
open Go.RowKit NumB
theorem below_put {B g : Nat} {w w' : World} (h : Below B w w') (hg : B ≤ g) (i : Nat) (v : Value) : Below B w (w'.setCell ⟨g, i, none⟩ v) :=
  ⟨h.os, h.tape, h.output, by simpa [World.setCell] using h.size, fun k hk => (heap_setCell_other w' ⟨g, i, none⟩ k v (by show k ≠ g; omega)).trans (h.block k hk)⟩
/-- what 'leapOf' answers: no steps, or rows that are right. -/
def Lok (A B : Int) (e : Ending) : Prop := ∃ a b c d t, e = .returned (.agg #[.int .u64 a, .int .u64 b, .int .u64 c, .int .u64 d, .bool t]) ∧ (b = 0 ∨ Lg A B a b c d t) ∧ (0 ≤ a ∧ a ≤ 18446744073709551615) ∧ (0 ≤ b ∧ b ≤ 18446744073709551615) ∧ (0 ≤ c ∧ c ≤ 18446744073709551615) ∧ (0 ≤ d ∧ d ≤ 18446744073709551615)
end Go.Proofs.YtocfenjampmdlaaGreatDoor.B
namespace Go.Proofs.YtocfenjampmdlaaGreatDoor.B
open Go.RowKit NumB

/-- what a quotient towards 0 is. -/
def QuoIs (A B Q R : Int) : Prop := Q * B + R = A ∧ R.natAbs < B.natAbs ∧ (R = 0 ∨ (R < 0 ↔ A < 0))
/-- what a quotient downwards is. -/
def DivIs (A B Q R : Int) : Prop := Q * B + R = A ∧ R.natAbs < B.natAbs ∧ (R = 0 ∨ (R < 0 ↔ B < 0))
theorem quo_is (p p' : Bool) (a b q r : Int) (ha : 0 ≤ a) (hb : 0 < b) (h : q * b + r = a) (h0 : 0 ≤ r) (h1 : r < b) (hq : 0 ≤ q) (hp : p = true → a ≠ 0) : QuoIs (sg p a) (sg p' b) (sg (p != p') q) (sg p r) := by
  have hqb : 0 ≤ q * b := Int.mul_nonneg hq (by omega)
  refine ⟨?_, ?_, ?_⟩
  · rw [sg_mul]
    have : ((p != p') != p') = p := by cases p <;> cases p' <;> rfl
    rw [this]
    cases p <;> simp [sg] <;> omega
  · cases p <;> cases p' <;> simp [sg] <;> omega
  · by_cases hr : r = 0
    · left; rw [hr]; cases p <;> rfl
    · right
      cases p
      · simp [sg]; omega
      · have := hp rfl; simp [sg]; omega
theorem div_same {A B Q R : Int} (h : QuoIs A B Q R) (hs : R = 0 ∨ (R < 0 ↔ B < 0)) : DivIs A B Q R := ⟨h.1, h.2.1, hs⟩
theorem div_turn {A B Q R : Int} (h : QuoIs A B Q R) (hr : R ≠ 0) (hs : ¬ (R < 0 ↔ B < 0)) : DivIs A B (Q - 1) (R + B) := by
  obtain ⟨h1, h2, _⟩ := h
  refine ⟨?_, ?_, ?_⟩
  · rw [Int.sub_mul]; omega
  · omega
  · right; omega
theorem undrew {B : Nat} {a w : World} (h : Below B a.drew w) : Below B a w := ⟨h.os, h.tape, h.output, h.size, h.block⟩
theorem Nz.pos {w : World} {v : Value} {k : Nat} {a : Int} (h : Nz w v k a) : 0 ≤ a := h.nt.nonneg


theorem entry22 (w : World) (neg : Bool) (ao : Option Addr) (k cap : Nat) (neg' : Bool) (ao' : Option Addr) (k' cap' : Nat) :
    Var ((((w.alloc (.cells #[.bool neg, .slice ao k cap] 39)).alloc (.cells #[.bool neg', .slice ao' k' cap'] 39)).alloc (.cells #[.bool false, .slice none 0 0] 39)).alloc (.cells #[.bool false, .slice none 0 0] 39)) w.heap.size neg ao k cap ∧ Var ((((w.alloc (.cells #[.bool neg, .slice ao k cap] 39)).alloc (.cells #[.bool neg', .slice ao' k' cap'] 39)).alloc (.cells #[.bool false, .slice none 0 0] 39)).alloc (.cells #[.bool false, .slice none 0 0] 39)) (w.heap.size + 1) neg' ao' k' cap' ∧ Var ((((w.alloc (.cells #[.bool neg, .slice ao k cap] 39)).alloc (.cells #[.bool neg', .slice ao' k' cap'] 39)).alloc (.cells #[.bool false, .slice none 0 0] 39)).alloc (.cells #[.bool false, .slice none 0 0] 39)) (w.heap.size + 2) false none 0 0 ∧ Var ((((w.alloc (.cells #[.bool neg, .slice ao k cap] 39)).alloc (.cells #[.bool neg', .slice ao' k' cap'] 39)).alloc (.cells #[.bool false, .slice none 0 0] 39)).alloc (.cells #[.bool false, .slice none 0 0] 39)) (w.heap.size + 3) false none 0 0 ∧ Below w.heap.size w ((((w.alloc (.cells #[.bool neg, .slice ao k cap] 39)).alloc (.cells #[.bool neg', .slice ao' k' cap'] 39)).alloc (.cells #[.bool false, .slice none 0 0] 39)).alloc (.cells #[.bool false, .slice none 0 0] 39)) := by
  obtain ⟨h1, h2, h3, h4⟩ := entry2 w neg ao k cap neg' ao' k' cap'
  exact ⟨h1.alloc _, h2.alloc _, h3.alloc _, by simpa using var_mk (((w.alloc (.cells #[.bool neg, .slice ao k cap] 39)).alloc (.cells #[.bool neg', .slice ao' k' cap'] 39)).alloc (.cells #[.bool false, .slice none 0 0] 39)) false none 0 0, bt h4 (below_new _ _)⟩

end Go.Proofs.YtocfenjampmdlaaGreatDoor.B
namespace Go.Proofs.YtocfenjampmdlaaGreatDoor.B
open Go.RowKit NumB

theorem sgn_ne {R : Int} (h : R ≠ 0) : (sgn R != 0) = true := by
  unfold sgn
  by_cases h1 : R < 0
  · rw [if_pos h1]; rfl
  · rw [if_neg h1, if_neg h]; rfl
theorem It.sign {w : World} {p : Bool} {ao : Option Addr} {k cap n : Nat} {A : Int} (h : It w (.agg #[.bool p, .slice ao k cap]) n A) : p = decide (A < 0) := by
  obtain ⟨neg, ao', k', cap', a, e, h1, h2, rfl, h4, h5⟩ := h
  simp only [Value.agg.injEq, Array.mk.injEq, List.cons.injEq, Value.bool.injEq] at e
  obtain ⟨rfl, -⟩ := e
  cases p
  · simp [sg]; omega
  · have := h4 rfl; simp [sg]; omega
theorem Var.drew {w : World} {g : Nat} {p : Bool} {ao : Option Addr} {n c : Nat} (h : Var w g p ao n c) : Var w.drew g p ao n c := h
theorem pair (w : World) (p : Bool) (ao : Option Addr) (n c : Nat) (q : Bool) (bo : Option Addr) (m d : Nat) :
    Var ((w.alloc (.cells #[.bool p, .slice ao n c] 39)).alloc (.cells #[.bool q, .slice bo m d] 39)) w.heap.size p ao n c ∧
    Var ((w.alloc (.cells #[.bool p, .slice ao n c] 39)).alloc (.cells #[.bool q, .slice bo m d] 39)) (w.heap.size + 1) q bo m d ∧
    Below w.heap.size w ((w.alloc (.cells #[.bool p, .slice ao n c] 39)).alloc (.cells #[.bool q, .slice bo m d] 39)) :=
  ⟨(var_mk w p ao n c).alloc _, by simpa using var_mk (w.alloc (.cells #[.bool p, .slice ao n c] 39)) q bo m d, bt (below_new w _) (below_new _ _)⟩
/-- what the two variables hold ahead of the return. -/
def DM (w : World) (gq gl n m : Nat) (Q R : Int) (w' : World) : Prop :=
  ∃ p1 ao1 k1 c1 p2 ao2 k2 c2, Var w' gq p1 ao1 k1 c1 ∧ Var w' gl p2 ao2 k2 c2 ∧ Var w' (w.heap.size + 2) false none 0 0 ∧ Var w' (w.heap.size + 3) false none 0 0 ∧
    It w' (.agg #[.bool p1, .slice ao1 k1 c1]) (n + 2) Q ∧ It w' (.agg #[.bool p2, .slice ao2 k2 c2]) (max n m + 1) R ∧ Below w.heap.size w w'
end Go.Proofs.YtocfenjampmdlaaGreatDoor.B
namespace Go.Proofs.YtocfenjampmdlaaGreatDoor.B
open Go.RowKit NumB

end Go.Proofs.YtocfenjampmdlaaGreatDoor.B
