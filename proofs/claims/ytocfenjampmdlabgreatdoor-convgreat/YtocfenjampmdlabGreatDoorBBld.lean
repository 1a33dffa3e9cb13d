/- What 'Norm', 'divBy' and 'DivWord' do: a copy without words 0 at the end; a number divided by a word. -/
/- What 'DivWord' and 'DivMod' answer: how often a number goes into another, and what is left. -/
/- What 'takeFrom' and 'Sub' do: the difference of two numbers. -/
/- What 'halves' and 'apart' answer: the two parts of a number; how far two numbers are from each other. -/
/- What 'byHalves' and 'Karatsuba' answer: the product, by halves. -/
/- 'byHalves' and 'Karatsuba': the product, whatever the cut is. -/
/- Whole numbers: what an Int is in memory, and what the calls of package bigint answer that make, add, take away and multiply them. -/
/- What the builder's 'copyCheck' and 'WriteString' do in this program. -/
import Derived.Test.YtocfenjampmdlabGreatDoorBCmp
import Derived.Deep.QuietTactic
import Derived.BigQuiet
import Derived.Deep.RegionWith
namespace Go.Proofs.YtocfenjampmdlabGreatDoor.B
open Go.RowKit NumB

theorem Only.drewN {g : Nat} {a w : World} (h : Only g a w) (n : Nat) : Only g a (w.drewN n) := h.trans ⟨rfl, rfl, rfl, rfl, fun _ _ => rfl⟩
theorem Row.drewN {w : World} {g n : Nat} {x : Nat → Int} (h : Row w g n x) (k : Nat) : Row (w.drewN k) g n x := h

set_option maxHeartbeats 800000 in
set_option maxRecDepth 100000 in
/-- 'Norm': a new row that holds the number, and nothing else. -/
theorem norm_any (v : Value) (n : Nat) (a : Int) (w : World) (h : Nt w v n a) (hn : n ≤ 100000000) :
    Calls Tryz.prog 26 #[v] w fun e w' => ∃ k X, e = .returned (.slice (some ⟨w.heap.size, 0, none⟩) k k) ∧ Row w' w.heap.size k X ∧ Wd X 0 k ∧ Nm X 0 k ∧ V X 0 k = a ∧ k ≤ n ∧ Below w.heap.size w w' ∧ w'.heap.size = w.heap.size + 1 := by
  have H := hid (trimmed_nt v n a w h)
  clear h
  go_enter Tryz.func26, Tryz.ntmps26
  go_wp2_with fail
  refine H.out.mono ?_
  rintro e w' ⟨⟨v1, k, rfl, s1, l1⟩, rfl⟩
  clear H
  obtain ⟨x, o, s1, nm, e1⟩ := s1
  have S1 := hid s1
  have E1 := hid e1
  have NM := hid nm
  obtain ⟨ao, c1, rfl, -⟩ := s1
  clear e1 nm
  go_wp2_with (first
      | (at_make; refine wp_make _ rfl _ _ rfl _ _ k rfl rfl rfl rfl (by omega) ?_; intro w1 R1 B1 Z1; have HZ := hid Z1; clear Z1)
      | (refine wp_copy w1 rfl (.tmp 9) (.tmp 10) rfl w'.heap.size 0 k k k (fun _ => 0) rfl _ rfl k x o (S1.out.apart B1 (Nat.le_refl _)) R1 (by omega) (by omega) ?_; intro w2 R2 O2))
  go_ret
  refine ⟨k, _, rfl, R2, over_wd k S1.out.wd, ?_, by rw [over_V k (Nat.le_refl _), E1.out], l1, B1.trans (O2.below (Nat.le_refl _)), by rw [O2.size, HZ.out]⟩
  rcases NM.out with h | h
  · exact Or.inl h
  · by_cases hk : k = 0
    · exact Or.inl hk
    · exact Or.inr (by rw [over_in (by omega)]; exact h)

/-- what the loop of 'divBy' keeps: the upper m words are divided. -/
def DivRel (g N oz n : Nat) (X : Nat → Int) (f : Int) (w : World) (k : Nat) (r : Int) (X' : Nat → Int) (wr : World) : Prop :=
  Row wr g N X' ∧ Only g w wr ∧ V X' (oz + k) (n - k) * f + r = V X (oz + k) (n - k) ∧ Wd X' oz n ∧ ∀ j, j < oz + k ∨ oz + n ≤ j → X' j = X j

theorem dq_bd {h l y : Int} (hh : 0 ≤ h) (hl : 0 ≤ l ∧ l ≤ 18446744073709551615) (hy : h < y) : 0 ≤ dq h l y ∧ dq h l y ≤ 18446744073709551615 ∧ 0 ≤ dr h l y ∧ dr h l y < y ∧ dq h l y * y + dr h l y = h * 18446744073709551616 + l := by
  unfold dq dr
  have e : (h * 18446744073709551616 + l) / y * y + (h * 18446744073709551616 + l) % y = h * 18446744073709551616 + l := by
    generalize h * 18446744073709551616 + l = m
    have := Int.emod_add_mul_ediv m y; rw [Int.mul_comm] at this; omega
  have h1 := Int.emod_nonneg (h * 18446744073709551616 + l) (show y ≠ 0 by omega)
  have h2 := Int.emod_lt_of_pos (h * 18446744073709551616 + l) (show 0 < y by omega)
  refine ⟨Int.ediv_nonneg (by omega) (by omega), ?_, h1, h2, e⟩
  apply Int.not_lt.1
  intro hc
  have : 18446744073709551616 * y ≤ (h * 18446744073709551616 + l) / y * y := Int.mul_le_mul_of_nonneg_right (by omega) (by omega)
  omega

theorem DivRel.step {g N oz n : Nat} {X : Nat → Int} {f : Int} {w : World} {k : Nat} {r : Int} {X' : Nat → Int} {wr : World} (h : DivRel g N oz n X f w (k + 1) r X' wr) (hk : k + 1 ≤ n)
    (hr : 0 ≤ r) (hf : r < f) (i : Nat) :
    DivRel g N oz n X f w k (dr r (X' (oz + k)) f) (upd X' (oz + k) (dq r (X' (oz + k)) f)) ((wr.drewN i).setCell ⟨g, oz + k, none⟩ (.int .u64 (dq r (X' (oz + k)) f))) := by
  obtain ⟨h1, h2, h3, h4, h5⟩ := h
  obtain ⟨b1, b2, b3, b4, b5⟩ := dq_bd hr (h4 k (by omega)) hf
  refine ⟨(h1.drewN i).set _ _, (h2.drewN i).set _ _, ?_, Wd_upd h4 b1 b2, fun j hj => by rw [upd_other _ _ _ _ (by omega)]; exact h5 j (by omega)⟩
  obtain ⟨m, hm⟩ : ∃ m, n - k = m + 1 := ⟨n - k - 1, by omega⟩
  rw [show n - (k + 1) = m by omega] at h3
  rw [hm, V_low, V_low, upd_same, V_upd_out m (by omega)]
  have e1 := h5 (oz + k) (by omega)
  rw [e1] at b5 ⊢
  rw [show oz + k + 1 = oz + (k + 1) by omega]
  generalize V X' (oz + (k + 1)) m = p at *
  generalize V X (oz + (k + 1)) m = q at *
  generalize dq r (X (oz + k)) f = u at *
  generalize dr r (X (oz + k)) f = t at *
  have : (u + 18446744073709551616 * p) * f + t = (u * f + t) + 18446744073709551616 * (p * f) := by grind
  rw [this, b5, ← h3]
  omega

set_option maxHeartbeats 800000 in
set_option maxRecDepth 100000 in
/-- 'divBy': words divided by a word, in their place. -/
theorem divBy_any (g oz n cz N : Nat) (X : Nat → Int) (f : Int) (w : World)
    (hz : Row w g N X) (hN : oz + n ≤ N) (hcz : n ≤ cz) (hbz : cz ≤ 9223372036854775807) (hX : Wd X oz n) (hf0 : 0 < f) (hf1 : f ≤ 18446744073709551615) :
    Calls Tryz.prog 29 #[.slice (some ⟨g, oz, none⟩) n cz, .int .u64 f] w fun e w' => ∃ r X', e = .returned (.int .u64 r) ∧
      Row w' g N X' ∧ Only g w w' ∧ V X' oz n * f + r = V X oz n ∧ Wd X' oz n ∧ (∀ j, j < oz ∨ oz + n ≤ j → X' j = X j) ∧ 0 ≤ r ∧ r < f := by
  have HX := hid hX
  clear hX
  go_enter Tryz.func29, Tryz.ntmps29
  go_wp2
  go_loopw [5, 6] (fun ls i wr => ∃ (k : Nat) (r : Int) (X' : Nat → Int), k ≤ n ∧ ls = .int .u64 r ∧ i = .int .i64 ((k : Int) - 1) ∧ Hid (DivRel g N oz n X f w k r X' wr) ∧ 0 ≤ r ∧ r < f) (fun _ i _ => (intOf i + 1).toNat)
  case atStart => exact ⟨n, 0, X, Nat.le_refl _, rfl, rfl, ⟨hz, Only.refl _ _, by simp [V], HX.out, fun _ _ => rfl⟩, Int.le_refl _, hf0⟩
  case round =>
    obtain ⟨k, r, X', hk, rfl, rfl, hr, r0, r1⟩ := hrel
    cases k with
    | zero =>
      go_wp2
      go_ret
      obtain ⟨h1, h2, h3, h4, h5⟩ := hr.out
      exact ⟨r, X', rfl, h1, h2, by simpa using h3, h4, fun j hj => h5 j (by omega), r0, r1⟩
    | succ k =>
      have hst := hid (fun i => hr.out.step hk r0 r1 i)
      obtain ⟨h1, h2, h3, h4, h5⟩ := hr.out
      obtain ⟨x0, x1⟩ := h4 k (by omega)
      obtain ⟨b1, b2, b3, b4, b5⟩ := dq_bd r0 ⟨x0, x1⟩ r1
      have gz : wr.cell? ⟨g, oz + k, none⟩ = some (.int .u64 (X' (oz + k))) := h1.cell (by omega)
      have gf := h1.frozen (oz + k)
      clear h2 h3 h4 h5 b5 hr hz
      go_wp2_with (go_at_call 24; refine (div64_any _ _ _ _ r0 x0 x1 r1 hf1).mono ?_; rintro e w1 ⟨rfl, i, rfl⟩)
      refine ⟨⟨k, _, upd X' (oz + k) (dq r (X' (oz + k)) f), by omega, rfl, rfl, ?_, b3, b4⟩, by simp [intOf]⟩
      exact hst.out i
end Go.Proofs.YtocfenjampmdlabGreatDoor.B
namespace Go.Proofs.YtocfenjampmdlabGreatDoor.B
open Go.RowKit NumB

theorem Row.one (w : World) (a : Int) : Row (w.alloc (.cells #[.int .u64 a] 22)) w.heap.size 1 (fun _ => a) :=
  ⟨#[.int .u64 a], heap_alloc_new w _, rfl, fun j hj => by have : j = 0 := by omega
                                                           subst this; rfl⟩
theorem Nt.one (w : World) (a : Int) (h0 : 0 ≤ a) (h1 : a ≤ 18446744073709551615) : Nt (w.alloc (.cells #[.int .u64 a] 22)) (.slice (some ⟨w.heap.size, 0, none⟩) 1 1) 1 a :=
  ⟨fun _ => a, 0, (Row.one w a).sl 0 1 1 (Nat.le_refl _) (Nat.le_refl _) (by omega) (fun _ _ => ⟨h0, h1⟩), by simp [V, P]⟩
theorem Nt.of_row {w : World} {g k : Nat} {X : Nat → Int} {a : Int} (hR : Row w g k X) (hW : Wd X 0 k) (hV : V X 0 k = a) (hk : k ≤ 9223372036854775807) : Nt w (.slice (some ⟨g, 0, none⟩) k k) k a :=
  ⟨X, 0, hR.sl 0 k k (by omega) (Nat.le_refl _) hk hW, hV⟩
theorem Nz.of_row {w : World} {g k : Nat} {X : Nat → Int} {a : Int} (hR : Row w g k X) (hW : Wd X 0 k) (hN : Nm X 0 k) (hV : V X 0 k = a) (hk : k ≤ 9223372036854775807) : Nz w (.slice (some ⟨g, 0, none⟩) k k) k a :=
  ⟨X, 0, hR.sl 0 k k (by omega) (Nat.le_refl _) hk hW, hN, hV⟩

theorem Nz.len {w : World} {v : Value} {k : Nat} {a : Int} (h : Nz w v k a) : (a = 0 ↔ k = 0) ∧ (a < P 1 → k ≤ 1) := by
  obtain ⟨x, o, h1, h2, rfl⟩ := h
  cases k with
  | zero => simp [V]
  | succ k =>
    have h3 := V_ge h1.wd (by rcases h2 with h | h; omega; simpa using h)
    have h4 := P_pos k
    refine ⟨⟨fun h => by omega, fun h => by omega⟩, fun h => ?_⟩
    apply Nat.not_lt.1
    intro hk
    have := P_le (show 1 ≤ k by omega)
    omega

theorem cmpI_lt {a b : Int} (h : a < b) : cmpI a b = -1 := by unfold cmpI; rw [if_pos h]
theorem cmpI_ge {a b : Int} (h : ¬ a < b) : 0 ≤ cmpI a b := by unfold cmpI; rw [if_neg h]; split <;> decide
theorem Nz.drewN {w : World} {v : Value} {k : Nat} {a : Int} (h : Nz w v k a) (i : Nat) : Nz (w.drewN i) v k a := h
theorem Nt.drewN {w : World} {v : Value} {k : Nat} {a : Int} (h : Nt w v k a) (i : Nat) : Nt (w.drewN i) v k a := h
theorem Below.drewN' {B : Nat} {a w : World} (n : Nat) (h : Below B (a.drewN n) w) : Below B a w := ⟨h.os, h.tape, h.output, h.size, h.block⟩

end Go.Proofs.YtocfenjampmdlabGreatDoor.B
namespace Go.Proofs.YtocfenjampmdlabGreatDoor.B
open Go.RowKit NumB

theorem dl_db (x y b : Int) (hx : 0 ≤ x ∧ x ≤ 18446744073709551615) (hy : 0 ≤ y ∧ y ≤ 18446744073709551615) (hb : 0 ≤ b ∧ b ≤ 1) :
    dl x y b = x - y - b + db x y b * 18446744073709551616 ∧ 0 ≤ dl x y b ∧ dl x y b ≤ 18446744073709551615 ∧ 0 ≤ db x y b ∧ db x y b ≤ 1 := by
  unfold dl db; split <;> omega
theorem borrow_step (x : Nat → Int) (o k : Nat) (a c t : Int) (hx : 0 ≤ x (o + k) ∧ x (o + k) ≤ 18446744073709551615) (ha : 0 ≤ a ∧ a ≤ 18446744073709551615) (hc : 0 ≤ c ∧ c ≤ 1) (h : V x o k - c * P k = t) :
    V (upd x (o + k) (dl (x (o + k)) a c)) o (k + 1) - db (x (o + k)) a c * P (k + 1) = t + x (o + k) * P k - a * P k := by
  rw [V_upd_top]
  have e := (dl_db _ a c hx ha hc).1
  generalize dl (x (o + k)) a c = l at *
  generalize db (x (o + k)) a c = m at *
  simp only [P]
  generalize P k = q at *
  generalize x (o + k) = u at *
  rw [← h, e]
  grind

/-- what the loops of 'takeFrom' keep. -/
def SubRel (g N oz : Nat) (X : Nat → Int) (w : World) (k : Nat) (t c : Int) (X' : Nat → Int) (wr : World) : Prop :=
  Row wr g N X' ∧ Only g w wr ∧ V X' oz k - c * P k = t ∧ Wd X' oz k ∧ (∀ j, j < oz ∨ oz + k ≤ j → X' j = X j) ∧ 0 ≤ c ∧ c ≤ 1

theorem SubRel.step {g N oz : Nat} {X : Nat → Int} {w : World} {k : Nat} {t c : Int} {X' : Nat → Int} {wr : World} (h : SubRel g N oz X w k t c X' wr) (a : Int)
    (ha : 0 ≤ a ∧ a ≤ 18446744073709551615) (hx : 0 ≤ X (oz + k) ∧ X (oz + k) ≤ 18446744073709551615) :
    SubRel g N oz X w (k + 1) (t + X (oz + k) * P k - a * P k) (db (X' (oz + k)) a c) (upd X' (oz + k) (dl (X' (oz + k)) a c))
      (wr.setCell ⟨g, oz + k, none⟩ (.int .u64 (dl (X' (oz + k)) a c))) := by
  obtain ⟨h1, h2, h3, h4, h5, h6, h7⟩ := h
  have e := h5 (oz + k) (Or.inr (Nat.le_refl _))
  have hx' : 0 ≤ X' (oz + k) ∧ X' (oz + k) ≤ 18446744073709551615 := by rw [e]; exact hx
  have hs := borrow_step X' oz k a c t hx' ha ⟨h6, h7⟩ h3
  obtain ⟨_, d1, d2, d3, d4⟩ := dl_db (X' (oz + k)) a c hx' ha ⟨h6, h7⟩
  refine ⟨h1.set _ _, h2.set _ _, ?_, ?_, ?_, d3, d4⟩
  · rw [hs, e]
  · intro j hj
    by_cases hjk : j = k
    · subst hjk; rw [upd_same]; exact ⟨d1, d2⟩
    · rw [upd_other _ _ _ _ (by omega)]; exact h4 j (by omega)
  · intro j hj; rw [upd_other _ _ _ _ (by omega)]; exact h5 j (by omega)

/-- the view that 'trimmed' answers. -/
def trimV (v : Value) (k : Nat) : Value := match v with
  | .slice ao _ _ => .slice ao k k
  | u => u
theorem trimmed_val (v : Value) (n : Nat) (x : Nat → Int) (o : Nat) (w : World) (h : Sl w v n x o) :
    Calls Tryz.prog 30 #[v] w fun e w' => e = .returned (trimV v (tr x o n)) ∧ w' = w := by
  obtain ⟨ao, cap, rfl, h1, h2, h3, h4, h5⟩ := h
  cases n with
  | zero => exact trimmed_nil ao cap w h4 h2
  | succ n =>
    obtain ⟨b, off, rfl, hb, hc⟩ := h5 (by omega)
    exact trimmed_pos b off (n + 1) cap x o w h1 h2 hc
theorem Sl.trim {w : World} {v : Value} {n : Nat} {x : Nat → Int} {o : Nat} (h : Sl w v n x o) : Sl w (trimV v (tr x o n)) (tr x o n) x o := by
  obtain ⟨ao, cap, rfl, h1, h2, h3, h4, h5⟩ := h
  have hl := tr_le x o n
  refine ⟨ao, tr x o n, rfl, Nat.le_refl _, by omega, h3.mono hl, fun e => ?_, fun hpos => ?_⟩
  · have := h4 e; omega
  · obtain ⟨b, off, rfl, hb, hc⟩ := h5 (by omega)
    exact ⟨b, off, rfl, hb, fun j hj => hc j (by omega)⟩
/-- 'trimmed' in a later world: what it answers is a number of the elder one, too. -/
theorem trimmed_old (v : Value) (n : Nat) (a : Int) (w0 w : World) (h : Nt w0 v n a) (hb : Below w0.heap.size w0 w) :
    Calls Tryz.prog 30 #[v] w fun e w' => (∃ v' k, e = .returned v' ∧ Nz w0 v' k a ∧ k ≤ n) ∧ w' = w := by
  obtain ⟨x, o, h1, rfl⟩ := h
  refine (trimmed_val v n x o w (h1.below hb)).mono ?_
  rintro e w' ⟨rfl, rfl⟩
  exact ⟨⟨_, _, rfl, ⟨x, o, h1.trim, tr_nm x o n, V_tr x o n⟩, tr_le x o n⟩, rfl⟩
/-- a number is no shorter than a smaller one without words 0 at its end. -/
theorem Nz.le_len {w w2 : World} {v v2 : Value} {k n : Nat} {a b : Int} (h : Nz w v k a) (h2 : Nt w2 v2 n b) (hab : a ≤ b) : k ≤ n := by
  obtain ⟨x, o, h1, h3, rfl⟩ := h
  apply Nat.le_of_not_lt
  intro hlt
  obtain ⟨j, rfl⟩ : ∃ j, k = j + 1 := ⟨k - 1, by omega⟩
  have := V_ge h1.wd (by rcases h3 with h | h; omega; simpa using h)
  have := h2.lt
  have := P_le (show n ≤ j by omega)
  omega

end Go.Proofs.YtocfenjampmdlabGreatDoor.B
namespace Go.Proofs.YtocfenjampmdlabGreatDoor.B
open Go.RowKit NumB

theorem trimmed_quiet (b off n cap : Nat) (x : Nat → Int) (o : Nat) (w : World) (hcap : n ≤ cap) (hbig : cap ≤ 9223372036854775807) (hc : ∀ j, j < n → w.cell? ⟨b, off + j, none⟩ = some (.int .u64 (x (o + j)))) (i : Nat) :
    Calls Tryz.prog 30 #[.slice (some ⟨b, off, none⟩) n cap] (w.drewN i) fun e w' => e = .returned (.slice (some ⟨b, off, none⟩) (tr x o n) (tr x o n)) ∧ w' = w.drewN i :=
  trimmed_pos b off n cap x o (w.drewN i) hcap hbig hc

end Go.Proofs.YtocfenjampmdlabGreatDoor.B
namespace Go.Proofs.YtocfenjampmdlabGreatDoor.B
open Go.RowKit NumB

theorem Nz.len_le {w : World} {v : Value} {k n : Nat} {a : Int} (h : Nz w v k a) (hab : a < P n) : k ≤ n := by
  obtain ⟨x, o, h1, h3, rfl⟩ := h
  apply Nat.le_of_not_lt
  intro hlt
  obtain ⟨j, rfl⟩ : ∃ j, k = j + 1 := ⟨k - 1, by omega⟩
  have := V_ge h1.wd (by rcases h3 with h | h; omega; simpa using h)
  have := P_le (show n ≤ j by omega)
  omega
theorem prod_lt {a b : Int} {n m : Nat} (ha : 0 ≤ a ∧ a < P n) (hb : 0 ≤ b ∧ b < P m) : a * b < P (n + m) := by
  rw [P_add]
  have h1 : a * b ≤ a * P m := Int.mul_le_mul_of_nonneg_left (by omega) ha.1
  have h2 : a * P m < P n * P m := Int.mul_lt_mul_of_pos_right ha.2 (P_pos m)
  omega
/-- what is added from place h on has room, if the sum of all has. -/
theorem seg_room {X : Nat → Int} {h r : Nat} {t c : Int} (hX : Wd X 0 h) (hV : V X 0 (h + r) = t) (hs : t + P h * c < P (h + r)) : V X h r + c < P r := by
  rw [V_split, Nat.zero_add] at hV
  rw [P_add] at hs
  have h0 := (V_bd h hX).1
  have hp := P_pos h
  apply Int.not_le.1
  intro hc
  have : P h * P r ≤ P h * (V X h r + c) := Int.mul_le_mul_of_nonneg_left hc (by omega)
  rw [Int.mul_add] at this
  omega
theorem seg_sum {X X' : Nat → Int} {h r : Nat} {t c : Int} (hV : V X 0 (h + r) = t) (ho : ∀ j, j < h → X' j = X j) (hs : V X' h r = V X h r + c) : V X' 0 (h + r) = t + P h * c := by
  rw [V_split, Nat.zero_add] at hV ⊢
  rw [hs, V_congr (y := X) (p := 0) h (fun j hj => by rw [Nat.zero_add]; exact ho j hj), ← hV, Int.mul_add]
  omega

theorem wd_shift {X : Nat → Int} {h r n : Nat} (hw : Wd X 0 n) (hn : h + r ≤ n) : Wd X h r := fun j hj => by have := hw (h + j) (by omega); rwa [Nat.zero_add] at this
theorem wd_join {X Y : Nat → Int} {h r n : Nat} (hw : Wd X h r) (hy : Wd Y 0 n) (ho : ∀ j, j < h ∨ h + r ≤ j → X j = Y j) : Wd X 0 n := fun j hj => by
  rw [Nat.zero_add]
  by_cases hin : h ≤ j ∧ j < h + r
  · obtain ⟨i, rfl⟩ := Nat.le.dest hin.1
    exact hw i (by omega)
  · rw [ho j (by omega)]; have := hy j hj; rwa [Nat.zero_add] at this

/-- the middle of a product by halves. -/
theorem two_over {xl xh : Nat → Int} {ol oh k5 k6 h2 r : Nat} (h5 : k5 ≤ h2) (h6 : k6 ≤ r) : V (over (over (fun _ => 0) 0 k5 xl ol) h2 k6 xh oh) 0 (h2 + r) = V xl ol k5 + P h2 * V xh oh k6 := by
  rw [V_split, V_congr (y := over (fun _ => 0) 0 k5 xl ol) (p := 0) h2 (fun j hj => over_out (by omega)), over_V h2 h5, Nat.zero_add]
  obtain ⟨q, rfl⟩ := Nat.le.dest h6
  rw [V_split, V_congr (y := xh) (p := oh) k6 (fun j hj => over_in hj), V_zero (o := h2 + k6) q (fun j hj => by rw [over_out (by omega), over_out (by omega)])]
  simp
theorem two_over_wd {xl xh : Nat → Int} {ol oh k5 k6 h2 k : Nat} (h5 : Wd xl ol k5) (h6 : Wd xh oh k6) : Wd (over (over (fun _ => 0) 0 k5 xl ol) h2 k6 xh oh) 0 k := fun j hj => by
  rw [Nat.zero_add]
  by_cases hin : h2 ≤ j ∧ j < h2 + k6
  · obtain ⟨i, rfl⟩ := Nat.le.dest hin.1
    rw [over_in (by omega)]; exact h6 i (by omega)
  · rw [over_out (by omega)]; have := over_wd k h5 j hj; rwa [Nat.zero_add] at this
theorem mid_same {a1 a2 b1 b2 d1 d2 : Int} {f : Bool} (h1 : f = true → d1 = a1 - a2 ∧ a2 < a1) (h1' : f = false → d1 = a2 - a1 ∧ a1 ≤ a2) (h2 : f = true → d2 = b1 - b2 ∧ b2 < b1) (h2' : f = false → d2 = b2 - b1 ∧ b1 ≤ b2) :
    a1 * b1 + a2 * b2 - d1 * d2 = a1 * b2 + a2 * b1 := by
  cases f with
  | true => obtain ⟨rfl, _⟩ := h1 rfl; obtain ⟨rfl, _⟩ := h2 rfl; grind
  | false => obtain ⟨rfl, _⟩ := h1' rfl; obtain ⟨rfl, _⟩ := h2' rfl; grind
theorem mid_other {a1 a2 b1 b2 d1 d2 : Int} {f : Bool} (h1 : f = true → d1 = a1 - a2 ∧ a2 < a1) (h1' : f = false → d1 = a2 - a1 ∧ a1 ≤ a2) (h2 : (!f) = true → d2 = b1 - b2 ∧ b2 < b1) (h2' : (!f) = false → d2 = b2 - b1 ∧ b1 ≤ b2) :
    a1 * b1 + a2 * b2 + d1 * d2 = a1 * b2 + a2 * b1 := by
  cases f with
  | true => obtain ⟨rfl, _⟩ := h1 rfl; obtain ⟨rfl, _⟩ := h2' rfl; grind
  | false => obtain ⟨rfl, _⟩ := h1' rfl; obtain ⟨rfl, _⟩ := h2 rfl; grind
theorem prod_split {a1 a2 b1 b2 p : Int} : (a1 + p * a2) * (b1 + p * b2) = a1 * b1 + p * p * (a2 * b2) + p * (a1 * b2 + a2 * b1) := by grind

end Go.Proofs.YtocfenjampmdlabGreatDoor.B
namespace Go.Proofs.YtocfenjampmdlabGreatDoor.B
open Go.RowKit NumB

end Go.Proofs.YtocfenjampmdlabGreatDoor.B
namespace Go.Proofs.YtocfenjampmdlabGreatDoor.B
open Go.RowKit NumB

/-- block g holds the cells cs. -/
def Blk (w : World) (g : Nat) (cs : Array Value) (t : TypeId) : Prop := w.heap[g]? = some (.cells cs t (0, 0))
theorem Blk.new (w : World) (cs : Array Value) (t : TypeId) : Blk (w.alloc (.cells cs t)) w.heap.size cs t := heap_alloc_new w _
theorem Blk.lt {w : World} {g : Nat} {cs : Array Value} {t : TypeId} (h : Blk w g cs t) : g < w.heap.size := (Array.getElem?_eq_some_iff.1 h).1
theorem Blk.below {B : Nat} {w w' : World} {g : Nat} {cs : Array Value} {t : TypeId} (h : Blk w g cs t) (hb : Below B w w') (hg : g < B) : Blk w' g cs t := by
  unfold Blk; rw [hb.block g hg]; exact h
theorem Blk.alloc {w : World} {g : Nat} {cs : Array Value} {t : TypeId} (h : Blk w g cs t) (o : Obj) : Blk (w.alloc o) g cs t :=
  h.below ((Below.refl w.heap.size w).alloc (Nat.le_refl _) o) h.lt
theorem Blk.only {w w' : World} {g b : Nat} {cs : Array Value} {t : TypeId} (h : Blk w g cs t) (o : Only b w w') (hg : g ≠ b) : Blk w' g cs t := by
  unfold Blk; rw [o.block g hg]; exact h
/-- a variable that holds a whole number: two cells. -/
def Var (w : World) (g : Nat) (p : Bool) (ao : Option Addr) (n c : Nat) : Prop := Blk w g #[.bool p, .slice ao n c] 42
theorem Var.facts {w : World} {g : Nat} {p : Bool} {ao : Option Addr} {n c : Nat} (h : Var w g p ao n c) :
    w.cell? ⟨g, 0, none⟩ = some (.bool p) ∧ w.cell? ⟨g, 1, none⟩ = some (.slice ao n c) ∧ w.frozen? ⟨g, 0, none⟩ = false ∧ w.frozen? ⟨g, 1, none⟩ = false ∧ g < w.heap.size := by
  have hl := Blk.lt h
  unfold Var Blk at h
  refine ⟨?_, ?_, ?_, ?_, hl⟩
  · simp only [World.cell?, h]; rfl
  · simp only [World.cell?, h]; rfl
  · simp only [World.frozen?, h]; rfl
  · simp only [World.frozen?, h]; rfl
theorem Var.set {w : World} {g : Nat} {p q : Bool} {ao bo : Option Addr} {n c m d : Nat} (h : Var w g p ao n c) :
    Var ((w.setCell ⟨g, 0, none⟩ (.bool q)).setCell ⟨g, 1, none⟩ (.slice bo m d)) g q bo m d := by
  unfold Var Blk at *
  have e1 := heap_setCell_same w g 0 _ _ (.bool q) h
  rw [heap_setCell_same _ g 1 _ _ (.slice bo m d) e1]
  rfl
theorem ret_var {fn : Func} {tmps : Array Value} {w : World} {t : Tmp} {g : Nat} {p : Bool} {ao : Option Addr} {n c : Nat} (hv : Var w g p ao n c) (h : fn.results = #[.cell t 42]) (ht : tmps[t]?.getD undef = .pointer (some ⟨g, 0, none⟩)) :
    (results fn tmps).run Tryz.prog w = .ok (.agg #[.bool p, .slice ao n c]) w := by
  obtain ⟨c0, c1, _⟩ := hv.facts
  simp [results, h, go_sem, ht, c0, c1]
theorem ret_var3 {fn : Func} {tmps : Array Value} {w : World} {t t' u : Tmp} {g g' : Nat} {p p' : Bool} {ao ao' : Option Addr} {n c n' c' : Nat} {v : Value} (hv : Var w g p ao n c) (hv' : Var w g' p' ao' n' c') (h : fn.results = #[.cell t 42, .cell t' 42, .tmp u])
    (ht : tmps[t]?.getD undef = .pointer (some ⟨g, 0, none⟩)) (ht' : tmps[t']?.getD undef = .pointer (some ⟨g', 0, none⟩)) (hu : tmps[u]?.getD undef = v) :
    (results fn tmps).run Tryz.prog w = .ok (.tuple #[.agg #[.bool p, .slice ao n c], .agg #[.bool p', .slice ao' n' c'], v]) w := by
  obtain ⟨c0, c1, _⟩ := hv.facts
  obtain ⟨d0, d1, _⟩ := hv'.facts
  simp [results, h, go_sem, ht, ht', hu, c0, c1, d0, d1]
theorem ret_var2 {fn : Func} {tmps : Array Value} {w : World} {t u : Tmp} {g : Nat} {p : Bool} {ao : Option Addr} {n c : Nat} {v : Value} (hv : Var w g p ao n c) (h : fn.results = #[.cell t 42, .tmp u])
    (ht : tmps[t]?.getD undef = .pointer (some ⟨g, 0, none⟩)) (hu : tmps[u]?.getD undef = v) :
    (results fn tmps).run Tryz.prog w = .ok (.tuple #[.agg #[.bool p, .slice ao n c], v]) w := by
  obtain ⟨c0, c1, _⟩ := hv.facts
  simp [results, h, go_sem, ht, hu, c0, c1]
theorem var_new (w : World) : Var (w.alloc (.cells #[.bool false, .slice none 0 0] 42)) w.heap.size false none 0 0 := Blk.new _ _ _
theorem Sl.off {w : World} {v : Value} {n : Nat} {x : Nat → Int} {o g : Nat} {p : Bool} {ao : Option Addr} {l c : Nat} (h : Sl w v n x o) (hb : Var w g p ao l c) : SlN g w v n x o := by
  obtain ⟨ao', cap, rfl, h1, h2, h3, h4, h5⟩ := h
  refine ⟨ao', cap, rfl, h1, h2, h3, h4, fun hn => ?_⟩
  obtain ⟨b, off, rfl, hbs, hc⟩ := h5 hn
  refine ⟨b, off, rfl, hbs, ?_, hc⟩
  rintro rfl
  have := hc 0 hn
  unfold Var Blk at hb
  simp only [World.cell?, hb] at this
  match off with
  | 0 => simp at this
  | 1 => simp at this
  | k + 2 => simp at this
theorem SlN.sl {g : Nat} {w : World} {v : Value} {n : Nat} {x : Nat → Int} {o : Nat} (h : SlN g w v n x o) : Sl w v n x o := by
  obtain ⟨ao, cap, rfl, h1, h2, h3, h4, h5⟩ := h
  refine ⟨ao, cap, rfl, h1, h2, h3, h4, fun hn => ?_⟩
  obtain ⟨b, off, rfl, hbs, _, hc⟩ := h5 hn
  exact ⟨b, off, rfl, hbs, hc⟩

/-- a number below 0, or not. -/
def sg (neg : Bool) (a : Int) : Int := if neg then -a else a
theorem sg_not (neg : Bool) (a : Int) : sg (!neg) a = - sg neg a := by cases neg <;> simp [sg]
/-- 'v' is the whole number A, of up to n words. -/
def It (w : World) (v : Value) (n : Nat) (A : Int) : Prop :=
  ∃ (neg : Bool) (ao : Option Addr) (k cap : Nat) (a : Int), v = .agg #[.bool neg, .slice ao k cap] ∧ Nz w (.slice ao k cap) k a ∧ k ≤ n ∧ A = sg neg a ∧ (neg = true → a ≠ 0) ∧ 0 ≤ a
theorem It.below {w w' : World} {v : Value} {n : Nat} {A : Int} (h : It w v n A) (hb : Below w.heap.size w w') : It w' v n A := by
  obtain ⟨neg, ao, k, cap, a, rfl, h1, h2, h3, h4, h5⟩ := h
  exact ⟨neg, ao, k, cap, a, rfl, h1.below hb, h2, h3, h4, h5⟩
theorem It.mono {w : World} {v : Value} {n m : Nat} {A : Int} (h : It w v n A) (hm : n ≤ m) : It w v m A := by
  obtain ⟨neg, ao, k, cap, a, rfl, h1, h2, h3, h4, h5⟩ := h
  exact ⟨neg, ao, k, cap, a, rfl, h1, by omega, h3, h4, h5⟩
theorem It.cast {w : World} {v : Value} {n : Nat} {A B : Int} (h : It w v n A) (e : A = B) : It w v n B := e ▸ h
theorem Nz.off {w w' : World} {v : Value} {k : Nat} {a : Int} {g : Nat} {p : Bool} {ao : Option Addr} {l c : Nat} (h : Nz w v k a) (hv : Var w g p ao l c) (ho : Only g w w') : Nz w' v k a := by
  obtain ⟨x, o, h1, h2, h3⟩ := h
  exact ⟨x, o, ((h1.off hv).only ho).sl, h2, h3⟩
theorem It.off {w w' : World} {v : Value} {n : Nat} {A : Int} {g : Nat} {p : Bool} {ao : Option Addr} {l c : Nat} (h : It w v n A) (hv : Var w g p ao l c) (ho : Only g w w') : It w' v n A := by
  obtain ⟨neg, ao, k, cap, a, rfl, h1, h2, h3, h4, h5⟩ := h
  exact ⟨neg, ao, k, cap, a, rfl, h1.off hv ho, h2, h3, h4, h5⟩
theorem It.shape {w : World} {v : Value} {n : Nat} {A : Int} (h : It w v n A) : ∃ p ao k cap, v = .agg #[.bool p, .slice ao k cap] := by
  obtain ⟨neg, ao, k, cap, a, rfl, -⟩ := h; exact ⟨neg, ao, k, cap, rfl⟩
theorem Nz.shape {w : World} {v : Value} {k : Nat} {a : Int} (h : Nz w v k a) : ∃ ao cap, v = .slice ao k cap := by
  obtain ⟨x, o, ⟨ao, cap, rfl, -⟩, -⟩ := h; exact ⟨ao, cap, rfl⟩
/-- the sign of a number. -/
def sgn (a : Int) : Int := if a < 0 then -1 else if a = 0 then 0 else 1
/-- what two stores into a variable leave. -/
theorem only_two (g : Nat) (w : World) (a b : Value) : Only g w ((w.setCell ⟨g, 0, none⟩ a).setCell ⟨g, 1, none⟩ b) := ((Only.refl g w).set 0 a).set 1 b
theorem below_new (w : World) (o : Obj) : Below w.heap.size w (w.alloc o) := (Below.refl _ _).alloc (Nat.le_refl _) o
theorem Nz.alloc {w : World} {v : Value} {k : Nat} {a : Int} (h : Nz w v k a) (o : Obj) : Nz (w.alloc o) v k a := h.below (below_new w o)
theorem Nt.alloc {w : World} {v : Value} {k : Nat} {a : Int} (h : Nt w v k a) (o : Obj) : Nt (w.alloc o) v k a := h.below (below_new w o)
theorem It.alloc {w : World} {v : Value} {k : Nat} {a : Int} (h : It w v k a) (o : Obj) : It (w.alloc o) v k a := h.below (below_new w o)

theorem bt {w w1 w2 : World} (h : Below w.heap.size w w1) (k : Below w1.heap.size w1 w2) : Below w.heap.size w w2 := h.trans (k.mono h.size)
theorem Var.go {w w' : World} {g : Nat} {p : Bool} {ao : Option Addr} {n c : Nat} (h : Var w g p ao n c) (hb : Below w.heap.size w w') : Var w' g p ao n c := Blk.below h hb (Blk.lt h)
theorem Var.at {w w' : World} {g b : Nat} {p : Bool} {ao : Option Addr} {n c : Nat} (h : Var w g p ao n c) (ho : Only b w w') (hg : g ≠ b) : Var w' g p ao n c := Blk.only h ho hg
theorem var_mk (w : World) (p : Bool) (ao : Option Addr) (n c : Nat) : Var (w.alloc (.cells #[.bool p, .slice ao n c] 42)) w.heap.size p ao n c := Blk.new _ _ _
theorem Var.alloc {w : World} {g : Nat} {p : Bool} {ao : Option Addr} {n c : Nat} (h : Var w g p ao n c) (o : Obj) : Var (w.alloc o) g p ao n c := h.go (below_new w o)
theorem entry1 (w : World) (p : Bool) (ao : Option Addr) (n c : Nat) :
    Var ((w.alloc (.cells #[.bool p, .slice ao n c] 42)).alloc (.cells #[.bool false, .slice none 0 0] 42)) w.heap.size p ao n c ∧
    Var ((w.alloc (.cells #[.bool p, .slice ao n c] 42)).alloc (.cells #[.bool false, .slice none 0 0] 42)) (w.heap.size + 1) false none 0 0 ∧
    Below w.heap.size w ((w.alloc (.cells #[.bool p, .slice ao n c] 42)).alloc (.cells #[.bool false, .slice none 0 0] 42)) :=
  ⟨(var_mk w p ao n c).alloc _, by simpa using var_mk (w.alloc (.cells #[.bool p, .slice ao n c] 42)) false none 0 0, bt (below_new w _) (below_new _ _)⟩
theorem entry2 (w : World) (p : Bool) (ao : Option Addr) (n c : Nat) (q : Bool) (bo : Option Addr) (m d : Nat) :
    Var (((w.alloc (.cells #[.bool p, .slice ao n c] 42)).alloc (.cells #[.bool q, .slice bo m d] 42)).alloc (.cells #[.bool false, .slice none 0 0] 42)) w.heap.size p ao n c ∧
    Var (((w.alloc (.cells #[.bool p, .slice ao n c] 42)).alloc (.cells #[.bool q, .slice bo m d] 42)).alloc (.cells #[.bool false, .slice none 0 0] 42)) (w.heap.size + 1) q bo m d ∧
    Var (((w.alloc (.cells #[.bool p, .slice ao n c] 42)).alloc (.cells #[.bool q, .slice bo m d] 42)).alloc (.cells #[.bool false, .slice none 0 0] 42)) (w.heap.size + 2) false none 0 0 ∧
    Below w.heap.size w (((w.alloc (.cells #[.bool p, .slice ao n c] 42)).alloc (.cells #[.bool q, .slice bo m d] 42)).alloc (.cells #[.bool false, .slice none 0 0] 42)) :=
  ⟨((var_mk w p ao n c).alloc _).alloc _, by simpa using (var_mk (w.alloc (.cells #[.bool p, .slice ao n c] 42)) q bo m d).alloc (.cells #[.bool false, .slice none 0 0] 42), by simpa using var_mk ((w.alloc (.cells #[.bool p, .slice ao n c] 42)).alloc (.cells #[.bool q, .slice bo m d] 42)) false none 0 0, bt (bt (below_new w _) (below_new _ _)) (below_new _ _)⟩

set_option maxHeartbeats 400000 in
theorem signed_any (neg : Bool) (s : Value) (k : Nat) (a : Int) (w : World) (h : Nz w s k a) :
    Calls Tryz.prog 25 #[.bool neg, s] w fun e w' => ∃ v, e = .returned v ∧ It w' v k (sg neg a) ∧ Below w.heap.size w w' := by
  have H := hid h
  have L := hid h.len.1
  have H0 := hid h.nt.nonneg
  obtain ⟨ao, cap, rfl⟩ := h.shape
  clear h
  by_cases h0 : k = 0
  · subst h0
    obtain rfl : a = 0 := L.out.2 rfl
    clear L
    go_enter Tryz.func25, Tryz.ntmps25
    go_wp2
    refine bodyPost_ret (v := .agg #[.bool false, .slice none 0 0]) (by simp [results, Tryz.results25, go_sem]) rfl ?_
    refine ⟨_, rfl, ⟨false, none, 0, 0, 0, rfl, nil_nz _, Nat.le_refl _, ?_, by simp, by omega⟩, below_new w _⟩
    cases neg <;> rfl
  · have hk0 : ((k : Int) == 0) = false := by simp; omega
    go_enter Tryz.func25, Tryz.ntmps25
    go_wp2
    refine bodyPost_ret (v := .agg #[.bool neg, .slice ao k cap]) (by simp [results, Tryz.results25, go_sem]) rfl ?_
    exact ⟨_, rfl, ⟨neg, ao, k, cap, a, rfl, H.out.alloc _, Nat.le_refl _, rfl, fun _ e => h0 (L.out.1 e), H0.out⟩, below_new w _⟩

set_option maxHeartbeats 400000 in
theorem From_any (neg : Bool) (v : Value) (n : Nat) (a : Int) (w : World) (h : Nt w v n a) (hn : n ≤ 100000000) :
    Calls Tryz.prog 17 #[.bool neg, v] w fun e w' => ∃ v', e = .returned v' ∧ It w' v' n (sg neg a) ∧ Below w.heap.size w w' := by
  have V0 := hid (var_new w)
  have B0 := hid (below_new w (.cells #[.bool false, .slice none 0 0] 42))
  have H := hid (norm_any v n a _ (h.alloc (.cells #[.bool false, .slice none 0 0] 42)) hn)
  clear h
  go_enter Tryz.func17, Tryz.ntmps17
  go_wp2_with fail
  refine H.out.mono ?_
  clear H
  generalize w.alloc (.cells #[.bool false, .slice none 0 0] 42) = wa at *
  rintro e w1 ⟨k, X, rfl, r1, r2, r3, r4, hk, C1, _⟩
  have N1 := hid (Nz.of_row r1 r2 r3 r4 (by omega)); clear r1 r2 r3 r4
  go_wp2_with fail
  refine (signed_any _ _ _ _ _ N1.out).mono ?_
  rintro e w2 ⟨v', rfl, I, C2⟩
  obtain ⟨p, ao, k', cap, rfl⟩ := I.shape
  have I1 := hid I
  clear I
  have V2 := hid ((V0.out.below C1 (Blk.lt V0.out)).below C2 (Nat.lt_of_lt_of_le (Blk.lt V0.out) C1.size))
  obtain ⟨c0, c1, f0, f1, l0⟩ := Var.facts V2.out
  go_wp2
  refine bodyPost_ret (ret_var (Var.set V2.out) rfl rfl) rfl ?_
  exact ⟨_, rfl, (I1.out.off V2.out (only_two _ _ _ _)).mono hk, (B0.out.trans (C1.mono B0.out.size)).trans ((C2.mono (Nat.le_trans B0.out.size C1.size)).trans ((only_two _ _ _ _).below (Nat.le_refl _)))⟩

theorem sg_mul (p q : Bool) (a b : Int) : sg p a * sg q b = sg (p != q) (a * b) := by cases p <;> cases q <;> simp [sg, Int.neg_mul, Int.mul_neg]
end Go.Proofs.YtocfenjampmdlabGreatDoor.B
namespace Go.Proofs.YtocfenjampmdlabGreatDoor.B
open Go.RowKit NumB

theorem Tryz.infoBuilder : (Tryz.prog.info? 73).map (fun i => i.size) = some 2 := by kernel_rfl
theorem Tryz.liesBuilder : liesAt Tryz.prog Tryz.prog.depth 73 (2 / Tryz.prog.cellsOf 73) 0 73 1 = true := by kernel_rfl
theorem Tryz.infoByte : (Tryz.prog.info? 5).map (fun i => (i.zero, i.size, i.bytes)) = some (some (.int .u8 0), 1, 1) := by kernel_rfl

set_option maxHeartbeats 1000000 in
set_option maxRecDepth 100000 in
theorem copyCheck_used (b : Nat) (w : World) (h0 : w.cell? ⟨b, 0, none⟩ = some (.pointer (some ⟨b, 0, none⟩))) :
    Calls Tryz.prog 48 #[.pointer (some ⟨b, 0, none⟩)] w fun e w' => e = .returned (.tuple #[]) ∧ w' = w := by
  obtain ⟨j, hj, -⟩ := Option.map_eq_some_iff.1 Tryz.infoBuilder
  go_enter Tryz.func48, Tryz.ntmps48
  go_wp2
  rw [Lib.run_neq_ptr_same w _ Tryz.underlying70 hj]
  go_wp2
  go_end0
  exact ⟨rfl, rfl⟩

set_option maxHeartbeats 1000000 in
set_option maxRecDepth 100000 in
theorem copyCheck_fresh (b : Nat) (w : World) (h0 : w.cell? ⟨b, 0, none⟩ = some (.pointer none)) (hsh : w.shape? b = some (73, 2)) (hfz : w.frozen? ⟨b, 0, none⟩ = false) :
    Calls Tryz.prog 48 #[.pointer (some ⟨b, 0, none⟩)] w fun e w' => e = .returned (.tuple #[]) ∧ w' = w.setCell ⟨b, 0, none⟩ (.pointer (some ⟨b, 0, none⟩)) := by
  obtain ⟨j, hj, hjs⟩ := Option.map_eq_some_iff.1 Tryz.infoBuilder
  go_enter Tryz.func48, Tryz.ntmps48
  go_wp2
  rw [Lib.run_to_unsafe w ⟨b, 0, none⟩ Tryz.underlying70 Tryz.underlying116 hj (by rw [hjs]; decide) hsh (Nat.zero_lt_succ 1)]
  simp only [Result.andThen]
  rw [Oper.upon_value]
  go_wp2
  rw [run_callFunc_extern Tryz.func71 (by kernel_rfl) (by kernel_rfl) (by kernel_rfl) (e := Extern.AbiNoEscape.same) (by kernel_rfl)]
  rw [Lib.run_noEscape]
  simp only [Result.andThen]
  rw [Oper.upon_value]
  go_wp2
  rw [Lib.run_from_unsafe w ⟨b, 0, none⟩ Tryz.underlying116 Tryz.underlying70 hj hsh Tryz.liesBuilder]
  simp only [Result.andThen]
  rw [Oper.upon_value]
  go_wp2
  go_end0
  exact ⟨rfl, rfl⟩

theorem copyCheck_any (B b : Nat) (bs : List Value) (w : World) (h : Lib.IsBuilder 73 5 B b bs w) :
    Calls Tryz.prog 48 #[.pointer (some ⟨b, 0, none⟩)] w fun e w' => e = .returned (.tuple #[]) ∧ (Lib.BuilderAt 73 5 B b (.pointer (some ⟨b, 0, none⟩)) bs w' ∧ Below B w w') := by
  rcases h with h | h
  · refine (copyCheck_fresh b w h.cell0 h.shape h.frozen0).mono ?_
    rintro e w' ⟨rfl, rfl⟩
    exact ⟨rfl, h.used _, (Below.refl B w).setCell (p := ⟨b, 0, none⟩) h.1 _⟩
  · refine (copyCheck_used b w h.cell0).mono ?_
    rintro e w' ⟨rfl, rfl⟩
    exact ⟨rfl, h, Below.refl B _⟩

set_option maxHeartbeats 2000000 in
set_option maxRecDepth 100000 in
theorem writeString_any (B b : Nat) (bs : List Value) (s : ByteArray) (w : World) (h : Lib.IsBuilder 73 5 B b bs w) (hlen : bs.length + s.size ≤ 140737488355328) (hBw : B ≤ w.heap.size) :
    Calls Tryz.prog 31 #[.pointer (some ⟨b, 0, none⟩), .string s] w fun e w' => e = .returned (.tuple #[.int .i64 s.size, .nilIface]) ∧ (Lib.BuilderAt 73 5 B b (.pointer (some ⟨b, 0, none⟩)) (bs ++ Lib.strCells s) w' ∧ Below B w w') := by
  obtain ⟨i0, hi, hz0, hz1, hz2⟩ := info_parts Tryz.infoByte
  go_enter Tryz.func31, Tryz.ntmps31
  go_wp2_with (go_at_call 48; refine (copyCheck_any B b bs _ h).mono ?_)
  rintro e w1 ⟨rfl, h1, hb1⟩
  obtain ⟨hB, v, hbk, hown, hne⟩ := h1
  have c0 : w1.cell? ⟨b, 0, none⟩ = some (.pointer (some ⟨b, 0, none⟩)) := by rw [Lib.cell_of_heap hbk]; rfl
  have c1 : w1.cell? ⟨b, 1, none⟩ = some v := by rw [Lib.cell_of_heap hbk]; rfl
  go_wp2_with (at_builtin; refine Lib.wpList_append_own_string _ rfl _ _ 71 9 rfl B 5 i0 Tryz.underlying71 Tryz.underlying9 hi hz0 hz1 hz2 _ _ _ rfl hown s rfl ?c3 ?c4 ?c5 ?_)
  case c3 => unfold maxLen; omega
  case c4 => omega
  case c5 => have := hb1.size; omega
  intro v' w2 hown' hgrow _
  have hlt : b < w1.heap.size := (Array.getElem?_eq_some_iff.1 hbk).1
  have hb2 : w2.heap[b]? = some (.cells #[.pointer (some ⟨b, 0, none⟩), v] 73 (0, 0)) := by
    rw [hgrow.block b hlt (fun e => hne e.symm)]
    exact hbk
  have d0 : w2.cell? ⟨b, 0, none⟩ = some (.pointer (some ⟨b, 0, none⟩)) := by rw [Lib.cell_of_heap hb2]; rfl
  have d1 : w2.cell? ⟨b, 1, none⟩ = some v := by rw [Lib.cell_of_heap hb2]; rfl
  have f1 : w2.frozen? ⟨b, 1, none⟩ = false := Lib.frozen_of_heap hb2 1
  obtain ⟨ao, n', cap, rfl⟩ : ∃ ao n' cap, v' = .slice ao n' cap := by
    rcases hown'.2 with ⟨hv, _⟩ | ⟨g, cap, cur, hv, _⟩
    · exact ⟨_, _, _, hv⟩
    · exact ⟨_, _, _, hv⟩
  go_wp2
  go_ret2
  refine ⟨rfl, ?_, ?_⟩
  · exact Lib.BuilderAt.put (T := 73) (e := 5) hB hb2 (bs' := bs ++ Lib.strCells s) (by simpa [Lib.strCells_length] using hown') (by decide)
  · exact (hb1.grown hgrow (by have := hb1.size; omega) (fun k hk => (hown.lt k hk).1)).setCell (p := ⟨b, 1, none⟩) hB _
end Go.Proofs.YtocfenjampmdlabGreatDoor.B
