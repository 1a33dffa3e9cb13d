/- What 'DivWord' and 'DivMod' answer: how often a number goes into another, and what is left. -/
import Derived.Test.YtnaiahjgdakneaaGreatDoorDivw
namespace Go.Proofs.YtnaiahjgdakneaaGreatDoor
open Go.RowKit Num

theorem Row.one (w : World) (a : Int) : Row (w.alloc (.cells #[.int .u64 a] 26)) w.heap.size 1 (fun _ => a) :=
  ⟨#[.int .u64 a], heap_alloc_new w _, rfl, fun j hj => by have : j = 0 := by omega
                                                           subst this; rfl⟩
theorem Nt.one (w : World) (a : Int) (h0 : 0 ≤ a) (h1 : a ≤ 18446744073709551615) : Nt (w.alloc (.cells #[.int .u64 a] 26)) (.slice (some ⟨w.heap.size, 0, none⟩) 1 1) 1 a :=
  ⟨fun _ => a, 0, (Row.one w a).sl 0 1 1 (Nat.le_refl _) (Nat.le_refl _) (by omega) (fun _ _ => ⟨h0, h1⟩), by simp [V, P]⟩
theorem Nt.of_row {w : World} {g k : Nat} {X : Nat → Int} {a : Int} (hR : Row w g k X) (hW : Wd X 0 k) (hV : V X 0 k = a) (hk : k ≤ 9223372036854775807) : Nt w (.slice (some ⟨g, 0, none⟩) k k) k a :=
  ⟨X, 0, hR.sl 0 k k (by omega) (Nat.le_refl _) hk hW, hV⟩
theorem Nz.of_row {w : World} {g k : Nat} {X : Nat → Int} {a : Int} (hR : Row w g k X) (hW : Wd X 0 k) (hN : Nm X 0 k) (hV : V X 0 k = a) (hk : k ≤ 9223372036854775807) : Nz w (.slice (some ⟨g, 0, none⟩) k k) k a :=
  ⟨X, 0, hR.sl 0 k k (by omega) (Nat.le_refl _) hk hW, hN, hV⟩

set_option maxHeartbeats 800000 in
set_option maxRecDepth 100000 in
theorem divWord_zero (v : Value) (w : World) :
    Calls Tryz.prog 29 #[v, .int .u64 0] w fun e w' => e = .returned (.tuple #[.slice none 0 0, .int .u64 0, .int .i64 10]) ∧ w' = w := by
  go_enter Tryz.func29, Tryz.ntmps29
  go_wp2
  go_ret3
  exact ⟨rfl, rfl⟩

set_option maxHeartbeats 800000 in
set_option maxRecDepth 100000 in
/-- 'DivWord'. -/
theorem divWord_any (v : Value) (n : Nat) (a f : Int) (w : World) (h : Nt w v n a) (hn : n ≤ 100000000) (hf0 : 0 < f) (hf1 : f ≤ 18446744073709551615) :
    Calls Tryz.prog 29 #[v, .int .u64 f] w fun e w' => ∃ v' k q r, e = .returned (.tuple #[v', .int .u64 r, .int .i64 0]) ∧ Nz w' v' k q ∧ q * f + r = a ∧ 0 ≤ r ∧ r < f ∧ k ≤ n ∧ Below w.heap.size w w' := by
  have H := hid (norm_any v n a w h hn)
  have hq : (f == 0) = false := beq_eq_false_iff_ne.2 (by omega)
  clear h
  go_enter Tryz.func29, Tryz.ntmps29
  go_wp2_with fail
  refine H.out.mono ?_
  rintro e w1 ⟨k, X, rfl, R1, W1, -, V1, l1, B1, Z1⟩
  have HZ := hid Z1
  have HV1 := hid V1
  clear H Z1 V1
  go_wp2_with fail
  refine (divBy_any w.heap.size 0 k k k X f w1 R1 (by omega) (Nat.le_refl _) (by omega) W1 hf0 hf1).mono ?_
  rintro e w2 ⟨r, X', rfl, R2, O2, V2, W2, -, r0, r1⟩
  have HV2 := hid V2
  clear V2
  go_wp2_with fail
  refine (trimmed_nt _ k _ w2 (Nt.of_row R2 W2 rfl (by omega))).mono ?_
  rintro e w3 ⟨⟨v', k', rfl, s3, l3⟩, rfl⟩
  go_wp2
  go_ret3
  exact ⟨v', k', _, r, rfl, s3, by rw [HV2.out, HV1.out], r0, r1, by omega, B1.trans (O2.below (Nat.le_refl _))⟩

/-- what 'divLong' answers. -/
def LongSaid : Prop := ∀ (vx vy : Value) (n m : Nat) (a b : Int) (w : World), Nz w vx n a → Nz w vy m b → n ≤ 100000000 → m ≤ 100000000 → 2 ≤ m → b ≤ a →
  Calls Tryz.prog 46 #[vx, vy] w fun e w' => ∃ v1 v2 k1 k2 q r, e = .returned (.tuple #[v1, v2]) ∧ Nz w' v1 k1 q ∧ Nz w' v2 k2 r ∧ q * b + r = a ∧ 0 ≤ r ∧ r < b ∧ k1 ≤ n ∧ k2 ≤ m ∧ Below w.heap.size w w'

theorem Nz.len {w : World} {v : Value} {k : Nat} {a : Int} (h : Nz w v k a) : (a = 0 ↔ k = 0) ∧ (a < P 1 → k ≤ 1) := by
  obtain ⟨x, o, h1, h2, rfl⟩ := h
  cases k with
  | zero => simp [V]
  | succ k =>
    have h3 := V_ge h1.wd (by rcases h2 with h | h; omega; simpa using h)
    have h4 := P_pos k
    refine ⟨⟨fun h => by omega, fun h => by omega⟩, fun h => ?_⟩
    apply Nat.not_lt.1
    intro hk
    have := P_le (show 1 ≤ k by omega)
    omega

set_option maxHeartbeats 800000 in
set_option maxRecDepth 100000 in
theorem divMod_zero (vx vy : Value) (n m : Nat) (a : Int) (w : World) (hx : Nt w vx n a) (hy : Nt w vy m 0) :
    Calls Tryz.prog 25 #[vx, vy] w fun e w' => e = .returned (.tuple #[.slice none 0 0, .slice none 0 0, .int .i64 10]) ∧ w' = w := by
  have Hx := hid (trimmed_nt vx n a w hx)
  have Hy := hid (trimmed_nt vy m 0 w hy)
  clear hx hy
  go_enter Tryz.func25, Tryz.ntmps25
  go_wp2_with fail
  refine Hx.out.mono ?_
  rintro e w' ⟨⟨v1, n', rfl, s1, l1⟩, rfl⟩
  go_wp2_with fail
  refine Hy.out.mono ?_
  rintro e w' ⟨⟨v2, m', rfl, s2, l2⟩, rfl⟩
  clear Hx Hy
  have := s2.len.1.1 rfl
  subst this
  obtain ⟨y, p, ⟨bo, c2, rfl, -⟩, -⟩ := s2
  go_wp2
  go_ret3
  exact ⟨rfl, rfl⟩

theorem cmpI_lt {a b : Int} (h : a < b) : cmpI a b = -1 := by unfold cmpI; rw [if_pos h]
theorem cmpI_ge {a b : Int} (h : ¬ a < b) : 0 ≤ cmpI a b := by unfold cmpI; rw [if_neg h]; split <;> decide
theorem cmp_nt (vx vy : Value) (n m : Nat) (a b : Int) (w : World) (hx : Nt w vx n a) (hy : Nt w vy m b) :
    Calls Tryz.prog 45 #[vx, vy] w fun e w' => e = .returned (.int .i64 (cmpI a b)) ∧ ∃ k, w' = w.drewN k := by
  obtain ⟨x, o, h1, rfl⟩ := hx
  obtain ⟨y, p, h2, rfl⟩ := hy
  exact cmp_any vx vy n m x y o p w h1 h2
theorem Nz.drewN {w : World} {v : Value} {k : Nat} {a : Int} (h : Nz w v k a) (i : Nat) : Nz (w.drewN i) v k a := h
theorem Nt.drewN {w : World} {v : Value} {k : Nat} {a : Int} (h : Nt w v k a) (i : Nat) : Nt (w.drewN i) v k a := h
theorem Below.drewN' {B : Nat} {a w : World} (n : Nat) (h : Below B (a.drewN n) w) : Below B a w := ⟨h.os, h.tape, h.output, h.size, h.block⟩

set_option maxHeartbeats 1600000 in
set_option maxRecDepth 100000 in
/-- 'DivMod'. -/
theorem divMod_any (vx vy : Value) (n m : Nat) (a b : Int) (w : World) (hx : Nt w vx n a) (hy : Nt w vy m b) (hn : n ≤ 100000000) (hm : m ≤ 100000000) (hb : 0 < b) (HL : P 1 ≤ b → LongSaid) :
    Calls Tryz.prog 25 #[vx, vy] w fun e w' => ∃ v1 v2 k1 k2 q r, e = .returned (.tuple #[v1, v2, .int .i64 0]) ∧ Nz w' v1 k1 q ∧ Nz w' v2 k2 r ∧ q * b + r = a ∧ 0 ≤ r ∧ r < b ∧ k1 ≤ n ∧ k2 ≤ max n m ∧ Below w.heap.size w w' := by
  have Hx := hid (trimmed_nt vx n a w hx)
  have Hy := hid (trimmed_nt vy m b w hy)
  have ha := hx.nonneg
  have HLL := hid HL
  clear hx hy HL
  go_enter Tryz.func25, Tryz.ntmps25
  go_wp2_with fail
  refine Hx.out.mono ?_
  rintro e w' ⟨⟨v1, n', rfl, s1, l1⟩, rfl⟩
  go_wp2_with fail
  refine Hy.out.mono ?_
  rintro e w' ⟨⟨v2, m', rfl, s2, l2⟩, rfl⟩
  clear Hx Hy
  have hm0 : m' ≠ 0 := fun h => by have := s2.len.1.2 h; omega
  have hq : ((m' : Int) == 0) = false := beq_eq_false_iff_ne.2 (by omega)
  have S1 := hid s1
  have S2 := hid s2
  obtain ⟨x, o, ⟨ao, c1, rfl, -⟩, -⟩ := s1
  obtain ⟨y, p, ⟨bo, c2, rfl, y1, y2, y3, y4, y5⟩, yn, ye⟩ := s2
  have YE := hid ye
  clear yn ye y4
  by_cases hlt : a < b
  · have hc := cmpI_lt hlt
    clear y5 y3
    go_wp2_with fail
    refine (cmp_nt _ _ n' m' a b _ S1.out.nt S2.out.nt).mono ?_
    rintro e w1 ⟨rfl, i, rfl⟩
    rw [hc]
    go_wp2_with fail
    refine (norm_any _ n' a _ (S1.out.nt.drewN i) (by omega)).mono ?_
    rintro e w2 ⟨k, X, rfl, R1, W1, N1, V1, l3, B1, -⟩
    have HV1 := hid V1
    clear V1
    go_wp2
    go_ret3
    exact ⟨_, _, 0, k, 0, a, rfl, nil_nz _, Nz.of_row R1 W1 N1 HV1.out (by omega), by omega, ha, hlt, by omega, by omega, Below.drewN' i B1⟩
  · have hc := cmpI_ge hlt
    have hcb : decide (cmpI a b < 0) = false := by simpa using hc
    by_cases hm1 : m' = 1
    · subst hm1
      obtain ⟨b0, off, rfl, hb0, hcy⟩ := y5 (by omega)
      have hc0 := hcy 0 (by omega)
      obtain ⟨f0, f1⟩ := y3 0 (by omega)
      have hby : y (p + 0) = b := by have := YE.out; simpa [V, P] using this
      rw [hby] at hc0 f0 f1
      rw [Nat.add_zero] at hc0
      clear y5 y3 hcy hby
      go_wp2_with fail
      refine (cmp_nt _ _ n' 1 a b _ S1.out.nt S2.out.nt).mono ?_
      rintro e w1 ⟨rfl, i, rfl⟩
      go_wp2_with fail
      refine (divWord_any _ n' a b _ (S1.out.nt.drewN i) (by omega) hb f1).mono ?_
      rintro e w2 ⟨v', k, q, r, rfl, s3, e3, r0, r1, l3, B1⟩
      have HE3 := hid e3
      clear e3
      go_wp2_with fail
      refine (norm_any _ 1 r _ (Nt.one w2 r r0 (by omega)) (by omega)).mono ?_
      rintro e w3 ⟨k2, X, rfl, R2, W2, N2, V2, l4, B2, -⟩
      have HV2 := hid V2
      clear V2
      go_wp2
      go_ret3
      have R2' : Row w3 (w2.heap.size + 1) k2 X := by simpa using R2
      have B3 : Below w2.heap.size w2 w3 := (((Below.refl _ _).alloc (Nat.le_refl _) _).trans (B2.mono (by simp)))
      exact ⟨v', _, k, k2, q, r, rfl, s3.below B3, Nz.of_row R2' W2 N2 HV2.out (by omega), HE3.out, r0, r1, by omega, by omega, (Below.drewN' i B1).trans (B3.mono B1.size)⟩
    · have hq1 : ((m' : Int) == 1) = false := beq_eq_false_iff_ne.2 (by omega)
      have hbig : P 1 ≤ b := by
        apply Int.not_lt.1
        intro h
        have := S2.out.len.2 h
        omega
      have HL' : Hid LongSaid := HLL.out hbig
      clear y5 y3 hbig HLL
      go_wp2_with fail
      refine (cmp_nt _ _ n' m' a b _ S1.out.nt S2.out.nt).mono ?_
      rintro e w1 ⟨rfl, i, rfl⟩
      go_wp2_with fail
      refine (HL'.out _ _ n' m' a b _ (S1.out.drewN i) (S2.out.drewN i) (by omega) (by omega) (by omega) (by omega)).mono ?_
      rintro e w2 ⟨v1, v2, k1, k2, q, r, rfl, s3, s4, e3, r0, r1, l3, l4, B1⟩
      have HE3 := hid e3
      clear e3
      go_wp2
      go_ret3
      exact ⟨v1, v2, k1, k2, q, r, rfl, s3, s4, HE3.out, r0, r1, by omega, by omega, Below.drewN' i B1⟩
end Go.Proofs.YtnaiahjgdakneaaGreatDoor
