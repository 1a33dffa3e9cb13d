/- "Bits", "Shl" and "Shr" of package nat. -/
import Derived.Test.YtnoeclmccbhkmaaDoorRefr
import Derived.Test.YtnoeclmccbhkmaaDoorMovb
import Derived.Lib.ItoaNum
namespace Go.Proofs.YtnoeclmccbhkmaaDoor
open Go.RowKit Num
open Go.Lib (decDigits)
theorem P_two : ∀ j, P j = ((2 ^ (64 * j) : Nat) : Int)
  | 0 => by simp [P]
  | j + 1 => by
    rw [P, P_two j, show 64 * (j + 1) = 64 * j + 64 by omega, Nat.pow_add, Int.natCast_mul]
    rfl
theorem bits_top {x : Nat → Int} {o j : Nat} (hw : Wd x o (j + 1)) (ht : x (o + j) ≠ 0) :
    BitsIs (V x o (j + 1)).toNat (64 * j + Lib.bitLen (x (o + j)).toNat) ∧ Lib.bitLen (x (o + j)).toNat ≤ 64 := by
  obtain ⟨t0, t1⟩ := hw j (by omega)
  obtain ⟨t, e⟩ := Int.eq_ofNat_of_zero_le t0
  have hv : V x o (j + 1) = V x o j + x (o + j) * P j := rfl
  have hb := V_bd j (hw.mono (by omega))
  rw [hv, P_two, e, Int.toNat_natCast]
  rw [P_two] at hb
  obtain ⟨v, ev⟩ := Int.eq_ofNat_of_zero_le hb.1
  rw [ev] at hb ⊢
  have hb2 : v < 2 ^ (64 * j) := by omega
  have htn : t ≠ 0 := by rintro rfl; exact ht (by rw [e]; rfl)
  have htl : t < 2 ^ 64 := by have : (2 : Nat) ^ 64 = 18446744073709551616 := by decide
                              omega
  obtain ⟨l1, l2, l3⟩ := Lib.bitLenAux_bounds 64 t htl htn
  have e2 : (v : Int) + (t : Int) * ((2 ^ (64 * j) : Nat) : Int) = ((v + t * 2 ^ (64 * j) : Nat) : Int) := by rw [Int.natCast_add, Int.natCast_mul]
  rw [e2, Int.toNat_natCast]
  show BitsIs _ (64 * j + Lib.bitLenAux 64 t) ∧ Lib.bitLenAux 64 t ≤ 64
  generalize Lib.bitLenAux 64 t = L at *
  refine ⟨⟨?_, Or.inr ?_⟩, ?_⟩
  · have e3 : 2 ^ (64 * j + L) = 2 ^ L * 2 ^ (64 * j) := by rw [Nat.pow_add, Nat.mul_comm]
    rw [e3]
    have : (t + 1) * 2 ^ (64 * j) ≤ 2 ^ L * 2 ^ (64 * j) := Nat.mul_le_mul_right _ (by omega)
    rw [Nat.add_mul] at this
    omega
  · have e3 : 2 ^ (64 * j + L - 1) = 2 ^ (L - 1) * 2 ^ (64 * j) := by rw [show 64 * j + L - 1 = 64 * j + (L - 1) by omega, Nat.pow_add, Nat.mul_comm]
    rw [e3]
    have : 2 ^ (L - 1) * 2 ^ (64 * j) ≤ t * 2 ^ (64 * j) := Nat.mul_le_mul_right _ l2
    omega
  · apply Decidable.byContradiction
    intro h
    have : 2 ^ 64 ≤ 2 ^ (L - 1) := Nat.pow_le_pow_right (by decide) (by omega)
    omega
set_option maxHeartbeats 800000 in
set_option maxRecDepth 100000 in
theorem nbits_any (v : Value) (n : Nat) (a : Int) (w : World) (h : Nt w v n a) (hn : n ≤ 1000) :
    Calls Tryd.prog 31 #[v] w fun e w' => (∃ k : Nat, e = .returned (.int .i64 k) ∧ BitsIs a.toNat k) ∧ Below w.heap.size w w' := by
  have H := hid (trimmed_nt v n a w h)
  clear h
  go_enter Tryd.func31, Tryd.ntmps31
  go_wp2_with fail
  refine H.out.mono ?_
  rintro e w1 ⟨⟨v', k, rfl, hz, hk⟩, rfl⟩
  obtain ⟨x, o, ⟨ao, cap, rfl, h1, h2, h3, h4, h5⟩, hnm, hv⟩ := hz
  by_cases h0 : k = 0
  · subst h0
    have ha : a = 0 := by rw [← hv]; rfl
    subst ha
    clear h5 hnm hv h3
    go_wp2
    go_ret
    exact ⟨⟨0, rfl, by decide, Or.inl rfl⟩, Below.refl _ _⟩
  · obtain ⟨j, rfl⟩ : ∃ j, k = j + 1 := ⟨k - 1, by omega⟩
    have ht : x (o + j) ≠ 0 := by rcases hnm with e | e; omega; simpa using e
    obtain ⟨b, off, rfl, hb, hc⟩ := h5 (by omega)
    have hcj := hc j (by omega)
    obtain ⟨t0, t1⟩ := h3 j (by omega)
    obtain ⟨bt1, bt2⟩ := bits_top h3 ht
    rw [hv] at bt1
    have BT := hid bt1
    have LN := hid (fun W => Tryd.bits_Len64 (x (o + j)) W t0 t1)
    have hk0 : ((j : Int) + 1 == 0) = false := by rw [beq_eq_false_iff_ne]; omega
    clear bt1 h5 hc hnm hv h3 ht
    generalize Lib.bitLen (x (o + j)).toNat = L at *
    generalize x (o + j) = t at *
    go_wp2_with fail
    refine (LN.out _).mono ?_
    rintro e w2 ⟨rfl, rfl⟩
    go_wp2
    go_ret
    exact ⟨⟨64 * j + L, by rw [Int.natCast_add, Int.natCast_mul]; rfl, BT.out⟩, Below.refl _ _⟩
theorem up_value {X Y : Nat → Int} {p q k r : Nat} (h0 : ∀ j, j < q → X j = 0) (hv : V X q (k + 1) = V Y p k * 2 ^ r) : V X 0 (q + (k + 1)) = V Y p k * 2 ^ (64 * q + r) := by
  rw [V_split X 0 q (k + 1), V_zero q (fun j hj => by rw [Nat.zero_add]; exact h0 j hj), Nat.zero_add, hv, P_two, Int.pow_add, Int.natCast_pow]
  have e : ((2 : Nat) : Int) ^ (64 * q) = 2 ^ (64 * q) := rfl
  rw [e]
  generalize (2 : Int) ^ (64 * q) = c
  generalize (2 : Int) ^ r = d
  generalize V Y p k = z
  grind
theorem up_wd {X : Nat → Int} {q k : Nat} (h0 : ∀ j, j < q → X j = 0) (h : Wd X q (k + 1)) : Wd X 0 (q + (k + 1)) := by
  intro j hj
  rw [Nat.zero_add]
  by_cases e : j < q
  · rw [h0 j e]; decide
  · have := h (j - q) (by omega)
    rwa [show q + (j - q) = j by omega] at this
set_option maxHeartbeats 800000 in
set_option maxRecDepth 100000 in
theorem shl_any (v : Value) (n : Nat) (a : Int) (s q r : Nat) (w : World) (h : Nt w v n a) (hn : n ≤ 1000) (hs : s = 64 * q + r) (hr : r ≤ 63) (hs2 : s ≤ 1000) :
    Calls Tryd.prog 29 #[v, .int .i64 s] w fun e w' => ∃ v' k, e = .returned (.tuple #[v', .int .i64 0]) ∧ Nz w' v' k (a * 2 ^ s) ∧ k ≤ n + 17 ∧ Below w.heap.size w w' := by
  have H := hid (trimmed_nt v n a w h)
  have g1 : ¬ (s : Int) < 0 := by omega
  have g2 : ¬ (262144 : Int) < (s : Int) := by omega
  have dq : (s : Int) / 64 = (q : Int) := by omega
  have dq2 : (s : Int).tdiv 64 = (q : Int) := by rw [Int.tdiv_eq_ediv_of_nonneg (by omega)]; omega
  have dr : (s : Int) % 64 = (r : Int) := by omega
  have dr2 : (s : Int).tmod 64 = (r : Int) := by rw [Int.tmod_eq_emod_of_nonneg (by omega)]; omega
  clear h
  go_enter Tryd.func29, Tryd.ntmps29
  go_wp2_with fail
  refine H.out.mono ?_
  rintro e w1 ⟨⟨v', k, rfl, hz, hk⟩, rfl⟩
  obtain ⟨x, o, sl, hnm, hv⟩ := hz
  have SL := hid sl
  have HV := hid hv
  obtain ⟨ao, cap, rfl, -⟩ := sl
  clear hnm hv
  go_wp2_with (at_make; refine wp_make w1 rfl _ _ rfl _ _ (q + (k + 1)) rfl rfl (by omega) (by omega) (by omega) ?_; intro w2 R2 C2 Z2; have HZ := hid Z2; clear Z2)
  rw [show (64 * q + r) / 64 = q by omega, show q + (k + 1) - q = k + 1 by omega, show (r : Int) % 64 = (r : Int) by omega]
  refine (moveUp_any w1.heap.size q (k + 1) (q + (k + 1)) _ _ k x o r w2 R2 (by omega) (by omega) (by omega) (SL.out.apart C2 (Nat.le_refl _)) hr).mono ?_
  rintro e w3 ⟨rfl, X3, R3, O3, V3, W3, F3, -⟩
  have hz0 : ∀ j, j < q → X3 j = 0 := fun j hj => F3 j (Or.inl hj)
  have HV3 := hid (up_value hz0 V3)
  have HW3 := hid (up_wd hz0 W3)
  have T3 := C2.trans (O3.below (Nat.le_refl _))
  clear V3 F3 hz0 R2
  go_wp2_with fail
  refine (trimmed_own w1.heap.size w1.heap.size (q + (k + 1)) (q + (k + 1)) X3 _ w3 R3 (Nat.le_refl _) (Nat.le_refl _) HW3.out HV3.out (by omega)).mono ?_
  rintro e w4 ⟨⟨v4, k4, rfl, s4, l4⟩, rfl⟩
  have S4 := hid s4.nz
  rw [HV.out] at S4
  obtain ⟨bo, cb, rfl⟩ := s4.nz.shape
  clear s4
  go_wp2
  go_ret2
  exact ⟨.slice bo k4 cb, k4, rfl, by rw [hs]; exact S4.out, by omega, T3⟩
set_option maxHeartbeats 800000 in
set_option maxRecDepth 100000 in
theorem shl_neg (v : Value) (s : Int) (w : World) (h : s < 0) :
    Calls Tryd.prog 29 #[v, .int .i64 s] w fun e w' => e = .returned (.tuple #[.slice none 0 0, .int .i64 1]) ∧ w' = w := by
  go_enter Tryd.func29, Tryd.ntmps29
  go_wp2
  go_ret2
  exact ⟨rfl, rfl⟩
set_option maxHeartbeats 800000 in
set_option maxRecDepth 100000 in
theorem shl_lim (v : Value) (s : Int) (w : World) (h : 262144 < s) :
    Calls Tryd.prog 29 #[v, .int .i64 s] w fun e w' => e = .returned (.tuple #[.slice none 0 0, .int .i64 13]) ∧ w' = w := by
  have g1 : ¬ s < 0 := by omega
  go_enter Tryd.func29, Tryd.ntmps29
  go_wp2
  go_ret2
  exact ⟨rfl, rfl⟩
set_option maxHeartbeats 800000 in
set_option maxRecDepth 100000 in
theorem shr_neg (v : Value) (s : Int) (w : World) (h : s < 0) :
    Calls Tryd.prog 30 #[v, .int .i64 s] w fun e w' => e = .returned (.tuple #[.slice none 0 0, .int .i64 1]) ∧ w' = w := by
  go_enter Tryd.func30, Tryd.ntmps30
  go_wp2
  go_ret2
  exact ⟨rfl, rfl⟩
set_option maxHeartbeats 800000 in
set_option maxRecDepth 100000 in
theorem shr_far (v : Value) (n : Nat) (a : Int) (s : Nat) (w : World) (h : Nt w v n a) (hs : 64 * n ≤ s) (hs2 : s ≤ 9223372036854775807) :
    Calls Tryd.prog 30 #[v, .int .i64 s] w fun e w' => e = .returned (.tuple #[.slice none 0 0, .int .i64 0]) ∧ w' = w := by
  have H := hid (trimmed_nt v n a w h)
  have g1 : ¬ (s : Int) < 0 := by omega
  clear h
  go_enter Tryd.func30, Tryd.ntmps30
  go_wp2_with fail
  refine H.out.mono ?_
  rintro e w1 ⟨⟨v', k, rfl, hz, hk⟩, rfl⟩
  obtain ⟨ao, cap, rfl⟩ := hz.shape
  obtain ⟨q, hq⟩ : ∃ q : Nat, (s : Int) / 64 = (q : Int) := ⟨s / 64, by omega⟩
  have hq2 : (s : Int).tdiv 64 = (q : Int) := by rw [Int.tdiv_eq_ediv_of_nonneg (by omega)]; exact hq
  have g2 : (k : Int) ≤ (q : Int) := by omega
  have g3 : (q : Int) ≤ 9223372036854775807 := by omega
  clear hz H
  go_wp2
  go_ret2
  exact ⟨rfl, rfl⟩
theorem down_value {x : Nat → Int} {o q k r : Nat} (hw : Wd x o (q + k)) : V x (o + q) k / 2 ^ r = V x o (q + k) / 2 ^ (64 * q + r) := by
  have hb := V_bd q (hw.mono (by omega))
  rw [V_split x o q k, Int.pow_add]
  have e : (2 : Int) ^ (64 * q) = P q := by rw [P_two, Int.natCast_pow]; rfl
  rw [e]
  have hp := P_pos q
  rw [← Int.ediv_ediv_of_nonneg (by omega), Int.add_mul_ediv_left _ _ (by omega), Int.ediv_eq_zero_of_lt hb.1 hb.2, Int.zero_add]
set_option maxHeartbeats 1600000 in
set_option maxRecDepth 100000 in
theorem shr_any (v : Value) (n : Nat) (a : Int) (s q r : Nat) (w : World) (h : Nt w v n a) (hn : n ≤ 1000) (hs : s = 64 * q + r) (hr : r ≤ 63) (hs2 : s ≤ 1000) :
    Calls Tryd.prog 30 #[v, .int .i64 s] w fun e w' => ∃ v' k, e = .returned (.tuple #[v', .int .i64 0]) ∧ Nz w' v' k (a / 2 ^ s) ∧ k ≤ n ∧ Below w.heap.size w w' := by
  have H := hid (trimmed_nt v n a w h)
  have g1 : ¬ (s : Int) < 0 := by omega
  clear h
  go_enter Tryd.func30, Tryd.ntmps30
  go_wp2_with fail
  refine H.out.mono ?_
  rintro e w1 ⟨⟨v', k, rfl, hz, hk⟩, rfl⟩
  by_cases hge : k ≤ q
  · have hv0 : a / 2 ^ s = 0 := by
      have h1 := hz.nt.lt
      have h2 := P_le hge
      rw [P_two q] at h2
      have h3 : (2 ^ (64 * q) : Nat) ≤ 2 ^ s := Nat.pow_le_pow_right (by decide) (by omega)
      have h4 : ((2 ^ s : Nat) : Int) = 2 ^ s := by rw [Int.natCast_pow]; rfl
      exact Int.ediv_eq_zero_of_lt hz.nt.nonneg (by rw [← h4]; omega)
    have HV0 := hid hv0
    obtain ⟨ao, cap, rfl⟩ := hz.shape
    have g2 : (k : Int) ≤ (s : Int) / 64 := by omega
    clear hz H hv0
    go_wp2
    go_ret2
    exact ⟨.slice none 0 0, 0, rfl, by rw [HV0.out]; exact nil_nz _, by omega, Below.refl _ _⟩
  · obtain ⟨m, rfl⟩ : ∃ m, k = q + m := ⟨k - q, by omega⟩
    obtain ⟨x, o, sl, hnm, hv⟩ := hz
    have hwd := sl.wd
    obtain ⟨ao, cap, rfl, s1, s2, s3, s4, s5⟩ := sl
    obtain ⟨b, off, rfl, hb, hc⟩ := s5 (by omega)
    have SD : Hid (Sl w1 (.slice (some ⟨b, off + q, none⟩) m (cap - q)) m x (o + q)) := ⟨_, _, rfl, by omega, by omega, (fun j hj => by have := hwd (q + j) (by omega); rwa [← Nat.add_assoc] at this), (fun e => by cases e), fun _ => ⟨b, off + q, rfl, hb, fun j hj => by have := hc (q + j) (by omega); rwa [← Nat.add_assoc, ← Nat.add_assoc] at this⟩⟩
    have DV := hid (down_value (r := r) hwd)
    rw [hv, ← hs] at DV
    have g2 : ¬ ((q + m : Nat) : Int) ≤ (s : Int) / 64 := by omega
    clear hnm hv hwd s3 s4 s5 hc H
    go_wp2_with (at_make; refine wp_make w1 rfl _ _ rfl _ _ m rfl rfl (by omega) (by omega) (by omega) ?_; intro w2 R2 C2 Z2; have HZ := hid Z2; clear Z2)
    rw [show (64 * q + r) / 64 = q by omega, show q + m - q = m by omega, show (r : Int) % 64 = (r : Int) by omega]
    refine (moveDown_any w1.heap.size 0 m m _ _ m x (o + q) r w2 R2 (by omega) (Nat.le_refl _) (by omega) (SD.out.apart C2 (Nat.le_refl _)) hr (fun j _ => by decide)).mono ?_
    rintro e w3 ⟨rfl, X3, R3, O3, V3, W3, -⟩
    have HV3 := hid (V3.trans DV.out)
    have T3 := C2.trans (O3.below (Nat.le_refl _))
    have HW3 := hid W3
    clear V3 R2 W3
    go_wp2_with fail
    refine (trimmed_own w1.heap.size w1.heap.size m m X3 _ w3 R3 (Nat.le_refl _) (Nat.le_refl _) HW3.out HV3.out (by omega)).mono ?_
    rintro e w4 ⟨⟨v4, k4, rfl, s4, l4⟩, rfl⟩
    have S4 := hid s4.nz
    obtain ⟨bo, cb, rfl⟩ := s4.nz.shape
    clear s4
    go_wp2
    go_ret2
    exact ⟨.slice bo k4 cb, k4, rfl, S4.out, by omega, T3⟩
end Go.Proofs.YtnoeclmccbhkmaaDoor
