/- What 'moveDown', 'takeTimes' and 'addBack' do to words. -/
import Derived.Test.YtnaiahjgdakneaaGreatDoorMov
namespace Go.Proofs.YtnaiahjgdakneaaGreatDoor
open Go.RowKit Num

theorem lo_mul (c : Int) (s : Nat) (hs : s ≤ 63) : lo (c * 2 ^ (64 - s)) = 2 ^ (64 - s) * (c % 2 ^ s) := by
  unfold lo
  rw [← pow_split s hs, Int.mul_comm c, Int.mul_emod_mul_of_pos _ _ (Int.pow_pos (by decide))]
/-- a word moved down, and what comes from above. -/
theorem or_down (x c : Int) (s : Nat) (hs : s ≤ 63) (hx : 0 ≤ x) (hx' : x ≤ 18446744073709551615) (hc : 0 ≤ c) :
    bits .or .u64 (x / 2 ^ s) (IntKind.u64.wrap (c * 2 ^ (64 - s))) = x / 2 ^ s + lo (c * 2 ^ (64 - s)) ∧ 0 ≤ x / 2 ^ s + lo (c * 2 ^ (64 - s)) ∧ x / 2 ^ s + lo (c * 2 ^ (64 - s)) ≤ 18446744073709551615 := by
  obtain ⟨x, rfl⟩ := Int.eq_ofNat_of_zero_le hx
  obtain ⟨c, rfl⟩ := Int.eq_ofNat_of_zero_le hc
  have hKpos : 0 < 2 ^ s := Nat.two_pow_pos s
  have hMpos : 0 < 2 ^ (64 - s) := Nat.two_pow_pos _
  have hMK : 2 ^ (64 - s) * 2 ^ s = 18446744073709551616 := by rw [← Nat.pow_add, show 64 - s + s = 64 by omega]
  have pK : (2 : Int) ^ s = ((2 ^ s : Nat) : Int) := by simp
  have pM : (2 : Int) ^ (64 - s) = ((2 ^ (64 - s) : Nat) : Int) := by simp
  have hlt : x / 2 ^ s < 2 ^ (64 - s) := by rw [Nat.div_lt_iff_lt_mul hKpos, hMK]; omega
  have e1 : lo ((c : Int) * 2 ^ (64 - s)) = ((c % 2 ^ s * 2 ^ (64 - s) : Nat) : Int) := by
    rw [lo_mul _ s hs, pK, pM, Int.natCast_mul, Int.natCast_emod, Int.mul_comm]
  have e0 : IntKind.u64.wrap ((c : Int) * 2 ^ (64 - s)) = lo ((c : Int) * 2 ^ (64 - s)) := by rw [IntKind.wrap_u64]; rfl
  have e2 : (x : Int) / 2 ^ s = ((x / 2 ^ s : Nat) : Int) := by rw [pK, Int.natCast_ediv]
  rw [e0, e1, e2]
  have hc1 : c % 2 ^ s < 2 ^ s := Nat.mod_lt _ hKpos
  have hsum : c % 2 ^ s * 2 ^ (64 - s) + x / 2 ^ s < 18446744073709551616 := by
    have : (c % 2 ^ s + 1) * 2 ^ (64 - s) ≤ 2 ^ s * 2 ^ (64 - s) := Nat.mul_le_mul_right _ hc1
    rw [Nat.add_mul, Nat.mul_comm (2 ^ s), hMK] at this
    omega
  have hor := or_add (c % 2 ^ s) (x / 2 ^ s) (64 - s) hlt
  clear e0 e1 e2
  generalize c % 2 ^ s * 2 ^ (64 - s) = Q at *
  generalize x / 2 ^ s = R at *
  rw [bits_or_u64_nat _ _ (by omega) (by omega), Nat.or_comm, hor]
  omega
theorem down_step {y c T T2 B K M : Int} (hK : 0 < K) (hB : M * K = B) (hT : T = c + B * T2) : y / K + M * (c % K) + B * (T / K) = (y + B * T) / K := by
  have e1 : T % K = c % K := by
    rw [hT, ← hB, show c + M * K * T2 = c + K * (M * T2) by grind, Int.add_mul_emod_self_left]
  have e2 := Int.emod_add_mul_ediv T K
  have e3 : M * T = M * (c % K) + B * (T / K) := by
    rw [← e1, ← hB]
    generalize T / K = q at *
    generalize T % K = r at *
    rw [← e2]; grind
  rw [show y + B * T = y + K * (M * T) by rw [← hB]; grind, Int.add_mul_ediv_left _ _ (by omega), e3]
  omega

set_option maxHeartbeats 800000 in
set_option maxRecDepth 100000 in
theorem moveDown_any (g oz cz N : Nat) (X : Nat → Int) (v : Value) (n : Nat) (y : Nat → Int) (p s : Nat) (w : World)
    (hz : Row w g N X) (hN : oz + n ≤ N) (hcz : n ≤ cz) (hbz : cz ≤ 9223372036854775807) (hy : SlN g w v n y p) (hs : s ≤ 63) (hX : Wd X oz n) :
    Calls Tryz.prog 70 #[.slice (some ⟨g, oz, none⟩) n cz, v, .int .u64 s] w fun e w' => e = .returned (.tuple #[]) ∧
      ∃ X', Row w' g N X' ∧ Only g w w' ∧ V X' oz n = V y p n / 2 ^ s ∧ Wd X' oz n ∧ (∀ j, j < oz ∨ oz + n ≤ j → X' j = X j) := by
  obtain ⟨ao, cy, rfl, y1, y2, y3, y4, y5⟩ := hy
  have HX := hid hX
  have HY3 := hid y3
  clear hX y3
  go_enter Tryz.func70, Tryz.ntmps70
  go_wp2
  go_loopw [6, 7] (fun bs i wr => ∃ (k : Nat) (c : Int) (X' : Nat → Int), k ≤ n ∧ bs = .int .u64 c ∧ i = .int .i64 ((k : Int) - 1) ∧
     Hid (Row wr g N X' ∧ Only g w wr ∧ V X' (oz + k) (n - k) = V y (p + k) (n - k) / 2 ^ s ∧ Wd X' oz n ∧ (∀ j, j < oz + k ∨ oz + n ≤ j → X' j = X j) ∧ ∃ T2, V y (p + k) (n - k) = c + 18446744073709551616 * T2) ∧ 0 ≤ c) (fun _ i _ => (intOf i + 1).toNat)
  case atStart => exact ⟨n, 0, X, Nat.le_refl _, rfl, rfl, ⟨hz, Only.refl _ _, by simp [V], HX.out, fun _ _ => rfl, 0, by simp [V]⟩, by decide⟩
  case round =>
    obtain ⟨k, c, X', hk, rfl, rfl, hr, c0⟩ := hrel
    cases k with
    | zero =>
      go_wp2
      go_end0
      obtain ⟨h1, h2, h3, h4, h5, -⟩ := hr.out
      exact ⟨rfl, X', h1, h2, by simpa using h3, h4, fun j hj => h5 j (by omega)⟩
    | succ k =>
      obtain ⟨b, off, rfl, hb, hbg, hc⟩ := y5 (by omega)
      obtain ⟨h1, h2, h3, h4, h5, h6⟩ := hr.out
      have gy : wr.cell? ⟨b, off + k, none⟩ = some (.int .u64 (y (p + k))) := (h2.cell (p := ⟨b, off + k, none⟩) hbg).trans (hc k (by omega))
      have gz : wr.cell? ⟨g, oz + k, none⟩ = some (.int .u64 (X' (oz + k))) := h1.cell (by omega)
      have gf := h1.frozen (oz + k)
      obtain ⟨q0, q1⟩ := HY3.out k (by omega)
      obtain ⟨ho, ho1, ho2⟩ := or_down (y (p + k)) c s hs q0 q1 c0
      have gy2 : ∀ u, (wr.setCell ⟨g, oz + k, none⟩ u).cell? ⟨b, off + k, none⟩ = some (.int .u64 (y (p + k))) := fun u => by
        rw [World.cell?_setCell_other _ _ _ _ (fun e => hbg (congrArg Addr.block e).symm)]; exact gy
      clear h1 h2 h3 h4 h5 h6 hz hc y5
      go_wp2
      refine ⟨⟨k, y (p + k), upd X' (oz + k) (y (p + k) / 2 ^ s + lo (c * 2 ^ (64 - s))), by omega, rfl, rfl, ?_, q0⟩, by simp [intOf]⟩
      obtain ⟨h1, h2, h3, h4, h5, T2, h6⟩ := hr.out
      obtain ⟨m, hm⟩ : ∃ m, n - k = m + 1 := ⟨n - k - 1, by omega⟩
      rw [show n - (k + 1) = m by omega] at h3 h6
      refine ⟨h1.set _ _, h2.set _ _, ?_, Wd_upd h4 ho1 ho2, ?_, ?_⟩
      · rw [hm, V_low, V_low, upd_same, V_upd_out m (by omega), show oz + k + 1 = oz + (k + 1) by omega, show p + k + 1 = p + (k + 1) by omega, h3, lo_mul c s hs]
        exact down_step (Int.pow_pos (by decide)) (pow_split s hs) h6
      · intro j hj; rw [upd_other _ _ _ _ (by omega)]; exact h5 j (by omega)
      · exact ⟨V y (p + k + 1) m, by rw [hm, V_low]⟩

/-- how 'takeTimes' reckons a word. -/
theorem take_word (m o x : Int) (hm : 0 ≤ m) (hm' : m ≤ 340282366920938463426481119284349108225) (ho : 0 ≤ o ∧ o ≤ 18446744073709551615) (hx : 0 ≤ x ∧ x ≤ 18446744073709551615) :
    hi m + hi (lo m + o) ≤ 18446744073709551615 ∧ hi m + hi (lo m + o) + db x (lo (lo m + o)) 0 ≤ 18446744073709551615 ∧ dl x (lo (lo m + o)) 0 - (hi m + hi (lo m + o) + db x (lo (lo m + o)) 0) * 18446744073709551616 = x - m - o ∧ 0 ≤ hi m ∧ 0 ≤ hi (lo m + o) ∧ 0 ≤ db x (lo (lo m + o)) 0 ∧ 0 ≤ dl x (lo (lo m + o)) 0 ∧ dl x (lo (lo m + o)) 0 ≤ 18446744073709551615 := by
  unfold dl db hi lo; split <;> omega
theorem take_step (x : Nat → Int) (o k : Nat) (d q m c t : Int) (he : d - q * 18446744073709551616 = x (o + k) - m - c) (h : V x o k - c * P k = t) :
    V (upd x (o + k) d) o (k + 1) - q * P (k + 1) = t + x (o + k) * P k - m * P k := by
  rw [V_upd_top]
  simp only [P]
  generalize P k = p at *
  generalize x (o + k) = u at *
  have : d = u - m - c + q * 18446744073709551616 := by omega
  rw [← h, this]; grind
theorem word_sq {a b : Int} (ha : 0 ≤ a ∧ a ≤ 18446744073709551615) (hb : 0 ≤ b ∧ b ≤ 18446744073709551615) : 0 ≤ a * b ∧ a * b ≤ 340282366920938463426481119284349108225 := by
  refine ⟨Int.mul_nonneg ha.1 hb.1, ?_⟩
  have : a * b ≤ 18446744073709551615 * b := Int.mul_le_mul_of_nonneg_right ha.2 hb.1
  omega
theorem sub64_0 (x y : Int) (hx : 0 ≤ x) (hy : 0 ≤ y) (hy' : y ≤ 18446744073709551615) (w : World) :
    (callFunc 104 #[.int .u64 x, .int .u64 y, .int .u64 0]).run Tryz.prog w = .ok (.value (.tuple #[.int .u64 (dl x y 0), .int .u64 (db x y 0)])) w := sub64 x y 0 hx hy hy' (Int.le_refl 0) (by decide) w

set_option maxHeartbeats 800000 in
set_option maxRecDepth 100000 in
theorem takeTimes_any (g oz nz cz N : Nat) (X : Nat → Int) (v : Value) (ny : Nat) (y : Nat → Int) (p : Nat) (f : Int) (w : World)
    (hz : Row w g N X) (hN : oz + nz ≤ N) (_hcz : nz ≤ cz) (_hbz : cz ≤ 9223372036854775807) (hX : Wd X oz nz)
    (hy : SlN g w v ny y p) (hny : ny ≤ nz) (hf0 : 0 ≤ f) (hf1 : f ≤ 18446744073709551615) :
    Calls Tryz.prog 90 #[.slice (some ⟨g, oz, none⟩) nz cz, v, .int .u64 f] w fun e w' => ∃ c X', e = .returned (.int .u64 c) ∧
      Row w' g N X' ∧ Only g w w' ∧ V X' oz ny - c * P ny = V X oz ny - V y p ny * f ∧ Wd X' oz nz ∧ (∀ j, j < oz ∨ oz + ny ≤ j → X' j = X j) ∧ 0 ≤ c ∧ c ≤ 18446744073709551615 := by
  obtain ⟨ao, cy, rfl, y1, y2, y3, y4, y5⟩ := hy
  go_enter Tryz.func90, Tryz.ntmps90
  go_wp2
  go_loopw [7, 15] (fun cs i wr => ∃ (k : Nat) (c : Int) (X' : Nat → Int), k ≤ ny ∧ cs = .int .u64 c ∧ i = .int .i64 k ∧
     Hid (Row wr g N X' ∧ Only g w wr ∧ V X' oz k - c * P k = V X oz k - V y p k * f ∧ Wd X' oz nz ∧ (∀ j, j < oz ∨ oz + k ≤ j → X' j = X j)) ∧ 0 ≤ c ∧ c ≤ 18446744073709551615) (fun _ i _ => ny - (intOf i).toNat)
  case atStart => exact ⟨0, 0, X, Nat.zero_le _, rfl, rfl, ⟨hz, Only.refl _ _, by simp [V], hX, fun _ _ => rfl⟩, by decide, by decide⟩
  case round =>
    obtain ⟨k, c, X', hk, rfl, rfl, hr, c0, c1⟩ := hrel
    by_cases hlt : k < ny
    · obtain ⟨b, off, rfl, hb, hbg, hc⟩ := y5 (by omega)
      obtain ⟨h1, h2, h3, h4, h5⟩ := hr.out
      have gy : wr.cell? ⟨b, off + k, none⟩ = some (.int .u64 (y (p + k))) := (h2.cell (p := ⟨b, off + k, none⟩) hbg).trans (hc k hlt)
      have gz : wr.cell? ⟨g, oz + k, none⟩ = some (.int .u64 (X' (oz + k))) := h1.cell (by omega)
      have gf := h1.frozen (oz + k)
      have qx := h4 k (by omega)
      have qy := y3 k hlt
      have mb := word_sq qy ⟨hf0, hf1⟩
      obtain ⟨t1, t2, t3, t4, t5, t6, t7, t8⟩ := take_word (y (p + k) * f) c (X' (oz + k)) mb.1 mb.2 ⟨c0, c1⟩ qx
      have T3 := hid t3
      have bq := lo_nonneg (y (p + k) * f)
      have br := lo_nonneg (lo (y (p + k) * f) + c)
      have br' := lo_le (lo (y (p + k) * f) + c)
      obtain ⟨qx0, qx1⟩ := qx
      obtain ⟨qy0, qy1⟩ := qy
      clear h1 h2 h3 h4 h5 t3 hz hc y5 hX mb y3
      go_wp2_with (first
        | (go_at_call 84; refine (mul64 _ _ qy0 qy1 hf0 hf1 _).mono ?_; rintro e w1 ⟨rfl, rfl⟩)
        | simp only [add64_0 (lo (y (p + k) * f)) c bq c0]
        | simp only [sub64_0 (X' (oz + k)) (lo (lo (y (p + k) * f) + c)) qx0 br br'])
      refine ⟨⟨k + 1, _, upd X' (oz + k) (dl (X' (oz + k)) (lo (lo (y (p + k) * f) + c)) 0), by omega, rfl, by go_num, ?_, by omega, t2⟩, by simp [intOf]; omega⟩
      obtain ⟨h1, h2, h3, h4, h5⟩ := hr.out
      refine ⟨h1.set _ _, h2.set _ _, ?_, Wd_upd h4 t7 t8, ?_⟩
      · rw [take_step X' oz k _ _ (y (p + k) * f) c _ T3.out h3, h5 (oz + k) (by omega)]
        simp only [V]
        grind
      · intro j hj
        rw [upd_other _ _ _ _ (by omega)]
        exact h5 j (by omega)
    · have hkn : k = ny := by omega
      subst hkn
      go_wp2
      go_ret
      obtain ⟨h1, h2, h3, h4, h5⟩ := hr.out
      exact ⟨c, X', rfl, h1, h2, h3, h4, h5, c0, c1⟩

set_option maxHeartbeats 800000 in
theorem addBack_any (g oz nz cz N : Nat) (X : Nat → Int) (v : Value) (ny : Nat) (y : Nat → Int) (p : Nat) (w : World)
    (hz : Row w g N X) (hN : oz + nz ≤ N) (_hcz : nz ≤ cz) (_hbz : cz ≤ 9223372036854775807) (hX : Wd X oz nz)
    (hy : SlN g w v ny y p) (hny : ny ≤ nz) :
    Calls Tryz.prog 91 #[.slice (some ⟨g, oz, none⟩) nz cz, v] w fun e w' => e = .returned (.tuple #[]) ∧
      ∃ c X', Row w' g N X' ∧ Only g w w' ∧ V X' oz ny + c * P ny = V X oz ny + V y p ny ∧ Wd X' oz ny ∧ ∀ j, j < oz ∨ oz + ny ≤ j → X' j = X j := by
  obtain ⟨ao, cy, rfl, y1, y2, y3, y4, y5⟩ := hy
  go_enter Tryz.func91, Tryz.ntmps91
  go_wp2
  go_loopw [4, 9] (fun cs i wr => ∃ (k : Nat) (c : Int) (X' : Nat → Int), k ≤ ny ∧ cs = .int .u64 c ∧ i = .int .i64 k ∧ AddRel g N oz X w k (V X oz k + V y p k) c X' wr) (fun _ i _ => ny - (intOf i).toNat)
  case atStart => exact ⟨0, 0, X, Nat.zero_le _, rfl, rfl, hz, Only.refl _ _, by simp [V], fun j hj => by omega, fun _ _ => rfl, by decide, by decide⟩
  case round =>
    obtain ⟨k, c, X', hk, rfl, rfl, hr⟩ := hrel
    by_cases hlt : k < ny
    · obtain ⟨b, off, rfl, hb, hbg, hc⟩ := y5 (by omega)
      have hst := hr.step (y (p + k)) (y3 k hlt) (hX k (by omega))
      obtain ⟨h1, h2, h3, h4, h5, h6, h7⟩ := hr
      have gy : wr.cell? ⟨b, off + k, none⟩ = some (.int .u64 (y (p + k))) := (h2.cell (p := ⟨b, off + k, none⟩) hbg).trans (hc k hlt)
      have gz : wr.cell? ⟨g, oz + k, none⟩ = some (.int .u64 (X' (oz + k))) := h1.cell (by omega)
      have gf := h1.frozen (oz + k)
      have e5 := h5 (oz + k) (Or.inr (Nat.le_refl _))
      have q1 : 0 ≤ X' (oz + k) := by rw [e5]; exact (hX k (by omega)).1
      have q2 : 0 ≤ y (p + k) := (y3 k hlt).1
      have Hst := hid hst
      clear hst e5 h1 h2 h3 h4 h5 hz hc y5
      go_wp2_with (simp only [add64 (X' (oz + k)) (y (p + k)) c q1 q2 h6 h7])
      refine ⟨⟨k + 1, _, upd X' (oz + k) (lo (X' (oz + k) + y (p + k) + c)), by omega, rfl, by go_num, ?_⟩, by simp [intOf]; omega⟩
      have := Hst.out
      simp only [V]
      rw [show V X oz k + X (oz + k) * P k + (V y p k + y (p + k) * P k) = V X oz k + V y p k + X (oz + k) * P k + y (p + k) * P k by omega]
      exact this
    · have hkn : k = ny := by omega
      subst hkn
      have HR := hid hr
      clear hr y5
      go_wp2
      go_end0
      obtain ⟨h1, h2, h3, h4, h5, h6, h7⟩ := HR.out
      exact ⟨rfl, c, X', h1, h2, h3, h4, h5⟩
end Go.Proofs.YtnaiahjgdakneaaGreatDoor
