/- The landed upoly: left, coefficient. -/
/- The landed upoly: coefficient. -/
/- The landed upoly: a quotient from its highest coefficient on; plain numbers. -/
/- The landed upoly: divide. -/
/- The landed upoly: divide of whatever, DivMod, Gcd. -/
/- The landed upoly: the law's examples. -/
/- The law of quotients (chapter 9), of the landed upoly. -/
import Derived.Test.YtjgipjiopagkiaaDoorGg
import Derived.Shelf.Spec.BitsCarry
namespace Go.Proofs.YtjgipjiopagkiaaDoor
open Go.RowKit Num Nmb

/-- a number of three words. -/
def tri (h m l : Int) : Int := (h * 18446744073709551616 + m) * 18446744073709551616 + l
theorem tri_left {h m l : Int} {p : Nat} : (((h * 18446744073709551616 + m) % p) % p * 18446744073709551616 + l) % p = tri h m l % p := by
  unfold tri
  rw [Int.emod_emod_of_dvd _ (Int.dvd_refl _), Int.add_emod, Int.mul_emod, Int.emod_emod_of_dvd _ (Int.dvd_refl _), ← Int.mul_emod, ← Int.add_emod]
theorem uadd64 (x y c : Int) (hx : 0 ≤ x) (hy : 0 ≤ y) (hc0 : 0 ≤ c) (hc : c ≤ 1) (w : World) :
    (callFunc 60 #[.int .u64 x, .int .u64 y, .int .u64 c]).run Tryd.prog w = .ok (.value (.tuple #[.int .u64 ((x + y + c) % 18446744073709551616), .int .u64 ((x + y + c) / 18446744073709551616)])) w := by
  obtain ⟨x, rfl⟩ := Int.eq_ofNat_of_zero_le hx
  obtain ⟨y, rfl⟩ := Int.eq_ofNat_of_zero_le hy
  obtain ⟨c, rfl⟩ := Int.eq_ofNat_of_zero_le hc0
  rw [run_callFunc_extern Tryd.func60 (by kernel_rfl) (by kernel_rfl) (by kernel_rfl) (e := add64Entry) (by kernel_rfl), run_add64 x y c (by omega) (by omega) (by omega) (by omega)]
  simp only [Result.andThen]
set_option maxHeartbeats 1600000 in
theorem uleft_any (g p : Nat) (h m l : Int) (w : World) (F : UF w g p) (hh : 0 ≤ h ∧ h < p) (hm : 0 ≤ m ∧ m ≤ 18446744073709551615) (hl : 0 ≤ l ∧ l ≤ 18446744073709551615) :
    Calls Tryd.prog 61 #[.pointer (some ⟨g, 0, none⟩), .int .u64 h, .int .u64 m, .int .u64 l] w fun e w' => e = .returned (.int .u64 (tri h m l % p)) ∧ ∃ k, w' = w.drewN k := by
  have h2 := F.two
  have UP : Hid (∀ q, Calls Tryd.prog 24 #[.pointer (some ⟨g, 0, none⟩)] (w.drewN q) fun e w' => e = .returned (.int .u64 p) ∧ w' = w.drewN q) := fun q => up_any g p _ (F.drew q)
  obtain ⟨gf, f, s, f1, f3, f5⟩ := F
  have cg : Hid (∀ q, (w.drewN q).cell? ⟨g, 0, none⟩ = some (.pointer (some ⟨gf, 0, none⟩))) := fun q => by simpa using f1.cell
  have OF : Hid (∀ (q : Nat) (x : Int), 0 ≤ x → Calls Tryd.prog 26 #[.pointer (some ⟨gf, 0, none⟩), .int .u64 x] (w.drewN q) fun e w' => e = .returned (.int .u64 (x % p)) ∧ w' = w.drewN q) := fun q x hx => of_any gf p f s x _ (f3.drew q) (by omega) hx
  have D1 : Hid (∀ (q : Nat) (x : Int), 0 ≤ x → x < p → Calls Tryd.prog 49 #[.int .u64 x, .int .u64 l, .int .u64 p] (w.drewN q) fun e w' => (∃ y, e = .returned (.tuple #[.int .u64 y, .int .u64 ((x * 18446744073709551616 + l) % p)])) ∧ ∃ q', w' = w.drewN q') := fun q x h1 h3 => by
    refine (div64_any x l p (w.drewN q) h1 hl.1 hl.2 h3 (by omega)).mono ?_
    rintro e w' ⟨rfl, k, rfl⟩
    exact ⟨⟨_, rfl⟩, q + k, by rw [World.drewN_drewN]⟩
  have D2 : Hid (Calls Tryd.prog 49 #[.int .u64 h, .int .u64 m, .int .u64 p] w fun e w' => (∃ y, e = .returned (.tuple #[.int .u64 y, .int .u64 ((h * 18446744073709551616 + m) % p)])) ∧ ∃ q', w' = w.drewN q') := by
    refine (div64_any h m p w hh.1 hm.1 hm.2 hh.2 (by omega)).mono ?_
    rintro e w' ⟨rfl, k, rfl⟩
    exact ⟨⟨_, rfl⟩, k, rfl⟩
  clear f1 f3 f5 hl
  have p0 : (0 : Int) < p := by omega
  by_cases h0 : h = 0
  · subst h0
    have E : Hid ((m % p * 18446744073709551616 + l) % p = tri 0 m l % p) := by
      have := @tri_left 0 m l p
      rw [Int.zero_mul, Int.zero_add, Int.emod_emod_of_dvd _ (Int.dvd_refl _)] at this
      exact this
    have O1 := hid (OF.out 0 m hm.1)
    have U1 := hid (UP.out 0)
    have c1 := cg.out 0
    have D3 := hid (D1.out 0 (m % p) (Int.emod_nonneg _ (by omega)) (Int.emod_lt_of_pos _ p0))
    rw [World.drewN_zero] at O1 U1 c1 D3
    rw [E.out] at D3
    clear D1 D2 OF UP cg E hm hh
    generalize m % (p : Int) = mp at *
    go_enter Tryd.func61, Tryd.ntmps61
    go_wp2_with fail
    refine O1.out.mono ?_
    rintro e w1 ⟨rfl, hw⟩
    obtain rfl := hw.symm
    go_wp2_with fail
    refine U1.out.mono ?_
    rintro e w1 ⟨rfl, hw⟩
    obtain rfl := hw.symm
    go_wp2_with fail
    refine D3.out.mono ?_
    rintro e w1 ⟨⟨y, rfl⟩, q, rfl⟩
    go_wp2
    go_ret
    exact ⟨rfl, q, rfl⟩
  · have h0' : (0 : Int) < h := by omega
    have m0 := Int.emod_nonneg (h * 18446744073709551616 + m) (show (p : Int) ≠ 0 by omega)
    have E := hid (@tri_left h m l p)
    have O1 := hid (fun q => OF.out q _ m0)
    have U1 := hid (UP.out 0)
    have D3 := hid (fun q => D1.out q ((h * 18446744073709551616 + m) % p % p) (Int.emod_nonneg _ (by omega)) (Int.emod_lt_of_pos _ p0))
    rw [World.drewN_zero] at U1
    rw [E.out] at D3
    clear D1 OF E hm hh h0
    generalize (h * 18446744073709551616 + m) % (p : Int) % (p : Int) = mpp at *
    generalize (h * 18446744073709551616 + m) % (p : Int) = mp at *
    generalize tri h m l % (p : Int) = res at *
    go_enter Tryd.func61, Tryd.ntmps61
    go_wp2_with fail
    refine U1.out.mono ?_
    rintro e w1 ⟨rfl, hw⟩
    obtain rfl := hw.symm
    go_wp2_with fail
    refine D2.out.mono ?_
    rintro e w1 ⟨⟨y, rfl⟩, q, rfl⟩
    have c1 := cg.out q
    have O2 := hid (O1.out q)
    have U2 := hid (UP.out q)
    have D4 := hid (D3.out q)
    have HQ : Hid (∃ q', w.drewN q = w.drewN q') := ⟨q, rfl⟩
    clear D3 D2 O1 U1 UP cg
    go_wp2_with fail
    refine O2.out.mono ?_
    rintro e w2 ⟨rfl, rfl⟩
    go_wp2_with fail
    refine U2.out.mono ?_
    rintro e w2 ⟨rfl, rfl⟩
    go_wp2_with fail
    refine D4.out.mono ?_
    rintro e w2 ⟨⟨y, rfl⟩, q2, rfl⟩
    go_wp2
    go_ret
    exact ⟨rfl, q2, rfl⟩
/-- the coefficient as it is added up. -/
theorem coef_sum (a b : Nat → Int) (n m k : Nat) : sm (fun t => a (k + 1 - m + t) * b (k - (k + 1 - m) - t)) (min (k + 1) n - (k + 1 - m)) = cv (ax a n) (ax b m) k := by
  unfold cv
  by_cases hk : min (k + 1) n ≤ k + 1 - m
  · rw [show min (k + 1) n - (k + 1 - m) = 0 by omega]
    show 0 = _
    rw [sm_eq (g := fun _ => 0) (k + 1) (fun i hi => ?_), sm_zero]
    by_cases h : i < k + 1 - m
    · rw [ax_out b (by omega), Int.mul_zero]
    · rw [ax_out a (by omega), Int.zero_mul]
  · have e1 : sm (fun i => ax a n i * ax b m (k - i)) (k + 1) = sm (fun i => ax a n i * ax b m (k - i)) (min (k + 1) n) := sm_long (by omega) fun i h1 h3 => by rw [ax_out a (by omega), Int.zero_mul]
    rw [e1, show min (k + 1) n = (k + 1 - m) + (min (k + 1) n - (k + 1 - m)) by omega, sm_app]
    have e2 : sm (fun i => ax a n i * ax b m (k - i)) (k + 1 - m) = 0 := by
      rw [sm_eq (g := fun _ => 0) _ (fun i hi => by rw [ax_out b (by omega), Int.mul_zero]), sm_zero]
    rw [e2, Int.zero_add, show k + 1 - m + (min (k + 1) n - (k + 1 - m)) - (k + 1 - m) = min (k + 1) n - (k + 1 - m) by omega]
    exact sm_eq _ fun i hi => by rw [ax_in a (by omega), ax_in b (by omega), show k - (k + 1 - m + i) = k - (k + 1 - m) - i by omega]
theorem sm_bdu {f : Nat → Int} {c : Int} : ∀ {n : Nat}, (∀ i, i < n → 0 ≤ f i ∧ f i ≤ c) → 0 ≤ sm f n ∧ sm f n ≤ n * c
  | 0, _ => by constructor <;> simp [sm]
  | n + 1, h => by
    have h1 := sm_bdu (n := n) fun i hi => h i (by omega)
    have h3 := h n (by omega)
    rw [sm_succ, Int.natCast_add, Int.add_mul]
    omega
end Go.Proofs.YtjgipjiopagkiaaDoor
namespace Go.Proofs.YtjgipjiopagkiaaDoor
open Go.RowKit Num Nmb

set_option maxHeartbeats 1600000 in
theorem ucoef_any (g p : Nat) (u v : Value) (n m k : Nat) (a b : Nat → Int) (w : World) (F : UF w g p) (U : Wl w u n a) (V : Wl w v m b) (hn : n ≤ 1000) (hm : m ≤ 1000) (hk : k + 1 < n + m) (n0 : 0 < n) (m0 : 0 < m)
    (ha : ∀ j, j < n → a j < p) (hb : ∀ j, j < m → b j < p) :
    Calls Tryd.prog 52 #[.pointer (some ⟨g, 0, none⟩), u, v, .int .i64 k] w fun e w' => e = .returned (.int .u64 (cv (ax a n) (ax b m) k % p)) ∧ ∃ q, w' = w.drewN q := by
  have h2 := F.two
  have FF := hid F
  have UU := hid U
  have VV := hid V
  obtain ⟨uo, ucap, rfl, -⟩ := U
  obtain ⟨vo, vcap, rfl, -⟩ := V
  obtain ⟨ub, uoff, rfl, ubl, uc⟩ := UU.out.spot0 n0
  obtain ⟨vb, voff, rfl, vbl, vc⟩ := VV.out.spot0 m0
  have ucp := UU.out.cap
  have vcp := VV.out.cap
  have CS := hid (coef_sum a b n m k)
  obtain ⟨f0, hf0⟩ : ∃ f0, k + 1 - m = f0 := ⟨_, rfl⟩
  obtain ⟨t0, ht0⟩ : ∃ t0, min (k + 1) n = t0 := ⟨_, rfl⟩
  obtain ⟨lo, hlo⟩ : ∃ lo, k + 1 - t0 = lo := ⟨_, rfl⟩
  obtain ⟨hi, hhi⟩ : ∃ hi, k + 1 - f0 = hi := ⟨_, rfl⟩
  obtain ⟨L, hL⟩ : ∃ L, t0 - f0 = L := ⟨_, rfl⟩
  rw [hf0, ht0, hL] at CS
  have i1 : max (0 : Int) ((k : Int) + 1 - (m : Int)) = (f0 : Int) := by omega
  have i2 : min ((k : Int) + 1) (n : Int) = (t0 : Int) := by omega
  have i3 : (k : Int) + 1 - (t0 : Int) = (lo : Int) := by omega
  have i4 : (k : Int) + 1 - (f0 : Int) = (hi : Int) := by omega
  have i5 : (lo : Int) ≤ (hi : Int) := by omega
  have i6 : (hi : Int) ≤ (vcap : Int) := by omega
  have i7 : (f0 : Int) ≤ (t0 : Int) := by omega
  have i8 : (t0 : Int) ≤ (ucap : Int) := by omega
  have i9 : hi - lo = L := by omega
  have HI : Hid (f0 + L = t0 ∧ lo + L = hi ∧ t0 ≤ n ∧ hi ≤ m ∧ L ≤ 1000 ∧ 0 < L ∧ lo + L = k + 1 - f0) := by show _ ∧ _; omega
  obtain ⟨c, hc⟩ : ∃ c : Nat → Int, c = fun t => a (f0 + t) * b (k - f0 - t) := ⟨_, rfl⟩
  rw [← hc] at CS
  have CB : Hid (∀ t, t < L → 0 ≤ c t ∧ c t ≤ (p : Int) * 9223372036854775808) := fun t ht => by
    have := HI.out
    have a1 := UU.out.val (j := f0 + t) (by omega)
    have a2 := ha (f0 + t) (by omega)
    have b1 := VV.out.val (j := k - f0 - t) (by omega)
    have b2 := hb (k - f0 - t) (by omega)
    rw [hc]
    exact ⟨Int.mul_nonneg a1.1 b1.1, Int.mul_le_mul (by omega) (by omega) b1.1 (by omega)⟩
  have SB : Hid (∀ i, i ≤ L → 0 ≤ sm c i ∧ sm c i ≤ 1000 * ((p : Int) * 9223372036854775808)) := fun i hi => by
    have h1 := sm_bdu (n := i) (c := (p : Int) * 9223372036854775808) (f := c) fun t ht => CB.out t (by omega)
    have h3 : (i : Int) * ((p : Int) * 9223372036854775808) ≤ 1000 * ((p : Int) * 9223372036854775808) := Int.mul_le_mul_of_nonneg_right (by have := HI.out; omega) (by omega)
    omega
  have CC : Hid (∀ t, t < L → c t = a (f0 + t) * b (k - f0 - t)) := fun t _ => by rw [hc]
  have LF : Hid (∀ h m l, 0 ≤ h ∧ h < (p : Int) → 0 ≤ m ∧ m ≤ 18446744073709551615 → 0 ≤ l ∧ l ≤ 18446744073709551615 → Calls Tryd.prog 61 #[.pointer (some ⟨g, 0, none⟩), .int .u64 h, .int .u64 m, .int .u64 l] w fun e w' => e = .returned (.int .u64 (tri h m l % p)) ∧ ∃ k, w' = w.drewN k) := fun h m l h1 h3 h5 => uleft_any g p h m l w F h1 h3 h5
  have HC := hid uc
  have HV := hid vc
  clear hf0 ht0 hlo hhi F hc ha hb uc vc CB FF
  go_enter Tryd.func52, Tryd.ntmps52
  go_wp2
  clear i1 i2 i3 i4 i5 i6 i7 i8
  go_loopw [45, 11, 12, 13, 14, 15, 16, 17, 18] (fun iv hv mv lv _ _ _ _ _ wr => ∃ (i : Nat) (h m l : Int), iv = .int .i64 i ∧ hv = .int .u64 h ∧ mv = .int .u64 m ∧ lv = .int .u64 l ∧ i ≤ L ∧ 0 ≤ h ∧ 0 ≤ m ∧ m ≤ 18446744073709551615 ∧ 0 ≤ l ∧ l ≤ 18446744073709551615 ∧ Hid (tri h m l = sm c i) ∧ wr = w) (fun iv _ _ _ _ _ _ _ _ _ => ((L : Int) - intOf iv).toNat)
  case atStart => exact ⟨0, 0, 0, 0, rfl, rfl, rfl, rfl, Nat.zero_le _, by omega, by omega, by omega, by omega, by omega, rfl, rfl⟩
  case round =>
    obtain ⟨i, h, m1, l, rfl, rfl, rfl, rfl, hi, h0, m0, m1', l0, l1', HT, hw⟩ := hrel
    obtain rfl := hw.symm
    by_cases hin : i = L
    · have hin' : ¬ (i : Int) < (L : Int) := by omega
      subst hin
      have hp' : h < (p : Int) := by
        have h1 := (SB.out i (Nat.le_refl _)).2
        rw [← HT.out] at h1
        unfold tri at h1
        omega
      have L4 := hid (LF.out h m1 l ⟨h0, hp'⟩ ⟨m0, m1'⟩ ⟨l0, l1'⟩)
      rw [HT.out, CS.out] at L4
      clear SB CS CC LF HC HV HT UU VV HI
      go_wp2_with fail
      refine L4.out.mono ?_
      rintro e w5 ⟨rfl, q, rfl⟩
      go_wp2
      go_ret
      exact ⟨rfl, q, rfl⟩
    · have hin' : (i : Int) < (L : Int) := by omega
      have HJ := HI.out
      obtain ⟨r, hr⟩ : ∃ r, L - 1 - i = r := ⟨_, rfl⟩
      have r1 : (L : Int) - 1 - (i : Int) = (r : Int) := by omega
      have r2 : (r : Int) < (L : Int) := by omega
      have r3 : IntKind.i64.wrap ((L : Int) - 1) = (L : Int) - 1 := by rw [IntKind.wrap_i64]; omega
      have wi : IntKind.i64.wrap ((i : Int) + 1) = (i : Int) + 1 := by rw [IntKind.wrap_i64]; omega
      have r4 : IntKind.i64.wrap (r : Int) = (r : Int) := by rw [IntKind.wrap_i64]; omega
      have ci : w.cell? ⟨ub, uoff + f0 + i, none⟩ = some (.int .u64 (a (f0 + i))) := by rw [Nat.add_assoc]; exact HC.out (f0 + i) (by omega)
      have cj : w.cell? ⟨vb, voff + lo + r, none⟩ = some (.int .u64 (b (lo + r))) := by rw [Nat.add_assoc]; exact HV.out (lo + r) (by omega)
      have a1 := UU.out.val (j := f0 + i) (by omega)
      have b1 := VV.out.val (j := lo + r) (by omega)
      have M := hid (Tryd.bits_Mul64 (a (f0 + i)) (b (lo + r)) a1.1 a1.2 b1.1 b1.2 w)
      have cc := CC.out i (by omega)
      rw [show k - f0 - i = lo + r by omega] at cc
      have z0 : 0 ≤ a (f0 + i) * b (lo + r) := Int.mul_nonneg a1.1 b1.1
      have hs := SB.out (i + 1) (by omega)
      have ht := HT.out
      rw [sm_succ, ← ht, cc] at hs
      have HT2 : Hid (sm c (i + 1) = tri h m1 l + a (f0 + i) * b (lo + r)) := by show _ = _; rw [sm_succ, ← ht, cc]
      generalize a (f0 + i) * b (lo + r) = z at *
      have A1 := hid (uadd64 l (z % 18446744073709551616) 0 l0 (by omega) (by omega) (by omega))
      obtain ⟨c1, hc1⟩ : ∃ c1, (l + z % 18446744073709551616 + 0) / 18446744073709551616 = c1 := ⟨_, rfl⟩
      obtain ⟨l2, hl2⟩ : ∃ l2, (l + z % 18446744073709551616 + 0) % 18446744073709551616 = l2 := ⟨_, rfl⟩
      have A2 := hid (uadd64 m1 (z / 18446744073709551616) c1 m0 (by omega) (by omega) (by omega))
      obtain ⟨c2, hc2⟩ : ∃ c2, (m1 + z / 18446744073709551616 + c1) / 18446744073709551616 = c2 := ⟨_, rfl⟩
      obtain ⟨m2, hm2⟩ : ∃ m2, (m1 + z / 18446744073709551616 + c1) % 18446744073709551616 = m2 := ⟨_, rfl⟩
      have E2 : tri (h + c2) m2 l2 = tri h m1 l + z := by unfold tri; omega
      have HT3 : Hid (tri (h + c2) m2 l2 = sm c (i + 1)) := by show _ = _; rw [E2, HT2.out]
      have wh : IntKind.u64.wrap (h + c2) = h + c2 := by rw [IntKind.wrap_u64]; unfold tri at hs; omega
      have h3 : 0 ≤ h + c2 := by omega
      have m3 : 0 ≤ m2 ∧ m2 ≤ 18446744073709551615 := by omega
      have l3 : 0 ≤ l2 ∧ l2 ≤ 18446744073709551615 := by omega
      rw [hc1, hl2] at A1
      rw [hc2, hm2] at A2
      clear SB CS CC LF HC HV HT HT2 UU VV HI HJ hr hs ht cc E2 a1 b1 hc1 hl2 hc2 hm2 z0
      generalize z / 18446744073709551616 = zu at *
      generalize z % 18446744073709551616 = zl at *
      generalize a (f0 + i) = ai at *
      generalize b (lo + r) = bi at *
      go_wp2_with (first | (go_at_call 48; refine M.out.mono ?_; rintro e w3 ⟨rfl, rfl⟩) | simp only [A1.out] | simp only [A2.out])
      exact ⟨⟨i + 1, h + c2, m2, l2, rfl, rfl, rfl, rfl, by omega, h3, m3.1, m3.2, l3.1, l3.2, HT3, by first | trivial | rfl⟩, by simp only [intOf]; omega⟩
end Go.Proofs.YtjgipjiopagkiaaDoor
namespace Go.Proofs.YtjgipjiopagkiaaDoor
open Go.RowKit Num Nmb

/-- the coefficients of a quotient from the place s on. -/
structure QOk (p dg s N : Nat) (A B Q : Nat → Int) : Prop where
  bd : ∀ j, 0 ≤ Q j ∧ Q j < p
  low : ∀ j, j < s → Q j = 0
  out : ∀ j, N ≤ j → Q j = 0
  at' : ∀ j, s ≤ j → Cg p (cv Q B (j + dg)) (A (j + dg))
theorem QOk.start {p n dg N : Nat} {A B : Nat → Int} (hp : 0 < p) (hA : ∀ j, n ≤ j → A j = 0) (hN : n ≤ N + dg) : QOk p dg N N A B (fun _ => 0) :=
  ⟨fun _ => by omega, fun _ _ => rfl, fun _ _ => rfl, fun j hj => by rw [cv_comm, cv_zero, hA _ (by omega)]; exact Cg.rfl⟩
theorem QOk.step {p dg i N : Nat} {A B Q : Nat → Int} {c x : Int} (h : QOk p dg (i + 1) N A B Q) (hp : 0 < p) (hB : NP p (dg + 1) B) (hc : Cg p (c * B dg) 1) (hi : i < N) (hx : x = (A (i + dg) - cv Q B (i + dg) % p) % p * c % p) : QOk p dg i N A B (fun j => if j = i then x else Q j) := by
  have xb : 0 ≤ x ∧ x < p := by rw [hx]; exact ⟨Int.emod_nonneg _ (by omega), Int.emod_lt_of_pos _ (by omega)⟩
  have e : (fun j => if j = i then x else Q j) = fun j => Q j + mono x i j := funext fun j => by
    unfold mono
    by_cases q : j = i
    · rw [if_pos q, if_pos q.symm, h.low j (by omega)]; omega
    · rw [if_neg q, if_neg fun q' => q q'.symm]; omega
  refine ⟨fun j => ?_, fun j hj => ?_, fun j hj => ?_, fun j hj => ?_⟩
  · split
    · exact xb
    · exact h.bd j
  · rw [if_neg (by omega)]; exact h.low j (by omega)
  · rw [if_neg (by omega)]; exact h.out j hj
  · rw [e, add_cv, cv_mono, if_pos (by omega)]
    by_cases q : j = i
    · subst q
      rw [show j + dg - j = dg by omega]
      have h1 : Cg p x ((A (j + dg) - cv Q B (j + dg)) * c) := by
        rw [hx]
        exact Cg.mod.trans ((Cg.mod.trans (Cg.rfl.sub Cg.mod)).mul Cg.rfl)
      have h3 : Cg p (x * B dg) (A (j + dg) - cv Q B (j + dg)) :=
        (h1.mul Cg.rfl).trans ((Cg.of_eq (Int.mul_assoc _ _ _)).trans ((Cg.rfl.mul hc).trans (Cg.of_eq (Int.mul_one _))))
      exact ((Cg.rfl (a := cv Q B (j + dg))).add h3).trans (Cg.of_eq (by omega))
    · rw [hB.out (j + dg - i) (by omega), Int.mul_zero, Int.add_zero]
      exact h.at' j (by omega)
/-- what is left. -/
def rst (p dg : Nat) (A B Q : Nat → Int) (j : Nat) : Int := if j < dg then (A j - cv Q B j % p) % p else 0
theorem QOk.fin {p n dg N : Nat} {A B Q : Nat → Int} (h : QOk p dg 0 N A B Q) (hp : 0 < p) (hA : NP p n A) (hB : NP p (dg + 1) B) (hN : n = N + dg) (hN0 : 0 < N) : NP p N Q ∧ (∀ j, dg ≤ j → rst p dg A B Q j = 0) ∧ (∀ j, 0 ≤ rst p dg A B Q j ∧ rst p dg A B Q j < p) ∧ Ct p A (pls (cv Q B) (rst p dg A B Q)) := by
  refine ⟨⟨h.bd, h.out, Or.inr fun q => ?_⟩, fun j hj => if_neg (by omega), fun j => ?_, fun j => ?_⟩
  · have h1 := h.at' (N - 1) (Nat.zero_le _)
    have h3 : Ln p (N - 1 + 1) Q := fun j hj => Cg.of_eq (h.out j (by omega))
    have h5 := cv_lead h3 hB.ln
    rw [q, Int.zero_mul] at h5
    obtain ⟨t, ht⟩ : ∃ t, n = t + 1 := ⟨n - 1, by omega⟩
    subst ht
    refine hA.tp.2 ?_
    rw [show t = N - 1 + dg by omega]
    exact h1.symm.trans h5
  · unfold rst; split
    · exact ⟨Int.emod_nonneg _ (by omega), Int.emod_lt_of_pos _ (by omega)⟩
    · exact ⟨by omega, by omega⟩
  · show Cg p (A j) (cv Q B j + rst p dg A B Q j)
    unfold rst
    by_cases q : j < dg
    · rw [if_pos q]
      have h1 : Cg p ((A j - cv Q B j % p) % p) (A j - cv Q B j) := Cg.mod.trans (Cg.rfl.sub Cg.mod)
      exact (Cg.of_eq (by omega)).trans ((Cg.rfl (a := cv Q B j)).add h1.symm)
    · rw [if_neg q, Int.add_zero]
      have := h.at' (j - dg) (Nat.zero_le _)
      rw [show j - dg + dg = j by omega] at this
      exact this.symm
theorem QOk.ax {p dg s N : Nat} {A B Q : Nat → Int} (h : QOk p dg s N A B Q) : Nmb.ax Q N = Q := funext fun j => by
  by_cases e : j < N
  · exact ax_in Q e
  · rw [ax_out Q (by omega), h.out j (by omega)]
end Go.Proofs.YtjgipjiopagkiaaDoor
namespace Go.Proofs.YtjgipjiopagkiaaDoor
open Go.RowKit Num Nmb

/-- a quotient, and what is left. -/
def DivIs (w' : World) (q r : Value) (p n dg : Nat) (A B : Nat → Int) : Prop := ∃ Q R, PV w' q p Q ∧ PV w' r p R ∧ (∀ j, n ≤ j → Q j = 0) ∧ (∀ j, dg ≤ j → R j = 0) ∧ Ct p A (pls (cv Q B) R)
set_option maxHeartbeats 800000 in
theorem udivide_low (g _p : Nat) (uo vo : Option Addr) (n dg ucap vcap : Nat) (w : World) (hn : n ≤ dg) (hm : dg ≤ 1000000) :
    Calls Tryd.prog 39 #[.pointer (some ⟨g, 0, none⟩), .slice uo n ucap, .slice vo (dg + 1 : Nat) vcap] w fun e w' => e = .returned (.tuple #[.slice none 0 0, .slice uo n ucap]) ∧ w' = w := by
  obtain ⟨M, hM⟩ : ∃ M, M = dg + 1 := ⟨_, rfl⟩
  rw [← hM]
  have k1 : (M : Int) - 1 = (dg : Int) := by omega
  have k3 : (n : Int) ≤ (dg : Int) := by omega
  clear hM hn
  go_enter Tryd.func39, Tryd.ntmps39
  go_wp2
  go_ret2
  exact ⟨rfl, rfl⟩
set_option maxHeartbeats 3200000 in
theorem udivide_high (g p : Nat) (u v : Value) (n dg : Nat) (A B : Nat → Int) (w : World) (hp : Pri p) (F : UF w g p) (U : Wl w u n A) (V : Wl w v (dg + 1) B) (hA : NP p n A) (hB : NP p (dg + 1) B) (hn : n ≤ 1000) (hm : dg + 1 ≤ 1000) (hl : dg < n) :
    Calls Tryd.prog 39 #[.pointer (some ⟨g, 0, none⟩), u, v] w fun e w' => (∃ q r, e = .returned (.tuple #[q, r]) ∧ DivIs w' q r p n dg A B) ∧ Below w.heap.size w w' := by
  have h2 := F.two
  have FF := hid F
  have UU := hid U
  have VV := hid V
  have HA := hid hA
  have HB := hid hB
  have SC := hid (uscale_any g p v dg B w hp F V hB)
  obtain ⟨uo, ucap, rfl, -⟩ := U
  obtain ⟨vo, vcap, rfl, -⟩ := V
  obtain ⟨ub, uoff, rfl, ubl, uc⟩ := UU.out.spot0 (by omega)
  have UC := hid uc
  have ucp := UU.out.cap
  obtain ⟨N, hN⟩ : ∃ N, n = N + dg := ⟨n - dg, by omega⟩
  have HN := hid hN
  have NI : (n : Int) - (dg : Int) = (N : Int) := by omega
  have N0 : 0 < N := by omega
  have N1 : N + dg ≤ 1000 := by omega
  have QS := hid (QOk.start (p := p) (n := n) (dg := dg) (N := N) (B := B) (by omega) hA.out (by omega))
  have nd : ¬ (n : Int) ≤ (dg : Int) := by omega
  obtain ⟨M, hM⟩ : ∃ M, M = dg + 1 := ⟨_, rfl⟩
  have k1 : (M : Int) - 1 = (dg : Int) := by omega
  have COE : Hid (∀ W Q s k, Below w.heap.size w W → QOk p dg s N A B Q → Wl W (.slice (some ⟨w.heap.size, 0, none⟩) N N) N Q → k < n → Calls Tryd.prog 52 #[.pointer (some ⟨g, 0, none⟩), .slice (some ⟨w.heap.size, 0, none⟩) N N, .slice vo M vcap, .int .i64 (k : Nat)] W fun e w' => e = .returned (.int .u64 (cv Q B k % p)) ∧ ∃ q, w' = W.drewN q) := fun W Q s k BW hQ WQ hk => by
    have := ucoef_any g p _ _ N (dg + 1) k Q B W (F.below BW) WQ (VV.out.below BW) (by omega) hm (by omega) N0 (by omega) (fun j _ => (hQ.bd j).2) (fun j _ => (hB.bd j).2)
    rw [hQ.ax, hB.ax, ← hM] at this
    exact this
  rw [← hM] at SC ⊢
  clear F uc hA hB hp hM hN hl
  go_enter Tryd.func39, Tryd.ntmps39
  go_wp2_with fail
  refine SC.out.mono ?_
  rintro e w1 ⟨⟨c, rfl, hc, hcp⟩, q1, rfl⟩
  have HC := hid hc
  have B1 := hid (below_drewN (Below.refl w.heap.size w) q1)
  have Z1 : Hid ((w.drewN q1).heap.size = w.heap.size) := by show _ = _; simp
  clear SC hc
  generalize w.drewN q1 = w1 at *
  go_wp2_with (at_make; refine wp_makeP _ rfl _ _ rfl _ _ N rfl rfl (by omega) (by omega) (by omega) ?_; intro w2 R2 B2 Z2; rw [Z1.out] at R2 B2 Z2 ⊢; have HR := hid R2; have HB2 := hid (B1.out.trans B2); have HZ2 := hid Z2; clear R2 B2 Z2)
  go_loopw [10, 11] (fun iv _ wr => ∃ (s : Nat) (Q : Nat → Int), iv = .int .i64 ((s : Int) - 1) ∧ s ≤ N ∧ Hid (Row wr w.heap.size N Q) ∧ Hid (QOk p dg s N A B Q) ∧ Hid (Below w.heap.size w wr)) (fun iv _ _ => (intOf iv + 1).toNat)
  case atStart => exact ⟨N, _, rfl, Nat.le_refl _, HR.out, QS.out, HB2.out⟩
  case round =>
    clear HR HB2 HZ2 QS B1 Z1
    obtain ⟨s, Q, rfl, hs, RW, QW, BW⟩ := hrel
    cases s with
    | zero =>
      generalize wr = w3 at *
      rw [show (((0 : Nat) : Int) - 1) = -1 from rfl]
      obtain ⟨NQ, RO, RB, RC⟩ := QW.out.fin (by omega) HA.out HB.out HN.out N0
      have WQ := hid (RW.out.wl (fun j _ => by have := QW.out.bd j; omega) (by omega))
      have FIN : Hid (∀ W v', PV W (.slice (some ⟨w.heap.size, 0, none⟩) N N) p Q → PV W v' p (rst p dg A B Q) → DivIs W (.slice (some ⟨w.heap.size, 0, none⟩) N N) v' p n dg A B) := fun W v' h1 h3 => ⟨Q, _, h1, h3, fun j hj => QW.out.out j (by have := HN.out; omega), RO, RC⟩
      obtain ⟨R, hR⟩ : ∃ R, R = rst p dg A B Q := ⟨_, rfl⟩
      have RA : Hid (∀ j, j < dg → (A j - cv Q B j % p) % p = R j) := fun j hj => by rw [hR]; unfold rst; rw [if_pos hj]
      rw [← hR] at RO RB FIN
      have HRO := hid RO
      have HRB := hid RB
      have HNQ := hid NQ
      clear RO RB RC NQ hR
      go_wp2_with (at_make; refine wp_makeP _ rfl _ _ rfl _ _ dg rfl rfl (by omega) (by omega) (by omega) ?_; intro w2 R2 B2 Z2; have HR := hid R2; have HB2 := hid (BW.out.trans (B2.mono BW.out.size)); have WQ2 := hid (WQ.out.below B2); have B2' := hid B2; clear R2 B2 Z2)
      have rr := RW.out.lt
      have bb := BW.out.size
      obtain ⟨r2, hr2⟩ : ∃ r2, r2 = w3.heap.size := ⟨_, rfl⟩
      rw [← hr2] at HR B2' rr bb ⊢
      have WR : Hid (∀ W, Below r2 w3 W → Wl W (.slice (some ⟨w.heap.size, 0, none⟩) N N) N Q ∧ Below w.heap.size w W) := fun W h => ⟨WQ.out.below (by rw [← hr2]; exact h), BW.out.trans (h.mono bb)⟩
      clear WQ WQ2 HB2 RW BW hr2
      go_loopw [68, 12] (fun iv _ wx => ∃ (i : Nat), iv = .int .i64 i ∧ i ≤ dg ∧ Hid (Row wx r2 dg (mx R (fun _ => 0) i)) ∧ Hid (Below r2 w3 wx)) (fun iv _ _ => ((dg : Int) - intOf iv).toNat)
      case atStart => exact ⟨0, rfl, Nat.zero_le _, by rw [mx_zero]; exact HR.out, B2'.out⟩
      case round =>
        clear HR B2'
        obtain ⟨i, rfl, hi, RX, BX⟩ := hrel
        by_cases hin : i = dg
        · have hin' : ¬ (i : Int) < (dg : Int) := by omega
          obtain ⟨WX, BX2⟩ := WR.out _ BX.out
          have C4 := hid (ucutP g p _ dg dg R R _ (FF.out.below BX2) ((RX.out.wl (fun j hj => by rw [hin, mx_all hj]; have := HRB.out j; omega) (by omega)).eq (fun j hj => by rw [hin, mx_all hj])) (fun _ _ => rfl) HRB.out HRO.out)
          have HWX := hid WX
          have HBX := hid BX2
          clear RX UU VV FF HA HB COE HRB HRO WR RA BX WX BX2 QW
          go_wp2_with fail
          refine C4.out.mono ?_
          rintro e w5 ⟨⟨x, rfl, P⟩, B5⟩
          have FI := hid (FIN.out w5 x ⟨N, HNQ.out, HWX.out.below B5⟩ P)
          have HB5 := hid (HBX.out.trans (B5.mono HBX.out.size))
          clear C4 P B5 HBX FIN HNQ HWX
          go_wp2
          go_ret2
          exact ⟨⟨_, _, rfl, FI.out⟩, HB5.out⟩
        · have hin' : (i : Int) < (dg : Int) := by omega
          have hin2 : (i : Int) < (n : Int) := by omega
          obtain ⟨WX, BX2⟩ := WR.out _ BX.out
          have ci : wr.cell? ⟨ub, uoff + i, none⟩ = some (.int .u64 (A i)) := by rw [BX2.cell (p := ⟨ub, uoff + i, none⟩) ubl]; exact UC.out i (by omega)
          obtain ⟨gf, f, s, f1, f3, f5⟩ := FF.out.below BX2
          have cg := f1.cell
          have va := UU.out.val (j := i) (by omega)
          have cr := RX.out.cell (i := i) (by omega)
          have fr := RX.out.frozen i
          have CO := hid (fun q => COE.out (wr.drewN q) Q 0 i (below_drewN BX2 q) QW.out (WX.drew q) (by omega))
          have cv0 := Int.emod_nonneg (cv Q B i) (show (p : Int) ≠ 0 by omega)
          have SU : Hid (∀ q, Calls Tryd.prog 47 #[.pointer (some ⟨gf, 0, none⟩), .int .u64 (A i), .int .u64 (cv Q B i % p)] (wr.drewN q) fun e w' => e = .returned (.int .u64 ((A i - cv Q B i % p) % p)) ∧ w' = wr.drewN q) := fun q => sub_any gf p f s _ _ _ (f3.drew q) f5 va.1 cv0
          have FI : Hid (∀ q, Row ((wr.drewN q).setCell ⟨r2, i, none⟩ (.int .u64 ((A i - cv Q B i % p) % p))) r2 dg (mx R (fun _ => 0) (i + 1)) ∧ Below r2 w3 ((wr.drewN q).setCell ⟨r2, i, none⟩ (.int .u64 ((A i - cv Q B i % p) % p)))) := fun q => (RX.out.drew q).put (below_drewN BX.out q) (RA.out i (by omega))
          clear RX UU VV FF HA HB COE HRB HRO WR RA BX WX BX2 QW FIN HNQ f1 f3 f5 va cv0 UC
          generalize (A i - cv Q B i % (p : Int)) % (p : Int) = x at *
          generalize cv Q B i % (p : Int) = y at *
          generalize A i = ai at *
          generalize mx R (fun _ => 0) i i = yi at *
          go_wp2_with fail
          refine wp_region_last (by kernel_rfl) (by kernel_rfl) (by kernel_rfl) (by kernel_rfl) (by decide) ?_
          simp only [stillLast, still, lastOf]
          repeat (quiet_step (first
            | (go_at_call 52; exact Calls.quiet_of (CO.out _))
            | (go_at_call 47; exact Calls.quiet_of_same (SU.out _))))
          refine wpQuiet_nil ?_
          intro _ hw'
          obtain ⟨nq, hw''⟩ := hw'
          subst hw''
          have F3 := hid (FI.out nq)
          have cr2 : (wr.drewN nq).cell? ⟨r2, i, none⟩ = some (.int .u64 yi) := by simpa using cr
          have fr2 : (wr.drewN nq).frozen? ⟨r2, i, none⟩ = false := by simpa using fr
          clear FI CO SU cr fr ci cg
          generalize wr.drewN nq = w5 at *
          go_wp2
          exact ⟨⟨i + 1, rfl, by omega, F3.out.1, F3.out.2⟩, by simp only [intOf]; omega⟩
    | succ i =>
      have kk : ((i + 1 : Nat) : Int) - 1 = (i : Int) := by omega
      rw [kk]
      obtain ⟨k, hk⟩ : ∃ k, i + dg = k := ⟨_, rfl⟩
      have e1 : (i : Int) + (dg : Int) = (k : Int) := by omega
      have e3 : (k : Int) < (n : Int) := by have := HN.out; omega
      have e4 : (i : Int) < (N : Int) := by omega
      have i0 : (0 : Int) ≤ (i : Int) := by omega
      have ci : wr.cell? ⟨ub, uoff + k, none⟩ = some (.int .u64 (A k)) := by rw [BW.out.cell (p := ⟨ub, uoff + k, none⟩) ubl]; exact UC.out k (by omega)
      obtain ⟨gf, f, s, f1, f3, f5⟩ := FF.out.below BW.out
      have cg := f1.cell
      have va := UU.out.val (j := k) (by omega)
      have cr := RW.out.cell (i := i) (by omega)
      have fr := RW.out.frozen i
      have WX := RW.out.wl (fun j _ => by have := QW.out.bd j; omega) (by omega)
      have CO := hid (fun q => COE.out (wr.drewN q) Q (i + 1) k (below_drewN BW.out q) QW.out (WX.drew q) (by omega))
      have cv0 := Int.emod_nonneg (cv Q B k) (show (p : Int) ≠ 0 by omega)
      have SU : Hid (∀ q, Calls Tryd.prog 47 #[.pointer (some ⟨gf, 0, none⟩), .int .u64 (A k), .int .u64 (cv Q B k % p)] (wr.drewN q) fun e w' => e = .returned (.int .u64 ((A k - cv Q B k % p) % p)) ∧ w' = wr.drewN q) := fun q => sub_any gf p f s _ _ _ (f3.drew q) f5 va.1 cv0
      have sv0 := Int.emod_nonneg (A k - cv Q B k % p) (show (p : Int) ≠ 0 by omega)
      have MU : Hid (∀ q, Calls Tryd.prog 34 #[.pointer (some ⟨gf, 0, none⟩), .int .u64 ((A k - cv Q B k % p) % p), .int .u64 c] (wr.drewN q) fun e w' => e = .returned (.int .u64 ((A k - cv Q B k % p) % p * c % p)) ∧ ∃ k, w' = (wr.drewN q).drewN k) := fun q => mul_any gf p f s _ _ _ (f3.drew q) f5 sv0 (by omega)
      have QN : Hid (QOk p dg i N A B (fun j => if j = i then (A k - cv Q B k % p) % p * c % p else Q j)) := QW.out.step (by omega) HB.out HC.out (by omega) (by rw [hk])
      have FI : Hid (∀ q, Row ((wr.drewN q).setCell ⟨w.heap.size, i, none⟩ (.int .u64 ((A k - cv Q B k % p) % p * c % p))) w.heap.size N (fun j => if j = i then (A k - cv Q B k % p) % p * c % p else Q j) ∧ Below w.heap.size w ((wr.drewN q).setCell ⟨w.heap.size, i, none⟩ (.int .u64 ((A k - cv Q B k % p) % p * c % p)))) := fun q => ⟨(RW.out.drew q).set i _ (fun _ _ => rfl), below_set (below_drewN BW.out q) (Nat.le_refl _) i _⟩
      have wk : IntKind.i64.wrap (k : Int) = (k : Int) := by rw [IntKind.wrap_i64]; omega
      have wi : IntKind.i64.wrap ((i : Int) - 1) = (i : Int) - 1 := by rw [IntKind.wrap_i64]; omega
      clear RW UU VV FF HA HB COE BW QW f1 f3 f5 va cv0 sv0 UC HC WX hk kk HN
      generalize (fun j => if j = i then (A k - cv Q B k % (p : Int)) % (p : Int) * (c : Int) % (p : Int) else Q j) = Q2 at *
      generalize (A k - cv Q B k % (p : Int)) % (p : Int) * (c : Int) % (p : Int) = z at *
      generalize (A k - cv Q B k % (p : Int)) % (p : Int) = x at *
      generalize cv Q B k % (p : Int) = y at *
      generalize A k = ai at *
      generalize Q i = yi at *
      go_wp2_with fail
      go_quiet (first
        | (go_at_call 52; exact Calls.quiet_of (CO.out _))
        | (go_at_call 47; exact Calls.quiet_of_same (SU.out _)))
      rename_i nq
      have M2 := hid (MU.out nq)
      have cg2 : (wr.drewN nq).cell? ⟨g, 0, none⟩ = some (.pointer (some ⟨gf, 0, none⟩)) := by simpa using cg
      have FI2 : Hid (∀ q, Row (((wr.drewN nq).drewN q).setCell ⟨w.heap.size, i, none⟩ (.int .u64 z)) w.heap.size N Q2 ∧ Below w.heap.size w (((wr.drewN nq).drewN q).setCell ⟨w.heap.size, i, none⟩ (.int .u64 z))) := fun q => by rw [World.drewN_drewN]; exact FI.out _
      have cr2 : Hid (∀ q, ((wr.drewN nq).drewN q).cell? ⟨w.heap.size, i, none⟩ = some (.int .u64 yi)) := fun q => by simpa using cr
      have fr2 : Hid (∀ q, ((wr.drewN nq).drewN q).frozen? ⟨w.heap.size, i, none⟩ = false) := fun q => by simpa using fr
      clear MU FI CO SU cr fr ci cg
      generalize wr.drewN nq = w4 at *
      go_wp2_with fail
      refine M2.out.mono ?_
      rintro e w5 ⟨rfl, q5, rfl⟩
      have F5 := hid (FI2.out q5)
      have cr5 := cr2.out q5
      have fr5 := fr2.out q5
      clear M2 FI2 cr2 fr2 cg2
      generalize w4.drewN q5 = w5 at *
      go_wp2
      exact ⟨⟨i, Q2, rfl, by omega, F5.out.1, QN, F5.out.2⟩, by simp only [intOf]; omega⟩
end Go.Proofs.YtjgipjiopagkiaaDoor
namespace Go.Proofs.YtjgipjiopagkiaaDoor
open Go.RowKit Num Nmb

theorem udivide_any (g p : Nat) (u v : Value) (n dg : Nat) (A B : Nat → Int) (w : World) (hp : Pri p) (F : UF w g p) (U : Wl w u n A) (V : Wl w v (dg + 1) B) (hA : NP p n A) (hB : NP p (dg + 1) B) (hn : n ≤ 1000) (hm : dg + 1 ≤ 1000) :
    Calls Tryd.prog 39 #[.pointer (some ⟨g, 0, none⟩), u, v] w fun e w' => (∃ q r, e = .returned (.tuple #[q, r]) ∧ DivIs w' q r p n dg A B) ∧ Below w.heap.size w w' := by
  by_cases h : n ≤ dg
  · have h2 := F.two
    have UU := hid U
    obtain ⟨uo, ucap, rfl, -⟩ := U
    obtain ⟨vo, vcap, rfl, -⟩ := V
    refine (udivide_low g p uo vo n dg ucap vcap w h (by omega)).mono ?_
    rintro e w' ⟨rfl, rfl⟩
    refine ⟨⟨_, _, rfl, fun _ => 0, A, ⟨0, NP.zero (by omega), Wl.nil _ _⟩, ⟨n, hA, UU.out⟩, fun _ _ => rfl, fun j hj => hA.out j (by omega), fun j => ?_⟩, Below.refl _ _⟩
    show Cg p (A j) (cv (fun _ => 0) B j + A j)
    rw [cv_comm, cv_zero, Int.zero_add]
    exact Cg.rfl
  · exact udivide_high g p u v n dg A B w hp F U V hA hB hn hm (by omega)
set_option maxHeartbeats 1600000 in
theorem udivmod_nil (g p : Nat) (u v : Value) (n m : Nat) (a b : Nat → Int) (w : World) (F : UF w g p) (U : Wl w u n a) (V : Wl w v m b) (hm : m ≤ 1000) (hB : NP p 0 (fun j => ax b m j % p)) :
    Calls Tryd.prog 20 #[.pointer (some ⟨g, 0, none⟩), u, v] w fun e w' => e = .returned (.tuple #[.slice none 0 0, .slice none 0 0, .int .i64 10]) ∧ Below w.heap.size w w' := by
  have NB := hid (unorm_any g p v m 0 b w F V (by omega) hB)
  obtain ⟨uo, ucap, rfl, -⟩ := U
  obtain ⟨vo, vcap, rfl, -⟩ := V
  clear F hB
  go_enter Tryd.func20, Tryd.ntmps20
  go_wp2_with fail
  refine NB.out.mono ?_
  rintro e w3 ⟨⟨vb, rfl, WB⟩, B3⟩
  have BB := hid B3
  obtain ⟨bo, bcap, rfl, -⟩ := WB
  clear NB B3
  go_wp2
  go_ret3
  exact ⟨rfl, BB.out⟩
set_option maxHeartbeats 1600000 in
theorem udivmod_any (g p : Nat) (u v : Value) (n m dg : Nat) (a b : Nat → Int) (w : World) (hp : Pri p) (F : UF w g p) (U : Wl w u n a) (V : Wl w v m b) (hn : n ≤ 1000) (hm : m ≤ 1000) (hB : NP p (dg + 1) (fun j => ax b m j % p)) :
    Calls Tryd.prog 20 #[.pointer (some ⟨g, 0, none⟩), u, v] w fun e w' => (∃ q r, e = .returned (.tuple #[q, r, .int .i64 0]) ∧ DivIs w' q r p n dg (ax a n) (ax b m)) ∧ Below w.heap.size w w' := by
  have h2 := F.two
  obtain ⟨ka, kan, hA⟩ := np_ex (p := p) (by omega) (ax a n) n (fun j hj => Cg.of_eq (ax_out a hj))
  have dm : dg + 1 ≤ m := hB.le (fun j hj => by show ax b m j % p = 0; rw [ax_out b hj, Int.zero_emod])
  have NB := hid (unorm_any g p v m (dg + 1) b w F V (by omega) hB)
  have NA : Hid (∀ W, Below w.heap.size w W → Calls Tryd.prog 10 #[.pointer (some ⟨g, 0, none⟩), u] W fun e w' => (∃ v, e = .returned v ∧ Wl w' v ka (fun j => ax a n j % p)) ∧ Below W.heap.size W w') := fun W B => unorm_any g p u n ka a W (F.below B) (U.below B) (by omega) hA
  have DV : Hid (∀ W u' v', Below w.heap.size w W → Wl W u' ka (fun j => ax a n j % p) → Wl W v' (dg + 1) (fun j => ax b m j % p) → Calls Tryd.prog 39 #[.pointer (some ⟨g, 0, none⟩), u', v'] W fun e w' => (∃ q r, e = .returned (.tuple #[q, r]) ∧ DivIs w' q r p n dg (ax a n) (ax b m)) ∧ Below W.heap.size W w') := fun W u' v' B h1 h3 => by
    refine (udivide_any g p u' v' ka dg _ _ W hp (F.below B) h1 h3 hA hB (by omega) (by omega)).mono ?_
    rintro e w' ⟨⟨q, r, rfl, Q, R, PQ, PR, QO, RO, E⟩, B'⟩
    exact ⟨⟨q, r, rfl, Q, R, PQ, PR, fun j hj => QO j (by omega), RO, (mod_ct (ax a n)).symm.trans (E.trans (((Ct.refl p Q).cv (mod_ct (ax b m))).pls (Ct.refl p R)))⟩, B'⟩
  obtain ⟨uo, ucap, rfl, -⟩ := U
  obtain ⟨vo, vcap, rfl, -⟩ := V
  clear F hB hA hp
  generalize (fun j => ax b m j % (p : Int)) = B at *
  generalize (fun j => ax a n j % (p : Int)) = A at *
  generalize ax b m = B0 at *
  generalize ax a n = A0 at *
  go_enter Tryd.func20, Tryd.ntmps20
  go_wp2_with fail
  refine NB.out.mono ?_
  rintro e w3 ⟨⟨vb, rfl, WB⟩, B3⟩
  have BB := hid B3
  have HWB := hid WB
  have N2 := hid (NA.out w3 B3)
  obtain ⟨bo, bcap, rfl, -⟩ := WB
  have k0 : (((dg + 1 : Nat) : Int) == 0) = false := beq_eq_false_iff_ne.2 (by omega)
  clear NB B3 NA
  go_wp2_with fail
  refine N2.out.mono ?_
  rintro e w4 ⟨⟨va, rfl, WA⟩, B4⟩
  have BB4 := hid (BB.out.trans (B4.mono BB.out.size))
  have D4 := hid (DV.out w4 _ _ BB4.out WA (HWB.out.below B4))
  obtain ⟨ao, acap, rfl, -⟩ := WA
  clear N2 B4 BB HWB DV
  go_wp2_with fail
  refine D4.out.mono ?_
  rintro e w5 ⟨⟨q, r, rfl, DI⟩, B5⟩
  have BB5 := hid (BB4.out.trans (B5.mono BB4.out.size))
  have HD := hid DI
  obtain ⟨Q, R, PQ, PR, -⟩ := DI
  obtain ⟨qo, kq, qcap, rfl, -⟩ := PQ.ps
  obtain ⟨ro, kr, rcap, rfl, -⟩ := PR.ps
  clear D4 B5 BB4 PQ PR
  go_wp2
  go_ret3
  exact ⟨⟨_, _, rfl, HD.out⟩, BB5.out⟩
set_option maxHeartbeats 1600000 in
theorem ugcd_any (g p : Nat) (u v : Value) (n m : Nat) (a b : Nat → Int) (w : World) (hp : Pri p) (F : UF w g p) (U : Wl w u n a) (V : Wl w v m b) (hn : n ≤ 1000) (hm : m ≤ 1000) :
    Calls Tryd.prog 25 #[.pointer (some ⟨g, 0, none⟩), u, v] w fun e w' => (∃ v k G, e = .returned v ∧ PS w' v k p G ∧ (k = 0 ∨ G (k - 1) = 1) ∧ IsG p G (ax a n) (ax b m)) ∧ Below w.heap.size w w' := by
  have h2 := F.two
  obtain ⟨ka, la, hA⟩ := np_ex (p := p) (by omega) (ax a n) n (fun j hj => Cg.of_eq (ax_out a hj))
  obtain ⟨kb, lb, hB⟩ := np_ex (p := p) (by omega) (ax b m) m (fun j hj => Cg.of_eq (ax_out b hj))
  have NA := hid (unorm_any g p u n ka a w F U (by omega) hA)
  have NB : Hid (∀ W, Below w.heap.size w W → Calls Tryd.prog 10 #[.pointer (some ⟨g, 0, none⟩), v] W fun e w' => (∃ v, e = .returned v ∧ Wl w' v kb (fun j => ax b m j % p)) ∧ Below W.heap.size W w') := fun W B => unorm_any g p v m kb b W (F.below B) (V.below B) (by omega) hB
  obtain ⟨uo, ucap, rfl, -⟩ := U
  obtain ⟨vo, vcap, rfl, -⟩ := V
  have CB : Hid (Ct p (fun j => ax b m j % p) (ax b m)) := mod_ct _
  have CA : Hid (Ct p (fun j => ax a n j % p) (ax a n)) := mod_ct _
  have HP := hid hp
  have FF := hid F
  have HA := hid hA
  have HB := hid hB
  clear hp F hA hB
  generalize (fun j => ax b m j % (p : Int)) = B at *
  generalize (fun j => ax a n j % (p : Int)) = A at *
  generalize ax b m = B0 at *
  generalize ax a n = A0 at *
  go_enter Tryd.func25, Tryd.ntmps25
  go_wp2_with fail
  refine NA.out.mono ?_
  rintro e w3 ⟨⟨va, rfl, WA⟩, B3⟩
  have HWA := hid WA
  have BB3 := hid B3
  have N2 := hid (NB.out w3 B3)
  obtain ⟨ao, acap, rfl, -⟩ := WA
  clear NA NB B3
  go_wp2_with fail
  refine N2.out.mono ?_
  rintro e w4 ⟨⟨vb, rfl, WB⟩, B4⟩
  have HPB := hid (show PS w4 vb kb p B from ⟨HB.out, WB⟩)
  have HPA4 := hid (show PS w4 _ ka p A from ⟨HA.out, HWA.out.below B4⟩)
  have BB4 := hid (BB3.out.trans (B4.mono BB3.out.size))
  have F4 := hid (FF.out.below BB4.out)
  obtain ⟨bo, bcap, rfl, -⟩ := WB
  have G0 : Hid (∀ G, IsG p G A B → IsG p G A0 B0) := fun G h => IsG.ct h CA.out CB.out
  clear N2 BB3 B4 CA CB HWA FF HA HB
  go_wp2
  go_loopw [7, 8, 9, 10] (fun av bv _ _ wr => ∃ (ro : Option Addr) (k rcap : Nat) (so : Option Addr) (l scap : Nat) (X Y : Nat → Int), av = .slice ro k rcap ∧ bv = .slice so l scap ∧ k ≤ 1000 ∧ l ≤ 1000 ∧ Hid (PS wr (.slice ro k rcap) k p X) ∧ Hid (PS wr (.slice so l scap) l p Y) ∧ Hid (∀ G, IsG p G X Y → IsG p G A0 B0) ∧ Hid (Below w4.heap.size w4 wr)) (fun _ bv _ _ _ => match bv with | .slice _ k _ => k | _ => 0)
  case atStart => exact ⟨_, _, _, _, _, _, A, B, rfl, rfl, by omega, by omega, HPA4, HPB, G0, Below.refl _ _⟩
  case round =>
    clear HPA4 HPB G0
    obtain ⟨ro, k, rcap, so, l, scap, X, Y, rfl, rfl, hk, hl, PX, PY, GG, BW⟩ := hrel
    cases l with
    | zero =>
      have MO := hid (umonic_any g p _ k k X wr HP.out (F4.out.below BW.out) PX.out.2 (by omega) (by rw [PX.out.1.ax, NP.mod PX.out.1]; exact PX.out.1))
      rw [PX.out.1.ax] at MO
      have BB := hid (BB4.out.trans (BW.out.mono BB4.out.size))
      have YZ : Hid (∀ j, Cg p (Y j) 0) := fun j => Cg.of_eq (PY.out.1.out j (Nat.zero_le _))
      clear PX PY BB4 BW HP F4
      go_wp2_with fail
      refine MO.out.mono ?_
      rintro e w5 ⟨⟨v, G, rfl, WG, c, d, hcd, hG, NG, G1⟩, B5⟩
      have R : Hid (PS w5 v k p G ∧ (k = 0 ∨ G (k - 1) = 1) ∧ IsG p G A0 B0) := by
        refine ⟨⟨NG, WG⟩, G1, GG.out G ?_⟩
        have h := (IsG.base (A := X) YZ.out).scale hcd
        refine ⟨?_, ?_, ?_⟩
        · obtain ⟨S, N, hS, e⟩ := h.left
          exact ⟨S, N, hS, e.trans ((Ct.refl p S).cv fun j => (hG j).symm)⟩
        · obtain ⟨S, N, hS, e⟩ := h.right
          exact ⟨S, N, hS, e.trans ((Ct.refl p S).cv fun j => (hG j).symm)⟩
        · obtain ⟨S, T, N, hS, hT, e⟩ := h.lin
          exact ⟨S, T, N, hS, hT, (show Ct p G (fun j => c * X j) from hG).trans e⟩
      have B6 := hid (BB.out.trans (B5.mono BB.out.size))
      clear MO WG hG NG G1 B5 BB YZ GG
      go_wp2
      go_ret
      exact ⟨⟨_, k, G, rfl, R.out⟩, B6.out⟩
    | succ l =>
      have DV := hid (udivide_any g p _ _ k l X Y wr HP.out (F4.out.below BW.out) PX.out.2 PY.out.2 PX.out.1 PY.out.1 hk hl)
      have l0 : (0 : Int) < ((l + 1 : Nat) : Int) := by omega
      go_wp2_with fail
      refine DV.out.mono ?_
      rintro e w5 ⟨⟨q, r, rfl, Q, R, PQ, PR, QO, RO, EE⟩, B5⟩
      obtain ⟨qo, kq, qcap, rfl, PQ3⟩ := PQ.ps
      obtain ⟨ro2, kr, rcap2, rfl, PR3⟩ := PR.ps
      have HPR := hid PR3
      have krl := PR3.1.le RO
      have HPY := hid (PY.out.below B5)
      have G2 : Hid (∀ G, IsG p G Y R → IsG p G A0 B0) := fun G h => GG.out G (h.step PQ3.1.ln EE)
      have B6 := hid (BW.out.trans (B5.mono BW.out.size))
      clear DV PQ PR PQ3 PR3 QO RO EE B5 PX PY GG BW
      go_wp2
      exact ⟨⟨_, _, _, _, _, _, Y, R, rfl, rfl, by omega, by omega, HPY, HPR, G2, B6⟩, by first | omega | (show kr < l + 1; omega)⟩
end Go.Proofs.YtjgipjiopagkiaaDoor
namespace Go.Proofs.YtjgipjiopagkiaaDoor
open Go.RowKit Num Nmb

theorem same_yes (u v : Value) (n : Nat) (a b : Nat → Int) (w : World) (hu : Wl w u n a) (hv : Wl w v n b) (h : ∀ j, j < n → a j = b j) :
    Calls Tryd.prog 9 #[u, v] w fun e w' => e = .returned (.bool true) ∧ ∃ c, w' = w.drewN c :=
  rsame_any u v n n a b w hu hv true ⟨fun _ => ⟨rfl, h⟩, fun _ => rfl⟩
theorem lw_out (l : List Nat) {j : Nat} (h : l.length ≤ j) : lw l j = 0 := by
  unfold lw
  rw [List.getD_eq_getElem?_getD, List.getElem?_eq_none h]; rfl
theorem lw_ln (p : Nat) (l : List Nat) : Ln p l.length (lw l) := fun _ hj => Cg.of_eq (lw_out l hj)
theorem lw_ax (l : List Nat) : ax (lw l) l.length = lw l := funext fun j => by
  by_cases e : j < l.length
  · exact ax_in _ e
  · rw [ax_out _ (by omega), lw_out l (by omega)]
theorem lw_np (p : Nat) (l : List Nat) (h0 : 0 < p) (hb : ∀ j, j < l.length → 0 ≤ lw l j ∧ lw l j < p) (ht : l.length = 0 ∨ lw l (l.length - 1) ≠ 0) : NP p l.length (lw l) :=
  ⟨fun j => by
    by_cases e : j < l.length
    · exact hb j e
    · rw [lw_out l (by omega)]; omega, fun _ hj => lw_out l hj, ht⟩
theorem ct_of {p n : Nat} {A B : Nat → Int} (hA : Ln p n A) (hB : Ln p n B) (h : ∀ j, j < n → Cg p (A j) (B j)) : Ct p A B := fun j => by
  by_cases e : j < n
  · exact h j e
  · exact (hA j (by omega)).trans (hB j (by omega)).symm
theorem e7 : Ct 7 (lw [1, 0, 1]) (pls (cv (lw [6, 1]) (lw [1, 1])) (lw [2])) :=
  ct_of (n := 6) ((lw_ln 7 [1, 0, 1]).mono (m := 6) (by decide)) ((((lw_ln 7 [6, 1]).cv (lw_ln 7 [1, 1])).mono (m := 3) (by decide)).pls ((lw_ln 7 [2]).mono (m := 3) (by decide))) (by unfold Cg; decide)
theorem g7 : IsG 7 (lw [1, 1]) (lw [6, 0, 1]) (lw [1, 1]) :=
  ⟨⟨lw [6, 1], 2, lw_ln 7 [6, 1], ct_of (n := 3) (lw_ln 7 [6, 0, 1]) (((lw_ln 7 [6, 1]).cv (lw_ln 7 [1, 1])).mono (m := 3) (by decide)) (by unfold Cg; decide)⟩, Dvs.refl _ _, fun _ => 0, mono 1 0, 1, fun _ _ => Cg.rfl, Ln.mono1 7 1 0, fun j => by
    show Cg 7 (lw [1, 1] j) (cv (fun _ => 0) (lw [6, 0, 1]) j + cv (mono 1 0) (lw [1, 1]) j)
    rw [cv_comm, cv_zero, Int.zero_add, cv_one]
    exact Cg.rfl⟩
theorem np61 : NP 7 2 (lw [6, 1]) := lw_np 7 [6, 1] (by decide) (by decide) (by decide)
theorem np11 : NP 7 2 (lw [1, 1]) := lw_np 7 [1, 1] (by decide) (by decide) (by decide)
theorem np2 : NP 7 1 (lw [2]) := lw_np 7 [2] (by decide) (by decide) (by decide)
theorem div7 {w : World} {q r : Value} (h : DivIs w q r 7 3 1 (lw [1, 0, 1]) (lw [1, 1])) : Wl w q 2 (lw [6, 1]) ∧ Wl w r 1 (lw [2]) := by
  obtain ⟨Q, R, ⟨nq, hq, wq⟩, ⟨nr, hr, wr⟩, QO, RO, E⟩ := h
  obtain ⟨c1, c2⟩ := div_uniq (N := 3) pri7 np11.tp (fun j hj => Cg.of_eq (QO j hj)) (np61.ln.mono (by omega)) (fun j hj => Cg.of_eq (RO j hj)) np2.ln E e7
  obtain ⟨rfl, rfl⟩ := hq.eq np61 c1
  obtain ⟨rfl, rfl⟩ := hr.eq np2 c2
  exact ⟨wq, wr⟩
theorem gcd7 {w : World} {v : Value} {k : Nat} {G : Nat → Int} (h : PS w v k 7 G) (h1 : k = 0 ∨ G (k - 1) = 1) (h3 : IsG 7 G (lw [6, 0, 1]) (lw [1, 1])) : Wl w v 2 (lw [1, 1]) := by
  cases k with
  | zero =>
    exfalso
    obtain ⟨U, N, hU, e⟩ := h3.right
    have h5 := e 0
    rw [h.1.nil, cv_zero] at h5
    exact absurd h5 (by unfold Cg; decide)
  | succ k =>
    have g1 : Cg 7 (G k) 1 := by
      rcases h1 with h1 | h1
      · omega
      · exact Cg.of_eq h1
    have c := IsG.uniq pri7 h.1.tp np11.tp g1 (by unfold Cg; decide) h3 g7
    obtain ⟨rfl, e⟩ := h.1.eq np11 c
    obtain rfl : k = 1 := by omega
    exact h.2
set_option maxHeartbeats 1600000 in
set_option maxRecDepth 100000 in
theorem uawake (w : World) (L : Lay w) : Calls Tryd.prog 7 #[] w fun e w' => e = .returned (.bool true) ∧ Below w.heap.size w w' := by
  have NW := hid (unew_yes 7 w (isB_of_pri pri7 (by decide)) (by decide) (by decide) L)
  have DV : Hid (∀ W g u v, UF W g 7 → Wl W u 3 (lw [1, 0, 1]) → Wl W v 2 (lw [1, 1]) → Calls Tryd.prog 20 #[.pointer (some ⟨g, 0, none⟩), u, v] W fun e w' => (∃ q r, e = .returned (.tuple #[q, r, .int .i64 0]) ∧ Wl w' q 2 (lw [6, 1]) ∧ Wl w' r 1 (lw [2])) ∧ Below W.heap.size W w') := fun W g u v F U V => by
    have e2 : ax (lw [1, 1]) 2 = lw [1, 1] := lw_ax [1, 1]
    have e3 : ax (lw [1, 0, 1]) 3 = lw [1, 0, 1] := lw_ax [1, 0, 1]
    have h := udivmod_any g 7 u v 3 2 1 _ _ W pri7 F U V (by decide) (by decide) (by rw [e2]; have := NP.mod np11; rw [this]; exact np11)
    rw [e2, e3] at h
    refine h.mono ?_
    rintro e w' ⟨⟨q, r, rfl, D⟩, B⟩
    exact ⟨⟨q, r, rfl, div7 D⟩, B⟩
  have GC : Hid (∀ W g u v, UF W g 7 → Wl W u 3 (lw [6, 0, 1]) → Wl W v 2 (lw [1, 1]) → Calls Tryd.prog 25 #[.pointer (some ⟨g, 0, none⟩), u, v] W fun e w' => (∃ q, e = .returned q ∧ Wl w' q 2 (lw [1, 1])) ∧ Below W.heap.size W w') := fun W g u v F U V => by
    have e2 : ax (lw [1, 1]) 2 = lw [1, 1] := lw_ax [1, 1]
    have e3 : ax (lw [6, 0, 1]) 3 = lw [6, 0, 1] := lw_ax [6, 0, 1]
    have h := ugcd_any g 7 u v 3 2 _ _ W pri7 F U V (by decide) (by decide)
    rw [e2, e3] at h
    refine h.mono ?_
    rintro e w' ⟨⟨v, k, G, rfl, P, h1, h3⟩, B⟩
    exact ⟨⟨v, rfl, gcd7 P h1 h3⟩, B⟩
  clear L
  go_enter Tryd.func7, Tryd.ntmps7
  go_wp2_with fail
  refine NW.out.mono ?_
  rintro e w1 ⟨⟨g, rfl, F⟩, B1⟩
  have F1 := hid F
  have BB1 := hid B1
  clear F B1 NW
  have A1 := hid (Wl.lit w1 [1, 0, 1] (.cells #[.int .u64 1, .int .u64 0, .int .u64 1] 22 (0, 0)) rfl (by decide) (by decide))
  have A2' := Wl.lit (w1.alloc (.cells #[.int .u64 1, .int .u64 0, .int .u64 1] 22 (0, 0))) [1, 1] (.cells #[.int .u64 1, .int .u64 1] 22 (0, 0)) rfl (by decide) (by decide)
  rw [show (w1.alloc (.cells #[.int .u64 1, .int .u64 0, .int .u64 1] 22 (0, 0))).heap.size = w1.heap.size + 1 by simp] at A2'
  have A2 := hid A2'
  have BA : Hid (Below w1.heap.size w1 ((w1.alloc (.cells #[.int .u64 1, .int .u64 0, .int .u64 1] 22 (0, 0))).alloc (.cells #[.int .u64 1, .int .u64 1] 22 (0, 0)))) := ((Below.refl _ _).alloc (Nat.le_refl _) _).alloc (by simp) _
  have A3 := hid (A1.out.below ((Below.refl _ _).alloc (Nat.le_refl _) (.cells #[.int .u64 1, .int .u64 1] 22 (0, 0))))
  have F2 := hid (F1.out.below BA.out)
  clear A2' A1
  go_wp2_with fail
  refine (DV.out _ g _ _ F2.out A3.out A2.out).mono ?_
  rintro e w2 ⟨⟨q, r, rfl, WQ, WR⟩, B2⟩
  have B12 : Hid (Below w1.heap.size w1 w2) := BA.out.trans (B2.mono BA.out.size)
  have HQ := hid WQ
  have HR := hid WR
  have F3 := hid (F1.out.below B12.out)
  have BB2 := hid (BB1.out.trans (B12.out.mono BB1.out.size))
  obtain ⟨qo, qcap, rfl, -⟩ := WQ
  obtain ⟨ro, rcap, rfl, -⟩ := WR
  clear B2 A2 A3 F1 F2 B12 BB1 BA DV
  have A1 := hid (Wl.lit w2 [6, 0, 1] (.cells #[.int .u64 6, .int .u64 0, .int .u64 1] 22 (0, 0)) rfl (by decide) (by decide))
  have A2' := Wl.lit (w2.alloc (.cells #[.int .u64 6, .int .u64 0, .int .u64 1] 22 (0, 0))) [1, 1] (.cells #[.int .u64 1, .int .u64 1] 22 (0, 0)) rfl (by decide) (by decide)
  rw [show (w2.alloc (.cells #[.int .u64 6, .int .u64 0, .int .u64 1] 22 (0, 0))).heap.size = w2.heap.size + 1 by simp] at A2'
  have A2 := hid A2'
  have BA : Hid (Below w2.heap.size w2 ((w2.alloc (.cells #[.int .u64 6, .int .u64 0, .int .u64 1] 22 (0, 0))).alloc (.cells #[.int .u64 1, .int .u64 1] 22 (0, 0)))) := ((Below.refl _ _).alloc (Nat.le_refl _) _).alloc (by simp) _
  have A3 := hid (A1.out.below ((Below.refl _ _).alloc (Nat.le_refl _) (.cells #[.int .u64 1, .int .u64 1] 22 (0, 0))))
  have F2 := hid (F3.out.below BA.out)
  clear A2' A1
  go_wp2_with fail
  refine (GC.out _ g _ _ F2.out A3.out A2.out).mono ?_
  rintro e w3 ⟨⟨d, rfl, WD⟩, B3⟩
  have B23 : Hid (Below w2.heap.size w2 w3) := BA.out.trans (B3.mono BA.out.size)
  have HD := hid WD
  have HQ3 := hid (HQ.out.below B23.out)
  have HR3 := hid (HR.out.below B23.out)
  have BB3 := hid (BB2.out.trans (B23.out.mono BB2.out.size))
  obtain ⟨dO, dcap, rfl, -⟩ := WD
  clear B3 A2 A3 F2 F3 B23 BB2 BA GC HQ HR
  have A1 := hid (Wl.lit w3 [6, 1] (.cells #[.int .u64 6, .int .u64 1] 22 (0, 0)) rfl (by decide) (by decide))
  have BA : Hid (Below w3.heap.size w3 (w3.alloc (.cells #[.int .u64 6, .int .u64 1] 22 (0, 0)))) := (Below.refl _ _).alloc (Nat.le_refl _) _
  have S1 := hid (same_yes _ _ 2 _ _ _ (HQ3.out.below BA.out) A1.out (fun j hj => rfl))
  go_wp2_with fail
  refine S1.out.mono ?_
  rintro e w4 ⟨rfl, c, rfl⟩
  have HR4 := hid ((HR3.out.below BA.out).drew c)
  have HD4 := hid ((HD.out.below BA.out).drew c)
  have BB4 := hid (below_drewN (BB3.out.trans (BA.out.mono BB3.out.size)) c)
  clear A1 BA S1 HR3 HD HQ3 BB3
  generalize (w3.alloc (.cells #[.int .u64 6, .int .u64 1] 22 (0, 0))).drewN c = w4 at *
  have A1 := hid (Wl.lit w4 [2] (.cells #[.int .u64 2] 22 (0, 0)) rfl (by decide) (by decide))
  have BA : Hid (Below w4.heap.size w4 (w4.alloc (.cells #[.int .u64 2] 22 (0, 0)))) := (Below.refl _ _).alloc (Nat.le_refl _) _
  have S1 := hid (same_yes _ _ 1 _ _ _ (HR4.out.below BA.out) A1.out (fun j hj => rfl))
  go_wp2_with fail
  refine S1.out.mono ?_
  rintro e w5 ⟨rfl, c, rfl⟩
  have HD5 := hid ((HD4.out.below BA.out).drew c)
  have BB5 := hid (below_drewN (BB4.out.trans (BA.out.mono BB4.out.size)) c)
  clear A1 BA S1 HR4 HD4 BB4
  generalize (w4.alloc (.cells #[.int .u64 2] 22 (0, 0))).drewN c = w5 at *
  have A1 := hid (Wl.lit w5 [1, 1] (.cells #[.int .u64 1, .int .u64 1] 22 (0, 0)) rfl (by decide) (by decide))
  have BA : Hid (Below w5.heap.size w5 (w5.alloc (.cells #[.int .u64 1, .int .u64 1] 22 (0, 0)))) := (Below.refl _ _).alloc (Nat.le_refl _) _
  have S1 := hid (same_yes _ _ 2 _ _ _ (HD5.out.below BA.out) A1.out (fun j hj => rfl))
  go_wp2_with fail
  refine S1.out.mono ?_
  rintro e w6 ⟨rfl, c, rfl⟩
  have BB6 := hid (below_drewN (BB5.out.trans (BA.out.mono BB5.out.size)) c)
  clear A1 BA S1 HD5 BB5
  go_wp2
  go_ret
  exact ⟨rfl, BB6.out⟩
end Go.Proofs.YtjgipjiopagkiaaDoor
namespace Go.Proofs.YtjgipjiopagkiaaDoor
open Go.RowKit Num Nmb

/-- what had to be shown of upoly, shown. -/
theorem upc : UpC UF Lay where
  fbel := fun _ _ _ _ h b => h.below b
  lbel := fun _ _ h b => h.bel b
  yes := fun p w L h => unewA_yes p w L h
  no := fun p w L _ hn h => unewA_no p w L hn h
  any := fun p w L _ _ => unewA_any p w L
  fp := fun w g p h => up_any g p w h
  div0 := fun w g p u v n m a b F _ U V _ hm hB => (udivmod_nil g p u v n m a b w F U V hm hB).mono (by rintro e w' ⟨rfl, B⟩; exact ⟨⟨_, _, _, _, rfl⟩, B⟩)
  div := fun w g p u v n m mB a b F hp U V hn hm hB => (udivmod_any g p u v n m mB a b w hp F U V hn hm hB).mono (by rintro e w' ⟨⟨q, r, rfl, Q, R, PQ, PR, _, RO, E⟩, B⟩; exact ⟨⟨q, r, rfl, Q, R, PQ, PR, RO, E⟩, B⟩)
  awk := fun w L => uawake w L
theorem same_pv (u v : Value) (p : Nat) (A B : Nat → Int) (w : World) (hu : PV w u p A) (hv : PV w v p B) (h : Ct p A B) :
    Calls Tryd.prog 9 #[u, v] w fun e w' => e = .returned (.bool true) ∧ ∃ c, w' = w.drewN c := by
  obtain ⟨n, h1, h3⟩ := hu
  obtain ⟨m, g1, g3⟩ := hv
  obtain ⟨rfl, rfl⟩ := h1.eq g1 h
  exact same_yes u v _ _ _ w h3 g3 (fun _ _ => rfl)
theorem PV.drew {w : World} {v : Value} {p : Nat} {A : Nat → Int} (h : PV w v p A) (k : Nat) : PV (w.drewN k) v p A := h.below (below_drewN (Below.refl _ _) k)
set_option maxHeartbeats 1600000 in
theorem divides_law (p : Nat) (u v : Value) (n m : Nat) (a b : Nat → Int) (w : World) (h64 : p ≤ 18446744073709551615) (U : Wl w u n a) (V : Wl w v m b) (L : Lay w) :
    Calls Tryd.prog 4 #[.int .u64 p, u, v] w fun e w' => e = .returned (.bool true) ∧ Below w.heap.size w w' := by
  have AW : Hid (∀ W, Below w.heap.size w W → Calls Tryd.prog 7 #[] W fun e w' => e = .returned (.bool true) ∧ Below w.heap.size w w') := fun W B => (uawake W (L.bel B)).mono (by rintro e w' ⟨rfl, B'⟩; exact ⟨rfl, B.trans (B'.mono B.size)⟩)
  by_cases hA : Asked p
  · have FD := hid (field9_yes upc p w L hA)
    have p63 := hA.le
    have HP := hid hA.pri
    have FE : Hid (∀ W, Below w.heap.size w W → Calls Tryd.prog 6 #[u, v] W fun e w' => e = .returned (.bool (decide (n ≤ 40 ∧ m ≤ 40))) ∧ w' = W) := fun W B => few9 u v n m a b W (U.below B) (V.below B)
    by_cases hf : n ≤ 40 ∧ m ≤ 40
    · rw [decide_eq_true hf] at FE
      obtain ⟨kb, kbm, hB⟩ := np_ex (p := p) (by have := HP.out.1; omega) (ax b m) m (fun j hj => Cg.of_eq (ax_out b hj))
      have RN : Hid (∀ W, Below w.heap.size w W → Calls Tryd.prog 8 #[v, .int .u64 p] W fun e w' => (∃ o c, e = .returned (.slice o kb c)) ∧ Below w.heap.size w w' ∧ Below W.heap.size W w') := fun W B => by
        refine (rnorm9 v m b p W (V.below B) (by omega) HP.out.1 (by omega)).mono ?_
        rintro e w' ⟨⟨x, rfl, k, hk, WX⟩, B'⟩
        obtain ⟨_, rfl⟩ := hk.eq hB (Ct.refl _ _)
        obtain ⟨o, c, rfl, -⟩ := WX
        exact ⟨⟨o, c, rfl⟩, B.trans (B'.mono B.size), B'⟩
      cases kb with
      | zero =>
        have DV : Hid (∀ W g, Below w.heap.size w W → UF W g p → Calls Tryd.prog 20 #[.pointer (some ⟨g, 0, none⟩), u, v] W fun e w' => e = .returned (.tuple #[.slice none 0 0, .slice none 0 0, .int .i64 10]) ∧ Below w.heap.size w w') := fun W g B F => (udivmod_nil g p u v n m a b W F (U.below B) (V.below B) (by omega) hB).mono (by rintro e w' ⟨rfl, B'⟩; exact ⟨rfl, B.trans (B'.mono B.size)⟩)
        obtain ⟨uo, ucap, rfl, -⟩ := U
        obtain ⟨vo, vcap, rfl, -⟩ := V
        clear hA L hB hf HP
        go_enter Tryd.func4, Tryd.ntmps4
        go_wp2_with fail
        refine FD.out.mono ?_
        rintro e w1 ⟨⟨g, rfl, F⟩, B1⟩
        have HF := hid F
        have HB := hid B1
        clear FD F B1
        go_wp2_with fail
        refine (FE.out _ HB.out).mono ?_
        rintro e w2 ⟨rfl, hw⟩
        obtain rfl := hw.symm
        clear FE
        go_wp2_with fail
        refine (DV.out _ g HB.out HF.out).mono ?_
        rintro e w3 ⟨rfl, B3⟩
        have HB3 := hid B3
        clear DV B3 HB HF
        go_wp2_with fail
        refine (RN.out _ HB3.out).mono ?_
        rintro e w4 ⟨⟨o, c, rfl⟩, B4, -⟩
        have HB4 := hid B4
        clear RN B4 HB3
        go_wp2_with fail
        refine (AW.out _ HB4.out).mono ?_
        rintro e w5 ⟨rfl, B5⟩
        have HB5 := hid B5
        clear B5 HB4 AW
        go_wp2
        go_ret
        exact ⟨rfl, HB5.out⟩
      | succ dg =>
        have DV : Hid (∀ W g, Below w.heap.size w W → UF W g p → Calls Tryd.prog 20 #[.pointer (some ⟨g, 0, none⟩), u, v] W fun e w' => (∃ q r, e = .returned (.tuple #[q, r, .int .i64 0]) ∧ DivIs w' q r p n dg (ax a n) (ax b m)) ∧ Below w.heap.size w w') := fun W g B F => (udivmod_any g p u v n m dg a b W HP.out F (U.below B) (V.below B) (by omega) (by omega) hB).mono (by rintro e w' ⟨h, B'⟩; exact ⟨h, B.trans (B'.mono B.size)⟩)
        have RD : Hid (∀ W, Below w.heap.size w W → Calls Tryd.prog 21 #[u, v, .int .u64 p] W fun e w' => (∃ q r, e = .returned (.tuple #[q, r]) ∧ DivIs w' q r p n dg (ax a n) (ax b m)) ∧ Below w.heap.size w w' ∧ Below W.heap.size W w') := fun W B => (rdiv9 u v n m dg a b p W HP.out (U.below B) (V.below B) (by omega) (by omega) (by omega) hB).mono (by rintro e w' ⟨⟨q, r, Q, R, rfl, h⟩, B'⟩; exact ⟨⟨q, r, rfl, Q, R, h⟩, B.trans (B'.mono B.size), B'⟩)
        have TB : Hid (Top p dg (ax b m)) := hB.tp.ct (mod_ct _)
        obtain ⟨uo, ucap, rfl, -⟩ := U
        obtain ⟨vo, vcap, rfl, -⟩ := V
        have k0 : (((dg + 1 : Nat) : Int) == 0) = false := beq_eq_false_iff_ne.2 (by omega)
        clear hA L hB hf
        generalize ax b m = B0 at *
        generalize ax a n = A0 at *
        go_enter Tryd.func4, Tryd.ntmps4
        go_wp2_with fail
        refine FD.out.mono ?_
        rintro e w1 ⟨⟨g, rfl, F⟩, B1⟩
        have HF := hid F
        have HB := hid B1
        clear FD F B1
        go_wp2_with fail
        refine (FE.out _ HB.out).mono ?_
        rintro e w2 ⟨rfl, hw⟩
        obtain rfl := hw.symm
        clear FE
        go_wp2_with fail
        refine (DV.out _ g HB.out HF.out).mono ?_
        rintro e w3 ⟨⟨q, r, rfl, Q, R, PQ, PR, QO, RO, E⟩, B3⟩
        have HB3 := hid B3
        have HPQ := hid PQ
        have HPR := hid PR
        have HE := hid E
        have HRO := hid RO
        have HQO := hid QO
        obtain ⟨qo, kq, qcap, rfl, -⟩ := PQ.ps
        obtain ⟨ro, kr, rcap, rfl, -⟩ := PR.ps
        clear DV B3 HB HF PQ PR QO RO E
        go_wp2_with fail
        refine (RN.out _ HB3.out).mono ?_
        rintro e w4 ⟨⟨o, c, rfl⟩, B4, B4'⟩
        have HB4 := hid B4
        have HPQ4 := hid (HPQ.out.below B4')
        have HPR4 := hid (HPR.out.below B4')
        clear RN B4 B4' HB3 HPQ HPR
        go_wp2_with fail
        refine (RD.out _ HB4.out).mono ?_
        rintro e w5 ⟨⟨q2, r2, rfl, Q2, R2, PQ2, PR2, QO2, RO2, E2⟩, B5, B5'⟩
        have HB5 := hid B5
        have HPQ5 := hid (HPQ4.out.below B5')
        have HPR5 := hid (HPR4.out.below B5')
        obtain ⟨c1, c2⟩ := div_uniq (N := n) HP.out TB.out (fun j hj => Cg.of_eq (HQO.out j hj)) (fun j hj => Cg.of_eq (QO2 j hj)) (fun j hj => Cg.of_eq (HRO.out j hj)) (fun j hj => Cg.of_eq (RO2 j hj)) HE.out E2
        have S1 := hid (same_pv _ _ p Q Q2 w5 HPQ5.out PQ2 c1)
        have S2 : Hid (∀ k, Calls Tryd.prog 9 #[.slice ro kr rcap, r2] (w5.drewN k) fun e w' => e = .returned (.bool true) ∧ ∃ c, w' = (w5.drewN k).drewN c) := fun k => same_pv _ _ p R R2 _ (HPR5.out.drew k) (PR2.drew k) c2
        obtain ⟨qo2, kq2, qcap2, rfl, -⟩ := PQ2.ps
        obtain ⟨ro2, kr2, rcap2, rfl, -⟩ := PR2.ps
        clear RD B5 B5' HB4 HPQ4 HPR4 HPQ5 HPR5 PQ2 PR2 QO2 RO2 E2 c1 c2 HE HRO HQO TB HP
        go_wp2_with fail
        refine S1.out.mono ?_
        rintro e w6 ⟨rfl, c6, rfl⟩
        have S3 := hid (S2.out c6)
        have HB6 := hid (below_drewN HB5.out c6)
        clear S1 S2 HB5
        generalize w5.drewN c6 = w6 at *
        go_wp2_with fail
        refine S3.out.mono ?_
        rintro e w7 ⟨rfl, c7, rfl⟩
        have HB7 := hid (below_drewN HB6.out c7)
        clear S3 HB6
        generalize w6.drewN c7 = w7 at *
        go_wp2_with fail
        refine (AW.out _ HB7.out).mono ?_
        rintro e w8 ⟨rfl, B8⟩
        have HB8 := hid B8
        clear B8 HB7 AW
        go_wp2
        go_ret
        exact ⟨rfl, HB8.out⟩
    · rw [decide_eq_false hf] at FE
      obtain ⟨uo, ucap, rfl, -⟩ := U
      obtain ⟨vo, vcap, rfl, -⟩ := V
      clear hA L hf HP
      go_enter Tryd.func4, Tryd.ntmps4
      go_wp2_with fail
      refine FD.out.mono ?_
      rintro e w1 ⟨⟨g, rfl, F⟩, B1⟩
      have HB := hid B1
      clear FD F B1
      go_wp2_with fail
      refine (FE.out _ HB.out).mono ?_
      rintro e w2 ⟨rfl, hw⟩
      obtain rfl := hw.symm
      clear FE
      go_wp2_with fail
      refine (AW.out _ HB.out).mono ?_
      rintro e w5 ⟨rfl, B5⟩
      have HB5 := hid B5
      clear B5 HB AW
      go_wp2
      go_ret
      exact ⟨rfl, HB5.out⟩
  · have FD := hid (field9_no upc p w L h64 hA)
    obtain ⟨uo, ucap, rfl, -⟩ := U
    obtain ⟨vo, vcap, rfl, -⟩ := V
    clear hA L
    go_enter Tryd.func4, Tryd.ntmps4
    go_wp2_with fail
    refine FD.out.mono ?_
    rintro e w1 ⟨rfl, B1⟩
    have HB := hid B1
    clear FD B1
    go_wp2_with fail
    refine (AW.out _ HB.out).mono ?_
    rintro e w5 ⟨rfl, B5⟩
    have HB5 := hid B5
    clear B5 HB AW
    go_wp2
    go_ret
    exact ⟨rfl, HB5.out⟩
end Go.Proofs.YtjgipjiopagkiaaDoor
