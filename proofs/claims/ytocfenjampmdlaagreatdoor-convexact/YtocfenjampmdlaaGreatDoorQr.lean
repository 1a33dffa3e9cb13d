/- Bits and words that the landed tft asks for. -/
/- What the field's Inv answers. -/
/- What the field's forms answer (Montgomery). -/
/- What the field's Add and Sub answer. -/
/- The law's awake: the chapter's examples. -/
/- What the reference of layer 3 answers: sums, products, powers. -/
/- The reference's powers, in plain numbers. -/
/- The reference's values of polynomials, and whether two lists are the same. -/
import Derived.Test.YtocfenjampmdlaaGreatDoorYa
import Derived.Test.YtocfenjampmdlaaGreatDoorQo
import Derived.Test.YtocfenjampmdlaaGreatDoorShelf
import Derived.Laws.BitsLemmas
import Derived.Test.YtocfenjampmdlaaGreatDoorVw
import Derived.Test.YtocfenjampmdlaaGreatDoorPg
import Derived.Deep.RegionHeld3
namespace Go.Proofs.YtocfenjampmdlaaGreatDoor
open Go.RowKit Num Nmb

theorem sw_said (m s d x : Nat) (hx : x < 18446744073709551616) (hm : m < 18446744073709551616) (hd : d = 2 ^ s) :
    bits .or .u64 (bits .and .u64 ((x : Int) / (d : Nat)) (m : Nat)) (IntKind.u64.wrap (bits .and .u64 (x : Int) (m : Nat) * (d : Nat))) = ((sw m s x : Nat) : Int) := by
  have h1 : x / d < 18446744073709551616 := Nat.lt_of_le_of_lt (Nat.div_le_self _ _) hx
  have h2 : x / d &&& m < 18446744073709551616 := Nat.lt_of_le_of_lt Nat.and_le_right hm
  rw [← Int.natCast_ediv, bits_and_u64_nat _ _ h1 hm, bits_and_u64_nat _ _ hx hm, ← Int.natCast_mul, IntKind.wrap_u64, show (18446744073709551616 : Int) = ((18446744073709551616 : Nat) : Int) from rfl, ← Int.natCast_emod, bits_or_u64_nat _ _ h2 (Nat.mod_lt _ (by decide)), hd]
  rfl
theorem sh_said (x : Nat) (hx : x < 18446744073709551616) : bits .or .u64 ((x : Int) / 4294967296) (IntKind.u64.wrap ((x : Int) * 4294967296)) = ((sh x : Nat) : Int) := by
  have h1 : x / 4294967296 < 18446744073709551616 := Nat.lt_of_le_of_lt (Nat.div_le_self _ _) hx
  rw [show (4294967296 : Int) = ((4294967296 : Nat) : Int) from rfl, ← Int.natCast_ediv, ← Int.natCast_mul, IntKind.wrap_u64, show (18446744073709551616 : Int) = ((18446744073709551616 : Nat) : Int) from rfl, ← Int.natCast_emod, bits_or_u64_nat _ _ h1 (Nat.mod_lt _ (by decide))]
  rfl
set_option maxHeartbeats 1600000 in
theorem revBytes_any (x : Nat) (w : World) (hx : x < 18446744073709551616) :
    Calls Tryz.prog 127 #[.int .u64 x] w fun e w' => e = .returned (.int .u64 (sh (sw 281470681808895 16 (sw 71777214294589695 8 x)) : Nat)) ∧ w' = w := by
  have e1 := sw_said 71777214294589695 8 256 x hx (by decide) rfl
  have l1 := sw_lt 71777214294589695 8 x (by decide)
  generalize sw 71777214294589695 8 x = y at *
  have e2 := sw_said 281470681808895 16 65536 y l1 (by decide) rfl
  have l2 := sw_lt 281470681808895 16 y (by decide)
  generalize sw 281470681808895 16 y = z at *
  have e3 := sh_said z l2
  generalize sh z = u at *
  simp only [Int.cast_ofNat_Int] at e1 e2 e3
  go_enter Tryz.func127, Tryz.ntmps127
  go_wp2
  go_ret
  exact ⟨rfl, rfl⟩
set_option maxHeartbeats 1600000 in
theorem rev_any (x : Nat) (w : World) (hx : x < 18446744073709551616) :
    Calls Tryz.prog 122 #[.int .u64 x] w fun e w' => e = .returned (.int .u64 (rev64 x : Nat)) ∧ w' = w := by
  unfold rev64
  have e1 := sw_said 6148914691236517205 1 2 x hx (by decide) rfl
  have l1 := sw_lt 6148914691236517205 1 x (by decide)
  generalize sw 6148914691236517205 1 x = y at *
  have e2 := sw_said 3689348814741910323 2 4 y l1 (by decide) rfl
  have l2 := sw_lt 3689348814741910323 2 y (by decide)
  generalize sw 3689348814741910323 2 y = z at *
  have e3 := sw_said 1085102592571150095 4 16 z l2 (by decide) rfl
  have l3 := sw_lt 1085102592571150095 4 z (by decide)
  generalize sw 1085102592571150095 4 z = u at *
  have RB := hid (revBytes_any u w l3)
  simp only [Int.cast_ofNat_Int] at e1 e2 e3
  go_enter Tryz.func122, Tryz.ntmps122
  go_wp2_with fail
  refine RB.out.mono ?_
  rintro e w2 ⟨rfl, hw⟩
  obtain rfl := hw.symm
  go_wp2
  go_ret
  exact ⟨rfl, by first | trivial | rfl⟩
set_option maxHeartbeats 1600000 in
theorem turned_any (i k : Nat) (w : World) (hi : i ≤ 9223372036854775807) (hk : k ≤ 63) :
    Calls Tryz.prog 109 #[.int .i64 i, .int .i64 k] w fun e w' => e = .returned (.int .i64 (rv k i : Nat)) ∧ w' = w := by
  have R := hid (rev_any i w (by omega))
  have q0 : IntKind.u64.wrap (i : Int) = (i : Int) := by rw [IntKind.wrap_u64]; omega
  have q1 : ((64 : Int) - (k : Int)).toNat = 64 - k := by omega
  have q2 : ((rev64 i : Nat) : Int) / 2 ^ (64 - k) = ((rv k i : Nat) : Int) := by
    rw [← rev64_rv i k (by omega), Int.natCast_ediv, Int.natCast_pow]; rfl
  have q3 : rv k i < 9223372036854775808 := Nat.lt_of_lt_of_le (rv_lt k i) (Nat.pow_le_pow_right (n := 2) (j := 63) (by omega) hk)
  generalize rev64 i = x at *
  generalize rv k i = y at *
  go_enter Tryz.func109, Tryz.ntmps109
  go_wp2_with fail
  refine R.out.mono ?_
  rintro e w2 ⟨rfl, hw⟩
  obtain rfl := hw.symm
  go_wp2
  go_ret
  exact ⟨rfl, by first | trivial | rfl⟩
theorem bl_said : ∀ f x, x < 2 ^ f → f ≤ 64 → x < 2 ^ Lib.bitLen x ∧ Lib.bitLen x ≤ f
  | 0, x, h, _ => by
    obtain rfl : x = 0 := by rw [Nat.pow_zero] at h; omega
    decide
  | f + 1, x, h, h64 => by
    by_cases h0 : x = 0
    · subst h0
      exact ⟨by decide, by have : Lib.bitLen 0 = 0 := by decide
                           omega⟩
    · rw [Nat.pow_succ] at h
      have h1 := bl_said f (x / 2) (by omega) (by omega)
      have h2 : x < 2 ^ 64 := Nat.lt_of_lt_of_le (by rw [Nat.pow_succ]; exact h) (Nat.pow_le_pow_right (n := 2) (i := f + 1) (by omega) h64)
      rw [Lib.bitLen_half x h0 h2, Nat.add_comm 1, Nat.pow_succ]
      omega
set_option maxHeartbeats 800000 in
theorem blen_any (x : Nat) (w : World) (h : x ≤ 18446744073709551615) :
    Calls Tryz.prog 63 #[.int .u64 x] w fun e w' => e = .returned (.int .i64 (Lib.bitLen x : Nat)) ∧ w' = w := by
  have L : Hid (∀ w, Calls Tryz.prog 82 #[.int .u64 x] w fun e w' => e = .returned (.int .i64 (Lib.bitLen x : Nat)) ∧ w' = w) := fun w => by
    have := Any.bits_Len64 Tryz.lays129 (x : Int) w (by omega) (by omega)
    rw [Int.toNat_natCast] at this
    exact this
  go_enter Tryz.func63, Tryz.ntmps63
  go_wp2_with fail
  refine (L.out _).mono ?_
  rintro e w2 ⟨rfl, hw⟩
  obtain rfl := hw.symm
  go_wp2
  go_ret
  exact ⟨rfl, by first | trivial | rfl⟩
theorem bl_low : ∀ f x, x < 2 ^ f → f ≤ 64 → 0 < x → ∃ q, Lib.bitLen x = q + 1 ∧ 2 ^ q ≤ x
  | 0, x, h, _, h0 => by rw [Nat.pow_zero] at h; omega
  | f + 1, x, h, h64, h0 => by
    have h2 : x < 2 ^ 64 := Nat.lt_of_lt_of_le h (Nat.pow_le_pow_right (n := 2) (i := f + 1) (by omega) h64)
    have e := Lib.bitLen_half x (by omega) h2
    by_cases h1 : x / 2 = 0
    · rw [h1, show Lib.bitLen 0 = 0 by decide] at e
      exact ⟨0, by omega, by rw [Nat.pow_zero]; omega⟩
    · rw [Nat.pow_succ] at h
      obtain ⟨q, h3, h4⟩ := bl_low f (x / 2) (by omega) (by omega) (by omega)
      exact ⟨q + 1, by omega, by rw [Nat.pow_succ]; omega⟩
theorem xor_i64 (a b : Nat) (ha : a < 2 ^ 62) (hb : b < 2 ^ 62) : bits .xor .i64 (a : Int) (b : Int) = ((a ^^^ b : Nat) : Int) := by
  show IntKind.i64.wrap ((BitVec.ofInt 64 (a : Int) ^^^ BitVec.ofInt 64 (b : Int)).toNat : Nat) = _
  rw [BitVec.toNat_xor, BitVec.ofInt_natCast, BitVec.ofInt_natCast, BitVec.toNat_ofNat, BitVec.toNat_ofNat, Nat.mod_eq_of_lt (by omega), Nat.mod_eq_of_lt (by omega), IntKind.wrap_i64]
  have := Nat.xor_lt_two_pow ha hb
  omega
theorem Row.eq {w : World} {g n : Nat} {x y : Nat → Int} (h : Row w g n x) (e : ∀ j, j < n → x j = y j) : Row w g n y := by
  obtain ⟨cur, h1, h2, h3⟩ := h
  exact ⟨cur, h1, h2, fun j hj => by rw [← e j hj]; exact h3 j hj⟩
end Go.Proofs.YtocfenjampmdlaaGreatDoor
namespace Go.Proofs.YtocfenjampmdlaaGreatDoor
open Go.RowKit Num
set_option maxHeartbeats 800000 in
theorem euclid_any (m x : Int) (w : World) (hx : 0 < x) (hm : x < m) (hm' : m ≤ 9223372036854775807) :
    Calls Tryz.prog 93 #[.int .u64 m, .int .u64 x] w fun e w' => (∃ t : Int, e = .returned (.tuple #[.int .u64 (Nat.gcd m.toNat x.toNat : Nat), .int .i64 t]) ∧ m ∣ t * x - (Nat.gcd m.toNat x.toNat : Nat) ∧ -m ≤ t ∧ t ≤ m) ∧ w' = w := by
  obtain ⟨G, hG⟩ : ∃ G, Nat.gcd m.toNat x.toNat = G := ⟨_, rfl⟩
  have S0 := Euc.start hx hm
  rw [hG] at S0
  have S := hid S0
  rw [hG]
  clear hG S0
  go_enter Tryz.func93, Tryz.ntmps93
  go_wp2
  go_loop [6, 7, 8, 9] (fun lv nv lt nt => ∃ (l n a b : Int), lv = .int .u64 l ∧ nv = .int .u64 n ∧ lt = .int .i64 a ∧ nt = .int .i64 b ∧ Hid (Euc m x l n a b G)) (fun _ nv _ _ => (intOf nv).toNat)
  case atStart => exact ⟨m, x, 0, 1, rfl, rfl, rfl, rfl, S⟩
  case round =>
    obtain ⟨l, n, a, b, rfl, rfl, rfl, rfl, E⟩ := hrel
    clear S
    by_cases h0 : n = 0
    · subst h0
      obtain ⟨rfl, hd⟩ := E.out.done
      obtain ⟨b1, b2, b3, b4⟩ := E.out.bds
      have D := hid hd
      clear hd E
      go_wp2
      go_ret2
      exact ⟨⟨a, rfl, D.out, b1, b2⟩, rfl⟩
    · have h0' : (n != 0) = true := by simp [h0]
      have h0'' : (n == 0) = false := beq_eq_false_iff_ne.2 h0
      obtain ⟨N, c1, c2, c3, c4, c5, c6, c7, c8, c9⟩ := E.out.step h0
      have NN := hid N
      have e1 := E.out.hl
      have e2 := E.out.hn
      have e3 := E.out.hlm
      have hr := md_lt l (show 0 < n by omega)
      rw [← c1] at hr
      clear N E c1
      have hq : 0 ≤ l / n := c4
      generalize hqe : l / n = q at *
      go_wp2
      exact ⟨⟨n, l - q * n, b, a - q * b, rfl, rfl, rfl, rfl, NN⟩, by simp only [intOf]; omega⟩
/-- why x has no inverse modulo m. -/
def ec (x m : Int) : Int := if x % m = 0 then 10 else if gc x m = 1 then 0 else 11
/-- what Inv answers. -/
structure Iv (m x y : Int) : Prop where
  bad : ec x m ≠ 0 → y = 0
  good : ec x m = 0 → 0 ≤ y ∧ y < m ∧ x * y % m = 1
theorem ec_pos (x : Int) {m : Int} (hm : 2 ≤ m) (h : gc x m = 1) : ec x m = 0 := by
  unfold ec
  rw [if_neg, if_pos h]
  intro h0
  unfold gc at h
  rw [h0] at h
  simp at h
  omega
theorem ec_zero {x m : Int} (h : ec x m = 0) : gc x m = 1 := by
  unfold ec at h
  split at h
  · exact absurd h (by decide)
  · split at h
    · assumption
    · exact absurd h (by decide)
set_option maxHeartbeats 800000 in
theorem inv_any (g : Nat) (m f s x : Int) (w : World) (h : Fld w g m f s) (hm : Ok m f s) (hx : 0 ≤ x) :
    Calls Tryz.prog 70 #[.pointer (some ⟨g, 0, none⟩), .int .u64 x] w fun e w' => (∃ y, e = .returned (.tuple #[.int .u64 y, .int .i64 (ec x m)]) ∧ Iv m x y) ∧ w' = w := by
  have H := hid h
  have c0 := h.cell0
  have h2 := hm.h2
  have h63 := hm.h63
  have a := md_lt x (show 0 < m by omega)
  have L := hid (left_any g m f s x w h (by omega) hx)
  have I : ∀ y, x % m * y % m = 1 → x * y % m = 1 := fun y hy => by rw [md_left] at hy; exact hy
  have II := hid I
  clear h hm I
  by_cases h1 : x % m = 0
  · have e1 : ec x m = 10 := by unfold ec; rw [if_pos h1]
    have e2 : Hid (Iv m x 0) := ⟨fun _ => rfl, fun h => absurd h (by rw [e1]; decide)⟩
    rw [e1]
    have h1' : (x % m == 0) = true := by simpa using h1
    generalize x % m = u at *
    clear e1 II h1
    go_enter Tryz.func70, Tryz.ntmps70
    go_wp2_with fail
    refine L.out.mono ?_
    rintro e w2 ⟨rfl, rfl⟩
    go_wp2
    go_ret2
    exact ⟨⟨0, rfl, e2.out⟩, rfl⟩
  · have h1' : (x % m == 0) = false := beq_eq_false_iff_ne.2 h1
    have EU := hid (euclid_any m (x % m) w (by omega) a.2 h63)
    have eg : Nat.gcd m.toNat (x % m).toNat = gc x m := rfl
    rw [eg] at EU
    by_cases h3 : gc x m = 1
    · have e1 : ec x m = 0 := ec_pos x h2 h3
      have e2 : Hid (∀ y, 0 ≤ y ∧ y < m ∧ x % m * y % m = 1 → Iv m x y) := fun y hy => ⟨fun h => absurd e1 h, fun _ => ⟨hy.1, hy.2.1, II.out y hy.2.2⟩⟩
      rw [e1]
      rw [h3] at EU
      clear eg h3 e1 II
      generalize x % m = u at *
      go_enter Tryz.func70, Tryz.ntmps70
      go_wp2_with fail
      refine L.out.mono ?_
      rintro e w2 ⟨rfl, rfl⟩
      go_wp2_with fail
      refine EU.out.mono ?_
      rintro e w2 ⟨⟨t, rfl, hd, t1, t2⟩, rfl⟩
      have D := hid hd
      clear hd EU L
      by_cases ht : t < 0
      · obtain ⟨i1, i2, i3⟩ := inv_neg h2 D.out t1 ht
        have i3' := hid i3
        clear i3
        go_wp2
        go_ret2
        exact ⟨⟨t + m, rfl, e2.out _ ⟨i1, i2, i3'.out⟩⟩, rfl⟩
      · obtain ⟨i1, i2, i3⟩ := inv_pos h2 D.out (by omega) t2
        have i3' := hid i3
        clear i3
        go_wp2
        go_ret2
        exact ⟨⟨t, rfl, e2.out _ ⟨i1, i2, i3'.out⟩⟩, rfl⟩
    · have e1 : ec x m = 11 := by unfold ec; rw [if_neg h1, if_neg h3]
      have e2 : Hid (Iv m x 0) := ⟨fun _ => rfl, fun h => absurd h (by rw [e1]; decide)⟩
      have hpos : 1 < (gc x m : Int) := by
        have : 0 < gc x m := Nat.gcd_pos_of_pos_left _ (by omega)
        omega
      rw [e1]
      clear eg h3 e1 II
      generalize (gc x m : Int) = G at *
      generalize x % m = u at *
      go_enter Tryz.func70, Tryz.ntmps70
      go_wp2_with fail
      refine L.out.mono ?_
      rintro e w2 ⟨rfl, rfl⟩
      go_wp2_with fail
      refine EU.out.mono ?_
      rintro e w2 ⟨⟨t, rfl, hd, t1, t2⟩, rfl⟩
      clear hd EU L
      go_wp2
      go_ret2
      exact ⟨⟨0, rfl, e2.out⟩, rfl⟩
end Go.Proofs.YtocfenjampmdlaaGreatDoor
namespace Go.Proofs.YtocfenjampmdlaaGreatDoor
open Go.RowKit Num
theorem or_bits (a : Int) (ha : 0 ≤ a) (ha' : a ≤ 18446744073709551615) (h0 : a ≠ 0) :
    bits .or .u64 a (18446744073709551616 - a) / 9223372036854775808 = 1 := by
  obtain ⟨a, rfl⟩ := Int.eq_ofNat_of_zero_le ha
  have e : (18446744073709551616 - (a : Int)) = ((18446744073709551616 - a : Nat) : Int) := by omega
  rw [e, bits_or_u64_nat _ _ (by omega) (by omega)]
  have h1 : a ≤ a ||| (18446744073709551616 - a) := Nat.left_le_or
  have h2 : 18446744073709551616 - a ≤ a ||| (18446744073709551616 - a) := Nat.right_le_or
  have h3 : a ||| (18446744073709551616 - a) < 2 ^ 64 := Nat.or_lt_two_pow (by omega) (by omega)
  omega
theorem and_full (m : Int) (h : 0 ≤ m) (h' : m ≤ 18446744073709551615) : bits .and .u64 m 18446744073709551615 = m := by
  obtain ⟨m, rfl⟩ := Int.eq_ofNat_of_zero_le h
  have h := bits_and_u64_nat m 18446744073709551615 (by omega) (by omega)
  have e : m &&& 18446744073709551615 = m % 18446744073709551616 := Nat.and_two_pow_sub_one_eq_mod m 64
  rw [e, Nat.mod_eq_of_lt (by omega)] at h
  exact h
theorem and_none (m : Int) (h : 0 ≤ m) (h' : m ≤ 18446744073709551615) : bits .and .u64 m 0 = 0 := by
  obtain ⟨m, rfl⟩ := Int.eq_ofNat_of_zero_le h
  have h := bits_and_u64_nat m 0 (by omega) (by omega)
  rw [Nat.and_zero] at h
  exact h
theorem or_none : bits .or .u64 0 0 / 9223372036854775808 = 0 := by decide
set_option maxHeartbeats 1600000 in
theorem reduce_any (g : Nat) (m f s x y : Int) (w : World) (h : Fld w g m f s) (mo : Mont m f) (hx : 0 ≤ x ∧ x < m) (hy : 0 ≤ y ∧ y < m) :
    Calls Tryz.prog 94 #[.pointer (some ⟨g, 0, none⟩), .int .u64 x, .int .u64 y] w fun e w' => e = .returned (.int .u64 (rd m f (x * y))) ∧ ∃ k, w' = w.drewN k := by
  have c0 := h.cell0
  have c1 := h.cell1
  have h2 := mo.hm
  have h63 := mo.hm'
  have f1 := mo.hf
  have f2 := mo.hf'
  have hp := mul_pp hx hy h63
  have hM := hid (Tryz.bits_Mul64 x y hx.1 (by omega) hy.1 (by omega) w)
  have hb := mo.bds hp
  generalize x * y = p at *
  have et : IntKind.u64.wrap (p % 18446744073709551616 * f) = mtt f p := by rw [IntKind.wrap_u64]; rfl
  have ht : 0 ≤ mtt f p ∧ mtt f p ≤ 18446744073709551615 := by unfold mtt; omega
  have hF := hid (fun w => Tryz.bits_Mul64 (mtt f p) m ht.1 ht.2 (by omega) (by omega) w)
  have eS : p / 18446744073709551616 + mtt f p * m / 18446744073709551616 + mc p = ms m f p := rfl
  have hmm : 0 ≤ mtt f p * m := Int.mul_nonneg ht.1 (by omega)
  have p1 : 0 ≤ p / 18446744073709551616 := by omega
  have p2 : 0 ≤ mtt f p * m / 18446744073709551616 := by omega
  have p3 : 0 ≤ mc p ∧ mc p ≤ 1 := by unfold mc; split <;> omega
  have er : rd m f p = if ms m f p < m then ms m f p else ms m f p - m := rfl
  have b1 : 0 ≤ p % 18446744073709551616 ∧ p % 18446744073709551616 ≤ 18446744073709551615 := by omega
  obtain ⟨o, ho, hc⟩ : ∃ o, bits .or .u64 (p % 18446744073709551616) (IntKind.u64.wrap (-(p % 18446744073709551616))) = o ∧ o / 9223372036854775808 = mc p := by
    refine ⟨_, rfl, ?_⟩
    unfold mc
    split
    · rename_i h0; rw [h0]; decide
    · rename_i h0
      have e : IntKind.u64.wrap (-(p % 18446744073709551616)) = 18446744073709551616 - p % 18446744073709551616 := by rw [IntKind.wrap_u64]; omega
      rw [e]
      exact or_bits _ b1.1 b1.2 h0
  obtain ⟨R, hR⟩ : ∃ R, R = rd m f p := ⟨_, rfl⟩
  rw [← hR]
  rw [← hR] at er
  have ER := hid er
  clear er hR
  clear h mo
  generalize mtt f p = t at *
  generalize mc p = c at *
  generalize ms m f p = S at *
  generalize hhi : p / 18446744073709551616 = hi at *
  generalize hlo : p % 18446744073709551616 = lo at *
  generalize hfi : t * m / 18446744073709551616 = fi at *
  generalize hfl : t * m % 18446744073709551616 = fl at *
  go_enter Tryz.func94, Tryz.ntmps94
  go_wp2_with fail
  refine hM.out.mono ?_
  rintro e w2 ⟨rfl, rfl⟩
  go_wp2_with fail
  go_quiet ((go_at_call 87; first | exact Calls.quiet_of_same (hF.out _) | (rw [et]; exact Calls.quiet_of_same (hF.out _))))
  rename_i nq
  clear hM hF hp hmm hhi hlo hfi hfl et
  by_cases hS : S < m
  · have eL : IntKind.u64.wrap (S - m) = S - m + 18446744073709551616 := by rw [IntKind.wrap_u64]; omega
    have e1 : (S - m + 18446744073709551616) / 9223372036854775808 = 1 := by omega
    have e2 := and_full m (by omega) (by omega)
    have e3 : R = S := by rw [ER.out, if_pos hS]
    subst e3
    clear ER
    go_wp2
    go_ret
    exact ⟨ret_int (by rw [show IntKind.u64.wrap (-1) = 18446744073709551615 from by decide, e2, IntKind.wrap_u64]; omega), nq, rfl⟩
  · have eL : IntKind.u64.wrap (S - m) = S - m := by rw [IntKind.wrap_u64]; omega
    have e1 : (S - m) / 9223372036854775808 = 0 := by omega
    have e2 := and_none m (by omega) (by omega)
    have e3 : R = S - m := by rw [ER.out, if_neg hS]
    subst e3
    clear ER
    go_wp2
    go_ret
    exact ⟨rfl, nq, rfl⟩
/-- what the calls with forms answer: 0 and an error, if m is even. -/
structure Fm (m t r : Int) : Prop where
  even : m % 2 = 0 → r = 0
  odd : m % 2 = 1 → 0 ≤ r ∧ r < m ∧ r * 18446744073709551616 % m = t % m
def fe (m : Int) : Int := if m % 2 = 0 then 1 else 0
theorem s_lt {m f s : Int} (hm : Ok m f s) (h : m % 2 = 1) : 0 ≤ s ∧ s < m := by
  rw [(hm.odd h).2]; exact md_lt _ (by have := hm.h2; omega)
set_option maxHeartbeats 800000 in
theorem in_any (g : Nat) (m f s x : Int) (w : World) (h : Fld w g m f s) (hm : Ok m f s) (hx : 0 ≤ x) :
    Calls Tryz.prog 71 #[.pointer (some ⟨g, 0, none⟩), .int .u64 x] w fun e w' => (∃ r, e = .returned (.tuple #[.int .u64 r, .int .i64 (fe m)]) ∧ Fm m (x * 18446744073709551616 * 18446744073709551616) r) ∧ ∃ k, w' = w.drewN k := by
  have c2 := h.cell2
  have h2 := hm.h2
  have h63 := hm.h63
  have a := md_lt x (show 0 < m by omega)
  have FE := hid (formError_any g m f s w h (by omega))
  have L := hid (fun n => left_any g m f s x (w.drewN n) (h.drew n) (by omega) hx)
  by_cases h1 : m % 2 = 0
  · have e1 : fe m = 1 := by unfold fe; rw [if_pos h1]
    rw [e1]
    rw [if_pos h1] at FE
    have R : Hid (Fm m (x * 18446744073709551616 * 18446744073709551616) 0) := ⟨fun _ => rfl, fun h => absurd h (by omega)⟩
    clear h hm e1 h1 L
    go_enter Tryz.func71, Tryz.ntmps71
    go_wp2_with fail
    refine FE.out.mono ?_
    rintro e w2 ⟨rfl, rfl⟩
    go_wp2
    go_ret2
    exact ⟨⟨0, rfl, R.out⟩, 0, rfl⟩
  · have e1 : fe m = 0 := by unfold fe; rw [if_neg h1]
    have ho : m % 2 = 1 := by omega
    obtain ⟨mo, hs⟩ := hm.odd ho
    have hsl := s_lt hm ho
    rw [e1]
    rw [if_neg h1] at FE
    have rr := mo.rd (mul_pp a hsl h63)
    have R : Hid (Fm m (x * 18446744073709551616 * 18446744073709551616) (rd m f (x % m * s))) := ⟨fun h => absurd h h1, fun _ => ⟨rr.1, rr.2.1, by rw [rr.2.2, hs, md_times, Int.mul_assoc]⟩⟩
    have RD := hid (fun n => reduce_any g m f s (x % m) s (w.drewN n) (h.drew n) mo a hsl)
    clear h hm e1 h1 rr mo hs ho
    generalize rd m f (x % m * s) = r at *
    generalize x % m = u at *
    go_enter Tryz.func71, Tryz.ntmps71
    go_wp2_with fail
    refine FE.out.mono ?_
    rintro e w2 ⟨rfl, rfl⟩
    go_wp2_with fail
    go_quiet (first
      | (go_at_call 88; exact Calls.quiet_of_same (L.out _))
      | (go_at_call 94; exact Calls.quiet_of (RD.out _)))
    rename_i nq
    go_wp2
    go_ret2
    exact ⟨⟨r, rfl, R.out⟩, nq, rfl⟩
set_option maxHeartbeats 800000 in
theorem ftimes_any (g : Nat) (m f s x y : Int) (w : World) (h : Fld w g m f s) (hm : Ok m f s) (hx : 0 ≤ x) (hy : 0 ≤ y) :
    Calls Tryz.prog 95 #[.pointer (some ⟨g, 0, none⟩), .int .u64 x, .int .u64 y] w fun e w' => (∃ r, e = .returned (.tuple #[.int .u64 r, .int .i64 (fe m)]) ∧ Fm m (x * y) r) ∧ ∃ k, w' = w.drewN k := by
  have h2 := hm.h2
  have h63 := hm.h63
  have a := md_lt x (show 0 < m by omega)
  have b := md_lt y (show 0 < m by omega)
  have FE := hid (formError_any g m f s w h (by omega))
  have L := hid (left_any g m f s x w h (by omega) hx)
  have L2 := hid (left_any g m f s y w h (by omega) hy)
  by_cases h1 : m % 2 = 0
  · have e1 : fe m = 1 := by unfold fe; rw [if_pos h1]
    rw [e1]
    rw [if_pos h1] at FE
    have R : Hid (Fm m (x * y) 0) := ⟨fun _ => rfl, fun h => absurd h (by omega)⟩
    clear h hm e1 h1 L L2
    go_enter Tryz.func95, Tryz.ntmps95
    go_wp2_with fail
    refine FE.out.mono ?_
    rintro e w2 ⟨rfl, rfl⟩
    go_wp2
    go_ret2
    exact ⟨⟨0, rfl, R.out⟩, 0, rfl⟩
  · have e1 : fe m = 0 := by unfold fe; rw [if_neg h1]
    have ho : m % 2 = 1 := by omega
    obtain ⟨mo, hs⟩ := hm.odd ho
    rw [e1]
    rw [if_neg h1] at FE
    have rr := mo.rd (mul_pp a b h63)
    have R : Hid (Fm m (x * y) (rd m f (x % m * (y % m)))) := ⟨fun h => absurd h h1, fun _ => ⟨rr.1, rr.2.1, by rw [rr.2.2, md_times]⟩⟩
    have RD := hid (reduce_any g m f s (x % m) (y % m) w h mo a b)
    clear h hm e1 h1 rr mo hs ho
    generalize rd m f (x % m * (y % m)) = r at *
    generalize x % m = u at *
    generalize y % m = v at *
    go_enter Tryz.func95, Tryz.ntmps95
    go_wp2_with fail
    refine FE.out.mono ?_
    rintro e w2 ⟨rfl, rfl⟩
    go_wp2_with fail
    refine L.out.mono ?_
    rintro e w2 ⟨rfl, rfl⟩
    go_wp2_with fail
    refine L2.out.mono ?_
    rintro e w2 ⟨rfl, rfl⟩
    go_wp2_with fail
    refine RD.out.mono ?_
    rintro e w2 ⟨rfl, k, rfl⟩
    go_wp2
    go_ret2
    exact ⟨⟨r, rfl, R.out⟩, k, rfl⟩
theorem in_form (g : Nat) (m f s x : Int) (w : World) (h : Fld w g m f s) (hm : Ok m f s) (hx : 0 ≤ x) (ho : m % 2 = 1) :
    Calls Tryz.prog 71 #[.pointer (some ⟨g, 0, none⟩), .int .u64 x] w fun e w' => e = .returned (.tuple #[.int .u64 (x * 18446744073709551616 % m), .int .i64 0]) ∧ ∃ k, w' = w.drewN k := by
  refine (in_any g m f s x w h hm hx).mono ?_
  rintro e w' ⟨⟨r, rfl, F⟩, K⟩
  obtain ⟨h0, h1, h2⟩ := F.odd ho
  have e1 : fe m = 0 := by unfold fe; rw [if_neg (by omega)]
  rw [(hm.odd ho).1.cancel ⟨h0, h1⟩ h2, e1]
  exact ⟨rfl, K⟩
theorem times_form (g : Nat) (m f s x y z : Int) (w : World) (h : Fld w g m f s) (hm : Ok m f s) (hx : 0 ≤ x) (hy : 0 ≤ y) (ho : m % 2 = 1) (hz : y % m = z * 18446744073709551616 % m) :
    Calls Tryz.prog 95 #[.pointer (some ⟨g, 0, none⟩), .int .u64 x, .int .u64 y] w fun e w' => e = .returned (.tuple #[.int .u64 (x * z % m), .int .i64 0]) ∧ ∃ k, w' = w.drewN k := by
  refine (ftimes_any g m f s x y w h hm hx hy).mono ?_
  rintro e w' ⟨⟨r, rfl, F⟩, K⟩
  obtain ⟨h0, h1, h2⟩ := F.odd ho
  have e1 : fe m = 0 := by unfold fe; rw [if_neg (by omega)]
  have e2 : x * y % m = x * z * 18446744073709551616 % m := by rw [Int.mul_assoc, Int.mul_emod x y, hz, ← Int.mul_emod]
  rw [(hm.odd ho).1.cancel ⟨h0, h1⟩ (h2.trans e2), e1]
  exact ⟨rfl, K⟩
end Go.Proofs.YtocfenjampmdlaaGreatDoor
namespace Go.Proofs.YtocfenjampmdlaaGreatDoor
open Go.RowKit Num
set_option maxHeartbeats 800000 in
theorem add_any (g : Nat) (m f s x y : Int) (w : World) (h : Fld w g m f s) (hm : Ok m f s) (hx : 0 ≤ x) (hy : 0 ≤ y) :
    Calls Tryz.prog 112 #[.pointer (some ⟨g, 0, none⟩), .int .u64 x, .int .u64 y] w fun e w' => e = .returned (.int .u64 ((x + y) % m)) ∧ w' = w := by
  have H := hid h
  have c0 := h.cell0
  have h2 := hm.h2
  have h63 := hm.h63
  have E : Hid ((x + y) % m = if m ≤ x % m + y % m then x % m + y % m - m else x % m + y % m) := by
    show _ = _
    have a := md_lt x (show 0 < m by omega)
    have b := md_lt y (show 0 < m by omega)
    rw [Int.add_emod]
    generalize x % m = u at *
    generalize y % m = v at *
    split
    · rw [← Int.sub_emod_right]; exact Int.emod_eq_of_lt (by omega) (by omega)
    · exact Int.emod_eq_of_lt (by omega) (by omega)
  have a := md_lt x (show 0 < m by omega)
  have b := md_lt y (show 0 < m by omega)
  clear h
  go_enter Tryz.func112, Tryz.ntmps112
  go_wp2_with fail
  refine (left_any g m f s x w H.out (by omega) hx).mono ?_
  rintro e w' ⟨rfl, rfl⟩
  go_wp2_with fail
  refine (left_any g m f s y _ H.out (by omega) hy).mono ?_
  rintro e w' ⟨rfl, rfl⟩
  generalize x % m = u at *
  generalize y % m = v at *
  by_cases hc : m ≤ u + v
  · go_wp2
    go_ret
    exact ⟨ret_int (by rw [E.out, if_pos hc]), rfl⟩
  · go_wp2
    go_ret
    exact ⟨ret_int (by rw [E.out, if_neg (by omega)]), rfl⟩
set_option maxHeartbeats 800000 in
theorem sub_any (g : Nat) (m f s x y : Int) (w : World) (h : Fld w g m f s) (hm : Ok m f s) (hx : 0 ≤ x) (hy : 0 ≤ y) :
    Calls Tryz.prog 96 #[.pointer (some ⟨g, 0, none⟩), .int .u64 x, .int .u64 y] w fun e w' => e = .returned (.int .u64 ((x - y) % m)) ∧ w' = w := by
  have H := hid h
  have c0 := h.cell0
  have h2 := hm.h2
  have h63 := hm.h63
  have E : Hid ((x - y) % m = if x % m < y % m then x % m + m - y % m else x % m - y % m) := by
    show _ = _
    have a := md_lt x (show 0 < m by omega)
    have b := md_lt y (show 0 < m by omega)
    rw [Int.sub_emod]
    generalize x % m = u at *
    generalize y % m = v at *
    split
    · rw [← Int.add_emod_right, show u - v + m = u + m - v by omega]; exact Int.emod_eq_of_lt (by omega) (by omega)
    · exact Int.emod_eq_of_lt (by omega) (by omega)
  have a := md_lt x (show 0 < m by omega)
  have b := md_lt y (show 0 < m by omega)
  clear h
  go_enter Tryz.func96, Tryz.ntmps96
  go_wp2_with fail
  refine (left_any g m f s x w H.out (by omega) hx).mono ?_
  rintro e w' ⟨rfl, rfl⟩
  go_wp2_with fail
  refine (left_any g m f s y _ H.out (by omega) hy).mono ?_
  rintro e w' ⟨rfl, rfl⟩
  generalize x % m = u at *
  generalize y % m = v at *
  by_cases hc : u < v
  · go_wp2
    go_ret
    exact ⟨ret_int (by rw [E.out, if_pos hc]), rfl⟩
  · go_wp2
    go_ret
    exact ⟨ret_int (by rw [E.out, if_neg (by omega)]), rfl⟩
end Go.Proofs.YtocfenjampmdlaaGreatDoor
namespace Go.Proofs.YtocfenjampmdlaaGreatDoor
open Go.RowKit Num Nmb

theorem OwW.cells {w : World} {base : Nat} {v : Value} {l : List Nat} (h : OwW w base v l) (hl : 0 < l.length) :
    ∃ g cap, v = .slice (some ⟨g, 0, none⟩) l.length cap ∧ l.length ≤ cap ∧ base ≤ g ∧ g < w.heap.size ∧ ∀ j (hj : j < l.length), w.cell? ⟨g, j, none⟩ = some (.int .u64 (l[j] : Nat)) := by
  rcases h.2 with ⟨rfl, h0⟩ | ⟨g, cap, cur, rfl, hg, hgg, hgc, hgm, hgs, htk⟩
  · omega
  · refine ⟨g, cap, rfl, hgc, hg, (Array.getElem?_eq_some_iff.1 hgg).1, fun j hj => ?_⟩
    have := World.ownsRow.cellAt h j (by omega)
    rw [this]
    simp [wordCells, List.getElem?_eq_getElem hj]
theorem nx90 : Nx 90 97 := ⟨by decide, is97, fun m h1 h2 => by
  have : m = 90 ∨ m = 91 ∨ m = 92 ∨ m = 93 ∨ m = 94 ∨ m = 95 ∨ m = 96 := by omega
  rcases this with rfl | rfl | rfl | rfl | rfl | rfl | rfl
  · exact is_even (by decide) (by decide)
  · exact is91
  · exact is_even (by decide) (by decide)
  · exact is93
  · exact is_even (by decide) (by decide)
  · exact is95
  · exact is_even (by decide) (by decide)⟩
theorem gath_yes {u i n : Nat} (e : 1 + u * (i + 1) = n) (h : isB n = true) : gath u (i + 1) = n :: gath u i := by
  rw [gath, e, if_pos h]
theorem gath_no {u i n : Nat} (e : 1 + u * (i + 1) = n) (h : isB n = false) : gath u (i + 1) = gath u i := by
  rw [gath, e, h]; rfl
theorem gath20 : gath 1048576 953 = 998244353 :: gath 1048576 951 := by
  rw [gath_no (n := 999292929) (by decide) is999, gath_yes (n := 998244353) (by decide) is998]
theorem root17 : RootIs 17 2 13 := by
  refine ⟨3, by decide, by decide, ⟨by decide, fun i hi => ?_⟩, fun x h1 h2 h3 => ?_⟩
  · have : i = 0 ∨ i = 1 := by omega
    rcases this with rfl | rfl <;> decide
  · have : x = 1 ∨ x = 2 := by omega
    rcases this with rfl | rfl
    · exact absurd (h3.2 0 (by decide)) (by decide)
    · exact absurd (h3.2 1 (by decide)) (by decide)
theorem scan20 {w : World} {base : Nat} {v : Value} {er : Int} (h : ScanIs w base v er 1 (gath 1048576 953)) : er = 0 ∧ OwW w base v [998244353] := by
  rcases h with ⟨h1, h2, h3⟩ | ⟨h1, h2, h3⟩
  · rw [gath20] at h2; exact ⟨h1, h2⟩
  · rw [gath20] at h3; simp at h3
end Go.Proofs.YtocfenjampmdlaaGreatDoor
namespace Go.Proofs.YtocfenjampmdlaaGreatDoor
open Go.RowKit Num
set_option maxHeartbeats 400000 in
theorem radd_any (x y m : Int) (w : World) (hx : 0 ≤ x) (hy : 0 ≤ y) (hm : 2 ≤ m) (hm' : m ≤ 9223372036854775807) :
    Calls Tryz.prog 26 #[.int .u64 x, .int .u64 y, .int .u64 m] w fun e w' => e = .returned (.int .u64 ((x + y) % m)) ∧ ∃ k, w' = w.drewN k := by
  have h0 : (m == 0) = false := beq_eq_false_iff_ne.2 (by omega)
  have a := md_lt x (show 0 < m by omega)
  have b := md_lt y (show 0 < m by omega)
  have c := md_lt (x % m + y % m) (show 0 < m by omega)
  have E := hid (Int.add_emod x y m)
  go_enter Tryz.func26, Tryz.ntmps26
  go_wp2
  go_region
  go_wp2
  go_ret
  exact ⟨ret_int' E.out.symm, 1, rfl⟩
set_option maxHeartbeats 800000 in
theorem rmul_any (x y m : Int) (w : World) (hx : 0 ≤ x) (hy : 0 ≤ y) (hm : 2 ≤ m) (hm' : m ≤ 9223372036854775807) :
    Calls Tryz.prog 27 #[.int .u64 x, .int .u64 y, .int .u64 m] w fun e w' => e = .returned (.int .u64 (x * y % m)) ∧ ∃ k, w' = w.drewN k := by
  have h0 : (m == 0) = false := beq_eq_false_iff_ne.2 (by omega)
  have a := md_lt x (show 0 < m by omega)
  have b := md_lt y (show 0 < m by omega)
  have E0 : Hid ((0 + x % m * (y % m)) % m = x * y % m) := by show _ = _; rw [Int.zero_add, md_times]
  obtain ⟨T, hT⟩ : ∃ T, T = x * y % m := ⟨_, rfl⟩
  rw [← hT] at E0
  rw [← hT]
  clear hT
  go_enter Tryz.func27, Tryz.ntmps27
  go_wp2
  generalize x % m = u at *
  generalize y % m = v at *
  go_loopw [0, 1, 7] (fun xv yv ov wr => ∃ (p q r : Int), xv = .int .u64 p ∧ yv = .int .u64 q ∧ ov = .int .u64 r ∧ 0 ≤ p ∧ p < m ∧ 0 ≤ q ∧ q ≤ 9223372036854775807 ∧ 0 ≤ r ∧ r < m ∧ Hid ((r + p * q) % m = T) ∧ ∃ k, wr = w.drewN k) (fun _ yv _ _ => (intOf yv).toNat)
  case atStart => exact ⟨u, v, 0, rfl, rfl, rfl, a.1, a.2, b.1, by omega, by decide, by omega, E0, 0, rfl⟩
  case round =>
    obtain ⟨p, q, r, rfl, rfl, rfl, hp, hp', hq, hq', hr, hr', G, k, rfl⟩ := hrel
    by_cases hq0 : q = 0
    · subst hq0
      have e : r = T := by have := G.out; rw [Int.mul_zero, Int.add_zero, Int.emod_eq_of_lt hr hr'] at this; exact this
      subst e
      clear G
      go_wp2
      go_ret
      exact ⟨rfl, k, rfl⟩
    · have hq1 : 0 < q := by omega
      by_cases ho : q % 2 = 1
      · have N := hid (mul_odd r p q m T G.out ho)
        have ho' : (q % 2 == 1) = true := by simp [ho]
        clear G
        go_wp2_with fail
        refine (radd_any r p m _ hr hp hm hm').mono ?_
        rintro e w2 ⟨rfl, k2, rfl⟩
        go_wp2_with fail
        refine (radd_any p p m _ hp hp hm hm').mono ?_
        rintro e w3 ⟨rfl, k3, rfl⟩
        have b1 := md_lt (r + p) (show 0 < m by omega)
        have b2 := md_lt (p + p) (show 0 < m by omega)
        generalize (r + p) % m = r' at *
        generalize (p + p) % m = p' at *
        go_wp2
        exact ⟨⟨p', q / 2, r', rfl, rfl, rfl, b2.1, b2.2, by omega, by omega, b1.1, b1.2, N, k + k2 + k3, by simp⟩, by simp only [intOf]; omega⟩
      · have N := hid (mul_even r p q m T G.out (by omega))
        have ho' : (q % 2 == 1) = false := by simp; omega
        clear G
        go_wp2_with fail
        refine (radd_any p p m _ hp hp hm hm').mono ?_
        rintro e w2 ⟨rfl, k2, rfl⟩
        have b2 := md_lt (p + p) (show 0 < m by omega)
        generalize (p + p) % m = p' at *
        go_wp2
        exact ⟨⟨p', q / 2, r, rfl, rfl, rfl, b2.1, b2.2, by omega, by omega, hr, hr', N, k + k2, by simp⟩, by simp only [intOf]; omega⟩
end Go.Proofs.YtocfenjampmdlaaGreatDoor
namespace Go.Proofs.YtocfenjampmdlaaGreatDoor
open Go.RowKit Num Nmb

end Go.Proofs.YtocfenjampmdlaaGreatDoor
namespace Go.Proofs.YtocfenjampmdlaaGreatDoor
open Go.RowKit Num Nmb

theorem ev_nonneg {a : Nat → Int} {x : Int} (hx : 0 ≤ x) : ∀ n, (∀ j, j < n → 0 ≤ a j) → 0 ≤ ev a n x
  | 0, _ => Int.le_refl _
  | n + 1, h => by
    have h1 := ev_nonneg hx n (fun j hj => h j (by omega))
    have h2 : 0 ≤ a n * x ^ n := Int.mul_nonneg (h n (by omega)) (Int.pow_nonneg hx)
    show 0 ≤ ev a n x + a n * x ^ n
    omega
/-- Horner's way: what stands when the coefficients from k on were taken. -/
def hor (a : Nat → Int) (n : Nat) (x : Int) (k : Nat) : Int := ev (fun i => a (k + i)) (n - k) x
theorem hor_top (a : Nat → Int) (n : Nat) (x : Int) : hor a n x n = 0 := by unfold hor; rw [Nat.sub_self]; rfl
theorem hor_zero (a : Nat → Int) (n : Nat) (x : Int) : hor a n x 0 = ev a n x := by
  unfold hor
  rw [Nat.sub_zero]
  congr 1
  funext i
  rw [Nat.zero_add]
theorem hor_step (a : Nat → Int) {n : Nat} (x : Int) {k : Nat} (h : k < n) : hor a n x k = hor a n x (k + 1) * x + a k := by
  unfold hor
  rw [show n - k = (n - (k + 1)) + 1 by omega, ev_front, Nat.add_zero, Int.mul_comm, Int.add_comm]
  congr 3
  funext i
  congr 1
  omega
set_option maxHeartbeats 1600000 in
theorem rsame_any (u v : Value) (n m : Nat) (a b : Nat → Int) (w : World) (hu : Wl w u n a) (hv : Wl w v m b) (r : Bool) (hr : r = true ↔ n = m ∧ ∀ j, j < n → a j = b j) :
    Calls Tryz.prog 12 #[u, v] w fun e w' => e = .returned (.bool r) ∧ ∃ c, w' = w.drewN c := by
  obtain ⟨ao, cap, rfl, h1, h2, h3, h5⟩ := hu
  obtain ⟨bo, bap, rfl, g1, g2, g3, g5⟩ := hv
  have H5 := hid h5
  have G5 := hid g5
  clear h3 h5 g3 g5
  by_cases e : n = m
  · subst e
    have R1 : Hid ((∀ j, j < n → a j = b j) → r = true) := fun h => hr.2 ⟨rfl, h⟩
    have R2 : Hid (r = true → ∀ j, j < n → a j = b j) := fun h => (hr.1 h).2
    clear hr
    go_enter Tryz.func12, Tryz.ntmps12
    go_wp2
    go_loopw [5] (fun iv wr => ∃ k : Nat, k ≤ n ∧ iv = .int .i64 k ∧ Hid (∀ j, j < k → a j = b j) ∧ ∃ c, wr = w.drewN c) (fun iv _ => ((n : Int) - intOf iv).toNat)
    case atStart => exact ⟨0, Nat.zero_le _, rfl, fun j hj => absurd hj (by omega), 0, rfl⟩
    case round =>
      obtain ⟨k, hk, rfl, S, c, rfl⟩ := hrel
      by_cases hkn : k = n
      · subst hkn
        obtain rfl : r = true := R1.out S.out
        go_wp2
        go_ret
        exact ⟨rfl, c, rfl⟩
      · have hkn' : (k : Int) < n := by omega
        obtain ⟨b1, o1, rfl, hb1, hc1⟩ := H5.out (by omega)
        obtain ⟨b2, o2, rfl, hb2, hc2⟩ := G5.out (by omega)
        have c1 : (w.drewN c).cell? ⟨b1, o1 + k, none⟩ = some (.int .u64 (a k)) := by simpa using hc1 k (by omega)
        have c2 : (w.drewN c).cell? ⟨b2, o2 + k, none⟩ = some (.int .u64 (b k)) := by simpa using hc2 k (by omega)
        clear hc1 hc2
        by_cases hab : a k = b k
        · have S' : Hid (∀ j, j < k + 1 → a j = b j) := fun j hj => by
            by_cases ej : j = k
            · rw [ej]; exact hab
            · exact S.out j (by omega)
          have hab' : (a k != b k) = false := by simp [hab]
          clear S hab
          generalize a k = ak at *
          generalize b k = bk at *
          generalize hw : w.drewN c = w3 at *
          have HE := hid hw
          clear hw
          go_wp2_with fail
          go_region
          all_goals
            go_wp2
            exact ⟨⟨k + 1, by omega, rfl, S', c + 1, by rw [← HE.out]; simp⟩, by simp only [intOf]; omega⟩
        · obtain rfl : r = false := by
            cases r
            · rfl
            · exact absurd (R2.out rfl k (by omega)) hab
          have hab' : (a k != b k) = true := bne_iff_ne.2 hab
          clear S hab
          generalize a k = ak at *
          generalize b k = bk at *
          generalize hw : w.drewN c = w3 at *
          have HE := hid hw
          clear hw
          go_wp2_with fail
          go_region
          all_goals
            go_wp2
            go_ret
            exact ⟨rfl, c + 1, by rw [← HE.out]; simp⟩
  · obtain rfl : r = false := by
      cases r
      · rfl
      · exact absurd (hr.1 rfl).1 e
    have e' : ((n : Int) != (m : Int)) = true := bne_iff_ne.2 (by omega)
    clear hr
    go_enter Tryz.func12, Tryz.ntmps12
    go_wp2
    go_ret
    exact ⟨rfl, 0, rfl⟩
end Go.Proofs.YtocfenjampmdlaaGreatDoor
