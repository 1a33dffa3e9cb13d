/- Bits and words that the landed tft asks for. -/
import Derived.Test.YtbecdlibckbbcabDoorUa
import Derived.Test.YtbecdlibckbbcabDoorYa
import Derived.Test.YtbecdlibckbbcabDoorQo
import Derived.Test.YtbecdlibckbbcabDoorShelf
import Derived.Laws.BitsLemmas
namespace Go.Proofs.YtbecdlibckbbcabDoor
open Go.RowKit Num Nmb

theorem sw_said (m s d x : Nat) (hx : x < 18446744073709551616) (hm : m < 18446744073709551616) (hd : d = 2 ^ s) :
    bits .or .u64 (bits .and .u64 ((x : Int) / (d : Nat)) (m : Nat)) (IntKind.u64.wrap (bits .and .u64 (x : Int) (m : Nat) * (d : Nat))) = ((sw m s x : Nat) : Int) := by
  have h1 : x / d < 18446744073709551616 := Nat.lt_of_le_of_lt (Nat.div_le_self _ _) hx
  have h2 : x / d &&& m < 18446744073709551616 := Nat.lt_of_le_of_lt Nat.and_le_right hm
  rw [← Int.natCast_ediv, bits_and_u64_nat _ _ h1 hm, bits_and_u64_nat _ _ hx hm, ← Int.natCast_mul, IntKind.wrap_u64, show (18446744073709551616 : Int) = ((18446744073709551616 : Nat) : Int) from rfl, ← Int.natCast_emod, bits_or_u64_nat _ _ h2 (Nat.mod_lt _ (by decide)), hd]
  rfl
theorem sh_said (x : Nat) (hx : x < 18446744073709551616) : bits .or .u64 ((x : Int) / 4294967296) (IntKind.u64.wrap ((x : Int) * 4294967296)) = ((sh x : Nat) : Int) := by
  have h1 : x / 4294967296 < 18446744073709551616 := Nat.lt_of_le_of_lt (Nat.div_le_self _ _) hx
  rw [show (4294967296 : Int) = ((4294967296 : Nat) : Int) from rfl, ← Int.natCast_ediv, ← Int.natCast_mul, IntKind.wrap_u64, show (18446744073709551616 : Int) = ((18446744073709551616 : Nat) : Int) from rfl, ← Int.natCast_emod, bits_or_u64_nat _ _ h1 (Nat.mod_lt _ (by decide))]
  rfl
set_option maxHeartbeats 1600000 in
theorem revBytes_any (x : Nat) (w : World) (hx : x < 18446744073709551616) :
    Calls Tryd.prog 50 #[.int .u64 x] w fun e w' => e = .returned (.int .u64 (sh (sw 281470681808895 16 (sw 71777214294589695 8 x)) : Nat)) ∧ w' = w := by
  have e1 := sw_said 71777214294589695 8 256 x hx (by decide) rfl
  have l1 := sw_lt 71777214294589695 8 x (by decide)
  generalize sw 71777214294589695 8 x = y at *
  have e2 := sw_said 281470681808895 16 65536 y l1 (by decide) rfl
  have l2 := sw_lt 281470681808895 16 y (by decide)
  generalize sw 281470681808895 16 y = z at *
  have e3 := sh_said z l2
  generalize sh z = u at *
  simp only [Int.cast_ofNat_Int] at e1 e2 e3
  go_enter Tryd.func50, Tryd.ntmps50
  go_wp2
  go_ret
  exact ⟨rfl, rfl⟩
set_option maxHeartbeats 1600000 in
theorem rev_any (x : Nat) (w : World) (hx : x < 18446744073709551616) :
    Calls Tryd.prog 39 #[.int .u64 x] w fun e w' => e = .returned (.int .u64 (rev64 x : Nat)) ∧ w' = w := by
  unfold rev64
  have e1 := sw_said 6148914691236517205 1 2 x hx (by decide) rfl
  have l1 := sw_lt 6148914691236517205 1 x (by decide)
  generalize sw 6148914691236517205 1 x = y at *
  have e2 := sw_said 3689348814741910323 2 4 y l1 (by decide) rfl
  have l2 := sw_lt 3689348814741910323 2 y (by decide)
  generalize sw 3689348814741910323 2 y = z at *
  have e3 := sw_said 1085102592571150095 4 16 z l2 (by decide) rfl
  have l3 := sw_lt 1085102592571150095 4 z (by decide)
  generalize sw 1085102592571150095 4 z = u at *
  have RB := hid (revBytes_any u w l3)
  simp only [Int.cast_ofNat_Int] at e1 e2 e3
  go_enter Tryd.func39, Tryd.ntmps39
  go_wp2_with fail
  refine RB.out.mono ?_
  rintro e w2 ⟨rfl, hw⟩
  obtain rfl := hw.symm
  go_wp2
  go_ret
  exact ⟨rfl, by first | trivial | rfl⟩
set_option maxHeartbeats 1600000 in
theorem turned_any (i k : Nat) (w : World) (hi : i ≤ 9223372036854775807) (hk : k ≤ 63) :
    Calls Tryd.prog 29 #[.int .i64 i, .int .i64 k] w fun e w' => e = .returned (.int .i64 (rv k i : Nat)) ∧ w' = w := by
  have R := hid (rev_any i w (by omega))
  have q0 : IntKind.u64.wrap (i : Int) = (i : Int) := by rw [IntKind.wrap_u64]; omega
  have q1 : ((64 : Int) - (k : Int)).toNat = 64 - k := by omega
  have q2 : ((rev64 i : Nat) : Int) / 2 ^ (64 - k) = ((rv k i : Nat) : Int) := by
    rw [← rev64_rv i k (by omega), Int.natCast_ediv, Int.natCast_pow]; rfl
  have q3 : rv k i < 9223372036854775808 := Nat.lt_of_lt_of_le (rv_lt k i) (Nat.pow_le_pow_right (n := 2) (j := 63) (by omega) hk)
  generalize rev64 i = x at *
  generalize rv k i = y at *
  go_enter Tryd.func29, Tryd.ntmps29
  go_wp2_with fail
  refine R.out.mono ?_
  rintro e w2 ⟨rfl, hw⟩
  obtain rfl := hw.symm
  go_wp2
  go_ret
  exact ⟨rfl, by first | trivial | rfl⟩
theorem bl_said : ∀ f x, x < 2 ^ f → f ≤ 64 → x < 2 ^ Lib.bitLen x ∧ Lib.bitLen x ≤ f
  | 0, x, h, _ => by
    obtain rfl : x = 0 := by rw [Nat.pow_zero] at h; omega
    decide
  | f + 1, x, h, h64 => by
    by_cases h0 : x = 0
    · subst h0
      exact ⟨by decide, by have : Lib.bitLen 0 = 0 := by decide
                           omega⟩
    · rw [Nat.pow_succ] at h
      have h1 := bl_said f (x / 2) (by omega) (by omega)
      have h2 : x < 2 ^ 64 := Nat.lt_of_lt_of_le (by rw [Nat.pow_succ]; exact h) (Nat.pow_le_pow_right (n := 2) (i := f + 1) (by omega) h64)
      rw [Lib.bitLen_half x h0 h2, Nat.add_comm 1, Nat.pow_succ]
      omega
set_option maxHeartbeats 800000 in
theorem blen_any (x : Nat) (w : World) (h : x ≤ 18446744073709551615) :
    Calls Tryd.prog 40 #[.int .u64 x] w fun e w' => e = .returned (.int .i64 (Lib.bitLen x : Nat)) ∧ w' = w := by
  have L : Hid (∀ w, Calls Tryd.prog 52 #[.int .u64 x] w fun e w' => e = .returned (.int .i64 (Lib.bitLen x : Nat)) ∧ w' = w) := fun w => by
    have := Any.bits_Len64 Tryd.lays129 (x : Int) w (by omega) (by omega)
    rw [Int.toNat_natCast] at this
    exact this
  go_enter Tryd.func40, Tryd.ntmps40
  go_wp2_with fail
  refine (L.out _).mono ?_
  rintro e w2 ⟨rfl, hw⟩
  obtain rfl := hw.symm
  go_wp2
  go_ret
  exact ⟨rfl, by first | trivial | rfl⟩
theorem bl_low : ∀ f x, x < 2 ^ f → f ≤ 64 → 0 < x → ∃ q, Lib.bitLen x = q + 1 ∧ 2 ^ q ≤ x
  | 0, x, h, _, h0 => by rw [Nat.pow_zero] at h; omega
  | f + 1, x, h, h64, h0 => by
    have h2 : x < 2 ^ 64 := Nat.lt_of_lt_of_le h (Nat.pow_le_pow_right (n := 2) (i := f + 1) (by omega) h64)
    have e := Lib.bitLen_half x (by omega) h2
    by_cases h1 : x / 2 = 0
    · rw [h1, show Lib.bitLen 0 = 0 by decide] at e
      exact ⟨0, by omega, by rw [Nat.pow_zero]; omega⟩
    · rw [Nat.pow_succ] at h
      obtain ⟨q, h3, h4⟩ := bl_low f (x / 2) (by omega) (by omega) (by omega)
      exact ⟨q + 1, by omega, by rw [Nat.pow_succ]; omega⟩
theorem xor_i64 (a b : Nat) (ha : a < 2 ^ 62) (hb : b < 2 ^ 62) : bits .xor .i64 (a : Int) (b : Int) = ((a ^^^ b : Nat) : Int) := by
  show IntKind.i64.wrap ((BitVec.ofInt 64 (a : Int) ^^^ BitVec.ofInt 64 (b : Int)).toNat : Nat) = _
  rw [BitVec.toNat_xor, BitVec.ofInt_natCast, BitVec.ofInt_natCast, BitVec.toNat_ofNat, BitVec.toNat_ofNat, Nat.mod_eq_of_lt (by omega), Nat.mod_eq_of_lt (by omega), IntKind.wrap_i64]
  have := Nat.xor_lt_two_pow ha hb
  omega
theorem Row.eq {w : World} {g n : Nat} {x y : Nat → Int} (h : Row w g n x) (e : ∀ j, j < n → x j = y j) : Row w g n y := by
  obtain ⟨cur, h1, h2, h3⟩ := h
  exact ⟨cur, h1, h2, fun j hj => by rw [← e j hj]; exact h3 j hj⟩
end Go.Proofs.YtbecdlibckbbcabDoor
