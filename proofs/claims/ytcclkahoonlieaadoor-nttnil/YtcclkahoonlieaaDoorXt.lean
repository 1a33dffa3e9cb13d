/- What math/bits' Reverse64 and ntt's turned answer. -/
import Derived.Test.YtcclkahoonlieaaDoorQo
import Derived.Test.YtcclkahoonlieaaDoorYa
namespace Go.Proofs.YtcclkahoonlieaaDoor
open Go.RowKit Num Nmb

theorem sw_said (m s d x : Nat) (hx : x < 18446744073709551616) (hm : m < 18446744073709551616) (hd : d = 2 ^ s) :
    bits .or .u64 (bits .and .u64 ((x : Int) / (d : Nat)) (m : Nat)) (IntKind.u64.wrap (bits .and .u64 (x : Int) (m : Nat) * (d : Nat))) = ((sw m s x : Nat) : Int) := by
  have h1 : x / d < 18446744073709551616 := Nat.lt_of_le_of_lt (Nat.div_le_self _ _) hx
  have h2 : x / d &&& m < 18446744073709551616 := Nat.lt_of_le_of_lt Nat.and_le_right hm
  rw [← Int.natCast_ediv, bits_and_u64_nat _ _ h1 hm, bits_and_u64_nat _ _ hx hm, ← Int.natCast_mul, IntKind.wrap_u64, show (18446744073709551616 : Int) = ((18446744073709551616 : Nat) : Int) from rfl, ← Int.natCast_emod, bits_or_u64_nat _ _ h2 (Nat.mod_lt _ (by decide)), hd]
  rfl
theorem sh_said (x : Nat) (hx : x < 18446744073709551616) : bits .or .u64 ((x : Int) / 4294967296) (IntKind.u64.wrap ((x : Int) * 4294967296)) = ((sh x : Nat) : Int) := by
  have h1 : x / 4294967296 < 18446744073709551616 := Nat.lt_of_le_of_lt (Nat.div_le_self _ _) hx
  rw [show (4294967296 : Int) = ((4294967296 : Nat) : Int) from rfl, ← Int.natCast_ediv, ← Int.natCast_mul, IntKind.wrap_u64, show (18446744073709551616 : Int) = ((18446744073709551616 : Nat) : Int) from rfl, ← Int.natCast_emod, bits_or_u64_nat _ _ h1 (Nat.mod_lt _ (by decide))]
  rfl
set_option maxHeartbeats 1600000 in
theorem revBytes_any (x : Nat) (w : World) (hx : x < 18446744073709551616) :
    Calls Tryd.prog 77 #[.int .u64 x] w fun e w' => e = .returned (.int .u64 (sh (sw 281470681808895 16 (sw 71777214294589695 8 x)) : Nat)) ∧ w' = w := by
  have e1 := sw_said 71777214294589695 8 256 x hx (by decide) rfl
  have l1 := sw_lt 71777214294589695 8 x (by decide)
  generalize sw 71777214294589695 8 x = y at *
  have e2 := sw_said 281470681808895 16 65536 y l1 (by decide) rfl
  have l2 := sw_lt 281470681808895 16 y (by decide)
  generalize sw 281470681808895 16 y = z at *
  have e3 := sh_said z l2
  generalize sh z = u at *
  simp only [Int.cast_ofNat_Int] at e1 e2 e3
  go_enter Tryd.func77, Tryd.ntmps77
  go_wp2
  go_ret
  exact ⟨rfl, rfl⟩
set_option maxHeartbeats 1600000 in
theorem rev_any (x : Nat) (w : World) (hx : x < 18446744073709551616) :
    Calls Tryd.prog 70 #[.int .u64 x] w fun e w' => e = .returned (.int .u64 (rev64 x : Nat)) ∧ w' = w := by
  unfold rev64
  have e1 := sw_said 6148914691236517205 1 2 x hx (by decide) rfl
  have l1 := sw_lt 6148914691236517205 1 x (by decide)
  generalize sw 6148914691236517205 1 x = y at *
  have e2 := sw_said 3689348814741910323 2 4 y l1 (by decide) rfl
  have l2 := sw_lt 3689348814741910323 2 y (by decide)
  generalize sw 3689348814741910323 2 y = z at *
  have e3 := sw_said 1085102592571150095 4 16 z l2 (by decide) rfl
  have l3 := sw_lt 1085102592571150095 4 z (by decide)
  generalize sw 1085102592571150095 4 z = u at *
  have RB := hid (revBytes_any u w l3)
  simp only [Int.cast_ofNat_Int] at e1 e2 e3
  go_enter Tryd.func70, Tryd.ntmps70
  go_wp2_with fail
  refine RB.out.mono ?_
  rintro e w2 ⟨rfl, hw⟩
  obtain rfl := hw.symm
  go_wp2
  go_ret
  exact ⟨rfl, by first | trivial | rfl⟩
set_option maxHeartbeats 1600000 in
theorem turned_any (i k : Nat) (w : World) (hi : i ≤ 9223372036854775807) (hk : k ≤ 63) :
    Calls Tryd.prog 56 #[.int .i64 i, .int .i64 k] w fun e w' => e = .returned (.int .i64 (rv k i : Nat)) ∧ w' = w := by
  have R := hid (rev_any i w (by omega))
  have q0 : IntKind.u64.wrap (i : Int) = (i : Int) := by rw [IntKind.wrap_u64]; omega
  have q1 : ((64 : Int) - (k : Int)).toNat = 64 - k := by omega
  have q2 : ((rev64 i : Nat) : Int) / 2 ^ (64 - k) = ((rv k i : Nat) : Int) := by
    rw [← rev64_rv i k (by omega), Int.natCast_ediv, Int.natCast_pow]; rfl
  have q3 : rv k i < 9223372036854775808 := Nat.lt_of_lt_of_le (rv_lt k i) (Nat.pow_le_pow_right (n := 2) (j := 63) (by omega) hk)
  generalize rev64 i = x at *
  generalize rv k i = y at *
  go_enter Tryd.func56, Tryd.ntmps56
  go_wp2_with fail
  refine R.out.mono ?_
  rintro e w2 ⟨rfl, hw⟩
  obtain rfl := hw.symm
  go_wp2
  go_ret
  exact ⟨rfl, by first | trivial | rfl⟩
end Go.Proofs.YtcclkahoonlieaaDoor
