/- What the field's forms answer (Montgomery). -/
import Derived.Test.YtbecdlibckbbcabDoorVw
import Derived.Test.YtbecdlibckbbcabDoorVe
namespace Go.Proofs.YtbecdlibckbbcabDoor
open Go.RowKit Num
theorem or_bits (a : Int) (ha : 0 ≤ a) (ha' : a ≤ 18446744073709551615) (h0 : a ≠ 0) :
    bits .or .u64 a (18446744073709551616 - a) / 9223372036854775808 = 1 := by
  obtain ⟨a, rfl⟩ := Int.eq_ofNat_of_zero_le ha
  have e : (18446744073709551616 - (a : Int)) = ((18446744073709551616 - a : Nat) : Int) := by omega
  rw [e, bits_or_u64_nat _ _ (by omega) (by omega)]
  have h1 : a ≤ a ||| (18446744073709551616 - a) := Nat.left_le_or
  have h2 : 18446744073709551616 - a ≤ a ||| (18446744073709551616 - a) := Nat.right_le_or
  have h3 : a ||| (18446744073709551616 - a) < 2 ^ 64 := Nat.or_lt_two_pow (by omega) (by omega)
  omega
theorem and_full (m : Int) (h : 0 ≤ m) (h' : m ≤ 18446744073709551615) : bits .and .u64 m 18446744073709551615 = m := by
  obtain ⟨m, rfl⟩ := Int.eq_ofNat_of_zero_le h
  have h := bits_and_u64_nat m 18446744073709551615 (by omega) (by omega)
  have e : m &&& 18446744073709551615 = m % 18446744073709551616 := Nat.and_two_pow_sub_one_eq_mod m 64
  rw [e, Nat.mod_eq_of_lt (by omega)] at h
  exact h
theorem and_none (m : Int) (h : 0 ≤ m) (h' : m ≤ 18446744073709551615) : bits .and .u64 m 0 = 0 := by
  obtain ⟨m, rfl⟩ := Int.eq_ofNat_of_zero_le h
  have h := bits_and_u64_nat m 0 (by omega) (by omega)
  rw [Nat.and_zero] at h
  exact h
theorem or_none : bits .or .u64 0 0 / 9223372036854775808 = 0 := by decide
set_option maxHeartbeats 1600000 in
theorem reduce_any (g : Nat) (m f s x y : Int) (w : World) (h : Fld w g m f s) (mo : Mont m f) (hx : 0 ≤ x ∧ x < m) (hy : 0 ≤ y ∧ y < m) :
    Calls Tryd.prog 38 #[.pointer (some ⟨g, 0, none⟩), .int .u64 x, .int .u64 y] w fun e w' => e = .returned (.int .u64 (rd m f (x * y))) ∧ ∃ k, w' = w.drewN k := by
  have c0 := h.cell0
  have c1 := h.cell1
  have h2 := mo.hm
  have h63 := mo.hm'
  have f1 := mo.hf
  have f2 := mo.hf'
  have hp := mul_pp hx hy h63
  have hM := hid (Tryd.bits_Mul64 x y hx.1 (by omega) hy.1 (by omega) w)
  have hb := mo.bds hp
  generalize x * y = p at *
  have et : IntKind.u64.wrap (p % 18446744073709551616 * f) = mtt f p := by rw [IntKind.wrap_u64]; rfl
  have ht : 0 ≤ mtt f p ∧ mtt f p ≤ 18446744073709551615 := by unfold mtt; omega
  have hF := hid (fun w => Tryd.bits_Mul64 (mtt f p) m ht.1 ht.2 (by omega) (by omega) w)
  have eS : p / 18446744073709551616 + mtt f p * m / 18446744073709551616 + mc p = ms m f p := rfl
  have hmm : 0 ≤ mtt f p * m := Int.mul_nonneg ht.1 (by omega)
  have p1 : 0 ≤ p / 18446744073709551616 := by omega
  have p2 : 0 ≤ mtt f p * m / 18446744073709551616 := by omega
  have p3 : 0 ≤ mc p ∧ mc p ≤ 1 := by unfold mc; split <;> omega
  have er : rd m f p = if ms m f p < m then ms m f p else ms m f p - m := rfl
  have b1 : 0 ≤ p % 18446744073709551616 ∧ p % 18446744073709551616 ≤ 18446744073709551615 := by omega
  obtain ⟨o, ho, hc⟩ : ∃ o, bits .or .u64 (p % 18446744073709551616) (IntKind.u64.wrap (-(p % 18446744073709551616))) = o ∧ o / 9223372036854775808 = mc p := by
    refine ⟨_, rfl, ?_⟩
    unfold mc
    split
    · rename_i h0; rw [h0]; decide
    · rename_i h0
      have e : IntKind.u64.wrap (-(p % 18446744073709551616)) = 18446744073709551616 - p % 18446744073709551616 := by rw [IntKind.wrap_u64]; omega
      rw [e]
      exact or_bits _ b1.1 b1.2 h0
  obtain ⟨R, hR⟩ : ∃ R, R = rd m f p := ⟨_, rfl⟩
  rw [← hR]
  rw [← hR] at er
  have ER := hid er
  clear er hR
  clear h mo
  generalize mtt f p = t at *
  generalize mc p = c at *
  generalize ms m f p = S at *
  generalize hhi : p / 18446744073709551616 = hi at *
  generalize hlo : p % 18446744073709551616 = lo at *
  generalize hfi : t * m / 18446744073709551616 = fi at *
  generalize hfl : t * m % 18446744073709551616 = fl at *
  go_enter Tryd.func38, Tryd.ntmps38
  go_wp2_with fail
  refine hM.out.mono ?_
  rintro e w2 ⟨rfl, rfl⟩
  go_wp2_with fail
  go_quiet ((go_at_call 34; first | exact Calls.quiet_of_same (hF.out _) | (rw [et]; exact Calls.quiet_of_same (hF.out _))))
  rename_i nq
  clear hM hF hp hmm hhi hlo hfi hfl et
  by_cases hS : S < m
  · have eL : IntKind.u64.wrap (S - m) = S - m + 18446744073709551616 := by rw [IntKind.wrap_u64]; omega
    have e1 : (S - m + 18446744073709551616) / 9223372036854775808 = 1 := by omega
    have e2 := and_full m (by omega) (by omega)
    have e3 : R = S := by rw [ER.out, if_pos hS]
    subst e3
    clear ER
    go_wp2
    go_ret
    exact ⟨ret_int (by rw [show IntKind.u64.wrap (-1) = 18446744073709551615 from by decide, e2, IntKind.wrap_u64]; omega), nq, rfl⟩
  · have eL : IntKind.u64.wrap (S - m) = S - m := by rw [IntKind.wrap_u64]; omega
    have e1 : (S - m) / 9223372036854775808 = 0 := by omega
    have e2 := and_none m (by omega) (by omega)
    have e3 : R = S - m := by rw [ER.out, if_neg hS]
    subst e3
    clear ER
    go_wp2
    go_ret
    exact ⟨rfl, nq, rfl⟩
/-- what the calls with forms answer: 0 and an error, if m is even. -/
structure Fm (m t r : Int) : Prop where
  even : m % 2 = 0 → r = 0
  odd : m % 2 = 1 → 0 ≤ r ∧ r < m ∧ r * 18446744073709551616 % m = t % m
def fe (m : Int) : Int := if m % 2 = 0 then 1 else 0
theorem s_lt {m f s : Int} (hm : Ok m f s) (h : m % 2 = 1) : 0 ≤ s ∧ s < m := by
  rw [(hm.odd h).2]; exact md_lt _ (by have := hm.h2; omega)
set_option maxHeartbeats 800000 in
theorem in_any (g : Nat) (m f s x : Int) (w : World) (h : Fld w g m f s) (hm : Ok m f s) (hx : 0 ≤ x) :
    Calls Tryd.prog 28 #[.pointer (some ⟨g, 0, none⟩), .int .u64 x] w fun e w' => (∃ r, e = .returned (.tuple #[.int .u64 r, .int .i64 (fe m)]) ∧ Fm m (x * 18446744073709551616 * 18446744073709551616) r) ∧ ∃ k, w' = w.drewN k := by
  have c2 := h.cell2
  have h2 := hm.h2
  have h63 := hm.h63
  have a := md_lt x (show 0 < m by omega)
  have FE := hid (formError_any g m f s w h (by omega))
  have L := hid (fun n => left_any g m f s x (w.drewN n) (h.drew n) (by omega) hx)
  by_cases h1 : m % 2 = 0
  · have e1 : fe m = 1 := by unfold fe; rw [if_pos h1]
    rw [e1]
    rw [if_pos h1] at FE
    have R : Hid (Fm m (x * 18446744073709551616 * 18446744073709551616) 0) := ⟨fun _ => rfl, fun h => absurd h (by omega)⟩
    clear h hm e1 h1 L
    go_enter Tryd.func28, Tryd.ntmps28
    go_wp2_with fail
    refine FE.out.mono ?_
    rintro e w2 ⟨rfl, rfl⟩
    go_wp2
    go_ret2
    exact ⟨⟨0, rfl, R.out⟩, 0, rfl⟩
  · have e1 : fe m = 0 := by unfold fe; rw [if_neg h1]
    have ho : m % 2 = 1 := by omega
    obtain ⟨mo, hs⟩ := hm.odd ho
    have hsl := s_lt hm ho
    rw [e1]
    rw [if_neg h1] at FE
    have rr := mo.rd (mul_pp a hsl h63)
    have R : Hid (Fm m (x * 18446744073709551616 * 18446744073709551616) (rd m f (x % m * s))) := ⟨fun h => absurd h h1, fun _ => ⟨rr.1, rr.2.1, by rw [rr.2.2, hs, md_times, Int.mul_assoc]⟩⟩
    have RD := hid (fun n => reduce_any g m f s (x % m) s (w.drewN n) (h.drew n) mo a hsl)
    clear h hm e1 h1 rr mo hs ho
    generalize rd m f (x % m * s) = r at *
    generalize x % m = u at *
    go_enter Tryd.func28, Tryd.ntmps28
    go_wp2_with fail
    refine FE.out.mono ?_
    rintro e w2 ⟨rfl, rfl⟩
    go_wp2_with fail
    go_quiet (first
      | (go_at_call 30; exact Calls.quiet_of_same (L.out _))
      | (go_at_call 38; exact Calls.quiet_of (RD.out _)))
    rename_i nq
    go_wp2
    go_ret2
    exact ⟨⟨r, rfl, R.out⟩, nq, rfl⟩
set_option maxHeartbeats 800000 in
theorem ftimes_any (g : Nat) (m f s x y : Int) (w : World) (h : Fld w g m f s) (hm : Ok m f s) (hx : 0 ≤ x) (hy : 0 ≤ y) :
    Calls Tryd.prog 43 #[.pointer (some ⟨g, 0, none⟩), .int .u64 x, .int .u64 y] w fun e w' => (∃ r, e = .returned (.tuple #[.int .u64 r, .int .i64 (fe m)]) ∧ Fm m (x * y) r) ∧ ∃ k, w' = w.drewN k := by
  have h2 := hm.h2
  have h63 := hm.h63
  have a := md_lt x (show 0 < m by omega)
  have b := md_lt y (show 0 < m by omega)
  have FE := hid (formError_any g m f s w h (by omega))
  have L := hid (left_any g m f s x w h (by omega) hx)
  have L2 := hid (left_any g m f s y w h (by omega) hy)
  by_cases h1 : m % 2 = 0
  · have e1 : fe m = 1 := by unfold fe; rw [if_pos h1]
    rw [e1]
    rw [if_pos h1] at FE
    have R : Hid (Fm m (x * y) 0) := ⟨fun _ => rfl, fun h => absurd h (by omega)⟩
    clear h hm e1 h1 L L2
    go_enter Tryd.func43, Tryd.ntmps43
    go_wp2_with fail
    refine FE.out.mono ?_
    rintro e w2 ⟨rfl, rfl⟩
    go_wp2
    go_ret2
    exact ⟨⟨0, rfl, R.out⟩, 0, rfl⟩
  · have e1 : fe m = 0 := by unfold fe; rw [if_neg h1]
    have ho : m % 2 = 1 := by omega
    obtain ⟨mo, hs⟩ := hm.odd ho
    rw [e1]
    rw [if_neg h1] at FE
    have rr := mo.rd (mul_pp a b h63)
    have R : Hid (Fm m (x * y) (rd m f (x % m * (y % m)))) := ⟨fun h => absurd h h1, fun _ => ⟨rr.1, rr.2.1, by rw [rr.2.2, md_times]⟩⟩
    have RD := hid (reduce_any g m f s (x % m) (y % m) w h mo a b)
    clear h hm e1 h1 rr mo hs ho
    generalize rd m f (x % m * (y % m)) = r at *
    generalize x % m = u at *
    generalize y % m = v at *
    go_enter Tryd.func43, Tryd.ntmps43
    go_wp2_with fail
    refine FE.out.mono ?_
    rintro e w2 ⟨rfl, rfl⟩
    go_wp2_with fail
    refine L.out.mono ?_
    rintro e w2 ⟨rfl, rfl⟩
    go_wp2_with fail
    refine L2.out.mono ?_
    rintro e w2 ⟨rfl, rfl⟩
    go_wp2_with fail
    refine RD.out.mono ?_
    rintro e w2 ⟨rfl, k, rfl⟩
    go_wp2
    go_ret2
    exact ⟨⟨r, rfl, R.out⟩, k, rfl⟩
theorem in_form (g : Nat) (m f s x : Int) (w : World) (h : Fld w g m f s) (hm : Ok m f s) (hx : 0 ≤ x) (ho : m % 2 = 1) :
    Calls Tryd.prog 28 #[.pointer (some ⟨g, 0, none⟩), .int .u64 x] w fun e w' => e = .returned (.tuple #[.int .u64 (x * 18446744073709551616 % m), .int .i64 0]) ∧ ∃ k, w' = w.drewN k := by
  refine (in_any g m f s x w h hm hx).mono ?_
  rintro e w' ⟨⟨r, rfl, F⟩, K⟩
  obtain ⟨h0, h1, h2⟩ := F.odd ho
  have e1 : fe m = 0 := by unfold fe; rw [if_neg (by omega)]
  rw [(hm.odd ho).1.cancel ⟨h0, h1⟩ h2, e1]
  exact ⟨rfl, K⟩
theorem times_form (g : Nat) (m f s x y z : Int) (w : World) (h : Fld w g m f s) (hm : Ok m f s) (hx : 0 ≤ x) (hy : 0 ≤ y) (ho : m % 2 = 1) (hz : y % m = z * 18446744073709551616 % m) :
    Calls Tryd.prog 43 #[.pointer (some ⟨g, 0, none⟩), .int .u64 x, .int .u64 y] w fun e w' => e = .returned (.tuple #[.int .u64 (x * z % m), .int .i64 0]) ∧ ∃ k, w' = w.drewN k := by
  refine (ftimes_any g m f s x y w h hm hx hy).mono ?_
  rintro e w' ⟨⟨r, rfl, F⟩, K⟩
  obtain ⟨h0, h1, h2⟩ := F.odd ho
  have e1 : fe m = 0 := by unfold fe; rw [if_neg (by omega)]
  have e2 : x * y % m = x * z * 18446744073709551616 % m := by rw [Int.mul_assoc, Int.mul_emod x y, hz, ← Int.mul_emod]
  rw [(hm.odd ho).1.cancel ⟨h0, h1⟩ (h2.trans e2), e1]
  exact ⟨rfl, K⟩
end Go.Proofs.YtbecdlibckbbcabDoor
