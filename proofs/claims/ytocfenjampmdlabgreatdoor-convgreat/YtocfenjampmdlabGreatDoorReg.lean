/- What the field's forms answer (Montgomery). -/
/- What the field's Add and Sub answer. -/
/- The law's awake: the chapter's examples. -/
/- What the reference of layer 3 answers: sums, products, powers. -/
/- The reference's powers, in plain numbers. -/
/- The reference's values of polynomials, and whether two lists are the same. -/
/- A region whose operations may come in any order: each operation is shown once, by what it leaves behind. -/
import Derived.Test.YtocfenjampmdlabGreatDoorVw
import Derived.Test.YtocfenjampmdlabGreatDoorVe
import Derived.Test.YtocfenjampmdlabGreatDoorPg
import Derived.Deep.RegionHeld3
import Derived.Test.YtocfenjampmdlabGreatDoorShelf
import Derived.Test.YtocfenjampmdlabGreatDoorQg
import Derived.WalkKit
namespace Go.Proofs.YtocfenjampmdlabGreatDoor
open Go.RowKit Num
theorem or_bits (a : Int) (ha : 0 ≤ a) (ha' : a ≤ 18446744073709551615) (h0 : a ≠ 0) :
    bits .or .u64 a (18446744073709551616 - a) / 9223372036854775808 = 1 := by
  obtain ⟨a, rfl⟩ := Int.eq_ofNat_of_zero_le ha
  have e : (18446744073709551616 - (a : Int)) = ((18446744073709551616 - a : Nat) : Int) := by omega
  rw [e, bits_or_u64_nat _ _ (by omega) (by omega)]
  have h1 : a ≤ a ||| (18446744073709551616 - a) := Nat.left_le_or
  have h2 : 18446744073709551616 - a ≤ a ||| (18446744073709551616 - a) := Nat.right_le_or
  have h3 : a ||| (18446744073709551616 - a) < 2 ^ 64 := Nat.or_lt_two_pow (by omega) (by omega)
  omega
theorem and_full (m : Int) (h : 0 ≤ m) (h' : m ≤ 18446744073709551615) : bits .and .u64 m 18446744073709551615 = m := by
  obtain ⟨m, rfl⟩ := Int.eq_ofNat_of_zero_le h
  have h := bits_and_u64_nat m 18446744073709551615 (by omega) (by omega)
  have e : m &&& 18446744073709551615 = m % 18446744073709551616 := Nat.and_two_pow_sub_one_eq_mod m 64
  rw [e, Nat.mod_eq_of_lt (by omega)] at h
  exact h
theorem and_none (m : Int) (h : 0 ≤ m) (h' : m ≤ 18446744073709551615) : bits .and .u64 m 0 = 0 := by
  obtain ⟨m, rfl⟩ := Int.eq_ofNat_of_zero_le h
  have h := bits_and_u64_nat m 0 (by omega) (by omega)
  rw [Nat.and_zero] at h
  exact h
theorem or_none : bits .or .u64 0 0 / 9223372036854775808 = 0 := by decide
set_option maxHeartbeats 1600000 in
theorem reduce_any (g : Nat) (m f s x y : Int) (w : World) (h : Fld w g m f s) (mo : Mont m f) (hx : 0 ≤ x ∧ x < m) (hy : 0 ≤ y ∧ y < m) :
    Calls Tryz.prog 67 #[.pointer (some ⟨g, 0, none⟩), .int .u64 x, .int .u64 y] w fun e w' => e = .returned (.int .u64 (rd m f (x * y))) ∧ ∃ k, w' = w.drewN k := by
  have c0 := h.cell0
  have c1 := h.cell1
  have h2 := mo.hm
  have h63 := mo.hm'
  have f1 := mo.hf
  have f2 := mo.hf'
  have hp := mul_pp hx hy h63
  have hM := hid (Tryz.bits_Mul64 x y hx.1 (by omega) hy.1 (by omega) w)
  have hb := mo.bds hp
  generalize x * y = p at *
  have et : IntKind.u64.wrap (p % 18446744073709551616 * f) = mtt f p := by rw [IntKind.wrap_u64]; rfl
  have ht : 0 ≤ mtt f p ∧ mtt f p ≤ 18446744073709551615 := by unfold mtt; omega
  have hF := hid (fun w => Tryz.bits_Mul64 (mtt f p) m ht.1 ht.2 (by omega) (by omega) w)
  have eS : p / 18446744073709551616 + mtt f p * m / 18446744073709551616 + mc p = ms m f p := rfl
  have hmm : 0 ≤ mtt f p * m := Int.mul_nonneg ht.1 (by omega)
  have p1 : 0 ≤ p / 18446744073709551616 := by omega
  have p2 : 0 ≤ mtt f p * m / 18446744073709551616 := by omega
  have p3 : 0 ≤ mc p ∧ mc p ≤ 1 := by unfold mc; split <;> omega
  have er : rd m f p = if ms m f p < m then ms m f p else ms m f p - m := rfl
  have b1 : 0 ≤ p % 18446744073709551616 ∧ p % 18446744073709551616 ≤ 18446744073709551615 := by omega
  obtain ⟨o, ho, hc⟩ : ∃ o, bits .or .u64 (p % 18446744073709551616) (IntKind.u64.wrap (-(p % 18446744073709551616))) = o ∧ o / 9223372036854775808 = mc p := by
    refine ⟨_, rfl, ?_⟩
    unfold mc
    split
    · rename_i h0; rw [h0]; decide
    · rename_i h0
      have e : IntKind.u64.wrap (-(p % 18446744073709551616)) = 18446744073709551616 - p % 18446744073709551616 := by rw [IntKind.wrap_u64]; omega
      rw [e]
      exact or_bits _ b1.1 b1.2 h0
  obtain ⟨R, hR⟩ : ∃ R, R = rd m f p := ⟨_, rfl⟩
  rw [← hR]
  rw [← hR] at er
  have ER := hid er
  clear er hR
  clear h mo
  generalize mtt f p = t at *
  generalize mc p = c at *
  generalize ms m f p = S at *
  generalize hhi : p / 18446744073709551616 = hi at *
  generalize hlo : p % 18446744073709551616 = lo at *
  generalize hfi : t * m / 18446744073709551616 = fi at *
  generalize hfl : t * m % 18446744073709551616 = fl at *
  go_enter Tryz.func67, Tryz.ntmps67
  go_wp2_with fail
  refine hM.out.mono ?_
  rintro e w2 ⟨rfl, rfl⟩
  go_wp2_with fail
  go_quiet ((go_at_call 60; first | exact Calls.quiet_of_same (hF.out _) | (rw [et]; exact Calls.quiet_of_same (hF.out _))))
  rename_i nq
  clear hM hF hp hmm hhi hlo hfi hfl et
  by_cases hS : S < m
  · have eL : IntKind.u64.wrap (S - m) = S - m + 18446744073709551616 := by rw [IntKind.wrap_u64]; omega
    have e1 : (S - m + 18446744073709551616) / 9223372036854775808 = 1 := by omega
    have e2 := and_full m (by omega) (by omega)
    have e3 : R = S := by rw [ER.out, if_pos hS]
    subst e3
    clear ER
    go_wp2
    go_ret
    exact ⟨ret_int (by rw [show IntKind.u64.wrap (-1) = 18446744073709551615 from by decide, e2, IntKind.wrap_u64]; omega), nq, rfl⟩
  · have eL : IntKind.u64.wrap (S - m) = S - m := by rw [IntKind.wrap_u64]; omega
    have e1 : (S - m) / 9223372036854775808 = 0 := by omega
    have e2 := and_none m (by omega) (by omega)
    have e3 : R = S - m := by rw [ER.out, if_neg hS]
    subst e3
    clear ER
    go_wp2
    go_ret
    exact ⟨rfl, nq, rfl⟩
/-- what the calls with forms answer: 0 and an error, if m is even. -/
structure Fm (m t r : Int) : Prop where
  even : m % 2 = 0 → r = 0
  odd : m % 2 = 1 → 0 ≤ r ∧ r < m ∧ r * 18446744073709551616 % m = t % m
def fe (m : Int) : Int := if m % 2 = 0 then 1 else 0
theorem s_lt {m f s : Int} (hm : Ok m f s) (h : m % 2 = 1) : 0 ≤ s ∧ s < m := by
  rw [(hm.odd h).2]; exact md_lt _ (by have := hm.h2; omega)
set_option maxHeartbeats 800000 in
theorem in_any (g : Nat) (m f s x : Int) (w : World) (h : Fld w g m f s) (hm : Ok m f s) (hx : 0 ≤ x) :
    Calls Tryz.prog 43 #[.pointer (some ⟨g, 0, none⟩), .int .u64 x] w fun e w' => (∃ r, e = .returned (.tuple #[.int .u64 r, .int .i64 (fe m)]) ∧ Fm m (x * 18446744073709551616 * 18446744073709551616) r) ∧ ∃ k, w' = w.drewN k := by
  have c2 := h.cell2
  have h2 := hm.h2
  have h63 := hm.h63
  have a := md_lt x (show 0 < m by omega)
  have FE := hid (formError_any g m f s w h (by omega))
  have L := hid (fun n => left_any g m f s x (w.drewN n) (h.drew n) (by omega) hx)
  by_cases h1 : m % 2 = 0
  · have e1 : fe m = 1 := by unfold fe; rw [if_pos h1]
    rw [e1]
    rw [if_pos h1] at FE
    have R : Hid (Fm m (x * 18446744073709551616 * 18446744073709551616) 0) := ⟨fun _ => rfl, fun h => absurd h (by omega)⟩
    clear h hm e1 h1 L
    go_enter Tryz.func43, Tryz.ntmps43
    go_wp2_with fail
    refine FE.out.mono ?_
    rintro e w2 ⟨rfl, rfl⟩
    go_wp2
    go_ret2
    exact ⟨⟨0, rfl, R.out⟩, 0, rfl⟩
  · have e1 : fe m = 0 := by unfold fe; rw [if_neg h1]
    have ho : m % 2 = 1 := by omega
    obtain ⟨mo, hs⟩ := hm.odd ho
    have hsl := s_lt hm ho
    rw [e1]
    rw [if_neg h1] at FE
    have rr := mo.rd (mul_pp a hsl h63)
    have R : Hid (Fm m (x * 18446744073709551616 * 18446744073709551616) (rd m f (x % m * s))) := ⟨fun h => absurd h h1, fun _ => ⟨rr.1, rr.2.1, by rw [rr.2.2, hs, md_times, Int.mul_assoc]⟩⟩
    have RD := hid (fun n => reduce_any g m f s (x % m) s (w.drewN n) (h.drew n) mo a hsl)
    clear h hm e1 h1 rr mo hs ho
    generalize rd m f (x % m * s) = r at *
    generalize x % m = u at *
    go_enter Tryz.func43, Tryz.ntmps43
    go_wp2_with fail
    refine FE.out.mono ?_
    rintro e w2 ⟨rfl, rfl⟩
    go_wp2_with fail
    go_quiet (first
      | (go_at_call 61; exact Calls.quiet_of_same (L.out _))
      | (go_at_call 67; exact Calls.quiet_of (RD.out _)))
    rename_i nq
    go_wp2
    go_ret2
    exact ⟨⟨r, rfl, R.out⟩, nq, rfl⟩
set_option maxHeartbeats 800000 in
theorem ftimes_any (g : Nat) (m f s x y : Int) (w : World) (h : Fld w g m f s) (hm : Ok m f s) (hx : 0 ≤ x) (hy : 0 ≤ y) :
    Calls Tryz.prog 68 #[.pointer (some ⟨g, 0, none⟩), .int .u64 x, .int .u64 y] w fun e w' => (∃ r, e = .returned (.tuple #[.int .u64 r, .int .i64 (fe m)]) ∧ Fm m (x * y) r) ∧ ∃ k, w' = w.drewN k := by
  have h2 := hm.h2
  have h63 := hm.h63
  have a := md_lt x (show 0 < m by omega)
  have b := md_lt y (show 0 < m by omega)
  have FE := hid (formError_any g m f s w h (by omega))
  have L := hid (left_any g m f s x w h (by omega) hx)
  have L2 := hid (left_any g m f s y w h (by omega) hy)
  by_cases h1 : m % 2 = 0
  · have e1 : fe m = 1 := by unfold fe; rw [if_pos h1]
    rw [e1]
    rw [if_pos h1] at FE
    have R : Hid (Fm m (x * y) 0) := ⟨fun _ => rfl, fun h => absurd h (by omega)⟩
    clear h hm e1 h1 L L2
    go_enter Tryz.func68, Tryz.ntmps68
    go_wp2_with fail
    refine FE.out.mono ?_
    rintro e w2 ⟨rfl, rfl⟩
    go_wp2
    go_ret2
    exact ⟨⟨0, rfl, R.out⟩, 0, rfl⟩
  · have e1 : fe m = 0 := by unfold fe; rw [if_neg h1]
    have ho : m % 2 = 1 := by omega
    obtain ⟨mo, hs⟩ := hm.odd ho
    rw [e1]
    rw [if_neg h1] at FE
    have rr := mo.rd (mul_pp a b h63)
    have R : Hid (Fm m (x * y) (rd m f (x % m * (y % m)))) := ⟨fun h => absurd h h1, fun _ => ⟨rr.1, rr.2.1, by rw [rr.2.2, md_times]⟩⟩
    have RD := hid (reduce_any g m f s (x % m) (y % m) w h mo a b)
    clear h hm e1 h1 rr mo hs ho
    generalize rd m f (x % m * (y % m)) = r at *
    generalize x % m = u at *
    generalize y % m = v at *
    go_enter Tryz.func68, Tryz.ntmps68
    go_wp2_with fail
    refine FE.out.mono ?_
    rintro e w2 ⟨rfl, rfl⟩
    go_wp2_with fail
    refine L.out.mono ?_
    rintro e w2 ⟨rfl, rfl⟩
    go_wp2_with fail
    refine L2.out.mono ?_
    rintro e w2 ⟨rfl, rfl⟩
    go_wp2_with fail
    refine RD.out.mono ?_
    rintro e w2 ⟨rfl, k, rfl⟩
    go_wp2
    go_ret2
    exact ⟨⟨r, rfl, R.out⟩, k, rfl⟩
theorem in_form (g : Nat) (m f s x : Int) (w : World) (h : Fld w g m f s) (hm : Ok m f s) (hx : 0 ≤ x) (ho : m % 2 = 1) :
    Calls Tryz.prog 43 #[.pointer (some ⟨g, 0, none⟩), .int .u64 x] w fun e w' => e = .returned (.tuple #[.int .u64 (x * 18446744073709551616 % m), .int .i64 0]) ∧ ∃ k, w' = w.drewN k := by
  refine (in_any g m f s x w h hm hx).mono ?_
  rintro e w' ⟨⟨r, rfl, F⟩, K⟩
  obtain ⟨h0, h1, h2⟩ := F.odd ho
  have e1 : fe m = 0 := by unfold fe; rw [if_neg (by omega)]
  rw [(hm.odd ho).1.cancel ⟨h0, h1⟩ h2, e1]
  exact ⟨rfl, K⟩
theorem times_form (g : Nat) (m f s x y z : Int) (w : World) (h : Fld w g m f s) (hm : Ok m f s) (hx : 0 ≤ x) (hy : 0 ≤ y) (ho : m % 2 = 1) (hz : y % m = z * 18446744073709551616 % m) :
    Calls Tryz.prog 68 #[.pointer (some ⟨g, 0, none⟩), .int .u64 x, .int .u64 y] w fun e w' => e = .returned (.tuple #[.int .u64 (x * z % m), .int .i64 0]) ∧ ∃ k, w' = w.drewN k := by
  refine (ftimes_any g m f s x y w h hm hx hy).mono ?_
  rintro e w' ⟨⟨r, rfl, F⟩, K⟩
  obtain ⟨h0, h1, h2⟩ := F.odd ho
  have e1 : fe m = 0 := by unfold fe; rw [if_neg (by omega)]
  have e2 : x * y % m = x * z * 18446744073709551616 % m := by rw [Int.mul_assoc, Int.mul_emod x y, hz, ← Int.mul_emod]
  rw [(hm.odd ho).1.cancel ⟨h0, h1⟩ (h2.trans e2), e1]
  exact ⟨rfl, K⟩
end Go.Proofs.YtocfenjampmdlabGreatDoor
namespace Go.Proofs.YtocfenjampmdlabGreatDoor
open Go.RowKit Num
set_option maxHeartbeats 800000 in
theorem add_any (g : Nat) (m f s x y : Int) (w : World) (h : Fld w g m f s) (hm : Ok m f s) (hx : 0 ≤ x) (hy : 0 ≤ y) :
    Calls Tryz.prog 85 #[.pointer (some ⟨g, 0, none⟩), .int .u64 x, .int .u64 y] w fun e w' => e = .returned (.int .u64 ((x + y) % m)) ∧ w' = w := by
  have H := hid h
  have c0 := h.cell0
  have h2 := hm.h2
  have h63 := hm.h63
  have E : Hid ((x + y) % m = if m ≤ x % m + y % m then x % m + y % m - m else x % m + y % m) := by
    show _ = _
    have a := md_lt x (show 0 < m by omega)
    have b := md_lt y (show 0 < m by omega)
    rw [Int.add_emod]
    generalize x % m = u at *
    generalize y % m = v at *
    split
    · rw [← Int.sub_emod_right]; exact Int.emod_eq_of_lt (by omega) (by omega)
    · exact Int.emod_eq_of_lt (by omega) (by omega)
  have a := md_lt x (show 0 < m by omega)
  have b := md_lt y (show 0 < m by omega)
  clear h
  go_enter Tryz.func85, Tryz.ntmps85
  go_wp2_with fail
  refine (left_any g m f s x w H.out (by omega) hx).mono ?_
  rintro e w' ⟨rfl, rfl⟩
  go_wp2_with fail
  refine (left_any g m f s y _ H.out (by omega) hy).mono ?_
  rintro e w' ⟨rfl, rfl⟩
  generalize x % m = u at *
  generalize y % m = v at *
  by_cases hc : m ≤ u + v
  · go_wp2
    go_ret
    exact ⟨ret_int (by rw [E.out, if_pos hc]), rfl⟩
  · go_wp2
    go_ret
    exact ⟨ret_int (by rw [E.out, if_neg (by omega)]), rfl⟩
set_option maxHeartbeats 800000 in
theorem sub_any (g : Nat) (m f s x y : Int) (w : World) (h : Fld w g m f s) (hm : Ok m f s) (hx : 0 ≤ x) (hy : 0 ≤ y) :
    Calls Tryz.prog 69 #[.pointer (some ⟨g, 0, none⟩), .int .u64 x, .int .u64 y] w fun e w' => e = .returned (.int .u64 ((x - y) % m)) ∧ w' = w := by
  have H := hid h
  have c0 := h.cell0
  have h2 := hm.h2
  have h63 := hm.h63
  have E : Hid ((x - y) % m = if x % m < y % m then x % m + m - y % m else x % m - y % m) := by
    show _ = _
    have a := md_lt x (show 0 < m by omega)
    have b := md_lt y (show 0 < m by omega)
    rw [Int.sub_emod]
    generalize x % m = u at *
    generalize y % m = v at *
    split
    · rw [← Int.add_emod_right, show u - v + m = u + m - v by omega]; exact Int.emod_eq_of_lt (by omega) (by omega)
    · exact Int.emod_eq_of_lt (by omega) (by omega)
  have a := md_lt x (show 0 < m by omega)
  have b := md_lt y (show 0 < m by omega)
  clear h
  go_enter Tryz.func69, Tryz.ntmps69
  go_wp2_with fail
  refine (left_any g m f s x w H.out (by omega) hx).mono ?_
  rintro e w' ⟨rfl, rfl⟩
  go_wp2_with fail
  refine (left_any g m f s y _ H.out (by omega) hy).mono ?_
  rintro e w' ⟨rfl, rfl⟩
  generalize x % m = u at *
  generalize y % m = v at *
  by_cases hc : u < v
  · go_wp2
    go_ret
    exact ⟨ret_int (by rw [E.out, if_pos hc]), rfl⟩
  · go_wp2
    go_ret
    exact ⟨ret_int (by rw [E.out, if_neg (by omega)]), rfl⟩
end Go.Proofs.YtocfenjampmdlabGreatDoor
namespace Go.Proofs.YtocfenjampmdlabGreatDoor
open Go.RowKit Num Nmb

theorem OwW.cells {w : World} {base : Nat} {v : Value} {l : List Nat} (h : OwW w base v l) (hl : 0 < l.length) :
    ∃ g cap, v = .slice (some ⟨g, 0, none⟩) l.length cap ∧ l.length ≤ cap ∧ base ≤ g ∧ g < w.heap.size ∧ ∀ j (hj : j < l.length), w.cell? ⟨g, j, none⟩ = some (.int .u64 (l[j] : Nat)) := by
  rcases h.2 with ⟨rfl, h0⟩ | ⟨g, cap, cur, rfl, hg, hgg, hgc, hgm, hgs, htk⟩
  · omega
  · refine ⟨g, cap, rfl, hgc, hg, (Array.getElem?_eq_some_iff.1 hgg).1, fun j hj => ?_⟩
    have := World.ownsRow.cellAt h j (by omega)
    rw [this]
    simp [wordCells, List.getElem?_eq_getElem hj]
theorem nx90 : Nx 90 97 := ⟨by decide, is97, fun m h1 h2 => by
  have : m = 90 ∨ m = 91 ∨ m = 92 ∨ m = 93 ∨ m = 94 ∨ m = 95 ∨ m = 96 := by omega
  rcases this with rfl | rfl | rfl | rfl | rfl | rfl | rfl
  · exact is_even (by decide) (by decide)
  · exact is91
  · exact is_even (by decide) (by decide)
  · exact is93
  · exact is_even (by decide) (by decide)
  · exact is95
  · exact is_even (by decide) (by decide)⟩
theorem gath_yes {u i n : Nat} (e : 1 + u * (i + 1) = n) (h : isB n = true) : gath u (i + 1) = n :: gath u i := by
  rw [gath, e, if_pos h]
theorem gath_no {u i n : Nat} (e : 1 + u * (i + 1) = n) (h : isB n = false) : gath u (i + 1) = gath u i := by
  rw [gath, e, h]; rfl
theorem gath20 : gath 1048576 953 = 998244353 :: gath 1048576 951 := by
  rw [gath_no (n := 999292929) (by decide) is999, gath_yes (n := 998244353) (by decide) is998]
theorem root17 : RootIs 17 2 13 := by
  refine ⟨3, by decide, by decide, ⟨by decide, fun i hi => ?_⟩, fun x h1 h2 h3 => ?_⟩
  · have : i = 0 ∨ i = 1 := by omega
    rcases this with rfl | rfl <;> decide
  · have : x = 1 ∨ x = 2 := by omega
    rcases this with rfl | rfl
    · exact absurd (h3.2 0 (by decide)) (by decide)
    · exact absurd (h3.2 1 (by decide)) (by decide)
theorem scan20 {w : World} {base : Nat} {v : Value} {er : Int} (h : ScanIs w base v er 1 (gath 1048576 953)) : er = 0 ∧ OwW w base v [998244353] := by
  rcases h with ⟨h1, h2, h3⟩ | ⟨h1, h2, h3⟩
  · rw [gath20] at h2; exact ⟨h1, h2⟩
  · rw [gath20] at h3; simp at h3
end Go.Proofs.YtocfenjampmdlabGreatDoor
namespace Go.Proofs.YtocfenjampmdlabGreatDoor
open Go.RowKit Num
set_option maxHeartbeats 400000 in
theorem radd_any (x y m : Int) (w : World) (hx : 0 ≤ x) (hy : 0 ≤ y) (hm : 2 ≤ m) (hm' : m ≤ 9223372036854775807) :
    Calls Tryz.prog 8 #[.int .u64 x, .int .u64 y, .int .u64 m] w fun e w' => e = .returned (.int .u64 ((x + y) % m)) ∧ ∃ k, w' = w.drewN k := by
  have h0 : (m == 0) = false := beq_eq_false_iff_ne.2 (by omega)
  have a := md_lt x (show 0 < m by omega)
  have b := md_lt y (show 0 < m by omega)
  have c := md_lt (x % m + y % m) (show 0 < m by omega)
  have E := hid (Int.add_emod x y m)
  go_enter Tryz.func8, Tryz.ntmps8
  go_wp2
  go_region
  go_wp2
  go_ret
  exact ⟨ret_int' E.out.symm, 1, rfl⟩
set_option maxHeartbeats 800000 in
theorem rmul_any (x y m : Int) (w : World) (hx : 0 ≤ x) (hy : 0 ≤ y) (hm : 2 ≤ m) (hm' : m ≤ 9223372036854775807) :
    Calls Tryz.prog 7 #[.int .u64 x, .int .u64 y, .int .u64 m] w fun e w' => e = .returned (.int .u64 (x * y % m)) ∧ ∃ k, w' = w.drewN k := by
  have h0 : (m == 0) = false := beq_eq_false_iff_ne.2 (by omega)
  have a := md_lt x (show 0 < m by omega)
  have b := md_lt y (show 0 < m by omega)
  have E0 : Hid ((0 + x % m * (y % m)) % m = x * y % m) := by show _ = _; rw [Int.zero_add, md_times]
  obtain ⟨T, hT⟩ : ∃ T, T = x * y % m := ⟨_, rfl⟩
  rw [← hT] at E0
  rw [← hT]
  clear hT
  go_enter Tryz.func7, Tryz.ntmps7
  go_wp2
  generalize x % m = u at *
  generalize y % m = v at *
  go_loopw [0, 1, 7] (fun xv yv ov wr => ∃ (p q r : Int), xv = .int .u64 p ∧ yv = .int .u64 q ∧ ov = .int .u64 r ∧ 0 ≤ p ∧ p < m ∧ 0 ≤ q ∧ q ≤ 9223372036854775807 ∧ 0 ≤ r ∧ r < m ∧ Hid ((r + p * q) % m = T) ∧ ∃ k, wr = w.drewN k) (fun _ yv _ _ => (intOf yv).toNat)
  case atStart => exact ⟨u, v, 0, rfl, rfl, rfl, a.1, a.2, b.1, by omega, by decide, by omega, E0, 0, rfl⟩
  case round =>
    obtain ⟨p, q, r, rfl, rfl, rfl, hp, hp', hq, hq', hr, hr', G, k, rfl⟩ := hrel
    by_cases hq0 : q = 0
    · subst hq0
      have e : r = T := by have := G.out; rw [Int.mul_zero, Int.add_zero, Int.emod_eq_of_lt hr hr'] at this; exact this
      subst e
      clear G
      go_wp2
      go_ret
      exact ⟨rfl, k, rfl⟩
    · have hq1 : 0 < q := by omega
      by_cases ho : q % 2 = 1
      · have N := hid (mul_odd r p q m T G.out ho)
        have ho' : (q % 2 == 1) = true := by simp [ho]
        clear G
        go_wp2_with fail
        refine (radd_any r p m _ hr hp hm hm').mono ?_
        rintro e w2 ⟨rfl, k2, rfl⟩
        go_wp2_with fail
        refine (radd_any p p m _ hp hp hm hm').mono ?_
        rintro e w3 ⟨rfl, k3, rfl⟩
        have b1 := md_lt (r + p) (show 0 < m by omega)
        have b2 := md_lt (p + p) (show 0 < m by omega)
        generalize (r + p) % m = r' at *
        generalize (p + p) % m = p' at *
        go_wp2
        exact ⟨⟨p', q / 2, r', rfl, rfl, rfl, b2.1, b2.2, by omega, by omega, b1.1, b1.2, N, k + k2 + k3, by simp⟩, by simp only [intOf]; omega⟩
      · have N := hid (mul_even r p q m T G.out (by omega))
        have ho' : (q % 2 == 1) = false := by simp; omega
        clear G
        go_wp2_with fail
        refine (radd_any p p m _ hp hp hm hm').mono ?_
        rintro e w2 ⟨rfl, k2, rfl⟩
        have b2 := md_lt (p + p) (show 0 < m by omega)
        generalize (p + p) % m = p' at *
        go_wp2
        exact ⟨⟨p', q / 2, r, rfl, rfl, rfl, b2.1, b2.2, by omega, by omega, hr, hr', N, k + k2, by simp⟩, by simp only [intOf]; omega⟩
end Go.Proofs.YtocfenjampmdlabGreatDoor
namespace Go.Proofs.YtocfenjampmdlabGreatDoor
open Go.RowKit Num Nmb

end Go.Proofs.YtocfenjampmdlabGreatDoor
namespace Go.Proofs.YtocfenjampmdlabGreatDoor
open Go.RowKit Num Nmb

theorem ev_nonneg {a : Nat → Int} {x : Int} (hx : 0 ≤ x) : ∀ n, (∀ j, j < n → 0 ≤ a j) → 0 ≤ ev a n x
  | 0, _ => Int.le_refl _
  | n + 1, h => by
    have h1 := ev_nonneg hx n (fun j hj => h j (by omega))
    have h2 : 0 ≤ a n * x ^ n := Int.mul_nonneg (h n (by omega)) (Int.pow_nonneg hx)
    show 0 ≤ ev a n x + a n * x ^ n
    omega
/-- Horner's way: what stands when the coefficients from k on were taken. -/
def hor (a : Nat → Int) (n : Nat) (x : Int) (k : Nat) : Int := ev (fun i => a (k + i)) (n - k) x
theorem hor_top (a : Nat → Int) (n : Nat) (x : Int) : hor a n x n = 0 := by unfold hor; rw [Nat.sub_self]; rfl
theorem hor_zero (a : Nat → Int) (n : Nat) (x : Int) : hor a n x 0 = ev a n x := by
  unfold hor
  rw [Nat.sub_zero]
  congr 1
  funext i
  rw [Nat.zero_add]
theorem hor_step (a : Nat → Int) {n : Nat} (x : Int) {k : Nat} (h : k < n) : hor a n x k = hor a n x (k + 1) * x + a k := by
  unfold hor
  rw [show n - k = (n - (k + 1)) + 1 by omega, ev_front, Nat.add_zero, Int.mul_comm, Int.add_comm]
  congr 3
  funext i
  congr 1
  omega
set_option maxHeartbeats 1600000 in
theorem rsame_any (u v : Value) (n m : Nat) (a b : Nat → Int) (w : World) (hu : Wl w u n a) (hv : Wl w v m b) (r : Bool) (hr : r = true ↔ n = m ∧ ∀ j, j < n → a j = b j) :
    Calls Tryz.prog 11 #[u, v] w fun e w' => e = .returned (.bool r) ∧ ∃ c, w' = w.drewN c := by
  obtain ⟨ao, cap, rfl, h1, h2, h3, h5⟩ := hu
  obtain ⟨bo, bap, rfl, g1, g2, g3, g5⟩ := hv
  have H5 := hid h5
  have G5 := hid g5
  clear h3 h5 g3 g5
  by_cases e : n = m
  · subst e
    have R1 : Hid ((∀ j, j < n → a j = b j) → r = true) := fun h => hr.2 ⟨rfl, h⟩
    have R2 : Hid (r = true → ∀ j, j < n → a j = b j) := fun h => (hr.1 h).2
    clear hr
    go_enter Tryz.func11, Tryz.ntmps11
    go_wp2
    go_loopw [5] (fun iv wr => ∃ k : Nat, k ≤ n ∧ iv = .int .i64 k ∧ Hid (∀ j, j < k → a j = b j) ∧ ∃ c, wr = w.drewN c) (fun iv _ => ((n : Int) - intOf iv).toNat)
    case atStart => exact ⟨0, Nat.zero_le _, rfl, fun j hj => absurd hj (by omega), 0, rfl⟩
    case round =>
      obtain ⟨k, hk, rfl, S, c, rfl⟩ := hrel
      by_cases hkn : k = n
      · subst hkn
        obtain rfl : r = true := R1.out S.out
        go_wp2
        go_ret
        exact ⟨rfl, c, rfl⟩
      · have hkn' : (k : Int) < n := by omega
        obtain ⟨b1, o1, rfl, hb1, hc1⟩ := H5.out (by omega)
        obtain ⟨b2, o2, rfl, hb2, hc2⟩ := G5.out (by omega)
        have c1 : (w.drewN c).cell? ⟨b1, o1 + k, none⟩ = some (.int .u64 (a k)) := by simpa using hc1 k (by omega)
        have c2 : (w.drewN c).cell? ⟨b2, o2 + k, none⟩ = some (.int .u64 (b k)) := by simpa using hc2 k (by omega)
        clear hc1 hc2
        by_cases hab : a k = b k
        · have S' : Hid (∀ j, j < k + 1 → a j = b j) := fun j hj => by
            by_cases ej : j = k
            · rw [ej]; exact hab
            · exact S.out j (by omega)
          have hab' : (a k != b k) = false := by simp [hab]
          clear S hab
          generalize a k = ak at *
          generalize b k = bk at *
          generalize hw : w.drewN c = w3 at *
          have HE := hid hw
          clear hw
          go_wp2_with fail
          go_region
          all_goals
            go_wp2
            exact ⟨⟨k + 1, by omega, rfl, S', c + 1, by rw [← HE.out]; simp⟩, by simp only [intOf]; omega⟩
        · obtain rfl : r = false := by
            cases r
            · rfl
            · exact absurd (R2.out rfl k (by omega)) hab
          have hab' : (a k != b k) = true := bne_iff_ne.2 hab
          clear S hab
          generalize a k = ak at *
          generalize b k = bk at *
          generalize hw : w.drewN c = w3 at *
          have HE := hid hw
          clear hw
          go_wp2_with fail
          go_region
          all_goals
            go_wp2
            go_ret
            exact ⟨rfl, c + 1, by rw [← HE.out]; simp⟩
  · obtain rfl : r = false := by
      cases r
      · rfl
      · exact absurd (hr.1 rfl).1 e
    have e' : ((n : Int) != (m : Int)) = true := bne_iff_ne.2 (by omega)
    clear hr
    go_enter Tryz.func11, Tryz.ntmps11
    go_wp2
    go_ret
    exact ⟨rfl, 0, rfl⟩
end Go.Proofs.YtocfenjampmdlabGreatDoor
namespace Go.Proofs.YtocfenjampmdlabGreatDoor
section
variable {P : Program} {ops : Array Oper} {Q : Exit → Act → World → Prop} {md : Region.Mode}

theorem ready_dep {listed : Array Bool} {i : Nat} (h : i ∈ Region.ready md ops listed) :
    i < ops.size ∧ listed.getD i true = false ∧ ∃ o, ops[i]? = some o ∧ ∀ e ∈ o.after, Region.binds md e = true → listed.getD e.on false = true := by
  unfold Region.ready at h
  obtain ⟨h1, h2⟩ := List.mem_filter.1 h
  have hi := List.mem_range.1 h1
  simp only [Bool.and_eq_true, Bool.not_eq_true'] at h2
  refine ⟨hi, h2.1, ops[i], Array.getElem?_eq_getElem hi, fun e he hb => ?_⟩
  have h3 := h2.2
  rw [Array.getElem?_eq_getElem hi, Option.map_some, Option.getD_some] at h3
  have h4 := Array.all_eq_true'.1 h3 e he
  simpa [hb] using h4
theorem ready_none {listed : Array Bool} (hb : ∀ (i : Nat) (o : Oper), ops[i]? = some o → ∀ e ∈ o.after, Region.binds md e = true → e.on < i) (h : Region.ready md ops listed = []) : ∀ j, j < ops.size → listed.getD j true = true := by
  intro j
  induction j using Nat.strongRecOn with
  | _ j ih =>
    intro hj
    cases hl : listed.getD j true
    · exfalso
      have : j ∈ Region.ready md ops listed := by
        unfold Region.ready
        refine List.mem_filter.2 ⟨List.mem_range.2 hj, ?_⟩
        simp only [hl, Bool.not_false, Bool.true_and]
        rw [Array.getElem?_eq_getElem hj, Option.map_some, Option.getD_some]
        refine Array.all_eq_true'.2 fun e he => ?_
        cases hbe : Region.binds md e
        · rfl
        have hlt := hb j ops[j] (Array.getElem?_eq_getElem hj) e he hbe
        have := ih e.on hlt (by omega)
        have hs : e.on < listed.size := by
          apply Nat.lt_of_not_le
          intro hge
          have hj2 : listed.size ≤ j := by omega
          simp [Array.getD, Nat.not_lt.2 hj2] at hl
        have e2 : listed.getD e.on false = listed.getD e.on true := by simp [Array.getD, hs]
        rw [e2, this]
        simp
      rw [h] at this
      cases this
    · rfl
/-- how many are not listed yet. -/
def unl (n : Nat) (listed : Array Bool) : Nat := ((List.range n).filter fun i => !listed.getD i true).length
theorem filt_lt {α : Type} {p q : α → Bool} {x : α} : ∀ {l : List α}, x ∈ l → p x = true → q x = false → (∀ y, q y = true → p y = true) → (l.filter q).length < (l.filter p).length
  | [], h, _, _, _ => by cases h
  | y :: l, h, hp, hq, hh => by
    have hle : ∀ l : List α, (l.filter q).length ≤ (l.filter p).length := fun l => by
      induction l with
      | nil => simp
      | cons z l ih =>
        simp only [List.filter_cons]
        cases hz : q z
        · cases p z <;> simp <;> omega
        · rw [hh z hz]; simp; exact ih
    rcases List.mem_cons.1 h with rfl | h
    · simp only [List.filter_cons, hp, hq]
      have := hle l
      simp
      omega
    · have ih := filt_lt h hp hq hh
      simp only [List.filter_cons]
      cases hz : q y
      · cases p y <;> simp <;> omega
      · rw [hh y hz]; simp; exact ih
theorem unl_set {n i : Nat} {listed : Array Bool} (hi : i < n) (hl : listed.getD i true = false) : unl n (listed.setIfInBounds i true) < unl n listed := by
  have hs : i < listed.size := by
    apply Nat.lt_of_not_le
    intro hge
    simp [Array.getD, Nat.not_lt.2 hge] at hl
  unfold unl
  refine filt_lt (x := i) (List.mem_range.2 hi) (by simp only [hl]; rfl) (by simp [Array.getD, hs]) fun y hy => ?_
  by_cases hyi : y = i
  · subst hyi; simp only [hl]; rfl
  · by_cases hy2 : y < listed.size
    · simpa [Array.getD, hy2, Array.getElem_setIfInBounds, Ne.symm hyi] using hy
    · simp [Array.getD, hy2] at hy
/-- the rule: what holds of the listed ones is borne by each step. -/
theorem wpAny_inv (I : Array Bool → Act → World → Prop) (hb : ∀ (i : Nat) (o : Oper), ops[i]? = some o → ∀ e ∈ o.after, Region.binds md e = true → e.on < i)
    (step : ∀ listed a w, I listed a w → ∀ (i : Nat) (o : Oper), i < ops.size → ops[i]? = some o → listed.getD i true = false → (∀ e ∈ o.after, Region.binds md e = true → listed.getD e.on false = true) → wpOp P ops Q i (I (listed.setIfInBounds i true)) a w)
    (fin : ∀ listed a w, (∀ j, j < ops.size → listed.getD j true = true) → I listed a w → Q .normal a w) :
    ∀ fuel listed a w, unl ops.size listed ≤ fuel → I listed a w → wpAny P md ops Q fuel listed a w := by
  intro fuel
  induction fuel with
  | zero =>
    intro listed a w hu hI
    have hr : Region.ready md ops listed = [] := by
      cases hr : Region.ready md ops listed with
      | nil => rfl
      | cons i rs =>
        obtain ⟨h1, h2, _⟩ := ready_dep (md := md) (ops := ops) (listed := listed) (i := i) (by rw [hr]; simp)
        have := unl_set h1 h2
        omega
    exact ⟨hr, fin listed a w (ready_none hb hr) hI⟩
  | succ fuel ih =>
    intro listed a w hu hI
    refine ⟨fun hr => fin listed a w (ready_none hb hr) hI, fun i hi => ?_⟩
    obtain ⟨h1, h2, o, h3, h4⟩ := ready_dep hi
    refine wpOp_mono (fun a' w' h => ih _ a' w' ?_ h) (step listed a w hI i o h1 h3 h2 h4)
    have := unl_set h1 h2
    omega
/-- a slot more. -/
def upd (s : Nat → Value) (i : Nat) (v : Value) : Nat → Value := fun j => if j = i then v else s j
theorem upd_same (s : Nat → Value) (i : Nat) (v : Value) : upd s i v i = v := if_pos rfl
theorem upd_other (s : Nat → Value) {i j : Nat} (v : Value) (h : j ≠ i) : upd s i v j = s j := if_neg h
/-- each operation on its own. R j is what operation j leaves behind: it speaks of the values of j and of what j waits for. -/
theorem wpAny_local (mk : (Nat → Value) → Act) (R : Nat → (Nat → Value) → World → Prop) (C : (Nat → Value) → World → Prop)
    (hb : ∀ (i : Nat) (o : Oper), ops[i]? = some o → ∀ e ∈ o.after, Region.binds md e = true → e.on < i) (hg : ∀ (i : Nat) (o : Oper), ops[i]? = some o → o.guard = none)
    (step : ∀ (i : Nat) (o : Oper), ops[i]? = some o → ∀ s w, C s w → (∀ e ∈ o.after, Region.binds md e = true → R e.on s w) →
      o.wp P (mk s) w (fun a' w' => ∃ v, a' = mk (upd s i v) ∧ C (upd s i v) w' ∧ R i (upd s i v) w' ∧
        ∀ (j : Nat) (oj : Oper), ops[j]? = some oj → j ≠ i → (∀ e ∈ oj.after, Region.binds md e = true → e.on ≠ i) → R j s w → R j (upd s i v) w') Q)
    (fin : ∀ s w, C s w → (∀ j, j < ops.size → R j s w) → Q .normal (mk s) w)
    (s : Nat → Value) (w : World) (h0 : C s w) : wpAny P md ops Q ops.size (Array.replicate ops.size false) (mk s) w := by
  refine wpAny_inv (fun listed a w => ∃ s, a = mk s ∧ C s w ∧ listed.size = ops.size ∧ (∀ (j : Nat) (o : Oper), ops[j]? = some o → listed.getD j true = true → R j s w ∧ ∀ e ∈ o.after, Region.binds md e = true → listed.getD e.on true = true)) hb ?_ ?_ ops.size _ _ _ ?_ ?_
  · rintro listed a w ⟨s, rfl, hC, hsz, hR⟩ i o hi ho hl hd
    unfold wpOp
    rw [ho]
    have hw : Region.wanted o (yielded ops (mk s).tmps) = true := by unfold Region.wanted; rw [hg i o ho]
    simp only [hw, if_true]
    refine Or.inl (Oper.wp_mono ?_ (step i o ho s w hC fun e he hbe => ?_))
    · rintro a' w' ⟨v, rfl, hC', hRi, hRj⟩
      refine ⟨upd s i v, rfl, hC', by simpa using hsz, fun j oj hoj hlj => ?_⟩
      have hjs : j < ops.size := (Array.getElem?_eq_some_iff.1 hoj).1
      have keep : ∀ k, k < ops.size → k ≠ i → (listed.setIfInBounds i true).getD k true = listed.getD k true := fun k hk hki => by
        have hk2 : k < listed.size := by omega
        simp [Array.getD, hk2, Ne.symm hki]
      have at_i : (listed.setIfInBounds i true).getD i true = true := by
        have : i < listed.size := by omega
        simp [Array.getD, this]
      by_cases hji : j = i
      · subst hji
        obtain rfl := Option.some.inj (ho.symm.trans hoj)
        refine ⟨hRi, fun e he hbe => ?_⟩
        have hlt := hb j o ho e he hbe
        rw [keep e.on (by omega) (by omega)]
        have h5 := hd e he hbe
        have : e.on < listed.size := by omega
        simpa [Array.getD, this] using h5
      · rw [keep j hjs hji] at hlj
        obtain ⟨h6, h7⟩ := hR j oj hoj hlj
        refine ⟨hRj j oj hoj hji (fun e he hbe hei => ?_) h6, fun e he hbe => ?_⟩
        · have := h7 e he hbe
          rw [hei, hl] at this
          cases this
        · by_cases hei : e.on = i
          · rw [hei]; exact at_i
          · rw [keep e.on (by have := hb j oj hoj e he hbe; omega) hei]
            exact h7 e he hbe
    · have h5 := hd e he hbe
      have hlt := hb i o ho e he hbe
      have hes : e.on < listed.size := by omega
      have h6 : listed.getD e.on true = true := by simpa [Array.getD, hes] using h5
      exact (hR e.on _ (Array.getElem?_eq_getElem (by omega)) h6).1
  · rintro listed a w hall ⟨s, rfl, hC, hsz, hR⟩
    exact fin s w hC fun j hj => (hR j _ (Array.getElem?_eq_getElem hj) (hall j hj)).1
  · unfold unl
    exact Nat.le_trans (List.length_filter_le _ _) (by simp)
  · refine ⟨s, rfl, h0, by simp, fun j o ho hl => ?_⟩
    have hj : j < ops.size := (Array.getElem?_eq_some_iff.1 ho).1
    simp [Array.getD, hj] at hl
theorem wp_region_local {id : Nat} (hm : P.follows .mixedOrders = true) (mk : (Nat → Value) → Act) (R : Nat → (Nat → Value) → World → Prop) (C : (Nat → Value) → World → Prop)
    (hb : ∀ (i : Nat) (o : Oper), ops[i]? = some o → ∀ e ∈ o.after, Region.binds .any e = true → e.on < i) (hg : ∀ (i : Nat) (o : Oper), ops[i]? = some o → o.guard = none)
    (step : ∀ (i : Nat) (o : Oper), ops[i]? = some o → ∀ s w, C s w → (∀ e ∈ o.after, Region.binds .any e = true → R e.on s w) →
      o.wp P (mk s) w (fun a' w' => ∃ v, a' = mk (upd s i v) ∧ C (upd s i v) w' ∧ R i (upd s i v) w' ∧
        ∀ (j : Nat) (oj : Oper), ops[j]? = some oj → j ≠ i → (∀ e ∈ oj.after, Region.binds .any e = true → e.on ≠ i) → R j s w → R j (upd s i v) w') Q)
    (fin : ∀ s w, C s w → (∀ j, j < ops.size → R j s w) → Q .normal (mk s) w)
    (s : Nat → Value) (a : Act) (w : World) (ha : a = mk s) (h0 : C s w.drew) : (Code.region id ops true).wp P Q a w := by
  subst ha
  exact wp_region_any hm (wpAny_local mk R C hb hg step fin s w.drew h0)
/-- one by one over a list of operations. -/
def AllOps (Pr : Nat → Oper → Prop) : Nat → List Oper → Prop
  | _, [] => True
  | k, o :: l => Pr k o ∧ AllOps Pr (k + 1) l
theorem AllOps.at {Pr : Nat → Oper → Prop} : ∀ {l : List Oper} {k : Nat}, AllOps Pr k l → ∀ (i : Nat) (o : Oper), l[i]? = some o → Pr (k + i) o
  | [], _, _, i, o, h => by simp at h
  | o' :: l, k, ha, 0, o, h => by
    simp at h
    subst h
    exact ha.1
  | o' :: l, k, ha, i + 1, o, h => by
    have := AllOps.at ha.2 i o (by simpa using h)
    rw [show k + (i + 1) = k + 1 + i by omega]
    exact this
/-- what an operation waits for. -/
def Deps (R : Nat → (Nat → Value) → World → Prop) (s : Nat → Value) (w : World) : List Edge → Prop
  | [] => True
  | e :: l => (Region.binds .any e = true → R e.on s w) ∧ Deps R s w l
theorem Deps.of {R : Nat → (Nat → Value) → World → Prop} {s : Nat → Value} {w : World} : ∀ {l : List Edge}, (∀ e ∈ l, Region.binds .any e = true → R e.on s w) → Deps R s w l
  | [], _ => trivial
  | e :: _, h => ⟨h e (by simp), Deps.of fun e' he => h e' (by simp [he])⟩
def backB : Nat → List Oper → Bool
  | _, [] => true
  | k, o :: l => o.after.toList.all (fun e => !Region.binds .any e || decide (e.on < k)) && o.guard.isNone && backB (k + 1) l
theorem backB_said : ∀ {l : List Oper} {k : Nat}, backB k l = true → ∀ (i : Nat) (o : Oper), l[i]? = some o → (∀ e ∈ o.after, Region.binds .any e = true → e.on < k + i) ∧ o.guard = none
  | [], _, _, i, o, h => by simp at h
  | o' :: l, k, hb, 0, o, h => by
    simp at h
    subst h
    simp only [backB, Bool.and_eq_true] at hb
    refine ⟨fun e he hbe => ?_, by simpa using hb.1.2⟩
    have := List.all_eq_true.1 hb.1.1 e (by simpa using he)
    simpa [hbe] using this
  | o' :: l, k, hb, i + 1, o, h => by
    simp only [backB, Bool.and_eq_true] at hb
    have := backB_said hb.2 i o (by simpa using h)
    rw [show k + (i + 1) = k + 1 + i by omega]
    exact this
/-- whom does operation j wait for? -/
def waits (l : List Oper) (j i : Nat) : Bool := match l[j]? with
  | some o => o.after.toList.any fun e => Region.binds .any e && e.on == i
  | none => false
theorem wp_region_each {id : Nat} {l : List Oper} (hm : P.follows .mixedOrders = true) (mk : (Nat → Value) → Act) (R : Nat → (Nat → Value) → World → Prop) (C : (Nat → Value) → World → Prop)
    (hb : backB 0 l = true)
    (step : AllOps (fun i o => ∀ s w, C s w → Deps R s w o.after.toList → ∀ K : Act → World → Prop,
      (∀ v w', C (upd s i v) w' → R i (upd s i v) w' → (∀ j, j < l.length → j ≠ i → waits l j i = false → R j s w → R j (upd s i v) w') → K (mk (upd s i v)) w') → o.wp P (mk s) w K Q) 0 l)
    (fin : ∀ s w, C s w → (∀ j, j < l.length → R j s w) → Q .normal (mk s) w)
    (s : Nat → Value) (a : Act) (w : World) (ha : a = mk s) (h0 : C s w.drew) : (Code.region id l.toArray true).wp P Q a w := by
  refine wp_region_local hm mk R C (fun i o ho e he hbe => ?_) (fun i o ho => ?_) (fun i o ho s w hC hd => ?_) (fun s w hC hR => fin s w hC fun j hj => hR j (by simpa using hj)) s a w ha h0
  · have := (backB_said hb i o (by simpa using ho)).1 e he hbe
    omega
  · exact (backB_said hb i o (by simpa using ho)).2
  · have h := AllOps.at step i o (by simpa using ho)
    rw [Nat.zero_add] at h
    refine h s w hC (Deps.of fun e he hbe => hd e (by simpa using he) hbe) _ fun v w' h1 h2 h3 => ⟨v, rfl, h1, h2, fun j oj hoj hji hno hR => h3 j ?_ hji ?_ hR⟩
    · have := (Array.getElem?_eq_some_iff.1 hoj).1
      simpa using this
    · unfold waits
      have e : l[j]? = some oj := by simpa using hoj
      rw [e]
      simp only [List.any_eq_false, Bool.and_eq_true, beq_iff_eq]
      rintro e' he' ⟨h4, h5⟩
      exact hno e' (by simpa using he') h4 h5
end
end Go.Proofs.YtocfenjampmdlabGreatDoor
