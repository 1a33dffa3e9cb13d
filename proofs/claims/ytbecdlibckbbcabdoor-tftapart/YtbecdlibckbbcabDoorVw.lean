/- What the calls of a field answer that multiply and take powers. -/
/- What New's inner calls answer. -/
/- What New answers. -/
import Derived.Test.YtbecdlibckbbcabDoorDv
import Derived.WalkMore
import Derived.Deep.RegionWith
namespace Go.Proofs.YtbecdlibckbbcabDoor
open Go.RowKit Num
theorem ret_int {k : IntKind} {a b : Int} (h : a = b) : Ending.returned (.int k a) = .returned (.int k b) := by rw [h]
set_option maxHeartbeats 400000 in
theorem left_any (g : Nat) (m f s x : Int) (w : World) (h : Fld w g m f s) (hm : 0 < m) (hx : 0 ≤ x) :
    Calls Tryd.prog 30 #[.pointer (some ⟨g, 0, none⟩), .int .u64 x] w fun e w' => e = .returned (.int .u64 (x % m)) ∧ w' = w := by
  have c0 := h.cell0
  have h0 : (m == 0) = false := beq_eq_false_iff_ne.2 (by omega)
  have hr := md_lt x hm
  by_cases hl : x < m
  · have e : x % m = x := Int.emod_eq_of_lt hx hl
    rw [e]
    clear h hr
    go_enter Tryd.func30, Tryd.ntmps30
    go_wp2
    go_ret
    exact ⟨rfl, rfl⟩
  · clear h
    go_enter Tryd.func30, Tryd.ntmps30
    go_wp2
    go_ret
    exact ⟨rfl, rfl⟩
theorem mul_hi {a b m : Int} (ha : 0 ≤ a ∧ a < m) (hb : 0 ≤ b ∧ b < m) (hm : m ≤ 9223372036854775807) :
    0 ≤ a * b / 18446744073709551616 ∧ a * b / 18446744073709551616 < m ∧ 0 ≤ a * b % 18446744073709551616 ∧ a * b % 18446744073709551616 ≤ 18446744073709551615 := by
  have := mul_pp ha hb hm
  omega
set_option maxHeartbeats 800000 in
theorem mul_any (g : Nat) (m f s x y : Int) (w : World) (h : Fld w g m f s) (hm : Ok m f s) (hx : 0 ≤ x) (hy : 0 ≤ y) :
    Calls Tryd.prog 22 #[.pointer (some ⟨g, 0, none⟩), .int .u64 x, .int .u64 y] w fun e w' => e = .returned (.int .u64 (x * y % m)) ∧ ∃ k, w' = w.drewN k := by
  have H := hid h
  have c0 := h.cell0
  have h2 := hm.h2
  have h63 := hm.h63
  have a := md_lt x (show 0 < m by omega)
  have b := md_lt y (show 0 < m by omega)
  have E := hid (md_times x y m)
  have B := hid (mul_hi a b h63)
  clear h
  go_enter Tryd.func22, Tryd.ntmps22
  go_wp2_with fail
  refine (left_any g m f s x w H.out (by omega) hx).mono ?_
  rintro e w' ⟨rfl, rfl⟩
  go_wp2_with fail
  refine (left_any g m f s y _ H.out (by omega) hy).mono ?_
  rintro e w' ⟨rfl, rfl⟩
  generalize x % m = u at *
  generalize y % m = v at *
  go_wp2_with fail
  refine (Tryd.bits_Mul64 u v (by omega) (by omega) (by omega) (by omega) _).mono ?_
  rintro e w' ⟨rfl, rfl⟩
  obtain ⟨b1, b2, b3, b4⟩ := B.out
  have D := div64_any (u * v / 18446744073709551616) (u * v % 18446744073709551616) m w' b1 b3 b4 b2 (by omega)
  have e3 : dr (u * v / 18446744073709551616) (u * v % 18446744073709551616) m = u * v % m := by
    unfold dr
    congr 1
    have := Int.emod_add_mul_ediv (u * v) 18446744073709551616
    omega
  rw [e3] at D
  have DD := hid D
  clear e3 D
  generalize u * v / 18446744073709551616 = hi at *
  generalize u * v % 18446744073709551616 = lo at *
  go_wp2_with fail
  refine DD.out.mono ?_
  rintro e w2 ⟨rfl, k, rfl⟩
  go_wp2
  go_ret
  exact ⟨ret_int E.out, k, rfl⟩
set_option maxHeartbeats 800000 in
theorem pow_any (g : Nat) (m f s x : Int) (n : Nat) (w : World) (h : Fld w g m f s) (hm : Ok m f s) (hx : 0 ≤ x) (hn : n ≤ 18446744073709551615) :
    Calls Tryd.prog 18 #[.pointer (some ⟨g, 0, none⟩), .int .u64 x, .int .u64 n] w fun e w' => e = .returned (.int .u64 (x ^ n % m)) ∧ ∃ k, w' = w.drewN k := by
  have H := hid h
  have HO := hid hm
  have h2 := hm.h2
  have h63 := hm.h63
  have a := md_lt x (show 0 < m by omega)
  have E0 : Hid (1 * (x % m) ^ n % m = x ^ n % m) := by show _ = _; rw [Int.one_mul, md_pow]
  obtain ⟨T, hT⟩ : ∃ T, T = x ^ n % m := ⟨_, rfl⟩
  rw [← hT] at E0
  rw [← hT]
  clear h hm hT
  go_enter Tryd.func18, Tryd.ntmps18
  go_wp2
  go_step3
  go_wp2_with fail
  refine (left_any g m f s x w H.out (by omega) hx).mono ?_
  rintro e w' ⟨rfl, rfl⟩
  generalize x % m = u at *
  go_wp2
  go_step3
  go_wp2
  go_loopw [2, 7, 8] (fun nv pv sv wr => ∃ (j : Nat) (p q : Int), nv = .int .u64 j ∧ pv = .int .u64 p ∧ sv = .int .u64 q ∧ j ≤ 18446744073709551615 ∧ 0 ≤ p ∧ p < m ∧ 0 ≤ q ∧ Hid (p * q ^ j % m = T) ∧ ∃ k, wr = w'.drewN k) (fun nv _ _ _ => (intOf nv).toNat)
  case atStart => exact ⟨n, 1, u, rfl, rfl, rfl, hn, by decide, by omega, by omega, E0, 0, rfl⟩
  case round =>
    obtain ⟨j, p, q, rfl, rfl, rfl, hj, hp, hp2, hq, G, k, rfl⟩ := hrel
    by_cases hj0 : j = 0
    · subst hj0
      have e : p = T := by have := G.out; rw [Int.pow_zero, Int.mul_one, Int.emod_eq_of_lt hp hp2] at this; exact this
      subst e
      clear G
      go_wp2
      try rw [Exit.noGoto_ret]
      go_ret
      exact ⟨rfl, k, rfl⟩
    · have hj1 : ((j : Int) == 0) = false := beq_eq_false_iff_ne.2 (by omega)
      have hb : bits .and .u64 (j : Int) 1 = ((j % 2 : Nat) : Int) := by
        have := bits_and_u64_nat j 1 (by omega) (by omega)
        rw [Nat.and_one_is_mod] at this
        exact this
      by_cases ho : j % 2 = 1
      · have N := hid (pow_odd p q m T j G.out ho)
        rw [ho] at hb
        clear G
        go_wp2_with fail
        refine (mul_any g m f s p q _ (H.out.drew k) HO.out hp hq).mono ?_
        rintro e w2 ⟨rfl, k2, rfl⟩
        go_wp2_with fail
        refine (mul_any g m f s q q _ (H.out.drew (k + k2)) HO.out hq hq).mono ?_
        rintro e w3 ⟨rfl, k3, rfl⟩
        have b1 := md_lt (p * q) (show 0 < m by omega)
        have b2 := md_lt (q * q) (show 0 < m by omega)
        generalize p * q % m = p' at *
        generalize q * q % m = q' at *
        go_wp2
        exact ⟨⟨j / 2, p', q', by congr 1, rfl, rfl, by omega, b1.1, b1.2, b2.1, N, k + k2 + k3, by simp⟩, by simp only [intOf]; omega⟩
      · have N := hid (pow_even p q m T j G.out (by omega))
        rw [show j % 2 = 0 by omega] at hb
        clear G
        go_wp2_with fail
        refine (mul_any g m f s q q _ (H.out.drew k) HO.out hq hq).mono ?_
        rintro e w3 ⟨rfl, k3, rfl⟩
        have b2 := md_lt (q * q) (show 0 < m by omega)
        generalize q * q % m = q' at *
        go_wp2
        exact ⟨⟨j / 2, p, q', by congr 1, rfl, rfl, by omega, hp, hp2, b2.1, N, k + k3, by simp⟩, by simp only [intOf]; omega⟩
end Go.Proofs.YtbecdlibckbbcabDoor
namespace Go.Proofs.YtbecdlibckbbcabDoor
open Go.RowKit Num
set_option maxHeartbeats 800000 in
theorem inverseWord_any (m : Int) (w : World) (hm : 2 ≤ m) (hm' : m ≤ 9223372036854775807) (ho : m % 2 = 1) :
    Calls Tryd.prog 26 #[.int .u64 m] w fun e w' => (∃ y, e = .returned (.int .u64 y) ∧ 0 ≤ y ∧ y ≤ 18446744073709551615 ∧ (18446744073709551616 : Int) ∣ 1 - m * y) ∧ w' = w := by
  have S := hid (nk_start ho)
  go_enter Tryd.func26, Tryd.ntmps26
  go_wp2
  go_loop [3, 5] (fun yv iv => ∃ (y : Int) (i : Nat), yv = .int .u64 y ∧ iv = .int .i64 i ∧ i ≤ 5 ∧ 0 ≤ y ∧ y ≤ 18446744073709551615 ∧ Hid (nk i ∣ 1 - m * y)) (fun _ iv => (5 - intOf iv).toNat)
  case atStart => exact ⟨m, 0, rfl, rfl, by omega, by omega, by omega, S⟩
  case round =>
    obtain ⟨y, i, rfl, rfl, hi, hy, hy', E⟩ := hrel
    clear S
    by_cases h5 : i = 5
    · subst h5
      go_wp2
      go_ret
      exact ⟨⟨y, rfl, hy, hy', E.out⟩, rfl⟩
    · have hi' : (i : Int) < 5 := by omega
      obtain ⟨z, hz⟩ : ∃ z, IntKind.u64.wrap (y * IntKind.u64.wrap (2 - IntKind.u64.wrap (m * y))) = z := ⟨_, rfl⟩
      have hz' : z % 18446744073709551616 = y * (2 - m * y) % 18446744073709551616 := by
        rw [← hz]
        simp only [IntKind.wrap_u64]
        rw [Int.emod_emod, md_right]
        rw [Int.mul_emod, Int.sub_emod, Int.emod_emod, ← Int.sub_emod, ← Int.mul_emod]
      have N := hid (newton_nk (by omega) E.out hz')
      have b1 : 0 ≤ z := by rw [← hz, IntKind.wrap_u64]; omega
      have b2 : z ≤ 18446744073709551615 := by rw [← hz, IntKind.wrap_u64]; omega
      clear E hz'
      go_wp2
      exact ⟨⟨z, i + 1, by rw [← hz], rfl, by omega, b1, b2, N⟩, by simp only [intOf]; omega⟩
set_option maxHeartbeats 800000 in
theorem square_any (m : Int) (w : World) (hm : 2 ≤ m) (hm' : m ≤ 9223372036854775807) :
    Calls Tryd.prog 27 #[.int .u64 m] w fun e w' => e = .returned (.int .u64 (18446744073709551616 * 18446744073709551616 % m)) ∧ ∃ k, w' = w.drewN k := by
  have a := md_lt 18446744073709551616 (show 0 < m by omega)
  have e1 : dr 1 0 m = 18446744073709551616 % m := by unfold dr; rfl
  have e2 : dr (18446744073709551616 % m) 0 m = 18446744073709551616 * 18446744073709551616 % m := by
    unfold dr; rw [Int.add_zero, md_left]
  have D1 : Hid (∀ w : World, Calls Tryd.prog 35 #[.int .u64 1, .int .u64 0, .int .u64 m] w fun e w' => e = .returned (.tuple #[.int .u64 (dq 1 0 m), .int .u64 (18446744073709551616 % m)]) ∧ ∃ k, w' = w.drewN k) := fun w => by
    have := div64_any 1 0 m w (by decide) (by decide) (by decide) (by omega) (by omega)
    rw [e1] at this
    exact this
  have D2 : Hid (∀ w : World, Calls Tryd.prog 35 #[.int .u64 (18446744073709551616 % m), .int .u64 0, .int .u64 m] w fun e w' => e = .returned (.tuple #[.int .u64 (dq (18446744073709551616 % m) 0 m), .int .u64 (18446744073709551616 * 18446744073709551616 % m)]) ∧ ∃ k, w' = w.drewN k) := fun w => by
    have := div64_any (18446744073709551616 % m) 0 m w a.1 (by decide) (by decide) a.2 (by omega)
    rw [e2] at this
    exact this
  obtain ⟨T, hT⟩ : ∃ T, T = 18446744073709551616 * 18446744073709551616 % m := ⟨_, rfl⟩
  rw [← hT] at D2
  rw [← hT]
  clear e1 e2 hT
  generalize 18446744073709551616 % m = u at *
  go_enter Tryd.func27, Tryd.ntmps27
  go_wp2_with fail
  refine (D1.out _).mono ?_
  rintro e w2 ⟨rfl, k, rfl⟩
  go_wp2_with fail
  refine (D2.out _).mono ?_
  rintro e w2 ⟨rfl, k2, rfl⟩
  go_wp2
  go_ret
  exact ⟨rfl, k + k2, by simp⟩
set_option maxHeartbeats 400000 in
theorem formError_any (g : Nat) (m f s : Int) (w : World) (h : Fld w g m f s) (hm : 0 ≤ m) :
    Calls Tryd.prog 25 #[.pointer (some ⟨g, 0, none⟩)] w fun e w' => e = .returned (.int .i64 (if m % 2 = 0 then 1 else 0)) ∧ w' = w := by
  have c0 := h.cell0
  clear h
  by_cases h2 : m % 2 = 0
  · rw [if_pos h2]
    go_enter Tryd.func25, Tryd.ntmps25
    go_wp2
    go_ret
    exact ⟨rfl, rfl⟩
  · rw [if_neg h2]
    have h2' : (m % 2 == 0) = false := beq_eq_false_iff_ne.2 h2
    go_enter Tryd.func25, Tryd.ntmps25
    go_wp2
    go_ret
    exact ⟨rfl, rfl⟩
end Go.Proofs.YtbecdlibckbbcabDoor
namespace Go.Proofs.YtbecdlibckbbcabDoor
open Go.RowKit Num
theorem fld_new (w : World) (m f s : Int) : Fld (w.alloc (.cells #[.int .u64 m, .int .u64 f, .int .u64 s] 59)) w.heap.size m f s := heap_alloc_new w _
theorem Fld.set1 {w : World} {g : Nat} {m f s : Int} (h : Fld w g m f s) (v : Int) : Fld (w.setCell ⟨g, 1, none⟩ (.int .u64 v)) g m v s := by
  unfold Fld at *; rw [heap_setCell_same w g 1 _ _ _ h]; rfl
theorem Fld.set2 {w : World} {g : Nat} {m f s : Int} (h : Fld w g m f s) (v : Int) : Fld (w.setCell ⟨g, 2, none⟩ (.int .u64 v)) g m f v := by
  unfold Fld at *; rw [heap_setCell_same w g 2 _ _ _ h]; rfl
theorem below_set {B g : Nat} {w w' : World} (h : Below B w w') (hg : B ≤ g) (i : Nat) (v : Value) : Below B w (w'.setCell ⟨g, i, none⟩ v) :=
  ⟨h.os, h.tape, h.output, by simpa [World.setCell] using h.size, fun k hk => (heap_setCell_other w' ⟨g, i, none⟩ k v (by show k ≠ g; omega)).trans (h.block k hk)⟩
theorem filler_ok {m y : Int} (h2 : 2 ≤ m) (h63 : m ≤ 9223372036854775807) (hd : (18446744073709551616 : Int) ∣ 1 - m * y) : Mont m (IntKind.u64.wrap (-y)) := by
  rw [IntKind.wrap_u64]
  refine ⟨h2, h63, by omega, by omega, ?_⟩
  obtain ⟨u, hu⟩ := hd
  have e := Int.emod_add_mul_ediv (-y) 18446744073709551616
  generalize -y / 18446744073709551616 = q at *
  generalize hr : -y % 18446744073709551616 = r at *
  have : r * m + 1 = 18446744073709551616 * (u - q * m) := by grind
  rw [this, Int.mul_emod_right]
set_option maxHeartbeats 400000 in
theorem new_no (m : Int) (w : World) (h : m < 2 ∨ 9223372036854775808 ≤ m) :
    Calls Tryd.prog 15 #[.int .u64 m] w fun e w' => e = .returned (.tuple #[.pointer none, .int .i64 1]) ∧ w' = w := by
  by_cases h1 : m < 2
  · clear h
    go_enter Tryd.func15, Tryd.ntmps15
    go_wp2
    go_ret2
    exact ⟨rfl, rfl⟩
  · have h2 : 9223372036854775808 ≤ m := by omega
    clear h
    go_enter Tryd.func15, Tryd.ntmps15
    go_wp2
    go_ret2
    exact ⟨rfl, rfl⟩
set_option maxHeartbeats 800000 in
theorem new_any (m : Int) (w : World) (h2 : 2 ≤ m) (h63 : m ≤ 9223372036854775807) :
    Calls Tryd.prog 15 #[.int .u64 m] w fun e w' => e = .returned (.tuple #[.pointer (some ⟨w.heap.size, 0, none⟩), .int .i64 0]) ∧ Below w.heap.size w w' ∧ ∃ f s, Fld w' w.heap.size m f s ∧ Ok m f s := by
  have F0 := hid (fld_new w m 0 0)
  have B0 : Hid (Below w.heap.size w (w.alloc (.cells #[.int .u64 m, .int .u64 0, .int .u64 0] 59))) := (Below.refl _ _).alloc (Nat.le_refl _) _
  have FE := hid (formError_any w.heap.size m 0 0 _ F0.out (by omega))
  by_cases h1 : m % 2 = 0
  · rw [if_pos h1] at FE
    have O : Hid (Ok m 0 0) := ⟨h2, h63, fun h => absurd h (by omega)⟩
    go_enter Tryd.func15, Tryd.ntmps15
    go_wp2_with fail
    refine FE.out.mono ?_
    rintro e w2 ⟨rfl, rfl⟩
    go_wp2
    go_ret2
    exact ⟨rfl, B0.out, 0, 0, F0.out, O.out⟩
  · rw [if_neg h1] at FE
    have ho : m % 2 = 1 := by omega
    go_enter Tryd.func15, Tryd.ntmps15
    go_wp2_with fail
    refine FE.out.mono ?_
    rintro e w2 ⟨rfl, rfl⟩
    generalize w.alloc (.cells #[.int .u64 m, .int .u64 0, .int .u64 0] 59) = w1 at *
    have c1 := F0.out.cell1
    have c2 := F0.out.cell2
    have z1 := F0.out.frozen 1
    have z2 := F0.out.frozen 2
    go_wp2_with fail
    refine (inverseWord_any m w1 h2 h63 ho).mono ?_
    rintro e w2 ⟨⟨y, rfl, y0, y1, yd⟩, rfl⟩
    have MO := hid (filler_ok h2 h63 yd)
    clear yd
    go_wp2_with fail
    refine (square_any m _ h2 h63).mono ?_
    rintro e w3 ⟨rfl, k, rfl⟩
    have O : Hid (Ok m (IntKind.u64.wrap (-y)) (18446744073709551616 * 18446744073709551616 % m)) := ⟨h2, h63, fun _ => ⟨MO.out, rfl⟩⟩
    generalize 18446744073709551616 * 18446744073709551616 % m = sq at *
    generalize hz : IntKind.u64.wrap (-y) = z at *
    go_wp2
    go_ret2
    exact ⟨rfl, below_set (below_set (below_drewN B0.out k) (Nat.le_refl _) 1 _) (Nat.le_refl _) 2 _, z, sq, ((F0.out.drew k).set1 z).set2 sq, O.out⟩
end Go.Proofs.YtbecdlibckbbcabDoor
