/- What the calls of a field answer that multiply and take powers. -/
import Derived.Test.YteeldlaidohjiabDoorDv
import Derived.WalkMore
namespace Go.Proofs.YteeldlaidohjiabDoor
open Go.RowKit Num
theorem ret_int {k : IntKind} {a b : Int} (h : a = b) : Ending.returned (.int k a) = .returned (.int k b) := by rw [h]
set_option maxHeartbeats 400000 in
theorem left_any (g : Nat) (m f s x : Int) (w : World) (h : Fld w g m f s) (hm : 0 < m) (hx : 0 ≤ x) :
    Calls Tryd.prog 28 #[.pointer (some ⟨g, 0, none⟩), .int .u64 x] w fun e w' => e = .returned (.int .u64 (x % m)) ∧ w' = w := by
  have c0 := h.cell0
  have h0 : (m == 0) = false := beq_eq_false_iff_ne.2 (by omega)
  have hr := md_lt x hm
  by_cases hl : x < m
  · have e : x % m = x := Int.emod_eq_of_lt hx hl
    rw [e]
    clear h hr
    go_enter Tryd.func28, Tryd.ntmps28
    go_wp2
    go_ret
    exact ⟨rfl, rfl⟩
  · clear h
    go_enter Tryd.func28, Tryd.ntmps28
    go_wp2
    go_ret
    exact ⟨rfl, rfl⟩
theorem mul_hi {a b m : Int} (ha : 0 ≤ a ∧ a < m) (hb : 0 ≤ b ∧ b < m) (hm : m ≤ 9223372036854775807) :
    0 ≤ a * b / 18446744073709551616 ∧ a * b / 18446744073709551616 < m ∧ 0 ≤ a * b % 18446744073709551616 ∧ a * b % 18446744073709551616 ≤ 18446744073709551615 := by
  have := mul_pp ha hb hm
  omega
set_option maxHeartbeats 800000 in
theorem mul_any (g : Nat) (m f s x y : Int) (w : World) (h : Fld w g m f s) (hm : Ok m f s) (hx : 0 ≤ x) (hy : 0 ≤ y) :
    Calls Tryd.prog 29 #[.pointer (some ⟨g, 0, none⟩), .int .u64 x, .int .u64 y] w fun e w' => e = .returned (.int .u64 (x * y % m)) ∧ ∃ k, w' = w.drewN k := by
  have H := hid h
  have c0 := h.cell0
  have h2 := hm.h2
  have h63 := hm.h63
  have a := md_lt x (show 0 < m by omega)
  have b := md_lt y (show 0 < m by omega)
  have E := hid (md_times x y m)
  have B := hid (mul_hi a b h63)
  clear h
  go_enter Tryd.func29, Tryd.ntmps29
  go_wp2_with fail
  refine (left_any g m f s x w H.out (by omega) hx).mono ?_
  rintro e w' ⟨rfl, rfl⟩
  go_wp2_with fail
  refine (left_any g m f s y _ H.out (by omega) hy).mono ?_
  rintro e w' ⟨rfl, rfl⟩
  generalize x % m = u at *
  generalize y % m = v at *
  go_wp2_with fail
  refine (Tryd.bits_Mul64 u v (by omega) (by omega) (by omega) (by omega) _).mono ?_
  rintro e w' ⟨rfl, rfl⟩
  obtain ⟨b1, b2, b3, b4⟩ := B.out
  have D := div64_any (u * v / 18446744073709551616) (u * v % 18446744073709551616) m w' b1 b3 b4 b2 (by omega)
  have e3 : dr (u * v / 18446744073709551616) (u * v % 18446744073709551616) m = u * v % m := by
    unfold dr
    congr 1
    have := Int.emod_add_mul_ediv (u * v) 18446744073709551616
    omega
  rw [e3] at D
  have DD := hid D
  clear e3 D
  generalize u * v / 18446744073709551616 = hi at *
  generalize u * v % 18446744073709551616 = lo at *
  go_wp2_with fail
  refine DD.out.mono ?_
  rintro e w2 ⟨rfl, k, rfl⟩
  go_wp2
  go_ret
  exact ⟨ret_int E.out, k, rfl⟩
set_option maxHeartbeats 800000 in
theorem pow_any (g : Nat) (m f s x : Int) (n : Nat) (w : World) (h : Fld w g m f s) (hm : Ok m f s) (hx : 0 ≤ x) (hn : n ≤ 18446744073709551615) :
    Calls Tryd.prog 19 #[.pointer (some ⟨g, 0, none⟩), .int .u64 x, .int .u64 n] w fun e w' => e = .returned (.int .u64 (x ^ n % m)) ∧ ∃ k, w' = w.drewN k := by
  have H := hid h
  have HO := hid hm
  have h2 := hm.h2
  have h63 := hm.h63
  have a := md_lt x (show 0 < m by omega)
  have E0 : Hid (1 * (x % m) ^ n % m = x ^ n % m) := by show _ = _; rw [Int.one_mul, md_pow]
  obtain ⟨T, hT⟩ : ∃ T, T = x ^ n % m := ⟨_, rfl⟩
  rw [← hT] at E0
  rw [← hT]
  clear h hm hT
  go_enter Tryd.func19, Tryd.ntmps19
  go_wp2
  go_step3
  go_wp2_with fail
  refine (left_any g m f s x w H.out (by omega) hx).mono ?_
  rintro e w' ⟨rfl, rfl⟩
  generalize x % m = u at *
  go_wp2
  go_step3
  go_wp2
  go_loopw [2, 7, 8] (fun nv pv sv wr => ∃ (j : Nat) (p q : Int), nv = .int .u64 j ∧ pv = .int .u64 p ∧ sv = .int .u64 q ∧ j ≤ 18446744073709551615 ∧ 0 ≤ p ∧ p < m ∧ 0 ≤ q ∧ Hid (p * q ^ j % m = T) ∧ ∃ k, wr = w'.drewN k) (fun nv _ _ _ => (intOf nv).toNat)
  case atStart => exact ⟨n, 1, u, rfl, rfl, rfl, hn, by decide, by omega, by omega, E0, 0, rfl⟩
  case round =>
    obtain ⟨j, p, q, rfl, rfl, rfl, hj, hp, hp2, hq, G, k, rfl⟩ := hrel
    by_cases hj0 : j = 0
    · subst hj0
      have e : p = T := by have := G.out; rw [Int.pow_zero, Int.mul_one, Int.emod_eq_of_lt hp hp2] at this; exact this
      subst e
      clear G
      go_wp2
      try rw [Exit.noGoto_ret]
      go_ret
      exact ⟨rfl, k, rfl⟩
    · have hj1 : ((j : Int) == 0) = false := beq_eq_false_iff_ne.2 (by omega)
      have hb : bits .and .u64 (j : Int) 1 = ((j % 2 : Nat) : Int) := by
        have := bits_and_u64_nat j 1 (by omega) (by omega)
        rw [Nat.and_one_is_mod] at this
        exact this
      by_cases ho : j % 2 = 1
      · have N := hid (pow_odd p q m T j G.out ho)
        rw [ho] at hb
        clear G
        go_wp2_with fail
        refine (mul_any g m f s p q _ (H.out.drew k) HO.out hp hq).mono ?_
        rintro e w2 ⟨rfl, k2, rfl⟩
        go_wp2_with fail
        refine (mul_any g m f s q q _ (H.out.drew (k + k2)) HO.out hq hq).mono ?_
        rintro e w3 ⟨rfl, k3, rfl⟩
        have b1 := md_lt (p * q) (show 0 < m by omega)
        have b2 := md_lt (q * q) (show 0 < m by omega)
        generalize p * q % m = p' at *
        generalize q * q % m = q' at *
        go_wp2
        exact ⟨⟨j / 2, p', q', by congr 1, rfl, rfl, by omega, b1.1, b1.2, b2.1, N, k + k2 + k3, by simp⟩, by simp only [intOf]; omega⟩
      · have N := hid (pow_even p q m T j G.out (by omega))
        rw [show j % 2 = 0 by omega] at hb
        clear G
        go_wp2_with fail
        refine (mul_any g m f s q q _ (H.out.drew k) HO.out hq hq).mono ?_
        rintro e w3 ⟨rfl, k3, rfl⟩
        have b2 := md_lt (q * q) (show 0 < m by omega)
        generalize q * q % m = q' at *
        go_wp2
        exact ⟨⟨j / 2, p, q', by congr 1, rfl, rfl, by omega, hp, hp2, b2.1, N, k + k3, by simp⟩, by simp only [intOf]; omega⟩
end Go.Proofs.YteeldlaidohjiabDoor
