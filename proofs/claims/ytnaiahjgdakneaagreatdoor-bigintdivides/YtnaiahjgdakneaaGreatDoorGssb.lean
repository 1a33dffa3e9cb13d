/- The walk of 'guessDigit'. -/
import Derived.Test.YtnaiahjgdakneaaGreatDoorGss
namespace Go.Proofs.YtnaiahjgdakneaaGreatDoor
open Go.RowKit Num

theorem div64_quiet (h l y : Int) (w : World) (n : Nat) (hh : 0 ≤ h) (hl : 0 ≤ l) (hl1 : l ≤ 18446744073709551615) (hy : h < y) (hy1 : y ≤ 18446744073709551615) :
    Calls Tryz.prog 73 #[.int .u64 h, .int .u64 l, .int .u64 y] (w.drewN n) fun e w' => e = .returned (.tuple #[.int .u64 (dq h l y), .int .u64 (dr h l y)]) ∧ ∃ m, w' = w.drewN m := by
  refine (div64_any h l y (w.drewN n) hh hl hl1 hy hy1).mono ?_
  rintro e w' ⟨rfl, k, rfl⟩
  exact ⟨rfl, n + k, by simp⟩

set_option maxHeartbeats 1600000 in
set_option maxRecDepth 100000 in
theorem guess_any (b off m c b' off' c' : Nat) (u2 u1 u0 v1 v2 xl yl p x y : Int) (w : World) (hc : m + 3 ≤ c) (hcb : c ≤ 9223372036854775807) (_hc' : m + 2 ≤ c') (_hcb' : c' ≤ 9223372036854775807)
    (g2 : w.cell? ⟨b, off + (m + 2), none⟩ = some (.int .u64 u2)) (g1 : w.cell? ⟨b, off + (m + 1), none⟩ = some (.int .u64 u1)) (g0 : w.cell? ⟨b, off + m, none⟩ = some (.int .u64 u0))
    (f1 : w.cell? ⟨b', off' + (m + 1), none⟩ = some (.int .u64 v1)) (f2 : w.cell? ⟨b', off' + m, none⟩ = some (.int .u64 v2)) (hd : Gd xl yl p u2 u1 u0 v1 v2 x y) :
    Calls Tryz.prog 89 #[.slice (some ⟨b, off, none⟩) (m + 3) c, .slice (some ⟨b', off', none⟩) (m + 2) c'] w fun e w' => (∃ g, e = .returned (.int .u64 g) ∧ 0 ≤ g ∧ g ≤ 18446744073709551615 ∧ x < (g + 1) * y ∧ (g - 1) * y ≤ x) ∧ ∃ k, w' = w.drewN k := by
  have HD := hid hd
  have t0 := hd.top
  have b1 := hd.fu1; have b2 := hd.fu1'; have b3 := hd.fu0; have b4 := hd.fu0'; have b5 := hd.fv1; have b6 := hd.fv1'; have b7 := hd.fv2; have b8 := hd.fv2'; have b9 := hd.fu2
  clear hd
  go_enter Tryz.func89, Tryz.ntmps89
  go_wp2
  go_region
  by_cases he : u2 = v1
  · subst he
    have S := hid (HD.out.same rfl)
    go_wp2
    go_ret
    exact ⟨⟨18446744073709551615, rfl, by decide, by decide, S.out.1, S.out.2⟩, 1, rfl⟩
  · have hq : (u2 == v1) = false := beq_eq_false_iff_ne.2 he
    have hlt : u2 < v1 := by omega
    have ST := hid (Gt.start HD.out hlt)
    go_wp2
    generalize hw1 : w.drew = w1
    have g2' : w1.cell? ⟨b, off + (m + 2), none⟩ = some (.int .u64 u2) := by rw [← hw1]; exact g2
    have g1' : w1.cell? ⟨b, off + (m + 1), none⟩ = some (.int .u64 u1) := by rw [← hw1]; exact g1
    have g0' : w1.cell? ⟨b, off + m, none⟩ = some (.int .u64 u0) := by rw [← hw1]; exact g0
    have HW := hid hw1
    clear hw1 g2 g1 g0 f1 f2
    go_quiet ((go_at_call 73; exact div64_quiet _ _ _ _ _ b9 b1 b2 hlt b6))
    rename_i nq
    go_wp2
    go_loop [8, 9] (fun gs ls => ∃ g l : Int, gs = .int .u64 g ∧ ls = .int .u64 l ∧ Hid (Gt xl yl p u2 u1 u0 v1 v2 x y g l) ∧ l ≤ 18446744073709551615) (fun gs _ => (intOf gs).toNat)
    case atStart => exact ⟨_, _, rfl, rfl, ST, by have := (dq_bd b9 ⟨b1, b2⟩ hlt).2.2.2.1; omega⟩
    case round =>
      obtain ⟨g, l, rfl, rfl, G, p4⟩ := hrel
      have p1 := G.out.fg
      have p2 := G.out.fg'
      have p3 := G.out.fl
      clear ST
      by_cases t1 : hi (g * v2) < l
      · have D := hid (G.out.done (test_yes (Or.inl t1) b3))
        have HH := hid G.out.fh
        clear G
        go_wp2_with (go_at_call 84; refine (mul64 _ _ p1 p2 b7 b8 _).mono ?_; rintro e w3 ⟨rfl, rfl⟩)
        go_ret
        exact ⟨⟨g, rfl, p1, p2, HH.out, D.out⟩, 1 + nq, by rw [← HW.out]; simp⟩
      · by_cases t2 : hi (g * v2) = l
        · have t2' : (hi (g * v2) == l) = true := beq_iff_eq.2 t2
          by_cases t3 : lo (g * v2) ≤ u0
          · have D := hid (G.out.done (test_yes (Or.inr ⟨t2, t3⟩) b3))
            have HH := hid G.out.fh
            clear G t2
            go_wp2_with (go_at_call 84; refine (mul64 _ _ p1 p2 b7 b8 _).mono ?_; rintro e w3 ⟨rfl, rfl⟩)
            go_ret
            exact ⟨⟨g, rfl, p1, p2, HH.out, D.out⟩, 1 + nq, by rw [← HW.out]; simp⟩
          · have hno := test_no t1 (fun h => t3 h.2) b4
            clear t2
            obtain ⟨n1, GN⟩ := G.out.less hno
            have HGN := hid GN
            have n2 : 0 ≤ g - 1 := by omega
            by_cases cy : l + v1 ≤ 18446744073709551615
            · have cz : hi (l + v1) = 0 := by unfold hi; omega
              have cl : lo (l + v1) = l + v1 := by unfold lo; omega
              clear GN G
              go_wp2_with (first | (go_at_call 84; refine (mul64 _ _ p1 p2 b7 b8 _).mono ?_; rintro e w3 ⟨rfl, rfl⟩) | simp only [add64_0 l v1 p3 (by omega)])
              go_round
              case rel => exact ⟨_, _, _, ⟨g - 1, rfl, l + v1, rfl, HGN, cy⟩, rfl, rfl, rfl⟩
              case measure => simp [intOf]; omega
            · have cz : (hi (l + v1) != 0) = true := by rw [bne_iff_ne]; unfold hi; omega
              have hdn := hid (GN.done (by have q := word_sq (a := g - 1) (b := v2) ⟨by omega, by omega⟩ ⟨b7, b8⟩; omega))
              clear GN G
              go_wp2_with (first | (go_at_call 84; refine (mul64 _ _ p1 p2 b7 b8 _).mono ?_; rintro e w3 ⟨rfl, rfl⟩) | simp only [add64_0 l v1 p3 (by omega)])
              go_ret
              exact ⟨⟨g - 1, rfl, by omega, by omega, HGN.out.fh, hdn.out⟩, 1 + nq, by rw [← HW.out]; simp⟩
        · have t2' : (hi (g * v2) == l) = false := beq_eq_false_iff_ne.2 t2
          have hno := test_no t1 (fun h => t2 h.1) b4
          clear t2
          obtain ⟨n1, GN⟩ := G.out.less hno
          have HGN := hid GN
          have n2 : 0 ≤ g - 1 := by omega
          by_cases cy : l + v1 ≤ 18446744073709551615
          · have cz : hi (l + v1) = 0 := by unfold hi; omega
            have cl : lo (l + v1) = l + v1 := by unfold lo; omega
            clear GN G
            go_wp2_with (first | (go_at_call 84; refine (mul64 _ _ p1 p2 b7 b8 _).mono ?_; rintro e w3 ⟨rfl, rfl⟩) | simp only [add64_0 l v1 p3 (by omega)])
            go_round
            case rel => exact ⟨_, _, _, ⟨g - 1, rfl, l + v1, rfl, HGN, cy⟩, rfl, rfl, rfl⟩
            case measure => simp [intOf]; omega
          · have cz : (hi (l + v1) != 0) = true := by rw [bne_iff_ne]; unfold hi; omega
            have hdn := hid (GN.done (by have q := word_sq (a := g - 1) (b := v2) ⟨by omega, by omega⟩ ⟨b7, b8⟩; omega))
            clear GN G
            go_wp2_with (first | (go_at_call 84; refine (mul64 _ _ p1 p2 b7 b8 _).mono ?_; rintro e w3 ⟨rfl, rfl⟩) | simp only [add64_0 l v1 p3 (by omega)])
            go_ret
            exact ⟨⟨g - 1, rfl, by omega, by omega, HGN.out.fh, hdn.out⟩, 1 + nq, by rw [← HW.out]; simp⟩
end Go.Proofs.YtnaiahjgdakneaaGreatDoor
