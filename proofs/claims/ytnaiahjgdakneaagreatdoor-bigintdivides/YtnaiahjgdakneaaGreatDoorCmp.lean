/- What 'Cmp' answers: -1, 0 or 1, as the first number is below the second, is it, is above it; it only reads. -/
import Derived.Test.YtnaiahjgdakneaaGreatDoorBase
import Derived.Deep.QuietTactic
import Derived.BigQuiet
namespace Go.Proofs.YtnaiahjgdakneaaGreatDoor
open Go.RowKit Num

theorem ret_int {k : IntKind} {a b : Int} (h : a = b) : Ending.returned (.int k a) = .returned (.int k b) := by rw [h]

set_option maxHeartbeats 400000 in
theorem compare_int (a b : Int) (w : World) : Calls Tryz.prog 65 #[.int .i64 a, .int .i64 b] w fun e w' => e = .returned (.int .i64 (cmpI a b)) ∧ w' = w := by
  unfold cmpI
  go_enter Tryz.func65, Tryz.ntmps65
  go_wp2
  all_goals (go_ret; exact ⟨rfl, rfl⟩)
set_option maxHeartbeats 400000 in
theorem compare_word (a b : Int) (w : World) : Calls Tryz.prog 66 #[.int .u64 a, .int .u64 b] w fun e w' => e = .returned (.int .i64 (cmpI a b)) ∧ w' = w := by
  unfold cmpI
  go_enter Tryz.func66, Tryz.ntmps66
  go_wp2
  all_goals (go_ret; exact ⟨rfl, rfl⟩)

set_option maxHeartbeats 400000 in
theorem cmp_any (vx vy : Value) (n m : Nat) (x y : Nat → Int) (o p : Nat) (w : World) (hx : Sl w vx n x o) (hy : Sl w vy m y p) :
    Calls Tryz.prog 45 #[vx, vy] w fun e w' => e = .returned (.int .i64 (cmpI (V x o n) (V y p m))) ∧ ∃ k, w' = w.drewN k := by
  have Hx := trimmed_any vx n x o w hx
  have Hy := trimmed_any vy m y p w hy
  have Hx' : Hid (Calls Tryz.prog 44 #[vx] w fun e w' => (∃ v', e = .returned v' ∧ Sl w v' (tr x o n) x o) ∧ w' = w) := Hx
  have Hy' : Hid (Calls Tryz.prog 44 #[vy] w fun e w' => (∃ v', e = .returned v' ∧ Sl w v' (tr y p m) y p) ∧ w' = w) := Hy
  clear Hx Hy
  have e1 := V_tr x o n
  have e2 := V_tr y p m
  have nx := tr_nm x o n
  have ny := tr_nm y p m
  rw [← e1, ← e2]
  clear e1 e2 hx hy
  generalize tr x o n = n' at *
  generalize tr y p m = m' at *
  go_enter Tryz.func45, Tryz.ntmps45
  go_wp2_with fail
  refine Hx'.out.mono ?_
  rintro e w' ⟨⟨v1, rfl, s1⟩, rfl⟩
  go_wp2_with fail
  refine Hy'.out.mono ?_
  rintro e w' ⟨⟨v2, rfl, s2⟩, rfl⟩
  clear Hx' Hy'
  obtain ⟨ao, c1, rfl, a1, a2, a3, a4, a5⟩ := s1
  obtain ⟨bo, c2, rfl, b1, b2, b3, b4, b5⟩ := s2
  by_cases hne : n' = m'
  · subst hne
    go_wp2
    go_loopw [5] (fun i wr => ∃ k : Nat, k ≤ n' ∧ i = .int .i64 ((k : Int) - 1) ∧ (∀ j, k ≤ j → j < n' → x (o + j) = y (p + j)) ∧ ∃ q, wr = w'.drewN q) (fun i _ => (intOf i + 1).toNat)
    case atStart => exact ⟨n', Nat.le_refl _, rfl, fun j h1 h2 => absurd h1 (by omega), 0, rfl⟩
    case round =>
      obtain ⟨k, hk, rfl, he, q, rfl⟩ := hrel
      cases k with
      | zero =>
        have E : Hid (cmpI (V x o n') (V y p n') = 0) := by rw [V_congr n' (fun j hj => he j (by omega) hj)]; exact cmpI_self _
        clear he
        go_wp2
        go_ret
        exact ⟨ret_int E.out.symm, q, rfl⟩
      | succ k =>
        obtain ⟨b, off, rfl, hb, hc⟩ := a5 (by omega)
        obtain ⟨b', off', rfl, hb', hc'⟩ := b5 (by omega)
        have g1 := hc k (by omega)
        have g2 := hc' k (by omega)
        have He := (show Hid _ from he)
        clear he hc hc' a5 b5 
        go_wp2
        go_region
        go_wp2
        · have hd : (x (o + k) != y (p + k)) = true := by assumption
          have E : Hid (cmpI (x (o + k)) (y (p + k)) = cmpI (V x o n') (V y p n')) := by
            show _ = _
            have hd' : x (o + k) ≠ y (p + k) := by simpa using hd
            by_cases h : x (o + k) < y (p + k)
            · have := cmp_at a3 b3 (show k < n' by omega) (fun j h1 h2 => He.out j (by omega) h2) h
              unfold cmpI; rw [if_pos h, if_pos this]
            · have := cmp_at b3 a3 (show k < n' by omega) (fun j h1 h2 => (He.out j (by omega) h2).symm) (show y (p + k) < x (o + k) by omega)
              unfold cmpI; rw [if_neg (by omega), if_pos (by omega), if_neg (by omega), if_pos this]
          have hki : (k : Int) < (n' : Int) := by omega
          have hkn : k < n' := by omega
          generalize hw1 : w'.drewN (q + 1) = w1
          have g1' : w1.cell? ⟨b, off + k, none⟩ = some (.int .u64 (x (o + k))) := by rw [← hw1]; simpa using g1
          have g2' : w1.cell? ⟨b', off' + k, none⟩ = some (.int .u64 (y (p + k))) := by rw [← hw1]; simpa using g2
          have Hw : Hid (w'.drewN (q + 1) = w1) := hw1
          clear hw1 g1 g2
          go_quiet ((go_at_call 66; exact Calls.quiet_of_same (compare_word _ _ _)))
          go_wp2
          go_ret
          rename_i nq
          exact ⟨ret_int E.out, q + 1 + nq, by rw [← Hw.out]; simp⟩
        · have hd : (x (o + k) != y (p + k)) = false := by assumption
          refine ⟨⟨k, by omega, rfl, ?_, q + 1, rfl⟩, by simp [intOf]⟩
          intro j h1 h2
          by_cases hj : j = k
          · subst hj; simpa using hd
          · exact He.out j (by omega) h2
  · have hq : ((n' : Int) == (m' : Int)) = false := beq_eq_false_iff_ne.2 (by omega)
    have E : Hid (cmpI (n' : Int) (m' : Int) = cmpI (V x o n') (V y p m')) := by
      show _ = _
      by_cases h : n' < m'
      · have := cmp_len a3 b3 ny h
        unfold cmpI; rw [if_pos (by omega), if_pos this]
      · have := cmp_len b3 a3 nx (show m' < n' by omega)
        unfold cmpI; rw [if_neg (by omega), if_pos (by omega), if_neg (by omega), if_pos this]
    go_wp2_with fail
    refine (compare_int _ _ _).mono ?_
    rintro e w2 ⟨rfl, rfl⟩
    go_wp2
    go_ret
    exact ⟨ret_int E.out, 0, rfl⟩
end Go.Proofs.YtnaiahjgdakneaaGreatDoor
