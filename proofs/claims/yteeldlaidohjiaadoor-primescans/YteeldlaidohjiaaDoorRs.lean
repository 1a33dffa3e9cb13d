/- What the reference's Scan answers. -/
import Derived.Test.YteeldlaidohjiaaDoorRi
import Derived.Test.YteeldlaidohjiaaDoorLpr
import Derived.Deep.RegionHeld3
namespace Go.Proofs.YteeldlaidohjiaaDoor
open Go.RowKit Num Nmb

/-- how the numbers below n are gone through. -/
theorem gath_step {u n : Nat} (hu : 2 ≤ u) (hn : u < n) : gath u ((n - 2) / u) = if (n - 1) % u = 1 ∧ isB (n - 1) = true then (n - 1) :: gath u ((n - 1 - 2) / u) else gath u ((n - 1 - 2) / u) := by
  obtain ⟨m, rfl⟩ : ∃ m, n = m + 2 := ⟨n - 2, by omega⟩
  have e1 : m + 2 - 1 = m + 1 := by omega
  have e2 : m + 2 - 2 = m := by omega
  have e3 : m + 1 - 2 = m - 1 := by omega
  rw [e1, e2, e3]
  have hdm := Nat.div_add_mod m u
  have hml := Nat.mod_lt m (show 0 < u by omega)
  by_cases h : m % u = 0
  · have hm : 0 < m := by
      apply Nat.pos_of_ne_zero
      intro h0; omega
    have hq : 0 < m / u := by
      apply Nat.pos_of_ne_zero
      intro h0
      rw [h0, h] at hdm
      omega
    obtain ⟨j, hj⟩ : ∃ j, m / u = j + 1 := ⟨m / u - 1, by omega⟩
    have hm1 : 1 + u * (j + 1) = m + 1 := by rw [← hj]; omega
    have hd : (m - 1) / u = j := by
      have : m - 1 = u * j + (u - 1) := by
        have h5 : u * (j + 1) = u * j + u := Nat.mul_succ u j
        omega
      rw [this, Nat.mul_add_div (show 0 < u by omega), Nat.div_eq_of_lt (show u - 1 < u by omega), Nat.add_zero]
    have hmod : (m + 1) % u = 1 := by
      rw [Nat.add_mod, h, Nat.zero_add, Nat.mod_mod, Nat.mod_eq_of_lt (by omega)]
    rw [hj, hd, gath, hm1, hmod]
    by_cases hb : isB (m + 1) = true
    · rw [if_pos hb, if_pos ⟨rfl, hb⟩]
    · rw [if_neg hb, if_neg (fun h => hb h.2)]
  · have hmod : (m + 1) % u ≠ 1 := by
      intro h1
      have h2 := Nat.div_add_mod (m + 1) u
      rw [h1] at h2
      have : m = u * ((m + 1) / u) := by omega
      rw [this, Nat.mul_mod_right] at h
      exact h rfl
    have hd : (m - 1) / u = m / u := by
      have : m - 1 = u * (m / u) + (m % u - 1) := by omega
      rw [this, Nat.mul_add_div (show 0 < u by omega), Nat.div_eq_of_lt (show m % u - 1 < u by omega), Nat.add_zero]
    rw [if_neg (fun h => hmod h.1), hd]
theorem gath_none {u n : Nat} (hu : 2 ≤ u) (hn : n ≤ u) : gath u ((n - 2) / u) = [] := by
  rw [Nat.div_eq_of_lt (by omega)]; rfl
set_option maxHeartbeats 1600000 in
set_option maxRecDepth 100000 in
theorem rscan_any (k many below u : Nat) (w : World) (hk : 1 ≤ k ∧ k ≤ 40) (hm : 1 ≤ many ∧ many ≤ 64) (hb : below ≤ 30000) (hu : 2 ^ k = u) (L : Lay w) :
    Calls Tryd.prog 16 #[.int .i64 k, .int .i64 many, .int .u64 below] w fun e w' => (∃ v : Value, e = .returned v ∧ OwW w' w.heap.size v ((gath u ((below - 2) / u)).take many)) ∧ Below w.heap.size w w' := by
  obtain ⟨i0, hi, hz0, hz1, hz2⟩ := info_parts Tryd.infoWord
  obtain ⟨k1, k2⟩ := hk
  obtain ⟨m1, m2⟩ := hm
  have u1 : 2 ≤ 2 ^ k ∧ 2 ^ k ≤ 1099511627776 := ⟨by simpa using Nat.pow_le_pow_right (show 0 < 2 by decide) k1, by simpa using Nat.pow_le_pow_right (show 0 < 2 by decide) k2⟩
  rw [hu] at u1
  have LL := hid L
  have P2 := hid (rpow_two k u w k2 hu)
  have kw : IntKind.u64.wrap (k : Int) = (k : Int) := by rw [IntKind.wrap_u64]; omega
  have f1 : (1 : Int) ≤ (k : Int) := by omega
  have f2 : (k : Int) ≤ 40 := by omega
  clear L hu
  generalize hG : gath u ((below - 2) / u) = G
  go_enter Tryd.func16, Tryd.ntmps16
  go_wp2_with fail
  refine P2.out.mono ?_
  rintro e w2 ⟨rfl, c, rfl⟩
  go_wp2
  clear kw P2 f1 f2
  have hsz0 : w.heap.size ≤ (w.drewN c).heap.size := by simp
  go_loopw [8, 9] (fun lv nv wr => ∃ (n : Nat) (X : List Nat) (ao : Option Addr) (cap : Nat), lv = .slice ao X.length cap ∧ nv = .int .u64 n ∧ n ≤ 30000 ∧ X.length ≤ many ∧ Hid (OwW wr w.heap.size lv X ∧ Below w.heap.size w wr ∧ X ++ gath u ((n - 2) / u) = G ∧ Lay wr) ∧ w.heap.size ≤ wr.heap.size) (fun _ nv _ => (intOf nv).toNat)
  case atStart => exact ⟨below, [], none, 0, rfl, rfl, hb, by simp, ⟨World.ownsRow_nil _ _ _ _, below_drewN (Below.refl _ _) c, hG, LL.out.drew c⟩, hsz0⟩
  case round =>
    obtain ⟨n, X, ao, cap, rfl, rfl, hn, hX, R, hsz⟩ := hrel
    clear hG
    by_cases hlo : n ≤ u
    · have hlo' : ¬ (u : Int) < (n : Int) := by omega
      have BB := hid R.out.2.1
      have SP : Hid (OwW wr w.heap.size (.slice ao X.length cap) (G.take many)) := by
        have := R.out.2.2.1
        rw [gath_none u1.1 hlo, List.append_nil] at this
        show OwW _ _ _ _
        rw [← this, List.take_of_length_le hX]
        exact R.out.1
      clear R hlo
      go_wp2
      go_ret
      exact ⟨⟨_, rfl, SP.out⟩, BB.out⟩
    · by_cases hfull : X.length = many
      · have hlo' : (u : Int) < (n : Int) := by omega
        have hf' : ¬ (X.length : Int) < (many : Int) := by omega
        have BB := hid R.out.2.1
        have SP : Hid (OwW wr w.heap.size (.slice ao X.length cap) (G.take many)) := by
          have := R.out.2.2.1
          show OwW _ _ _ _
          rw [← this, ← hfull, List.take_left']
          · exact R.out.1
          · rfl
        clear R hlo hfull
        go_wp2
        go_ret
        exact ⟨⟨_, rfl, SP.out⟩, BB.out⟩
      · have hlo' : (u : Int) < (n : Int) := by omega
        have hf' : (X.length : Int) < (many : Int) := by omega
        have un : ¬ (u : Int) = 0 := by omega
        have un' : ((u : Int) == 0) = false := beq_eq_false_iff_ne.2 un
        have G1 := hid (gath_step u1.1 (show u < n by omega))
        have e1 : (1 : Int) % (u : Int) = 1 := Int.emod_eq_of_lt (by decide) (by omega)
        have e2 : ((n : Int) - 1) % (u : Int) = (((n - 1) % u : Nat) : Int) := by
          rw [Int.natCast_emod]
          congr 1
          omega
        have ml := Nat.mod_lt (n - 1) (show 0 < u by omega)
        by_cases h1 : (n - 1) % u = 1
        · have e3 : ((n : Int) - 1) % (u : Int) = 1 := by rw [e2, h1]; rfl
          have e4 : Int.tmod ((n : Int) - 1) (u : Int) = 1 := by rw [Int.tmod_eq_emod_of_nonneg (by omega)]; exact e3
          have ew : IntKind.u64.wrap ((n : Int) - 1) = (n : Int) - 1 := by rw [IntKind.wrap_u64]; omega
          have u0 : ¬ u = 0 := by omega
          have e5 : Int.tmod 1 (u : Int) = 1 := by rw [Int.tmod_eq_emod_of_nonneg (by decide)]; exact e1
          have en : ((n - 1 : Nat) : Int) = (n : Int) - 1 := by omega
          have IS := fun w => ris_any (n - 1) w (by omega)
          rw [en] at IS
          have IS' := hid IS
          clear IS
          have GY : Hid (isB (n - 1) = true → (X ++ [n - 1]) ++ gath u ((n - 1 - 2) / u) = G) := fun h => by rw [← R.out.2.2.1, G1.out, if_pos ⟨h1, h⟩, List.append_assoc]; rfl
          have GN : Hid (isB (n - 1) = false → X ++ gath u ((n - 1 - 2) / u) = G) := fun h => by rw [← R.out.2.2.1, G1.out, if_neg (fun h' => by rw [h] at h'; cases h'.2)]
          clear G1 h1 ml e2
          generalize isB (n - 1) = B at *
          go_wp2
          go_region_held3 (fun _ => True) (trivial) (first
            | (go_at_call 12; go_must (refine (IS'.out _).mono ?_; rintro e w2 ⟨rfl, rfl⟩)))
          cases B
          · have EE := hid (GN.out rfl)
            clear GN GY IS'
            go_wp2
            exact ⟨⟨n - 1, X, ao, cap, rfl, by congr 1; omega, by omega, hX, ⟨R.out.1.heap (by first | rfl | simp), below_drewN R.out.2.1 1, EE.out, R.out.2.2.2.heap (by first | rfl | simp)⟩, by simpa using hsz⟩, by simp only [intOf]; omega⟩
          · have EE := hid (GY.out rfl)
            clear GN GY IS'
            have OWN := hid (R.out.1.heap (w' := wr.drew) (by first | rfl | simp))
            have BB : Hid (Below w.heap.size w wr.drew) := below_drewN R.out.2.1 1
            have LY := hid (R.out.2.2.2.heap (w' := wr.drew) (by first | rfl | simp))
            have hs2 : w.heap.size ≤ wr.drew.heap.size := by simpa using hsz
            clear R hsz
            generalize wr.drew = w2 at *
            obtain ⟨m, hm⟩ : ∃ m, m = n - 1 := ⟨_, rfl⟩
            have hm' : IntKind.u64.wrap ((n : Int) - 1) = (m : Int) := by rw [ew]; omega
            rw [← hm] at EE
            have HM := hid hm
            clear ew e3 e4 e5 en e1 un un' u0 hm
            go_wp2_with (at_builtin; refine wpList_append_own _ rfl (.tmp 37) (.tmp 40) 32 rfl w.heap.size 22 i0 (.int .u64 0) 1 8 Tryd.underlying32 hi hz0 hz1 hz2 rfl (by decide) _ X.length (wordCells X) rfl (OWN.out.alloc _) ⟨w2.heap.size, 0, none⟩ 1 1 [.int .u64 (m : Int)] rfl rfl (cell_one_new _ _ _) (by intro u hu; simp at hu; subst hu; rfl) (by unfold maxLen; omega) (by omega) (by simp; omega) ?_; intro v' w3 own3 grow3 iff3; clear iff3; obtain ⟨ao', cap', hv, O3, B3, L3, hp3⟩ := pushed OWN.out BB.out LY.out LL.out hs2 own3 grow3; clear own3 grow3; subst hv)
            exact ⟨⟨m, X ++ [m], ao', cap', by simp, rfl, by have := HM.out; omega, by simp; omega, ⟨O3.out, B3.out, EE.out, L3.out⟩, hp3⟩, by have := HM.out; simp only [intOf]; omega⟩
        · have h1' : ((((n - 1) % u : Nat) : Int) == 1) = false := beq_eq_false_iff_ne.2 (by omega)
          have ee : X ++ gath u ((n - 1 - 2) / u) = G := by rw [← R.out.2.2.1, G1.out, if_neg (fun h => h1 h.1)]
          have EE := hid ee
          clear ee G1 h1
          generalize (n - 1) % u = r at *
          go_wp2
          go_region
          go_wp2
          exact ⟨⟨n - 1, X, ao, cap, rfl, by congr 1; omega, by omega, hX, ⟨R.out.1.heap (by first | rfl | simp), below_drewN R.out.2.1 1, EE.out, R.out.2.2.2.heap (by first | rfl | simp)⟩, by simpa using hsz⟩, by simp only [intOf]; omega⟩
end Go.Proofs.YteeldlaidohjiaaDoor
