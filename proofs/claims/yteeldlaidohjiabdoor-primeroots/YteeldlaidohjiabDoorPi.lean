/- What prime's Is answers. -/
import Derived.Test.YteeldlaidohjiabDoorPs
namespace Go.Proofs.YteeldlaidohjiabDoor
open Go.RowKit Num Nmb

theorem eq_cast (a b : Nat) : ((a : Int) == (b : Int)) = decide (a = b) := by
  by_cases h : a = b
  · simp [h]
  · have h1 : ¬ (a : Int) = (b : Int) := by omega
    rw [beq_eq_false_iff_ne.2 h1, decide_eq_false h]
set_option maxHeartbeats 1600000 in
theorem is_any (n : Nat) (w : World) (hn : n ≤ 18446744073709551615) (L : Lay w) :
    Calls Tryd.prog 8 #[.int .u64 n] w fun e w' => e = .returned (.bool (isB n)) ∧ ∃ k, w' = w.drewN k := by
  by_cases h2 : n < 2
  · have e := isP_low h2
    rw [e]
    clear e
    have h2' : (n : Int) < 2 := by omega
    go_enter Tryd.func8, Tryd.ntmps8
    go_wp2
    go_ret
    exact ⟨rfl, 0, rfl⟩
  · have h2' : ¬ (n : Int) < 2 := by omega
    have LL := hid L
    obtain ⟨t, fr, hg⟩ := L.bas
    have S : Hid (∀ w, (∀ k, k < 12 → n % bse k ≠ 0) → Lay w → Calls Tryd.prog 17 #[.int .u64 n] w fun e w' => e = .returned (.bool (isB n)) ∧ ∃ k, w' = w.drewN k) := fun w hc L => strong_any n w (by omega) hc hn L
    have D : Hid (∀ k, k < 12 → n % bse k = 0 → isB n = decide (n = bse k)) := fun k hk hd => isP_div (by omega) hk hd
    generalize isB n = B at *
    clear L
    go_enter Tryd.func8, Tryd.ntmps8
    go_wp2_with (refine wpList_load_row rfl 39 _ rfl 0 rfl t _ fr _ hg Tryd.underlying39 rfl (by kernel_rfl) ?_)
    clear hg
    go_loopw [8] (fun iv wr => ∃ k : Nat, iv = .int .i64 k ∧ k ≤ 12 ∧ Hid (∀ j, j < k → n % bse j ≠ 0) ∧ ∃ c, wr = w.drewN c) (fun iv _ => (12 - intOf iv).toNat)
    case atStart => exact ⟨0, rfl, by decide, fun j hj => absurd hj (by omega), 0, rfl⟩
    case round =>
      obtain ⟨k, rfl, hk, G, c, rfl⟩ := hrel
      by_cases hk12 : k = 12
      · subst hk12
        have SS := hid (S.out (w.drewN c) G.out (LL.out.drew c))
        clear S D G
        go_wp2_with fail
        refine SS.out.mono ?_
        rintro e w3 ⟨rfl, c2, rfl⟩
        go_wp2
        go_ret
        exact ⟨rfl, c + c2, by simp⟩
      · have hk' : (k : Int) < 12 := by omega
        have bl := bse_lt k (by omega)
        have hi := bas_at k (by omega)
        have N : Hid (n % bse k ≠ 0 → ∀ j, j < k + 1 → n % bse j ≠ 0) := fun hp j hj => by
          by_cases e : j = k
          · rw [e]; exact hp
          · exact G.out j (by omega)
        have DD := hid (D.out k (by omega))
        clear G D S
        generalize bse k = b at *
        have b0 : ((b : Int) == 0) = false := beq_eq_false_iff_ne.2 (by omega)
        have b1 : ¬ (b : Int) = 0 := by omega
        have em : (n : Int) % (b : Int) = ((n % b : Nat) : Int) := (Int.natCast_emod n b).symm
        have ml := Nat.mod_lt n (show 0 < b by omega)
        by_cases hd : n % b = 0
        · have hB := DD.out hd
          rw [hd] at em
          clear DD
          go_wp2
          go_ret
          exact ⟨by rw [hB, ← eq_cast]; rfl, c, rfl⟩
        · have hd' : (((n % b : Nat) : Int) == 0) = false := beq_eq_false_iff_ne.2 (by omega)
          have NN := hid (N.out hd)
          clear N DD hd
          generalize n % b = r at *
          go_wp2
          exact ⟨⟨k + 1, rfl, by omega, NN, c, rfl⟩, by simp only [intOf]; omega⟩
end Go.Proofs.YteeldlaidohjiabDoor
