/- The law PrimeGreat, walked. -/
import Derived.Test.YteeldlaidohjiabDoorRt
import Derived.Deep.RegionHeld3
namespace Go.Proofs.YteeldlaidohjiabDoor
open Go.RowKit Num Nmb

set_option maxHeartbeats 3200000 in
set_option maxRecDepth 100000 in
theorem great_good (k many below u : Nat) (w : World) (hk : 1 ≤ k ∧ k ≤ 40) (hm : 1 ≤ many ∧ many ≤ 8) (hb : 1000000 ≤ below ∧ below ≤ 9223372036854775808) (hu : 2 ^ k = u) (L : Lay w) :
    Calls Tryd.prog 3 #[.int .i64 k, .int .i64 many, .int .u64 below] w fun e w' => e = .returned (.bool true) ∧ Below w.heap.size w w' := by
  have S := hid (scan_any k many below u _ w hk ⟨hm.1, by omega⟩ (by omega) hb.2 hu rfl L)
  have LL := hid L
  have h1 : decide ((k : Int) < 1) = false := by simp; omega
  have h2 : decide (40 < (k : Int)) = false := by simp; omega
  have h3 : decide ((many : Int) < 1) = false := by simp; omega
  have h4 : decide (8 < (many : Int)) = false := by simp; omega
  have h5 : decide ((below : Int) < 1000000) = false := by simp; omega
  have h6 : decide ((9223372036854775808 : Int) < (below : Int)) = false := by simp; omega
  have m1 := hm.1
  have m2 := hm.2
  have k2 := hk.2
  have u2 : 2 ≤ u := by rw [← hu]; simpa using Nat.pow_le_pow_right (show 0 < 2 by decide) hk.1
  have b2 := hb.2
  have MEM : Hid (∀ x, x ∈ gath u ((below - 2) / u) → isB x = true ∧ x < below ∧ ∃ j, 1 ≤ j ∧ x = 1 + u * j) := fun x hx => by
    obtain ⟨h1, j, h2, _, h4⟩ := gath_mem hx
    exact ⟨h1, gath_lt u2 (by omega) hx, j, h2, h4⟩
  have DN : Hid ((gath u ((below - 2) / u)).Pairwise (fun a b => b < a)) := gath_down (by omega) _
  have TWO : Hid (∀ t j, Tw (u * j) t → k ≤ t) := fun t j ⟨m, h⟩ => two_le (m := m) ⟨j, by rw [← h, hu]⟩
  clear L hk hm hb hu
  generalize gath u ((below - 2) / u) = G at *
  go_enter Tryd.func3, Tryd.ntmps3
  go_wp2_with fail
  refine S.out.mono ?_
  rintro e w1 ⟨⟨v, er, rfl, hs⟩, B⟩
  have HS := hid hs
  have L1 := hid (LL.out.below B LL.out.size)
  have B1 := hid B
  clear hs B S
  have AW := hid (fun c => awake_any _ (L1.out.drew c))
  have fin2 : Hid (∀ c w', Below (w1.drewN c).heap.size (w1.drewN c) w' → Below w.heap.size w w') := fun c w' b => B1.out.trans ((Below.of_drew b).mono B1.out.size)
  rcases HS.out with ⟨he, ho, hl⟩ | ⟨he, hv, hl⟩
  · have hlen : (G.take many).length = many := by rw [List.length_take]; omega
    obtain ⟨g, cap1, hv, hcap1, hg, hg2, hc⟩ := ho.cells (by omega)
    rw [hlen] at hv hcap1
    subst hv he
    have ED : ∀ i (hi : i < many), (G.take many).getD i 0 = (G.take many)[i]'(by omega) := fun i hi => by rw [List.getD_eq_getElem?_getD, List.getElem?_eq_getElem (by omega)]; rfl
    have C1 : Hid (∀ i, i < many → w1.cell? ⟨g, i, none⟩ = some (.int .u64 ((G.take many).getD i 0 : Nat))) := fun i hi => by rw [ED i hi]; exact hc i (by omega)
    have F1 : Hid (∀ i, i < many → isB ((G.take many).getD i 0) = true ∧ (G.take many).getD i 0 < below ∧ ∃ j, 1 ≤ j ∧ (G.take many).getD i 0 = 1 + u * j) := fun i hi => by
      rw [ED i hi]
      exact MEM.out _ (List.mem_of_mem_take (List.getElem_mem _))
    have F2 : Hid (∀ i, i + 1 < many → (G.take many).getD (i + 1) 0 < (G.take many).getD i 0) := fun i hi => by
      rw [ED i (by omega), ED (i + 1) hi]
      exact List.pairwise_iff_getElem.1 (DN.out.sublist (List.take_sublist many G)) i (i + 1) (by omega) (by omega) (by omega)
    clear hc ho hl hlen HS B1 LL ED MEM DN
    generalize G.take many = X at *
    go_wp2
    go_loopw [9, 10] (fun lv iv wr => ∃ la i c : Nat, lv = .int .u64 la ∧ iv = .int .i64 i ∧ i ≤ many ∧ Hid (i < many → X.getD i 0 < la) ∧ wr = w1.drewN c) (fun _ iv _ => (many - intOf iv).toNat)
    case atStart => exact ⟨below, 0, 0, rfl, rfl, by omega, fun h => (F1.out 0 h).2.1, rfl⟩
    case round =>
      obtain ⟨la, i, c, rfl, rfl, hi, R, rfl⟩ := hrel
      by_cases hd : i = many
      · have hd' : ¬ (i : Int) < (many : Int) := by omega
        have A0 := hid (AW.out c)
        have F9 := hid (fin2.out c)
        clear AW fin2 C1 F1 F2 R
        go_wp2_with fail
        refine A0.out.mono ?_
        rintro e w3 ⟨rfl, B⟩
        have B9 := hid (F9.out _ B)
        clear B
        go_wp2
        go_ret
        exact ⟨rfl, B9.out⟩
      · have hd' : (i : Int) < (many : Int) := by omega
        have i0 : (0 : Int) ≤ (i : Int) := by omega
        have i8 : (i : Int) < 8 := by omega
        have b1 := C1.out i (by omega)
        obtain ⟨f1, f2, j, f3, f4⟩ := F1.out i (by omega)
        have hlt := R.out (by omega)
        have R' : Hid (i + 1 < many → X.getD (i + 1) 0 < X.getD i 0) := F2.out i
        have IS := hid (fun c => is_any (X.getD i 0) (w1.drewN c) (by omega) (L1.out.drew c))
        rw [f1] at IS
        have uj : u * 1 ≤ u * j := Nat.mul_le_mul_left u f3
        have TT : Hid (∀ t, Tw (X.getD i 0 - 1) t → k ≤ t) := fun t h => by
          rw [f4, Nat.add_sub_cancel_left] at h
          exact TWO.out t j h
        have x1 : 2 ≤ X.getD i 0 := by rw [f4]; omega
        have TZ : Hid (∀ w, Calls Tryd.prog 9 #[.int .u64 ((X.getD i 0 : Nat) - 1 : Int)] w fun e w' => (∃ t : Nat, e = .returned (.int .i64 t) ∧ t < 64 ∧ Tw (X.getD i 0 - 1) t) ∧ w' = w) := fun w => by
          have h := rtwos_any (X.getD i 0 - 1) w (by omega) (by omega)
          have en : ((X.getD i 0 - 1 : Nat) : Int) = (X.getD i 0 : Int) - 1 := by omega
          rw [en] at h
          exact h
        have hge : ¬ (la : Int) ≤ ((X.getD i 0 : Nat) : Int) := by omega
        have hge' : ¬ la ≤ X.getD i 0 := by omega
        clear R f1 f4 uj TWO F1 F2 C1
        generalize X.getD i 0 = x at *
        go_wp2_with fail
        refine (IS.out _).mono ?_
        rintro e w3 ⟨rfl, c2, rfl⟩
        go_wp2_with fail
        refine (TZ.out _).mono ?_
        rintro e w3 ⟨⟨t, rfl, t64, ht⟩, rfl⟩
        have kt := TT.out t ht
        have kt' : ¬ t < k := by omega
        have kt2 : ¬ (t : Int) < (k : Int) := by omega
        clear ht TT TZ IS kt
        go_wp2
        exact ⟨⟨x, i + 1, c + c2, rfl, rfl, by omega, R', by simp⟩, by simp only [intOf]; omega⟩
  · subst he hv
    have A0 := hid (AW.out 0)
    clear HS hl
    go_wp2_with fail
    refine A0.out.mono ?_
    rintro e w3 ⟨rfl, B⟩
    have B9 := hid (fin2.out 0 _ B)
    clear B
    go_wp2
    go_ret
    exact ⟨rfl, B9.out⟩
end Go.Proofs.YteeldlaidohjiabDoor
