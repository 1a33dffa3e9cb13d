/- The law WordAll, walked. -/
import Derived.Test.YtanlnmmeinmceaaWv
import Derived.Deep.RegionHeld3
namespace Go.Proofs.Ytanlnmmeinmceaa
open Go.RowKit Num

theorem fe_at {x : Nat → Int} {m : Int} {n k : Nat} {E : Int} (h : Fe x m n E) (hk : k < n) (h0 : ∀ i, i < k → ec (x i) m = 0) (hne : ec (x k) m ≠ 0) : ec (x k) m = E := by
  rcases h with ⟨j, hj, e, hE, hb⟩ | ⟨_, hz⟩
  · have h1 : ¬ j < k := fun h => hE (by rw [← e]; exact h0 j h)
    have h2 : ¬ k < j := fun h => hne (hb k h)
    have : j = k := by omega
    subst this; exact e
  · exact absurd (hz k hk) hne
set_option maxHeartbeats 3200000 in
theorem all_law (m : Int) (v : Value) (n : Nat) (x : Nat → Int) (w : World) (bm_ : 0 ≤ m ∧ m ≤ 18446744073709551615) (hl : Wl w v n x) :
    Calls Try.prog 6 #[.int .u64 m, v] w fun e w' => e = .returned (.bool true) ∧ Below w.heap.size w w' := by
  have HW := hid hl
  obtain ⟨ao, cap, rfl, h1, h2', h3, h5⟩ := hl
  have H3 := hid h3
  have H5 := hid h5
  clear h3 h5
  by_cases h : m < 2 ∨ 9223372036854775808 ≤ m
  · have N := hid (field_no m w h)
    clear h
    go_enter Try.func6, Try.ntmps6
    go_wp2_with fail
    refine N.out.mono ?_
    rintro e w2 ⟨rfl, rfl⟩
    go_wp2_with fail
    refine (awake_any _).mono ?_
    rintro e w2 ⟨rfl, B⟩
    go_wp2
    go_ret
    exact ⟨rfl, B⟩
  · have h2 : 2 ≤ m := by omega
    have h63 : m ≤ 9223372036854775807 := by omega
    have N := hid (field_any m w h2 h63)
    clear h bm_
    by_cases hlen : 100 < n
    · have hlen' : (100 : Int) < n := by omega
      go_enter Try.func6, Try.ntmps6
      go_wp2_with fail
      refine N.out.mono ?_
      rintro e w1 ⟨rfl, B, f, s, F, O⟩
      have BB := hid B
      clear F O B N
      go_wp2_with fail
      refine (awake_any _).mono ?_
      rintro e w9 ⟨rfl, B9⟩
      have B8 := fin BB.out BB.out.size (by first | rfl | simp) (by first | rfl | simp) (by first | rfl | simp) (by first | rfl | simp) B9
      clear B9
      go_wp2
      go_ret
      exact ⟨rfl, B8⟩
    · have hlen' : ¬ (100 : Int) < n := by omega
      go_enter Try.func6, Try.ntmps6
      go_wp2_with fail
      refine N.out.mono ?_
      rintro e w1 ⟨rfl, B, f, s, F, O⟩
      have FF := hid F
      have OO := hid O
      have BB := hid B
      have HW1 := hid (HW.out.below B)
      clear F O B N
      go_wp2_with fail
      refine (invs_any _ m f s _ n x _ FF.out OO.out HW1.out (by omega)).mono ?_
      rintro e w2 ⟨B2, ⟨r, y, rfl, R, hy, hz⟩ | ⟨E, rfl, hE, hF⟩⟩
      · have BB2 := hid (BB.out.trans (B2.mono BB.out.size))
        have RR := hid R
        have HY := hid hy
        have HZ := hid hz
        have W2 := hid (HW1.out.below B2)
        clear R hy hz B2 HW HW1 H5
        obtain ⟨ao', cap', e', _, _, _, h5⟩ := W2.out
        cases e'
        have H5 := hid h5
        clear h5 W2
        go_wp2
        go_loop [9] (fun iv => ∃ k : Nat, k ≤ n ∧ iv = .int .i64 k) (fun iv => ((n : Int) - intOf iv).toNat)
        case atStart => exact ⟨0, Nat.zero_le _, rfl⟩
        case round =>
          obtain ⟨k, hk, rfl⟩ := hrel
          by_cases hkn : k = n
          · subst hkn
            go_wp2
            go_loopw [11] (fun iv wr => ∃ k' : Nat, k' ≤ k ∧ iv = .int .i64 k' ∧ Hid (∃ q, wr = w2.drewN q)) (fun iv _ => ((k : Int) - intOf iv).toNat)
            case atStart => exact ⟨0, Nat.zero_le _, rfl, 0, rfl⟩
            case round =>
              obtain ⟨i, hi, rfl, HQ⟩ := hrel
              obtain ⟨q, rfl⟩ := HQ.out
              by_cases hin : i = k
              · subst hin
                go_wp2_with fail
                refine (awake_any _).mono ?_
                rintro e w9 ⟨rfl, B9⟩
                have B8 := fin BB2.out BB2.out.size (by first | rfl | simp) (by first | rfl | simp) (by first | rfl | simp) (by first | rfl | simp) B9
                clear B9
                go_wp2
                go_ret
                exact ⟨rfl, B8⟩
              · have hik : (i : Int) < k := by omega
                obtain ⟨b, off, rfl, hbs, hc⟩ := H5.out (by omega)
                have ci := hc i (by omega)
                have ri := RR.out.cell (i := i) (by omega)
                obtain ⟨y0, ym, yi⟩ := HY.out i (by omega)
                obtain ⟨x0, x1⟩ := H3.out i (by omega)
                have hym : ¬ m ≤ y i := by omega
                have M := hid (fun w => rmul_any (x i) (y i) m w x0 y0 h2 h63)
                rw [yi] at M
                have ci' : (w2.drewN q).cell? ⟨b, off + i, none⟩ = some (.int .u64 (x i)) := by simpa using ci
                have ri' : (w2.drewN q).cell? ⟨r, i, none⟩ = some (.int .u64 (y i)) := by simpa using ri
                clear yi hc HQ ci ri
                generalize hw : w2.drewN q = w3 at *
                have HE := hid hw
                clear hw
                go_wp2_with fail
                go_quiet ((go_at_call 17; exact Calls.quiet_of (M.out _)))
                rename_i nq
                go_wp2
                exact ⟨⟨i + 1, by omega, rfl, q + nq, by rw [← HE.out]; simp⟩, by simp only [intOf]; omega⟩
          · have hkn' : (k : Int) < n := by omega
            obtain ⟨b, off, rfl, hbs, hc⟩ := H5.out (by omega)
            have ck := hc k (by omega)
            obtain ⟨x0, x1⟩ := H3.out k (by omega)
            have W := rwrong_any (x k) m w2 x0 h2 h63
            have eec : (if x k % m = 0 then 10 else if gc (x k) m = 1 then 0 else 11 : Int) = 0 := HZ.out k (by omega)
            rw [eec] at W
            have WW := hid W
            clear W eec hc
            go_wp2_with fail
            refine WW.out.mono ?_
            rintro e w3 ⟨rfl, rfl⟩
            go_wp2
            exact ⟨⟨k + 1, by omega, rfl⟩, by simp only [intOf]; omega⟩
      · have BB2 := hid (BB.out.trans (B2.mono BB.out.size))
        have HF := hid hF
        have W2 := hid (HW1.out.below B2)
        clear hF B2 HW HW1 H5
        obtain ⟨ao', cap', e', _, _, _, h5⟩ := W2.out
        cases e'
        have H5 := hid h5
        clear h5 W2
        go_wp2
        go_loop [9] (fun iv => ∃ k : Nat, k ≤ n ∧ iv = .int .i64 k ∧ Hid (∀ i, i < k → ec (x i) m = 0)) (fun iv => ((n : Int) - intOf iv).toNat)
        case atStart => exact ⟨0, Nat.zero_le _, rfl, fun i hi => absurd hi (by omega)⟩
        case round =>
          obtain ⟨k, hk, rfl, HK⟩ := hrel
          by_cases hkn : k = n
          · subst hkn
            exfalso
            rcases HF.out with ⟨j, hj, e, _, _⟩ | ⟨e, _⟩
            · exact hE (by rw [← e]; exact HK.out j hj)
            · exact hE e
          · have hkn' : (k : Int) < n := by omega
            obtain ⟨b, off, rfl, hbs, hc⟩ := H5.out (by omega)
            have ck := hc k (by omega)
            obtain ⟨x0, x1⟩ := H3.out k (by omega)
            have W := rwrong_any (x k) m w2 x0 h2 h63
            have eec : (if x k % m = 0 then 10 else if gc (x k) m = 1 then 0 else 11 : Int) = ec (x k) m := rfl
            rw [eec] at W
            have WW := hid W
            clear W eec hc
            by_cases he : ec (x k) m = 0
            · rw [he] at WW
              go_wp2_with fail
              refine WW.out.mono ?_
              rintro e w3 ⟨rfl, rfl⟩
              go_wp2
              refine ⟨⟨k + 1, by omega, rfl, fun i hi => ?_⟩, by simp only [intOf]; omega⟩
              by_cases hik : i = k
              · subst hik; exact he
              · exact HK.out i (by omega)
            · have eE := fe_at HF.out (by omega) HK.out he
              rw [eE] at WW
              have hE' : (E != 0) = true := by simp [hE]
              clear eE he HK
              go_wp2_with fail
              refine WW.out.mono ?_
              rintro e w3 ⟨rfl, rfl⟩
              go_wp2_with fail
              refine (awake_any _).mono ?_
              rintro e w9 ⟨rfl, B9⟩
              have B8 := fin BB2.out BB2.out.size (by first | rfl | simp) (by first | rfl | simp) (by first | rfl | simp) (by first | rfl | simp) B9
              clear B9
              go_wp2
              go_ret
              exact ⟨rfl, B8⟩
end Go.Proofs.Ytanlnmmeinmceaa
