/- The law PrimeScans, walked. -/
import Derived.Test.YteeldlaidohjiaaDoorLsc
namespace Go.Proofs.YteeldlaidohjiaaDoor
open Go.RowKit Num Nmb

set_option maxHeartbeats 1600000 in
set_option maxRecDepth 100000 in
theorem scans_bad1 (k many : Int) (below : Nat) (w : World) (hb : below ≤ 30000) (h : k < 1 ∨ 40 < k ∨ many < 1 ∨ 64 < many ∨ 9223372036854775808 < below) (L : Lay w) :
    Calls Tryd.prog 8 #[.int .i64 k, .int .i64 many, .int .u64 below] w fun e w' => e = .returned (.bool true) ∧ Below w.heap.size w w' := by
  have S := hid (scan_bad k many below w h)
  have AW := hid (awake_any w L)
  have c1 : decide ((30000 : Int) < (below : Int)) = false := by simp; omega
  clear L
  by_cases h1 : k < 1
  · clear h hb
    go_enter Tryd.func8, Tryd.ntmps8
    go_wp2_with fail
    refine S.out.mono ?_
    rintro e w2 ⟨rfl, rfl⟩
    go_wp2_with fail
    refine AW.out.mono ?_
    rintro e w2 ⟨rfl, B⟩
    go_wp2
    go_ret
    exact ⟨rfl, B⟩
  by_cases h2 : 40 < k
  · clear h hb
    go_enter Tryd.func8, Tryd.ntmps8
    go_wp2_with fail
    refine S.out.mono ?_
    rintro e w2 ⟨rfl, rfl⟩
    go_wp2_with fail
    refine AW.out.mono ?_
    rintro e w2 ⟨rfl, B⟩
    go_wp2
    go_ret
    exact ⟨rfl, B⟩
  by_cases h3 : many < 1
  · clear h hb
    go_enter Tryd.func8, Tryd.ntmps8
    go_wp2_with fail
    refine S.out.mono ?_
    rintro e w2 ⟨rfl, rfl⟩
    go_wp2_with fail
    refine AW.out.mono ?_
    rintro e w2 ⟨rfl, B⟩
    go_wp2
    go_ret
    exact ⟨rfl, B⟩
  by_cases h4 : 64 < many
  · clear h hb
    go_enter Tryd.func8, Tryd.ntmps8
    go_wp2_with fail
    refine S.out.mono ?_
    rintro e w2 ⟨rfl, rfl⟩
    go_wp2_with fail
    refine AW.out.mono ?_
    rintro e w2 ⟨rfl, B⟩
    go_wp2
    go_ret
    exact ⟨rfl, B⟩
  exact absurd h (by omega)
set_option maxHeartbeats 1600000 in
set_option maxRecDepth 100000 in
theorem scans_bad2 (k many : Int) (below : Nat) (w : World) (hb : 9223372036854775808 < below) (h : k < 1 ∨ 40 < k ∨ many < 1 ∨ 64 < many ∨ 9223372036854775808 < below) (L : Lay w) :
    Calls Tryd.prog 8 #[.int .i64 k, .int .i64 many, .int .u64 below] w fun e w' => e = .returned (.bool true) ∧ Below w.heap.size w w' := by
  have S := hid (scan_bad k many below w h)
  have AW := hid (awake_any w L)
  have c1 : decide ((30000 : Int) < (below : Int)) = true := by simp; omega
  have c2 : decide ((below : Int) ≤ 9223372036854775808) = false := by simp; omega
  have c5 : decide ((9223372036854775808 : Int) < (below : Int)) = true := by simp; omega
  clear L
  by_cases h1 : k < 1
  · clear h hb
    go_enter Tryd.func8, Tryd.ntmps8
    go_wp2_with fail
    refine S.out.mono ?_
    rintro e w2 ⟨rfl, rfl⟩
    go_wp2_with fail
    refine AW.out.mono ?_
    rintro e w2 ⟨rfl, B⟩
    go_wp2
    go_ret
    exact ⟨rfl, B⟩
  by_cases h2 : 40 < k
  · clear h hb
    go_enter Tryd.func8, Tryd.ntmps8
    go_wp2_with fail
    refine S.out.mono ?_
    rintro e w2 ⟨rfl, rfl⟩
    go_wp2_with fail
    refine AW.out.mono ?_
    rintro e w2 ⟨rfl, B⟩
    go_wp2
    go_ret
    exact ⟨rfl, B⟩
  by_cases h3 : many < 1
  · clear h hb
    go_enter Tryd.func8, Tryd.ntmps8
    go_wp2_with fail
    refine S.out.mono ?_
    rintro e w2 ⟨rfl, rfl⟩
    go_wp2_with fail
    refine AW.out.mono ?_
    rintro e w2 ⟨rfl, B⟩
    go_wp2
    go_ret
    exact ⟨rfl, B⟩
  by_cases h4 : 64 < many
  · clear h hb
    go_enter Tryd.func8, Tryd.ntmps8
    go_wp2_with fail
    refine S.out.mono ?_
    rintro e w2 ⟨rfl, rfl⟩
    go_wp2_with fail
    refine AW.out.mono ?_
    rintro e w2 ⟨rfl, B⟩
    go_wp2
    go_ret
    exact ⟨rfl, B⟩
  clear h hb
  go_enter Tryd.func8, Tryd.ntmps8
  go_wp2_with fail
  refine S.out.mono ?_
  rintro e w2 ⟨rfl, rfl⟩
  go_wp2_with fail
  refine AW.out.mono ?_
  rintro e w2 ⟨rfl, B⟩
  go_wp2
  go_ret
  exact ⟨rfl, B⟩
set_option maxHeartbeats 1600000 in
set_option maxRecDepth 100000 in
theorem scans_good (k many below u : Nat) (w : World) (hk : 1 ≤ k ∧ k ≤ 40) (hm : 1 ≤ many ∧ many ≤ 64) (hb : below ≤ 30000) (hu : 2 ^ k = u) (L : Lay w) :
    Calls Tryd.prog 8 #[.int .i64 k, .int .i64 many, .int .u64 below] w fun e w' => e = .returned (.bool true) ∧ Below w.heap.size w w' := by
  have S := hid (scan_all k many below u w hk hm (by omega) hu L)
  have R := hid (fun w L => rscan_any k many below u w hk hm hb hu L)
  have LL := hid L
  have c1 : decide ((30000 : Int) < (below : Int)) = false := by simp; omega
  have h1 : decide ((k : Int) < 1) = false := by simp; omega
  have h2 : decide (40 < (k : Int)) = false := by simp; omega
  have h3 : decide ((many : Int) < 1) = false := by simp; omega
  have h4 : decide (64 < (many : Int)) = false := by simp; omega
  have c5 : decide ((9223372036854775808 : Int) < (below : Int)) = false := by simp; omega
  have m1 := hm.1
  have m2 := hm.2
  clear L hk hm hb hu
  generalize gath u ((below - 2) / u) = G at *
  go_enter Tryd.func8, Tryd.ntmps8
  go_wp2_with fail
  refine S.out.mono ?_
  rintro e w1 ⟨⟨v, er, rfl, hs⟩, B⟩
  have HS := hid hs
  have L1 := hid (LL.out.below B LL.out.size)
  have B1 := hid B
  clear hs B S
  go_wp2_with fail
  refine (R.out _ L1.out).mono ?_
  rintro e w2 ⟨⟨v2, rfl, ho⟩, B⟩
  have HO := hid ho
  have L2 := hid (L1.out.below B L1.out.size)
  have BB := hid (B1.out.trans (B.mono B1.out.size))
  have B2 := hid B
  clear ho B R
  have AW := hid (fun c => awake_any _ (L2.out.drew c))
  obtain ⟨ao, cap, hv2⟩ := HO.out.slice
  have fin2 : Hid (∀ c w', Below (w2.drewN c).heap.size (w2.drewN c) w' → Below w.heap.size w w') := fun c w' b => BB.out.trans ((Below.of_drew b).mono BB.out.size)
  rcases HS.out with ⟨he, ho, hl⟩ | ⟨he, hv, hl⟩
  · have hlen : (G.take many).length = many := by rw [List.length_take]; omega
    obtain ⟨g, cap1, hv, hcap1, hg, hg2, hc⟩ := ho.cells (by omega)
    obtain ⟨g', cap2, hv', hcap2, hg', hg2', hc'⟩ := HO.out.cells (by omega)
    rw [hlen] at hv hv' hcap1 hcap2
    subst hv he
    rw [hv'] at hv2 HO
    clear hv2
    subst hv'
    have C1 : Hid (∀ c i, i < many → (w2.drewN c).cell? ⟨g, i, none⟩ = some (.int .u64 ((G.take many).getD i 0 : Nat))) := fun c i hi => by
      have h := hc i (by omega)
      have e : (G.take many).getD i 0 = (G.take many)[i]'(by omega) := by rw [List.getD_eq_getElem?_getD, List.getElem?_eq_getElem (by omega)]; rfl
      rw [e, ← h, ← B2.out.cell (p := ⟨g, i, none⟩) hg2]
      simp [World.cell?]
    have C2 : Hid (∀ c i, i < many → (w2.drewN c).cell? ⟨g', i, none⟩ = some (.int .u64 ((G.take many).getD i 0 : Nat))) := fun c i hi => by
      have h := hc' i (by omega)
      have e : (G.take many).getD i 0 = (G.take many)[i]'(by omega) := by rw [List.getD_eq_getElem?_getD, List.getElem?_eq_getElem (by omega)]; rfl
      rw [e, ← h]
      simp [World.cell?]
    clear hc hc' ho hl hlen HS HO B1 B2 L1 LL BB
    generalize G.take many = X at *
    go_wp2
    go_loopw [10] (fun iv wr => ∃ i c : Nat, iv = .int .i64 i ∧ i ≤ many ∧ wr = w2.drewN c) (fun iv _ => (many - intOf iv).toNat)
    case atStart => exact ⟨0, 0, rfl, by omega, rfl⟩
    case round =>
      obtain ⟨i, c, rfl, hi, rfl⟩ := hrel
      by_cases hd : i = many
      · have hd' : ¬ (i : Int) < (many : Int) := by omega
        have A0 := hid (AW.out c)
        have F9 := hid (fin2.out c)
        clear AW fin2 C1 C2
        go_wp2_with fail
        refine A0.out.mono ?_
        rintro e w3 ⟨rfl, B⟩
        have B9 := hid (F9.out _ B)
        clear B
        go_wp2
        go_ret
        exact ⟨rfl, B9.out⟩
      · have hd' : (i : Int) < (many : Int) := by omega
        have i0 : (0 : Int) ≤ (i : Int) := by omega
        have i64 : (i : Int) < 64 := by omega
        have a1 := C1.out c i (by omega)
        have a2 := C2.out c i (by omega)
        have b1 : w2.cell? ⟨g, i, none⟩ = _ := C1.out 0 i (by omega)
        have b2 : w2.cell? ⟨g', i, none⟩ = _ := C2.out 0 i (by omega)
        clear a1 a2
        generalize X.getD i 0 = x at *
        go_wp2
        go_region
        go_wp2
        exact ⟨⟨i + 1, c + 1, rfl, by omega, rfl⟩, by simp only [intOf]; omega⟩
  · subst he hv
    have hl2 : (G.take many).length < many := by rw [List.length_take]; omega
    have hl3 : (((G.take many).length : Nat) : Int) < (many : Int) := by omega
    rw [hv2]
    have A0 := hid (AW.out 0)
    clear HS HO hl hl2 hv2
    generalize (G.take many).length = n at *
    go_wp2_with fail
    refine A0.out.mono ?_
    rintro e w3 ⟨rfl, B⟩
    have B9 := hid (fin2.out 0 _ B)
    clear B
    go_wp2
    go_ret
    exact ⟨rfl, B9.out⟩
end Go.Proofs.YteeldlaidohjiaaDoor
