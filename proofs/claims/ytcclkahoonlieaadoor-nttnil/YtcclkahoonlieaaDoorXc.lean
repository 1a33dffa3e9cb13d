/- Tables of ntt: what New, K, P, Root, many and lengthError answer. -/
import Derived.Test.YtcclkahoonlieaaDoorXf
import Derived.Test.YtcclkahoonlieaaDoorVp
import Derived.Test.YtcclkahoonlieaaDoorPo
namespace Go.Proofs.YtcclkahoonlieaaDoor
open Go.RowKit Num Nmb

/-- block g holds the fields of a table. -/
def TabC (w : World) (g gf gm k r h : Nat) : Prop := w.heap[g]? = some (.cells #[.pointer (some ⟨gf, 0, none⟩), .int .i64 k, .int .u64 r, .slice (some ⟨gm, 0, none⟩) h h] 59 (0, 0))
theorem TabC.lt {w : World} {g gf gm k r h : Nat} (t : TabC w g gf gm k r h) : g < w.heap.size := (Array.getElem?_eq_some_iff.1 t).1
theorem TabC.cell0 {w : World} {g gf gm k r h : Nat} (t : TabC w g gf gm k r h) : w.cell? ⟨g, 0, none⟩ = some (.pointer (some ⟨gf, 0, none⟩)) := by unfold TabC at t; simp only [World.cell?, t]; rfl
theorem TabC.cell1 {w : World} {g gf gm k r h : Nat} (t : TabC w g gf gm k r h) : w.cell? ⟨g, 1, none⟩ = some (.int .i64 k) := by unfold TabC at t; simp only [World.cell?, t]; rfl
theorem TabC.cell2 {w : World} {g gf gm k r h : Nat} (t : TabC w g gf gm k r h) : w.cell? ⟨g, 2, none⟩ = some (.int .u64 r) := by unfold TabC at t; simp only [World.cell?, t]; rfl
theorem TabC.cell3 {w : World} {g gf gm k r h : Nat} (t : TabC w g gf gm k r h) : w.cell? ⟨g, 3, none⟩ = some (.slice (some ⟨gm, 0, none⟩) h h) := by unfold TabC at t; simp only [World.cell?, t]; rfl
/-- block g holds a table, with its field and its forms. -/
structure TabF (w : World) (g gf gm p k r h : Nat) (f s : Int) : Prop where
  tc : TabC w g gf gm k r h
  fld : Fld w gf p f s
  row : Row w gm h (fmv p r)
theorem TabF.keep {w w' : World} {g gf gm p k r h : Nat} {f s : Int} (T : TabF w g gf gm p k r h f s) (e1 : w'.heap[g]? = w.heap[g]?) (e2 : w'.heap[gf]? = w.heap[gf]?) (e3 : w'.heap[gm]? = w.heap[gm]?) : TabF w' g gf gm p k r h f s := by
  obtain ⟨h1, h2, cur, h3, h4⟩ := T
  exact ⟨by unfold TabC; rw [e1]; exact h1, by unfold Fld; rw [e2]; exact h2, cur, by rw [e3]; exact h3, h4⟩
theorem TabF.lt {w : World} {g gf gm p k r h : Nat} {f s : Int} (T : TabF w g gf gm p k r h f s) : g < w.heap.size ∧ gf < w.heap.size ∧ gm < w.heap.size := ⟨T.tc.lt, T.fld.lt, T.row.lt⟩
theorem TabF.below {B : Nat} {w w' : World} {g gf gm p k r h : Nat} {f s : Int} (T : TabF w g gf gm p k r h f s) (hb : Below B w w') (hB : g < B ∧ gf < B ∧ gm < B) : TabF w' g gf gm p k r h f s :=
  T.keep (hb.block _ hB.1) (hb.block _ hB.2.1) (hb.block _ hB.2.2)
theorem TabF.only {b : Nat} {w w' : World} {g gf gm p k r h : Nat} {f s : Int} (T : TabF w g gf gm p k r h f s) (o : OnlyB b w w') (hB : g ≠ b ∧ gf ≠ b ∧ gm ≠ b) : TabF w' g gf gm p k r h f s :=
  T.keep (o.block _ hB.1) (o.block _ hB.2.1) (o.block _ hB.2.2)
theorem TabF.heap {w w' : World} {g gf gm p k r h : Nat} {f s : Int} (T : TabF w g gf gm p k r h f s) (e : w'.heap = w.heap) : TabF w' g gf gm p k r h f s :=
  T.keep (by rw [e]) (by rw [e]) (by rw [e])
theorem TabF.drew {w : World} {g gf gm p k r h : Nat} {f s : Int} (T : TabF w g gf gm p k r h f s) (n : Nat) : TabF (w.drewN n) g gf gm p k r h f s := T.heap (by simp)
def Tab (w : World) (g p k r : Nat) : Prop := TabOk p k r ∧ ∃ gf gm h f s, TabF w g gf gm p k r h f s ∧ h = 2 ^ k / 2 ∧ Ok p f s
theorem Tab.ok {w : World} {g p k r : Nat} (h : Tab w g p k r) : TabOk p k r := h.1
theorem Tab.below {w w' : World} {g p k r : Nat} (h : Tab w g p k r) (hb : Below w.heap.size w w') : Tab w' g p k r := by
  obtain ⟨h0, gf, gm, h, f, s, h1, h2, h3⟩ := h
  exact ⟨h0, gf, gm, h, f, s, h1.below hb h1.lt, h2, h3⟩
theorem Tab.heap {w w' : World} {g p k r : Nat} (h : Tab w g p k r) (e : w'.heap = w.heap) : Tab w' g p k r := by
  obtain ⟨h0, gf, gm, h, f, s, h1, h2, h3⟩ := h
  exact ⟨h0, gf, gm, h, f, s, h1.heap e, h2, h3⟩
theorem TabOk.odd {p k r : Nat} (T : TabOk p k r) (hk : 0 < k) : (p : Int) % 2 = 1 := by
  have h1 : p % 2 ≠ 0 := fun h => by
    rcases T.pri.2 2 (Nat.dvd_of_mod_eq_zero h) with h' | h'
    · omega
    · have := T.ktw
      rw [← h', tw2] at this
      omega
  omega
set_option maxHeartbeats 1600000 in
theorem nnew_limit (p : Nat) (k : Int) (w : World) (hk : 20 < k) :
    Calls Tryd.prog 10 #[.int .u64 p, .int .i64 k] w fun e w' => e = .returned (.tuple #[.pointer none, .int .i64 13]) ∧ Below w.heap.size w w' := by
  go_enter Tryd.func10, Tryd.ntmps10
  go_wp2
  go_ret2
  exact ⟨rfl, Below.refl _ _⟩
set_option maxHeartbeats 1600000 in
theorem nnew_prime (p : Nat) (k : Int) (w : World) (hn : p ≤ 18446744073709551615) (hk : k ≤ 20) (hb : isB p = false) (L : Lay w) :
    Calls Tryd.prog 10 #[.int .u64 p, .int .i64 k] w fun e w' => e = .returned (.tuple #[.pointer none, .int .i64 14]) ∧ Below w.heap.size w w' := by
  have R := hid (root_no p k w hn hb L)
  have hk' : ¬ (20 : Int) < k := by omega
  clear hb L
  go_enter Tryd.func10, Tryd.ntmps10
  go_wp2_with fail
  refine R.out.mono ?_
  rintro e w1 ⟨rfl, c, rfl⟩
  have BB := hid (below_drewN (Below.refl w.heap.size w) c)
  go_wp2
  go_ret2
  exact ⟨rfl, BB.out⟩
set_option maxHeartbeats 1600000 in
theorem nnew_arg (p : Nat) (k : Int) (w : World) (hp : Pri p) (h63 : p < 9223372036854775808) (hk : k ≤ 20) (ha : k < 0 ∨ (tw p : Int) < k) (L : Lay w) :
    Calls Tryd.prog 10 #[.int .u64 p, .int .i64 k] w fun e w' => e = .returned (.tuple #[.pointer none, .int .i64 1]) ∧ Below w.heap.size w w' := by
  have R := hid (root_arg p k w (isB_of_pri hp (by omega)) h63 ha L)
  have hk' : ¬ (20 : Int) < k := by omega
  clear hp ha L
  go_enter Tryd.func10, Tryd.ntmps10
  go_wp2_with fail
  refine R.out.mono ?_
  rintro e w1 ⟨rfl, B⟩
  have BB := hid B
  clear B
  go_wp2
  go_ret2
  exact ⟨rfl, BB.out⟩
set_option maxHeartbeats 3200000 in
theorem nnew_yes (p k : Nat) (w : World) (hp : Pri p) (h63 : p < 9223372036854775808) (hk : k ≤ 20) (ha : k ≤ tw p) (L : Lay w) :
    Calls Tryd.prog 10 #[.int .u64 p, .int .i64 k] w fun e w' => (∃ g r, e = .returned (.tuple #[.pointer (some ⟨g, 0, none⟩), .int .i64 0]) ∧ Tab w' g p k r) ∧ Below w.heap.size w w' := by
  have R := hid (root_any p k w hp h63 ha L)
  have hk' : ¬ (20 : Int) < (k : Int) := by omega
  have HP := hid hp
  have HA := hid ha
  have p2 := hp.1
  have NW : Hid (∀ w : World, Calls Tryd.prog 28 #[.int .u64 p] w fun e w' => e = .returned (.tuple #[.pointer (some ⟨w.heap.size, 0, none⟩), .int .i64 0]) ∧ Below w.heap.size w w' ∧ ∃ f s, Fld w' w.heap.size p f s ∧ Ok p f s) := fun w => new_any p w (by omega) (by omega)
  have e2 : (2 : Int) ^ k = ((2 ^ k : Nat) : Int) := (Int.natCast_pow 2 k).symm
  have l20 : 2 ^ k ≤ 2 ^ 20 := Nat.pow_le_pow_right (by decide) hk
  have N0 : Hid (0 < 2 ^ k / 2 → 0 < k) := fun h => by
    apply Nat.pos_of_ne_zero
    intro e
    rw [e] at h
    simp at h
  obtain ⟨N, hN⟩ : ∃ N, N = 2 ^ k := ⟨_, rfl⟩
  rw [← hN] at e2 l20 N0
  have HN := hid hN
  have dq : Int.tdiv (N : Int) 2 = ((N / 2 : Nat) : Int) := by rw [Int.tdiv_eq_ediv_of_nonneg (by omega)]; omega
  have lh : N / 2 ≤ 1048576 := by omega
  obtain ⟨M, hM⟩ : ∃ M, M = N / 2 := ⟨_, rfl⟩
  rw [← hM] at dq lh N0
  have HM := hid hM
  clear hp ha L hN hM
  go_enter Tryd.func10, Tryd.ntmps10
  go_wp2_with fail
  refine R.out.mono ?_
  rintro e w1 ⟨⟨y, rfl, Y⟩, B1⟩
  have BB1 := hid B1
  have YY := hid Y
  clear B1 Y R
  go_wp2_with fail
  refine (NW.out _).mono ?_
  rintro e w2 ⟨rfl, B2, f, s, F, O⟩
  have BB2 := hid (BB1.out.trans (B2.mono BB1.out.size))
  have TO : TabOk p k y := ⟨HP.out, h63, hk, HA.out, YY.out.2⟩
  have FR := hid (forms_any w1.heap.size p y M f s w2 F O lh (fun h => TO.odd (N0.out h)))
  have TT := hid TO
  have FF := hid F
  have OO := hid O
  clear B2 F O BB1 NW TO
  generalize w1.heap.size = gf at *
  go_wp2_with fail
  refine FR.out.mono ?_
  rintro e w3 ⟨X, B3⟩
  obtain ⟨gm, rfl, R3, l3⟩ := X
  have BB3 := hid (BB2.out.trans (B3.mono BB2.out.size))
  have FF3 := hid (FF.out.below B3 FF.out.lt)
  have RR3 := hid R3
  clear B3 R3 l3 FR FF BB2
  go_wp2
  go_ret2
  have A3 : Below w3.heap.size w3 (w3.alloc (.cells #[.pointer (some ⟨gf, 0, none⟩), .int .i64 k, .int .u64 y, .slice (some ⟨gm, 0, none⟩) M M] 59 (0, 0))) := (Below.refl _ _).alloc (Nat.le_refl _) _
  refine ⟨⟨_, y, rfl, TT.out, gf, gm, M, f, s, ⟨heap_alloc_new w3 _, FF3.out.below A3 FF3.out.lt, RR3.out.below A3 RR3.out.lt⟩, by rw [HM.out, HN.out], OO.out⟩, BB3.out.alloc BB3.out.size _⟩
set_option maxHeartbeats 800000 in
theorem nk_any (g p k r : Nat) (w : World) (T : Tab w g p k r) : Calls Tryd.prog 12 #[.pointer (some ⟨g, 0, none⟩)] w fun e w' => e = .returned (.int .i64 k) ∧ w' = w := by
  obtain ⟨_, gf, gm, h, f, s, h1, _, _⟩ := T
  have c := h1.tc.cell1
  clear h1
  go_enter Tryd.func12, Tryd.ntmps12
  go_wp2
  go_ret
  exact ⟨rfl, rfl⟩
set_option maxHeartbeats 800000 in
theorem nroot_any (g p k r : Nat) (w : World) (T : Tab w g p k r) : Calls Tryd.prog 14 #[.pointer (some ⟨g, 0, none⟩)] w fun e w' => e = .returned (.int .u64 r) ∧ w' = w := by
  obtain ⟨_, gf, gm, h, f, s, h1, _, _⟩ := T
  have c := h1.tc.cell2
  clear h1
  go_enter Tryd.func14, Tryd.ntmps14
  go_wp2
  go_ret
  exact ⟨rfl, rfl⟩
set_option maxHeartbeats 800000 in
theorem m_any (g : Nat) (m f s : Int) (w : World) (h : Fld w g m f s) : Calls Tryd.prog 33 #[.pointer (some ⟨g, 0, none⟩)] w fun e w' => e = .returned (.int .u64 m) ∧ w' = w := by
  have c := h.cell0
  clear h
  go_enter Tryd.func33, Tryd.ntmps33
  go_wp2
  go_ret
  exact ⟨rfl, rfl⟩
set_option maxHeartbeats 800000 in
theorem np_any (g p k r : Nat) (w : World) (T : Tab w g p k r) : Calls Tryd.prog 13 #[.pointer (some ⟨g, 0, none⟩)] w fun e w' => e = .returned (.int .u64 p) ∧ w' = w := by
  obtain ⟨_, gf, gm, h, f, s, h1, _, _⟩ := T
  have c := h1.tc.cell0
  have M := hid (m_any gf p f s w h1.fld)
  clear h1
  go_enter Tryd.func13, Tryd.ntmps13
  go_wp2_with fail
  refine M.out.mono ?_
  rintro e w1 ⟨rfl, hw⟩
  obtain rfl := hw.symm
  go_wp2
  go_ret
  exact ⟨rfl, by first | trivial | rfl⟩
set_option maxHeartbeats 800000 in
theorem many_any (g p k r : Nat) (w : World) (T : Tab w g p k r) : Calls Tryd.prog 38 #[.pointer (some ⟨g, 0, none⟩)] w fun e w' => e = .returned (.int .i64 ((2 ^ k : Nat) : Int)) ∧ w' = w := by
  have k20 := T.ok.k20
  obtain ⟨_, gf, gm, h, f, s, h1, _, _⟩ := T
  have c := h1.tc.cell1
  have e2 : (2 : Int) ^ k = ((2 ^ k : Nat) : Int) := (Int.natCast_pow 2 k).symm
  have l20 : 2 ^ k ≤ 2 ^ 20 := Nat.pow_le_pow_right (by decide) k20
  clear h1
  obtain ⟨N, hN⟩ : ∃ N, N = 2 ^ k := ⟨_, rfl⟩
  rw [← hN] at e2 l20 ⊢
  clear hN
  go_enter Tryd.func38, Tryd.ntmps38
  go_wp2
  go_ret
  exact ⟨rfl, rfl⟩
set_option maxHeartbeats 800000 in
theorem lens_nil (v : Value) (w : World) : Calls Tryd.prog 34 #[.pointer none, v] w fun e w' => e = .returned (.int .i64 2) ∧ w' = w := by
  go_enter Tryd.func34, Tryd.ntmps34
  go_wp2
  go_ret
  exact ⟨rfl, rfl⟩
set_option maxHeartbeats 1600000 in
theorem lens_any (g p k r : Nat) (w : World) (T : Tab w g p k r) (gl m : Nat) (A : Nat → Option Addr) (Ln C : Nat → Nat) (hm : m ≤ 100) (hc : ∀ j, j < m → w.cell? ⟨gl, j, none⟩ = some (.slice (A j) (Ln j) (C j))) (E : Int)
    (hE : (∀ j, j < m → Ln j = 2 ^ k) ∧ E = 0 ∨ (∃ j, j < m ∧ Ln j ≠ 2 ^ k) ∧ E = 1) :
    Calls Tryd.prog 34 #[.pointer (some ⟨g, 0, none⟩), .slice (some ⟨gl, 0, none⟩) m m] w fun e w' => e = .returned (.int .i64 E) ∧ w' = w := by
  have MA := hid (many_any g p k r w T)
  have HC := hid hc
  have HE := hid hE
  have l20 : 2 ^ k ≤ 2 ^ 20 := Nat.pow_le_pow_right (by decide) T.ok.k20
  clear T hc hE
  obtain ⟨N, hN⟩ : ∃ N, N = 2 ^ k := ⟨_, rfl⟩
  rw [← hN] at MA HE l20
  clear hN
  go_enter Tryd.func34, Tryd.ntmps34
  go_wp2
  go_loopw [11] (fun iv wr => ∃ (i : Nat), iv = .int .i64 i ∧ i ≤ m ∧ Hid (∀ j, j < i → Ln j = N) ∧ wr = w) (fun iv _ => ((m : Int) - intOf iv).toNat)
  case atStart => exact ⟨0, rfl, Nat.zero_le _, fun j hj => absurd hj (by omega), rfl⟩
  case round =>
    obtain ⟨i, rfl, hi, S, hw⟩ := hrel
    obtain rfl := hw.symm
    by_cases him : i = m
    · have him' : ¬ (i : Int) < (m : Int) := by omega
      have e0 : E = 0 := by
        rcases HE.out with h | ⟨⟨j, hj, hn⟩, _⟩
        · exact h.2
        · exact absurd (S.out j (by omega)) hn
      obtain rfl := him
      subst e0
      clear S HC HE
      go_wp2
      go_ret
      exact ⟨rfl, by first | trivial | rfl⟩
    · have him' : (i : Int) < (m : Int) := by omega
      have c := HC.out i (by omega)
      by_cases hl : Ln i = N
      · have S' : Hid (∀ j, j < i + 1 → Ln j = N) := fun j hj => by
          by_cases e : j = i
          · rw [e]; exact hl
          · exact S.out j (by omega)
        rw [hl] at c
        clear S HC hl
        go_wp2_with fail
        refine MA.out.mono ?_
        rintro e w2 ⟨rfl, hw⟩
        obtain rfl := hw.symm
        go_wp2
        exact ⟨⟨i + 1, rfl, by omega, S', by first | trivial | rfl⟩, by simp only [intOf]; omega⟩
      · have e1 : E = 1 := by
          rcases HE.out with h | h
          · exact absurd (h.1 i (by omega)) hl
          · exact h.2
        subst e1
        have hl' : ((Ln i : Int) != (N : Int)) = true := bne_iff_ne.2 (by omega)
        generalize Ln i = q at *
        clear S HC HE hl
        go_wp2_with fail
        refine MA.out.mono ?_
        rintro e w2 ⟨rfl, hw⟩
        obtain rfl := hw.symm
        go_wp2
        go_ret
        exact ⟨rfl, by first | trivial | rfl⟩
end Go.Proofs.YtcclkahoonlieaaDoor
