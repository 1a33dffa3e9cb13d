/- The law ConvLong, walked. -/
import Derived.Test.YtocfenjampmdlabGreatDoorCe
import Derived.Test.YtocfenjampmdlabGreatDoorTm
namespace Go.Proofs.YtocfenjampmdlabGreatDoor
open Go.RowKit Num Nmb

theorem prd_first (a b : Nat → Int) (n m : Nat) : prd a b (n + 1) (m + 1) 0 = a 0 * b 0 := by
  unfold prd
  have h : sm (fun i => sm (fun l => if i + l = 0 then a i * b l else 0) (m + 1)) (n + 1) = sm (fun i => if 0 = i then a i * b 0 else 0) (n + 1) := sm_eq _ fun i _ => by
    by_cases e : 0 = i
    · subst e
      rw [if_pos rfl]
      have := sm_one (fun l => a 0 * b l) 0 (m + 1) (by omega)
      rw [← this]
      exact sm_eq _ fun l _ => by
        by_cases q : 0 = l
        · rw [if_pos q, if_pos (by omega)]
        · rw [if_neg q, if_neg (by omega)]
    · rw [if_neg e]
      refine (sm_eq (g := fun _ => 0) _ fun l _ => ?_).trans (sm_zero _)
      rw [if_neg (by omega)]
  rw [h]
  exact sm_one (fun i => a i * b 0) 0 (n + 1) (by omega)
theorem prd_last (a b : Nat → Int) (n m : Nat) : prd a b (n + 1) (m + 1) (n + m) = a n * b m := by
  unfold prd
  rw [sm_succ]
  have h1 : sm (fun i => sm (fun l => if i + l = n + m then a i * b l else 0) (m + 1)) n = 0 := by
    refine (sm_eq (g := fun _ => 0) _ fun i hi => ?_).trans (sm_zero _)
    refine (sm_eq (g := fun _ => 0) _ fun l hl => ?_).trans (sm_zero _)
    rw [if_neg (by omega)]
  rw [h1, Int.zero_add]
  have := sm_one (fun l => a n * b l) m (m + 1) (by omega)
  rw [← this]
  exact sm_eq _ fun l _ => by
    by_cases q : m = l
    · rw [if_pos q, if_pos (by omega)]
    · rw [if_neg q, if_neg (by omega)]
theorem prd_sum (x y : Int) (n m : Nat) (h : 0 < n) : sm (prd (fun _ => x) (fun _ => y) n m) (n + m - 1) = n * x * (m * y) := by
  have h1 := ev_prd (fun _ => x) (fun _ => y) (n := n) (m := m) (N := n + m - 1) (by omega) 1
  have e : ∀ (f : Nat → Int) k, ev f k 1 = sm f k := fun f k => sm_eq _ fun i _ => by rw [Int.one_pow, Int.mul_one]
  rw [e, e, e, sm_const, sm_const] at h1
  exact h1
theorem rep_wl {w : World} {base i x : Nat} {v : Value} (h : OwW w base v (List.replicate i x)) (hx : x ≤ 18446744073709551615) : Wl w v i (fun _ => x) := by
  have h1 := h.wl (fun c hc => by rw [List.eq_of_mem_replicate hc]; exact hx)
  rw [List.length_replicate] at h1
  refine h1.eq fun j hj => ?_
  rw [List.getD_eq_getElem?_getD, List.getElem?_replicate, if_pos hj]
  rfl
set_option maxHeartbeats 3200000 in
set_option maxRecDepth 100000 in
theorem clong_law (x y M : Nat) (p q : Int) (w : World) (hx : x ≤ 18446744073709551615) (hy : y ≤ 18446744073709551615) (hM : M ≤ 18446744073709551615) (L : LayB w) :
    Calls Tryz.prog 3 #[.agg #[.int .u64 x, .int .u64 y], .agg #[.int .i64 p, .int .i64 q], .int .u64 M] w fun e w' => e = .returned (.bool true) ∧ Below w.heap.size w w' := by
  have AWA : Hid (∀ w', Below w.heap.size w w' → Calls Tryz.prog 5 #[] w' fun e w'' => e = .returned (.bool true) ∧ Below w'.heap.size w' w'') := fun w' B => awake8 w' (L.below B)
  have LL := hid L
  obtain ⟨i0, hi0, hz0, hz1, hz2⟩ := info_parts Tryz.infoWord
  clear L
  obtain ⟨wA, hwA⟩ : ∃ wA, wA = (w.alloc (.cells #[.int .u64 x, .int .u64 y] 23 (0, 0))).alloc (.cells #[.int .i64 p, .int .i64 q] 24 (0, 0)) := ⟨_, rfl⟩
  have b1 : Below w.heap.size w (w.alloc (.cells #[.int .u64 x, .int .u64 y] 23 (0, 0))) := (Below.refl _ _).alloc (Nat.le_refl _) _
  have BA : Hid (Below w.heap.size w wA) := by
    show Below _ _ _
    rw [hwA]
    exact b1.alloc b1.size _
  have hc1 : wA.heap[w.heap.size]? = some (.cells #[.int .u64 x, .int .u64 y] 23 (0, 0)) := by
    rw [hwA]
    have := heap_alloc_new w (.cells #[.int .u64 x, .int .u64 y] 23 (0, 0))
    have b2 : Below (w.alloc (.cells #[.int .u64 x, .int .u64 y] 23 (0, 0))).heap.size (w.alloc (.cells #[.int .u64 x, .int .u64 y] 23 (0, 0))) ((w.alloc (.cells #[.int .u64 x, .int .u64 y] 23 (0, 0))).alloc (.cells #[.int .i64 p, .int .i64 q] 24 (0, 0))) := (Below.refl _ _).alloc (Nat.le_refl _) _
    rw [b2.block _ (by simp)]
    exact this
  have hc2 : wA.heap[w.heap.size + 1]? = some (.cells #[.int .i64 p, .int .i64 q] 24 (0, 0)) := by
    rw [hwA]
    have := heap_alloc_new (w.alloc (.cells #[.int .u64 x, .int .u64 y] 23 (0, 0))) (.cells #[.int .i64 p, .int .i64 q] 24 (0, 0))
    simpa using this
  have sz : wA.heap.size = w.heap.size + 2 := by rw [hwA]; simp
  have HC1 := hid hc1
  have HC2 := hid hc2
  have cx : ∀ W, Below wA.heap.size wA W → W.cell? ⟨w.heap.size, 0, none⟩ = some (.int .u64 x) ∧ W.cell? ⟨w.heap.size, 1, none⟩ = some (.int .u64 y) ∧ W.cell? ⟨w.heap.size + 1, 0, none⟩ = some (.int .i64 p) ∧ W.cell? ⟨w.heap.size + 1, 1, none⟩ = some (.int .i64 q) := fun W B => by
    have e1 := B.block w.heap.size (by omega)
    have e2 := B.block (w.heap.size + 1) (by omega)
    rw [HC1.out] at e1
    rw [HC2.out] at e2
    refine ⟨?_, ?_, ?_, ?_⟩ <;> (simp only [World.cell?, e1, e2]; rfl)
  have CX := hid cx
  clear b1 hc1 hc2 cx
  by_cases good : (1 ≤ p ∧ p ≤ 3000) ∧ (1 ≤ q ∧ q ≤ 3000) ∧ 2 ≤ M ∧ M ≤ 9223372036854775807
  · obtain ⟨⟨p1, p2⟩, ⟨q1, q2⟩, M2, M63⟩ := good
    obtain ⟨n, rfl⟩ : ∃ n : Nat, p = n := ⟨p.toNat, by omega⟩
    obtain ⟨m, rfl⟩ : ∃ m : Nat, q = m := ⟨q.toNat, by omega⟩
    have M2' : ¬ (M : Int) < 2 := by omega
    have M3' : ¬ (9223372036854775808 : Int) ≤ (M : Int) := by omega
    have HWA := hid hwA
    obtain ⟨k1, k2, k3, k4⟩ := CX.out wA (Below.refl _ _)
    rw [hwA] at k1 k2 k3 k4
    clear hwA
    go_enter Tryz.func3, Tryz.ntmps3
    go_wp2
    rw [← HWA.out]
    clear k1 k2 k3 k4 HWA HC1 HC2
    go_loopw [7, 9] (fun av iv wr => ∃ (i : Nat), iv = .int .i64 i ∧ i ≤ n ∧ Hid (OwW wr wA.heap.size av (List.replicate i x)) ∧ Hid (Below wA.heap.size wA wr) ∧ wA.heap.size ≤ wr.heap.size) (fun _ iv _ => ((n : Int) - intOf iv).toNat)
    case atStart => exact ⟨0, rfl, Nat.zero_le _, World.ownsRow_nil _ _ _ _, Below.refl _ _, Nat.le_refl _⟩
    case round =>
      obtain ⟨i, rfl, hi, OW, BW, hsz⟩ := hrel
      obtain ⟨k1, k2, k3, k4⟩ := CX.out wr BW.out
      obtain ⟨ow, cw, hv⟩ := OW.out.slice
      rw [List.length_replicate] at hv
      subst hv
      by_cases hin : i = n
      · have hin' : ¬ (i : Int) < (n : Int) := by omega
        subst hin
        have A1 := hid (rep_wl OW.out hx)
        clear OW
        go_wp2
        clear k1 k2 k3 k4
        generalize wr = wB at *
        go_loopw [8, 10] (fun av iv ws => ∃ (t : Nat), iv = .int .i64 t ∧ t ≤ m ∧ Hid (OwW ws wB.heap.size av (List.replicate t y)) ∧ Hid (Below wB.heap.size wB ws) ∧ wB.heap.size ≤ ws.heap.size) (fun _ iv _ => ((m : Int) - intOf iv).toNat)
        case atStart => exact ⟨0, rfl, Nat.zero_le _, World.ownsRow_nil _ _ _ _, Below.refl _ _, Nat.le_refl _⟩
        case round =>
          obtain ⟨t, rfl, ht, OW, BV, hsz2⟩ := hrel
          have BAv := hid (BW.out.trans (BV.out.mono hsz))
          obtain ⟨k1, k2, k3, k4⟩ := CX.out wr BAv.out
          obtain ⟨ov, cv, hv⟩ := OW.out.slice
          rw [List.length_replicate] at hv
          subst hv
          by_cases htm : t = m
          · have htm' : ¬ (t : Int) < (m : Int) := by omega
            subst htm
            have A2 := hid (rep_wl OW.out hy)
            have A1' := hid (A1.out.below BV.out)
            have BBv := hid (BA.out.trans (BAv.out.mono BA.out.size))
            have CV := hid (conv_yes _ _ i t _ _ M wr (LL.out.below BBv.out) A1'.out A2.out M2 M63 (by omega) (by omega) (by omega))
            clear OW BV A1 A2 A1'
            obtain ⟨N, hN⟩ : ∃ N, N = i + t - 1 := ⟨_, rfl⟩
            have HN := hid hN
            rw [← hN] at CV
            clear hN
            have nI : (i : Int) + (t : Int) - 1 = (N : Int) := by have := HN.out; omega
            have N1 : 1 ≤ N := by have := HN.out; omega
            have N6 : N ≤ 6000 := by have := HN.out; omega
            go_wp2_with fail
            refine CV.out.mono ?_
            rintro e5 w5 ⟨⟨lo, lc, rfl, W5⟩, B5⟩
            have HW5 := hid W5
            have BA5 := hid (BAv.out.trans (B5.mono BAv.out.size))
            have BB5 := hid (BBv.out.trans (B5.mono BBv.out.size))
            obtain ⟨j1, j2, j3, j4⟩ := CX.out w5 BA5.out
            have RM := hid (fun W => rmul_any (x : Int) (y : Int) (M : Int) W (by omega) (by omega) (by omega) (by omega))
            clear W5 B5 CV k1 k2 k3 k4 BBv BAv
            go_wp2_with fail
            refine (RM.out w5).mono ?_
            rintro e6 w6 ⟨rfl, q6, hw6⟩
            have RG : Hid (∀ a b : Int, 0 ≤ a ∧ 0 ≤ b → ∀ W, Calls Tryz.prog 7 #[.int .u64 a, .int .u64 b, .int .u64 M] W fun e w' => e = .returned (.int .u64 (a * b % M)) ∧ ∃ k, w' = W.drewN k) := fun a b h W => rmul_any a b M W h.1 h.2 (by omega) (by omega)
            have RA : Hid (∀ a b : Int, 0 ≤ a ∧ 0 ≤ b → ∀ W, Calls Tryz.prog 8 #[.int .u64 a, .int .u64 b, .int .u64 M] W fun e w' => e = .returned (.int .u64 ((a + b) % M)) ∧ ∃ k, w' = W.drewN k) := fun a b h W => radd_any a b M W h.1 h.2 (by omega) (by omega)
            have H6 : Hid (∃ c, w6 = w5.drewN c) := ⟨q6, hw6⟩
            have F0 : Hid (prd (fun _ => (x : Int)) (fun _ => (y : Int)) i t 0 = x * y ∧ prd (fun _ => (x : Int)) (fun _ => (y : Int)) i t (N - 1) = x * y) := by
              obtain ⟨i', rfl⟩ : ∃ i', i = i' + 1 := ⟨i - 1, by omega⟩
              obtain ⟨t', rfl⟩ : ∃ t', t = t' + 1 := ⟨t - 1, by omega⟩
              have e : N - 1 = i' + t' := by have := HN.out; omega
              rw [e]
              exact ⟨prd_first _ _ _ _, prd_last _ _ _ _⟩
            have F1 : Hid (sm (prd (fun _ => (x : Int)) (fun _ => (y : Int)) i t) N = i * x * (t * y)) := by
              have := prd_sum (x : Int) (y : Int) i t (by omega)
              rw [← HN.out] at this
              exact this
            have FV : Hid (∀ j, 0 ≤ prd (fun _ => (x : Int)) (fun _ => (y : Int)) i t j % (M : Int)) := fun j => Int.emod_nonneg _ (by omega)
            clear RM hw6
            go_wp2
            go_loopw [15, 14] (fun jv sv ws => ∃ (j : Nat) (z : Int), jv = .int .i64 j ∧ sv = .int .u64 z ∧ j ≤ N ∧ 0 ≤ z ∧ Hid (z = sm (prd (fun _ => (x : Int)) (fun _ => (y : Int)) i t) j % M) ∧ Hid (∃ c, ws = w5.drewN c)) (fun jv _ _ => ((N : Int) - intOf jv).toNat)
            case atStart => exact ⟨0, 0, rfl, rfl, Nat.zero_le _, by omega, (Int.zero_emod _).symm, H6.out⟩
            case round =>
              obtain ⟨j, z, rfl, rfl, hj, hz, HZ, HS⟩ := hrel
              have bs : Below w5.heap.size w5 wr := by
                obtain ⟨c, hc⟩ := HS.out
                rw [hc]
                exact below_drewN (Below.refl _ _) c
              have W6 := hid (HW5.out.below bs)
              have BA6 := hid (BA5.out.trans (bs.mono BA5.out.size))
              have BB6 := hid (BB5.out.trans (bs.mono BB5.out.size))
              by_cases hjn : j = N
              · have hjn' : ¬ (j : Int) < (N : Int) := by omega
                subst hjn
                obtain ⟨k1, k2, k3, k4⟩ := CX.out wr BA6.out
                have x1 : 0 ≤ (x : Int) * (i : Int) % (M : Int) := Int.emod_nonneg _ (by omega)
                have x2 : 0 ≤ (y : Int) * (t : Int) % (M : Int) := Int.emod_nonneg _ (by omega)
                have u1 : IntKind.u64.wrap (i : Int) = (i : Int) := by rw [IntKind.wrap_u64]; omega
                have u2 : IntKind.u64.wrap (t : Int) = (t : Int) := by rw [IntKind.wrap_u64]; omega
                have ZE : Hid (z = (x : Int) * (i : Int) % (M : Int) * ((y : Int) * (t : Int) % (M : Int)) % (M : Int)) := by
                  show _ = _
                  rw [HZ.out, F1.out, ← Int.mul_emod, Int.mul_comm (i : Int), Int.mul_comm (t : Int)]
                have xn : 0 ≤ (x : Int) ∧ 0 ≤ (i : Int) := by omega
                have yn : 0 ≤ (y : Int) ∧ 0 ≤ (t : Int) := by omega
                have zn : 0 ≤ (x : Int) * (i : Int) % (M : Int) ∧ 0 ≤ (y : Int) * (t : Int) % (M : Int) := ⟨x1, x2⟩
                clear HZ HS bs F1 RA H6 BB5 HW5 x1 x2
                go_wp2_with fail
                go_quiet ((go_at_call 7; exact Calls.quiet_of (RG.out _ _ (by assumption) _)))
                rename_i nq
                have W7 := hid (W6.out.drew nq)
                have BB7 := hid (below_drewN BB6.out nq)
                obtain ⟨lb, lf, hlo, -, cl0⟩ := W7.out.cell (j := 0) (by omega)
                subst hlo
                obtain ⟨lb', lf', hlo', -, cl1⟩ := W7.out.cell (j := j - 1) (by omega)
                injection hlo' with hlo'
                injection hlo' with h1 h2
                subst h1 h2
                rw [F0.out.1, Nat.add_zero] at cl0
                rw [F0.out.2] at cl1
                have jm : (j : Int) - 1 = ((j - 1 : Nat) : Int) := by omega
                have jw : IntKind.i64.wrap ((j - 1 : Nat) : Int) = ((j - 1 : Nat) : Int) := by rw [IntKind.wrap_i64]; omega
                have jl : ((j - 1 : Nat) : Int) < (j : Int) := by omega
                have ze := ZE.out
                rw [← ze]
                clear W6 W7 BB6 ze ZE F0 k1 k2 k3 k4 RG FV
                generalize wr.drewN nq = w8 at *
                generalize j - 1 = j1 at *
                go_wp2_with fail
                refine (AWA.out _ BB7.out).mono ?_
                rintro e w9 ⟨rfl, B9⟩
                have BB9 := hid (BB7.out.trans (B9.mono BB7.out.size))
                clear B9
                go_wp2
                go_ret
                exact ⟨rfl, BB9.out⟩
              · have hjn' : (j : Int) < (N : Int) := by omega
                obtain ⟨lb, lf, hlo, -, clj⟩ := W6.out.cell (j := j) (by omega)
                subst hlo
                have fv := FV.out j
                have NX : Hid ((z + prd (fun _ => (x : Int)) (fun _ => (y : Int)) i t j % (M : Int)) % M = sm (prd (fun _ => (x : Int)) (fun _ => (y : Int)) i t) (j + 1) % M) := by
                  show _ = _
                  rw [HZ.out, sm_succ, ← Int.add_emod]
                have HS2 : Hid (∀ q, ∃ c, wr.drewN q = w5.drewN c) := fun q => by
                  obtain ⟨c, hc⟩ := HS.out
                  exact ⟨c + q, by rw [hc]; simp [World.drewN, Nat.add_assoc]⟩
                have RA1 := hid (RA.out z (prd (fun _ => (x : Int)) (fun _ => (y : Int)) i t j % (M : Int)) ⟨hz, fv⟩ wr)
                have z2 : 0 ≤ (z + prd (fun _ => (x : Int)) (fun _ => (y : Int)) i t j % (M : Int)) % M := Int.emod_nonneg _ (by omega)
                clear HZ HS bs W6 BA6 BB6 F0 F1 RG H6
                generalize prd (fun _ => (x : Int)) (fun _ => (y : Int)) i t j % (M : Int) = lj at *
                generalize (z + lj) % (M : Int) = zz at *
                go_wp2_with fail
                refine RA1.out.mono ?_
                rintro e7 w7 ⟨rfl, q7, rfl⟩
                have H7 := hid (HS2.out q7)
                clear RA1 HS2 clj
                generalize wr.drewN q7 = w8 at *
                go_wp2
                exact ⟨⟨j + 1, zz, rfl, rfl, by omega, z2, NX.out, H7.out⟩, by simp only [intOf]; omega⟩
          · have htm' : (t : Int) < (m : Int) := by omega
            go_wp2_with (at_builtin; refine wpList_append_own _ rfl (.tmp 61) (.tmp 64) 26 rfl wB.heap.size 22 i0 (.int .u64 0) 1 8 Tryz.underlying26 hi0 hz0 hz1 hz2 rfl (by decide) _ t (wordCells (List.replicate t y)) rfl (by have := OW.out.alloc (.cells #[.int .u64 y] 22 (0, 0)); rw [List.length_replicate] at this; exact this) ⟨wr.heap.size, 0, none⟩ 1 1 [.int .u64 (y : Int)] rfl rfl (cell_one_new _ _ _) (by intro u hu; simp at hu; subst hu; rfl) (by unfold maxLen; omega) (by omega) (by simp; omega) ?_; intro v' w3 own3 grow3 iff3; clear iff3; obtain ⟨ao3, cap3, hv, O3, B3, hp3⟩ := pushedW (w := wB) (w2 := wr) (L := List.replicate t y) (c := y) OW.out BV.out hsz2 (by rw [List.length_replicate]; exact own3) grow3; clear own3 grow3; rw [List.length_replicate] at hv; subst hv)
            have O4 : Hid (OwW w3 wB.heap.size (.slice ao3 (t + 1) cap3) (List.replicate (t + 1) y)) := by
              have := O3.out
              rw [List.length_replicate, ← List.replicate_succ'] at this
              exact this
            exact ⟨⟨t + 1, rfl, by omega, O4.out, B3.out, hp3⟩, by simp only [intOf]; omega⟩
      · have hin' : (i : Int) < (n : Int) := by omega
        go_wp2_with (at_builtin; refine wpList_append_own _ rfl (.tmp 50) (.tmp 53) 26 rfl wA.heap.size 22 i0 (.int .u64 0) 1 8 Tryz.underlying26 hi0 hz0 hz1 hz2 rfl (by decide) _ i (wordCells (List.replicate i x)) rfl (by have := OW.out.alloc (.cells #[.int .u64 x] 22 (0, 0)); rw [List.length_replicate] at this; exact this) ⟨wr.heap.size, 0, none⟩ 1 1 [.int .u64 (x : Int)] rfl rfl (cell_one_new _ _ _) (by intro u hu; simp at hu; subst hu; rfl) (by unfold maxLen; omega) (by omega) (by simp; omega) ?_; intro v' w3 own3 grow3 iff3; clear iff3; obtain ⟨ao3, cap3, hv, O3, B3, hp3⟩ := pushedW (w := wA) (w2 := wr) (L := List.replicate i x) (c := x) OW.out BW.out hsz (by rw [List.length_replicate]; exact own3) grow3; clear own3 grow3; rw [List.length_replicate] at hv; subst hv)
        have O4 : Hid (OwW w3 wA.heap.size (.slice ao3 (i + 1) cap3) (List.replicate (i + 1) x)) := by
          have := O3.out
          rw [List.length_replicate, ← List.replicate_succ'] at this
          exact this
        exact ⟨⟨i + 1, rfl, by omega, O4.out, B3.out, hp3⟩, by simp only [intOf]; omega⟩
  · go_enter Tryz.func3, Tryz.ntmps3
    go_wp2_with fail
    all_goals
      first
        | (exfalso; omega)
        | skip
    all_goals
      rw [← hwA]
      clear hwA good
      refine (AWA.out _ BA.out).mono ?_
      rintro e w9 ⟨rfl, B9⟩
      have BB9 := hid (BA.out.trans (B9.mono BA.out.size))
      clear B9
      go_wp2
      go_ret
      exact ⟨rfl, BB9.out⟩
end Go.Proofs.YtocfenjampmdlabGreatDoor
