/- The product over the integers, as numbers of three words, in the landed conv. -/
import Derived.Test.YtocfenjampmdlabGreatDoorDi
namespace Go.Proofs.YtocfenjampmdlabGreatDoor
open Go.RowKit Num Nmb

theorem Wl.spot {w : World} {a : Option Addr} {n c : Nat} {x : Nat → Int} (h : Wl w (.slice a n c) n x) (hn : 0 < n) : ∃ b off, a = some ⟨b, off, none⟩ ∧ b < w.heap.size ∧ ∀ j, j < n → w.cell? ⟨b, off + j, none⟩ = some (.int .u64 (x j)) := by
  obtain ⟨ao, cap, e, h1, h2, h3, h5⟩ := h
  injection e with e1 e2 e3
  subst e1
  exact h5 hn
/-- one number more is laid. -/
theorem pw_step {w : World} {g M i : Nat} {t : TypeId} {A : Nat → Int} (h : Rv w g t (M * 3) (pw A i)) : Rv (((w.setCell ⟨g, i * 3, none⟩ (.int .u64 (dgt (A i) 0))).setCell ⟨g, i * 3 + 1, none⟩ (.int .u64 (dgt (A i) 1))).setCell ⟨g, i * 3 + 2, none⟩ (.int .u64 (dgt (A i) 2))) g t (M * 3) (pw A (i + 1)) := by
  refine (((h.set (D := fun c => if c = i * 3 then .int .u64 (dgt (A i) 0) else pw A i c) (i * 3) _ (fun _ _ => rfl)).set (D := fun c => if c = i * 3 + 1 then .int .u64 (dgt (A i) 1) else if c = i * 3 then .int .u64 (dgt (A i) 0) else pw A i c) (i * 3 + 1) _ (fun _ _ => rfl)).set (i * 3 + 2) _ fun c hc => ?_)
  unfold pw
  by_cases e2 : c = i * 3 + 2
  · rw [if_pos e2, if_pos (by omega), show c / 3 = i by omega, show c % 3 = 2 by omega]
  · rw [if_neg e2]
    by_cases e1 : c = i * 3 + 1
    · rw [if_pos e1, if_pos (by omega), show c / 3 = i by omega, show c % 3 = 1 by omega]
    · rw [if_neg e1]
      by_cases e0 : c = i * 3
      · rw [if_pos e0, if_pos (by omega), show c / 3 = i by omega, show c % 3 = 0 by omega]
      · rw [if_neg e0]
        by_cases e : c / 3 < i
        · rw [if_pos e, if_pos (by omega)]
        · rw [if_neg e, if_neg (by omega)]
set_option maxHeartbeats 3200000 in
theorem product_any (u v : Value) (n m : Nat) (a b : Nat → Int) (w : World) (L : LayB w) (U : Wl w u n a) (V : Wl w v m b) (hn : 0 < n) (hm : 0 < m) (h : n + m ≤ 1048576) :
    Calls Tryz.prog 15 #[u, v] w fun e w' => (∃ gs, e = .returned (.slice (some ⟨gs, 0, none⟩) (n + m - 1 : Nat) (n + m - 1 : Nat)) ∧ Rv w' gs 48 ((n + m - 1) * 3) (pw (prd a b n m) (n + m - 1))) ∧ Below w.heap.size w w' := by
  obtain ⟨M, hM⟩ : ∃ M, M = n + m - 1 := ⟨_, rfl⟩
  obtain ⟨k, hk⟩ : ∃ k, k = Lib.bitLen (M - 1) := ⟨_, rfl⟩
  have Mk : M ≤ 2 ^ k := by
    have := (bl_said 64 (M - 1) (by omega) (by omega)).1
    rw [← hk] at this
    omega
  have AB := hid (prd_bd (fun j hj => U.val hj) (fun j hj => V.val hj) (show n ≤ 1048576 by omega) (show m ≤ 1048576 by omega))
  have MU : Hid (∀ W g p r, Below w.heap.size w W → Pln W g p k r → Calls Tryz.prog 21 #[.pointer (some ⟨g, 0, none⟩), u, v] W fun e w' => (∃ ao cap, e = .returned (.tuple #[.slice ao M cap, .int .i64 0]) ∧ Wl w' (.slice ao M cap) M (fun j => prd a b n m j % p)) ∧ Below W.heap.size W w') := fun W g p r B P => by
    rw [hM]
    exact tmul_any g p k r u v n m a b W P (U.below B) (V.below B) hn hm (by rw [← hM]; exact Mk)
  have M0 : 0 < M := by omega
  have M20 : M ≤ 1048576 := by omega
  have Ba := below_new' w (.cells #[.slice none 0 0, .slice none 0 0, .slice none 0 0] 53)
  have BA := hid Ba
  have PF := hid (plansFor_any M k _ (L.below Ba) M0 M20 hk)
  have LB : Hid (∀ W, Below w.heap.size w W → LayB W) := fun W B => L.below B
  have LZ := hid (fun ao cp => lz_new w 53 ao cp M)
  have IX : Hid (∀ (G : Nat → Nat) (i : Nat), i < 3 → ∀ W : World, (Instr.index 55 (.agg #[.pointer (some ⟨G 0, 0, none⟩), .pointer (some ⟨G 1, 0, none⟩), .pointer (some ⟨G 2, 0, none⟩)]) (.int .i64 (i : Int))).run Tryz.prog W = .ok (.pointer (some ⟨G i, 0, none⟩)) W) := fun G i hi W => index_q3 G hi W
  obtain ⟨ua, ucap, rfl, -⟩ := U
  obtain ⟨va, vcap, rfl, -⟩ := V
  have n0' : ((n : Int) == 0) = false := beq_eq_false_iff_ne.2 (by omega)
  have m0' : ((m : Int) == 0) = false := beq_eq_false_iff_ne.2 (by omega)
  have w1 : IntKind.i64.wrap ((n : Int) + (m : Int)) = (n : Int) + (m : Int) := by rw [IntKind.wrap_i64]; omega
  have w2 : (n : Int) + (m : Int) - 1 = (M : Int) := by omega
  have w3 : IntKind.i64.wrap (M : Int) = (M : Int) := by rw [IntKind.wrap_i64]; omega
  rw [← hM]
  generalize prd a b n m = A at *
  clear Ba L hk Mk hM h
  go_enter Tryz.func15, Tryz.ntmps15
  go_wp2_with fail
  refine PF.out.mono ?_
  rintro e w2 ⟨⟨G, rfl, PG⟩, B2⟩
  have BB2 := hid (BA.out.trans (B2.mono BA.out.size))
  have HG := hid PG
  have RL := hid (fun ao cp => (LZ.out ao cp).below B2 (LZ.out ao cp).lt)
  clear PF LZ BA B2 PG
  go_wp2
  go_loopw [28] (fun iv wr => ∃ (i : Nat) (ao : Nat → Option Addr) (cp : Nat → Nat), iv = .int .i64 i ∧ i ≤ 3 ∧ Hid (Rv wr w.heap.size 53 3 (lc ao cp M i)) ∧ Hid (∀ t, t < i → Wl wr (.slice (ao t) M (cp t)) M (fun j => lv (A j) t)) ∧ Hid (∀ t, t < 3 → ∃ r, Pln wr (G t) (prm t) k r) ∧ Hid (Below w.heap.size w wr)) (fun iv _ => (3 - intOf iv).toNat)
  case atStart => exact ⟨0, fun _ => none, fun _ => 0, rfl, by omega, RL.out _ _, fun t ht => absurd ht (by omega), HG.out, BB2.out⟩
  case round =>
    clear RL HG BB2
    obtain ⟨i, ao, cp, rfl, hi, RL, HW, HG, HB⟩ := hrel
    by_cases i3 : i = 3
    · subst i3
      clear MU IX HG
      have NJ := hid (newJoiner_any wr (LB.out wr HB.out).pri)
      go_wp2_with fail
      refine NJ.out.mono ?_
      rintro e w4 ⟨⟨F, I, rfl, J4, I4⟩, B4⟩
      clear NJ
      have Q5 : Hid (∀ W5, W5 = w4.alloc (.cells (jv F I).toArray 62) → Rv W5 w4.heap.size 62 12 (jc F 3 I) ∧ JF W5 3 F ∧ Rv W5 w.heap.size 53 3 (lc ao cp M 3) ∧ (∀ t, t < 3 → Wl W5 (.slice (ao t) M (cp t)) M (fun j => lv (A j) t)) ∧ LayB W5 ∧ Below w.heap.size w W5 ∧ W5.heap.size = w4.heap.size + 1) := by
        intro W5 hW5
        have b1 : Below w4.heap.size w4 W5 := by rw [hW5]; exact below_new' w4 _
        have b2 := B4.trans (b1.mono B4.size)
        have b3 := HB.out.trans (b2.mono HB.out.size)
        refine ⟨?_, J4.below b1, RL.out.below b2 RL.out.lt, fun t ht => (HW.out t ht).below b2, LB.out W5 b3, b3, by rw [hW5]; simp⟩
        rw [hW5]
        exact Rv.new w4 _ _ _ _ rfl fun j hj => by
          rw [← jv_at F I j hj]
          have : j < (jv F I).length := hj
          simp [List.getD, this]
      have g0 := RL.out.lt
      have g4 : w.heap.size < w4.heap.size := Nat.lt_of_lt_of_le g0 B4.size
      have HI := hid I4
      clear RL HW HB B4 J4 LB I4
      go_wp2_with (at_make; refine wp_makeW _ rfl _ _ rfl _ _ M rfl rfl (by omega) (by omega) (by omega) ?_; intro w6 R6 C6 Z6; have HR := hid R6; have HC := hid C6; clear R6 C6 Z6)
      obtain ⟨a1, a2, a3, a4, a5, a6, z5⟩ := Q5.out _ rfl
      have RJ := hid a1
      have HJ := hid a2
      have RL := hid a3
      have HW := hid a4
      have LY := hid a5
      have B5 := hid a6
      have z5' : (w4.alloc (.cells #[.pointer (some ⟨F 0, 0, none⟩), .pointer (some ⟨F 1, 0, none⟩), .pointer (some ⟨F 2, 0, none⟩), .int .u64 (I 0), .int .u64 (I 1), .int .u64 (I 2), .int .u64 (I 3), .int .u64 (I 4), .int .u64 (I 5), .int .u64 (I 6), .int .u64 (I 7), .int .u64 (I 8)] 62)).heap.size = w4.heap.size + 1 := z5
      rw [z5'] at HR HC
      have Z5 := hid z5'
      clear a1 a2 a3 a4 a5 a6 z5 z5' Q5
      unfold jv at *
      generalize w4.alloc (.cells #[.pointer (some ⟨F 0, 0, none⟩), .pointer (some ⟨F 1, 0, none⟩), .pointer (some ⟨F 2, 0, none⟩), .int .u64 (I 0), .int .u64 (I 1), .int .u64 (I 2), .int .u64 (I 3), .int .u64 (I 4), .int .u64 (I 5), .int .u64 (I 6), .int .u64 (I 7), .int .u64 (I 8)] 62) = w5 at *
      go_loopw [47] (fun iv wr => ∃ (i : Nat), iv = .int .i64 i ∧ i ≤ M ∧ Hid (Rv wr (w4.heap.size + 1) 48 (M * 3) (pw A i)) ∧ Hid (Below (w4.heap.size + 1) w5 wr)) (fun iv _ => ((M : Int) - intOf iv).toNat)
      case atStart => exact ⟨0, rfl, Nat.zero_le _, HR.out A, HC.out⟩
      case round =>
        clear HR HC
        obtain ⟨i, rfl, hi, HR, HC⟩ := hrel
        by_cases him : i = M
        · have him' : ¬ (i : Int) < (M : Int) := by omega
          subst him
          have BF := hid (B5.out.trans (HC.out.mono (by omega)))
          clear RJ HJ RL HW LY B5 HC HI AB Z5
          go_wp2
          go_ret
          exact ⟨⟨_, rfl, HR.out⟩, BF.out⟩
        · have him' : (i : Int) < (M : Int) := by omega
          have hi' : i < M := by omega
          have z5 := Z5.out
          have gl : w4.heap.size + 1 < wr.heap.size := HR.out.lt
          have BX : Hid (∀ x : Beh wr, Below (w4.heap.size + 1) w5 x.1) := fun x => HC.out.trans (x.2.mono (Nat.le_of_lt gl))
          obtain ⟨b0, o0, e0, lb0, cc0⟩ := (HW.out 0 (by omega)).spot M0
          obtain ⟨b1, o1, e1, lb1, cc1⟩ := (HW.out 1 (by omega)).spot M0
          obtain ⟨b2, o2, e2, lb2, cc2⟩ := (HW.out 2 (by omega)).spot M0
          have l0 : ∀ x : Beh wr, x.1.cell? ⟨w.heap.size, 0, none⟩ = some (.slice (some ⟨b0, o0, none⟩) M (cp 0)) := fun x => by
            rw [← e0]; exact (RL.out.below (BX.out x) (by omega)).cell (i := 0) (by omega)
          have l1 : ∀ x : Beh wr, x.1.cell? ⟨w.heap.size, 1, none⟩ = some (.slice (some ⟨b1, o1, none⟩) M (cp 1)) := fun x => by
            rw [← e1]; exact (RL.out.below (BX.out x) (by omega)).cell (i := 1) (by omega)
          have l2 : ∀ x : Beh wr, x.1.cell? ⟨w.heap.size, 2, none⟩ = some (.slice (some ⟨b2, o2, none⟩) M (cp 2)) := fun x => by
            rw [← e2]; exact (RL.out.below (BX.out x) (by omega)).cell (i := 2) (by omega)
          have v0 : ∀ x : Beh wr, x.1.cell? ⟨b0, o0 + i, none⟩ = some (.int .u64 (lv (A i) 0)) := fun x => by
            rw [(BX.out x).cell (p := ⟨b0, o0 + i, none⟩) (by show b0 < _; omega)]; exact cc0 i hi'
          have v1 : ∀ x : Beh wr, x.1.cell? ⟨b1, o1 + i, none⟩ = some (.int .u64 (lv (A i) 1)) := fun x => by
            rw [(BX.out x).cell (p := ⟨b1, o1 + i, none⟩) (by show b1 < _; omega)]; exact cc1 i hi'
          have v2 : ∀ x : Beh wr, x.1.cell? ⟨b2, o2 + i, none⟩ = some (.int .u64 (lv (A i) 2)) := fun x => by
            rw [(BX.out x).cell (p := ⟨b2, o2 + i, none⟩) (by show b2 < _; omega)]; exact cc2 i hi'
          have ab := AB.out i
          have gn : hh (gou (lv (A i)) 3) 3 = A i := garner ab.1 ab.2 (fun _ _ => rfl)
          have NU : Hid (∀ x : Beh wr, Calls Tryz.prog 23 #[.pointer (some ⟨w4.heap.size, 0, none⟩), .agg #[.int .u64 (lv (A i) 0), .int .u64 (lv (A i) 1), .int .u64 (lv (A i) 2)]] x.1 fun e w' => e = .returned (.agg #[.int .u64 (dgt (A i) 0), .int .u64 (dgt (A i) 1), .int .u64 (dgt (A i) 2)]) ∧ Below x.1.heap.size x.1 w') := fun x => by
            have := number_any w4.heap.size F I (lv (A i)) x.1 (LY.out.pri.below (BX.out x) (by have := LY.out.pri.lt; omega)) (RJ.out.below (BX.out x) (by omega)) (HJ.out.below (by rw [z5]; exact BX.out x)) HI.out (fun k hk => Int.emod_nonneg _ (by have := prm_bd hk; omega)) (gou_in (fun _ _ => rfl))
            rw [gn] at this
            exact this
          have f0 : ∀ x : Beh wr, x.1.frozen? ⟨w4.heap.size + 1, i * 3, none⟩ = false := fun x => (HR.out.below x.2 gl).frozen _
          have f1 : ∀ x : Beh wr, x.1.frozen? ⟨w4.heap.size + 1, i * 3 + 1, none⟩ = false := fun x => (HR.out.below x.2 gl).frozen _
          have f2 : ∀ x : Beh wr, x.1.frozen? ⟨w4.heap.size + 1, i * 3 + 2, none⟩ = false := fun x => (HR.out.below x.2 gl).frozen _
          have t0 : ∀ x : Beh wr, x.1.cell? ⟨w4.heap.size + 1, i * 3, none⟩ = some (pw A i (i * 3)) := fun x => (HR.out.below x.2 gl).cell (by omega)
          have t1 : ∀ x : Beh wr, x.1.cell? ⟨w4.heap.size + 1, i * 3 + 1, none⟩ = some (pw A i (i * 3 + 1)) := fun x => (HR.out.below x.2 gl).cell (by omega)
          have t2 : ∀ x : Beh wr, x.1.cell? ⟨w4.heap.size + 1, i * 3 + 2, none⟩ = some (pw A i (i * 3 + 2)) := fun x => (HR.out.below x.2 gl).cell (by omega)
          have NX : Hid (∀ (x : Beh wr) W, W = ((x.1.setCell ⟨w4.heap.size + 1, i * 3, none⟩ (.int .u64 (dgt (A i) 0))).setCell ⟨w4.heap.size + 1, i * 3 + 1, none⟩ (.int .u64 (dgt (A i) 1))).setCell ⟨w4.heap.size + 1, i * 3 + 2, none⟩ (.int .u64 (dgt (A i) 2)) → Rv W (w4.heap.size + 1) 48 (M * 3) (pw A (i + 1)) ∧ Below (w4.heap.size + 1) w5 W) := by
            intro x W hW
            rw [hW]
            exact ⟨pw_step (HR.out.below x.2 gl), below_set (below_set (below_set (BX.out x) (Nat.le_refl _) _ _) (Nat.le_refl _) _ _) (Nat.le_refl _) _ _⟩
          clear RJ HJ RL HW LY B5 HC HI AB Z5 z5 e0 e1 e2 lb0 lb1 lb2 cc0 cc1 cc2 BX gn ab HR
          generalize lv (A i) = X at *
          generalize dgt (A i) = Y at *
          generalize hgj : w4.heap.size = gj at *
          clear hgj
          have nb := Beh.some wr
          go_wp2_with fail
          refine wp_region_last_beh (by kernel_rfl) (by kernel_rfl) (by kernel_rfl) (by kernel_rfl) (by decide) ?_
          simp only [stillLast, still, lastOf]
          repeat (go_big_quiet_step ((go_at_call 23; rename_i x; exact Calls.beh_of (NU.out _))))
          refine wpQuiet_nil ?_
          intro _ hw'
          obtain ⟨x9, rfl⟩ := hw'
          have N6 := hid (NX.out x9 _ rfl)
          have p0 := f0 x9
          have p1 := f1 x9
          have p2 := f2 x9
          have r0 := t0 x9
          have r1 := t1 x9
          have r2 := t2 x9
          clear l0 l1 l2 v0 v1 v2 f0 f1 f2 t0 t1 t2 NX NU
          generalize x9.1 = w9 at *
          go_wp2
          exact ⟨⟨i + 1, rfl, by omega, N6.out.1, N6.out.2⟩, by simp only [intOf]; omega⟩
    · have hi' : i < 3 := by omega
      have hil : (i : Int) < 3 := by omega
      have ix := IX.out G i hi'
      obtain ⟨r, P⟩ := HG.out i hi'
      have MW := hid (MU.out wr (G i) (prm i) r HB.out P)
      have K : Hid (∀ w2 bo cap, Below wr.heap.size wr w2 → Wl w2 (.slice bo M cap) M (fun j => lv (A j) i) → ∃ ao' cp', Rv (w2.setCell ⟨w.heap.size, i, none⟩ (.slice bo M cap)) w.heap.size 53 3 (lc ao' cp' M (i + 1)) ∧ (∀ t, t < i + 1 → Wl (w2.setCell ⟨w.heap.size, i, none⟩ (.slice bo M cap)) (.slice (ao' t) M (cp' t)) M (fun j => lv (A j) t)) ∧ (∀ t, t < 3 → ∃ r, Pln (w2.setCell ⟨w.heap.size, i, none⟩ (.slice bo M cap)) (G t) (prm t) k r) ∧ Below w.heap.size w (w2.setCell ⟨w.heap.size, i, none⟩ (.slice bo M cap)) ∧ w2.frozen? ⟨w.heap.size, i, none⟩ = false ∧ ∃ v, w2.cell? ⟨w.heap.size, i, none⟩ = some v) := by
        intro w2 bo cap B2 W2
        have r2 := RL.out.below B2 RL.out.lt
        refine ⟨fun t => if t = i then bo else ao t, fun t => if t = i then cap else cp t, r2.set i _ (fun j hj => ?_), fun t ht => ?_, fun t ht => ?_, below_set (HB.out.trans (B2.mono HB.out.size)) (Nat.le_refl _) _ _, r2.frozen i, _, r2.cell (by omega)⟩
        · unfold lc
          dsimp only
          by_cases e : j = i
          · rw [if_pos e, if_pos e, if_pos e, if_pos (by omega)]
          · rw [if_neg e, if_neg e, if_neg e]
            by_cases e3 : j < i
            · rw [if_pos (by omega), if_pos e3]
            · rw [if_neg (by omega), if_neg e3]
        · dsimp only
          by_cases e : t = i
          · subst e
            rw [if_pos rfl, if_pos rfl]
            exact W2.setv r2 (fun j _ z => lc_no _ _ _ _ _ z) _ _
          · rw [if_neg e, if_neg e]
            exact ((HW.out t (by omega)).below B2).setv r2 (fun j _ z => lc_no _ _ _ _ _ z) _ _
        · obtain ⟨r', p⟩ := HG.out t ht
          exact ⟨r', (p.below B2).set r2 (by decide) (by decide) (by decide) _ _⟩
      clear RL HW HG HB MU LB IX P AB
      go_wp2_with fail
      refine MW.out.mono ?_
      rintro e w2 ⟨⟨bo, cap, rfl, W2⟩, B2⟩
      obtain ⟨ao', cp', r3, k3, p3, b3, fz, vv, cz⟩ := K.out w2 bo cap B2 W2
      have R3 := hid r3
      have K3 := hid k3
      have P3 := hid p3
      have B3 := hid b3
      clear r3 k3 p3 b3 K MW B2 W2
      go_wp2
      exact ⟨⟨i + 1, ao', cp', rfl, by omega, R3, K3, P3, B3⟩, by simp only [intOf]; omega⟩
end Go.Proofs.YtocfenjampmdlabGreatDoor
