/- The law TftApart. -/
import Derived.Test.YtbecdlibckbbcabDoorTg
import Derived.Maps.OwnOps
import Derived.Maps.Views
namespace Go.Proofs.YtbecdlibckbbcabDoor
open Go.RowKit Num Nmb Go.Maps

theorem lawU : Keyed Tryd.prog 28 := int_keyed Tryd.underlying28
theorem zeroI (w : World) : (zeroValue 3).run Tryd.prog w = .ok (.int .i64 0) w := by kernel_rfl
/-- block g holds two numbers. -/
def Bx (w : World) (g : Nat) (a b : Int) : Prop := w.heap[g]? = some (.cells #[.int .i64 a, .int .i64 b] 23 (0, 0))
theorem Bx.lt {w : World} {g : Nat} {a b : Int} (h : Bx w g a b) : g < w.heap.size := (Array.getElem?_eq_some_iff.1 h).1
theorem Bx.cell0 {w : World} {g : Nat} {a b : Int} (h : Bx w g a b) : w.cell? ⟨g, 0, none⟩ = some (.int .i64 a) := by unfold Bx at h; simp only [World.cell?, h]; rfl
theorem Bx.cell1 {w : World} {g : Nat} {a b : Int} (h : Bx w g a b) : w.cell? ⟨g, 1, none⟩ = some (.int .i64 b) := by unfold Bx at h; simp only [World.cell?, h]; rfl
theorem Bx.below {B : Nat} {w w' : World} {g : Nat} {a b : Int} (h : Bx w g a b) (hb : Below B w w') (hg : g < B) : Bx w' g a b := by unfold Bx; rw [hb.block g hg]; exact h
/-- of keys that were not seen the map has 0. -/
def Uns (D : DataW Unit) (y : Nat → Nat) (i : Nat) : Prop := ∀ x : Nat, (∀ j, j < i → x ≠ y j) → D.atKey (.int .u64 x) (.lit (.int .i64 0)) = .lit (.int .i64 0)
theorem Uns.put {D : DataW Unit} {y : Nat → Nat} {i : Nat} (h : Uns D y i) (d : DataW Unit) : Uns (D.put (.int .u64 (y i)) d) y (i + 1) := fun x hx => by
  have hne : (Lit.int .u64 (x : Int)) ≠ .int .u64 (y i : Int) := fun e => by
    have : (x : Int) = (y i : Int) := by injection e
    exact hx i (by omega) (by omega)
  rw [atKey_put_other hne]
  exact h x fun j hj => hx j (by omega)
theorem ownsMap_below {w w' : World} {B b n : Nat} {D : DataW Unit} (h : w.ownsMap Tryd.prog 28 (plainElem Tryd.prog 3) b n D) (hb : Below B w w') (hB : b < B) : w'.ownsMap Tryd.prog 28 (plainElem Tryd.prog 3) b n D := by
  obtain ⟨es, clock, h1, h2, h3, h4⟩ := h
  exact ⟨es, clock, by rw [hb.block b hB]; exact h1, h2, h3, h4⟩
theorem pts_ne {p k r : Nat} (T : TabOk p k r) {i : Nat} (hi : i < 2 ^ k) (j : Nat) (hj : j < i) : r ^ rv k i % p ≠ r ^ rv k j % p := fun e => by
  refine T.rt.points j i hj hi ?_
  have := Cg.nat.2 e
  rw [Int.natCast_pow, Int.natCast_pow] at this
  exact this.symm
theorem Wl.cut {w : World} {ao : Option Addr} {n m cap : Nat} {x : Nat → Int} (h : Wl w (.slice ao n cap) n x) (hm : m ≤ n) : Wl w (.slice ao m cap) m x := by
  obtain ⟨ao', cap', e, h1, h2, h3, h5⟩ := h
  cases e
  refine ⟨ao, cap, rfl, by omega, h2, fun j hj => h3 j (by omega), fun hp => ?_⟩
  obtain ⟨b, off, h6, h7, h8⟩ := h5 (by omega)
  exact ⟨b, off, h6, h7, fun j hj => h8 j (by omega)⟩
set_option maxHeartbeats 3200000 in
set_option maxRecDepth 100000 in
theorem apart_law (n0 : Int) (u : Value) (n : Nat) (a : Nat → Int) (t0 t1 : Int) (w : World) (ht0 : -9223372036854775808 ≤ t0 ∧ t0 ≤ 9223372036854775807) (ht1 : -9223372036854775808 ≤ t1 ∧ t1 ≤ 9223372036854775807) (U : Wl w u n a) (L : Lay w) :
    Calls Tryd.prog 3 #[.int .i64 n0, u, .agg #[.int .i64 t0, .int .i64 t1]] w fun e w' => e = .returned (.bool true) ∧ Below w.heap.size w w' := by
  have AWA : Hid (∀ w', Below w.heap.size w w' → Calls Tryd.prog 9 #[] w' fun e w'' => e = .returned (.bool true) ∧ Below w'.heap.size w' w'') := fun w' B => awake7 w' (L.below B L.size)
  have hmm := @run_makeMap Tryd.prog
  have LL := hid L
  have U0 := hid U
  obtain ⟨ao, cap, rfl, -⟩ := U
  clear L
  have q0 := Int.tmod_lt_of_pos n0 (show (0 : Int) < 7 by decide)
  have q1 := Int.lt_tmod_of_pos n0 (show (0 : Int) < 7 by decide)
  obtain ⟨K, hK, hK6⟩ : ∃ K : Nat, Int.tmod (Int.tmod n0 7 + 7) 7 = (K : Int) ∧ K ≤ 6 := by
    rw [Int.tmod_eq_emod_of_nonneg (show 0 ≤ Int.tmod n0 7 + 7 by omega)]
    exact ⟨((Int.tmod n0 7 + 7) % 7).toNat, by omega, by omega⟩
  obtain ⟨N, hN⟩ : ∃ N, N = 2 ^ K := ⟨_, rfl⟩
  have hN64 : N ≤ 64 := by rw [hN]; exact Nat.pow_le_pow_right (n := 2) (j := 6) (by decide) (by omega)
  have HN := hid hN
  have MO : Hid (∀ g p r w, Pln w g p K r → Calls Tryd.prog 7 #[.pointer (some ⟨g, 0, none⟩)] w fun e w' => e = .returned (.int .i64 N) ∧ w' = w) := by
    intro g p r w T
    rw [hN]
    exact tmost_any g p K r w T
  clear hN
  have BX0 : Hid (Bx (w.alloc (.cells #[.int .i64 t0, .int .i64 t1] 23 (0, 0))) w.heap.size t0 t1) := heap_alloc_new w _
  have B0 : Hid (Below w.heap.size w (w.alloc (.cells #[.int .i64 t0, .int .i64 t1] 23 (0, 0)))) := (Below.refl _ _).alloc (Nat.le_refl _) _
  go_enter Tryd.func3, Tryd.ntmps3
  go_wp2_with fail
  generalize w.alloc (.cells #[.int .i64 t0, .int .i64 t1] 23 (0, 0)) = wb at *
  refine (great7 n0 _).mono ?_
  rintro e w1 ⟨⟨p, rfl, GP⟩, B1⟩
  have pl := GP.le
  have p2 := GP.pri.1
  have BX1 := hid (BX0.out.below B1 BX0.out.lt)
  have BB1 := hid (B0.out.trans (B1.mono B0.out.size))
  have hlw : w.heap.size ≤ wb.heap.size := Nat.le_of_lt BX0.out.lt
  have NW := hid (tnew_yes p K w1 GP.pri (by omega) (by omega) (by have := GP.tw; omega) (LL.out.below BB1.out LL.out.size))
  have U1 := hid (U0.out.below BB1.out)
  have hs1 : w.heap.size ≤ w1.heap.size := Nat.le_trans hlw B1.size
  clear GP B1 LL U0 BX0 B0 hlw
  go_wp2_with fail
  refine NW.out.mono ?_
  rintro e w2 ⟨⟨g, r, rfl, T⟩, B2⟩
  have T2 := hid T
  have U2 := hid (U1.out.below B2)
  have BX2 := hid (BX1.out.below B2 BX1.out.lt)
  have BB2 := hid (BB1.out.trans (B2.mono hs1))
  have hs2 : w.heap.size ≤ w2.heap.size := Nat.le_trans hs1 B2.size
  clear B2 NW BB1 U1 T BX1 hs1 hK q0 q1
  have OM0 := hid (World.ownsMap_made w2 Tryd.prog 28 (plainElem (H := Unit) Tryd.prog 3))
  have BM0 : Hid (Below w2.heap.size w2 (w2.alloc (.map #[] 0))) := (Below.refl _ _).alloc (Nat.le_refl _) _
  have sm0 : (w2.alloc (.map #[] 0)).heap.size = w2.heap.size + 1 := by simp
  have SM0 := hid sm0
  clear sm0
  go_wp2
  generalize hgm : w2.heap.size = gm at *
  have HM := hid hgm
  clear hgm hmm
  go_loopw [11] (fun iv wr => ∃ (i : Nat) (D : DataW Unit), iv = .int .i64 i ∧ i ≤ N ∧ Hid (wr.ownsMap Tryd.prog 28 (plainElem Tryd.prog 3) gm i D ∧ Uns D (fun j => r ^ rv K j % p) i ∧ Below gm w2 wr ∧ gm < wr.heap.size)) (fun iv _ => ((N : Int) - intOf iv).toNat)
  case atStart => exact ⟨0, .map [], rfl, Nat.zero_le _, OM0.out, fun _ _ => rfl, BM0.out, by rw [SM0.out]; omega⟩
  case round =>
    obtain ⟨i, D, rfl, hi, R⟩ := hrel
    clear OM0 BM0 SM0
    have T3 : Hid (Pln wr g p K r) := T2.out.below (by rw [HM.out]; exact R.out.2.2.1)
    by_cases hiN : i = N
    rotate_left
    · have hiN' : (i : Int) < (N : Int) := by omega
      have hiK : i < 2 ^ K := by rw [← HN.out]; omega
      have PT := hid (tpoint_any g p K r i wr T3.out hiK)
      have UN := hid (R.out.2.1 (r ^ rv K i % p) (pts_ne T3.out.ok hiK))
      have UP := hid (R.out.2.1.put (.lit (.int .i64 1)))
      have yl : r ^ rv K i % p < p := Nat.mod_lt _ (by omega)
      clear hiK
      change Hid (Uns (D.put (.int .u64 ((r ^ rv K i % p : Nat) : Int)) (.lit (.int .i64 1))) _ (i + 1)) at UP
      generalize r ^ rv K i % p = y at *
      go_wp2_with fail
      refine (MO.out g p r _ T3.out).mono ?_
      rintro e w4 ⟨rfl, hw⟩
      obtain rfl := hw.symm
      go_wp2_with fail
      refine PT.out.mono ?_
      rintro e w4 ⟨rfl, B4⟩
      have OM4 := hid (ownsMap_below R.out.1 B4 R.out.2.2.2)
      have BM4 := hid (R.out.2.2.1.trans (B4.mono (Nat.le_of_lt R.out.2.2.2)))
      have hs4 : gm < w4.heap.size := Nat.lt_of_lt_of_le R.out.2.2.2 B4.size
      have hkey : keyOf Tryd.prog 28 (.int .u64 (y : Int)) = some (.int .u64 (y : Int)) := keyOf_int_mk Tryd.underlying28 (WalkArith.wf_u64 (by omega))
      obtain ⟨c, hrun, hat, -⟩ := OM4.out.lookup_int (e := 3) (t := 30) lawU Tryd.underlying30 Tryd.underlying3 (zeroI w4) hkey
      obtain rfl : c = 0 := by
        rw [UN.out] at hat
        injection hat with h1
        injection h1 with h2 h3
        exact h3.symm
      have HK := hid hkey
      clear R B4 PT UN hat hkey
      go_wp2_with (at_mapUpdate; refine wpList_mapUpdate_own _ rfl _ _ _ 30 rfl 28 3 lawU Tryd.underlying30 _ gm i _ rfl OM4.out (by unfold maxLen; omega) _ _ _ rfl rfl HK.out _ [] (plainElem_int Tryd.underlying3 (by decide)) ?_; intro w5 hown5 hgrow5; have OM5 := hid hown5; have BM5 := hid (BM4.out.grown hgrow5 (Nat.le_of_lt hs4) (fun j hj => by cases hj; exact Nat.le_refl _)); have hs5 := Nat.lt_of_lt_of_le hs4 hgrow5.size; clear hown5 hgrow5)
      exact ⟨⟨i + 1, _, rfl, by omega, OM5.out, UP.out, BM5.out, hs5⟩, by simp only [intOf]; omega⟩
    · have hiN' : ¬ (i : Int) < (N : Int) := by omega
      subst hiN
      have hBM : Below w2.heap.size w2 wr := by rw [HM.out]; exact R.out.2.2.1
      have U3 := hid (U2.out.below hBM)
      have BX3 := hid (BX2.out.below hBM BX2.out.lt)
      have BB3 : Hid (Below w.heap.size w wr) := BB2.out.trans (R.out.2.2.1.mono (by omega))
      clear hBM U2 BX2 BB2 R T2 HM hs2
      have b0 := BX3.out.cell0
      have b1 := BX3.out.cell1
      go_wp2_with fail
      refine (MO.out g p r _ T3.out).mono ?_
      rintro e w4 ⟨rfl, hw⟩
      obtain rfl := hw.symm
      have MQ : Hid (∀ c, Calls Tryd.prog 7 #[.pointer (some ⟨g, 0, none⟩)] (wr.drewN c) fun e w' => e = .returned (.int .i64 i) ∧ w' = wr.drewN c) := fun c => MO.out g p r _ (T3.out.heap (by simp))
      by_cases c1 : i < n
      · have c1' : (i : Int) < (n : Int) := by omega
        go_wp2_with fail
        go_quiet ((go_at_call 7; exact Calls.quiet_of_same (MQ.out _)))
        rename_i nq
        have BBq := hid (below_drewN BB3.out nq)
        go_wp2_with fail
        refine (AWA.out _ BBq.out).mono ?_
        rintro e w9 ⟨rfl, B9⟩
        have BB9 := hid (BBq.out.trans (B9.mono BBq.out.size))
        clear B9
        go_wp2
        go_ret
        exact ⟨rfl, BB9.out⟩
      have c1' : ¬ (i : Int) < (n : Int) := by omega
      have c1'' : decide ((i : Int) < (n : Int)) = false := decide_eq_false c1'
      by_cases c2 : t0 < 0
      · go_wp2_with fail
        go_quiet ((go_at_call 7; exact Calls.quiet_of_same (MQ.out _)))
        rename_i nq
        have BBq := hid (below_drewN BB3.out nq)
        go_wp2_with fail
        refine (AWA.out _ BBq.out).mono ?_
        rintro e w9 ⟨rfl, B9⟩
        have BB9 := hid (BBq.out.trans (B9.mono BBq.out.size))
        clear B9
        go_wp2
        go_ret
        exact ⟨rfl, BB9.out⟩
      have c2'' : decide (t0 < 0) = false := decide_eq_false c2
      by_cases c3 : t1 < t0
      · go_wp2_with fail
        go_quiet ((go_at_call 7; exact Calls.quiet_of_same (MQ.out _)))
        rename_i nq
        have BBq := hid (below_drewN BB3.out nq)
        go_wp2_with fail
        refine (AWA.out _ BBq.out).mono ?_
        rintro e w9 ⟨rfl, B9⟩
        have BB9 := hid (BBq.out.trans (B9.mono BBq.out.size))
        clear B9
        go_wp2
        go_ret
        exact ⟨rfl, BB9.out⟩
      have c3'' : decide (t1 < t0) = false := decide_eq_false c3
      by_cases c4 : (i : Int) < t1
      · go_wp2_with fail
        go_quiet ((go_at_call 7; exact Calls.quiet_of_same (MQ.out _)))
        rename_i nq
        have BBq := hid (below_drewN BB3.out nq)
        go_wp2_with fail
        refine (AWA.out _ BBq.out).mono ?_
        rintro e w9 ⟨rfl, B9⟩
        have BB9 := hid (BBq.out.trans (B9.mono BBq.out.size))
        clear B9
        go_wp2
        go_ret
        exact ⟨rfl, BB9.out⟩
      have c4'' : decide ((i : Int) < t1) = false := decide_eq_false c4
      obtain ⟨m0, rfl⟩ : ∃ m : Nat, t0 = (m : Int) := ⟨t0.toNat, by omega⟩
      obtain ⟨m1, rfl⟩ : ∃ m : Nat, t1 = (m : Int) := ⟨t1.toNat, by omega⟩
      have h01 : m0 ≤ m1 := by omega
      have L0 : Hid (m0 ≤ 2 ^ K) := by show _ ≤ _; rw [← HN.out]; omega
      have L1 : Hid (m1 ≤ 2 ^ K) := by show _ ≤ _; rw [← HN.out]; omega
      have LN : Hid (n ≤ 2 ^ K) := by show _ ≤ _; rw [← HN.out]; omega
      go_wp2_with fail
      go_quiet ((go_at_call 7; exact Calls.quiet_of_same (MQ.out _)))
      rename_i nq
      have BBq := hid (below_drewN BB3.out nq)
      have T4 := hid (T3.out.heap (w' := wr.drewN nq) (by simp))
      have U4 := hid (U3.out.drew nq)
      have BX4 : Hid (Bx (wr.drewN nq) w.heap.size m0 m1) := by
        have h := BX3.out
        show Bx _ _ _ _
        unfold Bx at h ⊢
        simpa using h
      clear T3 U3 BX3 b0 b1 BB3 MQ
      generalize wr.drewN nq = w4 at *
      have b0 := BX4.out.cell0
      go_wp2_with fail
      refine (tgo_any g p K r _ n m0 a _ T4.out U4.out LN.out L0.out).mono ?_
      rintro e w5 ⟨⟨x0, k0, rfl, G⟩, B5⟩
      have T5 := hid (T4.out.below B5)
      have U5 := hid (U4.out.below B5)
      have BX5 := hid (BX4.out.below B5 BX4.out.lt)
      have BB5 := hid (BBq.out.trans (B5.mono BBq.out.size))
      clear B5 BBq T4 U4 BX4
      have G5 := hid G
      clear G b0
      have b1 := BX5.out.cell1
      go_wp2_with fail
      refine (tgo_any g p K r _ n m1 a _ T5.out U5.out LN.out L1.out).mono ?_
      rintro e w6 ⟨⟨x1, k1, rfl, G⟩, B6⟩
      have BX6 := hid (BX5.out.below B6 BX5.out.lt)
      have G6 := hid (G5.out.below B6)
      have BB6 := hid (BB5.out.trans (B6.mono BB5.out.size))
      clear B6 BB5 BX5 G5
      have H6 := hid (G.cut h01)
      have k1m : m1 ≤ k1 := by obtain ⟨_, _, e, h, _⟩ := G; cases e; exact h
      clear G b1 T5 U5
      have b0 := BX6.out.cell0
      have b1 := BX6.out.cell1
      have h01' : (m0 : Int) ≤ (k1 : Int) := by omega
      go_wp2_with fail
      refine (same_yes _ _ m0 _ _ _ G6.out H6.out (fun j hj => rfl)).mono ?_
      rintro e w7 ⟨rfl, c, rfl⟩
      have BB7 := hid (below_drewN BB6.out c)
      clear G6 H6 BB6 b0 b1
      go_wp2_with fail
      refine (AWA.out _ BB7.out).mono ?_
      rintro e w9 ⟨rfl, B9⟩
      have BB9 := hid (BB7.out.trans (B9.mono BB7.out.size))
      clear B9
      go_wp2
      go_ret
      exact ⟨rfl, BB9.out⟩
end Go.Proofs.YtbecdlibckbbcabDoor
