/- The product over the integers, in the landed conv. -/
import Derived.Test.YtocfenjampmdlabGreatDoorDk
import Derived.Test.YtocfenjampmdlabGreatDoorBIntn
namespace Go.Proofs.YtocfenjampmdlabGreatDoor
open Go.RowKit Num Nmb

/-- 'v' is a slice of n numbers A. -/
def Zl (w : World) (v : Value) (n : Nat) (A : Nat → Int) : Prop :=
  ∃ ao cap, v = .slice ao n cap ∧ n ≤ cap ∧ cap ≤ 9223372036854775807 ∧
    (0 < n → ∃ b off, ao = some ⟨b, off, none⟩ ∧ b < w.heap.size ∧ ∀ j, j < n → ∃ p a k c, w.cell? ⟨b, off + j * 2, none⟩ = some (.bool p) ∧ w.cell? ⟨b, off + j * 2 + 1, none⟩ = some (.slice a k c) ∧ B.It w (.agg #[.bool p, .slice a k c]) 100 (A j))
theorem It_setv {w : World} {v : Value} {n b k : Nat} {a : Int} {t : TypeId} {C : Nat → Value} (h : B.It w v n a) (R : Rv w b t k C) (hC : ∀ j, j < k → ∀ z, C j ≠ .int .u64 z) (i : Nat) (u : Value) : B.It (w.setCell ⟨b, i, none⟩ u) v n a := by
  obtain ⟨neg, ao, q, cap, a', rfl, ⟨x, o, ⟨ao', cap', e, s1, s2, s3, s4, s5⟩, h2, h3⟩, h4⟩ := h
  refine ⟨neg, ao, q, cap, a', rfl, ⟨x, o, ⟨ao', cap', e, s1, s2, s3, s4, fun hq => ?_⟩, h2, h3⟩, h4⟩
  obtain ⟨b', off, e', hbs, hc⟩ := s5 hq
  have ne : b' ≠ b := by
    rintro rfl
    have c0 := hc 0 hq
    by_cases ho : off + 0 < k
    · rw [R.cell ho] at c0
      exact hC _ ho _ (Option.some.inj c0)
    · obtain ⟨cur, hb, hs, _⟩ := R
      simp [World.cell?, hb, show cur.size ≤ off by omega] at c0
  refine ⟨b', off, e', by simpa [World.setCell] using hbs, fun j hj => ?_⟩
  rw [cell_other ne]
  exact hc j hj
/-- the cells of a row of numbers. -/
def zc (p : Nat → Bool) (a : Nat → Option Addr) (k c : Nat → Nat) (j : Nat) : Value := if j % 2 = 0 then .bool (p (j / 2)) else .slice (a (j / 2)) (k (j / 2)) (c (j / 2))
theorem zc_no (p : Nat → Bool) (a : Nat → Option Addr) (k c : Nat → Nat) (j : Nat) (z : Int) : zc p a k c j ≠ .int .u64 z := by
  unfold zc
  by_cases e : j % 2 = 0
  · rw [if_pos e]; exact fun h => by cases h
  · rw [if_neg e]; exact fun h => by cases h
theorem Tryz.infoZ : (Tryz.prog.info? 42).map (fun i => (i.zero, i.size, i.bytes)) = some (some (.agg #[.bool false, .slice none 0 0]), 2, 32) := by kernel_rfl
theorem zc_new (w : World) (n : Nat) : Rv (w.alloc (.cells (madeCells #[.bool false, .slice none 0 0] (n * 2)) 42)) w.heap.size 42 (n * 2) (zc (fun _ => false) (fun _ => none) (fun _ => 0) (fun _ => 0)) := by
  refine Rv.new w _ _ _ _ (size_madeCells _ _) fun j hj => ?_
  unfold zc
  have : j % 2 = 0 ∨ j % 2 = 1 := by omega
  rcases this with h | h <;> simp [madeCells, hj, h]
theorem wp_makeZ {ops : Array Oper} {rest : List Oper} {o : Oper} {a : Act} {Q : Exit → Act → World → Prop} (w : World) (hg : o.guard = none) (l c : Operand) (hop : o.op = Op.makeSlice 32 l c)
    (L C : Int) (n : Nat) (hl : a.eval l = .int .i64 L) (hc : a.eval c = .int .i64 C) (hL : L = (n : Int)) (hC : C = (n : Int)) (hn : n ≤ 1000000000)
    (hK : ∀ w', Rv w' w.heap.size 42 (n * 2) (zc (fun _ => false) (fun _ => none) (fun _ => 0) (fun _ => 0)) → Below w.heap.size w w' → w'.heap.size = w.heap.size + 1 → wpList Tryz.prog ops Q rest (a.put o.dst (.slice (some ⟨w.heap.size, 0, none⟩) n n)) w') :
    wpList Tryz.prog ops Q (o :: rest) a w := by
  obtain ⟨i0, hi, hz0, hz1, hz2⟩ := info_parts Tryz.infoZ
  refine wpList_plain hg fun K hK' => ?_
  have hr := run_make (P := Tryz.prog) w 32 42 i0 (.agg #[.bool false, .slice none 0 0]) Tryz.underlying32 hi hz0 .i64 .i64 n n (by omega) (Int.le_refl _) (by rw [hz2]; omega) (by omega)
  simp only [Int.toNat_natCast] at hr
  rw [hz1] at hr
  subst hL; subst hC
  unfold Oper.wp
  simp [execOp, hop, hl, hc, hr, Result.andThen]
  refine hK' _ _ (hK _ ?_ ?_ ?_)
  · exact zc_new w n
  · exact (Below.refl _ _).alloc (Nat.le_refl _) _
  · simp
set_option maxHeartbeats 800000 in
theorem exact_limit (u v : Value) (n m : Nat) (a b : Nat → Int) (w : World) (U : Wl w u n a) (V : Wl w v m b) (hn : 0 < n) (hm : 0 < m) (h : 1048577 ≤ n + m) (hs : n + m ≤ 9223372036854775807) :
    Calls Tryz.prog 9 #[u, v] w fun e w' => (∃ ao cap, e = .returned (.tuple #[.slice ao 0 cap, .int .i64 13])) ∧ Below w.heap.size w w' := by
  obtain ⟨ao, cap, rfl, -⟩ := U
  obtain ⟨bo, bap, rfl, -⟩ := V
  have TM := hid (tooMany_yes ao bo n m cap bap w hn hm h hs)
  clear hn hm h hs
  go_enter Tryz.func9, Tryz.ntmps9
  go_wp2_with fail
  refine TM.out.mono ?_
  rintro e w3 ⟨rfl, hw⟩
  obtain rfl := hw.symm
  clear TM
  go_wp2
  go_ret2
  exact ⟨⟨_, _, rfl⟩, Below.refl _ _⟩
set_option maxHeartbeats 1600000 in
theorem exact_none (u v : Value) (n m : Nat) (a b : Nat → Int) (w : World) (U : Wl w u n a) (V : Wl w v m b) (h : n = 0 ∨ m = 0) :
    Calls Tryz.prog 9 #[u, v] w fun e w' => (∃ ao cap, e = .returned (.tuple #[.slice ao 0 cap, .int .i64 0]) ∧ cap ≤ 9223372036854775807) ∧ Below w.heap.size w w' := by
  have PN := hid (product_none u v n m a b w U V h)
  obtain ⟨ao, cap, rfl, -⟩ := U
  obtain ⟨bo, bap, rfl, -⟩ := V
  have TM := hid (tooMany_no ao bo n m cap bap w (by omega))
  clear h
  go_enter Tryz.func9, Tryz.ntmps9
  go_wp2_with fail
  refine TM.out.mono ?_
  rintro e w3 ⟨rfl, hw⟩
  obtain rfl := hw.symm
  clear TM
  go_wp2_with fail
  refine PN.out.mono ?_
  rintro e w3 ⟨rfl, hw⟩
  obtain rfl := hw.symm
  clear PN
  go_wp2_with (at_make; refine wp_makeZ _ rfl _ _ rfl _ _ 0 rfl rfl (by omega) (by omega) (by omega) ?_; intro w1 R1 C1 Z1; have HC := hid C1; clear R1 C1 Z1)
  go_loopw [20] (fun iv wr => iv = .int .i64 0 ∧ wr = w1) (fun _ _ => 0)
  case atStart => exact ⟨rfl, rfl⟩
  case round =>
    obtain ⟨rfl, rfl⟩ := hrel
    go_wp2
    go_ret2
    exact ⟨⟨_, _, rfl, by omega⟩, HC.out⟩
/-- three words of a row are a number. -/
theorem nt_of_pw {w : World} {g M i : Nat} {t : TypeId} {A : Nat → Int} (h : Rv w g t (M * 3) (pw A M)) (hi : i < M) (h0 : 0 ≤ A i) (h1 : A i < 6277101735386680763835789423207666416102355444464034512896) : B.Nt w (.slice (some ⟨g, i * 3, none⟩) 3 3) 3 (A i) := by
  refine ⟨dgt (A i), 0, ⟨_, 3, rfl, Nat.le_refl _, by omega, fun j hj => ?_, (fun h => by cases h), fun _ => ⟨g, i * 3, rfl, h.lt, fun j hj => ?_⟩⟩, ?_⟩
  · have := dgt_bd h0 h1 j (by omega)
    rw [Nat.zero_add]
    exact this
  · have c := h.cell (i := i * 3 + j) (by omega)
    unfold pw at c
    rw [if_pos (by omega), show (i * 3 + j) / 3 = i by omega, show (i * 3 + j) % 3 = j by omega] at c
    rw [Nat.zero_add]
    exact c
  · have := hvw_dgt (A i)
    unfold hvw at this
    show 0 + dgt (A i) 0 * 1 + dgt (A i) 1 * (1 * 18446744073709551616) + dgt (A i) 2 * (1 * 18446744073709551616 * 18446744073709551616) = A i
    omega
set_option maxHeartbeats 3200000 in
theorem exact_yes (u v : Value) (n m : Nat) (a b : Nat → Int) (w : World) (L : LayB w) (U : Wl w u n a) (V : Wl w v m b) (hn : 0 < n) (hm : 0 < m) (h : n + m ≤ 1048576) :
    Calls Tryz.prog 9 #[u, v] w fun e w' => (∃ ao cap, e = .returned (.tuple #[.slice ao (n + m - 1 : Nat) cap, .int .i64 0]) ∧ Zl w' (.slice ao (n + m - 1) cap) (n + m - 1) (prd a b n m)) ∧ Below w.heap.size w w' := by
  have PR := hid (product_any u v n m a b w L U V hn hm h)
  have AB := hid (prd_bd (fun j hj => U.val hj) (fun j hj => V.val hj) (show n ≤ 1048576 by omega) (show m ≤ 1048576 by omega))
  obtain ⟨ao, cap, rfl, -⟩ := U
  obtain ⟨bo, bap, rfl, -⟩ := V
  have TM := hid (tooMany_no ao bo n m cap bap w (by omega))
  have K0 : 0 < n + m - 1 := by omega
  have K20 : n + m - 1 ≤ 1048576 := by omega
  generalize prd a b n m = A at *
  generalize n + m - 1 = K at *
  clear hn hm h L
  go_enter Tryz.func9, Tryz.ntmps9
  go_wp2_with fail
  refine TM.out.mono ?_
  rintro e w3 ⟨rfl, hw⟩
  obtain rfl := hw.symm
  clear TM
  go_wp2_with fail
  refine PR.out.mono ?_
  rintro e w3 ⟨⟨gs, rfl, R3⟩, B3⟩
  have HS := hid R3
  have HB := hid B3
  have gs3 := R3.lt
  clear PR R3 B3
  go_wp2_with (at_make; refine wp_makeZ _ rfl _ _ rfl _ _ K rfl rfl (by omega) (by omega) (by omega) ?_; intro w4 R4 C4 Z4; have HR := hid R4; have HC := hid C4; clear R4 C4 Z4)
  go_loopw [20] (fun iv wr => ∃ (i : Nat) (p : Nat → Bool) (sa : Nat → Option Addr) (sk sc : Nat → Nat), iv = .int .i64 i ∧ i ≤ K ∧ Hid (Rv wr w3.heap.size 42 (K * 2) (zc p sa sk sc)) ∧ Hid (∀ j, j < i → B.It wr (.agg #[.bool (p j), .slice (sa j) (sk j) (sc j)]) 100 (A j)) ∧ Hid (Below w3.heap.size w3 wr)) (fun iv _ => ((K : Int) - intOf iv).toNat)
  case atStart => exact ⟨0, _, _, _, _, rfl, Nat.zero_le _, HR.out, fun j hj => absurd hj (by omega), HC.out⟩
  case round =>
    clear HR HC
    obtain ⟨i, p, sa, sk, sc, rfl, hi, HR, HI, HC⟩ := hrel
    by_cases him : i = K
    · have him' : ¬ (i : Int) < (K : Int) := by omega
      subst him
      have BF := hid (HB.out.trans (HC.out.mono HB.out.size))
      have RF : Hid (Zl wr (.slice (some ⟨w3.heap.size, 0, none⟩) i i) i A) := ⟨_, i, rfl, Nat.le_refl _, by omega, fun _ => ⟨w3.heap.size, 0, rfl, HR.out.lt, fun j hj => ⟨p j, sa j, sk j, sc j, by
        have := HR.out.cell (i := j * 2) (by omega)
        unfold zc at this
        rw [if_pos (by omega), show j * 2 / 2 = j by omega] at this
        rw [Nat.zero_add]; exact this, by
        have := HR.out.cell (i := j * 2 + 1) (by omega)
        unfold zc at this
        rw [if_neg (by omega), show (j * 2 + 1) / 2 = j by omega] at this
        rw [Nat.zero_add]; exact this, HI.out j hj⟩⟩⟩
      clear HS HB HR HC AB HI
      go_wp2
      go_ret2
      exact ⟨⟨_, _, rfl, RF.out⟩, BF.out⟩
    · have him' : (i : Int) < (K : Int) := by omega
      have hi' : i < K := by omega
      have rs := HS.out.below HC.out gs3
      have ab := AB.out i
      have FR := hid (B.From_any false _ 3 (A i) wr (nt_of_pw rs hi' ab.1 (by omega)) (by omega))
      have NX : Hid (∀ W q bo k c, Below wr.heap.size wr W → B.It W (.agg #[.bool q, .slice bo k c]) 100 (A i) → ∃ p' sa' sk' sc', Rv ((W.setCell ⟨w3.heap.size, i * 2, none⟩ (.bool q)).setCell ⟨w3.heap.size, i * 2 + 1, none⟩ (.slice bo k c)) w3.heap.size 42 (K * 2) (zc p' sa' sk' sc') ∧ (∀ j, j < i + 1 → B.It ((W.setCell ⟨w3.heap.size, i * 2, none⟩ (.bool q)).setCell ⟨w3.heap.size, i * 2 + 1, none⟩ (.slice bo k c)) (.agg #[.bool (p' j), .slice (sa' j) (sk' j) (sc' j)]) 100 (A j)) ∧ Below w3.heap.size w3 ((W.setCell ⟨w3.heap.size, i * 2, none⟩ (.bool q)).setCell ⟨w3.heap.size, i * 2 + 1, none⟩ (.slice bo k c)) ∧ W.frozen? ⟨w3.heap.size, i * 2, none⟩ = false ∧ W.frozen? ⟨w3.heap.size, i * 2 + 1, none⟩ = false ∧ (∃ v, W.cell? ⟨w3.heap.size, i * 2, none⟩ = some v) ∧ ∃ v, W.cell? ⟨w3.heap.size, i * 2 + 1, none⟩ = some v) := by
        intro W q bo k c B I
        have r := HR.out.below B HR.out.lt
        have r1 := r.set (D := fun j => if j = i * 2 then .bool q else zc p sa sk sc j) (i * 2) (.bool q) (fun _ _ => rfl)
        have no1 : ∀ j, j < K * 2 → ∀ z, (fun j => if j = i * 2 then Value.bool q else zc p sa sk sc j) j ≠ .int .u64 z := fun j _ z => by
          dsimp only
          by_cases e : j = i * 2
          · rw [if_pos e]; exact fun h => by cases h
          · rw [if_neg e]; exact zc_no _ _ _ _ _ _
        refine ⟨fun j => if j = i then q else p j, fun j => if j = i then bo else sa j, fun j => if j = i then k else sk j, fun j => if j = i then c else sc j, r1.set _ _ (fun j hj => ?_), fun j hj => ?_, below_set (below_set (HC.out.trans (B.mono (Nat.le_of_lt HR.out.lt))) (Nat.le_refl _) _ _) (Nat.le_refl _) _ _, r.frozen _, r.frozen _, ⟨_, r.cell (by omega)⟩, ⟨_, r.cell (by omega)⟩⟩
        · unfold zc
          dsimp only
          by_cases e1 : j = i * 2 + 1
          · rw [if_pos e1, if_neg (by omega), if_pos (by omega), if_pos (by omega), if_pos (by omega)]
          · rw [if_neg e1]
            by_cases e0 : j = i * 2
            · rw [if_pos e0, if_pos (by omega), if_pos (by omega)]
            · rw [if_neg e0]
              have ne : ¬ j / 2 = i := by omega
              rw [if_neg ne, if_neg ne, if_neg ne, if_neg ne]
        · dsimp only
          by_cases e : j = i
          · subst e
            rw [if_pos rfl, if_pos rfl, if_pos rfl, if_pos rfl]
            exact It_setv (It_setv I r (fun j _ z => zc_no _ _ _ _ _ z) _ _) r1 no1 _ _
          · rw [if_neg e, if_neg e, if_neg e, if_neg e]
            exact It_setv (It_setv ((HI.out j (by omega)).below B) r (fun j _ z => zc_no _ _ _ _ _ z) _ _) r1 no1 _ _
      clear rs ab HS HB HR HC AB HI
      go_wp2_with fail
      refine FR.out.mono ?_
      rintro e w5 ⟨v', rfl, I5, B5⟩
      obtain ⟨q, bo, k, c, rfl⟩ := I5.shape
      rw [show B.sg false (A i) = A i from rfl] at I5
      obtain ⟨p', sa', sk', sc', n1, n2, n3, f0, f1, ⟨v0, c0⟩, ⟨v1, c1⟩⟩ := NX.out w5 q bo k c B5 (I5.mono (by omega))
      have N1 := hid n1
      have N2 := hid n2
      have N3 := hid n3
      clear n1 n2 n3 NX FR I5 B5
      go_wp2
      exact ⟨⟨i + 1, p', sa', sk', sc', rfl, by omega, N1, N2, N3⟩, by simp only [intOf]; omega⟩
end Go.Proofs.YtocfenjampmdlabGreatDoor
