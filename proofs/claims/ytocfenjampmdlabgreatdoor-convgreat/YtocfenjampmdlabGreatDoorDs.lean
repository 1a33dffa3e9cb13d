/- The product over the integers, in the landed conv. -/
/- How many coefficients a box has, and where each stands, in the landed conv. -/
/- Where the coefficients of a box stand in a wider one, and what the product of such lists is. -/
/- The coefficients of a box at their places in a wider one, in the landed conv. -/
/- Spread, packed, and what may be a box, in the landed conv. -/
/- What may be a box, and a box packed, in the landed conv. -/
/- A region whose operations may come in any order: each is shown once, by what is known of its value alone in whatever world the others leave. -/
/- Products of boxes that are none, in the landed conv. -/
import Derived.Test.YtocfenjampmdlabGreatDoorDk
import Derived.Test.YtocfenjampmdlabGreatDoorBIntn
import Derived.Test.YtocfenjampmdlabGreatDoorQg
import Derived.Shelf.GgClosure.Gives
import Derived.Test.YtocfenjampmdlabGreatDoorDc
import Derived.Test.YtocfenjampmdlabGreatDoorReg
namespace Go.Proofs.YtocfenjampmdlabGreatDoor
open Go.RowKit Num Nmb

/-- 'v' is a slice of n numbers A. -/
def Zl (w : World) (v : Value) (n : Nat) (A : Nat → Int) : Prop :=
  ∃ ao cap, v = .slice ao n cap ∧ n ≤ cap ∧ cap ≤ 9223372036854775807 ∧
    (0 < n → ∃ b off, ao = some ⟨b, off, none⟩ ∧ b < w.heap.size ∧ ∀ j, j < n → ∃ p a k c, w.cell? ⟨b, off + j * 2, none⟩ = some (.bool p) ∧ w.cell? ⟨b, off + j * 2 + 1, none⟩ = some (.slice a k c) ∧ B.It w (.agg #[.bool p, .slice a k c]) 100 (A j))
theorem It_setv {w : World} {v : Value} {n b k : Nat} {a : Int} {t : TypeId} {C : Nat → Value} (h : B.It w v n a) (R : Rv w b t k C) (hC : ∀ j, j < k → ∀ z, C j ≠ .int .u64 z) (i : Nat) (u : Value) : B.It (w.setCell ⟨b, i, none⟩ u) v n a := by
  obtain ⟨neg, ao, q, cap, a', rfl, ⟨x, o, ⟨ao', cap', e, s1, s2, s3, s4, s5⟩, h2, h3⟩, h4⟩ := h
  refine ⟨neg, ao, q, cap, a', rfl, ⟨x, o, ⟨ao', cap', e, s1, s2, s3, s4, fun hq => ?_⟩, h2, h3⟩, h4⟩
  obtain ⟨b', off, e', hbs, hc⟩ := s5 hq
  have ne : b' ≠ b := by
    rintro rfl
    have c0 := hc 0 hq
    by_cases ho : off + 0 < k
    · rw [R.cell ho] at c0
      exact hC _ ho _ (Option.some.inj c0)
    · obtain ⟨cur, hb, hs, _⟩ := R
      simp [World.cell?, hb, show cur.size ≤ off by omega] at c0
  refine ⟨b', off, e', by simpa [World.setCell] using hbs, fun j hj => ?_⟩
  rw [cell_other ne]
  exact hc j hj
/-- the cells of a row of numbers. -/
def zc (p : Nat → Bool) (a : Nat → Option Addr) (k c : Nat → Nat) (j : Nat) : Value := if j % 2 = 0 then .bool (p (j / 2)) else .slice (a (j / 2)) (k (j / 2)) (c (j / 2))
theorem zc_no (p : Nat → Bool) (a : Nat → Option Addr) (k c : Nat → Nat) (j : Nat) (z : Int) : zc p a k c j ≠ .int .u64 z := by
  unfold zc
  by_cases e : j % 2 = 0
  · rw [if_pos e]; exact fun h => by cases h
  · rw [if_neg e]; exact fun h => by cases h
theorem Tryz.infoZ : (Tryz.prog.info? 42).map (fun i => (i.zero, i.size, i.bytes)) = some (some (.agg #[.bool false, .slice none 0 0]), 2, 32) := by kernel_rfl
theorem zc_new (w : World) (n : Nat) : Rv (w.alloc (.cells (madeCells #[.bool false, .slice none 0 0] (n * 2)) 42)) w.heap.size 42 (n * 2) (zc (fun _ => false) (fun _ => none) (fun _ => 0) (fun _ => 0)) := by
  refine Rv.new w _ _ _ _ (size_madeCells _ _) fun j hj => ?_
  unfold zc
  have : j % 2 = 0 ∨ j % 2 = 1 := by omega
  rcases this with h | h <;> simp [madeCells, hj, h]
theorem wp_makeZ {ops : Array Oper} {rest : List Oper} {o : Oper} {a : Act} {Q : Exit → Act → World → Prop} (w : World) (hg : o.guard = none) (l c : Operand) (hop : o.op = Op.makeSlice 32 l c)
    (L C : Int) (n : Nat) (hl : a.eval l = .int .i64 L) (hc : a.eval c = .int .i64 C) (hL : L = (n : Int)) (hC : C = (n : Int)) (hn : n ≤ 1000000000)
    (hK : ∀ w', Rv w' w.heap.size 42 (n * 2) (zc (fun _ => false) (fun _ => none) (fun _ => 0) (fun _ => 0)) → Below w.heap.size w w' → w'.heap.size = w.heap.size + 1 → wpList Tryz.prog ops Q rest (a.put o.dst (.slice (some ⟨w.heap.size, 0, none⟩) n n)) w') :
    wpList Tryz.prog ops Q (o :: rest) a w := by
  obtain ⟨i0, hi, hz0, hz1, hz2⟩ := info_parts Tryz.infoZ
  refine wpList_plain hg fun K hK' => ?_
  have hr := run_make (P := Tryz.prog) w 32 42 i0 (.agg #[.bool false, .slice none 0 0]) Tryz.underlying32 hi hz0 .i64 .i64 n n (by omega) (Int.le_refl _) (by rw [hz2]; omega) (by omega)
  simp only [Int.toNat_natCast] at hr
  rw [hz1] at hr
  subst hL; subst hC
  unfold Oper.wp
  simp [execOp, hop, hl, hc, hr, Result.andThen]
  refine hK' _ _ (hK _ ?_ ?_ ?_)
  · exact zc_new w n
  · exact (Below.refl _ _).alloc (Nat.le_refl _) _
  · simp
set_option maxHeartbeats 800000 in
theorem exact_limit (u v : Value) (n m : Nat) (a b : Nat → Int) (w : World) (U : Wl w u n a) (V : Wl w v m b) (hn : 0 < n) (hm : 0 < m) (h : 1048577 ≤ n + m) (hs : n + m ≤ 9223372036854775807) :
    Calls Tryz.prog 9 #[u, v] w fun e w' => (∃ ao cap, e = .returned (.tuple #[.slice ao 0 cap, .int .i64 13])) ∧ Below w.heap.size w w' := by
  obtain ⟨ao, cap, rfl, -⟩ := U
  obtain ⟨bo, bap, rfl, -⟩ := V
  have TM := hid (tooMany_yes ao bo n m cap bap w hn hm h hs)
  clear hn hm h hs
  go_enter Tryz.func9, Tryz.ntmps9
  go_wp2_with fail
  refine TM.out.mono ?_
  rintro e w3 ⟨rfl, hw⟩
  obtain rfl := hw.symm
  clear TM
  go_wp2
  go_ret2
  exact ⟨⟨_, _, rfl⟩, Below.refl _ _⟩
set_option maxHeartbeats 1600000 in
theorem exact_none (u v : Value) (n m : Nat) (a b : Nat → Int) (w : World) (U : Wl w u n a) (V : Wl w v m b) (h : n = 0 ∨ m = 0) :
    Calls Tryz.prog 9 #[u, v] w fun e w' => (∃ ao cap, e = .returned (.tuple #[.slice ao 0 cap, .int .i64 0]) ∧ cap ≤ 9223372036854775807) ∧ Below w.heap.size w w' := by
  have PN := hid (product_none u v n m a b w U V h)
  obtain ⟨ao, cap, rfl, -⟩ := U
  obtain ⟨bo, bap, rfl, -⟩ := V
  have TM := hid (tooMany_no ao bo n m cap bap w (by omega))
  clear h
  go_enter Tryz.func9, Tryz.ntmps9
  go_wp2_with fail
  refine TM.out.mono ?_
  rintro e w3 ⟨rfl, hw⟩
  obtain rfl := hw.symm
  clear TM
  go_wp2_with fail
  refine PN.out.mono ?_
  rintro e w3 ⟨rfl, hw⟩
  obtain rfl := hw.symm
  clear PN
  go_wp2_with (at_make; refine wp_makeZ _ rfl _ _ rfl _ _ 0 rfl rfl (by omega) (by omega) (by omega) ?_; intro w1 R1 C1 Z1; have HC := hid C1; clear R1 C1 Z1)
  go_loopw [20] (fun iv wr => iv = .int .i64 0 ∧ wr = w1) (fun _ _ => 0)
  case atStart => exact ⟨rfl, rfl⟩
  case round =>
    obtain ⟨rfl, rfl⟩ := hrel
    go_wp2
    go_ret2
    exact ⟨⟨_, _, rfl, by omega⟩, HC.out⟩
/-- three words of a row are a number. -/
theorem nt_of_pw {w : World} {g M i : Nat} {t : TypeId} {A : Nat → Int} (h : Rv w g t (M * 3) (pw A M)) (hi : i < M) (h0 : 0 ≤ A i) (h1 : A i < 6277101735386680763835789423207666416102355444464034512896) : B.Nt w (.slice (some ⟨g, i * 3, none⟩) 3 3) 3 (A i) := by
  refine ⟨dgt (A i), 0, ⟨_, 3, rfl, Nat.le_refl _, by omega, fun j hj => ?_, (fun h => by cases h), fun _ => ⟨g, i * 3, rfl, h.lt, fun j hj => ?_⟩⟩, ?_⟩
  · have := dgt_bd h0 h1 j (by omega)
    rw [Nat.zero_add]
    exact this
  · have c := h.cell (i := i * 3 + j) (by omega)
    unfold pw at c
    rw [if_pos (by omega), show (i * 3 + j) / 3 = i by omega, show (i * 3 + j) % 3 = j by omega] at c
    rw [Nat.zero_add]
    exact c
  · have := hvw_dgt (A i)
    unfold hvw at this
    show 0 + dgt (A i) 0 * 1 + dgt (A i) 1 * (1 * 18446744073709551616) + dgt (A i) 2 * (1 * 18446744073709551616 * 18446744073709551616) = A i
    omega
set_option maxHeartbeats 3200000 in
theorem exact_yes (u v : Value) (n m : Nat) (a b : Nat → Int) (w : World) (L : LayB w) (U : Wl w u n a) (V : Wl w v m b) (hn : 0 < n) (hm : 0 < m) (h : n + m ≤ 1048576) :
    Calls Tryz.prog 9 #[u, v] w fun e w' => (∃ ao cap, e = .returned (.tuple #[.slice ao (n + m - 1 : Nat) cap, .int .i64 0]) ∧ Zl w' (.slice ao (n + m - 1) cap) (n + m - 1) (prd a b n m)) ∧ Below w.heap.size w w' := by
  have PR := hid (product_any u v n m a b w L U V hn hm h)
  have AB := hid (prd_bd (fun j hj => U.val hj) (fun j hj => V.val hj) (show n ≤ 1048576 by omega) (show m ≤ 1048576 by omega))
  obtain ⟨ao, cap, rfl, -⟩ := U
  obtain ⟨bo, bap, rfl, -⟩ := V
  have TM := hid (tooMany_no ao bo n m cap bap w (by omega))
  have K0 : 0 < n + m - 1 := by omega
  have K20 : n + m - 1 ≤ 1048576 := by omega
  generalize prd a b n m = A at *
  generalize n + m - 1 = K at *
  clear hn hm h L
  go_enter Tryz.func9, Tryz.ntmps9
  go_wp2_with fail
  refine TM.out.mono ?_
  rintro e w3 ⟨rfl, hw⟩
  obtain rfl := hw.symm
  clear TM
  go_wp2_with fail
  refine PR.out.mono ?_
  rintro e w3 ⟨⟨gs, rfl, R3⟩, B3⟩
  have HS := hid R3
  have HB := hid B3
  have gs3 := R3.lt
  clear PR R3 B3
  go_wp2_with (at_make; refine wp_makeZ _ rfl _ _ rfl _ _ K rfl rfl (by omega) (by omega) (by omega) ?_; intro w4 R4 C4 Z4; have HR := hid R4; have HC := hid C4; clear R4 C4 Z4)
  go_loopw [20] (fun iv wr => ∃ (i : Nat) (p : Nat → Bool) (sa : Nat → Option Addr) (sk sc : Nat → Nat), iv = .int .i64 i ∧ i ≤ K ∧ Hid (Rv wr w3.heap.size 42 (K * 2) (zc p sa sk sc)) ∧ Hid (∀ j, j < i → B.It wr (.agg #[.bool (p j), .slice (sa j) (sk j) (sc j)]) 100 (A j)) ∧ Hid (Below w3.heap.size w3 wr)) (fun iv _ => ((K : Int) - intOf iv).toNat)
  case atStart => exact ⟨0, _, _, _, _, rfl, Nat.zero_le _, HR.out, fun j hj => absurd hj (by omega), HC.out⟩
  case round =>
    clear HR HC
    obtain ⟨i, p, sa, sk, sc, rfl, hi, HR, HI, HC⟩ := hrel
    by_cases him : i = K
    · have him' : ¬ (i : Int) < (K : Int) := by omega
      subst him
      have BF := hid (HB.out.trans (HC.out.mono HB.out.size))
      have RF : Hid (Zl wr (.slice (some ⟨w3.heap.size, 0, none⟩) i i) i A) := ⟨_, i, rfl, Nat.le_refl _, by omega, fun _ => ⟨w3.heap.size, 0, rfl, HR.out.lt, fun j hj => ⟨p j, sa j, sk j, sc j, by
        have := HR.out.cell (i := j * 2) (by omega)
        unfold zc at this
        rw [if_pos (by omega), show j * 2 / 2 = j by omega] at this
        rw [Nat.zero_add]; exact this, by
        have := HR.out.cell (i := j * 2 + 1) (by omega)
        unfold zc at this
        rw [if_neg (by omega), show (j * 2 + 1) / 2 = j by omega] at this
        rw [Nat.zero_add]; exact this, HI.out j hj⟩⟩⟩
      clear HS HB HR HC AB HI
      go_wp2
      go_ret2
      exact ⟨⟨_, _, rfl, RF.out⟩, BF.out⟩
    · have him' : (i : Int) < (K : Int) := by omega
      have hi' : i < K := by omega
      have rs := HS.out.below HC.out gs3
      have ab := AB.out i
      have FR := hid (B.From_any false _ 3 (A i) wr (nt_of_pw rs hi' ab.1 (by omega)) (by omega))
      have NX : Hid (∀ W q bo k c, Below wr.heap.size wr W → B.It W (.agg #[.bool q, .slice bo k c]) 100 (A i) → ∃ p' sa' sk' sc', Rv ((W.setCell ⟨w3.heap.size, i * 2, none⟩ (.bool q)).setCell ⟨w3.heap.size, i * 2 + 1, none⟩ (.slice bo k c)) w3.heap.size 42 (K * 2) (zc p' sa' sk' sc') ∧ (∀ j, j < i + 1 → B.It ((W.setCell ⟨w3.heap.size, i * 2, none⟩ (.bool q)).setCell ⟨w3.heap.size, i * 2 + 1, none⟩ (.slice bo k c)) (.agg #[.bool (p' j), .slice (sa' j) (sk' j) (sc' j)]) 100 (A j)) ∧ Below w3.heap.size w3 ((W.setCell ⟨w3.heap.size, i * 2, none⟩ (.bool q)).setCell ⟨w3.heap.size, i * 2 + 1, none⟩ (.slice bo k c)) ∧ W.frozen? ⟨w3.heap.size, i * 2, none⟩ = false ∧ W.frozen? ⟨w3.heap.size, i * 2 + 1, none⟩ = false ∧ (∃ v, W.cell? ⟨w3.heap.size, i * 2, none⟩ = some v) ∧ ∃ v, W.cell? ⟨w3.heap.size, i * 2 + 1, none⟩ = some v) := by
        intro W q bo k c B I
        have r := HR.out.below B HR.out.lt
        have r1 := r.set (D := fun j => if j = i * 2 then .bool q else zc p sa sk sc j) (i * 2) (.bool q) (fun _ _ => rfl)
        have no1 : ∀ j, j < K * 2 → ∀ z, (fun j => if j = i * 2 then Value.bool q else zc p sa sk sc j) j ≠ .int .u64 z := fun j _ z => by
          dsimp only
          by_cases e : j = i * 2
          · rw [if_pos e]; exact fun h => by cases h
          · rw [if_neg e]; exact zc_no _ _ _ _ _ _
        refine ⟨fun j => if j = i then q else p j, fun j => if j = i then bo else sa j, fun j => if j = i then k else sk j, fun j => if j = i then c else sc j, r1.set _ _ (fun j hj => ?_), fun j hj => ?_, below_set (below_set (HC.out.trans (B.mono (Nat.le_of_lt HR.out.lt))) (Nat.le_refl _) _ _) (Nat.le_refl _) _ _, r.frozen _, r.frozen _, ⟨_, r.cell (by omega)⟩, ⟨_, r.cell (by omega)⟩⟩
        · unfold zc
          dsimp only
          by_cases e1 : j = i * 2 + 1
          · rw [if_pos e1, if_neg (by omega), if_pos (by omega), if_pos (by omega), if_pos (by omega)]
          · rw [if_neg e1]
            by_cases e0 : j = i * 2
            · rw [if_pos e0, if_pos (by omega), if_pos (by omega)]
            · rw [if_neg e0]
              have ne : ¬ j / 2 = i := by omega
              rw [if_neg ne, if_neg ne, if_neg ne, if_neg ne]
        · dsimp only
          by_cases e : j = i
          · subst e
            rw [if_pos rfl, if_pos rfl, if_pos rfl, if_pos rfl]
            exact It_setv (It_setv I r (fun j _ z => zc_no _ _ _ _ _ z) _ _) r1 no1 _ _
          · rw [if_neg e, if_neg e, if_neg e, if_neg e]
            exact It_setv (It_setv ((HI.out j (by omega)).below B) r (fun j _ z => zc_no _ _ _ _ _ z) _ _) r1 no1 _ _
      clear rs ab HS HB HR HC AB HI
      go_wp2_with fail
      refine FR.out.mono ?_
      rintro e w5 ⟨v', rfl, I5, B5⟩
      obtain ⟨q, bo, k, c, rfl⟩ := I5.shape
      rw [show B.sg false (A i) = A i from rfl] at I5
      obtain ⟨p', sa', sk', sc', n1, n2, n3, f0, f1, ⟨v0, c0⟩, ⟨v1, c1⟩⟩ := NX.out w5 q bo k c B5 (I5.mono (by omega))
      have N1 := hid n1
      have N2 := hid n2
      have N3 := hid n3
      clear n1 n2 n3 NX FR I5 B5
      go_wp2
      exact ⟨⟨i + 1, p', sa', sk', sc', rfl, by omega, N1, N2, N3⟩, by simp only [intOf]; omega⟩
end Go.Proofs.YtocfenjampmdlabGreatDoor
namespace Go.Proofs.YtocfenjampmdlabGreatDoor
open Go.RowKit Num Nmb

set_option maxHeartbeats 800000 in
theorem small_any (d : Int) (w : World) : Calls Tryz.prog 28 #[.int .i64 d] w fun e w' => e = .returned (.bool (decide (d < 1))) ∧ w' = w := by
  by_cases h : d < 1
  · rw [decide_eq_true h]
    go_enter Tryz.func28, Tryz.ntmps28
    go_wp2
    go_ret
    exact ⟨rfl, rfl⟩
  · rw [decide_eq_false h]
    go_enter Tryz.func28, Tryz.ntmps28
    go_wp2
    go_ret
    exact ⟨rfl, rfl⟩
set_option maxHeartbeats 800000 in
theorem indexf_any (u : Value) (n : Nat) (d : Nat → Int) (w : World) (U : Wi w u n d) :
    Calls Tryz.prog 47 #[u, .func (.func 28) #[] #[]] w fun e w' => (∃ r, e = .returned (.int .i64 r) ∧ ((0 ≤ r ∧ ∃ i, i < n ∧ d i < 1) ∨ (r = -1 ∧ ∀ i, i < n → 1 ≤ d i))) ∧ w' = w := by
  obtain ⟨ao, cap, rfl, hcap, hcap2, hv, hcell⟩ := U
  have HC := hid hcell
  clear hv hcell
  go_enter Tryz.func47, Tryz.ntmps47
  go_wp2
  go_loopw [8] (fun iv wr => ∃ (i : Nat), iv = .int .i64 i ∧ i ≤ n ∧ Hid (∀ j, j < i → 1 ≤ d j) ∧ wr = w) (fun iv _ => ((n : Int) - intOf iv).toNat)
  case atStart => exact ⟨0, rfl, Nat.zero_le _, fun j hj => absurd hj (by omega), rfl⟩
  case round =>
    obtain ⟨i, rfl, hi, S, hw⟩ := hrel
    obtain rfl := hw.symm
    by_cases him : i = n
    · have him' : ¬ (i : Int) < (n : Int) := by omega
      subst him
      clear HC
      go_wp2
      go_ret
      exact ⟨⟨_, rfl, Or.inr ⟨rfl, S.out⟩⟩, by first | trivial | rfl⟩
    · have him' : (i : Int) < (n : Int) := by omega
      obtain ⟨b, off, rfl, hbs, hc⟩ := HC.out (by omega)
      have ct := hc i (by omega)
      have SM := hid (small_any (d i) w)
      by_cases hd : d i < 1
      · rw [decide_eq_true hd] at SM
        have E : Hid (∃ i, i < n ∧ d i < 1) := ⟨i, by omega, hd⟩
        clear HC S hc hd
        generalize d i = di at *
        go_wp2_with fail
        refine SM.out.mono ?_
        rintro e w2 ⟨rfl, hw⟩
        obtain rfl := hw.symm
        clear SM
        go_wp2
        go_ret
        exact ⟨⟨_, rfl, Or.inl ⟨by omega, E.out⟩⟩, by first | trivial | rfl⟩
      · rw [decide_eq_false hd] at SM
        have S' : Hid (∀ j, j < i + 1 → 1 ≤ d j) := fun j hj => by
          by_cases e : j = i
          · rw [e]; omega
          · exact S.out j (by omega)
        clear HC S hc hd
        generalize d i = di at *
        go_wp2_with fail
        refine SM.out.mono ?_
        rintro e w2 ⟨rfl, hw⟩
        obtain rfl := hw.symm
        clear SM
        go_wp2
        exact ⟨⟨i + 1, rfl, by omega, S', by first | trivial | rfl⟩, by simp only [intOf]; omega⟩
set_option maxHeartbeats 800000 in
theorem contains_any (u : Value) (n : Nat) (d : Nat → Int) (w : World) (U : Wi w u n d) :
    Calls Tryz.prog 27 #[u, .func (.func 28) #[] #[]] w fun e w' => (∃ b, e = .returned (.bool b) ∧ (b = true ∧ (∃ i, i < n ∧ d i < 1) ∨ b = false ∧ ∀ i, i < n → 1 ≤ d i)) ∧ w' = w := by
  have IF := hid (indexf_any u n d w U)
  obtain ⟨ao, cap, rfl, -⟩ := U
  go_enter Tryz.func27, Tryz.ntmps27
  go_wp2_with fail
  refine IF.out.mono ?_
  rintro e w2 ⟨⟨r, rfl, hr⟩, hw⟩
  obtain rfl := hw.symm
  clear IF
  rcases hr with ⟨h0, E⟩ | ⟨rfl, E⟩
  · have HE := hid E
    clear E
    go_wp2
    go_ret
    exact ⟨⟨_, rfl, Or.inl ⟨rfl, HE.out⟩⟩, by first | trivial | rfl⟩
  · have HE := hid E
    clear E
    go_wp2
    go_ret
    exact ⟨⟨_, rfl, Or.inr ⟨rfl, HE.out⟩⟩, by first | trivial | rfl⟩
set_option maxHeartbeats 1600000 in
theorem size_same (u : Value) (n : Nat) (d : Nat → Int) (w : World) (U : Wi w u n d) :
    Calls Tryz.prog 18 #[u] w fun e w' => (∃ r er, e = .returned (.tuple #[.int .i64 r, .int .i64 er]) ∧ SzIs d n r er) ∧ w' = w := by
  have CF := hid (contains_any u n d w U)
  obtain ⟨ao, cap, rfl, hcap, hcap2, hv, hcell⟩ := U
  have HV := hid hv
  have HC := hid hcell
  clear hv hcell
  by_cases n8 : 8 < n
  · have S : Hid (SzIs d n 0 1) := Or.inl ⟨Or.inl n8, rfl, rfl⟩
    have n8' : (8 : Int) < (n : Int) := by omega
    clear HV HC CF
    go_enter Tryz.func18, Tryz.ntmps18
    go_wp2
    go_ret2
    exact ⟨⟨_, _, rfl, S.out⟩, by first | trivial | rfl⟩
  have n8' : ¬ (8 : Int) < (n : Int) := by omega
  go_enter Tryz.func18, Tryz.ntmps18
  go_wp2_with fail
  refine CF.out.mono ?_
  rintro e w2 ⟨⟨b, rfl, hb⟩, hw⟩
  obtain rfl := hw.symm
  clear CF
  rcases hb with ⟨rfl, E⟩ | ⟨rfl, E⟩
  · have S : Hid (SzIs d n 0 1) := Or.inl ⟨Or.inr E, rfl, rfl⟩
    clear E HV HC
    go_wp2
    go_ret2
    exact ⟨⟨_, _, rfl, S.out⟩, by first | trivial | rfl⟩
  · have S := hid E
    clear E
    go_wp2
    go_loopw [16, 4] (fun iv sv wr => ∃ (t : Nat) (z : Int), iv = .int .i64 t ∧ sv = .int .i64 z ∧ t ≤ n ∧ 1 ≤ z ∧ z ≤ 65536 ∧ Hid (z = pd d t) ∧ wr = w) (fun iv _ _ => ((n : Int) - intOf iv).toNat)
    case atStart => exact ⟨0, 1, rfl, rfl, Nat.zero_le _, by omega, by omega, rfl, rfl⟩
    case round =>
      obtain ⟨t, z, rfl, rfl, ht, hz1, hz2, HZ, hw⟩ := hrel
      obtain rfl := hw.symm
      by_cases htm : t = n
      · have htm' : ¬ (t : Int) < (n : Int) := by omega
        subst htm
        have R : Hid (SzIs d t z 0) := Or.inr ⟨by omega, S.out, Or.inr ⟨by rw [← HZ.out]; exact hz2, HZ.out, rfl⟩⟩
        clear HV HC S HZ
        go_wp2
        go_ret2
        exact ⟨⟨_, _, rfl, R.out⟩, by first | trivial | rfl⟩
      · have htm' : (t : Int) < (n : Int) := by omega
        obtain ⟨b, off, rfl, hbs, hc⟩ := HC.out (by omega)
        have ct := hc t (by omega)
        have vt := HV.out t (by omega)
        have d1 := S.out t (by omega)
        have mn := pd_mono (d := d) (n := n) S.out (t + 1) (by omega)
        have pe : pd d (t + 1) = z * d t := by show pd d t * d t = _; rw [← HZ.out]
        have q0 : Int.tdiv 65536 z = 65536 / z := Int.tdiv_eq_ediv_of_nonneg (by omega)
        have q1 := Int.mul_ediv_self_le (x := 65536) (k := z) (by omega)
        have q2 := Int.lt_mul_ediv_self_add (x := 65536) (k := z) (by omega)
        have q3 : 0 ≤ 65536 / z := Int.ediv_nonneg (by omega) (by omega)
        have q4 : 65536 / z ≤ 65536 := Int.ediv_le_self _ (by omega)
        have zne : (z == 0) = false := beq_eq_false_iff_ne.2 (by omega)
        have w0 : IntKind.i64.wrap (65536 / z) = 65536 / z := by rw [IntKind.wrap_i64]; omega
        by_cases hbig : 65536 / z < d t
        · have m1 : z * (65536 / z + 1) ≤ z * d t := Int.mul_le_mul_of_nonneg_left (by omega) (by omega)
          rw [Int.mul_add, Int.mul_one] at m1
          have R : Hid (SzIs d n 0 13) := Or.inr ⟨by omega, S.out, Or.inl ⟨by omega, rfl, rfl⟩⟩
          clear HV HC S HZ hc mn pe m1 q1 q2
          generalize d t = dt at *
          generalize 65536 / z = qz at *
          go_wp2
          go_ret2
          exact ⟨⟨_, _, rfl, R.out⟩, by first | trivial | rfl⟩
        · have m1 : z * d t ≤ z * (65536 / z) := Int.mul_le_mul_of_nonneg_left (by omega) (by omega)
          have m2 : 1 ≤ z * d t := by
            have := Int.mul_le_mul hz1 d1 (by omega) (by omega)
            omega
          have R : Hid (z * d t = pd d (t + 1)) := pe.symm
          have z3 : z * d t ≤ 65536 := by omega
          clear HC hc mn pe m1 q1 q2
          generalize d t = dt at *
          generalize 65536 / z = qz at *
          obtain ⟨zz, hzz⟩ : ∃ zz, z * dt = zz := ⟨_, rfl⟩
          rw [hzz] at R z3 m2
          have ww : IntKind.i64.wrap zz = zz := by rw [IntKind.wrap_i64]; omega
          go_wp2
          exact ⟨⟨t + 1, zz, rfl, rfl, by omega, by omega, by omega, R, by first | trivial | rfl⟩, by simp only [intOf]; omega⟩
theorem csize_any (u : Value) (n : Nat) (d : Nat → Int) (w : World) (U : Wi w u n d) :
    Calls Tryz.prog 18 #[u] w fun e w' => (∃ r er, e = .returned (.tuple #[.int .i64 r, .int .i64 er]) ∧ SzIs d n r er) ∧ Below w.heap.size w w' :=
  (size_same u n d w U).mono fun _ w' h => ⟨h.1, by rw [h.2]; exact Below.refl _ _⟩
set_option maxHeartbeats 1600000 in
theorem place_same (u v : Value) (n m : Nat) (d e : Nat → Int) (w : World) (U : Wi w u n d) (V : Wi w v m e) :
    Calls Tryz.prog 10 #[u, v] w fun e' w' => (∃ r er, e' = .returned (.tuple #[.int .i64 r, .int .i64 er]) ∧ PlIs d n e m r er) ∧ w' = w := by
  have SZ := hid (size_same u n d w U)
  obtain ⟨ao, cap, rfl, -, -, hvd, hcd⟩ := U
  obtain ⟨bo, bap, rfl, -, -, hve, hce⟩ := V
  have HVD := hid hvd
  have HCD := hid hcd
  have HVE := hid hve
  have HCE := hid hce
  clear hvd hcd hve hce
  go_enter Tryz.func10, Tryz.ntmps10
  go_wp2_with fail
  refine SZ.out.mono ?_
  rintro e' w3 ⟨⟨s, er, rfl, S⟩, hw⟩
  obtain rfl := hw.symm
  clear SZ
  by_cases e0 : er = 0
  · subst e0
    by_cases hm : m = n
    · subst hm
      have SS := hid S
      obtain ⟨n8, hd, h65, -⟩ := S.ok rfl
      have HD := hid hd
      have H65 := hid h65
      clear S hd h65
      go_wp2
      go_loopw [26, 8] (fun iv sv wr => ∃ (t : Nat) (z : Int), iv = .int .i64 t ∧ sv = .int .i64 z ∧ t ≤ m ∧ 0 ≤ z ∧ z ≤ 65536 ∧ Hid (∀ i, i < t → 0 ≤ e i ∧ e i < d i) ∧ Hid (z = pl d e t) ∧ wr = w) (fun iv _ _ => ((m : Int) - intOf iv).toNat)
      case atStart => exact ⟨0, 0, rfl, rfl, Nat.zero_le _, by omega, by omega, fun i hi => absurd hi (by omega), rfl, rfl⟩
      case round =>
        obtain ⟨t, z, rfl, rfl, ht, hz1, hz2, HE, HZ, hw⟩ := hrel
        obtain rfl := hw.symm
        by_cases htm : t = m
        · have htm' : ¬ (t : Int) < (m : Int) := by omega
          obtain rfl := htm
          have R : Hid (PlIs d t e t z 0) := Or.inr ⟨⟨s, SS.out⟩, Or.inr ⟨rfl, HE.out, HZ.out, rfl⟩⟩
          clear HVD HCD HVE HCE SS HD H65 HE HZ
          go_wp2
          go_ret2
          exact ⟨⟨_, _, rfl, R.out⟩, by first | trivial | rfl⟩
        · have htm' : (t : Int) < (m : Int) := by omega
          obtain ⟨ub, uo, hao, -, hcd⟩ := HCD.out (by omega)
          subst hao
          obtain ⟨vb, vo, hbo, -, hce⟩ := HCE.out (by omega)
          subst hbo
          have cd := hcd t (by omega)
          have ce := hce t (by omega)
          have vd := HVD.out t (by omega)
          have ve := HVE.out t (by omega)
          by_cases hr : 0 ≤ e t ∧ e t < d t
          · have HE' : Hid (∀ i, i < t + 1 → 0 ≤ e i ∧ e i < d i) := fun i hi => by
              by_cases q : i = t
              · rw [q]; exact hr
              · exact HE.out i (by omega)
            have lt := pl_lt (d := d) (e := e) (n := t + 1) HE'.out
            have mn := pd_mono (d := d) (n := m) HD.out (t + 1) (by omega)
            have pe : pl d e (t + 1) = z * d t + e t := by show pl d e t * d t + e t = _; rw [← HZ.out]
            have zm : 0 ≤ z * d t := Int.mul_nonneg hz1 (by omega)
            have h65 := H65.out
            have R : Hid (z * d t + e t = pl d e (t + 1)) := pe.symm
            have b1 : z * d t + e t ≤ 65536 := by omega
            obtain ⟨hr1, hr2⟩ := hr
            clear HE HZ SS hcd hce lt mn pe h65
            generalize d t = dt at *
            generalize e t = et at *
            obtain ⟨zz, hzz⟩ : ∃ zz, z * dt = zz := ⟨_, rfl⟩
            rw [hzz] at R zm b1
            have w1 : IntKind.i64.wrap zz = zz := by rw [IntKind.wrap_i64]; omega
            have w2 : IntKind.i64.wrap (zz + et) = zz + et := by rw [IntKind.wrap_i64]; omega
            have g1 : ¬ et < 0 := by omega
            have g2 : ¬ dt ≤ et := by omega
            go_wp2
            exact ⟨⟨t + 1, zz + et, rfl, rfl, by omega, by omega, by omega, HE', R, by first | trivial | rfl⟩, by simp only [intOf]; omega⟩
          · have R : Hid (PlIs d m e m 0 1) := Or.inr ⟨⟨s, SS.out⟩, Or.inl ⟨Or.inr ⟨t, by omega, hr⟩, rfl, rfl⟩⟩
            clear HE HZ SS hcd hce HVD HCD HVE HCE HD H65
            generalize d t = dt at *
            generalize e t = et at *
            by_cases n0 : et < 0
            · go_wp2
              go_ret2
              exact ⟨⟨_, _, rfl, R.out⟩, by first | trivial | rfl⟩
            · have g2 : dt ≤ et := by omega
              go_wp2
              go_ret2
              exact ⟨⟨_, _, rfl, R.out⟩, by first | trivial | rfl⟩
    · have R : Hid (PlIs d n e m 0 1) := Or.inr ⟨⟨s, S⟩, Or.inl ⟨Or.inl hm, rfl, rfl⟩⟩
      have hm' : ((m : Int) != (n : Int)) = true := bne_iff_ne.2 (by omega)
      clear S HVD HCD HVE HCE
      go_wp2
      go_ret2
      exact ⟨⟨_, _, rfl, R.out⟩, by first | trivial | rfl⟩
  · have R : Hid (PlIs d n e m 0 er) := Or.inl ⟨s, S, e0, rfl⟩
    have e0' : (er != 0) = true := bne_iff_ne.2 e0
    clear S HVD HCD HVE HCE
    go_wp2
    go_ret2
    exact ⟨⟨_, _, rfl, R.out⟩, by first | trivial | rfl⟩
theorem cplace_any (u v : Value) (n m : Nat) (d e : Nat → Int) (w : World) (U : Wi w u n d) (V : Wi w v m e) :
    Calls Tryz.prog 10 #[u, v] w fun e' w' => (∃ r er, e' = .returned (.tuple #[.int .i64 r, .int .i64 er]) ∧ PlIs d n e m r er) ∧ Below w.heap.size w w' :=
  (place_same u v n m d e w U V).mono fun _ w' h => ⟨h.1, by rw [h.2]; exact Below.refl _ _⟩
end Go.Proofs.YtocfenjampmdlabGreatDoor
namespace Go.Proofs.YtocfenjampmdlabGreatDoor
open Go.RowKit Num Nmb

/-- a box with more powers. -/
def wdp (d f : Nat → Int) (n : Nat) (a : Nat → Int) (ka j : Nat) : Int := sm (fun i => if pl f (dg d n i) n = j then a i else 0) ka
/-- the product of two boxes. -/
def bxp (d e f : Nat → Int) (n : Nat) (a b : Nat → Int) (ka kb j : Nat) : Int := sm (fun i => sm (fun k => if pl f (fun t => dg d n i t + dg e n k t) n = j then a i * b k else 0) kb) ka
/-- the place of coefficient i. -/
def ph (d f : Nat → Int) (n i : Nat) : Nat := (pl f (dg d n i) n).toNat
theorem pl_nn {f e : Nat → Int} : ∀ {n : Nat}, (∀ t, t < n → 0 ≤ e t ∧ 0 ≤ f t) → 0 ≤ pl f e n
  | 0, _ => by show (0 : Int) ≤ 0; omega
  | n + 1, h => by
    have h1 := pl_nn (n := n) (fun t ht => h t (by omega))
    have h2 := h n (by omega)
    have h3 := Int.mul_nonneg h1 h2.2
    show 0 ≤ pl f e n * f n + e n
    omega
theorem pl_le {f e e' : Nat → Int} : ∀ {n : Nat}, (∀ t, t < n → 0 ≤ f t) → (∀ t, t < n → e t ≤ e' t) → pl f e n ≤ pl f e' n
  | 0, _, _ => Int.le_refl _
  | n + 1, h, g => by
    have h1 := pl_le (n := n) (fun t ht => h t (by omega)) (fun t ht => g t (by omega))
    have h2 := Int.mul_le_mul_of_nonneg_right h1 (h n (by omega))
    have h3 := g n (by omega)
    show pl f e n * f n + e n ≤ pl f e' n * f n + e' n
    omega
theorem pl_add (f x y : Nat → Int) : ∀ n, pl f (fun t => x t + y t) n = pl f x n + pl f y n
  | 0 => rfl
  | n + 1 => by
    show pl f (fun t => x t + y t) n * f n + (x n + y n) = pl f x n * f n + x n + (pl f y n * f n + y n)
    rw [pl_add f x y n, Int.add_mul]
    omega
/-- the last place of a box. -/
theorem pl_last (f : Nat → Int) : ∀ n, pl f (fun t => f t - 1) n = pd f n - 1
  | 0 => rfl
  | n + 1 => by
    show pl f (fun t => f t - 1) n * f n + (f n - 1) = pd f n * f n - 1
    rw [pl_last f n, Int.sub_mul]
    omega
theorem ph_cast {d f : Nat → Int} {n : Nat} (hd : ∀ t, t < n → 1 ≤ d t) (hf : ∀ t, t < n → d t ≤ f t) (i : Nat) : ((ph d f n i : Nat) : Int) = pl f (dg d n i) n := by
  have := pl_nn (f := f) (e := dg d n i) (n := n) (fun t ht => ⟨(dg_in hd t ht).1, by have := hd t ht; have := hf t ht; omega⟩)
  unfold ph
  omega
theorem ph_lt {d f : Nat → Int} {n : Nat} (hd : ∀ t, t < n → 1 ≤ d t) (hf : ∀ t, t < n → d t ≤ f t) (i : Nat) : ((ph d f n i : Nat) : Int) ≤ pl f (fun t => d t - 1) n := by
  rw [ph_cast hd hf]
  exact pl_le (fun t ht => by have := hd t ht; have := hf t ht; omega) (fun t ht => by have := (dg_in (p := (i : Int)) hd t ht).2; omega)
theorem ph_inj {d f : Nat → Int} {n : Nat} (hd : ∀ t, t < n → 1 ≤ d t) (hf : ∀ t, t < n → d t ≤ f t) {ka i j : Nat} (hk : pd d n = ka) (hi : i < ka) (hj : j < ka) (h : ph d f n i = ph d f n j) : i = j := by
  have h1 := ph_cast hd hf i
  have h2 := ph_cast hd hf j
  have h3 : pl f (dg d n i) n = pl f (dg d n j) n := by rw [← h1, ← h2, h]
  have h4 := pl_inj (fun t ht => ⟨(dg_in (p := (i : Int)) hd t ht).1, Int.lt_of_lt_of_le (dg_in (p := (i : Int)) hd t ht).2 (hf t ht)⟩) (fun t ht => ⟨(dg_in (p := (j : Int)) hd t ht).1, Int.lt_of_lt_of_le (dg_in (p := (j : Int)) hd t ht).2 (hf t ht)⟩) h3
  have h5 : pl d (dg d n i) n = pl d (dg d n j) n := pl_eq h4
  rw [pl_dg hd (by omega) (by omega), pl_dg hd (by omega) (by omega)] at h5
  omega
theorem wdp_ph {d f : Nat → Int} {n : Nat} (hd : ∀ t, t < n → 1 ≤ d t) (hf : ∀ t, t < n → d t ≤ f t) (a : Nat → Int) (c j : Nat) : wdp d f n a c j = sm (fun i => if ph d f n i = j then a i else 0) c := by
  unfold wdp
  refine sm_eq c fun i _ => ?_
  have h1 := ph_cast hd hf i
  by_cases e : ph d f n i = j
  · rw [if_pos e, if_pos (by rw [← h1, e])]
  · rw [if_neg e, if_neg (fun h => e (by omega))]
theorem wdp_step {d f : Nat → Int} {n : Nat} (hd : ∀ t, t < n → 1 ≤ d t) (hf : ∀ t, t < n → d t ≤ f t) (a : Nat → Int) {ka c : Nat} (hk : pd d n = ka) (hc : c < ka) (j : Nat) : wdp d f n a (c + 1) j = if j = ph d f n c then a c else wdp d f n a c j := by
  rw [wdp_ph hd hf, wdp_ph hd hf, sm_succ]
  by_cases e : j = ph d f n c
  · rw [if_pos e.symm, if_pos e, sm_eq (g := fun _ => 0) c (fun i hi => if_neg (fun h => by
      have := ph_inj hd hf hk (by omega) hc (h.trans e)
      omega)), sm_zero, Int.zero_add]
  · rw [if_neg (fun h => e h.symm), if_neg e, Int.add_zero]
/-- sums over places. -/
theorem push {d f : Nat → Int} {n : Nat} (hd : ∀ t, t < n → 1 ≤ d t) (hf : ∀ t, t < n → d t ≤ f t) (a g : Nat → Int) (ka na : Nat) (hn : ∀ i, ph d f n i < na) : sm (fun x => wdp d f n a ka x * g x) na = sm (fun i => a i * g (ph d f n i)) ka := by
  rw [sm_eq (g := fun x => sm (fun i => if ph d f n i = x then a i * g x else 0) ka) na (fun x _ => by
    rw [wdp_ph hd hf, ← sm_mulr]
    refine sm_eq ka fun i _ => ?_
    by_cases e : ph d f n i = x
    · rw [if_pos e, if_pos e]
    · rw [if_neg e, if_neg e, Int.zero_mul]), sm_swap]
  refine sm_eq ka fun i _ => ?_
  exact sm_one (fun x => a i * g x) (ph d f n i) na (hn i)
theorem prd_bxp {d e f : Nat → Int} {n : Nat} (hd : ∀ t, t < n → 1 ≤ d t) (he : ∀ t, t < n → 1 ≤ e t) (hfd : ∀ t, t < n → d t ≤ f t) (hfe : ∀ t, t < n → e t ≤ f t) (a b : Nat → Int) (ka kb na nb j : Nat) (hna : ∀ i, ph d f n i < na) (hnb : ∀ k, ph e f n k < nb) :
    prd (wdp d f n a ka) (wdp e f n b kb) na nb j = bxp d e f n a b ka kb j := by
  unfold prd bxp
  rw [sm_eq (g := fun x => wdp d f n a ka x * sm (fun y => wdp e f n b kb y * (if x + y = j then 1 else 0)) nb) na (fun x _ => by
    rw [← sm_mul]
    refine sm_eq nb fun y _ => ?_
    by_cases q : x + y = j
    · rw [if_pos q, if_pos q, Int.mul_one]
    · rw [if_neg q, if_neg q, Int.mul_zero, Int.mul_zero]), push hd hfd a _ ka na hna]
  refine sm_eq ka fun i _ => ?_
  rw [push he hfe b _ kb nb hnb, ← sm_mul]
  refine sm_eq kb fun k _ => ?_
  have h1 := ph_cast hd hfd i
  have h2 := ph_cast he hfe k
  have h3 := pl_add f (dg d n i) (dg e n k) n
  by_cases q : ph d f n i + ph e f n k = j
  · rw [if_pos q, if_pos (by rw [h3]; omega), Int.mul_one]
  · rw [if_neg q, if_neg (fun h => q (by rw [h3] at h; omega)), Int.mul_zero, Int.mul_zero]
/-- how many coefficients lie behind one of the first v exponents. -/
def sp (d : Nat → Int) : Nat → Nat → Nat
  | _, 0 => 1
  | v, k + 1 => (d v).toNat * sp d (v + 1) k
theorem sp_said {d : Nat → Int} : ∀ (k v : Nat), (∀ t, t < v + k → 1 ≤ d t) → pd d v * (sp d v k : Nat) = pd d (v + k)
  | 0, v, _ => by show pd d v * 1 = pd d v; omega
  | k + 1, v, h => by
    have h1 := sp_said k (v + 1) (fun t ht => h t (by omega))
    have h2 := h v (by omega)
    rw [show v + (k + 1) = v + 1 + k by omega, ← h1]
    show pd d v * (((d v).toNat * sp d (v + 1) k : Nat) : Int) = pd d v * d v * _
    rw [Int.natCast_mul, Int.toNat_of_nonneg (by omega), Int.mul_assoc]
theorem dg_next (d f : Nat → Int) (v : Nat) (p e : Int) (he : 0 ≤ e ∧ e < d v) : pl f (dg d (v + 1) (p * d v + e)) (v + 1) = pl f (dg d v p) v * f v + e := by
  have m1 : (p * d v + e) % d v = e := by rw [Int.add_comm, Int.add_mul_emod_self_right, Int.emod_eq_of_lt he.1 he.2]
  have m2 : (p * d v + e) / d v = p := by rw [Int.add_comm, Int.add_mul_ediv_right _ _ (by omega), Int.ediv_eq_zero_of_lt he.1 he.2, Int.zero_add]
  have e1 : pl f (dg d (v + 1) (p * d v + e)) v = pl f (dg d v p) v := pl_eq fun i hi => by
    show (if i = v then _ else dg d v ((p * d v + e) / d v) i) = _
    rw [if_neg (by omega), m2]
  have e2 : dg d (v + 1) (p * d v + e) v = e := by
    show (if v = v then (p * d v + e) % d v else _) = _
    rw [if_pos rfl, m1]
  show pl f (dg d (v + 1) (p * d v + e)) v * f v + dg d (v + 1) (p * d v + e) v = _
  rw [e1, e2]
end Go.Proofs.YtocfenjampmdlabGreatDoor
namespace Go.Proofs.YtocfenjampmdlabGreatDoor
open Go.RowKit Num Nmb

theorem OnlyB.cell {g b i : Nat} {w w' : World} (h : OnlyB b w w') (hg : g ≠ b) : w'.cell? ⟨g, i, none⟩ = w.cell? ⟨g, i, none⟩ := by
  unfold World.cell?
  rw [h.block g hg]
theorem Wi.spot {w : World} {a : Option Addr} {n c : Nat} {x : Nat → Int} (h : Wi w (.slice a n c) n x) (hn : 0 < n) : ∃ b off, a = some ⟨b, off, none⟩ ∧ b < w.heap.size ∧ ∀ j, j < n → w.cell? ⟨b, off + j, none⟩ = some (.int .i64 (x j)) := by
  obtain ⟨ao, cap, e, h1, h2, h3, h5⟩ := h
  injection e with e1 e2 e3
  subst e1
  exact h5 hn
theorem Wl.spot' {w : World} {a : Option Addr} {n c : Nat} {x : Nat → Int} (h : Wl w (.slice a n c) n x) (hn : 0 < n) : ∃ b off, a = some ⟨b, off, none⟩ ∧ b < w.heap.size ∧ ∀ j, j < n → w.cell? ⟨b, off + j, none⟩ = some (.int .u64 (x j)) := by
  obtain ⟨ao, cap, e, h1, h2, h3, h5⟩ := h
  injection e with e1 e2 e3
  subst e1
  exact h5 hn
/-- what is known of the two boxes. -/
structure WlkH (w : World) (n ka K : Nat) (fo xo lo : Option Addr) (fc dc lc : Nat) (d f a : Nat → Int) : Prop where
  hF : Wi w (.slice fo n fc) n f
  hD : Wi w (.slice xo n dc) n d
  hA : Wl w (.slice lo ka lc) ka a
  hd : ∀ t, t < n → 1 ≤ d t
  hf : ∀ t, t < n → d t ≤ f t
  hka : pd d n = ka
  hk6 : ka ≤ 65536
  hf6 : pd f n ≤ 65536
  hK : ∀ i, i < ka → ph d f n i < K
  hK6 : K ≤ 65536
  hn8 : n ≤ 8
end Go.Proofs.YtocfenjampmdlabGreatDoor
namespace Go.Proofs.YtocfenjampmdlabGreatDoor
open Go.RowKit Num Nmb

end Go.Proofs.YtocfenjampmdlabGreatDoor
namespace Go.Proofs.YtocfenjampmdlabGreatDoor
open Go.RowKit Num Nmb

end Go.Proofs.YtocfenjampmdlabGreatDoor
namespace Go.Proofs.YtocfenjampmdlabGreatDoor
section
variable {P : Program} {Q : Exit → Act → World → Prop}

theorem wp_region_mono {id : Nat} {l : List Oper} (hm : P.follows .mixedOrders = true) (mk : (Nat → Value) → Act) (Rp : Nat → Value → World → Prop) (Cw : World → Prop) (T : Nat → World → World → Prop)
    (mono : ∀ i j, j ≠ i → j < l.length → waits l j i = false → ∀ v w w', T i w w' → Rp j v w → Rp j v w') (keep : ∀ i w w', T i w w' → Cw w → Cw w') (hb : backB 0 l = true)
    (step : AllOps (fun i o => ∀ s w, Cw w → Deps (fun j s w => Rp j (s j) w) s w o.after.toList → ∀ K : Act → World → Prop, (∀ v w', T i w w' → Rp i v w' → K (mk (upd s i v)) w') → o.wp P (mk s) w K Q) 0 l)
    (fin : ∀ s w, Cw w → (∀ j, j < l.length → Rp j (s j) w) → Q .normal (mk s) w)
    (s : Nat → Value) (a : Act) (w : World) (ha : a = mk s) (h0 : Cw w.drew) : (Code.region id l.toArray true).wp P Q a w := by
  refine wp_region_each hm mk (fun j s w => Rp j (s j) w) (fun _ w => Cw w) hb ?_ fin s a w ha h0
  have gen : ∀ (L : List Oper) (k : Nat), AllOps (fun i o => ∀ s w, Cw w → Deps (fun j s w => Rp j (s j) w) s w o.after.toList → ∀ K : Act → World → Prop, (∀ v w', T i w w' → Rp i v w' → K (mk (upd s i v)) w') → o.wp P (mk s) w K Q) k L →
      AllOps (fun i o => ∀ s w, Cw w → Deps (fun j s w => Rp j (s j) w) s w o.after.toList → ∀ K : Act → World → Prop, (∀ v w', Cw w' → Rp i (upd s i v i) w' → (∀ j, j < l.length → j ≠ i → waits l j i = false → Rp j (s j) w → Rp j (upd s i v j) w') → K (mk (upd s i v)) w') → o.wp P (mk s) w K Q) k L := by
    intro L
    induction L with
    | nil => intro _ _; trivial
    | cons o L ih =>
      intro k h
      refine ⟨fun s w hC hd K hK => h.1 s w hC hd K fun v w' ht hr => hK v w' (keep k w w' ht hC) (by rw [upd_same]; exact hr) (fun j hj hne hw hr' => by rw [upd_other s v hne]; exact mono k j hne hj hw _ w w' ht hr'), ih (k + 1) h.2⟩
  exact gen l 0 step
end
end Go.Proofs.YtocfenjampmdlabGreatDoor
namespace Go.Proofs.YtocfenjampmdlabGreatDoor
open Go.RowKit Num Nmb

/-- no box, an error. -/
def noBox (er : Int) (e : Ending) : Prop := ∃ xo xc lo lc, e = .returned (.tuple #[.agg #[.slice xo 0 xc, .slice lo 0 lc], .int .i64 er])
end Go.Proofs.YtocfenjampmdlabGreatDoor
