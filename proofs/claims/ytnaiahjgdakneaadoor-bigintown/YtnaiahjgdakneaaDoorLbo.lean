/- The law BigintOwn, walked. -/
import Derived.Test.YtnaiahjgdakneaaDoorBow
import Derived.Test.YtnaiahjgdakneaaDoorAwb
namespace Go.Proofs.YtnaiahjgdakneaaDoor
open Go.RowKit Num

/-- all along: the number x in its variable, the old memory. -/
structure Keeps (W : World) (gx : Nat) (p : Bool) (ao : Option Addr) (k c n : Nat) (A : Int) (w : World) : Prop where
  old : Below W.heap.size W w
  var : Var w gx p ao k c
  num : It w (.agg #[.bool p, .slice ao k c]) n A
theorem Keeps.go {W w w' : World} {gx k c n : Nat} {p : Bool} {ao : Option Addr} {A : Int} (h : Keeps W gx p ao k c n A w) (b : Below w.heap.size w w') : Keeps W gx p ao k c n A w' :=
  ⟨bt h.old b, h.var.go b, h.num.below b⟩
theorem Keeps.only {W w w' : World} {gx k c n g B : Nat} {p : Bool} {ao : Option Addr} {A : Int} (h : Keeps W gx p ao k c n A w) (o : Only g w w') (hg : W.heap.size ≤ g) (hne : gx ≠ g) (hu : Up B ao k) (hB : g < B) : Keeps W gx p ao k c n A w' :=
  ⟨h.old.trans (o.below hg), h.var.at o hne, h.num.apart hu hB o⟩
theorem OwnW.go {w w' : World} {base g k cap : Nat} {X : Nat → Int} (h : OwnW w base g k cap X) (b : Below w.heap.size w w') : OwnW w' base g k cap X := by
  have hb := b.block g h.lt.2
  obtain ⟨h1, h2⟩ := h
  refine ⟨h1, ?_⟩
  rcases h2 with ⟨e, _⟩ | ⟨g', cap', cur, e, r1, r2, r3⟩
  · cases e
  · simp at e
    obtain ⟨rfl, rfl⟩ := e
    exact Or.inr ⟨g, cap, cur, rfl, r1, by rw [hb]; exact r2, r3⟩
/-- a copy that may be written into, apart from x. -/
def Mine (base B gx : Nat) (v : Value) (n : Nat) (w : World) : Prop := n = 0 ∨ ∃ b g cap X, v = .slice (some ⟨g, 0, none⟩) n cap ∧ OwnW w b g n cap X ∧ g < B ∧ gx ≠ g ∧ base ≤ g
theorem Mine.go {base B gx n : Nat} {v : Value} {w w' : World} (h : Mine base B gx v n w) (b : Below w.heap.size w w') : Mine base B gx v n w' := by
  rcases h with h | ⟨b', g, cap, X, h1, h2, h3⟩
  · exact Or.inl h
  · exact Or.inr ⟨b', g, cap, X, h1, h2.go b, h3⟩
theorem blk2 {w : World} {g : Nat} {u v : Value} {t : TypeId} (h : Blk w g #[u, v] t) : w.cell? ⟨g, 0, none⟩ = some u ∧ w.cell? ⟨g, 1, none⟩ = some v ∧ g < w.heap.size := by
  have hl := Blk.lt h
  unfold Blk at h
  exact ⟨by simp only [World.cell?, h]; rfl, by simp only [World.cell?, h]; rfl, hl⟩
theorem Blk.go {w w' : World} {g : Nat} {cs : Array Value} {t : TypeId} (h : Blk w g cs t) (b : Below w.heap.size w w') : Blk w' g cs t := h.below b (Blk.lt h)
set_option maxHeartbeats 1600000 in
theorem few_any (neg : Bool) (ao : Option Addr) (n c : Nat) (w : World) :
    Calls Tryd.prog 10 #[.agg #[.bool neg, .slice ao n c]] w fun e w' => e = .returned (.bool (decide (n ≤ 8))) ∧ Below w.heap.size w w' := by
  have e : decide ((n : Int) ≤ 8) = decide (n ≤ 8) := by
    by_cases h : n ≤ 8
    · rw [decide_eq_true h, decide_eq_true (show (n : Int) ≤ 8 by omega)]
    · rw [decide_eq_false h, decide_eq_false (show ¬ (n : Int) ≤ 8 by omega)]
  go_enter Tryd.func10, Tryd.ntmps10
  go_wp2
  go_ret
  exact ⟨by rw [← e]; rfl, below_new w _⟩
set_option maxHeartbeats 3200000 in
set_option maxRecDepth 100000 in
theorem own_few (neg : Bool) (ao : Option Addr) (n c : Nat) (x : Nat → Int) (o : Nat) (w : World) (hx : Sl w (.slice ao n c) n x o) (hn : n ≤ 8) (ht : Tab w) :
    Calls Tryd.prog 4 #[.agg #[.bool neg, .slice ao n c]] w fun e w' => e = .returned (.bool true) ∧ Below w.heap.size w w' := by
  have HT := hid ht
  have F1 := hid (few_any neg ao n c (w.alloc (.cells #[.bool neg, .slice ao n c] 38)))
  rw [decide_eq_true hn] at F1
  have A1 : Hid (Blk (w.alloc (.cells #[.bool neg, .slice ao n c] 38)) w.heap.size #[.bool neg, .slice ao n c] 38) := Blk.new _ _ _
  have B1 := hid (below_new w (.cells #[.bool neg, .slice ao n c] 38))
  have X1 := hid (hx.below B1.out)
  clear ht hx
  go_enter Tryd.func4, Tryd.ntmps4
  go_wp2_with fail
  generalize w.alloc (.cells #[.bool neg, .slice ao n c] 38) = wa at *
  refine F1.out.mono ?_
  rintro e wb ⟨rfl, C⟩
  have A2 := hid (A1.out.go C)
  have B2 := hid (bt B1.out C)
  have X2 := hid (X1.out.below C)
  clear C A1 B1 X1 F1
  obtain ⟨a0, a1, a2⟩ := blk2 A2.out
  go_wp2_with (at_builtin; refine wp_copyown _ rfl _ _ rfl rfl (.slice ao n c) rfl n x o X2.out (by omega) ?_; intro vm w1 SM C1 OM; have A3 := hid (A2.out.go C1); have B3 := hid (bt B2.out C1); have SM' := hid SM; have OM' := hid OM; clear SM OM C1 a0 a1 a2; obtain ⟨a0, a1, a2⟩ := blk2 A3.out)
  obtain ⟨am, cm, rfl, cm1, cm2, _⟩ := SM'.out
  refine (From_own neg _ n (V x o n) w1 ⟨x, o, SM'.out, rfl⟩ (by omega)).mono ?_
  rintro e w2 ⟨p, ax, kx, cx, rfl, I, UP, C2⟩
  have K1 : Hid (Keeps w w2.heap.size p ax kx cx n (sg neg (V x o n)) (w2.alloc (.cells #[.bool p, .slice ax kx cx] 26))) := ⟨bt (bt B3.out C2) (below_new _ _), var_mk _ _ _ _ _, I.alloc _⟩
  have UP' := hid UP
  have C2' := hid C2
  have Bw2 := hid (below_new w2 (.cells #[.bool p, .slice ax kx cx] 26))
  generalize sg neg (V x o n) = A at *
  have B3' := hid B3.out
  have BB2 := hid B2.out
  clear I UP C2 A3 B3 A2 B2 X2 a0 a1 a2
  go_wp2_with fail
  generalize w2.alloc (.cells #[.bool p, .slice ax kx cx] 26) = w3 at *
  generalize hgx : w2.heap.size = gx at *
  obtain ⟨y0, y1, y2, y3, y4⟩ := Var.facts K1.out.var
  have G1 : Hid (Mine w.heap.size w1.heap.size gx (.slice am n cm) n w3) := by
    rcases OM'.out with h | ⟨g, cap, h1, h2⟩
    · exact Or.inl h
    · have hl := h2.lt
      have hs := C2'.out.size
      have h3 := (h2.go C2'.out).go (by rw [hgx]; exact Bw2.out)
      exact Or.inr ⟨_, g, cap, _, h1, h3, hl.2, by omega, Nat.le_trans BB2.out.size hl.1⟩
  have HGX := hid hgx
  have Bw1 := B3'.out.size
  clear OM' SM' C2' Bw2 hgx BB2 B3'
  refine (Print_any _ n A _ K1.out.num (by omega) (HT.out.below K1.out.old HT.out.lt)).mono ?_
  rintro e w4 ⟨rfl, C4⟩
  have K2 := hid (K1.out.go C4)
  have G2 := hid (G1.out.go C4)
  clear K1 G1 C4 y0 y1 y2 y3 y4
  obtain ⟨txt, htx⟩ : ∃ t : ByteArray, (⟨(idt A).toArray⟩ : ByteArray) = t := ⟨_, rfl⟩
  rw [htx]
  have TX := hid htx
  clear htx
  go_wp2
  go_loopw [6] (fun iv wr => ∃ i : Nat, iv = .int .i64 i ∧ i ≤ n ∧ Hid (Keeps w gx p ax kx cx n A wr ∧ Mine w.heap.size w1.heap.size gx (.slice am n cm) n wr)) (fun iv _ => (n - intOf iv).toNat)
  case atStart => exact ⟨0, rfl, by omega, K2.out, G2.out⟩
  case round =>
    obtain ⟨i, rfl, hi, R⟩ := hrel
    clear K2 G2
    by_cases hd : i = n
    · have hd' : ¬ (i : Int) < (n : Int) := by omega
      have K3 := hid R.out.1
      obtain ⟨y0, y1, y2, y3, y4⟩ := Var.facts K3.out.var
      clear R
      go_wp2_with fail
      generalize wr = wN at *
      refine (Nat_any _ n A wN K3.out.num (by omega)).mono ?_
      rintro e w5 ⟨k5, g5, X5, rfl, hg5, R5, _, _, _, hk5, C5⟩
      have RR5 := hid R5
      have CC5 := hid C5
      clear R5 C5 y0 y1 y2 y3 y4
      go_wp2
      go_loopw [8] (fun iv wr => ∃ (j : Nat) (Z : Nat → Int), iv = .int .i64 j ∧ j ≤ k5 ∧ Hid (Row wr g5 k5 Z ∧ Below wN.heap.size wN wr)) (fun iv _ => (k5 - intOf iv).toNat)
      case atStart => exact ⟨0, X5, rfl, by omega, RR5.out, CC5.out⟩
      case round =>
        obtain ⟨j, Z, rfl, hj, R⟩ := hrel
        clear RR5 CC5
        by_cases hjk : j = k5
        · have hj' : ¬ (j : Int) < (k5 : Int) := by omega
          have K4 := hid (K3.out.go R.out.2)
          obtain ⟨y0, y1, y2, y3, y4⟩ := Var.facts K4.out.var
          clear R
          go_wp2_with fail
          refine (Add_any _ _ n n A A _ K4.out.num K4.out.num (by omega) (by omega)).mono ?_
          rintro e w6 ⟨v6, rfl, _, C6⟩
          have K5 := hid (K4.out.go C6)
          clear C6 K4 y0 y1 y2 y3 y4
          obtain ⟨y0, y1, y2, y3, y4⟩ := Var.facts K5.out.var
          go_wp2_with fail
          refine (Neg_any _ n A _ K5.out.num (by omega)).mono ?_
          rintro e w7 ⟨v7, rfl, _, C7⟩
          have K6 := hid (K5.out.go C7)
          clear C7 K5 y0 y1 y2 y3 y4
          obtain ⟨y0, y1, y2, y3, y4⟩ := Var.facts K6.out.var
          go_wp2_with fail
          refine (Mul_any _ _ n n A A _ K6.out.num K6.out.num (by omega) (by omega)).mono ?_
          rintro e w8 ⟨v8, rfl, _, C8⟩
          have K7 := hid (K6.out.go C8)
          clear C8 K6 y0 y1 y2 y3 y4
          obtain ⟨y0, y1, y2, y3, y4⟩ := Var.facts K7.out.var
          go_wp2_with fail
          have PR := Print_any _ n A _ K7.out.num (by omega) (HT.out.below K7.out.old HT.out.lt)
          rw [TX.out] at PR
          refine PR.mono ?_
          rintro e w9 ⟨rfl, C9⟩
          have B9 := hid (bt K7.out.old C9)
          clear C9 K7 y0 y1 y2 y3 y4
          go_wp2_with fail
          refine (awake_any _ (HT.out.below B9.out HT.out.lt)).mono ?_
          rintro e w10 ⟨rfl, C10⟩
          have B10 := hid (bt B9.out C10)
          clear C10
          go_wp2
          go_ret
          exact ⟨rfl, B10.out⟩
        · have hj' : (j : Int) < (k5 : Int) := by omega
          have j0 : (0 : Int) ≤ (j : Int) := by omega
          have j8 : (j : Int) < 8 := by omega
          have o1 := R.out.1.cell (i := j) (by omega)
          have o2 := R.out.1.frozen j
          go_wp2
          exact ⟨⟨j + 1, _, rfl, by omega, R.out.1.set j 7, R.out.2.trans (((Only.refl g5 wr).set j _).below hg5)⟩, by simp only [intOf]; omega⟩
    · have hd' : (i : Int) < (n : Int) := by omega
      have i0 : (0 : Int) ≤ (i : Int) := by omega
      have i8 : (i : Int) < 8 := by omega
      rcases R.out.2 with h | ⟨b, g, cap, X, e, OW, g1, g2, g3⟩
      · omega
      · simp only [Value.slice.injEq] at e
        obtain ⟨rfl, _, rfl⟩ := e
        have KK := hid R.out.1
        have OO := hid OW
        have o1 := OW.cell (j := i) (by omega)
        have o2 : wr.frozen? ⟨g, i, none⟩ = false := World.ownsRow.frozenAt OW i
        have hcap := OW.caps
        clear R OW
        go_wp2
        exact ⟨⟨i + 1, rfl, by omega, KK.out.only ((Only.refl g wr).set i _) g3 g2 UP'.out g1, Or.inr ⟨b, g, cm, _, rfl, OO.out.set i _, g1, g2, g3⟩⟩, by simp only [intOf]; omega⟩
set_option maxHeartbeats 1600000 in
set_option maxRecDepth 100000 in
theorem own_law (neg : Bool) (ao : Option Addr) (n c : Nat) (x : Nat → Int) (o : Nat) (w : World) (hx : Sl w (.slice ao n c) n x o) (ht : Tab w) :
    Calls Tryd.prog 4 #[.agg #[.bool neg, .slice ao n c]] w fun e w' => e = .returned (.bool true) ∧ Below w.heap.size w w' := by
  by_cases hn : n ≤ 8
  · exact own_few neg ao n c x o w hx hn ht
  · have HT := hid ht
    have F1 := hid (few_any neg ao n c (w.alloc (.cells #[.bool neg, .slice ao n c] 38)))
    rw [decide_eq_false hn] at F1
    have B1 := hid (below_new w (.cells #[.bool neg, .slice ao n c] 38))
    clear ht hx hn
    go_enter Tryd.func4, Tryd.ntmps4
    go_wp2_with fail
    generalize w.alloc (.cells #[.bool neg, .slice ao n c] 38) = wa at *
    refine F1.out.mono ?_
    rintro e wb ⟨rfl, C⟩
    have B2 := hid (bt B1.out C)
    clear C F1 B1
    go_wp2_with fail
    refine (awake_any _ (HT.out.below B2.out HT.out.lt)).mono ?_
    rintro e w10 ⟨rfl, C10⟩
    have B10 := hid (bt B2.out C10)
    clear C10
    go_wp2
    go_ret
    exact ⟨rfl, B10.out⟩
end Go.Proofs.YtnaiahjgdakneaaDoor
