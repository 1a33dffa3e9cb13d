/- Products of boxes that are none, in the landed conv. -/
/- Products of boxes, in the landed conv. -/
import Derived.Test.YtocfenjampmdlaaGreatDoorDr
import Derived.Test.YtocfenjampmdlaaGreatDoorDl
import Derived.Test.YtocfenjampmdlaaGreatDoorRgx
namespace Go.Proofs.YtocfenjampmdlaaGreatDoor
open Go.RowKit Num Nmb

/-- no box, an error. -/
def noBox (er : Int) (e : Ending) : Prop := ∃ xo xc lo lc, e = .returned (.tuple #[.agg #[.slice xo 0 xc, .slice lo 0 lc], .int .i64 er])
theorem ret_box {fn : Func} {tmps : Array Value} {w : World} {t u : Tmp} {g : Nat} {x y v : Value} (_hx : x.oneCell' = true) (h0 : w.cell? ⟨g, 0, none⟩ = some x) (h1 : w.cell? ⟨g, 1, none⟩ = some y) (h : fn.results = #[.cell t 47, .tmp u]) (ht : tmps[t]?.getD undef = .pointer (some ⟨g, 0, none⟩)) (hu : tmps[u]?.getD undef = v) :
    (results fn tmps).run Tryz.prog w = .ok (.tuple #[.agg #[x, y], v]) w := by
  simp [results, h, go_sem, ht, hu, h0, h1]
/-- the three variables of Mul. -/
structure MulE (w W : World) (ud ul vd vl : Value) : Prop where
  ra : Rv W w.heap.size 47 2 (fun j => if j = 0 then ud else ul)
  rb : Rv W (w.heap.size + 1) 47 2 (fun j => if j = 0 then vd else vl)
  rr : Rv W (w.heap.size + 2) 47 2 (fun _ => .slice none 0 0)
  bel : Below w.heap.size w W
  size : w.heap.size + 3 ≤ W.heap.size
theorem MulE.below {w W W' : World} {ud ul vd vl : Value} (h : MulE w W ud ul vd vl) (hb : Below W.heap.size W W') : MulE w W' ud ul vd vl :=
  ⟨h.ra.below hb h.ra.lt, h.rb.below hb h.rb.lt, h.rr.below hb h.rr.lt, h.bel.trans (hb.mono h.bel.size), Nat.le_trans h.size hb.size⟩
theorem MulE.new (w : World) (ud ul vd vl : Value) : MulE w (((w.alloc (.cells #[ud, ul] 47)).alloc (.cells #[vd, vl] 47)).alloc (.cells #[.slice none 0 0, .slice none 0 0] 47)) ud ul vd vl := by
  have two : ∀ (w : World) (x y : Value), Rv (w.alloc (.cells #[x, y] 47)) w.heap.size 47 2 (fun j => if j = 0 then x else y) := fun w x y => Rv.new w _ _ _ _ rfl fun j hj => by
    match j, hj with
    | 0, _ => rfl
    | 1, _ => rfl
  have a1 := two w ud ul
  have a2 := two (w.alloc (.cells #[ud, ul] 47)) vd vl
  have a3 := two ((w.alloc (.cells #[ud, ul] 47)).alloc (.cells #[vd, vl] 47)) (.slice none 0 0) (.slice none 0 0)
  have z1 : (w.alloc (.cells #[ud, ul] 47)).heap.size = w.heap.size + 1 := by simp
  have z2 : ((w.alloc (.cells #[ud, ul] 47)).alloc (.cells #[vd, vl] 47)).heap.size = w.heap.size + 2 := by simp
  have b2 := below_new' (w.alloc (.cells #[ud, ul] 47)) (.cells #[vd, vl] 47)
  have b3 := below_new' ((w.alloc (.cells #[ud, ul] 47)).alloc (.cells #[vd, vl] 47)) (.cells #[.slice none 0 0, .slice none 0 0] 47)
  rw [z1] at a2 b2
  rw [z2] at a3 b3
  exact ⟨(a1.below b2 (by omega)).below b3 (by omega), a2.below b3 (by omega), a3.eq (fun j _ => by by_cases e : j = 0 <;> simp [e]), (below_new' w _).trans ((b2.mono (by omega)).trans (b3.mono (by omega))), by simp⟩
theorem MulE.ret {w W : World} {ud ul vd vl : Value} (h : MulE w W ud ul vd vl) (x y : Value) :
    ((W.setCell ⟨w.heap.size + 1 + 1, 0, none⟩ x).setCell ⟨w.heap.size + 1 + 1, 1, none⟩ y).cell? ⟨w.heap.size + 1 + 1, 0, none⟩ = some x ∧ ((W.setCell ⟨w.heap.size + 1 + 1, 0, none⟩ x).setCell ⟨w.heap.size + 1 + 1, 1, none⟩ y).cell? ⟨w.heap.size + 1 + 1, 1, none⟩ = some y ∧ OnlyB (w.heap.size + 1 + 1) W ((W.setCell ⟨w.heap.size + 1 + 1, 0, none⟩ x).setCell ⟨w.heap.size + 1 + 1, 1, none⟩ y) := by
  have r := (h.rr.set (D := fun j => if j = 0 then x else .slice none 0 0) 0 x (fun _ _ => rfl)).set (D := fun j => if j = 1 then y else if j = 0 then x else .slice none 0 0) 1 y (fun _ _ => rfl)
  exact ⟨r.cell (i := 0) (by omega), r.cell (i := 1) (by omega), ((OnlyB.refl _ W).set 0 x).set 1 y⟩
set_option maxHeartbeats 1600000 in
theorem cmulb_arg (ud ul vd vl : Value) (n m ka kb : Nat) (d e a b : Nat → Int) (M : Int) (w : World) (UD : Wi w ud n d) (UL : Wl w ul ka a) (VD : Wi w vd m e) (VL : Wl w vl kb b) (_hM : 0 ≤ M ∧ M ≤ 18446744073709551615) (h : (M < 2 ∨ 9223372036854775807 < M) ∨ ¬ SzIs d n ka 0 ∨ ¬ SzIs e m kb 0 ∨ n ≠ m) :
    Calls Tryz.prog 25 #[.agg #[ud, ul], .agg #[vd, vl], .int .u64 M] w fun e' w' => noBox 1 e' ∧ Below w.heap.size w w' := by
  have MA : Hid (∀ W, Below w.heap.size w W → Calls Tryz.prog 40 #[.agg #[ud, ul]] W fun e w' => (∃ b, e = .returned (.bool b) ∧ (b = true ∧ SzIs d n ka 0 ∨ b = false ∧ ¬ SzIs d n ka 0)) ∧ Below W.heap.size W w') := fun W B => mayBe_any ud ul n ka d a W (UD.below B) (UL.below B)
  have MB : Hid (∀ W, Below w.heap.size w W → Calls Tryz.prog 40 #[.agg #[vd, vl]] W fun e' w' => (∃ b, e' = .returned (.bool b) ∧ (b = true ∧ SzIs e m kb 0 ∨ b = false ∧ ¬ SzIs e m kb 0)) ∧ Below W.heap.size W w') := fun W B => mayBe_any vd vl m kb e b W (VD.below B) (VL.below B)
  have MD := hid (fun W => mayDivide_any M W)
  have E0 := hid (MulE.new w ud ul vd vl)
  have RET : Hid (∀ W, MulE w W ud ul vd vl → ((W.setCell ⟨w.heap.size + 1 + 1, 0, none⟩ (.slice none 0 0)).setCell ⟨w.heap.size + 1 + 1, 1, none⟩ (.slice none 0 0)).cell? ⟨w.heap.size + 1 + 1, 0, none⟩ = some (.slice none 0 0) ∧ ((W.setCell ⟨w.heap.size + 1 + 1, 0, none⟩ (.slice none 0 0)).setCell ⟨w.heap.size + 1 + 1, 1, none⟩ (.slice none 0 0)).cell? ⟨w.heap.size + 1 + 1, 1, none⟩ = some (.slice none 0 0) ∧ Below w.heap.size w ((W.setCell ⟨w.heap.size + 1 + 1, 0, none⟩ (.slice none 0 0)).setCell ⟨w.heap.size + 1 + 1, 1, none⟩ (.slice none 0 0))) := fun W E => by
    obtain ⟨r0, r1, o⟩ := E.ret (.slice none 0 0) (.slice none 0 0)
    exact ⟨r0, r1, E.bel.trans (o.below.mono (by omega))⟩
  have CEL : Hid (∀ W, MulE w W ud ul vd vl → W.cell? ⟨w.heap.size, 0, none⟩ = some ud ∧ W.cell? ⟨w.heap.size, 1, none⟩ = some ul ∧ W.cell? ⟨w.heap.size + 1, 0, none⟩ = some vd ∧ W.cell? ⟨w.heap.size + 1, 1, none⟩ = some vl) := fun W E => ⟨E.ra.cell (i := 0) (by omega), E.ra.cell (i := 1) (by omega), E.rb.cell (i := 0) (by omega), E.rb.cell (i := 1) (by omega)⟩
  have FIN : Hid (∀ W, MulE w W ud ul vd vl → W.cell? ⟨w.heap.size + 2, 0, none⟩ = some (.slice none 0 0) ∧ W.cell? ⟨w.heap.size + 2, 1, none⟩ = some (.slice none 0 0) ∧ W.frozen? ⟨w.heap.size + 2, 0, none⟩ = false ∧ W.frozen? ⟨w.heap.size + 2, 1, none⟩ = false) := fun W E => ⟨E.rr.cell (by omega), E.rr.cell (by omega), E.rr.frozen _, E.rr.frozen _⟩
  have HH := hid h
  obtain ⟨xo, xc, rfl, -⟩ := UD
  obtain ⟨lo, lc, rfl, -⟩ := UL
  obtain ⟨yo, yc, rfl, -⟩ := VD
  obtain ⟨ko, kc, rfl, -⟩ := VL
  clear h
  go_enter Tryz.func25, Tryz.ntmps25
  go_wp2_with fail
  refine (MD.out _).mono ?_
  rintro e w3 ⟨rfl, hw⟩
  obtain rfl := hw.symm
  generalize ((w.alloc (.cells #[.slice xo n xc, .slice lo ka lc] 47)).alloc (.cells #[.slice yo m yc, .slice ko kb kc] 47)).alloc (.cells #[.slice none 0 0, .slice none 0 0] 47) = W at *
  by_cases h1 : 2 ≤ M ∧ M ≤ 9223372036854775807
  · rw [decide_eq_true h1]
    obtain ⟨a0, a1, a2, a3⟩ := CEL.out W E0.out
    go_wp2_with fail
    refine (MA.out W E0.out.bel).mono ?_
    rintro e' W2 ⟨⟨b1, rfl, hb1⟩, B2⟩
    have E2 := hid (E0.out.below B2)
    clear E0 B2 a0 a1 a2 a3
    rcases hb1 with ⟨rfl, S1⟩ | ⟨rfl, S1⟩
    · obtain ⟨a0, a1, a2, a3⟩ := CEL.out W2 E2.out
      go_wp2_with fail
      refine (MB.out W2 E2.out.bel).mono ?_
      rintro e' W3 ⟨⟨b2, rfl, hb2⟩, B3⟩
      have E3 := hid (E2.out.below B3)
      clear E2 B3 a0 a1 a2 a3
      rcases hb2 with ⟨rfl, S2⟩ | ⟨rfl, S2⟩
      · have nm : n ≠ m := by
          rcases HH.out with h | h | h | h
          · omega
          · exact absurd S1 h
          · exact absurd S2 h
          · exact h
        have nm' : ((n : Int) != (m : Int)) = true := bne_iff_ne.2 (by omega)
        obtain ⟨a0, a1, a2, a3⟩ := CEL.out W3 E3.out
        clear S1 S2 nm
        have E9 := E3
        clear E3
        generalize hW9 : W3 = W9 at *
        clear hW9
        obtain ⟨f0, f1, f2, f3⟩ := FIN.out W9 E9.out
        have RT := hid (RET.out W9 E9.out)
        clear MA MB MD HH E9 FIN RET CEL
        go_wp2
        refine bodyPost_ret (ret_box rfl RT.out.1 RT.out.2.1 rfl rfl rfl) rfl ?_
        exact ⟨⟨_, _, _, _, rfl⟩, RT.out.2.2⟩
      · clear S1 S2
        have E9 := E3
        clear E3
        generalize hW9 : W3 = W9 at *
        clear hW9
        obtain ⟨f0, f1, f2, f3⟩ := FIN.out W9 E9.out
        have RT := hid (RET.out W9 E9.out)
        clear MA MB MD HH E9 FIN RET CEL
        go_wp2
        refine bodyPost_ret (ret_box rfl RT.out.1 RT.out.2.1 rfl rfl rfl) rfl ?_
        exact ⟨⟨_, _, _, _, rfl⟩, RT.out.2.2⟩
    · clear S1
      have E9 := E2
      clear E2
      generalize hW9 : W2 = W9 at *
      clear hW9
      obtain ⟨f0, f1, f2, f3⟩ := FIN.out W9 E9.out
      have RT := hid (RET.out W9 E9.out)
      clear MA MB MD HH E9 FIN RET CEL
      go_wp2
      refine bodyPost_ret (ret_box rfl RT.out.1 RT.out.2.1 rfl rfl rfl) rfl ?_
      exact ⟨⟨_, _, _, _, rfl⟩, RT.out.2.2⟩
  · rw [decide_eq_false h1]
    have E9 := E0
    clear E0 h1
    generalize hW9 : W = W9 at *
    clear hW9
    obtain ⟨f0, f1, f2, f3⟩ := FIN.out W9 E9.out
    have RT := hid (RET.out W9 E9.out)
    clear MA MB MD HH E9 FIN RET CEL
    go_wp2
    refine bodyPost_ret (ret_box rfl RT.out.1 RT.out.2.1 rfl rfl rfl) rfl ?_
    exact ⟨⟨_, _, _, _, rfl⟩, RT.out.2.2⟩
end Go.Proofs.YtocfenjampmdlaaGreatDoor
namespace Go.Proofs.YtocfenjampmdlaaGreatDoor
open Go.RowKit Num Nmb

set_option maxHeartbeats 3200000 in
theorem cmulb_limit (ud ul vd vl : Value) (n ka kb : Nat) (d e a b : Nat → Int) (M : Nat) (w : World) (UD : Wi w ud n d) (UL : Wl w ul ka a) (VD : Wi w vd n e) (VL : Wl w vl kb b) (h2 : 2 ≤ M) (h63 : M ≤ 9223372036854775807) (S1 : SzIs d n ka 0) (S2 : SzIs e n kb 0) (S3 : SzIs (fun t => d t + e t - 1) n 0 13) :
    Calls Tryz.prog 25 #[.agg #[ud, ul], .agg #[vd, vl], .int .u64 M] w fun e' w' => noBox 13 e' ∧ Below w.heap.size w w' := by
  have MA : Hid (∀ W, Below w.heap.size w W → Calls Tryz.prog 40 #[.agg #[ud, ul]] W fun e w' => (∃ b, e = .returned (.bool b) ∧ (b = true ∧ SzIs d n ka 0 ∨ b = false ∧ ¬ SzIs d n ka 0)) ∧ Below W.heap.size W w') := fun W B => mayBe_any ud ul n ka d a W (UD.below B) (UL.below B)
  have MB : Hid (∀ W, Below w.heap.size w W → Calls Tryz.prog 40 #[.agg #[vd, vl]] W fun e' w' => (∃ b, e' = .returned (.bool b) ∧ (b = true ∧ SzIs e n kb 0 ∨ b = false ∧ ¬ SzIs e n kb 0)) ∧ Below W.heap.size W w') := fun W B => mayBe_any vd vl n kb e b W (VD.below B) (VL.below B)
  have MD := hid (mayDivide_any M)
  rw [show decide (2 ≤ (M : Int) ∧ (M : Int) ≤ 9223372036854775807) = true from decide_eq_true (by omega)] at MD
  have E0 := hid (MulE.new w ud ul vd vl)
  have RET : Hid (∀ W, MulE w W ud ul vd vl → ∀ x y, ((W.setCell ⟨w.heap.size + 1 + 1, 0, none⟩ x).setCell ⟨w.heap.size + 1 + 1, 1, none⟩ y).cell? ⟨w.heap.size + 1 + 1, 0, none⟩ = some x ∧ ((W.setCell ⟨w.heap.size + 1 + 1, 0, none⟩ x).setCell ⟨w.heap.size + 1 + 1, 1, none⟩ y).cell? ⟨w.heap.size + 1 + 1, 1, none⟩ = some y ∧ OnlyB (w.heap.size + 1 + 1) W ((W.setCell ⟨w.heap.size + 1 + 1, 0, none⟩ x).setCell ⟨w.heap.size + 1 + 1, 1, none⟩ y)) := fun W E x y => E.ret x y
  have CEL : Hid (∀ W, MulE w W ud ul vd vl → W.cell? ⟨w.heap.size, 0, none⟩ = some ud ∧ W.cell? ⟨w.heap.size, 1, none⟩ = some ul ∧ W.cell? ⟨w.heap.size + 1, 0, none⟩ = some vd ∧ W.cell? ⟨w.heap.size + 1, 1, none⟩ = some vl) := fun W E => ⟨E.ra.cell (i := 0) (by omega), E.ra.cell (i := 1) (by omega), E.rb.cell (i := 0) (by omega), E.rb.cell (i := 1) (by omega)⟩
  have FIN : Hid (∀ W, MulE w W ud ul vd vl → W.cell? ⟨w.heap.size + 2, 0, none⟩ = some (.slice none 0 0) ∧ W.cell? ⟨w.heap.size + 2, 1, none⟩ = some (.slice none 0 0) ∧ W.frozen? ⟨w.heap.size + 2, 0, none⟩ = false ∧ W.frozen? ⟨w.heap.size + 2, 1, none⟩ = false) := fun W E => ⟨E.rr.cell (by omega), E.rr.cell (by omega), E.rr.frozen _, E.rr.frozen _⟩
  obtain ⟨n8, hd, h65, hka⟩ := S1.ok rfl
  obtain ⟨-, he, h65e, hkb⟩ := S2.ok rfl
  have dle : ∀ t, t < n → d t ≤ 65536 := fun t ht => Int.le_trans (Int.le_trans (pd_step (d := d) (n := t) (fun i hi => hd i (by omega))).2 (pd_mono hd (t + 1) (by omega))) h65
  have ele : ∀ t, t < n → e t ≤ 65536 := fun t ht => Int.le_trans (Int.le_trans (pd_step (d := e) (n := t) (fun i hi => he i (by omega))).2 (pd_mono he (t + 1) (by omega))) h65e
  have BD : Hid (∀ t, t < n → 1 ≤ d t ∧ d t ≤ 65536 ∧ 1 ≤ e t ∧ e t ≤ 65536) := fun t ht => ⟨hd t ht, dle t ht, he t ht, ele t ht⟩
  have SZ : Hid (∀ W g, Below w.heap.size w W → Rowi W g n (fun t => d t + e t - 1) → Calls Tryz.prog 17 #[.slice (some ⟨g, 0, none⟩) n n] W fun e' w' => e' = .returned (.tuple #[.int .i64 0, .int .i64 13]) ∧ w' = W) := fun W g B R => by
    refine (size_same _ n (fun t => d t + e t - 1) W (R.wi (fun j hj => by have := BD.out j hj; omega) (by omega))).mono ?_
    rintro e' w' ⟨⟨r, er, rfl, S⟩, hw⟩
    obtain ⟨rfl, rfl⟩ := S.uniq S3
    exact ⟨rfl, hw⟩
  have UU := hid UD
  have VV := hid VD
  obtain ⟨xo, xc, rfl, -⟩ := UD
  obtain ⟨lo, lc, rfl, -⟩ := UL
  obtain ⟨yo, yc, rfl, -⟩ := VD
  obtain ⟨ko, kc, rfl, -⟩ := VL
  have HS1 := hid S1
  have HS2 := hid S2
  clear hd he dle ele S1 S2 S3 hka hkb h65 h65e
  go_enter Tryz.func25, Tryz.ntmps25
  go_wp2_with fail
  refine (MD.out _).mono ?_
  rintro e' w3 ⟨rfl, hw⟩
  obtain rfl := hw.symm
  generalize ((w.alloc (.cells #[.slice xo n xc, .slice lo ka lc] 47)).alloc (.cells #[.slice yo n yc, .slice ko kb kc] 47)).alloc (.cells #[.slice none 0 0, .slice none 0 0] 47) = W at *
  obtain ⟨a0, a1, a2, a3⟩ := CEL.out W E0.out
  go_wp2_with fail
  refine (MA.out W E0.out.bel).mono ?_
  rintro e' W2 ⟨⟨b1, rfl, hb1⟩, B2⟩
  obtain rfl : b1 = true := by
    rcases hb1 with ⟨h, -⟩ | ⟨-, h⟩
    · exact h
    · exact absurd HS1.out h
  have E2 := hid (E0.out.below B2)
  clear E0 B2 a0 a1 a2 a3 hb1 MA
  obtain ⟨a0, a1, a2, a3⟩ := CEL.out W2 E2.out
  go_wp2_with fail
  refine (MB.out W2 E2.out.bel).mono ?_
  rintro e' W3 ⟨⟨b2, rfl, hb2⟩, B3⟩
  obtain rfl : b2 = true := by
    rcases hb2 with ⟨h, -⟩ | ⟨-, h⟩
    · exact h
    · exact absurd HS2.out h
  have E3 := hid (E2.out.below B3)
  clear E2 B3 a0 a1 a2 a3 hb2 MB MD HS1 HS2
  obtain ⟨a0, a1, a2, a3⟩ := CEL.out W3 E3.out
  go_wp2_with (at_make; refine wp_makei _ rfl _ _ rfl _ _ n rfl rfl (by omega) (by omega) (by omega) ?_; intro w1 R1 C1 Z1; have HR := hid R1; have HC := hid C1; clear R1 C1 Z1; clear a0 a1 a2 a3)
  have g3 := E3.out.size
  go_loopw [43] (fun iv wr => ∃ (i : Nat), iv = .int .i64 i ∧ i ≤ n ∧ Hid (Rowi wr W3.heap.size n (fun t => if t < i then d t + e t - 1 else 0)) ∧ Hid (Below W3.heap.size W3 wr)) (fun iv _ => ((n : Int) - intOf iv).toNat)
  case atStart => exact ⟨0, rfl, Nat.zero_le _, by
      obtain ⟨cur, h1, h2, h3⟩ := HR.out
      exact ⟨cur, h1, h2, fun j hj => by dsimp only; rw [if_neg (by omega)]; exact h3 j hj⟩, HC.out⟩
  case round =>
    clear HR HC
    obtain ⟨i, rfl, hi, HR, HC⟩ := hrel
    have E4 := hid (E3.out.below HC.out)
    obtain ⟨a0, a1, a2, a3⟩ := CEL.out wr E4.out
    by_cases hin : i = n
    · have hin' : ¬ (i : Int) < (n : Int) := by omega
      subst hin
      have RI : Rowi wr W3.heap.size i (fun t => d t + e t - 1) := by
        obtain ⟨cur, h1, h2, h3⟩ := HR.out
        exact ⟨cur, h1, h2, fun j hj => by rw [h3 j hj]; dsimp only; rw [if_pos hj]⟩
      have SS := hid (SZ.out wr _ E4.out.bel RI)
      have HRI := hid RI
      clear RI HR HC SZ UU VV E3
      go_wp2_with fail
      refine SS.out.mono ?_
      rintro e' w9 ⟨rfl, hw⟩
      obtain rfl := hw.symm
      clear SS
      obtain ⟨f0, f1, f2, f3⟩ := FIN.out wr E4.out
      have RT := hid (RET.out wr E4.out (.slice none 0 0) (.slice none 0 0))
      have BB := hid E4.out.bel
      clear E4 FIN RET CEL HRI BD a0 a1 a2 a3
      go_wp2
      refine bodyPost_ret (ret_box rfl RT.out.1 RT.out.2.1 rfl rfl rfl) rfl ?_
      exact ⟨⟨_, _, _, _, rfl⟩, BB.out.trans (RT.out.2.2.below.mono (by omega))⟩
    · have hin' : (i : Int) < (n : Int) := by omega
      obtain ⟨db, doff, rfl, dlt, dcell⟩ := UU.out.spot (by omega)
      obtain ⟨eb, eoff, rfl, elt, ecell⟩ := VV.out.spot (by omega)
      have cd : wr.cell? ⟨db, doff + i, none⟩ = some (.int .i64 (d i)) := by
        rw [E4.out.bel.cell (p := ⟨db, doff + i, none⟩) dlt]; exact dcell i (by omega)
      have ce : wr.cell? ⟨eb, eoff + i, none⟩ = some (.int .i64 (e i)) := by
        rw [E4.out.bel.cell (p := ⟨eb, eoff + i, none⟩) elt]; exact ecell i (by omega)
      have bd := BD.out i (by omega)
      have w1 : IntKind.i64.wrap (d i + e i) = d i + e i := by rw [IntKind.wrap_i64]; omega
      have w2 : IntKind.i64.wrap (d i + e i - 1) = d i + e i - 1 := by rw [IntKind.wrap_i64]; omega
      have cl := HR.out.cell (i := i) (by omega)
      have fl := HR.out.frozen i
      have NX : Hid (∀ q, Rowi ((wr.drewN q).setCell ⟨W3.heap.size, i, none⟩ (.int .i64 (d i + e i - 1))) W3.heap.size n (fun t => if t < i + 1 then d t + e t - 1 else 0) ∧ Below W3.heap.size W3 ((wr.drewN q).setCell ⟨W3.heap.size, i, none⟩ (.int .i64 (d i + e i - 1)))) := fun q => by
        have hr : Rowi (wr.drewN q) W3.heap.size n (fun t => if t < i then d t + e t - 1 else 0) := by
          obtain ⟨cur, h1, h2, h3⟩ := HR.out
          exact ⟨cur, by simpa using h1, h2, h3⟩
        refine ⟨hr.set i _ (fun j _ => ?_), below_set (below_drewN HC.out q) (Nat.le_refl _) _ _⟩
        by_cases q2 : j = i
        · rw [if_pos q2, if_pos (by omega), q2]
        · rw [if_neg q2]
          by_cases q3 : j < i
          · rw [if_pos q3, if_pos (by omega)]
          · rw [if_neg q3, if_neg (by omega)]
      clear HR HC SZ UU VV E3 E4 RET CEL FIN dlt dcell elt ecell BD a1 a3
      generalize d i = di at *
      generalize e i = ei at *
      go_wp2_with fail
      refine wp_region_last (by kernel_rfl) (by kernel_rfl) (by kernel_rfl) (by kernel_rfl) (by decide) ?_
      simp only [stillLast, still, lastOf]
      repeat (quiet_step (fail))
      refine wpQuiet_nil ?_
      intro _ hw'
      obtain ⟨nq, hw''⟩ := hw'
      subst hw''
      have N2 := hid (NX.out nq)
      have fl2 : (wr.drewN nq).frozen? ⟨W3.heap.size, i, none⟩ = false := by simpa using fl
      have cl2 : (wr.drewN nq).cell? ⟨W3.heap.size, i, none⟩ = some (.int .i64 (if i < i then d i + e i - 1 else 0)) := by simpa using cl
      clear NX a0 a2 cd ce fl cl
      generalize wr.drewN nq = w8 at *
      go_wp2
      exact ⟨⟨i + 1, rfl, by omega, N2.out.1, N2.out.2⟩, by simp only [intOf]; omega⟩
/-- what is known of the values of the region in which boxes are packed and multiplied. -/
def RpM (V0 V1 V3 : Value) (M na nb K : Nat) (A B X : Nat → Int) : Nat → Value → World → Prop
  | 0, v, _ => v = V0
  | 1, v, _ => v = V1
  | 2, v, W => ∃ ga, v = .slice (some ⟨ga, 0, none⟩) na na ∧ Row W ga na A
  | 3, v, _ => v = V3
  | 4, v, _ => v = V1
  | 5, v, W => ∃ gb, v = .slice (some ⟨gb, 0, none⟩) nb nb ∧ Row W gb nb B
  | 6, v, _ => v = .int .u64 M
  | 7, v, W => ∃ ao cap, v = .tuple #[.slice ao K cap, .int .i64 0] ∧ Wl W (.slice ao K cap) K X
  | 8, v, W => ∃ ao cap, v = .tuple #[.slice ao K cap, .int .i64 0] ∧ Wl W (.slice ao K cap) K X
  | 9, v, W => ∃ ao cap, v = .slice ao K cap ∧ Wl W (.slice ao K cap) K X
  | 10, _, _ => True
  | 11, v, W => ∃ ao cap, v = .slice ao K cap ∧ Wl W (.slice ao K cap) K X
  | _ + 12, _, _ => True
theorem RpM.mono {V0 V1 V3 : Value} {M na nb K : Nat} {A B X : Nat → Int} {v : Value} {w w' : World} (hb : Below w.heap.size w w') : ∀ j, RpM V0 V1 V3 M na nb K A B X j v w → RpM V0 V1 V3 M na nb K A B X j v w'
  | 0, h => h
  | 1, h => h
  | 2, ⟨ga, e, r⟩ => ⟨ga, e, r.below hb r.lt⟩
  | 3, h => h
  | 4, h => h
  | 5, ⟨ga, e, r⟩ => ⟨ga, e, r.below hb r.lt⟩
  | 6, h => h
  | 7, ⟨ao, cap, e, r⟩ => ⟨ao, cap, e, r.below hb⟩
  | 8, ⟨ao, cap, e, r⟩ => ⟨ao, cap, e, r.below hb⟩
  | 9, ⟨ao, cap, e, r⟩ => ⟨ao, cap, e, r.below hb⟩
  | 10, _ => trivial
  | 11, ⟨ao, cap, e, r⟩ => ⟨ao, cap, e, r.below hb⟩
  | _ + 12, _ => trivial
set_option maxHeartbeats 6400000 in
set_option maxRecDepth 100000 in
theorem cmulb_yes (ud ul vd vl : Value) (n ka kb K : Nat) (d e a b : Nat → Int) (M : Nat) (w : World) (L : LayB w) (UD : Wi w ud n d) (UL : Wl w ul ka a) (VD : Wi w vd n e) (VL : Wl w vl kb b) (h2 : 2 ≤ M) (h63 : M ≤ 9223372036854775807) (S1 : SzIs d n ka 0) (S2 : SzIs e n kb 0) (S3 : SzIs (fun t => d t + e t - 1) n K 0) :
    Calls Tryz.prog 25 #[.agg #[ud, ul], .agg #[vd, vl], .int .u64 M] w fun e' w' => (∃ xo xc lo lc, e' = .returned (.tuple #[.agg #[.slice xo n xc, .slice lo K lc], .int .i64 0]) ∧ Wi w' (.slice xo n xc) n (fun t => d t + e t - 1) ∧ Wl w' (.slice lo K lc) K (fun j => bxp d e (fun t => d t + e t - 1) n a b ka kb j % M)) ∧ Below w.heap.size w w' := by
  have MA : Hid (∀ W, Below w.heap.size w W → Calls Tryz.prog 40 #[.agg #[ud, ul]] W fun e w' => (∃ b, e = .returned (.bool b) ∧ (b = true ∧ SzIs d n ka 0 ∨ b = false ∧ ¬ SzIs d n ka 0)) ∧ Below W.heap.size W w') := fun W B => mayBe_any ud ul n ka d a W (UD.below B) (UL.below B)
  have MB : Hid (∀ W, Below w.heap.size w W → Calls Tryz.prog 40 #[.agg #[vd, vl]] W fun e' w' => (∃ b, e' = .returned (.bool b) ∧ (b = true ∧ SzIs e n kb 0 ∨ b = false ∧ ¬ SzIs e n kb 0)) ∧ Below W.heap.size W w') := fun W B => mayBe_any vd vl n kb e b W (VD.below B) (VL.below B)
  have MD := hid (mayDivide_any M)
  rw [show decide (2 ≤ (M : Int) ∧ (M : Int) ≤ 9223372036854775807) = true from decide_eq_true (by omega)] at MD
  have E0 := hid (MulE.new w ud ul vd vl)
  have RET : Hid (∀ W, MulE w W ud ul vd vl → ∀ x y, ((W.setCell ⟨w.heap.size + 1 + 1, 0, none⟩ x).setCell ⟨w.heap.size + 1 + 1, 1, none⟩ y).cell? ⟨w.heap.size + 1 + 1, 0, none⟩ = some x ∧ ((W.setCell ⟨w.heap.size + 1 + 1, 0, none⟩ x).setCell ⟨w.heap.size + 1 + 1, 1, none⟩ y).cell? ⟨w.heap.size + 1 + 1, 1, none⟩ = some y ∧ OnlyB (w.heap.size + 1 + 1) W ((W.setCell ⟨w.heap.size + 1 + 1, 0, none⟩ x).setCell ⟨w.heap.size + 1 + 1, 1, none⟩ y)) := fun W E x y => E.ret x y
  have CEL : Hid (∀ W, MulE w W ud ul vd vl → W.cell? ⟨w.heap.size, 0, none⟩ = some ud ∧ W.cell? ⟨w.heap.size, 1, none⟩ = some ul ∧ W.cell? ⟨w.heap.size + 1, 0, none⟩ = some vd ∧ W.cell? ⟨w.heap.size + 1, 1, none⟩ = some vl) := fun W E => ⟨E.ra.cell (i := 0) (by omega), E.ra.cell (i := 1) (by omega), E.rb.cell (i := 0) (by omega), E.rb.cell (i := 1) (by omega)⟩
  have FIN : Hid (∀ W, MulE w W ud ul vd vl → W.cell? ⟨w.heap.size + 2, 0, none⟩ = some (.slice none 0 0) ∧ W.cell? ⟨w.heap.size + 2, 1, none⟩ = some (.slice none 0 0) ∧ W.frozen? ⟨w.heap.size + 2, 0, none⟩ = false ∧ W.frozen? ⟨w.heap.size + 2, 1, none⟩ = false) := fun W E => ⟨E.rr.cell (by omega), E.rr.cell (by omega), E.rr.frozen _, E.rr.frozen _⟩
  obtain ⟨n8, hd, h65, hka⟩ := S1.ok rfl
  obtain ⟨-, he, h65e, hkb⟩ := S2.ok rfl
  have dle : ∀ t, t < n → d t ≤ 65536 := fun t ht => Int.le_trans (Int.le_trans (pd_step (d := d) (n := t) (fun i hi => hd i (by omega))).2 (pd_mono hd (t + 1) (by omega))) h65
  have ele : ∀ t, t < n → e t ≤ 65536 := fun t ht => Int.le_trans (Int.le_trans (pd_step (d := e) (n := t) (fun i hi => he i (by omega))).2 (pd_mono he (t + 1) (by omega))) h65e
  have BD : Hid (∀ t, t < n → 1 ≤ d t ∧ d t ≤ 65536 ∧ 1 ≤ e t ∧ e t ≤ 65536) := fun t ht => ⟨hd t ht, dle t ht, he t ht, ele t ht⟩
  have SZ : Hid (∀ W g, Below w.heap.size w W → Rowi W g n (fun t => d t + e t - 1) → Calls Tryz.prog 17 #[.slice (some ⟨g, 0, none⟩) n n] W fun e' w' => e' = .returned (.tuple #[.int .i64 K, .int .i64 0]) ∧ w' = W) := fun W g B R => by
    refine (size_same _ n (fun t => d t + e t - 1) W (R.wi (fun j hj => by have := BD.out j hj; omega) (by omega))).mono ?_
    rintro e' w' ⟨⟨r, er, rfl, S⟩, hw⟩
    obtain ⟨rfl, rfl⟩ := S.uniq S3
    exact ⟨rfl, hw⟩
  have UU := hid UD
  have VV := hid VD
  obtain ⟨na, hna⟩ : ∃ na : Nat, pl (fun t => d t + e t - 1) (fun t => d t - 1) n + 1 = na := ⟨(pl (fun t => d t + e t - 1) (fun t => d t - 1) n + 1).toNat, by
    have := pl_nn (f := fun t => d t + e t - 1) (e := fun t => d t - 1) (n := n) (fun t ht => by have := hd t ht; have := he t ht; show 0 ≤ d t - 1 ∧ 0 ≤ d t + e t - 1; omega)
    omega⟩
  obtain ⟨nb, hnb⟩ : ∃ nb : Nat, pl (fun t => d t + e t - 1) (fun t => e t - 1) n + 1 = nb := ⟨(pl (fun t => d t + e t - 1) (fun t => e t - 1) n + 1).toNat, by
    have := pl_nn (f := fun t => d t + e t - 1) (e := fun t => e t - 1) (n := n) (fun t ht => by have := hd t ht; have := he t ht; show 0 ≤ e t - 1 ∧ 0 ≤ d t + e t - 1; omega)
    omega⟩
  have nab : na + nb - 1 = K := by
    have e1 := pl_add (fun t => d t + e t - 1) (fun t => d t - 1) (fun t => e t - 1) n
    have e2 := pl_last (fun t => d t + e t - 1) n
    have e3 : pl (fun t => d t + e t - 1) (fun t => d t - 1 + (e t - 1)) n = pl (fun t => d t + e t - 1) (fun t => d t + e t - 1 - 1) n := pl_eq fun t _ => by show d t - 1 + (e t - 1) = d t + e t - 1 - 1; omega
    have e4 := (S3.ok rfl).2.2.2
    rw [e3, e2] at e1
    omega
  have na0 : 0 < na := by
    have := pl_nn (f := fun t => d t + e t - 1) (e := fun t => d t - 1) (n := n) (fun t ht => by have := hd t ht; have := he t ht; show 0 ≤ d t - 1 ∧ 0 ≤ d t + e t - 1; omega)
    omega
  have nb0 : 0 < nb := by
    have := pl_nn (f := fun t => d t + e t - 1) (e := fun t => e t - 1) (n := n) (fun t ht => by have := hd t ht; have := he t ht; show 0 ≤ e t - 1 ∧ 0 ≤ d t + e t - 1; omega)
    omega
  have K65 := (S3.ok rfl).2.2.1
  have K65' := (S3.ok rfl).2.2.2
  have hfd : ∀ t, t < n → d t ≤ (fun t => d t + e t - 1) t := fun t ht => by have := he t ht; show d t ≤ d t + e t - 1; omega
  have hfe : ∀ t, t < n → e t ≤ (fun t => d t + e t - 1) t := fun t ht => by have := hd t ht; show e t ≤ d t + e t - 1; omega
  have PA : Hid (∀ W g, Below w.heap.size w W → Rowi W g n (fun t => d t + e t - 1) → Calls Tryz.prog 43 #[.agg #[ud, ul], .slice (some ⟨g, 0, none⟩) n n] W fun e' w' => (∃ gr, e' = .returned (.slice (some ⟨gr, 0, none⟩) na na) ∧ Row w' gr na (wdp d (fun t => d t + e t - 1) n a ka) ∧ W.heap.size ≤ gr) ∧ Below W.heap.size W w') := fun W g B R => packed_any ud ul _ n ka K na d (fun t => d t + e t - 1) a W (UD.below B) (UL.below B) (R.wi (fun j hj => by have := BD.out j hj; omega) (by omega)) S1 hfd S3 hna
  have PB : Hid (∀ W g, Below w.heap.size w W → Rowi W g n (fun t => d t + e t - 1) → Calls Tryz.prog 43 #[.agg #[vd, vl], .slice (some ⟨g, 0, none⟩) n n] W fun e' w' => (∃ gr, e' = .returned (.slice (some ⟨gr, 0, none⟩) nb nb) ∧ Row w' gr nb (wdp e (fun t => d t + e t - 1) n b kb) ∧ W.heap.size ≤ gr) ∧ Below W.heap.size W w') := fun W g B R => packed_any vd vl _ n kb K nb e (fun t => d t + e t - 1) b W (VD.below B) (VL.below B) (R.wi (fun j hj => by have := BD.out j hj; omega) (by omega)) S2 hfe S3 hnb
  have wbd : ∀ (d f a : Nat → Int) (ka : Nat), (∀ t, t < n → 1 ≤ d t) → (∀ t, t < n → d t ≤ f t) → pd d n = ka → (∀ j, j < ka → 0 ≤ a j ∧ a j ≤ 18446744073709551615) → ∀ c, c ≤ ka → ∀ j, 0 ≤ wdp d f n a c j ∧ wdp d f n a c j ≤ 18446744073709551615 := fun d f a ka h1 h2 h3 h4 c => by
    induction c with
    | zero => intro _ j; show (0 : Int) ≤ 0 ∧ (0 : Int) ≤ _; omega
    | succ c ih =>
      intro hc j
      rw [wdp_step h1 h2 a h3 (by omega) j]
      by_cases q : j = ph d f n c
      · rw [if_pos q]; exact h4 c (by omega)
      · rw [if_neg q]; exact ih (by omega) j
  have wa := wbd d (fun t => d t + e t - 1) a ka hd hfd hka.symm (fun j hj => UL.val hj) ka (Nat.le_refl _)
  have wb := wbd e (fun t => d t + e t - 1) b kb he hfe hkb.symm (fun j hj => VL.val hj) kb (Nat.le_refl _)
  have CV : Hid (∀ W ga gb, Below w.heap.size w W → Row W ga na (wdp d (fun t => d t + e t - 1) n a ka) → Row W gb nb (wdp e (fun t => d t + e t - 1) n b kb) → Calls Tryz.prog 10 #[.slice (some ⟨ga, 0, none⟩) na na, .slice (some ⟨gb, 0, none⟩) nb nb, .int .u64 M] W fun e' w' => (∃ ao cap, e' = .returned (.tuple #[.slice ao K cap, .int .i64 0]) ∧ Wl w' (.slice ao K cap) K (fun j => bxp d e (fun t => d t + e t - 1) n a b ka kb j % M)) ∧ Below W.heap.size W w') := fun W ga gb B RA RB => by
    have := conv_yes _ _ na nb _ _ M W (L.below B) (RA.wl (fun j _ => wa j) (by omega)) (RB.wl (fun j _ => wb j) (by omega)) h2 h63 na0 nb0 (by omega)
    rw [nab] at this
    refine this.mono ?_
    rintro e' w' ⟨⟨ao, cap, h1, h2⟩, h3⟩
    refine ⟨⟨ao, cap, h1, h2.eq fun j hj => ?_⟩, h3⟩
    rw [prd_bxp hd he hfd hfe a b ka kb na nb j (fun i => by have := ph_lt hd hfd i; omega) (fun i => by have := ph_lt he hfe i; omega)]
  clear wbd wa wb hfd hfe K65 K65' na0 nb0 nab hna hnb
  obtain ⟨xo, xc, rfl, -⟩ := UD
  obtain ⟨lo, lc, rfl, -⟩ := UL
  obtain ⟨yo, yc, rfl, -⟩ := VD
  obtain ⟨ko, kc, rfl, -⟩ := VL
  have HS1 := hid S1
  have HS2 := hid S2
  clear hd he dle ele S1 S2 S3 hka hkb h65 h65e
  go_enter Tryz.func25, Tryz.ntmps25
  go_wp2_with fail
  refine (MD.out _).mono ?_
  rintro e' w3 ⟨rfl, hw⟩
  obtain rfl := hw.symm
  generalize ((w.alloc (.cells #[.slice xo n xc, .slice lo ka lc] 47)).alloc (.cells #[.slice yo n yc, .slice ko kb kc] 47)).alloc (.cells #[.slice none 0 0, .slice none 0 0] 47) = W at *
  obtain ⟨a0, a1, a2, a3⟩ := CEL.out W E0.out
  go_wp2_with fail
  refine (MA.out W E0.out.bel).mono ?_
  rintro e' W2 ⟨⟨b1, rfl, hb1⟩, B2⟩
  obtain rfl : b1 = true := by
    rcases hb1 with ⟨h, -⟩ | ⟨-, h⟩
    · exact h
    · exact absurd HS1.out h
  have E2 := hid (E0.out.below B2)
  clear E0 B2 a0 a1 a2 a3 hb1 MA
  obtain ⟨a0, a1, a2, a3⟩ := CEL.out W2 E2.out
  go_wp2_with fail
  refine (MB.out W2 E2.out.bel).mono ?_
  rintro e' W3 ⟨⟨b2, rfl, hb2⟩, B3⟩
  obtain rfl : b2 = true := by
    rcases hb2 with ⟨h, -⟩ | ⟨-, h⟩
    · exact h
    · exact absurd HS2.out h
  have E3 := hid (E2.out.below B3)
  clear E2 B3 a0 a1 a2 a3 hb2 MB MD HS1 HS2
  obtain ⟨a0, a1, a2, a3⟩ := CEL.out W3 E3.out
  go_wp2_with (at_make; refine wp_makei _ rfl _ _ rfl _ _ n rfl rfl (by omega) (by omega) (by omega) ?_; intro w1 R1 C1 Z1; have HR := hid R1; have HC := hid C1; clear R1 C1 Z1; clear a0 a1 a2 a3)
  have g3 := E3.out.size
  go_loopw [43] (fun iv wr => ∃ (i : Nat), iv = .int .i64 i ∧ i ≤ n ∧ Hid (Rowi wr W3.heap.size n (fun t => if t < i then d t + e t - 1 else 0)) ∧ Hid (Below W3.heap.size W3 wr)) (fun iv _ => ((n : Int) - intOf iv).toNat)
  case atStart => exact ⟨0, rfl, Nat.zero_le _, by
      obtain ⟨cur, h1, h2, h3⟩ := HR.out
      exact ⟨cur, h1, h2, fun j hj => by dsimp only; rw [if_neg (by omega)]; exact h3 j hj⟩, HC.out⟩
  case round =>
    clear HR HC
    obtain ⟨i, rfl, hi, HR, HC⟩ := hrel
    have E4 := hid (E3.out.below HC.out)
    obtain ⟨a0, a1, a2, a3⟩ := CEL.out wr E4.out
    by_cases hin : i = n
    · have hin' : ¬ (i : Int) < (n : Int) := by omega
      subst hin
      have RI : Rowi wr W3.heap.size i (fun t => d t + e t - 1) := by
        obtain ⟨cur, h1, h2, h3⟩ := HR.out
        exact ⟨cur, h1, h2, fun j hj => by rw [h3 j hj]; dsimp only; rw [if_pos hj]⟩
      have SS := hid (SZ.out wr _ E4.out.bel RI)
      have HRI := hid RI
      clear RI HR HC SZ UU VV E3
      go_wp2_with fail
      refine SS.out.mono ?_
      rintro e' w9 ⟨rfl, hw⟩
      obtain rfl := hw.symm
      clear SS
      have CX : Hid (∀ W, Below wr.heap.size wr W → MulE w W (.slice xo i xc) (.slice lo ka lc) (.slice yo i yc) (.slice ko kb kc) ∧ Rowi W W3.heap.size i (fun t => d t + e t - 1)) := fun W B => ⟨E4.out.below B, HRI.out.below B HRI.out.lt⟩
      have BB := hid E4.out.bel
      have hgl : W3.heap.size < wr.heap.size := HRI.out.lt
      clear E4 HRI
      go_wp2_with fail
      clear a0 a1 a2 a3
      rename_i hKx
      refine wp_region_mono (by kernel_rfl) (fun s => ⟨#[_, _, _, _, _, _, _, _, _, _, _, _, s 11, s 12, _, _, _, _, _, _, _, _, _, _, _, _, _, _, _, _, _, _, _, _, _, _, _, _, _, _, _, _, _, _, _, _, _, _, _, _, _, _, _, _, _, _, _, _, _, _, _, _, _, _, _, _, _, _, _, _, _, s 8, s 0, s 1, s 2, s 3, s 4, s 5, s 6, s 7, s 9, s 10, _, _, _], []⟩)
        (RpM (.agg #[.slice xo i xc, .slice lo ka lc]) (.slice (some ⟨W3.heap.size, 0, none⟩) i i) (.agg #[.slice yo i yc, .slice ko kb kc]) M na nb K (wdp d (fun t => d t + e t - 1) i a ka) (wdp e (fun t => d t + e t - 1) i b kb) (fun j => bxp d e (fun t => d t + e t - 1) i a b ka kb j % M))
        (fun W => Below wr.heap.size wr W) (fun _ w w' => Below w.heap.size w w') (fun _ j _ _ _ _ _ _ ht hr => hr.mono ht j) (fun _ _ _ ht hc => hc.trans (ht.mono hc.size)) (by kernel_rfl) ?_ ?_ (fun _ => undef) _ _ rfl ?_
      · refine ⟨?_, ?_, ?_, ?_, ?_, ?_, ?_, ?_, ?_, ?_, ?_, ?_, ?_, trivial⟩
        · intro s w0 hC hd K0 hK
          obtain ⟨a0, a1, a2, a3⟩ := CEL.out w0 (CX.out w0 hC).1
          clear hd hC
          go_simp
          exact hK _ _ (Below.refl _ _) rfl
        · intro s w0 hC hd K0 hK
          clear hd hC
          go_simp
          exact hK _ _ (Below.refl _ _) rfl
        · intro s w0 hC hd K0 hK
          obtain ⟨d0, d1, _⟩ := hd
          have e0 : s 0 = _ := d0 rfl
          have e1 : s 1 = _ := d1 rfl
          have CT := PA.out w0 W3.heap.size (CX.out w0 hC).1.bel (CX.out w0 hC).2
          rw [← e0, ← e1] at CT
          have HCT := hid CT
          clear hC d0 d1 CT e0 e1
          go_simp
          refine HCT.out.mono ?_
          rintro e' w' ⟨⟨gr, rfl, R, -⟩, B⟩
          go_simp
          exact hK _ _ B ⟨gr, rfl, R⟩
        · intro s w0 hC hd K0 hK
          obtain ⟨a0, a1, a2, a3⟩ := CEL.out w0 (CX.out w0 hC).1
          clear hd hC
          go_simp
          exact hK _ _ (Below.refl _ _) rfl
        · intro s w0 hC hd K0 hK
          clear hd hC
          go_simp
          exact hK _ _ (Below.refl _ _) rfl
        · intro s w0 hC hd K0 hK
          obtain ⟨d0, d1, _⟩ := hd
          have e0 : s 3 = _ := d0 rfl
          have e1 : s 4 = _ := d1 rfl
          have CT := PB.out w0 W3.heap.size (CX.out w0 hC).1.bel (CX.out w0 hC).2
          rw [← e0, ← e1] at CT
          have HCT := hid CT
          clear hC d0 d1 CT e0 e1
          go_simp
          refine HCT.out.mono ?_
          rintro e' w' ⟨⟨gr, rfl, R, -⟩, B⟩
          go_simp
          exact hK _ _ B ⟨gr, rfl, R⟩
        · intro s w0 hC hd K0 hK
          clear hd hC
          go_simp
          exact hK _ _ (Below.refl _ _) rfl
        · intro s w0 hC hd K0 hK
          obtain ⟨d0, d1, d2, _⟩ := hd
          obtain ⟨ga, e2, RA⟩ := (show ∃ ga, s 2 = _ ∧ _ from d0 rfl)
          obtain ⟨gb, e5, RB⟩ := (show ∃ gb, s 5 = _ ∧ _ from d1 rfl)
          have e6 : s 6 = _ := d2 rfl
          have CT := CV.out w0 ga gb (CX.out w0 hC).1.bel RA RB
          rw [← e2, ← e5, ← e6] at CT
          have HCT := hid CT
          clear hC d0 d1 d2 CT e2 e5 e6 RA RB
          go_simp
          refine HCT.out.mono ?_
          rintro e' w' ⟨⟨ao, cap, rfl, R⟩, B⟩
          go_simp
          exact hK _ _ B ⟨ao, cap, rfl, R⟩
        · intro s w0 hC hd K0 hK
          obtain ⟨d0, _⟩ := hd
          have D0 := hid (d0 rfl)
          clear hC d0
          go_simp
          exact hK _ _ (Below.refl _ _) D0.out
        · intro s w0 hC hd K0 hK
          obtain ⟨d0, _⟩ := hd
          obtain ⟨ao, cap, e8, R⟩ := (show ∃ ao cap, s 8 = _ ∧ _ from d0 rfl)
          have HR := hid R
          clear hC d0 R
          go_simp
          rw [← e8]
          exact hK (.slice ao K cap) w0 (Below.refl _ _) ⟨ao, cap, rfl, HR.out⟩
        · intro s w0 hC hd K0 hK
          obtain ⟨d0, _⟩ := hd
          obtain ⟨ao, cap, e8, R⟩ := (show ∃ ao cap, s 8 = _ ∧ _ from d0 rfl)
          clear hC d0 R
          go_simp
          rw [← e8]
          exact hK (.int .i64 0) w0 (Below.refl _ _) trivial
        · intro s w0 hC hd K0 hK
          obtain ⟨d0, _⟩ := hd
          have D0 := hid (d0 rfl)
          clear hC d0
          go_simp
          exact hK _ _ (Below.refl _ _) D0.out
        · intro s w0 hC hd K0 hK
          clear hC hd
          go_simp
          exact hK _ _ (Below.refl _ _) trivial
      · intro s w9 hC hR
        obtain ⟨ao, cap, e11, W11⟩ := (show ∃ ao cap, s 11 = _ ∧ _ from hR 11 (by decide))
        have E9 := (CX.out w9 hC).1
        have R9 := (CX.out w9 hC).2
        obtain ⟨f0, f1, f2, f3⟩ := FIN.out w9 E9
        have RT := RET.out w9 E9 (.slice (some ⟨W3.heap.size, 0, none⟩) i i) (.slice ao K cap)
        have r1 := E9.rr.set (D := fun j => if j = 0 then .slice (some ⟨W3.heap.size, 0, none⟩) i i else .slice none 0 0) 0 (.slice (some ⟨W3.heap.size, 0, none⟩) i i) (fun _ _ => rfl)
        have WF := hid ((W11.setv E9.rr (fun j _ z h => by cases h) 0 (.slice (some ⟨W3.heap.size, 0, none⟩) i i)).setv r1 (fun j _ z => by
          by_cases q : j = 0
          · rw [if_pos q]; exact fun h => by cases h
          · rw [if_neg q]; exact fun h => by cases h) 1 (.slice ao K cap))
        have RF : Rowi ((w9.setCell ⟨w.heap.size + 1 + 1, 0, none⟩ (.slice (some ⟨W3.heap.size, 0, none⟩) i i)).setCell ⟨w.heap.size + 1 + 1, 1, none⟩ (.slice ao K cap)) W3.heap.size i (fun t => d t + e t - 1) := by
          obtain ⟨cur, h1, h2, h3⟩ := R9
          exact ⟨cur, by rw [RT.2.2.block _ (by omega)]; exact h1, h2, h3⟩
        have WX := hid (RF.wi (fun j hj => by have := BD.out j hj; omega) (by omega))
        have BF := hid (E9.bel.trans (RT.2.2.below.mono (by omega)))
        have HRT := hid RT
        simp only [e11]
        clear e11 hC hR E9 R9 RT r1 RF W11 FIN RET CX CEL PA PB CV BD
        refine hKx _ _ ?_
        clear hKx
        go_wp2
        refine bodyPost_ret (ret_box rfl HRT.out.1 HRT.out.2.1 rfl rfl rfl) rfl ?_
        exact ⟨⟨_, _, _, _, rfl, WX.out, WF.out⟩, BF.out⟩
      · exact below_drewN (Below.refl _ _) 1
    · have hin' : (i : Int) < (n : Int) := by omega
      obtain ⟨db, doff, rfl, dlt, dcell⟩ := UU.out.spot (by omega)
      obtain ⟨eb, eoff, rfl, elt, ecell⟩ := VV.out.spot (by omega)
      have cd : wr.cell? ⟨db, doff + i, none⟩ = some (.int .i64 (d i)) := by
        rw [E4.out.bel.cell (p := ⟨db, doff + i, none⟩) dlt]; exact dcell i (by omega)
      have ce : wr.cell? ⟨eb, eoff + i, none⟩ = some (.int .i64 (e i)) := by
        rw [E4.out.bel.cell (p := ⟨eb, eoff + i, none⟩) elt]; exact ecell i (by omega)
      have bd := BD.out i (by omega)
      have w1 : IntKind.i64.wrap (d i + e i) = d i + e i := by rw [IntKind.wrap_i64]; omega
      have w2 : IntKind.i64.wrap (d i + e i - 1) = d i + e i - 1 := by rw [IntKind.wrap_i64]; omega
      have cl := HR.out.cell (i := i) (by omega)
      have fl := HR.out.frozen i
      have NX : Hid (∀ q, Rowi ((wr.drewN q).setCell ⟨W3.heap.size, i, none⟩ (.int .i64 (d i + e i - 1))) W3.heap.size n (fun t => if t < i + 1 then d t + e t - 1 else 0) ∧ Below W3.heap.size W3 ((wr.drewN q).setCell ⟨W3.heap.size, i, none⟩ (.int .i64 (d i + e i - 1)))) := fun q => by
        have hr : Rowi (wr.drewN q) W3.heap.size n (fun t => if t < i then d t + e t - 1 else 0) := by
          obtain ⟨cur, h1, h2, h3⟩ := HR.out
          exact ⟨cur, by simpa using h1, h2, h3⟩
        refine ⟨hr.set i _ (fun j _ => ?_), below_set (below_drewN HC.out q) (Nat.le_refl _) _ _⟩
        by_cases q2 : j = i
        · rw [if_pos q2, if_pos (by omega), q2]
        · rw [if_neg q2]
          by_cases q3 : j < i
          · rw [if_pos q3, if_pos (by omega)]
          · rw [if_neg q3, if_neg (by omega)]
      clear HR HC SZ UU VV E3 E4 RET CEL FIN dlt dcell elt ecell BD a1 a3 PA PB CV
      generalize d i = di at *
      generalize e i = ei at *
      go_wp2_with fail
      refine wp_region_last (by kernel_rfl) (by kernel_rfl) (by kernel_rfl) (by kernel_rfl) (by decide) ?_
      simp only [stillLast, still, lastOf]
      repeat (quiet_step (fail))
      refine wpQuiet_nil ?_
      intro _ hw'
      obtain ⟨nq, hw''⟩ := hw'
      subst hw''
      have N2 := hid (NX.out nq)
      have fl2 : (wr.drewN nq).frozen? ⟨W3.heap.size, i, none⟩ = false := by simpa using fl
      have cl2 : (wr.drewN nq).cell? ⟨W3.heap.size, i, none⟩ = some (.int .i64 (if i < i then d i + e i - 1 else 0)) := by simpa using cl
      clear NX a0 a2 cd ce fl cl
      generalize wr.drewN nq = w8 at *
      go_wp2
      exact ⟨⟨i + 1, rfl, by omega, N2.out.1, N2.out.2⟩, by simp only [intOf]; omega⟩
end Go.Proofs.YtocfenjampmdlaaGreatDoor
