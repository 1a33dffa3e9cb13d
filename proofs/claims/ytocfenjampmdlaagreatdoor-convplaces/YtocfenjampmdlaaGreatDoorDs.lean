/- Products of boxes that are none, in the landed conv. -/
import Derived.Test.YtocfenjampmdlaaGreatDoorRgx
import Derived.Test.YtocfenjampmdlaaGreatDoorDk
namespace Go.Proofs.YtocfenjampmdlaaGreatDoor
open Go.RowKit Num Nmb

/-- no box, an error. -/
def noBox (er : Int) (e : Ending) : Prop := ∃ xo xc lo lc, e = .returned (.tuple #[.agg #[.slice xo 0 xc, .slice lo 0 lc], .int .i64 er])
theorem ret_box {fn : Func} {tmps : Array Value} {w : World} {t u : Tmp} {g : Nat} {x y v : Value} (_hx : x.oneCell' = true) (h0 : w.cell? ⟨g, 0, none⟩ = some x) (h1 : w.cell? ⟨g, 1, none⟩ = some y) (h : fn.results = #[.cell t 47, .tmp u]) (ht : tmps[t]?.getD undef = .pointer (some ⟨g, 0, none⟩)) (hu : tmps[u]?.getD undef = v) :
    (results fn tmps).run Tryz.prog w = .ok (.tuple #[.agg #[x, y], v]) w := by
  simp [results, h, go_sem, ht, hu, h0, h1]
/-- the three variables of Mul. -/
structure MulE (w W : World) (ud ul vd vl : Value) : Prop where
  ra : Rv W w.heap.size 47 2 (fun j => if j = 0 then ud else ul)
  rb : Rv W (w.heap.size + 1) 47 2 (fun j => if j = 0 then vd else vl)
  rr : Rv W (w.heap.size + 2) 47 2 (fun _ => .slice none 0 0)
  bel : Below w.heap.size w W
  size : w.heap.size + 3 ≤ W.heap.size
theorem MulE.below {w W W' : World} {ud ul vd vl : Value} (h : MulE w W ud ul vd vl) (hb : Below W.heap.size W W') : MulE w W' ud ul vd vl :=
  ⟨h.ra.below hb h.ra.lt, h.rb.below hb h.rb.lt, h.rr.below hb h.rr.lt, h.bel.trans (hb.mono h.bel.size), Nat.le_trans h.size hb.size⟩
theorem MulE.new (w : World) (ud ul vd vl : Value) : MulE w (((w.alloc (.cells #[ud, ul] 47)).alloc (.cells #[vd, vl] 47)).alloc (.cells #[.slice none 0 0, .slice none 0 0] 47)) ud ul vd vl := by
  have two : ∀ (w : World) (x y : Value), Rv (w.alloc (.cells #[x, y] 47)) w.heap.size 47 2 (fun j => if j = 0 then x else y) := fun w x y => Rv.new w _ _ _ _ rfl fun j hj => by
    match j, hj with
    | 0, _ => rfl
    | 1, _ => rfl
  have a1 := two w ud ul
  have a2 := two (w.alloc (.cells #[ud, ul] 47)) vd vl
  have a3 := two ((w.alloc (.cells #[ud, ul] 47)).alloc (.cells #[vd, vl] 47)) (.slice none 0 0) (.slice none 0 0)
  have z1 : (w.alloc (.cells #[ud, ul] 47)).heap.size = w.heap.size + 1 := by simp
  have z2 : ((w.alloc (.cells #[ud, ul] 47)).alloc (.cells #[vd, vl] 47)).heap.size = w.heap.size + 2 := by simp
  have b2 := below_new' (w.alloc (.cells #[ud, ul] 47)) (.cells #[vd, vl] 47)
  have b3 := below_new' ((w.alloc (.cells #[ud, ul] 47)).alloc (.cells #[vd, vl] 47)) (.cells #[.slice none 0 0, .slice none 0 0] 47)
  rw [z1] at a2 b2
  rw [z2] at a3 b3
  exact ⟨(a1.below b2 (by omega)).below b3 (by omega), a2.below b3 (by omega), a3.eq (fun j _ => by by_cases e : j = 0 <;> simp [e]), (below_new' w _).trans ((b2.mono (by omega)).trans (b3.mono (by omega))), by simp⟩
theorem MulE.ret {w W : World} {ud ul vd vl : Value} (h : MulE w W ud ul vd vl) (x y : Value) :
    ((W.setCell ⟨w.heap.size + 1 + 1, 0, none⟩ x).setCell ⟨w.heap.size + 1 + 1, 1, none⟩ y).cell? ⟨w.heap.size + 1 + 1, 0, none⟩ = some x ∧ ((W.setCell ⟨w.heap.size + 1 + 1, 0, none⟩ x).setCell ⟨w.heap.size + 1 + 1, 1, none⟩ y).cell? ⟨w.heap.size + 1 + 1, 1, none⟩ = some y ∧ OnlyB (w.heap.size + 1 + 1) W ((W.setCell ⟨w.heap.size + 1 + 1, 0, none⟩ x).setCell ⟨w.heap.size + 1 + 1, 1, none⟩ y) := by
  have r := (h.rr.set (D := fun j => if j = 0 then x else .slice none 0 0) 0 x (fun _ _ => rfl)).set (D := fun j => if j = 1 then y else if j = 0 then x else .slice none 0 0) 1 y (fun _ _ => rfl)
  exact ⟨r.cell (i := 0) (by omega), r.cell (i := 1) (by omega), ((OnlyB.refl _ W).set 0 x).set 1 y⟩
set_option maxHeartbeats 1600000 in
theorem cmulb_arg (ud ul vd vl : Value) (n m ka kb : Nat) (d e a b : Nat → Int) (M : Int) (w : World) (UD : Wi w ud n d) (UL : Wl w ul ka a) (VD : Wi w vd m e) (VL : Wl w vl kb b) (_hM : 0 ≤ M ∧ M ≤ 18446744073709551615) (h : (M < 2 ∨ 9223372036854775807 < M) ∨ ¬ SzIs d n ka 0 ∨ ¬ SzIs e m kb 0 ∨ n ≠ m) :
    Calls Tryz.prog 25 #[.agg #[ud, ul], .agg #[vd, vl], .int .u64 M] w fun e' w' => noBox 1 e' ∧ Below w.heap.size w w' := by
  have MA : Hid (∀ W, Below w.heap.size w W → Calls Tryz.prog 40 #[.agg #[ud, ul]] W fun e w' => (∃ b, e = .returned (.bool b) ∧ (b = true ∧ SzIs d n ka 0 ∨ b = false ∧ ¬ SzIs d n ka 0)) ∧ Below W.heap.size W w') := fun W B => mayBe_any ud ul n ka d a W (UD.below B) (UL.below B)
  have MB : Hid (∀ W, Below w.heap.size w W → Calls Tryz.prog 40 #[.agg #[vd, vl]] W fun e' w' => (∃ b, e' = .returned (.bool b) ∧ (b = true ∧ SzIs e m kb 0 ∨ b = false ∧ ¬ SzIs e m kb 0)) ∧ Below W.heap.size W w') := fun W B => mayBe_any vd vl m kb e b W (VD.below B) (VL.below B)
  have MD := hid (fun W => mayDivide_any M W)
  have E0 := hid (MulE.new w ud ul vd vl)
  have RET : Hid (∀ W, MulE w W ud ul vd vl → ((W.setCell ⟨w.heap.size + 1 + 1, 0, none⟩ (.slice none 0 0)).setCell ⟨w.heap.size + 1 + 1, 1, none⟩ (.slice none 0 0)).cell? ⟨w.heap.size + 1 + 1, 0, none⟩ = some (.slice none 0 0) ∧ ((W.setCell ⟨w.heap.size + 1 + 1, 0, none⟩ (.slice none 0 0)).setCell ⟨w.heap.size + 1 + 1, 1, none⟩ (.slice none 0 0)).cell? ⟨w.heap.size + 1 + 1, 1, none⟩ = some (.slice none 0 0) ∧ Below w.heap.size w ((W.setCell ⟨w.heap.size + 1 + 1, 0, none⟩ (.slice none 0 0)).setCell ⟨w.heap.size + 1 + 1, 1, none⟩ (.slice none 0 0))) := fun W E => by
    obtain ⟨r0, r1, o⟩ := E.ret (.slice none 0 0) (.slice none 0 0)
    exact ⟨r0, r1, E.bel.trans (o.below.mono (by omega))⟩
  have CEL : Hid (∀ W, MulE w W ud ul vd vl → W.cell? ⟨w.heap.size, 0, none⟩ = some ud ∧ W.cell? ⟨w.heap.size, 1, none⟩ = some ul ∧ W.cell? ⟨w.heap.size + 1, 0, none⟩ = some vd ∧ W.cell? ⟨w.heap.size + 1, 1, none⟩ = some vl) := fun W E => ⟨E.ra.cell (i := 0) (by omega), E.ra.cell (i := 1) (by omega), E.rb.cell (i := 0) (by omega), E.rb.cell (i := 1) (by omega)⟩
  have FIN : Hid (∀ W, MulE w W ud ul vd vl → W.cell? ⟨w.heap.size + 2, 0, none⟩ = some (.slice none 0 0) ∧ W.cell? ⟨w.heap.size + 2, 1, none⟩ = some (.slice none 0 0) ∧ W.frozen? ⟨w.heap.size + 2, 0, none⟩ = false ∧ W.frozen? ⟨w.heap.size + 2, 1, none⟩ = false) := fun W E => ⟨E.rr.cell (by omega), E.rr.cell (by omega), E.rr.frozen _, E.rr.frozen _⟩
  have HH := hid h
  obtain ⟨xo, xc, rfl, -⟩ := UD
  obtain ⟨lo, lc, rfl, -⟩ := UL
  obtain ⟨yo, yc, rfl, -⟩ := VD
  obtain ⟨ko, kc, rfl, -⟩ := VL
  clear h
  go_enter Tryz.func25, Tryz.ntmps25
  go_wp2_with fail
  refine (MD.out _).mono ?_
  rintro e w3 ⟨rfl, hw⟩
  obtain rfl := hw.symm
  generalize ((w.alloc (.cells #[.slice xo n xc, .slice lo ka lc] 47)).alloc (.cells #[.slice yo m yc, .slice ko kb kc] 47)).alloc (.cells #[.slice none 0 0, .slice none 0 0] 47) = W at *
  by_cases h1 : 2 ≤ M ∧ M ≤ 9223372036854775807
  · rw [decide_eq_true h1]
    obtain ⟨a0, a1, a2, a3⟩ := CEL.out W E0.out
    go_wp2_with fail
    refine (MA.out W E0.out.bel).mono ?_
    rintro e' W2 ⟨⟨b1, rfl, hb1⟩, B2⟩
    have E2 := hid (E0.out.below B2)
    clear E0 B2 a0 a1 a2 a3
    rcases hb1 with ⟨rfl, S1⟩ | ⟨rfl, S1⟩
    · obtain ⟨a0, a1, a2, a3⟩ := CEL.out W2 E2.out
      go_wp2_with fail
      refine (MB.out W2 E2.out.bel).mono ?_
      rintro e' W3 ⟨⟨b2, rfl, hb2⟩, B3⟩
      have E3 := hid (E2.out.below B3)
      clear E2 B3 a0 a1 a2 a3
      rcases hb2 with ⟨rfl, S2⟩ | ⟨rfl, S2⟩
      · have nm : n ≠ m := by
          rcases HH.out with h | h | h | h
          · omega
          · exact absurd S1 h
          · exact absurd S2 h
          · exact h
        have nm' : ((n : Int) != (m : Int)) = true := bne_iff_ne.2 (by omega)
        obtain ⟨a0, a1, a2, a3⟩ := CEL.out W3 E3.out
        clear S1 S2 nm
        have E9 := E3
        clear E3
        generalize hW9 : W3 = W9 at *
        clear hW9
        obtain ⟨f0, f1, f2, f3⟩ := FIN.out W9 E9.out
        have RT := hid (RET.out W9 E9.out)
        clear MA MB MD HH E9 FIN RET CEL
        go_wp2
        refine bodyPost_ret (ret_box rfl RT.out.1 RT.out.2.1 rfl rfl rfl) rfl ?_
        exact ⟨⟨_, _, _, _, rfl⟩, RT.out.2.2⟩
      · clear S1 S2
        have E9 := E3
        clear E3
        generalize hW9 : W3 = W9 at *
        clear hW9
        obtain ⟨f0, f1, f2, f3⟩ := FIN.out W9 E9.out
        have RT := hid (RET.out W9 E9.out)
        clear MA MB MD HH E9 FIN RET CEL
        go_wp2
        refine bodyPost_ret (ret_box rfl RT.out.1 RT.out.2.1 rfl rfl rfl) rfl ?_
        exact ⟨⟨_, _, _, _, rfl⟩, RT.out.2.2⟩
    · clear S1
      have E9 := E2
      clear E2
      generalize hW9 : W2 = W9 at *
      clear hW9
      obtain ⟨f0, f1, f2, f3⟩ := FIN.out W9 E9.out
      have RT := hid (RET.out W9 E9.out)
      clear MA MB MD HH E9 FIN RET CEL
      go_wp2
      refine bodyPost_ret (ret_box rfl RT.out.1 RT.out.2.1 rfl rfl rfl) rfl ?_
      exact ⟨⟨_, _, _, _, rfl⟩, RT.out.2.2⟩
  · rw [decide_eq_false h1]
    have E9 := E0
    clear E0 h1
    generalize hW9 : W = W9 at *
    clear hW9
    obtain ⟨f0, f1, f2, f3⟩ := FIN.out W9 E9.out
    have RT := hid (RET.out W9 E9.out)
    clear MA MB MD HH E9 FIN RET CEL
    go_wp2
    refine bodyPost_ret (ret_box rfl RT.out.1 RT.out.2.1 rfl rfl rfl) rfl ?_
    exact ⟨⟨_, _, _, _, rfl⟩, RT.out.2.2⟩
end Go.Proofs.YtocfenjampmdlaaGreatDoor
