/- A copy of a list of ints (slices.Clone), in the landed conv. -/
/- Boxes with more powers, in the landed conv. -/
import Derived.Test.YtocfenjampmdlaaGreatDoorDt
import Derived.Shelf.Slices.Clone
namespace Go.Proofs.YtocfenjampmdlaaGreatDoor
open Go.RowKit Num Nmb

def Tryz.clone_ren : Go.Shelf.Ren := ⟨fun | 15 => 41 | n => n, fun | 22 => 41 | 3 => 3 | 4 => 4 | n => n, fun | n => n⟩
theorem Tryz.clone_lays : Go.Proofs.Lays2.n15 Tryz.prog Tryz.clone_ren := {
  mixed := by kernel_rfl
  f15 := Tryz.func41.trans (congrArg some (by kernel_rfl))
  t3 := Tryz.underlying3
  a3 := Tryz.isAgg3
  z3 := Tryz.sizeOf3
  v3 := Tryz.zeroValue3
  t4 := Tryz.underlying4
  a4 := Tryz.isAgg4
  z4 := Tryz.sizeOf4
  v4 := Tryz.zeroValue4
  t22 := Tryz.underlying41
  a22 := Tryz.isAgg41
  z22 := Tryz.sizeOf41
  v22 := Tryz.zeroValue41
  i3 := Tryz.infoI }
theorem clone_any (v : Value) (n : Nat) (f : Nat → Int) (w : World) (V : Wi w v n f) (hn : n ≤ 8) :
    Calls Tryz.prog 41 #[v] w fun e w' => (∃ xo xc, e = .returned (.slice xo n xc) ∧ Wi w' (.slice xo n xc) n f) ∧ Below w.heap.size w w' := by
  obtain ⟨ao, cap, rfl, h1, h2, h3, h5⟩ := V
  have own : ∀ (w' : World) (v' : Value) (zs : List Int), zs.length = n → (∀ j, j < n → zs.getD j 0 = f j) → w'.ownsRow w.heap.size 3 1 v' n (zs.map (Value.int .i64)) → ∃ xo xc, v' = .slice xo n xc ∧ Wi w' (.slice xo n xc) n f := by
    intro w' v' zs hz hf ho
    rcases ho.2 with ⟨rfl, h0⟩ | ⟨g, cp, cur, rfl, hg, hgg, hgc, hgm, hgs, htk⟩
    · exact ⟨none, 0, by rw [h0], none, 0, by rw [h0], by omega, by omega, h3, fun h => absurd h (by omega)⟩
    · refine ⟨_, cp, rfl, _, cp, rfl, hgc, by unfold maxLen at hgm; omega, h3, fun _ => ⟨g, 0, rfl, (Array.getElem?_eq_some_iff.1 hgg).1, fun j hj => ?_⟩⟩
      have e := World.ownsRow.cellAt ho j (by omega)
      rw [Nat.zero_add, e, List.getElem?_map, List.getElem?_eq_getElem (show j < zs.length by omega)]
      have e2 := hf j hj
      rw [List.getD_eq_getElem?_getD, List.getElem?_eq_getElem (show j < zs.length by omega)] at e2
      show some (Value.int .i64 zs[j]) = some (Value.int .i64 (f j))
      rw [← e2]
      rfl
  by_cases n0 : n = 0
  · subst n0
    cases ao with
    | none =>
      refine (Any.slices_Clone_int_nil Tryz.clone_lays 0 cap w).mono ?_
      rintro e w' ⟨rfl, rfl⟩
      exact ⟨⟨none, 0, rfl, none, 0, rfl, by omega, by omega, h3, fun h => absurd h (by omega)⟩, Below.refl _ _⟩
    | some x =>
      refine (Any.slices_Clone_int_zero Tryz.clone_lays x cap w).mono ?_
      rintro e w' ⟨v', rfl, ho, -, B⟩
      obtain ⟨xo, xc, rfl, W⟩ := own w' v' [] rfl (fun j hj => absurd hj (by omega)) ho
      exact ⟨⟨xo, xc, rfl, W⟩, B⟩
  · obtain ⟨b, off, rfl, hbs, hc⟩ := h5 (by omega)
    have hl : ((List.range n).map f).length = n := by simp
    have hg : ∀ j, j < n → ((List.range n).map f).getD j 0 = f j := fun j hj => by simp [List.getD, hj]
    refine (Any.slices_Clone_int Tryz.clone_lays b off n cap ((List.range n).map f) w (by omega) (by omega) (fun j hj => by rw [hl] at hj; rw [hg j hj]; exact hc j hj)).mono ?_
    rintro e w' ⟨v', rfl, ho, -, B⟩
    rw [List.take_of_length_le (by omega)] at ho
    obtain ⟨xo, xc, rfl, W⟩ := own w' v' _ hl hg ho
    exact ⟨⟨xo, xc, rfl, W⟩, B⟩
/-- a slice of ints, where a value is laid into a block that has none. -/
theorem Wi.setv {w : World} {v : Value} {n b k : Nat} {x : Nat → Int} {t : TypeId} {C : Nat → Value} (h : Wi w v n x) (R : Rv w b t k C) (hC : ∀ j, j < k → ∀ z, C j ≠ .int .i64 z) (i : Nat) (u : Value) : Wi (w.setCell ⟨b, i, none⟩ u) v n x := by
  obtain ⟨ao, cap, rfl, h1, h2, h3, h5⟩ := h
  refine ⟨ao, cap, rfl, h1, h2, h3, fun hn => ?_⟩
  obtain ⟨b', off, rfl, hbs, hc⟩ := h5 hn
  have ne : b' ≠ b := by
    rintro rfl
    have c0 := hc 0 hn
    by_cases ho : off + 0 < k
    · rw [R.cell ho] at c0
      exact hC _ ho _ (Option.some.inj c0)
    · obtain ⟨cur, hb, hs, _⟩ := R
      simp [World.cell?, hb, show cur.size ≤ off by omega] at c0
  refine ⟨b', off, rfl, by simpa [World.setCell] using hbs, fun j hj => ?_⟩
  rw [cell_other ne]
  exact hc j hj
end Go.Proofs.YtocfenjampmdlaaGreatDoor
namespace Go.Proofs.YtocfenjampmdlaaGreatDoor
open Go.RowKit Num Nmb

/-- the two variables of Widened. -/
structure WidE (w W : World) (ud ul : Value) : Prop where
  ra : Rv W w.heap.size 47 2 (fun j => if j = 0 then ud else ul)
  rr : Rv W (w.heap.size + 1) 47 2 (fun _ => .slice none 0 0)
  bel : Below w.heap.size w W
theorem WidE.below {w W W' : World} {ud ul : Value} (h : WidE w W ud ul) (hb : Below W.heap.size W W') : WidE w W' ud ul :=
  ⟨h.ra.below hb h.ra.lt, h.rr.below hb h.rr.lt, h.bel.trans (hb.mono h.bel.size)⟩
theorem WidE.new (w : World) (ud ul : Value) : WidE w ((w.alloc (.cells #[ud, ul] 47)).alloc (.cells #[.slice none 0 0, .slice none 0 0] 47)) ud ul := by
  have two : ∀ (w : World) (x y : Value), Rv (w.alloc (.cells #[x, y] 47)) w.heap.size 47 2 (fun j => if j = 0 then x else y) := fun w x y => Rv.new w _ _ _ _ rfl fun j hj => by
    match j, hj with
    | 0, _ => rfl
    | 1, _ => rfl
  have a1 := two w ud ul
  have a2 := two (w.alloc (.cells #[ud, ul] 47)) (.slice none 0 0) (.slice none 0 0)
  have z1 : (w.alloc (.cells #[ud, ul] 47)).heap.size = w.heap.size + 1 := by simp
  have b2 := below_new' (w.alloc (.cells #[ud, ul] 47)) (.cells #[.slice none 0 0, .slice none 0 0] 47)
  rw [z1] at a2 b2
  exact ⟨a1.below b2 (by omega), a2.eq (fun j _ => by by_cases e : j = 0 <;> simp [e]), (below_new' w _).trans (b2.mono (by omega))⟩
theorem WidE.ret {w W : World} {ud ul : Value} (h : WidE w W ud ul) (x y : Value) :
    ((W.setCell ⟨w.heap.size + 1, 0, none⟩ x).setCell ⟨w.heap.size + 1, 1, none⟩ y).cell? ⟨w.heap.size + 1, 0, none⟩ = some x ∧ ((W.setCell ⟨w.heap.size + 1, 0, none⟩ x).setCell ⟨w.heap.size + 1, 1, none⟩ y).cell? ⟨w.heap.size + 1, 1, none⟩ = some y ∧ OnlyB (w.heap.size + 1) W ((W.setCell ⟨w.heap.size + 1, 0, none⟩ x).setCell ⟨w.heap.size + 1, 1, none⟩ y) := by
  have r := (h.rr.set (D := fun j => if j = 0 then x else .slice none 0 0) 0 x (fun _ _ => rfl)).set (D := fun j => if j = 1 then y else if j = 0 then x else .slice none 0 0) 1 y (fun _ _ => rfl)
  exact ⟨r.cell (i := 0) (by omega), r.cell (i := 1) (by omega), ((OnlyB.refl _ W).set 0 x).set 1 y⟩
set_option maxHeartbeats 1600000 in
theorem cwid_arg (ud ul v : Value) (n m ka : Nat) (d f a : Nat → Int) (w : World) (UD : Wi w ud n d) (UL : Wl w ul ka a) (V : Wi w v m f) (h : ¬ SzIs d n ka 0 ∨ n ≠ m ∨ ∃ t, t < n ∧ f t < d t) :
    Calls Tryz.prog 21 #[.agg #[ud, ul], v] w fun e' w' => noBox 1 e' ∧ Below w.heap.size w w' := by
  have MA : Hid (∀ W, Below w.heap.size w W → Calls Tryz.prog 40 #[.agg #[ud, ul]] W fun e w' => (∃ b, e = .returned (.bool b) ∧ (b = true ∧ SzIs d n ka 0 ∨ b = false ∧ ¬ SzIs d n ka 0)) ∧ Below W.heap.size W w') := fun W B => mayBe_any ud ul n ka d a W (UD.below B) (UL.below B)
  have E0 := hid (WidE.new w ud ul)
  have RET : Hid (∀ W, WidE w W ud ul → ∀ x y, ((W.setCell ⟨w.heap.size + 1, 0, none⟩ x).setCell ⟨w.heap.size + 1, 1, none⟩ y).cell? ⟨w.heap.size + 1, 0, none⟩ = some x ∧ ((W.setCell ⟨w.heap.size + 1, 0, none⟩ x).setCell ⟨w.heap.size + 1, 1, none⟩ y).cell? ⟨w.heap.size + 1, 1, none⟩ = some y ∧ OnlyB (w.heap.size + 1) W ((W.setCell ⟨w.heap.size + 1, 0, none⟩ x).setCell ⟨w.heap.size + 1, 1, none⟩ y)) := fun W E x y => E.ret x y
  have CEL : Hid (∀ W, WidE w W ud ul → W.cell? ⟨w.heap.size, 0, none⟩ = some ud ∧ W.cell? ⟨w.heap.size, 1, none⟩ = some ul) := fun W E => ⟨E.ra.cell (i := 0) (by omega), E.ra.cell (i := 1) (by omega)⟩
  have FIN : Hid (∀ W, WidE w W ud ul → W.cell? ⟨w.heap.size + 1, 0, none⟩ = some (.slice none 0 0) ∧ W.cell? ⟨w.heap.size + 1, 1, none⟩ = some (.slice none 0 0) ∧ W.frozen? ⟨w.heap.size + 1, 0, none⟩ = false ∧ W.frozen? ⟨w.heap.size + 1, 1, none⟩ = false) := fun W E => ⟨E.rr.cell (by omega), E.rr.cell (by omega), E.rr.frozen _, E.rr.frozen _⟩
  have UU := hid UD
  have VV := hid V
  have HH := hid h
  obtain ⟨xo, xc, rfl, -⟩ := UD
  obtain ⟨lo, lc, rfl, -⟩ := UL
  obtain ⟨fo, fc, rfl, -⟩ := V
  clear h
  go_enter Tryz.func21, Tryz.ntmps21
  obtain ⟨a0, a1⟩ := CEL.out _ E0.out
  go_wp2_with fail
  generalize (w.alloc (.cells #[.slice xo n xc, .slice lo ka lc] 47)).alloc (.cells #[.slice none 0 0, .slice none 0 0] 47) = W at *
  refine (MA.out W E0.out.bel).mono ?_
  rintro e' W2 ⟨⟨b1, rfl, hb1⟩, B2⟩
  have E2 := hid (E0.out.below B2)
  clear E0 B2 a0 a1 MA
  obtain ⟨a0, a1⟩ := CEL.out W2 E2.out
  rcases hb1 with ⟨rfl, S1⟩ | ⟨rfl, S1⟩
  rotate_left
  · clear S1 UU VV HH a0 a1
    obtain ⟨f0, f1, f2, f3⟩ := FIN.out W2 E2.out
    have RT := hid (RET.out W2 E2.out (.slice none 0 0) (.slice none 0 0))
    have BB := hid E2.out.bel
    clear E2 FIN RET CEL 
    go_wp2
    refine bodyPost_ret (ret_box rfl RT.out.1 RT.out.2.1 rfl rfl rfl) rfl ?_
    exact ⟨⟨_, _, _, _, rfl⟩, BB.out.trans (RT.out.2.2.below.mono (by omega))⟩
  by_cases nm : n = m
  rotate_left
  · have nm' : ((m : Int) != (n : Int)) = true := bne_iff_ne.2 (by omega)
    clear S1 UU VV HH nm
    obtain ⟨f0, f1, f2, f3⟩ := FIN.out W2 E2.out
    have RT := hid (RET.out W2 E2.out (.slice none 0 0) (.slice none 0 0))
    have BB := hid E2.out.bel
    clear E2 FIN RET CEL 
    go_wp2
    refine bodyPost_ret (ret_box rfl RT.out.1 RT.out.2.1 rfl rfl rfl) rfl ?_
    exact ⟨⟨_, _, _, _, rfl⟩, BB.out.trans (RT.out.2.2.below.mono (by omega))⟩
  subst nm
  have HT : Hid (∃ t, t < n ∧ f t < d t) := by
    rcases HH.out with h | h | h
    · exact absurd S1 h
    · exact absurd rfl h
    · exact h
  have n8 : n ≤ 8 := (S1.ok rfl).1
  clear S1 HH
  go_wp2
  go_loopw [24] (fun iv wr => ∃ (i : Nat), iv = .int .i64 i ∧ i ≤ n ∧ Hid (∀ t, t < i → d t ≤ f t) ∧ wr = W2) (fun iv _ => ((n : Int) - intOf iv).toNat)
  case atStart => exact ⟨0, rfl, Nat.zero_le _, fun t ht => absurd ht (by omega), rfl⟩
  case round =>
    obtain ⟨i, rfl, hi, HL, hw⟩ := hrel
    obtain rfl := hw.symm
    by_cases hin : i = n
    · have hin' : ¬ (i : Int) < (n : Int) := by omega
      subst hin
      obtain ⟨t, ht, h3⟩ := HT.out
      have := HL.out t ht
      omega
    · have hin' : (i : Int) < (n : Int) := by omega
      obtain ⟨db, doff, rfl, dlt, dcell⟩ := UU.out.spot (by omega)
      obtain ⟨fb, foff, rfl, flt, fcell⟩ := VV.out.spot (by omega)
      have cd : W2.cell? ⟨db, doff + i, none⟩ = some (.int .i64 (d i)) := by
        rw [E2.out.bel.cell (p := ⟨db, doff + i, none⟩) dlt]; exact dcell i (by omega)
      have cf : W2.cell? ⟨fb, foff + i, none⟩ = some (.int .i64 (f i)) := by
        rw [E2.out.bel.cell (p := ⟨fb, foff + i, none⟩) flt]; exact fcell i (by omega)
      by_cases hlt : f i < d i
      · clear HL dlt dcell flt fcell UU VV HT
        obtain ⟨f0, f1, f2, f3⟩ := FIN.out W2 E2.out
        have RT := hid (RET.out W2 E2.out (.slice none 0 0) (.slice none 0 0))
        have BB := hid E2.out.bel
        clear E2 FIN RET CEL 
        go_wp2
        refine bodyPost_ret (ret_box rfl RT.out.1 RT.out.2.1 rfl rfl rfl) rfl ?_
        exact ⟨⟨_, _, _, _, rfl⟩, BB.out.trans (RT.out.2.2.below.mono (by omega))⟩
      · have HL2 : Hid (∀ t, t < i + 1 → d t ≤ f t) := fun t ht => by
          by_cases q : t = i
          · rw [q]; omega
          · exact HL.out t (by omega)
        clear HL dlt dcell flt fcell UU VV E2 RET CEL FIN HT
        generalize d i = di at *
        generalize f i = fi at *
        go_wp2
        exact ⟨⟨i + 1, rfl, by omega, HL2, by first | trivial | rfl⟩, by simp only [intOf]; omega⟩
set_option maxHeartbeats 1600000 in
theorem cwid_err (ud ul v : Value) (n ka : Nat) (d f a : Nat → Int) (er : Int) (w : World) (UD : Wi w ud n d) (UL : Wl w ul ka a) (V : Wi w v n f) (S1 : SzIs d n ka 0) (hf : ∀ t, t < n → d t ≤ f t) (S3 : SzIs f n 0 er) (he : er ≠ 0) :
    Calls Tryz.prog 21 #[.agg #[ud, ul], v] w fun e' w' => noBox er e' ∧ Below w.heap.size w w' := by
  have MA : Hid (∀ W, Below w.heap.size w W → Calls Tryz.prog 40 #[.agg #[ud, ul]] W fun e w' => (∃ b, e = .returned (.bool b) ∧ (b = true ∧ SzIs d n ka 0 ∨ b = false ∧ ¬ SzIs d n ka 0)) ∧ Below W.heap.size W w') := fun W B => mayBe_any ud ul n ka d a W (UD.below B) (UL.below B)
  have E0 := hid (WidE.new w ud ul)
  have RET : Hid (∀ W, WidE w W ud ul → ∀ x y, ((W.setCell ⟨w.heap.size + 1, 0, none⟩ x).setCell ⟨w.heap.size + 1, 1, none⟩ y).cell? ⟨w.heap.size + 1, 0, none⟩ = some x ∧ ((W.setCell ⟨w.heap.size + 1, 0, none⟩ x).setCell ⟨w.heap.size + 1, 1, none⟩ y).cell? ⟨w.heap.size + 1, 1, none⟩ = some y ∧ OnlyB (w.heap.size + 1) W ((W.setCell ⟨w.heap.size + 1, 0, none⟩ x).setCell ⟨w.heap.size + 1, 1, none⟩ y)) := fun W E x y => E.ret x y
  have CEL : Hid (∀ W, WidE w W ud ul → W.cell? ⟨w.heap.size, 0, none⟩ = some ud ∧ W.cell? ⟨w.heap.size, 1, none⟩ = some ul) := fun W E => ⟨E.ra.cell (i := 0) (by omega), E.ra.cell (i := 1) (by omega)⟩
  have FIN : Hid (∀ W, WidE w W ud ul → W.cell? ⟨w.heap.size + 1, 0, none⟩ = some (.slice none 0 0) ∧ W.cell? ⟨w.heap.size + 1, 1, none⟩ = some (.slice none 0 0) ∧ W.frozen? ⟨w.heap.size + 1, 0, none⟩ = false ∧ W.frozen? ⟨w.heap.size + 1, 1, none⟩ = false) := fun W E => ⟨E.rr.cell (by omega), E.rr.cell (by omega), E.rr.frozen _, E.rr.frozen _⟩
  have UU := hid UD
  have VV := hid V
  have HF := hid hf
  have HS1 := hid S1
  have SZ : Hid (∀ W, Below w.heap.size w W → Calls Tryz.prog 17 #[v] W fun e' w' => e' = .returned (.tuple #[.int .i64 0, .int .i64 er]) ∧ w' = W) := fun W B => by
    refine (size_same v n f W (V.below B)).mono ?_
    rintro e' w' ⟨⟨r, er', rfl, S⟩, hw⟩
    obtain ⟨rfl, rfl⟩ := S.uniq S3
    exact ⟨rfl, hw⟩
  have er' : (er != 0) = true := bne_iff_ne.2 he
  have n8 : n ≤ 8 := (S1.ok rfl).1
  obtain ⟨xo, xc, rfl, -⟩ := UD
  obtain ⟨lo, lc, rfl, -⟩ := UL
  obtain ⟨fo, fc, rfl, -⟩ := V
  clear hf S1 S3
  go_enter Tryz.func21, Tryz.ntmps21
  obtain ⟨a0, a1⟩ := CEL.out _ E0.out
  go_wp2_with fail
  generalize (w.alloc (.cells #[.slice xo n xc, .slice lo ka lc] 47)).alloc (.cells #[.slice none 0 0, .slice none 0 0] 47) = W at *
  refine (MA.out W E0.out.bel).mono ?_
  rintro e' W2 ⟨⟨b1, rfl, hb1⟩, B2⟩
  have E2 := hid (E0.out.below B2)
  clear E0 B2 a0 a1 MA
  obtain ⟨a0, a1⟩ := CEL.out W2 E2.out
  obtain rfl : b1 = true := by
    rcases hb1 with ⟨h, -⟩ | ⟨-, h⟩
    · exact h
    · exact absurd HS1.out h
  clear hb1 HS1
  go_wp2
  go_loopw [24] (fun iv wr => ∃ (i : Nat), iv = .int .i64 i ∧ i ≤ n ∧ Hid (∀ t, t < i → d t ≤ f t) ∧ wr = W2) (fun iv _ => ((n : Int) - intOf iv).toNat)
  case atStart => exact ⟨0, rfl, Nat.zero_le _, fun t ht => absurd ht (by omega), rfl⟩
  case round =>
    obtain ⟨i, rfl, hi, HL, hw⟩ := hrel
    obtain rfl := hw.symm
    by_cases hin : i = n
    · have hin' : ¬ (i : Int) < (n : Int) := by omega
      subst hin
      have SS := hid (SZ.out W2 E2.out.bel)
      clear UU VV SZ HF HL
      go_wp2_with fail
      refine SS.out.mono ?_
      rintro e' w9 ⟨rfl, hw⟩
      obtain rfl := hw.symm
      clear SS
      obtain ⟨f0, f1, f2, f3⟩ := FIN.out W2 E2.out
      have RT := hid (RET.out W2 E2.out (.slice none 0 0) (.slice none 0 0))
      have BB := hid E2.out.bel
      clear E2 FIN RET CEL 
      go_wp2
      refine bodyPost_ret (ret_box rfl RT.out.1 RT.out.2.1 rfl rfl rfl) rfl ?_
      exact ⟨⟨_, _, _, _, rfl⟩, BB.out.trans (RT.out.2.2.below.mono (by omega))⟩
    · have hin' : (i : Int) < (n : Int) := by omega
      obtain ⟨db, doff, rfl, dlt, dcell⟩ := UU.out.spot (by omega)
      obtain ⟨fb, foff, rfl, flt, fcell⟩ := VV.out.spot (by omega)
      have cd : W2.cell? ⟨db, doff + i, none⟩ = some (.int .i64 (d i)) := by
        rw [E2.out.bel.cell (p := ⟨db, doff + i, none⟩) dlt]; exact dcell i (by omega)
      have cf : W2.cell? ⟨fb, foff + i, none⟩ = some (.int .i64 (f i)) := by
        rw [E2.out.bel.cell (p := ⟨fb, foff + i, none⟩) flt]; exact fcell i (by omega)
      by_cases hlt : f i < d i
      · exact absurd (HF.out i (by omega)) (by omega)
      · have HL2 : Hid (∀ t, t < i + 1 → d t ≤ f t) := fun t ht => by
          by_cases q : t = i
          · rw [q]; omega
          · exact HL.out t (by omega)
        clear HL dlt dcell flt fcell UU VV E2 RET CEL FIN HF SZ
        generalize d i = di at *
        generalize f i = fi at *
        go_wp2
        exact ⟨⟨i + 1, rfl, by omega, HL2, by first | trivial | rfl⟩, by simp only [intOf]; omega⟩
/-- block g holds no number. -/
def NoI (W : World) (g : Nat) : Prop := ∃ C, Rv W g 47 2 C ∧ ∀ j z, C j ≠ .int .i64 z ∧ C j ≠ .int .u64 z
theorem NoI.set {W : World} {g : Nat} (h : NoI W g) (i : Nat) (xo : Option Addr) (k xc : Nat) : NoI (W.setCell ⟨g, i, none⟩ (.slice xo k xc)) g := by
  obtain ⟨C, R, hC⟩ := h
  refine ⟨fun j => if j = i then .slice xo k xc else C j, R.set i _ (fun _ _ => rfl), fun j z => ?_⟩
  dsimp only
  by_cases q : j = i
  · rw [if_pos q]; exact ⟨fun h => (by cases h), fun h => (by cases h)⟩
  · rw [if_neg q]; exact hC j z
theorem NoI.wi {W : World} {g n : Nat} {v : Value} {x : Nat → Int} (h : NoI W g) (V : Wi W v n x) (i : Nat) (u : Value) : Wi (W.setCell ⟨g, i, none⟩ u) v n x := by
  obtain ⟨C, R, hC⟩ := h
  exact V.setv R (fun j _ z => (hC j z).1) i u
theorem NoI.wl {W : World} {g n : Nat} {v : Value} {x : Nat → Int} (h : NoI W g) (V : Wl W v n x) (i : Nat) (u : Value) : Wl (W.setCell ⟨g, i, none⟩ u) v n x := by
  obtain ⟨C, R, hC⟩ := h
  exact V.setv R (fun j _ z => (hC j z).2) i u
/-- what holds all along the region in which the answer is made. -/
structure WidC (w W : World) (ud ul : Value) : Prop where
  ra : Rv W w.heap.size 47 2 (fun j => if j = 0 then ud else ul)
  rr : NoI W (w.heap.size + 1)
  bel : Below w.heap.size w W
theorem WidE.c {w W : World} {ud ul : Value} (h : WidE w W ud ul) : WidC w W ud ul := ⟨h.ra, ⟨_, h.rr, fun _ _ => ⟨fun h => (by cases h), fun h => (by cases h)⟩⟩, h.bel⟩
/-- the step of operation i. -/
def TW (g : Nat) (i : Nat) (w w' : World) : Prop := (i ≠ 7 ∧ Below w.heap.size w w') ∨ (i = 7 ∧ NoI w g ∧ ∃ xo k xc lo l lc, w' = (w.setCell ⟨g, 0, none⟩ (.slice xo k xc)).setCell ⟨g, 1, none⟩ (.slice lo l lc))
theorem WidC.keep {w W W' : World} {ud ul : Value} {i : Nat} (h : WidC w W ud ul) (t : TW (w.heap.size + 1) i W W') : WidC w W' ud ul := by
  rcases t with ⟨-, hb⟩ | ⟨-, -, xo, k, xc, lo, l, lc, rfl⟩
  · obtain ⟨C, R, hC⟩ := h.rr
    exact ⟨h.ra.below hb h.ra.lt, ⟨C, R.below hb R.lt, hC⟩, h.bel.trans (hb.mono h.bel.size)⟩
  · exact ⟨(h.ra.other (by omega) _ _).other (by omega) _ _, (h.rr.set 0 xo k xc).set 1 lo l lc, below_set (below_set h.bel (by omega) _ _) (by omega) _ _⟩
/-- what is known of the values of the region. -/
def RpW (V0 V2 : Value) (g n K : Nat) (f X : Nat → Int) : Nat → Value → World → Prop
  | 0, v, _ => v = V0
  | 1, v, W => ∃ xo xc, v = .slice xo n xc ∧ Wi W (.slice xo n xc) n f
  | 2, v, _ => v = V2
  | 3, v, _ => v = V0
  | 4, v, _ => v = .int .i64 K
  | 5, v, W => ∃ lo lc, v = .slice lo K lc ∧ Wl W (.slice lo K lc) K X
  | 6, v, W => ∃ xo xc lo lc, v = .agg #[.slice xo n xc, .slice lo K lc] ∧ Wi W (.slice xo n xc) n f ∧ Wl W (.slice lo K lc) K X
  | 7, _, W => g < W.heap.size ∧ ∃ xo xc lo lc, W.cell? ⟨g, 0, none⟩ = some (.slice xo n xc) ∧ W.cell? ⟨g, 1, none⟩ = some (.slice lo K lc) ∧ Wi W (.slice xo n xc) n f ∧ Wl W (.slice lo K lc) K X
  | _ + 8, v, _ => v = .int .i64 0
theorem RpW.below {V0 V2 : Value} {g n K : Nat} {f X : Nat → Int} {v : Value} {w w' : World} (hb : Below w.heap.size w w') : ∀ j, RpW V0 V2 g n K f X j v w → RpW V0 V2 g n K f X j v w'
  | 0, h => h
  | 1, ⟨xo, xc, e, r⟩ => ⟨xo, xc, e, r.below hb⟩
  | 2, h => h
  | 3, h => h
  | 4, h => h
  | 5, ⟨lo, lc, e, r⟩ => ⟨lo, lc, e, r.below hb⟩
  | 6, ⟨xo, xc, lo, lc, e, r, q⟩ => ⟨xo, xc, lo, lc, e, r.below hb, q.below hb⟩
  | 7, ⟨hg, xo, xc, lo, lc, c0, c1, r, q⟩ => ⟨Nat.lt_of_lt_of_le hg hb.size, xo, xc, lo, lc, by rw [hb.cell (p := ⟨g, 0, none⟩) hg]; exact c0, by rw [hb.cell (p := ⟨g, 1, none⟩) hg]; exact c1, r.below hb, q.below hb⟩
  | _ + 8, h => h
theorem RpW.set {V0 V2 : Value} {g n K : Nat} {f X : Nat → Int} {v : Value} {w : World} (no : NoI w g) (xo : Option Addr) (k xc : Nat) (lo : Option Addr) (l lc : Nat) : ∀ j, j ≠ 7 → RpW V0 V2 g n K f X j v w → RpW V0 V2 g n K f X j v ((w.setCell ⟨g, 0, none⟩ (.slice xo k xc)).setCell ⟨g, 1, none⟩ (.slice lo l lc))
  | 0, _, h => h
  | 1, _, ⟨yo, yc, e, r⟩ => ⟨yo, yc, e, (no.set 0 xo k xc).wi (no.wi r _ _) _ _⟩
  | 2, _, h => h
  | 3, _, h => h
  | 4, _, h => h
  | 5, _, ⟨yo, yc, e, r⟩ => ⟨yo, yc, e, (no.set 0 xo k xc).wl (no.wl r _ _) _ _⟩
  | 6, _, ⟨yo, yc, zo, zc, e, r, q⟩ => ⟨yo, yc, zo, zc, e, (no.set 0 xo k xc).wi (no.wi r _ _) _ _, (no.set 0 xo k xc).wl (no.wl q _ _) _ _⟩
  | 7, h7, _ => absurd rfl h7
  | _ + 8, _, h => h
set_option maxHeartbeats 6400000 in
set_option maxRecDepth 100000 in
theorem cwid_yes (ud ul v : Value) (n ka K : Nat) (d f a : Nat → Int) (w : World) (UD : Wi w ud n d) (UL : Wl w ul ka a) (V : Wi w v n f) (S1 : SzIs d n ka 0) (hf : ∀ t, t < n → d t ≤ f t) (S3 : SzIs f n K 0) :
    Calls Tryz.prog 21 #[.agg #[ud, ul], v] w fun e' w' => (∃ xo xc lo lc, e' = .returned (.tuple #[.agg #[.slice xo n xc, .slice lo K lc], .int .i64 0]) ∧ Wi w' (.slice xo n xc) n f ∧ Wl w' (.slice lo K lc) K (wdp d f n a ka)) ∧ Below w.heap.size w w' := by
  have MA : Hid (∀ W, Below w.heap.size w W → Calls Tryz.prog 40 #[.agg #[ud, ul]] W fun e w' => (∃ b, e = .returned (.bool b) ∧ (b = true ∧ SzIs d n ka 0 ∨ b = false ∧ ¬ SzIs d n ka 0)) ∧ Below W.heap.size W w') := fun W B => mayBe_any ud ul n ka d a W (UD.below B) (UL.below B)
  have E0 := hid (WidE.new w ud ul)
  have RET : Hid (∀ W, WidE w W ud ul → ∀ x y, ((W.setCell ⟨w.heap.size + 1, 0, none⟩ x).setCell ⟨w.heap.size + 1, 1, none⟩ y).cell? ⟨w.heap.size + 1, 0, none⟩ = some x ∧ ((W.setCell ⟨w.heap.size + 1, 0, none⟩ x).setCell ⟨w.heap.size + 1, 1, none⟩ y).cell? ⟨w.heap.size + 1, 1, none⟩ = some y ∧ OnlyB (w.heap.size + 1) W ((W.setCell ⟨w.heap.size + 1, 0, none⟩ x).setCell ⟨w.heap.size + 1, 1, none⟩ y)) := fun W E x y => E.ret x y
  have CEL : Hid (∀ W, WidE w W ud ul → W.cell? ⟨w.heap.size, 0, none⟩ = some ud ∧ W.cell? ⟨w.heap.size, 1, none⟩ = some ul) := fun W E => ⟨E.ra.cell (i := 0) (by omega), E.ra.cell (i := 1) (by omega)⟩
  have FIN : Hid (∀ W, WidE w W ud ul → W.cell? ⟨w.heap.size + 1, 0, none⟩ = some (.slice none 0 0) ∧ W.cell? ⟨w.heap.size + 1, 1, none⟩ = some (.slice none 0 0) ∧ W.frozen? ⟨w.heap.size + 1, 0, none⟩ = false ∧ W.frozen? ⟨w.heap.size + 1, 1, none⟩ = false) := fun W E => ⟨E.rr.cell (by omega), E.rr.cell (by omega), E.rr.frozen _, E.rr.frozen _⟩
  have UU := hid UD
  have VV := hid V
  have HF := hid hf
  have HS1 := hid S1
  have SZ : Hid (∀ W, Below w.heap.size w W → Calls Tryz.prog 17 #[v] W fun e' w' => e' = .returned (.tuple #[.int .i64 K, .int .i64 0]) ∧ w' = W) := fun W B => by
    refine (size_same v n f W (V.below B)).mono ?_
    rintro e' w' ⟨⟨r, er', rfl, S⟩, hw⟩
    obtain ⟨rfl, rfl⟩ := S.uniq S3
    exact ⟨rfl, hw⟩
  obtain ⟨n8, hd, h65, hka⟩ := S1.ok rfl
  obtain ⟨-, hf1, hf65, hKK⟩ := S3.ok rfl
  have lt1 := pl_lt (d := f) (e := fun t => d t - 1) (n := n) (fun t ht => by have := hd t ht; have := hf t ht; omega)
  have CLO : Hid (∀ W, Below w.heap.size w W → Calls Tryz.prog 41 #[v] W fun e w' => (∃ xo xc, e = .returned (.slice xo n xc) ∧ Wi w' (.slice xo n xc) n f) ∧ Below W.heap.size W w') := fun W B => clone_any v n f W (V.below B) n8
  have wbd : ∀ c, c ≤ ka → ∀ j, 0 ≤ wdp d f n a c j ∧ wdp d f n a c j ≤ 18446744073709551615 := fun c => by
    induction c with
    | zero => intro _ j; show (0 : Int) ≤ 0 ∧ (0 : Int) ≤ _; omega
    | succ c ih =>
      intro hc j
      rw [wdp_step hd hf a hka.symm (by omega) j]
      by_cases q : j = ph d f n c
      · rw [if_pos q]; exact UL.val (j := c) (by omega)
      · rw [if_neg q]; exact ih (by omega) j
  have SPR : Hid (∀ W, Below w.heap.size w W → Calls Tryz.prog 42 #[.agg #[ud, ul], v, .int .i64 K] W fun e w' => (∃ lo lc, e = .returned (.slice lo K lc) ∧ Wl w' (.slice lo K lc) K (wdp d f n a ka)) ∧ Below W.heap.size W w') := fun W B => by
    refine (spread_any ud ul v n ka K d f a W (UD.below B) (UL.below B) (V.below B) hd hf hka.symm (by omega) hf65 (fun i _ => by have := ph_lt hd hf i; omega) (by omega) n8).mono ?_
    rintro e w' ⟨⟨gr, rfl, R, -⟩, B'⟩
    exact ⟨⟨_, _, rfl, R.wl (fun j _ => wbd ka (Nat.le_refl _) j) (by omega)⟩, B'⟩
  clear wbd lt1 hd hf1 hka hKK h65 hf65
  obtain ⟨xo, xc, rfl, -⟩ := UD
  obtain ⟨lo, lc, rfl, -⟩ := UL
  obtain ⟨fo, fc, rfl, -⟩ := V
  clear hf S1 S3
  go_enter Tryz.func21, Tryz.ntmps21
  obtain ⟨a0, a1⟩ := CEL.out _ E0.out
  go_wp2_with fail
  generalize (w.alloc (.cells #[.slice xo n xc, .slice lo ka lc] 47)).alloc (.cells #[.slice none 0 0, .slice none 0 0] 47) = W at *
  refine (MA.out W E0.out.bel).mono ?_
  rintro e' W2 ⟨⟨b1, rfl, hb1⟩, B2⟩
  have E2 := hid (E0.out.below B2)
  clear E0 B2 a0 a1 MA
  obtain ⟨a0, a1⟩ := CEL.out W2 E2.out
  obtain rfl : b1 = true := by
    rcases hb1 with ⟨h, -⟩ | ⟨-, h⟩
    · exact h
    · exact absurd HS1.out h
  clear hb1 HS1
  go_wp2
  go_loopw [24] (fun iv wr => ∃ (i : Nat), iv = .int .i64 i ∧ i ≤ n ∧ Hid (∀ t, t < i → d t ≤ f t) ∧ wr = W2) (fun iv _ => ((n : Int) - intOf iv).toNat)
  case atStart => exact ⟨0, rfl, Nat.zero_le _, fun t ht => absurd ht (by omega), rfl⟩
  case round =>
    obtain ⟨i, rfl, hi, HL, hw⟩ := hrel
    obtain rfl := hw.symm
    by_cases hin : i = n
    · have hin' : ¬ (i : Int) < (n : Int) := by omega
      subst hin
      have SS := hid (SZ.out W2 E2.out.bel)
      clear UU VV SZ HF HL
      go_wp2_with fail
      refine SS.out.mono ?_
      rintro e' w9 ⟨rfl, hw⟩
      obtain rfl := hw.symm
      clear SS
      have EC := hid E2.out.c
      have CC : Hid (∀ W, WidC w W (.slice xo i xc) (.slice lo ka lc) → W.cell? ⟨w.heap.size, 0, none⟩ = some (.slice xo i xc) ∧ W.cell? ⟨w.heap.size, 1, none⟩ = some (.slice lo ka lc)) := fun W E => ⟨E.ra.cell (i := 0) (by omega), E.ra.cell (i := 1) (by omega)⟩
      clear E2 FIN RET CEL
      go_wp2_with fail
      clear a0 a1
      rename_i hKx
      refine wp_region_mono (by kernel_rfl) (fun s => ⟨#[_, _, _, _, _, s 8, _, _, _, _, _, _, _, _, _, _, _, _, _, _, _, _, _, _, _, _, _, _, _, _, _, _, _, _, _, _, _, _, _, _, _, _, _, _, _, _, _, s 0, s 1, s 2, s 3, s 4, s 5, s 6], []⟩)
        (RpW (.slice fo i fc) (.agg #[.slice xo i xc, .slice lo ka lc]) (w.heap.size + 1) i K f (wdp d f i a ka))
        (fun W => WidC w W (.slice xo i xc) (.slice lo ka lc)) (TW (w.heap.size + 1)) (fun i0 j hne hj hw v w1 w2 ht hr => ?_) (fun _ _ _ ht hc => hc.keep ht) (by kernel_rfl) ?_ ?_ (fun j => if j = 8 then u5 else undef) _ _ rfl ?_
      · rcases ht with ⟨-, hb⟩ | ⟨rfl, no, xo', k', xc', lo', l', lc', rfl⟩
        · exact hr.below hb j
        · exact hr.set no xo' k' xc' lo' l' lc' j hne
      · refine ⟨?_, ?_, ?_, ?_, ?_, ?_, ?_, ?_, ?_, trivial⟩
        · intro s w0 hC hd K0 hK
          clear hd hC
          go_simp
          exact hK _ _ (Or.inl ⟨by decide, Below.refl _ _⟩) rfl
        · intro s w0 hC hd K0 hK
          obtain ⟨d0, _⟩ := hd
          have e0 : s 0 = _ := d0 rfl
          have CT := CLO.out w0 hC.bel
          rw [← e0] at CT
          have HCT := hid CT
          clear hC d0 CT e0
          go_simp
          refine HCT.out.mono ?_
          rintro e' w' ⟨⟨yo, yc, rfl, R⟩, B⟩
          go_simp
          exact hK _ _ (Or.inl ⟨by decide, B⟩) ⟨yo, yc, rfl, R⟩
        · intro s w0 hC hd K0 hK
          obtain ⟨a0, a1⟩ := CC.out w0 hC
          clear hd hC
          go_simp
          exact hK _ _ (Or.inl ⟨by decide, Below.refl _ _⟩) rfl
        · intro s w0 hC hd K0 hK
          clear hd hC
          go_simp
          exact hK _ _ (Or.inl ⟨by decide, Below.refl _ _⟩) rfl
        · intro s w0 hC hd K0 hK
          clear hd hC
          go_simp
          exact hK _ _ (Or.inl ⟨by decide, Below.refl _ _⟩) rfl
        · intro s w0 hC hd K0 hK
          obtain ⟨d0, d1, d2, _⟩ := hd
          have e2 : s 2 = _ := d0 rfl
          have e3 : s 3 = _ := d1 rfl
          have e4 : s 4 = _ := d2 rfl
          have CT := SPR.out w0 hC.bel
          rw [← e2, ← e3, ← e4] at CT
          have HCT := hid CT
          clear hC d0 d1 d2 CT e2 e3 e4
          go_simp
          refine HCT.out.mono ?_
          rintro e' w' ⟨⟨yo, yc, rfl, R⟩, B⟩
          go_simp
          exact hK _ _ (Or.inl ⟨by decide, B⟩) ⟨yo, yc, rfl, R⟩
        · intro s w0 hC hd K0 hK
          obtain ⟨d0, d1, _⟩ := hd
          obtain ⟨yo, yc, e1, R1⟩ := (show ∃ yo yc, s 1 = _ ∧ _ from d0 rfl)
          obtain ⟨zo, zc, e5, R5⟩ := (show ∃ zo zc, s 5 = _ ∧ _ from d1 rfl)
          have H1 := hid R1
          have H5 := hid R5
          clear hC d0 d1 R1 R5
          go_simp
          rw [← e1, ← e5]
          have := hK (.agg #[s 1, s 5]) w0 (Or.inl ⟨by decide, Below.refl _ _⟩) ⟨yo, yc, zo, zc, by rw [e1, e5], H1.out, H5.out⟩
          exact this
        · intro s w0 hC hd K0 hK
          obtain ⟨d0, _⟩ := hd
          obtain ⟨yo, yc, zo, zc, e6, R1, R5⟩ := (show ∃ yo yc zo zc, s 6 = _ ∧ _ ∧ _ from d0 rfl)
          obtain ⟨C, RC, hCC⟩ := hC.rr
          have f0 := RC.frozen 0
          have f1 := RC.frozen 1
          have k0 := RC.cell (i := 0) (by omega)
          have k1 := RC.cell (i := 1) (by omega)
          have NO := hid hC.rr
          have r1 := RC.set (D := fun j => if j = 0 then .slice yo i yc else C j) 0 (.slice yo i yc) (fun _ _ => rfl)
          have r2 := r1.set (D := fun j => if j = 1 then .slice zo K zc else if j = 0 then .slice yo i yc else C j) 1 (.slice zo K zc) (fun _ _ => rfl)
          have FI : Hid (RpW (.slice fo i fc) (.agg #[.slice xo i xc, .slice lo ka lc]) (w.heap.size + 1) i K f (wdp d f i a ka) 7 undef ((w0.setCell ⟨w.heap.size + 1, 0, none⟩ (.slice yo i yc)).setCell ⟨w.heap.size + 1, 1, none⟩ (.slice zo K zc))) :=
            ⟨r2.lt, yo, yc, zo, zc, r2.cell (i := 0) (by omega), r2.cell (i := 1) (by omega), (NO.out.set 0 yo i yc).wi (NO.out.wi R1 _ _) _ _, (NO.out.set 0 yo i yc).wl (NO.out.wl R5 _ _) _ _⟩
          clear hC d0 R1 R5 RC r1 r2 hCC
          go_simp
          rw [← e6]
          exact hK undef _ (Or.inr ⟨rfl, NO.out, yo, i, yc, zo, K, zc, rfl⟩) FI.out
        · intro s w0 hC hd K0 hK
          clear hd hC
          go_simp
          exact hK _ _ (Or.inl ⟨by decide, Below.refl _ _⟩) rfl
      · intro s w9 hC hR
        obtain ⟨-, yo, yc, zo, zc, c0, c1, W1, W5⟩ := (show _ ∧ ∃ yo yc zo zc, _ ∧ _ ∧ _ ∧ _ from hR 7 (by decide))
        have e8 : s 8 = _ := hR 8 (by decide)
        have HW1 := hid W1
        have HW5 := hid W5
        have BF := hid hC.bel
        simp only [e8]
        clear e8 hC hR W1 W5 CC CLO SPR EC
        refine hKx _ _ ?_
        clear hKx
        go_wp2
        refine bodyPost_ret (ret_box rfl c0 c1 rfl rfl rfl) rfl ?_
        exact ⟨⟨_, _, _, _, rfl, HW1.out, HW5.out⟩, BF.out⟩
      · exact EC.out.keep (i := 0) (Or.inl ⟨by decide, below_drewN (Below.refl _ _) 1⟩)
    · have hin' : (i : Int) < (n : Int) := by omega
      obtain ⟨db, doff, rfl, dlt, dcell⟩ := UU.out.spot (by omega)
      obtain ⟨fb, foff, rfl, flt, fcell⟩ := VV.out.spot (by omega)
      have cd : W2.cell? ⟨db, doff + i, none⟩ = some (.int .i64 (d i)) := by
        rw [E2.out.bel.cell (p := ⟨db, doff + i, none⟩) dlt]; exact dcell i (by omega)
      have cf : W2.cell? ⟨fb, foff + i, none⟩ = some (.int .i64 (f i)) := by
        rw [E2.out.bel.cell (p := ⟨fb, foff + i, none⟩) flt]; exact fcell i (by omega)
      by_cases hlt : f i < d i
      · exact absurd (HF.out i (by omega)) (by omega)
      · have HL2 : Hid (∀ t, t < i + 1 → d t ≤ f t) := fun t ht => by
          by_cases q : t = i
          · rw [q]; omega
          · exact HL.out t (by omega)
        clear HL dlt dcell flt fcell UU VV E2 RET CEL FIN HF SZ CLO SPR
        generalize d i = di at *
        generalize f i = fi at *
        go_wp2
        exact ⟨⟨i + 1, rfl, by omega, HL2, by first | trivial | rfl⟩, by simp only [intOf]; omega⟩
end Go.Proofs.YtocfenjampmdlaaGreatDoor
