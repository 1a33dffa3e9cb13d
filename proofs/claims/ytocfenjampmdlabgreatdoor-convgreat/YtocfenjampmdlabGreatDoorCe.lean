/- What the calls of the landed conv answer: Conv, Exact, Size, Place, Mul, Widened. -/
/- The examples of chapter 8. -/
import Derived.Test.YtocfenjampmdlabGreatDoorDn
import Derived.Test.YtocfenjampmdlabGreatDoorTm
import Derived.Test.YtocfenjampmdlabGreatDoorBRefn
import Derived.Test.YtocfenjampmdlabGreatDoorBBdx
import Derived.Test.YtocfenjampmdlabGreatDoorDl
import Derived.Test.YtocfenjampmdlabGreatDoorDt
import Derived.Test.YtocfenjampmdlabGreatDoorDw

namespace Go.Proofs.YtocfenjampmdlabGreatDoor
open Go.RowKit Num Nmb

theorem same_yes8 (u v : Value) (n : Nat) (a b : Nat → Int) (w : World) (hu : Wl w u n a) (hv : Wl w v n b) (h : ∀ j, j < n → a j = b j) :
    Calls Tryz.prog 11 #[u, v] w fun e w' => e = .returned (.bool true) ∧ ∃ c, w' = w.drewN c :=
  rsame_any u v n n a b w hu hv true ⟨fun _ => ⟨rfl, h⟩, fun _ => rfl⟩
/-- two lists of words that are written out. -/
theorem lits (w : World) (l l' : List Nat) (o o' : Obj) (ho : o = .cells (wordCells l).toArray 22 (0, 0)) (ho' : o' = .cells (wordCells l').toArray 22 (0, 0)) (hl : l.length ≤ 100) (hl' : l'.length ≤ 100) (hb : ∀ x, x ∈ l → x ≤ 18446744073709551615) (hb' : ∀ x, x ∈ l' → x ≤ 18446744073709551615) :
    Wl ((w.alloc o).alloc o') (.slice (some ⟨w.heap.size, 0, none⟩) l.length l.length) l.length (lw l) ∧ Wl ((w.alloc o).alloc o') (.slice (some ⟨w.heap.size + 1, 0, none⟩) l'.length l'.length) l'.length (lw l') ∧ Below w.heap.size w ((w.alloc o).alloc o') := by
  have h1 := Wl.lit w l o ho hl hb
  have h2 := Wl.lit (w.alloc o) l' o' ho' hl' hb'
  have b1 : Below w.heap.size w (w.alloc o) := (Below.refl _ _).alloc (Nat.le_refl _) _
  have b2 : Below (w.alloc o).heap.size (w.alloc o) ((w.alloc o).alloc o') := (Below.refl _ _).alloc (Nat.le_refl _) _
  have e : (w.alloc o).heap.size = w.heap.size + 1 := by simp
  refine ⟨h1.below b2, by rw [e] at h2; exact h2, b1.trans (b2.mono b1.size)⟩
theorem Wi.lit (w : World) (l : List Nat) (o : Obj) (ho : o = .cells (l.map (fun x : Nat => Value.int .i64 (x : Int))).toArray 3 (0, 0)) (hl : l.length ≤ 100) (hb : ∀ x, x ∈ l → x ≤ 1000) :
    Wi (w.alloc o) (.slice (some ⟨w.heap.size, 0, none⟩) l.length l.length) l.length (lw l) := by
  have hc : (w.alloc o).heap[w.heap.size]? = some o := heap_alloc_new w o
  refine ⟨_, _, rfl, Nat.le_refl _, by omega, fun j hj => ?_, fun _ => ⟨_, 0, rfl, by simp, fun j hj => ?_⟩⟩
  · unfold lw
    have : l.getD j 0 ∈ l := by rw [List.getD_eq_getElem?_getD, List.getElem?_eq_getElem hj]; exact List.getElem_mem _
    have := hb _ this
    omega
  · rw [ho] at hc ⊢
    unfold World.cell?
    simp only [hc]
    have e2 : l.getD j 0 = l[j] := by rw [List.getD_eq_getElem?_getD, List.getElem?_eq_getElem hj]; rfl
    unfold lw
    rw [e2, Nat.zero_add]
    simp [hj]
theorem litsi (w : World) (l l' : List Nat) (o o' : Obj) (ho : o = .cells (l.map (fun x : Nat => Value.int .i64 (x : Int))).toArray 3 (0, 0)) (ho' : o' = .cells (l'.map (fun x : Nat => Value.int .i64 (x : Int))).toArray 3 (0, 0)) (hl : l.length ≤ 100) (hl' : l'.length ≤ 100) (hb : ∀ x, x ∈ l → x ≤ 1000) (hb' : ∀ x, x ∈ l' → x ≤ 1000) :
    Wi ((w.alloc o).alloc o') (.slice (some ⟨w.heap.size, 0, none⟩) l.length l.length) l.length (lw l) ∧ Wi ((w.alloc o).alloc o') (.slice (some ⟨w.heap.size + 1, 0, none⟩) l'.length l'.length) l'.length (lw l') ∧ Below w.heap.size w ((w.alloc o).alloc o') := by
  have h1 := Wi.lit w l o ho hl hb
  have h2 := Wi.lit (w.alloc o) l' o' ho' hl' hb'
  have b1 : Below w.heap.size w (w.alloc o) := (Below.refl _ _).alloc (Nat.le_refl _) _
  have b2 : Below (w.alloc o).heap.size (w.alloc o) ((w.alloc o).alloc o') := (Below.refl _ _).alloc (Nat.le_refl _) _
  have e : (w.alloc o).heap.size = w.heap.size + 1 := by simp
  refine ⟨h1.below b2, by rw [e] at h2; exact h2, b1.trans (b2.mono b1.size)⟩
theorem ex_prd : ∀ j, j < 3 → prd (lw [1, 2]) (lw [3, 4]) 2 2 j % (5 : Nat) = lw [3, 0, 3] j := by decide
theorem ex_exact : prd (lw [18446744073709551615]) (lw [2]) 1 1 0 = 36893488147419103230 := by decide
theorem ex_place {r er : Int} (h : PlIs (lw [2, 3]) 2 (lw [1, 2]) 2 r er) : r = 5 ∧ er = 0 := by
  refine h.uniq (r' := 5) (er' := 0) (Or.inr ⟨⟨6, Or.inr ⟨by decide, by decide, Or.inr ⟨by decide, by decide, rfl⟩⟩⟩, Or.inr ⟨rfl, by decide, by decide, rfl⟩⟩)
theorem ex_text : B.idt 36893488147419103230 = [51, 54, 56, 57, 51, 52, 56, 56, 49, 52, 55, 52, 49, 57, 49, 48, 51, 50, 51, 48] := by decide +kernel
theorem Zl.below {w w' : World} {v : Value} {n : Nat} {A : Nat → Int} (h : Zl w v n A) (hb : Below w.heap.size w w') : Zl w' v n A := by
  obtain ⟨ao, cap, rfl, h1, h2, h5⟩ := h
  refine ⟨ao, cap, rfl, h1, h2, fun hn => ?_⟩
  obtain ⟨b, off, rfl, hbs, hc⟩ := h5 hn
  refine ⟨b, off, rfl, Nat.lt_of_lt_of_le hbs hb.size, fun j hj => ?_⟩
  obtain ⟨p, a, k, c, c1, c2, I⟩ := hc j hj
  exact ⟨p, a, k, c, by rw [hb.cell (p := ⟨b, off + j * 2, none⟩) hbs]; exact c1, by rw [hb.cell (p := ⟨b, off + j * 2 + 1, none⟩) hbs]; exact c2, I.below hb⟩
theorem Zl.drew {w : World} {v : Value} {n : Nat} {A : Nat → Int} (h : Zl w v n A) (k : Nat) : Zl (w.drewN k) v n A := h.below (below_drewN (Below.refl _ _) k)
set_option maxHeartbeats 3200000 in
set_option maxRecDepth 100000 in
theorem awake8 (w : World) (L : LayB w) : Calls Tryz.prog 5 #[] w fun e w' => e = .returned (.bool true) ∧ Below w.heap.size w w' := by
  have LL := hid L
  clear L
  obtain ⟨A1, A2, A3⟩ := lits w [1, 2] [3, 4] (.cells #[.int .u64 1, .int .u64 2] 22 (0, 0)) (.cells #[.int .u64 3, .int .u64 4] 22 (0, 0)) rfl rfl (by decide) (by decide) (by decide) (by decide)
  have C1 := hid (conv_yes _ _ 2 2 _ _ 5 _ (LL.out.below A3) A1 A2 (by decide) (by decide) (by decide) (by decide) (by decide))
  have BA := hid A3
  clear A1 A2 A3
  go_enter Tryz.func5, Tryz.ntmps5
  go_wp2_with fail
  refine C1.out.mono ?_
  rintro e w1 ⟨⟨ao, cap, rfl, W1⟩, B1⟩
  have D1 := hid (W1.eq ex_prd)
  have BB1 := hid (BA.out.trans (B1.mono BA.out.size))
  clear W1 B1 C1 BA
  obtain ⟨A1, A2, A3⟩ := lits w1 [18446744073709551615] [2] (.cells #[.int .u64 18446744073709551615] 22 (0, 0)) (.cells #[.int .u64 2] 22 (0, 0)) rfl rfl (by decide) (by decide) (by decide) (by decide)
  have C2 := hid (exact_yes _ _ 1 1 _ _ _ ((LL.out.below BB1.out).below A3) A1 A2 (by decide) (by decide) (by decide))
  have BA := hid A3
  clear A1 A2 A3
  go_wp2_with fail
  refine C2.out.mono ?_
  rintro e w2 ⟨⟨xo, xap, rfl, X2⟩, B2⟩
  have Z2 := hid X2
  have S2 := hid (BA.out.trans (B2.mono BA.out.size))
  have BB2 := hid (BB1.out.trans (S2.out.mono BB1.out.size))
  have D2 := hid (D1.out.below S2.out)
  clear X2 B2 C2 BA D1 BB1 S2
  obtain ⟨A1, A2, A3⟩ := litsi w2 [2, 3] [1, 2] (.cells #[.int .i64 2, .int .i64 3] 3 (0, 0)) (.cells #[.int .i64 1, .int .i64 2] 3 (0, 0)) rfl rfl (by decide) (by decide) (by decide) (by decide)
  have C3 := hid (cplace_any _ _ 2 2 _ _ _ A1 A2)
  have BA := hid A3
  clear A1 A2 A3
  go_wp2_with fail
  refine C3.out.mono ?_
  rintro e w3 ⟨⟨r, er, rfl, P3⟩, B3⟩
  obtain ⟨hr, he⟩ := ex_place P3
  subst hr he
  have S3 := hid (BA.out.trans (B3.mono BA.out.size))
  have BB3 := hid (BB2.out.trans (S3.out.mono BB2.out.size))
  have D3 := hid (D2.out.below S3.out)
  have Z3 := hid (Z2.out.below S3.out)
  clear P3 B3 C3 BA D2 Z2 BB2 S3
  have A1 := hid (Wl.lit w3 [3, 0, 3] (.cells #[.int .u64 3, .int .u64 0, .int .u64 3] 22 (0, 0)) rfl (by decide) (by decide))
  have BA : Hid (Below w3.heap.size w3 (w3.alloc (.cells #[.int .u64 3, .int .u64 0, .int .u64 3] 22 (0, 0)))) := (Below.refl _ _).alloc (Nat.le_refl _) _
  go_wp2_with fail
  refine (same_yes8 _ _ 3 _ _ _ (D3.out.below BA.out) A1.out (fun j hj => rfl)).mono ?_
  rintro e w4 ⟨rfl, c, rfl⟩
  have Z4 := (Z3.out.below BA.out).drew c
  have BB4 := hid (below_drewN (BB3.out.trans (BA.out.mono BB3.out.size)) c)
  clear A1 BA D3 Z3 BB3
  generalize (w3.alloc (.cells #[.int .u64 3, .int .u64 0, .int .u64 3] 22 (0, 0))).drewN c = w4 at *
  obtain ⟨xo', xap', hx, -, -, hz⟩ := Z4
  injection hx with hx1 hx2 hx3
  subst hx1 hx3
  clear hx2
  obtain ⟨zb, zo, hzo, -, hzc⟩ := hz (by decide)
  subst hzo
  obtain ⟨p, za, zk, zc, c1, c2, I⟩ := hzc 0 (by decide)
  rw [ex_exact] at I
  rw [Nat.zero_mul, Nat.add_zero] at c1 c2
  have PR := hid (B.Print_any _ 100 _ w4 I (by decide) ((LL.out.below BB4.out).tab))
  rw [ex_text] at PR
  clear hz hzc I
  go_wp2_with fail
  refine PR.out.mono ?_
  rintro e w5 ⟨rfl, B5⟩
  have BB5 := hid (BB4.out.trans (B5.mono BB4.out.size))
  clear B5 PR BB4
  go_wp2
  go_ret
  exact ⟨rfl, BB5.out⟩
end Go.Proofs.YtocfenjampmdlabGreatDoor
