/- Boxes: what the law's may and ints answer (chapter 8); widened ones. -/
import Derived.Test.YtocfenjampmdlaaGreatDoorLcs
namespace Go.Proofs.YtocfenjampmdlaaGreatDoor
open Go.RowKit Num Nmb

/-- block g holds a box. -/
def BoxAt (w : World) (g : Nat) (u v : Value) : Prop := w.heap[g]? = some (.cells #[u, v] 47 (0, 0))
theorem BoxAt.lt {w : World} {g : Nat} {u v : Value} (t : BoxAt w g u v) : g < w.heap.size := (Array.getElem?_eq_some_iff.1 t).1
theorem BoxAt.cell0 {w : World} {g : Nat} {u v : Value} (t : BoxAt w g u v) : w.cell? ⟨g, 0, none⟩ = some u := by unfold BoxAt at t; simp only [World.cell?, t]; rfl
theorem BoxAt.cell1 {w : World} {g : Nat} {u v : Value} (t : BoxAt w g u v) : w.cell? ⟨g, 1, none⟩ = some v := by unfold BoxAt at t; simp only [World.cell?, t]; rfl
theorem BoxAt.below {B : Nat} {w w' : World} {g : Nat} {u v : Value} (t : BoxAt w g u v) (hb : Below B w w') (hg : g < B) : BoxAt w' g u v := by unfold BoxAt; rw [hb.block g hg]; exact t
theorem BoxAt.new (w : World) (u v : Value) : BoxAt (w.alloc (.cells #[u, v] 47 (0, 0))) w.heap.size u v := heap_alloc_new w _
set_option maxHeartbeats 1600000 in
theorem may_any (ud ul : Value) (n ka : Nat) (d a : Nat → Int) (w : World) (UD : Wi w ud n d) (UL : Wl w ul ka a) (r : Bool) (hr : r = true ↔ SzIs d n ka 0) :
    Calls Tryz.prog 22 #[.agg #[ud, ul]] w fun e w' => e = .returned (.bool r) ∧ Below w.heap.size w w' := by
  have BN : Hid (Below w.heap.size w (w.alloc (.cells #[ud, ul] 47 (0, 0)))) := (Below.refl _ _).alloc (Nat.le_refl _) _
  have SZ := hid (rsize_any ud n d _ (UD.below BN.out))
  have BX := BoxAt.new w ud ul
  have c0 := BX.cell0
  have c1 := BX.cell1
  obtain ⟨ao, cap, rfl, -⟩ := UD
  obtain ⟨bo, bap, rfl, -⟩ := UL
  clear BX
  go_enter Tryz.func22, Tryz.ntmps22
  go_wp2_with fail
  refine SZ.out.mono ?_
  rintro e w1 ⟨⟨s, er, rfl, S⟩, hw⟩
  obtain rfl := hw.symm
  clear SZ
  by_cases e0 : er = 0
  · subst e0
    by_cases hs : s = ka
    · have hs' : (s == (ka : Int)) = true := beq_iff_eq.2 hs
      obtain rfl : r = true := hr.2 (by rw [← hs]; exact S)
      clear S hr
      go_wp2
      go_ret
      exact ⟨by simp, BN.out⟩
    · have hs' : (s == (ka : Int)) = false := beq_eq_false_iff_ne.2 hs
      obtain rfl : r = false := by
        cases r
        · rfl
        · exact absurd (S.uniq (hr.1 rfl)).1 hs
      clear S hr
      go_wp2
      go_ret
      exact ⟨by simp, BN.out⟩
  · have e0' : (er == 0) = false := beq_eq_false_iff_ne.2 e0
    obtain rfl : r = false := by
      cases r
      · rfl
      · exact absurd (S.uniq (hr.1 rfl)).2 e0
    clear S hr
    go_wp2
    go_ret
    exact ⟨rfl, BN.out⟩
set_option maxHeartbeats 1600000 in
theorem ints_yes (u v : Value) (n : Nat) (x y : Nat → Int) (w : World) (U : Wi w u n x) (V : Wi w v n y) (h : ∀ j, j < n → x j = y j) :
    Calls Tryz.prog 23 #[u, v] w fun e w' => e = .returned (.bool true) ∧ ∃ c, w' = w.drewN c := by
  have UU := hid U
  have VV := hid V
  have HH := hid h
  obtain ⟨ao, cap, rfl, hcp, hcp2, -⟩ := U
  obtain ⟨bo, bap, rfl, -⟩ := V
  clear h
  go_enter Tryz.func23, Tryz.ntmps23
  go_wp2
  go_loopw [5] (fun iv wr => ∃ (i c : Nat), iv = .int .i64 i ∧ i ≤ n ∧ Hid (wr = w.drewN c)) (fun iv _ => ((n : Int) - intOf iv).toNat)
  case atStart => exact ⟨0, 0, rfl, Nat.zero_le _, rfl⟩
  case round =>
    obtain ⟨i, c, rfl, hi, HW⟩ := hrel
    by_cases him : i = n
    · have him' : ¬ (i : Int) < (n : Int) := by omega
      obtain rfl := him
      clear UU VV HH
      go_wp2
      go_ret
      exact ⟨rfl, c, HW.out⟩
    · have him' : (i : Int) < (n : Int) := by omega
      obtain ⟨ao', cap', hu, -, -, -, hcell⟩ := UU.out.heap (w' := wr) (by rw [HW.out]; simp)
      injection hu with hu1 hu2 hu3
      subst hu1 hu3
      clear hu2
      obtain ⟨ub, uo, hao, -, hcd⟩ := hcell (by omega)
      subst hao
      obtain ⟨bo', bap', hu, -, -, -, hcell2⟩ := VV.out.heap (w' := wr) (by rw [HW.out]; simp)
      injection hu with hu1 hu2 hu3
      subst hu1 hu3
      clear hu2
      obtain ⟨vb, vo, hbo, -, hce⟩ := hcell2 (by omega)
      subst hbo
      have cd := hcd i (by omega)
      have ce := hce i (by omega)
      rw [← HH.out i (by omega)] at ce
      obtain ⟨c2, HW2⟩ : ∃ f : Nat → Nat, Hid (∀ q, wr.drewN q = w.drewN (f q)) := ⟨fun q => c + q, fun q => by rw [HW.out]; simp [World.drewN, Nat.add_assoc]⟩
      clear hcd hce hcell hcell2 HW
      generalize x i = xi at *
      go_wp2_with fail
      go_quiet (fail)
      rename_i nq
      go_wp2
      exact ⟨⟨i + 1, _, rfl, by omega, HW2.out _⟩, by simp only [intOf]; omega⟩
/-- places of a box, in a wider one, are apart. -/
theorem wide_inj {d f : Nat → Int} {n ka i i' : Nat} (hd : ∀ t, t < n → 1 ≤ d t) (hf : ∀ t, t < n → d t ≤ f t) (hk : pd d n = ka) (hi : i < ka) (hi' : i' < ka) (h : pl f (dg d n i) n = pl f (dg d n i') n) : i = i' := by
  have h1 := pl_inj (d := f) (n := n) (fun t ht => by have := dg_in (p := (i : Int)) hd t ht; have := hf t ht; omega) (fun t ht => by have := dg_in (p := (i' : Int)) hd t ht; have := hf t ht; omega) h
  have h2 : pl d (dg d n i) n = pl d (dg d n i') n := pl_eq h1
  rw [pl_dg hd (by omega) (by omega), pl_dg hd (by omega) (by omega)] at h2
  omega
theorem wide_lt {d f : Nat → Int} {n : Nat} {p : Int} (hd : ∀ t, t < n → 1 ≤ d t) (hf : ∀ t, t < n → d t ≤ f t) : 0 ≤ pl f (dg d n p) n ∧ pl f (dg d n p) n < pd f n :=
  pl_lt fun t ht => by have := dg_in (p := p) hd t ht; have := hf t ht; omega
/-- the sum of the first i of a, each at its place. -/
def wds (d f : Nat → Int) (n : Nat) (a : Nat → Int) (i j : Nat) : Int := sm (fun i' => if pl f (dg d n i') n = j then a i' else 0) i
theorem wds_step {d f : Nat → Int} {n ka : Nat} {a : Nat → Int} {i : Nat} (hd : ∀ t, t < n → 1 ≤ d t) (hf : ∀ t, t < n → d t ≤ f t) (hk : pd d n = ka) (hi : i < ka) (j : Nat) :
    wds d f n a (i + 1) j = if j = (pl f (dg d n i) n).toNat then a i else wds d f n a i j := by
  have l0 := (wide_lt (p := (i : Int)) hd hf).1
  unfold wds
  rw [sm_succ]
  by_cases e : j = (pl f (dg d n i) n).toNat
  · rw [if_pos e, if_pos (by omega)]
    have z : sm (fun i' => if pl f (dg d n i') n = j then a i' else 0) i = sm (fun _ => 0) i := sm_eq _ fun i' hi' => by
      rw [if_neg]
      intro h
      have := wide_inj hd hf hk hi (by omega : i' < ka) (by omega)
      omega
    rw [z, sm_zero, Int.zero_add]
  · rw [if_neg e, if_neg (by omega), Int.add_zero]
end Go.Proofs.YtocfenjampmdlaaGreatDoor
