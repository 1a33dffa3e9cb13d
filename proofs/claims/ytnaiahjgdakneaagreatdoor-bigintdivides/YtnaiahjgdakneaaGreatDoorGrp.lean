/- What 'withGroup' and 'groupOf' do: a number times a group's base, and the group; the word of up to 19 digits. -/
import Derived.Test.YtnaiahjgdakneaaGreatDoorPrs
namespace Go.Proofs.YtnaiahjgdakneaaGreatDoor
open Go.RowKit Num

/-- the first k words of a row of the call's own. -/
def ws (X : Nat → Int) (k : Nat) : List Value := (List.range k).map fun j => Value.int .u64 (X j)
theorem ws_len (X : Nat → Int) (k : Nat) : (ws X k).length = k := by simp [ws]
theorem ws_get (X : Nat → Int) (k j : Nat) (h : j < k) : (ws X k)[j]? = some (.int .u64 (X j)) := by simp [ws, h]
theorem ws_set (X : Nat → Int) (k j : Nat) (v : Int) : (ws X k).set j (.int .u64 v) = ws (upd X j v) k := by
  apply List.ext_getElem?
  intro i
  rw [List.getElem?_set]
  by_cases hi : i < k
  · by_cases e : j = i
    · subst e; rw [if_pos rfl, if_pos (by rw [ws_len]; exact hi), ws_get _ _ _ hi, upd_same]
    · rw [if_neg e, ws_get _ _ _ hi, ws_get _ _ _ hi, upd_other _ _ _ _ (Ne.symm e)]
  · have h1 : (ws (upd X j v) k)[i]? = none := List.getElem?_eq_none (by rw [ws_len]; omega)
    rw [h1]
    by_cases e : j = i
    · subst e; rw [if_pos rfl, if_neg (by rw [ws_len]; exact hi)]
    · rw [if_neg e]; exact List.getElem?_eq_none (by rw [ws_len]; omega)
theorem ws_snoc (X : Nat → Int) (k : Nat) (v : Int) : ws X k ++ [.int .u64 v] = ws (upd X k v) (k + 1) := by
  unfold ws
  rw [List.range_succ, List.map_append]
  congr 1
  · exact List.map_congr_left (fun j hj => by rw [upd_other _ _ _ _ (by have := List.mem_range.1 hj; omega)])
  · simp [upd_same]
def OwnW (w : World) (base g k cap : Nat) (X : Nat → Int) : Prop := w.ownsRow base 26 1 (.slice (some ⟨g, 0, none⟩) k cap) k (ws X k)
theorem OwnW.cell {w : World} {base g k cap : Nat} {X : Nat → Int} (h : OwnW w base g k cap X) {j : Nat} (hj : j < k) : w.cell? ⟨g, j, none⟩ = some (.int .u64 (X j)) := by
  rw [World.ownsRow.cellAt h j (by omega), ws_get _ _ _ hj]
theorem OwnW.set {w : World} {base g k cap : Nat} {X : Nat → Int} (h : OwnW w base g k cap X) (j : Nat) (v : Int) : OwnW (w.setCell ⟨g, j, none⟩ (.int .u64 v)) base g k cap (upd X j v) := by
  have := (World.ownsRow.stored h j (.int .u64 v)).1
  rw [ws_set] at this
  exact this
theorem OwnW.lt {w : World} {base g k cap : Nat} {X : Nat → Int} (h : OwnW w base g k cap X) : base ≤ g ∧ g < w.heap.size := World.ownsRow.lt h g rfl
theorem OwnW.caps {w : World} {base g k cap : Nat} {X : Nat → Int} (h : OwnW w base g k cap X) : k ≤ cap ∧ cap ≤ 9223372036854775807 := by
  rcases h.2 with ⟨h', _⟩ | ⟨g', cap', cur, h', _, _, h1, h2, _⟩
  · simp at h'
  · simp only [Value.slice.injEq, Option.some.injEq, Addr.mk.injEq, and_true, true_and] at h'
    obtain ⟨rfl, rfl⟩ := h'
    unfold maxLen at h2
    exact ⟨h1, h2⟩
/-- two words out of a product and a word. -/
theorem two_word (m o : Int) (hm : 0 ≤ m) (ho : 0 ≤ o ∧ o ≤ 18446744073709551615) (h : m + o ≤ 340282366920938463463374607431768211455) :
    hi m + hi (lo m + o) = hi (m + o) ∧ lo (lo m + o) = lo (m + o) ∧ 0 ≤ hi (m + o) ∧ hi (m + o) ≤ 18446744073709551615 ∧ 0 ≤ hi m ∧ 0 ≤ hi (lo m + o) := by
  unfold hi lo; omega
theorem grp_step (x x' : Nat → Int) (k : Nat) (c t G : Int) (hx : x' k = x k) (h : V x' 0 k + c * P k = t) :
    V (upd x' k (lo (x' k * G + c))) 0 (k + 1) + hi (x' k * G + c) * P (k + 1) = t + x k * G * P k := by
  have e0 := V_upd_top x' 0 k (lo (x' k * G + c))
  rw [Nat.zero_add] at e0
  rw [e0]
  have e := lo_hi (x' k * G + c)
  rw [hx] at e ⊢
  generalize lo (x k * G + c) = l at *
  generalize hi (x k * G + c) = m at *
  simp only [P]
  generalize P k = p at *
  generalize x k = u at *
  have : l = u * G + c - m * 18446744073709551616 := by omega
  rw [← h, this]; grind

theorem nm_grow {X X' : Nat → Int} {j : Nat} (hX : Wd X 0 j) (hX' : Wd X' 0 j) (h : V X 0 j ≤ V X' 0 j) (hn : Nm X 0 j) : Nm X' 0 j := by
  cases j with
  | zero => exact Or.inl rfl
  | succ n =>
    refine Or.inr fun e => ?_
    rw [Nat.add_sub_cancel] at e
    have h1 := V_ge hX (by rcases hn with h' | h'; omega; simpa using h')
    have h2 := (V_bd n (hX'.mono (by omega))).2
    have h3 : V X' 0 (n + 1) = V X' 0 n + X' (0 + n) * P n := rfl
    rw [e, Int.zero_mul] at h3
    omega
set_option maxHeartbeats 1600000 in
set_option maxRecDepth 100000 in
theorem withGroup_any (base g k cap : Nat) (X : Nat → Int) (f : Int) (w : World) (ho : OwnW w base g k cap X) (hw : Wd X 0 k) (f0 : 0 ≤ f) (f1 : f ≤ 18446744073709551615) (hk : k < cap) :
    Calls Tryz.prog 62 #[.slice (some ⟨g, 0, none⟩) k cap, .int .u64 f] w fun e w' => ∃ k' X', e = .returned (.slice (some ⟨g, 0, none⟩) k' cap) ∧ OwnW w' base g k' cap X' ∧ Wd X' 0 k' ∧ V X' 0 k' = V X 0 k * 10000000000000000000 + f ∧ k' ≤ k + 1 ∧ Below base w w' ∧ w.heap.size ≤ w'.heap.size ∧ (Nm X 0 k → Nm X' 0 k') := by
  obtain ⟨i0, hi0, hz0, hz1, hz2⟩ := info_parts Tryz.info26
  obtain ⟨hb1, hb2⟩ := ho.lt
  obtain ⟨hc1, hc2⟩ := ho.caps
  have HW := hid hw
  have HO := hid ho
  clear hw ho
  go_enter Tryz.func62, Tryz.ntmps62
  go_wp2
  go_loopw [5, 14] (fun cs i wr => ∃ (j : Nat) (c : Int) (X' : Nat → Int), j ≤ k ∧ cs = .int .u64 c ∧ i = .int .i64 j ∧
     Hid (OwnW wr base g k cap X' ∧ Only g w wr ∧ V X' 0 j + c * P j = V X 0 j * 10000000000000000000 + f ∧ Wd X' 0 k ∧ (∀ q, j ≤ q → X' q = X q)) ∧ 0 ≤ c ∧ c ≤ 18446744073709551615) (fun _ i _ => k - (intOf i).toNat)
  case atStart => exact ⟨0, f, X, Nat.zero_le _, rfl, rfl, ⟨HO.out, Only.refl _ _, by simp [V, P], HW.out, fun _ _ => rfl⟩, f0, f1⟩
  case round =>
    obtain ⟨j, c, X', hj, rfl, rfl, hr, c0, c1⟩ := hrel
    by_cases hlt : j < k
    · obtain ⟨h1, h2, h3, h4, h5⟩ := hr.out
      have gz := h1.cell hlt
      have gf := World.ownsRow.frozenAt h1 j
      have qx := h4 j hlt
      rw [Nat.zero_add] at qx
      obtain ⟨q0, q1⟩ := qx
      have mb := mul_bd ⟨q0, q1⟩ (b := 10000000000000000000) (by decide) ⟨c0, c1⟩ (d := 0) (by decide)
      obtain ⟨t1, t2, t3, t4, t5, t6⟩ := two_word (X' j * 10000000000000000000) c mb.1 ⟨c0, c1⟩ (by omega)
      have T1 := hid t1
      have T2 := hid t2
      have bq := lo_nonneg (X' j * 10000000000000000000)
      have tb : hi (X' j * 10000000000000000000) + hi (lo (X' j * 10000000000000000000) + c) ≤ 18446744073709551615 := by omega
      clear h1 h2 h3 h4 h5 t1 t2 mb
      go_wp2_with (first
        | (go_at_call 84; refine (mul64 _ _ q0 q1 (by decide) (by decide) _).mono ?_; rintro e w1 ⟨rfl, rfl⟩)
        | simp only [add64_0 (lo (X' j * 10000000000000000000)) c bq c0])
      refine ⟨⟨j + 1, hi (X' j * 10000000000000000000 + c), upd X' j (lo (X' j * 10000000000000000000 + c)), by omega, by rw [T1.out], by go_num, ?_, t3, t4⟩, by simp [intOf]; omega⟩
      obtain ⟨h1, h2, h3, h4, h5⟩ := hr.out
      refine ⟨by have := h1.set j (lo (lo (X' j * 10000000000000000000) + c)); rw [T2.out] at this; rw [← T2.out] at this ⊢; rw [T2.out] at this ⊢; exact this, h2.set _ _, ?_, Wd_upd h4 (lo_nonneg _) (lo_le _), ?_⟩
      · rw [grp_step X X' j c _ 10000000000000000000 (h5 j (Nat.le_refl _)) h3]
        simp only [V]
        rw [Nat.zero_add]
        grind
      · intro q hq; rw [upd_other _ _ _ _ (by omega)]; exact h5 q (by omega)
    · have hjk : j = k := by omega
      subst hjk
      by_cases hc0 : c = 0
      · subst hc0
        go_wp2
        go_ret
        obtain ⟨h1, h2, h3, h4, h5⟩ := hr.out
        have h3' : V X' 0 j = V X 0 j * 10000000000000000000 + f := by simpa using h3
        have hv0 := (V_bd j HW.out).1
        exact ⟨j, X', rfl, h1, h4, h3', by omega, h2.below hb1, by rw [h2.size]; exact Nat.le_refl _, nm_grow HW.out h4 (by omega)⟩
      · have hcb : (c != 0) = true := by rw [bne_iff_ne]; exact hc0
        obtain ⟨h1, h2, h3, h4, h5⟩ := hr.out
        have hsz := h2.size
        have OW := hid h1
        have HZ := hid hsz
        clear h1 h2 h3 h4 h5 hsz hc0
        go_wp2_with (at_builtin; refine wpList_append_fits _ rfl (.tmp 40) (.tmp 42) 23 rfl base 26 i0 1 Tryz.underlying23 hi0 hz1 g j cap (ws X' j) rfl (World.ownsRow.alloc OW.out _) ⟨wr.heap.size, 0, none⟩ 1 1 [.int .u64 c] rfl rfl (cell_one_new _ _ _) (by intro u hu; simp at hu; subst hu; rfl) (by omega) ?_; intro w1 own1 grow1)
        go_ret
        obtain ⟨h1, h2, h3, h4, h5⟩ := hr.out
        rw [ws_snoc] at own1
        have hzz := HZ.out
        have B1 : Below base wr w1 := ((Below.refl base wr).alloc (by omega) _).grown grow1 (by simp; omega) (fun q hq => by cases hq; exact hb1)
        refine ⟨j + 1, upd X' j c, rfl, own1, ?_, ?_, Nat.le_refl _, (h2.below hb1).trans B1, by have := B1.size; omega, fun _ => Or.inr (by rw [Nat.zero_add, Nat.add_sub_cancel, upd_same]; simpa using hcb)⟩
        · intro q hq
          rw [Nat.zero_add]
          by_cases e : q = j
          · subst e; rw [upd_same]; exact ⟨c0, c1⟩
          · rw [upd_other _ _ _ _ e]; have := h4 q (by omega); rwa [Nat.zero_add] at this
        · have e0 := V_upd_top X' 0 j c
          rw [Nat.zero_add] at e0
          rw [e0]; exact h3
end Go.Proofs.YtnaiahjgdakneaaGreatDoor
