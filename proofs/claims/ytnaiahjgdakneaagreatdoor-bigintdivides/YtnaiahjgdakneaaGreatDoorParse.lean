/- What 'groupOf' and 'Parse' answer of a text that is a number. -/
import Derived.Test.YtnaiahjgdakneaaGreatDoorGrp
namespace Go.Proofs.YtnaiahjgdakneaaGreatDoor
open Go.RowKit Num

/-- the number of decimal digits. -/
def dval (l : List UInt8) : Nat := l.foldl (fun a c => 10 * a + (c.toNat - 48)) 0
theorem dval_snoc (l : List UInt8) (c : UInt8) : dval (l ++ [c]) = 10 * dval l + (c.toNat - 48) := by simp [dval]
def Digs (l : List UInt8) : Prop := ∀ c ∈ l, 48 ≤ c.toNat ∧ c.toNat ≤ 57
theorem rev_ind {P : List UInt8 → Prop} (h0 : P []) (hs : ∀ t c, P t → P (t ++ [c])) (l : List UInt8) : P l := by
  have key : ∀ r : List UInt8, P r.reverse := by
    intro r
    induction r with
    | nil => exact h0
    | cons c t ih => rw [List.reverse_cons]; exact hs _ _ ih
  have := key l.reverse
  rwa [List.reverse_reverse] at this
theorem dval_lt (l : List UInt8) (h : Digs l) : dval l < 10 ^ l.length := by
  revert h
  refine rev_ind (P := fun l => Digs l → dval l < 10 ^ l.length) (fun _ => by simp [dval]) (fun t c ih h => ?_) l
  have h1 := ih (fun x hx => h x (by simp [hx]))
  have h2 := h c (by simp)
  rw [dval_snoc, List.length_append, List.length_singleton, Nat.pow_succ]
  omega
theorem dval_append (a : List UInt8) (b : List UInt8) : dval (a ++ b) = dval a * 10 ^ b.length + dval b := by
  refine rev_ind (P := fun b => dval (a ++ b) = dval a * 10 ^ b.length + dval b) (by simp [dval]) (fun t c ih => ?_) b
  rw [← List.append_assoc, dval_snoc, dval_snoc, ih, List.length_append, List.length_singleton, Nat.pow_succ]
  generalize dval a = x
  generalize 10 ^ t.length = p
  generalize dval t = z
  grind
theorem take_snoc (s : ByteArray) (k : Nat) (h : k < s.size) : s.data.toList.take (k + 1) = s.data.toList.take k ++ [s[k]] := by
  rw [List.take_succ_eq_append_getElem (by simpa using h)]; rfl

set_option maxHeartbeats 800000 in
set_option maxRecDepth 100000 in
theorem groupOf_any (s : ByteArray) (w : World) (hs : s.size ≤ 19) (hd : Digs s.data.toList) :
    Calls Tryz.prog 63 #[.string s] w fun e w' => e = .returned (.int .u64 (dval s.data.toList)) ∧ w' = w := by
  have HD := hid hd
  clear hd
  go_enter Tryz.func63, Tryz.ntmps63
  go_wp2
  go_loop [3, 7] (fun v i => ∃ k : Nat, k ≤ s.size ∧ i = .int .i64 k ∧ v = .int .u64 (dval (s.data.toList.take k))) (fun _ i => s.size - (intOf i).toNat)
  case atStart => exact ⟨0, Nat.zero_le _, rfl, by simp [dval]⟩
  case round =>
    obtain ⟨k, hk, rfl, rfl⟩ := hrel
    by_cases hlt : k < s.size
    · have hts := take_snoc s k hlt
      have hsn := dval_snoc (s.data.toList.take k) s[k]
      rw [← hts] at hsn
      have hc := HD.out s[k] (by have : s[k] = s.data.toList[k]'(by simpa using hlt) := rfl
                                 rw [this]; exact List.getElem_mem _)
      have hb := dval_lt (s.data.toList.take k) (fun c hc => HD.out c (List.mem_of_mem_take hc))
      have hl : (s.data.toList.take k).length = k := by rw [List.length_take]; have := toList_len s; rw [toList_eq] at this; omega
      rw [hl] at hb
      have hp : 10 ^ k ≤ 10 ^ 18 := Nat.pow_le_pow_right (by decide) (by omega)
      have HS := hid hsn
      obtain ⟨c0, c1⟩ := hc
      have b1 : dval (s.data.toList.take k) ≤ 999999999999999999 := by omega
      generalize dval (s.data.toList.take k) = d at *
      have i1 : (48 : Int) ≤ (s[k].toNat : Int) := by omega
      have i2 : (s[k].toNat : Int) ≤ 57 := by omega
      have i3 : (d : Int) ≤ 999999999999999999 := by omega
      clear hts hsn hl hp hb
      go_wp2
      go_round
      case rel => exact ⟨k + 1, by omega, by go_num, by rw [HS.out]; go_num⟩
      case measure => simp [intOf]; omega
    · go_wp2
      go_ret
      have e : s.data.toList.take k = s.data.toList := List.take_of_length_le (by have := toList_len s; rw [toList_eq] at this; omega)
      rw [e]
      exact ⟨rfl, rfl⟩
theorem ext_take (t : ByteArray) (n : Nat) : (t.extract 0 n).data.toList = t.data.toList.take n := by
  simp [ByteArray.data_extract]
theorem ext_drop (t : ByteArray) (n : Nat) : (t.extract n t.size).data.toList = t.data.toList.drop n := by
  rw [ByteArray.data_extract, Array.toList_extract, List.extract_eq_take_drop, List.take_of_length_le]
  rw [List.length_drop]
  exact Nat.le_refl _
theorem OwnW.nt {w : World} {base g k cap : Nat} {X : Nat → Int} (h : OwnW w base g k cap X) (hw : Wd X 0 k) : Nt w (.slice (some ⟨g, 0, none⟩) k cap) k (V X 0 k) := by
  obtain ⟨c1, c2⟩ := h.caps
  exact ⟨X, 0, ⟨_, cap, rfl, c1, c2, hw, (fun e => by cases e), fun _ => ⟨g, 0, rfl, h.lt.2, fun j hj => by rw [Nat.zero_add]; exact h.cell hj⟩⟩, rfl⟩
theorem OwnW.nz {w : World} {base g k cap : Nat} {X : Nat → Int} (h : OwnW w base g k cap X) (hw : Wd X 0 k) (hn : Nm X 0 k) : Nz w (.slice (some ⟨g, 0, none⟩) k cap) k (V X 0 k) := by
  obtain ⟨c1, c2⟩ := h.caps
  exact ⟨X, 0, ⟨_, cap, rfl, c1, c2, hw, (fun e => by cases e), fun _ => ⟨g, 0, rfl, h.lt.2, fun j hj => by rw [Nat.zero_add]; exact h.cell hj⟩⟩, hn, rfl⟩
def szOf : Value → Nat
  | .string t => t.size
  | _ => 0
def PsRel (s : ByteArray) (w : World) (g cap : Nat) (t : ByteArray) (k : Nat) (wr : World) : Prop :=
  ∃ (pos : Nat) (X : Nat → Int), t.data.toList = s.data.toList.drop pos ∧ t.size + pos = s.size ∧ OwnW wr g g k cap X ∧ Wd X 0 k ∧ V X 0 k = (dval (s.data.toList.take pos) : Int) ∧ Below g w wr ∧ g ≤ wr.heap.size ∧ k + (t.size + 18) / 19 ≤ cap ∧ (pos = 0 ∨ t.size % 19 = 0) ∧ Nm X 0 k
theorem take_add' (l : List UInt8) (p n : Nat) : l.take (p + n) = l.take p ++ (l.drop p).take n := by rw [List.take_add]
theorem group_val (l : List UInt8) (p n : Nat) (h : p + n ≤ l.length) : dval (l.take (p + n)) = dval (l.take p) * 10 ^ n + dval ((l.drop p).take n) := by
  rw [take_add', dval_append, List.length_take, List.length_drop, Nat.min_eq_left (by omega)]
theorem pow19 : (10 : Nat) ^ 19 = 10000000000000000000 := by decide
theorem hid_digs {s : ByteArray} (H : Hid (IsNum s)) : Digs s.data.toList := by
  intro c hc
  obtain ⟨j, hj, rfl⟩ := List.getElem_of_mem hc
  exact H.out.1 j (by simpa using hj)
theorem PsRel.step {s : ByteArray} {w : World} {g cap : Nat} {t t1 t2 : ByteArray} {k k' n : Nat} {wr wr' : World} {X X' : Nat → Int} {pos : Nat}
    (h1 : t.data.toList = s.data.toList.drop pos) (h2 : t.size + pos = s.size) (h3 : V X 0 k = (dval (s.data.toList.take pos) : Int)) (h4 : Below g w wr) (h6 : k + (t.size + 18) / 19 ≤ cap) (h7 : pos = 0 ∨ t.size % 19 = 0)
    (hn : n = (t.size - 1) % 19 + 1) (h0 : 0 < t.size)
    (e1 : t1.data.toList = t.data.toList.take n) (e2 : t2.data.toList = t.data.toList.drop n)
    (c1 : OwnW wr' g g k' cap X') (c2 : Wd X' 0 k') (c3 : V X' 0 k' = V X 0 k * 10000000000000000000 + (dval t1.data.toList : Int)) (c4 : k' ≤ k + 1) (c5 : Below g wr wr') (c6 : wr.heap.size ≤ wr'.heap.size) (hg : g ≤ wr.heap.size) (c7 : Nm X' 0 k') :
    PsRel s w g cap t2 k' wr' ∧ t2.size < t.size := by
  have l1 : s.data.toList.length = s.size := rfl
  have l2 : t.data.toList.length = t.size := rfl
  have l3 : t2.data.toList.length = t2.size := rfl
  have l4 : t2.size = t.size - n := by rw [← l3, e2, List.length_drop, l2]
  have hnt : n ≤ t.size := by omega
  refine ⟨⟨pos + n, X', ?_, by omega, c1, c2, ?_, h4.trans c5, by omega, by omega, by omega, c7⟩, by omega⟩
  · rw [e2, h1, List.drop_drop]
  · rw [group_val _ _ _ (by omega), ← h1, ← e1, c3, h3]
    rcases h7 with rfl | h7
    · simp [dval]
    · have : n = 19 := by omega
      subst this
      rw [pow19]
      simp [Int.natCast_add, Int.natCast_mul]
set_option maxHeartbeats 800000 in
set_option maxRecDepth 100000 in
theorem parse_yes (s : ByteArray) (w : World) (hs : s.size ≤ 20000) (h : IsNum s) :
    Calls Tryz.prog 41 #[.string s] w fun e w' => ∃ v k, e = .returned (.tuple #[v, .int .i64 0]) ∧ Nz w' v k (dval s.data.toList) ∧ k ≤ s.size / 19 + 1 ∧ Below w.heap.size w w' ∧ w.heap.size ≤ w'.heap.size := by
  obtain ⟨i0, hi0, hz0, hz1, hz2⟩ := info_parts Tryz.info26
  have H := hid h
  clear h
  go_enter Tryz.func41, Tryz.ntmps41
  go_wp2_with fail
  refine (isNumber_any s w (by omega)).mono ?_
  rintro e w1 ⟨⟨b, rfl, hb⟩, rfl⟩
  have hb' : b = true := hb.2 H.out
  subst hb'
  clear hb
  go_wp2_with fail
  obtain ⟨w2, hrun, hown, hgrow⟩ := run_make_own (P := Tryz.prog) w1 w1.heap.size 23 26 i0 (.int .u64 0) 1 Tryz.underlying23 hi0 hz0 hz1 .i64 .i64 (s.size / 19 + 1) (by rw [hz2]; omega) (by unfold maxLen; omega) (Nat.le_refl _)
  rw [show ((s.size : Int) / 19 + 1) = ((s.size / 19 + 1 : Nat) : Int) by omega, hrun]
  clear hrun
  have HO : Hid (OwnW w2 w1.heap.size w1.heap.size 0 (s.size / 19 + 1) (fun _ => 0) ∧ w1.grownBy w2 none) := ⟨by simpa [OwnW, ws] using hown, hgrow⟩
  clear hown hgrow
  generalize hg : w1.heap.size = g at *
  go_wp2
  go_loopw [0, 4] (fun sv zv wr => ∃ (t : ByteArray) (k : Nat), sv = .string t ∧ t.size ≤ 20000 ∧ zv = .slice (some ⟨g, 0, none⟩) k (s.size / 19 + 1) ∧ Hid (PsRel s w1 g (s.size / 19 + 1) t k wr)) (fun sv _ _ => szOf sv)
  case atStart => exact ⟨s, 0, rfl, hs, rfl, ⟨0, (fun _ => 0), by simp, by omega, HO.out.1, (fun j h => absurd h (by omega)), by simp [V, dval], (by obtain ⟨g1, g2, g3, g4, g5⟩ := HO.out.2; exact ⟨g1, g2, g3, g4, fun k hk => g5 k (by omega) (by simp)⟩), (by obtain ⟨g1, g2, g3, g4, g5⟩ := HO.out.2; omega), by omega, Or.inl rfl, Or.inl rfl⟩⟩
  case round =>
    obtain ⟨t, k, rfl, ht, rfl, hr⟩ := hrel
    by_cases h0 : 0 < t.size
    · have h0' : (0 : Int) < (t.size : Int) := by omega
      obtain ⟨pos, X, p1, p2, p3, p4, p5, p6, p7, p8, p9, p10⟩ := hr.out
      have hd : Digs t.data.toList := fun c hc => hid_digs H c (List.mem_of_mem_drop (p1 ▸ hc))
      have hd1 : Digs (t.extract 0 ((t.size - 1) % 19 + 1)).data.toList := fun c hc => hd c (List.mem_of_mem_take (by rw [ext_take] at hc; exact hc))
      have hz : (t.extract 0 ((t.size - 1) % 19 + 1)).size ≤ 19 := by
        have : (t.extract 0 ((t.size - 1) % 19 + 1)).data.toList.length = (t.extract 0 ((t.size - 1) % 19 + 1)).size := rfl
        rw [← this, ext_take, List.length_take]; omega
      have hb := dval_lt _ hd1
      have hb2 : dval (t.extract 0 ((t.size - 1) % 19 + 1)).data.toList < 10 ^ 19 := Nat.lt_of_lt_of_le hb (Nat.pow_le_pow_right (by decide) hz)
      rw [pow19] at hb2
      have HH := hid (And.intro p1 (And.intro p2 (And.intro p5 (And.intro p6 (And.intro p8 p9)))))
      have HG := hid (And.intro hd1 (And.intro hz hb2))
      clear p1 p2 p5 p6 p9 hd hd1 hz hb hb2
      go_wp2_with fail
      refine (groupOf_any _ wr HG.out.2.1 HG.out.1).mono ?_
      rintro e w3 ⟨rfl, rfl⟩
      obtain ⟨d, hdd⟩ : ∃ d, d = dval (t.extract 0 ((t.size - 1) % 19 + 1)).data.toList := ⟨_, rfl⟩
      have hd2 : d < 10000000000000000000 := by rw [hdd]; exact HG.out.2.2
      rw [← hdd]
      have HD := hid hdd
      clear hdd
      go_wp2_with fail
      refine (withGroup_any g g k _ X _ w3 p3 p4 (by omega) (by omega) (by omega)).mono ?_
      rintro e w4 ⟨k', X', rfl, q1, q2, q3, q4, q5, q6, q7⟩
      rw [HD.out] at q3
      have hst := PsRel.step (t2 := t.extract ((t.size - 1) % 19 + 1) t.size) HH.out.1 HH.out.2.1 HH.out.2.2.1 HH.out.2.2.2.1 HH.out.2.2.2.2.1 HH.out.2.2.2.2.2 rfl h0 (ext_take _ _) (ext_drop _ _) q1 q2 q3 q4 q5 q6 p7 (q7 p10)
      have HS := hid hst
      have h2 : (t.extract ((t.size - 1) % 19 + 1) t.size).size ≤ 20000 := by have := hst.2; omega
      clear hst q1 q2 q3 q4 q5 q6 q7 p10 HH HG p3 p4 p7 p8 X'
      go_wp2
      exact ⟨⟨_, k', rfl, h2, rfl, HS.out.1⟩, HS.out.2⟩
    · have h0' : ¬ (0 : Int) < (t.size : Int) := by omega
      obtain ⟨pos, X, p1, p2, p3, p4, p5, p6, p7, p8, p9, p10⟩ := hr.out
      have hP : Nz wr (.slice (some ⟨g, 0, none⟩) k (s.size / 19 + 1)) k (dval s.data.toList) := by
        have := p3.nz p4 p10
        rw [p5, List.take_of_length_le (by have : s.data.toList.length = s.size := rfl; omega)] at this
        exact this
      have HP := hid (And.intro hP p6)
      clear p1 p2 p3 p4 p5 p6 p9 p10 hP
      go_wp2
      go_ret2
      exact ⟨_, rfl, k, HP.out.1, by omega, HP.out.2, p7⟩
end Go.Proofs.YtnaiahjgdakneaaGreatDoor
