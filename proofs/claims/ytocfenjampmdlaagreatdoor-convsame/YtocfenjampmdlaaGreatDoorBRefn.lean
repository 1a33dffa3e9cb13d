/- Whole numbers: their texts. -/
/- The document's answer, by decimal digits: 'digit' and 'strip' of the package vinculumref01. -/
/- Bytes that are laid one by one, and "turned" of the reference. -/
/- "Add" of the reference: the sum by decimal digits. -/
/- "Word" and "Cmp" of the reference. -/
/- "Sub" of the reference. -/
/- "Mul" of the reference: plain facts, and rows of ints. -/
/- "Mul" of the reference. -/
import Derived.Test.YtocfenjampmdlaaGreatDoorBIntn
import Derived.Test.YtocfenjampmdlaaGreatDoorBRep
import Derived.Test.YtocfenjampmdlaaGreatDoorBPfx
namespace Go.Proofs.YtocfenjampmdlaaGreatDoor.B
open Go.RowKit NumB
open Go.Lib (decDigits)

/-- the text of a whole number. -/
def idt (A : Int) : List UInt8 := if A < 0 then 45 :: decDigits A.natAbs else decDigits A.natAbs
theorem bytes_cat (a b : List UInt8) : (⟨a.toArray⟩ : ByteArray) ++ ⟨b.toArray⟩ = ⟨(a ++ b).toArray⟩ := by
  apply ByteArray.ext
  simp

set_option maxHeartbeats 800000 in
theorem Print_any (v : Value) (n : Nat) (A : Int) (w : World) (h : It w v n A) (hn : n ≤ 100000) (ht : Tab w) :
    Calls Tryz.prog 16 #[v] w fun e w' => e = .returned (.string ⟨(idt A).toArray⟩) ∧ Below w.heap.size w w' := by
  obtain ⟨neg, ao, k, cap, a, rfl, hz, hk, rfl, hne, h0⟩ := h
  obtain ⟨u, rfl⟩ := Int.eq_ofNat_of_zero_le h0
  have t0 := below_new w (.cells #[.bool neg, .slice ao k cap] 39)
  have N0 := hid (hz.nt.below t0)
  have HT := hid (ht.below t0 ht.lt)
  have hl := len_dec_nt hz.nt
  have hl1 : ¬ 9223372036854775807 < 1 + (decDigits u).length := by omega
  have hl2 : ¬ 9223372036854775807 < (decDigits u).length := by omega
  have T0 := hid t0
  clear hz ht t0
  cases neg with
  | true =>
    have hu := hne rfl
    have e : idt (sg true (u : Int)) = 45 :: decDigits u := by
      have e1 : (sg true (u : Int)) < 0 := by simp [sg]; omega
      have e2 : (sg true (u : Int)).natAbs = u := by simp [sg]
      unfold idt; rw [if_pos e1, e2]
    rw [e]
    clear hne hu e
    go_enter Tryz.func16, Tryz.ntmps16
    go_wp2_with fail
    generalize w.alloc (.cells #[.bool true, .slice ao k cap] 39) = wa at *
    refine (print_any _ k u _ N0.out (by omega) HT.out).mono ?_
    rintro e w1 ⟨rfl, C1⟩
    go_wp2
    go_ret
    refine ⟨?_, bt T0.out C1⟩
    show Ending.returned (Value.string ((⟨[45].toArray⟩ : ByteArray) ++ ⟨(decDigits u).toArray⟩)) = _
    rw [bytes_cat]; rfl
  | false =>
    have e : idt (sg false (u : Int)) = decDigits u := by
      have e1 : ¬ (sg false (u : Int)) < 0 := by simp [sg]
      have e2 : (sg false (u : Int)).natAbs = u := by simp [sg]
      unfold idt; rw [if_neg e1, e2]
    rw [e]
    clear hne e
    go_enter Tryz.func16, Tryz.ntmps16
    go_wp2_with fail
    generalize w.alloc (.cells #[.bool false, .slice ao k cap] 39) = wa at *
    refine (print_any _ k u _ N0.out (by omega) HT.out).mono ?_
    rintro e w1 ⟨rfl, C1⟩
    go_wp2
    go_ret
    refine ⟨?_, bt T0.out C1⟩
    show Ending.returned (Value.string ((⟨([] : List UInt8).toArray⟩ : ByteArray) ++ ⟨(decDigits u).toArray⟩)) = _
    rw [bytes_cat]; rfl

theorem minus_has (t : List UInt8) : Lib.hasPrefix (45 :: t) [45] = true := by simp [Lib.hasPrefix]
theorem minus_trim (t : List UInt8) : Lib.trimPrefix (45 :: t) [45] = t := by simp [Lib.trimPrefix, Lib.hasPrefix]
theorem digs_has (t : List UInt8) (h : Digs t) : Lib.hasPrefix t [45] = false := by
  cases t with
  | nil => rfl
  | cons c l =>
    have := h c (by simp)
    have hne : (45 == c) = false := by
      rw [beq_eq_false_iff_ne]; rintro rfl; revert this; decide
    show (45 == c && List.isPrefixOf [] l) = false
    rw [hne]; rfl
theorem digs_trim (t : List UInt8) (h : Digs t) : Lib.trimPrefix t [45] = t := by simp [Lib.trimPrefix, digs_has t h]


end Go.Proofs.YtocfenjampmdlaaGreatDoor.B
namespace Go.Proofs.YtocfenjampmdlaaGreatDoor.B
open Go.RowKit NumB
open Go.Lib (decDigits)

/-- the number of digits, the lowest one first. -/
def lv : List UInt8 → Nat
  | [] => 0
  | c :: t => (c.toNat - 48) + 10 * lv t
theorem dval_reverse : ∀ l, dval l.reverse = lv l
  | [] => by simp [dval, lv]
  | c :: t => by rw [List.reverse_cons, dval_snoc, dval_reverse t, lv]; omega
theorem lv_snoc : ∀ (l : List UInt8) (c : UInt8), lv (l ++ [c]) = lv l + 10 ^ l.length * (c.toNat - 48)
  | [], c => by simp [lv]
  | d :: t, c => by
    rw [List.cons_append, lv, lv_snoc t c, lv, List.length_cons, Nat.pow_succ]
    generalize 10 ^ t.length = p
    generalize c.toNat - 48 = r
    have : p * 10 * r = 10 * (p * r) := by grind
    omega
theorem lv_reverse (l : List UInt8) : lv l.reverse = dval l := by rw [← dval_reverse, List.reverse_reverse]
theorem dig_back {c : UInt8} (h : 48 ≤ c.toNat) : UInt8.ofNat (48 + (c.toNat - 48)) = c := by
  rw [show 48 + (c.toNat - 48) = c.toNat by omega]; simp
theorem canon (l : List UInt8) : Digs l → l ≠ [] → (l.length = 1 ∨ ∃ c t, l = c :: t ∧ c.toNat ≠ 48) → decDigits (dval l) = l := by
  refine rev_ind (P := fun l => Digs l → l ≠ [] → (l.length = 1 ∨ ∃ c t, l = c :: t ∧ c.toNat ≠ 48) → decDigits (dval l) = l) (fun _ h => absurd rfl h) (fun t c ih hd _ hh => ?_) l
  have hc := hd c (by simp)
  have hv := dval_snoc t c
  by_cases ht : t = []
  · subst ht
    have : dval ([] : List UInt8) = 0 := rfl
    rw [hv, this, dec_small (by omega), Nat.mul_zero, Nat.zero_add, dig_back hc.1]; rfl
  · have hlen : 0 < t.length := List.length_pos_iff.2 ht
    have hh' : ∃ c t', t = c :: t' ∧ c.toNat ≠ 48 := by
      rcases hh with h | ⟨d, s, e, hd⟩
      · rw [List.length_append, List.length_singleton] at h; omega
      · cases t with
        | nil => exact absurd rfl ht
        | cons d' t' => rw [List.cons_append] at e; obtain ⟨rfl, _⟩ := List.cons.inj e; exact ⟨d', t', rfl, hd⟩
    have h1 := ih (fun x hx => hd x (by simp [hx])) ht (Or.inr hh')
    have h0 : dval t ≠ 0 := by
      intro e
      rw [e, dec_small (by decide)] at h1
      obtain ⟨d, s, e', hd'⟩ := hh'
      rw [e'] at h1
      obtain ⟨e2, _⟩ := List.cons.inj h1
      rw [← e2] at hd'
      exact hd' (by decide)
    rw [decDigits_big (by omega), show dval (t ++ [c]) / 10 = dval t by omega, h1, show dval (t ++ [c]) % 10 = c.toNat - 48 by omega, dig_back hc.1]
theorem dval_zero_cons (l : List UInt8) : dval (48 :: l) = dval l := by
  have := dval_append [48] l
  rw [List.singleton_append] at this
  rw [this]
  simp [dval]

/-- the digit at a place from the end. -/
def dg (l : List UInt8) (i : Nat) : Nat := (l.reverse.getD i 48).toNat - 48
/-- what the lowest i digits say. -/
def low (l : List UInt8) (i : Nat) : Nat := lv (l.reverse.take i)
theorem low_succ (l : List UInt8) (i : Nat) : low l (i + 1) = low l i + 10 ^ i * dg l i := by
  unfold low dg
  by_cases h : i < l.reverse.length
  · rw [List.take_succ_eq_append_getElem h, lv_snoc, List.length_take, Nat.min_eq_left (by omega), List.getD_eq_getElem?_getD, List.getElem?_eq_getElem h]; rfl
  · rw [List.take_of_length_le (by omega), List.take_of_length_le (by omega), List.getD_eq_getElem?_getD, List.getElem?_eq_none (by omega)]; simp
theorem low_all (l : List UInt8) (i : Nat) (h : l.length ≤ i) : low l i = dval l := by
  unfold low
  rw [List.take_of_length_le (by simpa using h), lv_reverse]
theorem dg_le (l : List UInt8) (hd : Digs l) (i : Nat) : dg l i ≤ 9 := by
  unfold dg
  by_cases h : i < l.reverse.length
  · rw [List.getD_eq_getElem?_getD, List.getElem?_eq_getElem h]
    have := hd l.reverse[i] (List.mem_reverse.1 (List.getElem_mem h))
    simp only [Option.getD_some]; omega
  · rw [List.getD_eq_getElem?_getD, List.getElem?_eq_none (by omega)]; simp
theorem dg_at (s : ByteArray) (i : Nat) (h : i < s.size) : dg s.data.toList i = (s[s.size - 1 - i]'(by omega)).toNat - 48 := by
  unfold dg
  have hl : s.data.toList.length = s.size := rfl
  rw [List.getD_eq_getElem?_getD, List.getElem?_reverse (by omega), hl, List.getElem?_eq_getElem (by omega)]
  rfl
theorem dg_over (s : ByteArray) (i : Nat) (h : s.size ≤ i) : dg s.data.toList i = 0 := by
  unfold dg
  have hl : s.data.toList.length = s.size := rfl
  rw [List.getD_eq_getElem?_getD, List.getElem?_eq_none (by rw [List.length_reverse]; omega)]; simp
theorem digs_at {s : ByteArray} (h : Digs s.data.toList) {j : Nat} (hj : j < s.size) : 48 ≤ s[j].toNat ∧ s[j].toNat ≤ 57 :=
  h s[j] (by have : s[j] = s.data.toList[j]'(by simpa using hj) := rfl
             rw [this]; exact List.getElem_mem _)

set_option maxHeartbeats 800000 in
set_option maxRecDepth 100000 in
theorem digit_any (s : ByteArray) (i : Nat) (w : World) (hs : s.size ≤ 1000000) (hi : i ≤ 1000000) (hd : Digs s.data.toList) :
    Calls Tryz.prog 52 #[.string s, .int .i64 i] w fun e w' => e = .returned (.int .i64 (dg s.data.toList i)) ∧ w' = w := by
  by_cases h : i < s.size
  · have e := dg_at s i h
    obtain ⟨h1, h2⟩ := digs_at hd (show s.size - 1 - i < s.size by omega)
    have i1 : (48 : Int) ≤ (s[s.size - 1 - i].toNat : Int) := by omega
    have i2 : (s[s.size - 1 - i].toNat : Int) ≤ 57 := by omega
    have ii : (i : Int) < s.size := by omega
    have E := hid e
    clear e hd
    go_enter Tryz.func52, Tryz.ntmps52
    go_wp2
    go_ret
    refine ⟨?_, rfl⟩
    rw [E.out]
    show Ending.returned (Value.int .i64 ((s[s.size - 1 - i].toNat : Int) - 48)) = _
    rw [show ((s[s.size - 1 - i].toNat - 48 : Nat) : Int) = (s[s.size - 1 - i].toNat : Int) - 48 by omega]
  · have e := dg_over s i (by omega)
    have ii : ¬ (i : Int) < s.size := by omega
    rw [e]
    clear e hd
    go_enter Tryz.func52, Tryz.ntmps52
    go_wp2
    go_ret
    exact ⟨rfl, rfl⟩

/-- the text of a number's digits. -/
def dt (n : Nat) : ByteArray := ⟨(decDigits n).toArray⟩
theorem dt_list (n : Nat) : (dt n).data.toList = decDigits n := rfl
theorem bytes_eq {a b : ByteArray} (h : a.data.toList = b.data.toList) : a = b := by
  cases a with | mk x => cases b with | mk y => cases x; cases y; simp at h; subst h; rfl
theorem strip_end {t : ByteArray} (hd : Digs t.data.toList) (h0 : 0 < t.size) (h : t.size = 1 ∨ t[0].toNat ≠ 48) : t = dt (dval t.data.toList) := by
  refine bytes_eq ?_
  rw [dt_list]
  have hl : t.data.toList.length = t.size := rfl
  refine (canon _ hd (fun e => by rw [e] at hl; simp at hl; omega) ?_).symm
  rcases h with h | h
  · left; omega
  · right
    cases hc : t.data.toList with
    | nil => rw [hc] at hl; simp at hl; omega
    | cons c l =>
      refine ⟨c, l, rfl, ?_⟩
      have : t[0] = t.data.toList[0]'(by omega) := rfl
      rw [this] at h
      simp only [hc, List.getElem_cons_zero] at h
      exact h
theorem strip_step {t t2 : ByteArray} (h : t[0]? = some 48) (e : t2.data.toList = t.data.toList.drop 1) : dval t2.data.toList = dval t.data.toList := by
  rw [e]
  cases hc : t.data.toList with
  | nil => rfl
  | cons c l =>
    have : t[0]? = t.data.toList[0]? := by simp [getElem?_def]; rfl
    rw [this, hc] at h
    simp at h
    subst h
    rw [List.drop_one, List.tail_cons, dval_zero_cons]

set_option maxHeartbeats 800000 in
set_option maxRecDepth 100000 in
theorem strip_any (s : ByteArray) (w : World) (hs : s.size ≤ 1000000) (hd : Digs s.data.toList) :
    Calls Tryz.prog 53 #[.string s] w fun e w' => e = .returned (.string (dt (dval s.data.toList))) ∧ w' = w := by
  have HD := hid hd
  clear hd
  go_enter Tryz.func53, Tryz.ntmps53
  go_wp2
  go_loop [0] (fun v => ∃ t : ByteArray, v = .string t ∧ t.size ≤ 1000000 ∧ Hid (Digs t.data.toList ∧ dval t.data.toList = dval s.data.toList)) (fun v => szOf v)
  case atStart => exact ⟨s, rfl, hs, ⟨HD.out, rfl⟩⟩
  case round =>
    obtain ⟨t, rfl, ht, hr⟩ := hrel
    by_cases h1 : 1 < t.size
    · have h1' : (1 : Int) < (t.size : Int) := by omega
      have hpos : 0 < t.size := by omega
      have he : t.toList.isEmpty = false := by
        rw [Bool.eq_false_iff]; intro h; rw [List.isEmpty_iff] at h; have := toList_len t; rw [h] at this; simp at this; omega
      by_cases h2 : t[0].toNat = 48
      · have h2' : ((t[0].toNat : Int) == 48) = true := by simp; omega
        have hst := strip_step (t2 := t.extract 1 t.size) (by rw [getElem?_pos t 0 hpos]; congr 1; exact UInt8.toNat_inj.1 h2) (ext_drop t 1)
        have hsz : (t.extract 1 t.size).size = t.size - 1 := by
          have h := ext_drop t 1
          have h3 : (t.extract 1 t.size).data.toList.length = (t.extract 1 t.size).size := rfl
          rw [← h3, h, List.length_drop]; rfl
        have HS := hid (And.intro (fun c hc => hr.out.1 c (List.mem_of_mem_drop (by rw [ext_drop] at hc; exact hc)) : Digs (t.extract 1 t.size).data.toList) (hst.trans hr.out.2))
        clear hst hr he h2
        go_wp2
        exact ⟨⟨_, rfl, by omega, HS.out⟩, by simp only [szOf]; omega⟩
      · have h2' : ((t[0].toNat : Int) == 48) = false := by simp; omega
        have hE := hid (strip_end hr.out.1 hpos (Or.inr h2))
        clear h2
        go_wp2
        go_ret
        exact ⟨by rw [← hr.out.2, ← hE.out]; rfl, rfl⟩
    · have h1' : ¬ (1 : Int) < (t.size : Int) := by omega
      by_cases h0 : t.size = 0
      · have he : t.toList.isEmpty = true := by rw [List.isEmpty_iff]; exact List.eq_nil_of_length_eq_zero (by rw [toList_len]; exact h0)
        go_wp2
        go_ret
        refine ⟨?_, rfl⟩
        have e0 : t.data.toList = [] := List.eq_nil_of_length_eq_zero h0
        rw [← hr.out.2, e0]
        show Ending.returned (Value.string ⟨#[48]⟩) = _
        rw [show (⟨#[48]⟩ : ByteArray) = dt (dval []) from bytes_eq (by rw [dt_list]; show [48] = decDigits 0; rw [dec_small (by decide)]; rfl)]
      · have he : t.toList.isEmpty = false := by
          rw [Bool.eq_false_iff]; intro h; rw [List.isEmpty_iff] at h; have := toList_len t; rw [h] at this; simp at this; omega
        have hE := hid (strip_end hr.out.1 (by omega) (Or.inl (by omega)))
        go_wp2
        go_ret
        exact ⟨by rw [← hr.out.2, ← hE.out]; rfl, rfl⟩
end Go.Proofs.YtocfenjampmdlaaGreatDoor.B
namespace Go.Proofs.YtocfenjampmdlaaGreatDoor.B
open Go.RowKit NumB
open Go.Lib (decDigits)
def OwB (w : World) (base : Nat) (v : Value) (l : List UInt8) : Prop := w.ownsRow base 5 1 v l.length (Lib.byteCells l)
/-- bytes that stand in a slice. -/
def Bt (w : World) (v : Value) (l : List UInt8) : Prop :=
  ∃ ao cap, v = .slice ao l.length cap ∧ l.length ≤ cap ∧ (0 < l.length → ∃ b off, ao = some ⟨b, off, none⟩ ∧ b < w.heap.size ∧ ∀ j (hj : j < l.length), w.cell? ⟨b, off + j, none⟩ = some (.int .u8 l[j].toNat))
theorem byteCells_get (l : List UInt8) (j : Nat) (hj : j < l.length) : (Lib.byteCells l)[j]? = some (.int .u8 l[j].toNat) := by
  simp [Lib.byteCells, List.getElem?_eq_getElem hj]
theorem OwB.bt {w : World} {base : Nat} {v : Value} {l : List UInt8} (h : OwB w base v l) : Bt w v l := by
  rcases h.2 with ⟨rfl, h0⟩ | ⟨g, cap, cur, rfl, hg, hgg, hgc, hgm, hgs, htk⟩
  · refine ⟨none, 0, by rw [h0], by omega, fun h => by omega⟩
  · refine ⟨_, cap, rfl, hgc, fun _ => ⟨g, 0, rfl, (Array.getElem?_eq_some_iff.1 hgg).1, fun j hj => ?_⟩⟩
    rw [Nat.zero_add]
    have := World.ownsRow.cellAt h j (by omega)
    rw [this, byteCells_get l j hj]
theorem OwB.str {w : World} {base : Nat} {v : Value} {l : List UInt8} (h : OwB w base v l) : (convert 89 9 v).run Tryz.prog w = .ok (.string ⟨l.toArray⟩) w := by
  obtain ⟨ao, cap, rfl, hc, hl⟩ := h.bt
  cases l with
  | nil =>
    cases ao with
    | none => exact run_convert_bytes_nil _ 89 5 Tryz.underlying89 Tryz.underlying5 _ _ 9 Tryz.underlying9
    | some ad => exact run_convert_bytes_back (P := Tryz.prog) w 89 9 5 ad cap [] Tryz.underlying89 Tryz.underlying5 Tryz.underlying9 (fun j hj => by simp at hj)
  | cons c t =>
    obtain ⟨b, off, rfl, hb, hcell⟩ := hl (by simp)
    exact run_convert_bytes_back (P := Tryz.prog) w 89 9 5 ⟨b, off, none⟩ cap (c :: t) Tryz.underlying89 Tryz.underlying5 Tryz.underlying9 (fun j hj => by have h := hcell j hj; simp only [Addr.add]; split; (next e => subst e; exact h); exact h)
theorem Bt.below {w w' : World} {v : Value} {l : List UInt8} (h : Bt w v l) (hb : Below w.heap.size w w') : Bt w' v l := by
  obtain ⟨ao, cap, rfl, h1, h2⟩ := h
  refine ⟨ao, cap, rfl, h1, fun hn => ?_⟩
  obtain ⟨b, off, rfl, hbs, hc⟩ := h2 hn
  exact ⟨b, off, rfl, Nat.lt_of_lt_of_le hbs hb.size, fun j hj => by rw [hb.cell (p := ⟨b, off + j, none⟩) hbs]; exact hc j hj⟩
theorem grown_below {w w' : World} {base n : Nat} {e : TypeId} {v : Value} {xs : List Value} (h : w.ownsRow base e 1 v n xs) (g : w.grownBy w' v.ownBlock) (hb : base ≤ w.heap.size) : Below base w w' :=
  ⟨g.os, g.tape, g.output, g.size, fun _ hk => own_block h g hk (by omega)⟩
theorem OwB.push {w w3 : World} {base N : Nat} {v v' : Value} {L : List UInt8} {c : UInt8} {o : Obj} (h : OwB w base v L) (hb : base ≤ w.heap.size) (hN : N = L.length + 1)
    (own : w3.ownsRow base 5 1 v' N (Lib.byteCells L ++ [.int .u8 (c.toNat : Int)])) (grow : (w.alloc o).grownBy w3 v.ownBlock) : OwB w3 base v' (L ++ [c]) ∧ Below base w w3 ∧ base ≤ w3.heap.size := by
  have h2 : (w.alloc o).ownsRow base 5 1 v L.length (Lib.byteCells L) := World.ownsRow.alloc h _
  have b2 := grown_below h2 grow (by simp; omega)
  refine ⟨?_, ((Below.refl _ _).alloc hb o).trans b2, ?_⟩
  · subst hN
    unfold OwB
    rw [List.length_append, List.length_singleton]
    simpa [Lib.byteCells] using own
  · have := b2.size; simp at this; omega

set_option maxHeartbeats 800000 in
set_option maxRecDepth 100000 in
theorem turned_any (v : Value) (l : List UInt8) (w : World) (h : Bt w v l) (hl : l.length ≤ 1000000) :
    Calls Tryz.prog 54 #[v] w fun e w' => e = .returned (.string ⟨l.reverse.toArray⟩) ∧ Below w.heap.size w w' := by
  obtain ⟨i0, hi, hz0, hz1, hz2⟩ := info_parts Tryz.infoByte
  have HB := hid h
  obtain ⟨ao, cap, rfl, hc, hcell⟩ := h
  clear hcell
  go_enter Tryz.func54, Tryz.ntmps54
  go_wp2
  go_loopw [3, 4] (fun out i wr => ∃ k : Nat, k ≤ l.length ∧ i = .int .i64 ((k : Int) - 1) ∧ Hid (OwB wr w.heap.size out (l.drop k).reverse ∧ Below w.heap.size w wr) ∧ w.heap.size ≤ wr.heap.size) (fun _ i _ => (intOf i + 1).toNat)
  case atStart => exact ⟨l.length, Nat.le_refl _, rfl, ⟨by rw [List.drop_length]; exact World.ownsRow_nil _ _ _ _, Below.refl _ _⟩, Nat.le_refl _⟩
  case round =>
    obtain ⟨k, hk, rfl, hr, hsz⟩ := hrel
    by_cases h0 : k = 0
    · subst h0
      have HS := hid hr.out.1.str
      have B0 := hr.out.2
      go_wp2_with fail
      rw [HS.out]
      go_wp2
      go_ret
      exact ⟨rfl, B0⟩
    · obtain ⟨j, rfl⟩ : ∃ j, k = j + 1 := ⟨k - 1, by omega⟩
      obtain ⟨ao', cap', e', _, hcell⟩ := HB.out.below hr.out.2
      obtain ⟨b, off, e2, hb, hc2⟩ := hcell (by omega)
      simp only [Value.slice.injEq, true_and] at e'
      obtain ⟨rfl, rfl⟩ := e'
      subst e2
      have hcj := hc2 j (by omega)
      clear hcell hc2
      have OWN := hid hr.out.1
      have hL : (l.drop (j + 1)).reverse.length ≤ 1000000 := by rw [List.length_reverse, List.length_drop]; omega
      go_wp2_with (at_builtin; refine wpList_append_own _ rfl (.tmp 12) (.tmp 17) 89 rfl w.heap.size 5 i0 (.int .u8 0) 1 1 Tryz.underlying89 hi hz0 hz1 hz2 rfl (by decide) _ (l.drop (j + 1)).reverse.length (Lib.byteCells (l.drop (j + 1)).reverse) rfl (OWN.out.alloc _) ⟨wr.heap.size, 0, none⟩ 1 1 [.int .u8 (l[j].toNat : Int)] rfl rfl (cell_one_new _ _ _) (by intro u hu; simp at hu; subst hu; rfl) (by unfold maxLen; omega) (by omega) (by simp; omega) ?_; intro v' w3 own3 grow3 _)
      have hp := OwB.push hr.out.1 hsz rfl own3 grow3
      have he : (l.drop j).reverse = (l.drop (j + 1)).reverse ++ [l[j]] := by rw [List.drop_eq_getElem_cons (by omega), List.reverse_cons]
      exact ⟨⟨j, by omega, rfl, ⟨by rw [he]; exact hp.1, hr.out.2.trans hp.2.1⟩, hp.2.2⟩, by simp only [intOf]; omega⟩
end Go.Proofs.YtocfenjampmdlaaGreatDoor.B
namespace Go.Proofs.YtocfenjampmdlaaGreatDoor.B
open Go.RowKit NumB
open Go.Lib (decDigits)
def AdRel (x y : List UInt8) (i c : Nat) (L : List UInt8) : Prop := Digs L ∧ L.length = i ∧ lv L + 10 ^ i * c = low x i + low y i
theorem digs_snoc {L : List UInt8} (h : Digs L) {d : Nat} (hd : d < 10) : Digs (L ++ [UInt8.ofNat (48 + d)]) := by
  intro c hc
  rcases List.mem_append.1 hc with hc | hc
  · exact h c hc
  · simp only [List.mem_singleton] at hc
    subst hc; rw [dig_nat hd]; omega
theorem AdRel.step {x y : List UInt8} {i c : Nat} {L : List UInt8} (h : AdRel x y i c L) : AdRel x y (i + 1) ((dg x i + dg y i + c) / 10) (L ++ [UInt8.ofNat (48 + (dg x i + dg y i + c) % 10)]) := by
  obtain ⟨h1, h2, h3⟩ := h
  refine ⟨digs_snoc h1 (by omega), by simp [h2], ?_⟩
  rw [lv_snoc, dig_nat (by omega), h2, low_succ, low_succ, Nat.pow_succ]
  generalize 10 ^ i = p at *
  generalize dg x i = a
  generalize dg y i = b
  obtain ⟨n, hn⟩ : ∃ n, n = a + b + c := ⟨_, rfl⟩
  rw [← hn, Nat.add_sub_cancel_left]
  have e1 : p * (n % 10) + p * 10 * (n / 10) = p * n := by
    have : p * n = p * (10 * (n / 10) + n % 10) := by rw [Nat.div_add_mod]
    rw [this]; grind
  have e2 : p * n = p * a + p * b + p * c := by rw [hn]; grind
  omega
theorem AdRel.done {x y : List UInt8} {i : Nat} {L : List UInt8} (h : AdRel x y i 0 L) (hx : x.length ≤ i) (hy : y.length ≤ i) : lv L = dval x + dval y := by
  obtain ⟨_, _, h3⟩ := h
  rw [low_all x i hx, low_all y i hy] at h3; omega
theorem turn_strip {L : List UInt8} : dval (⟨L.reverse.toArray⟩ : ByteArray).data.toList = lv L := dval_reverse L
theorem digs_rev {L : List UInt8} (h : Digs L) : Digs (⟨L.reverse.toArray⟩ : ByteArray).data.toList := fun c hc => h c (List.mem_reverse.1 hc)
set_option maxHeartbeats 1600000 in
set_option maxRecDepth 100000 in
theorem radd_any (x y : ByteArray) (w : World) (hx : x.size ≤ 400000) (hy : y.size ≤ 400000) (dx : Digs x.data.toList) (dy : Digs y.data.toList) :
    Calls Tryz.prog 34 #[.string x, .string y] w fun e w' => e = .returned (.string (dt (dval x.data.toList + dval y.data.toList))) ∧ Below w.heap.size w w' := by
  obtain ⟨i0, hi, hz0, hz1, hz2⟩ := info_parts Tryz.infoByte
  have DX := hid dx
  have DY := hid dy
  clear dx dy
  go_enter Tryz.func34, Tryz.ntmps34
  go_wp2
  go_loopw [5, 6, 7] (fun out cv iv wr => ∃ (i c : Nat) (L : List UInt8), cv = .int .i64 c ∧ iv = .int .i64 i ∧ c ≤ 1 ∧ i ≤ 400001 ∧ Hid (AdRel x.data.toList y.data.toList i c L ∧ OwB wr w.heap.size out L ∧ Below w.heap.size w wr) ∧ w.heap.size ≤ wr.heap.size ∧ (i ≤ x.size ∨ i ≤ y.size ∨ c = 0)) (fun _ _ iv _ => 500000 - (intOf iv).toNat)
  case atStart => exact ⟨0, 0, [], rfl, rfl, by omega, by omega, ⟨⟨(fun c hc => by simp at hc), rfl, by simp [lv, low]⟩, World.ownsRow_nil _ _ _ _, Below.refl _ _⟩, Nat.le_refl _, by omega⟩
  case round =>
    obtain ⟨i, c, L, rfl, rfl, hc, hi2, hr, hsz, hend⟩ := hrel
    by_cases hgo : i < x.size ∨ i < y.size ∨ 0 < c
    · have hi3 : i ≤ 400000 := by omega
      have a1 := dg_le x.data.toList DX.out i
      have a2 := dg_le y.data.toList DY.out i
      have a3 : x.size ≤ i → dg x.data.toList i = 0 := dg_over x i
      have a4 : y.size ≤ i → dg y.data.toList i = 0 := dg_over y i
      have D1 := hid (digit_any x i wr (by omega) (by omega) DX.out)
      have D2 := hid (digit_any y i wr (by omega) (by omega) DY.out)
      have ST := hid hr.out.1.step
      have OWN := hid hr.out.2.1
      have hL : L.length ≤ 400001 := by rw [hr.out.1.2.1]; omega
      have hn0 := dig_nat (d := (dg x.data.toList i + dg y.data.toList i + c) % 10) (by omega)
      generalize dg x.data.toList i = d1 at *
      generalize dg y.data.toList i = d2 at *
      have HN := hid hn0
      have HA := hid (And.intro a3 a4)
      clear hn0 a3 a4
      have hcont : ((i : Int) < x.size ∨ (i : Int) < y.size) ∨ (0 : Int) < c := by omega
      go_wp2_with fail
      all_goals
        refine D1.out.mono ?_
        rintro e w1 ⟨rfl, rfl⟩
        go_wp2_with fail
        refine D2.out.mono ?_
        rintro e w2 ⟨rfl, rfl⟩
        go_wp2_with (at_builtin; refine wpList_append_own _ rfl (.tmp 34) (.tmp 39) 89 rfl w.heap.size 5 i0 (.int .u8 0) 1 1 Tryz.underlying89 hi hz0 hz1 hz2 rfl (by decide) _ L.length (Lib.byteCells L) rfl (OWN.out.alloc _) ⟨w2.heap.size, 0, none⟩ 1 1 [.int .u8 (48 + ((d1 : Int) + (d2 : Int) + (c : Int)) % 10)] rfl rfl (cell_one_new _ _ _) (by intro u hu; simp at hu; subst hu; rfl) (by unfold maxLen; omega) (by omega) (by simp; omega) ?_; intro v' w3 own3 grow3 _)
        have ez : (48 + ((d1 : Int) + (d2 : Int) + (c : Int)) % 10) = ((UInt8.ofNat (48 + (d1 + d2 + c) % 10)).toNat : Int) := by rw [HN.out]; omega
        rw [ez] at own3
        have hp := OwB.push OWN.out hsz rfl own3 grow3
        have hq : i + 1 ≤ x.size ∨ i + 1 ≤ y.size ∨ (d1 + d2 + c) / 10 = 0 := by
          by_cases q1 : i < x.size
          · omega
          · by_cases q2 : i < y.size
            · omega
            · have := HA.out.1 (by omega); have := HA.out.2 (by omega); omega
        exact ⟨⟨i + 1, (d1 + d2 + c) / 10, _, by congr 1, by congr 1, by omega, by omega, ⟨ST.out, hp.1, hr.out.2.2.trans hp.2.1⟩, hp.2.2, hq⟩, by simp only [intOf]; omega⟩
    · have hc0 : c = 0 := by omega
      subst hc0
      have n1 : ¬ (i : Int) < x.size := by omega
      have n2 : ¬ (i : Int) < y.size := by omega
      have hv := hr.out.1.done (by have : x.data.toList.length = x.size := rfl; omega) (by have : y.data.toList.length = y.size := rfl; omega)
      have HV := hid hv
      have HT := hid hr.out.2.1.bt
      have hL : L.length ≤ 400001 := by rw [hr.out.1.2.1]; omega
      clear hv hgo
      go_wp2_with fail
      refine (turned_any _ L wr HT.out (by omega)).mono ?_
      rintro e w2 ⟨rfl, C2⟩
      go_wp2_with fail
      refine (strip_any _ w2 (by simp [ByteArray.size]; omega) (digs_rev hr.out.1.1)).mono ?_
      rintro e w3 ⟨rfl, rfl⟩
      rw [turn_strip, HV.out]
      go_wp2
      go_ret
      exact ⟨rfl, hr.out.2.2.trans (C2.mono hsz)⟩
end Go.Proofs.YtocfenjampmdlaaGreatDoor.B
namespace Go.Proofs.YtocfenjampmdlaaGreatDoor.B
open Go.RowKit NumB
open Go.Lib (decDigits)
def WdRel (w0 u : Nat) (L : List UInt8) : Prop := Digs L ∧ lv L + 10 ^ L.length * u = w0
theorem WdRel.step {w0 u : Nat} {L : List UInt8} (h : WdRel w0 u L) : WdRel w0 (u / 10) (L ++ [UInt8.ofNat (48 + u % 10)]) := by
  obtain ⟨h1, h3⟩ := h
  refine ⟨digs_snoc h1 (by omega), ?_⟩
  rw [lv_snoc, dig_nat (by omega), List.length_append, List.length_singleton, Nat.pow_succ, Nat.add_sub_cancel_left, ← h3]
  generalize 10 ^ L.length = p at *
  have e1 : p * (u % 10) + p * 10 * (u / 10) = p * u := by
    have : p * u = p * (10 * (u / 10) + u % 10) := by rw [Nat.div_add_mod]
    rw [this]; grind
  omega
theorem WdRel.len {w0 u : Nat} {L : List UInt8} (h : WdRel w0 u L) (hu : 0 < u) (hw : w0 ≤ 18446744073709551615) : L.length < 20 := by
  obtain ⟨_, h3⟩ := h
  apply Decidable.byContradiction
  intro hn
  have h1 : 10 ^ 20 ≤ 10 ^ L.length := Nat.pow_le_pow_right (by decide) (by omega)
  have h2 : 10 ^ L.length * 1 ≤ 10 ^ L.length * u := Nat.mul_le_mul_left _ hu
  have e : (10 : Nat) ^ 20 = 100000000000000000000 := by decide
  omega
set_option maxHeartbeats 1600000 in
set_option maxRecDepth 100000 in
theorem rword_any (a : Nat) (w : World) (ha : a ≤ 18446744073709551615) :
    Calls Tryz.prog 36 #[.int .u64 a] w fun e w' => e = .returned (.string (dt a)) ∧ Below w.heap.size w w' := by
  obtain ⟨i0, hi, hz0, hz1, hz2⟩ := info_parts Tryz.infoByte
  go_enter Tryz.func36, Tryz.ntmps36
  go_wp2
  go_loopw [0, 3] (fun av out wr => ∃ (u : Nat) (L : List UInt8), av = .int .u64 u ∧ u ≤ 18446744073709551615 ∧ L.length ≤ 20 ∧ Hid (WdRel a u L ∧ OwB wr w.heap.size out L ∧ Below w.heap.size w wr) ∧ w.heap.size ≤ wr.heap.size) (fun av _ _ => (intOf av).toNat)
  case atStart => exact ⟨a, [], rfl, ha, by simp, ⟨⟨(fun c hc => by simp at hc), by simp [lv]⟩, World.ownsRow_nil _ _ _ _, Below.refl _ _⟩, Nat.le_refl _⟩
  case round =>
    obtain ⟨u, L, rfl, hu, hL, hr, hsz⟩ := hrel
    by_cases h0 : 0 < u
    · have h0' : (0 : Int) < u := by omega
      have ST := hid hr.out.1.step
      have OWN := hid hr.out.2.1
      have hL2 := hr.out.1.len h0 ha
      have HN := hid (dig_nat (d := u % 10) (by omega))
      go_wp2_with (at_builtin; refine wpList_append_own _ rfl (.tmp 6) (.tmp 11) 89 rfl w.heap.size 5 i0 (.int .u8 0) 1 1 Tryz.underlying89 hi hz0 hz1 hz2 rfl (by decide) _ L.length (Lib.byteCells L) rfl (OWN.out.alloc _) ⟨wr.heap.size, 0, none⟩ 1 1 [.int .u8 (48 + (u : Int) % 10)] rfl rfl (cell_one_new _ _ _) (by intro u hu; simp at hu; subst hu; rfl) (by unfold maxLen; omega) (by omega) (by simp; omega) ?_; intro v' w3 own3 grow3 _)
      have ez : (48 + (u : Int) % 10) = ((UInt8.ofNat (48 + u % 10)).toNat : Int) := by rw [HN.out]; omega
      rw [ez] at own3
      have hp := OwB.push OWN.out hsz rfl own3 grow3
      exact ⟨⟨u / 10, _, by congr 1, by omega, by rw [List.length_append, List.length_singleton]; omega, ⟨ST.out, hp.1, hr.out.2.2.trans hp.2.1⟩, hp.2.2⟩, by simp only [intOf]; omega⟩
    · have h0' : ¬ (0 : Int) < u := by omega
      have hu0 : u = 0 := by omega
      subst hu0
      have hv : lv L = a := by have := hr.out.1.2; omega
      have HV := hid hv
      have HT := hid hr.out.2.1.bt
      clear hv
      go_wp2_with fail
      refine (turned_any _ L wr HT.out (by omega)).mono ?_
      rintro e w2 ⟨rfl, C2⟩
      go_wp2_with fail
      refine (strip_any _ w2 (by simp [ByteArray.size]; omega) (digs_rev hr.out.1.1)).mono ?_
      rintro e w3 ⟨rfl, rfl⟩
      rw [turn_strip, HV.out]
      go_wp2
      go_ret
      exact ⟨rfl, hr.out.2.2.trans (C2.mono hsz)⟩
theorem dec_len_pos (a : Nat) : 0 < (decDigits a).length := by
  by_cases h : a < 10
  · rw [dec_small h]; simp
  · rw [decDigits_big h]; simp
theorem len_lt {a b : Nat} (h : (decDigits a).length < (decDigits b).length) : a < b := by
  have h1 := dval_lt (decDigits a) (digs_dec a)
  rw [dval_dec] at h1
  have hp := dec_len_pos a
  have h2 : ¬ b < 10 ^ ((decDigits b).length - 1) := fun hb => by have := len_dec b _ (by omega) hb; omega
  have h3 : 10 ^ (decDigits a).length ≤ 10 ^ ((decDigits b).length - 1) := Nat.pow_le_pow_right (by decide) (by omega)
  omega
theorem dval_cons (c : UInt8) (t : List UInt8) : dval (c :: t) = (c.toNat - 48) * 10 ^ t.length + dval t := by
  have := dval_append [c] t
  rw [List.singleton_append] at this
  rw [this]
  simp [dval]
theorem less_iff : ∀ (x y : List UInt8), Digs x → Digs y → x.length = y.length → (Op.bytesLess x y = true ↔ dval x < dval y)
  | [], [], _, _, _ => by simp [Op.bytesLess, dval]
  | [], _ :: _, _, _, h => by simp at h
  | _ :: _, [], _, _, h => by simp at h
  | c :: x, d :: y, hx, hy, h => by
    have hl : x.length = y.length := by simpa using h
    have ih := less_iff x y (fun z hz => hx z (by simp [hz])) (fun z hz => hy z (by simp [hz])) hl
    have bx := dval_lt x (fun z hz => hx z (by simp [hz]))
    have bz := dval_lt y (fun z hz => hy z (by simp [hz]))
    have hc := hx c (by simp)
    have hd := hy d (by simp)
    rw [dval_cons, dval_cons, hl]
    rw [hl] at bx
    simp only [Op.bytesLess, Bool.or_eq_true, decide_eq_true_eq, Bool.and_eq_true, beq_iff_eq, ih]
    generalize 10 ^ y.length = p at *
    rcases Nat.lt_trichotomy c.toNat d.toNat with h | h | h
    · have hcd : c < d := UInt8.lt_iff_toNat_lt.2 h
      have h1 : ((c.toNat - 48) + 1) * p ≤ (d.toNat - 48) * p := Nat.mul_le_mul_right _ (by omega)
      rw [Nat.add_mul] at h1
      constructor
      · intro _; omega
      · intro _; exact Or.inl hcd
    · have hcd : c = d := UInt8.toNat_inj.1 h
      subst hcd
      constructor
      · rintro (h' | ⟨_, h'⟩)
        · exact absurd h' (by simp)
        · omega
      · intro h'; exact Or.inr ⟨rfl, by omega⟩
    · have h1 : ((d.toNat - 48) + 1) * p ≤ (c.toNat - 48) * p := Nat.mul_le_mul_right _ (by omega)
      rw [Nat.add_mul] at h1
      constructor
      · rintro (h' | ⟨h', _⟩)
        · have := UInt8.lt_iff_toNat_lt.1 h'; omega
        · rw [h'] at h; omega
      · intro h'; omega
theorem dt_size (a : Nat) : (dt a).size = (decDigits a).length := bytes_size _
theorem dt_toList (a : Nat) : (dt a).toList = decDigits a := toList_eq _
end Go.Proofs.YtocfenjampmdlaaGreatDoor.B
namespace Go.Proofs.YtocfenjampmdlaaGreatDoor.B
open Go.RowKit NumB
open Go.Lib (decDigits)
def SbRel (x y : List UInt8) (i c : Nat) (L : List UInt8) : Prop := Digs L ∧ L.length = i ∧ lv L + low y i = low x i + 10 ^ i * c
theorem lv_lt (L : List UInt8) (h : Digs L) : lv L < 10 ^ L.length := by
  have := dval_lt L.reverse (fun c hc => h c (List.mem_reverse.1 hc))
  rw [dval_reverse, List.length_reverse] at this; exact this
theorem SbRel.step {x y : List UInt8} {i c d c' : Nat} {L : List UInt8} (h : SbRel x y i c L) (hd : d < 10) (e : d + dg y i + c = dg x i + 10 * c') : SbRel x y (i + 1) c' (L ++ [UInt8.ofNat (48 + d)]) := by
  obtain ⟨h1, h2, h3⟩ := h
  refine ⟨digs_snoc h1 hd, by simp [h2], ?_⟩
  rw [lv_snoc, dig_nat hd, h2, low_succ, low_succ, Nat.pow_succ, Nat.add_sub_cancel_left]
  generalize 10 ^ i = p at *
  have e2 : p * d + p * dg y i + p * c = p * dg x i + p * 10 * c' := by
    have : p * (d + dg y i + c) = p * (dg x i + 10 * c') := by rw [e]
    grind
  omega
theorem len_le {a b : Nat} (h : b ≤ a) : (decDigits b).length ≤ (decDigits a).length := by
  apply Decidable.byContradiction
  intro hn
  have := len_lt (a := a) (b := b) (by omega)
  omega
theorem SbRel.done {a b c : Nat} {L : List UInt8} (h : SbRel (decDigits a) (decDigits b) (decDigits a).length c L) (hle : b ≤ a) : lv L = a - b := by
  obtain ⟨h1, h2, h3⟩ := h
  rw [low_all _ _ (Nat.le_refl _), low_all _ _ (len_le hle), dval_dec, dval_dec] at h3
  have h4 := lv_lt L h1
  rw [h2] at h4
  generalize 10 ^ (decDigits a).length = p at *
  by_cases hc : c = 0
  · subst hc; omega
  · have : p * 1 ≤ p * c := Nat.mul_le_mul_left _ (by omega)
    omega
end Go.Proofs.YtocfenjampmdlaaGreatDoor.B
namespace Go.Proofs.YtocfenjampmdlaaGreatDoor.B
open Go.RowKit NumB
open Go.Lib (decDigits)

/-- the sum of places, each times its power of ten. -/
def SV (S : Nat → Nat) : Nat → Nat
  | 0 => 0
  | n + 1 => SV S n + S n * 10 ^ n
def updN (S : Nat → Nat) (i v : Nat) : Nat → Nat := fun j => if j = i then v else S j
theorem SV_zero : ∀ n, SV (fun _ => 0) n = 0
  | 0 => rfl
  | n + 1 => by simp [SV, SV_zero n]
theorem SV_updN_ge (S : Nat → Nat) (i v : Nat) : ∀ n, n ≤ i → SV (updN S i v) n = SV S n
  | 0, _ => rfl
  | n + 1, h => by
    rw [SV, SV, SV_updN_ge S i v n (by omega)]
    simp only [updN]
    rw [if_neg (by omega)]
theorem SV_updN (S : Nat → Nat) (i d : Nat) : ∀ n, i < n → SV (updN S i (S i + d)) n = SV S n + d * 10 ^ i
  | 0, h => by omega
  | n + 1, h => by
    by_cases e : i = n
    · subst e
      rw [SV, SV, SV_updN_ge S i _ i (Nat.le_refl _)]
      simp only [updN]
      rw [if_pos trivial, Nat.add_mul]
      omega
    · rw [SV, SV, SV_updN S i d n (by omega)]
      simp only [updN]
      rw [if_neg (by omega)]
      omega
def MuRel (x y : List UInt8) (N i k : Nat) (S : Nat → Nat) : Prop := SV S N = low x i * dval y + dg x i * 10 ^ i * low y k ∧ (∀ j, S j ≤ 81 * (i + 1)) ∧ (∀ j, i + k ≤ j → S j ≤ 81 * i)
def MoRel (x y : List UInt8) (N i : Nat) (S : Nat → Nat) : Prop := SV S N = low x i * dval y ∧ (∀ j, S j ≤ 81 * i)
theorem MoRel.start (x y : List UInt8) (N : Nat) : MoRel x y N 0 (fun _ => 0) := ⟨by rw [SV_zero]; simp [low, lv], fun _ => Nat.zero_le _⟩
theorem MoRel.inner {x y : List UInt8} {N i : Nat} {S : Nat → Nat} (h : MoRel x y N i S) : MuRel x y N i 0 S :=
  ⟨by rw [h.1]; simp [low, lv], fun j => by have := h.2 j; omega, fun j _ => h.2 j⟩
theorem MuRel.outer {x y : List UInt8} {N i : Nat} {S : Nat → Nat} (h : MuRel x y N i y.length S) : MoRel x y N (i + 1) S := by
  refine ⟨?_, h.2.1⟩
  rw [h.1, low_all y _ (Nat.le_refl _), low_succ, Nat.add_mul, Nat.mul_comm (10 ^ i)]
theorem MuRel.step {x y : List UInt8} {N i k : Nat} {S : Nat → Nat} (h : MuRel x y N i k S) (hx : dg x i ≤ 9) (hy : dg y k ≤ 9) (hN : i + k < N) : MuRel x y N i (k + 1) (updN S (i + k) (S (i + k) + dg x i * dg y k)) := by
  obtain ⟨h1, h2, h3⟩ := h
  have hm : dg x i * dg y k ≤ 9 * 9 := Nat.mul_le_mul hx hy
  refine ⟨?_, fun j => ?_, fun j hj => ?_⟩
  · rw [SV_updN S _ _ N hN, h1, low_succ, Nat.pow_add]
    generalize 10 ^ i = p
    generalize 10 ^ k = q
    generalize dg x i = a
    generalize dg y k = b
    generalize low y k = z
    grind
  · simp only [updN]
    split
    · have := h3 (i + k) (Nat.le_refl _); omega
    · exact h2 j
  · simp only [updN]
    rw [if_neg (by omega)]
    exact h3 j (by omega)
def CaRel (S : Nat → Nat) (i c : Nat) (L : List UInt8) : Prop := Digs L ∧ L.length = i ∧ lv L + 10 ^ i * c = SV S i
theorem CaRel.step {S : Nat → Nat} {i c : Nat} {L : List UInt8} (h : CaRel S i c L) : CaRel S (i + 1) ((S i + c) / 10) (L ++ [UInt8.ofNat (48 + (S i + c) % 10)]) := by
  obtain ⟨h1, h2, h3⟩ := h
  refine ⟨digs_snoc h1 (by omega), by simp [h2], ?_⟩
  rw [lv_snoc, dig_nat (by omega), h2, SV, Nat.pow_succ, Nat.add_sub_cancel_left]
  generalize 10 ^ i = p at *
  obtain ⟨n, hn⟩ : ∃ n, n = S i + c := ⟨_, rfl⟩
  rw [← hn]
  have e1 : p * (n % 10) + p * 10 * (n / 10) = p * n := by
    have : p * n = p * (10 * (n / 10) + n % 10) := by rw [Nat.div_add_mod]
    rw [this]; grind
  have e2 : p * n = S i * p + p * c := by rw [hn]; grind
  omega
theorem CaRel.done {x y : List UInt8} {S : Nat → Nat} {c : Nat} {L : List UInt8} (hx : Digs x) (hy : Digs y) (h : CaRel S (x.length + y.length + 1) c L) (hS : SV S (x.length + y.length + 1) = dval x * dval y) : lv L = dval x * dval y := by
  obtain ⟨h1, h2, h3⟩ := h
  rw [hS] at h3
  have bx := dval_lt x hx
  have bz := dval_lt y hy
  have hb : dval x * dval y < 10 ^ (x.length + y.length + 1) := by
    rw [Nat.pow_succ, Nat.pow_add]
    have h4 : dval x * dval y ≤ 10 ^ x.length * 10 ^ y.length := Nat.mul_le_mul (by omega) (by omega)
    have h5 : 0 < 10 ^ x.length * 10 ^ y.length := Nat.mul_pos (Nat.pow_pos (by decide)) (Nat.pow_pos (by decide))
    omega
  generalize 10 ^ (x.length + y.length + 1) = p at *
  by_cases hc : c = 0
  · subst hc; omega
  · have : p * 1 ≤ p * c := Nat.mul_le_mul_left _ (by omega)
    omega

/-- block g holds n ints. -/
def RowI (w : World) (g n : Nat) (S : Nat → Nat) : Prop :=
  ∃ cur : Array Value, w.heap[g]? = some (.cells cur 3 (0, 0)) ∧ cur.size = n ∧ ∀ j, j < n → cur[j]? = some (.int .i64 (S j : Int))
theorem RowI.lt {w : World} {g n : Nat} {S : Nat → Nat} (h : RowI w g n S) : g < w.heap.size := by
  obtain ⟨cur, hg, _⟩ := h
  exact (Array.getElem?_eq_some_iff.1 hg).1
theorem RowI.cell {w : World} {g n : Nat} {S : Nat → Nat} (h : RowI w g n S) {i : Nat} (hi : i < n) : w.cell? ⟨g, i, none⟩ = some (.int .i64 (S i : Int)) := by
  obtain ⟨cur, hg, _, hc⟩ := h
  simp [World.cell?, hg, hc i hi]
theorem RowI.frozen {w : World} {g n : Nat} {S : Nat → Nat} (h : RowI w g n S) (i : Nat) : w.frozen? ⟨g, i, none⟩ = false := by
  obtain ⟨cur, hg, _, hc⟩ := h
  simp [World.frozen?, hg]
theorem RowI.set {w : World} {g n : Nat} {S : Nat → Nat} (h : RowI w g n S) (i v : Nat) : RowI (w.setCell ⟨g, i, none⟩ (.int .i64 (v : Int))) g n (updN S i v) := by
  obtain ⟨cur, hg, hs, hc⟩ := h
  refine ⟨cur.setIfInBounds i (.int .i64 (v : Int)), ?_, by simpa using hs, fun j hj => ?_⟩
  · rw [heap_setCell_same w g i cur 3 _ hg]
  · by_cases e : j = i
    · subst e; rw [Array.getElem?_setIfInBounds]; simp [hs, hj, updN]
    · rw [Array.getElem?_setIfInBounds]; simp [Ne.symm e, updN, e, hc j hj]
theorem RowI.below {B k n : Nat} {S : Nat → Nat} {w w' : World} (h : Below B w w') (hk : k < B) (r : RowI w k n S) : RowI w' k n S := by
  obtain ⟨cur, hg, hs, hc⟩ := r
  exact ⟨cur, by rw [h.block k hk]; exact hg, hs, hc⟩
end Go.Proofs.YtocfenjampmdlaaGreatDoor.B
namespace Go.Proofs.YtocfenjampmdlaaGreatDoor.B
open Go.RowKit NumB
open Go.Lib (decDigits)
theorem Tryz.info3 : (Tryz.prog.info? 3).map (fun i => (i.zero, i.size, i.bytes)) = some (some (.int .i64 0), 1, 8) := by kernel_rfl
theorem RowI.new (w : World) (n : Nat) : RowI (w.alloc (.cells (madeCells #[.int .i64 0] (n * 1)) 3)) w.heap.size n (fun _ => 0) := by
  refine ⟨madeCells #[.int .i64 0] (n * 1), ?_, by simp [size_madeCells], fun j hj => ?_⟩
  · exact heap_alloc_new w _
  · simp [madeCells, hj, Nat.mod_one]
set_option maxHeartbeats 1600000 in
set_option maxRecDepth 100000 in
theorem rmul_any (x y : ByteArray) (w : World) (hx : x.size ≤ 100000) (hy : y.size ≤ 100000) (dx : Digs x.data.toList) (dy : Digs y.data.toList) :
    Calls Tryz.prog 35 #[.string x, .string y] w fun e w' => e = .returned (.string (dt (dval x.data.toList * dval y.data.toList))) ∧ Below w.heap.size w w' := by
  obtain ⟨i0, hi, hz0, hz1, hz2⟩ := info_parts Tryz.infoByte
  obtain ⟨j0, hj, hy0, hy1, hy2⟩ := info_parts Tryz.info3
  have DX := hid dx
  have DY := hid dy
  clear dx dy
  have hr := run_make (P := Tryz.prog) w 41 3 j0 (.int .i64 0) Tryz.underlying41 hj hy0 .i64 .i64 ((x.size + y.size + 1 : Nat) : Int) ((x.size + y.size + 1 : Nat) : Int) (by omega) (Int.le_refl _) (by rw [hy2]; omega) (by omega)
  simp only [Int.toNat_natCast] at hr
  rw [hy1] at hr
  simp only [Nat.mul_one] at hr
  have R0' := RowI.new w (x.size + y.size + 1)
  rw [Nat.mul_one] at R0'
  have R0 := hid R0'
  clear R0'
  have B0 : Hid (Below w.heap.size w (w.alloc (.cells (madeCells #[.int .i64 0] (x.size + y.size + 1)) 3))) := (Below.refl _ _).alloc (Nat.le_refl _) _
  have Z0 : (w.alloc (.cells (madeCells #[.int .i64 0] (x.size + y.size + 1)) 3)).heap.size = w.heap.size + 1 := by simp
  have HR := hid hr
  clear hr
  obtain ⟨N, hN⟩ : ∃ N, N = x.size + y.size + 1 := ⟨_, rfl⟩
  go_enter Tryz.func35, Tryz.ntmps35
  go_wp2_with fail
  rw [show ((x.size : Int) + y.size + 1) = ((x.size + y.size + 1 : Nat) : Int) by omega, HR.out, ← hN]
  clear HR
  generalize hg : w.heap.size = g at *
  go_wp2
  generalize w.alloc (.cells (madeCells #[.int .i64 0] (x.size + y.size + 1)) 3) = w0 at *
  have hgw : g < w0.heap.size := by omega
  go_loopw [6] (fun iv wr => ∃ (i : Nat) (S : Nat → Nat), iv = .int .i64 i ∧ i ≤ x.size ∧ Hid (MoRel x.data.toList y.data.toList N i S ∧ RowI wr g N S ∧ Only g w0 wr)) (fun iv _ => 500000 - (intOf iv).toNat)
  case atStart => exact ⟨0, _, rfl, by omega, ⟨MoRel.start _ _ _, by rw [hN]; exact R0.out, Only.refl _ _⟩⟩
  case round =>
    obtain ⟨i, S, rfl, hi2, hr⟩ := hrel
    by_cases hgo : i < x.size
    · have hgo' : (i : Int) < x.size := by omega
      go_wp2
      go_loopw [7] (fun kv wi => ∃ (k : Nat) (S : Nat → Nat), kv = .int .i64 k ∧ k ≤ y.size ∧ Hid (MuRel x.data.toList y.data.toList N i k S ∧ RowI wi g N S ∧ Only g w0 wi)) (fun kv _ => 500000 - (intOf kv).toNat)
      case atStart => exact ⟨0, S, rfl, by omega, ⟨hr.out.1.inner, hr.out.2.1, hr.out.2.2⟩⟩
      case round =>
        obtain ⟨k, S', rfl, hk, hs⟩ := hrel
        by_cases hgk : k < y.size
        · have hgk' : (k : Int) < y.size := by omega
          have a1 := dg_le x.data.toList DX.out i
          have a2 := dg_le y.data.toList DY.out k
          have D1 : Hid (∀ W, Calls Tryz.prog 52 #[.string x, .int .i64 i] W fun e w' => e = .returned (.int .i64 (dg x.data.toList i)) ∧ w' = W) := fun W => digit_any x i W (by omega) (by omega) DX.out
          have D2 : Hid (∀ W, Calls Tryz.prog 52 #[.string y, .int .i64 k] W fun e w' => e = .returned (.int .i64 (dg y.data.toList k)) ∧ w' = W) := fun W => digit_any y k W (by omega) (by omega) DY.out
          have ST := hid (hs.out.1.step a1 a2 (by omega))
          have hc := hs.out.2.1.cell (i := i + k) (by omega)
          have hf := hs.out.2.1.frozen (i + k)
          have hSb := hs.out.1.2.1 (i + k)
          have hmm : dg x.data.toList i * dg y.data.toList k ≤ 9 * 9 := Nat.mul_le_mul a1 a2
          have RS := hid (hs.out.2.1.set (i + k) (S' (i + k) + dg x.data.toList i * dg y.data.toList k))
          generalize dg x.data.toList i = d1 at *
          generalize dg y.data.toList k = d2 at *
          obtain ⟨m, hm⟩ : ∃ m, m = d1 * d2 := ⟨_, rfl⟩
          have hmi : (d1 : Int) * (d2 : Int) = (m : Int) := by rw [hm, Int.natCast_mul]
          rw [← hm] at hmm RS ST
          have HM := hid hm
          clear hm
          have b1 : (S' (i + k) : Int) ≤ 9000000 := by omega
          have b2 : (m : Int) ≤ 81 := by omega
          have q1 : (0 : Int) ≤ (i : Int) + k := by omega
          have q2 : (i : Int) + k < (x.size : Int) + y.size + 1 := by omega
          have q3 : (i : Int) + k ≤ 200000 := by omega
          have qn : ((i : Int) + k).toNat = i + k := by omega
          have qw : IntKind.i64.wrap ((i : Int) + (k : Int)) = (i : Int) + (k : Int) := by rw [IntKind.wrap_i64]; omega
          have qm : IntKind.i64.wrap ((d1 : Int) * (d2 : Int)) = (m : Int) := by rw [hmi, IntKind.wrap_i64]; omega
          have qm2 : IntKind.i64.wrap (m : Int) = (m : Int) := by rw [IntKind.wrap_i64]; omega
          have qs : IntKind.i64.wrap ((S' (i + k) : Int) + (m : Int)) = (S' (i + k) : Int) + (m : Int) := by rw [IntKind.wrap_i64]; omega
          have q4 : (i : Int) + k < N := by omega
          have HO := hid hs.out.2.2
          have hcb : (S' (i + k) : Int) ≥ 0 := by omega
          clear hs hSb hmm a1 a2
          go_wp2_with fail
          go_region_with (first
            | (go_at_call_of 52 (Value.string x); go_must (refine (D1.out _).mono ?_; rintro e w1 ⟨rfl, rfl⟩))
            | (go_at_call_of 52 (Value.string y); go_must (refine (D2.out _).mono ?_; rintro e w1 ⟨rfl, rfl⟩)))
          all_goals
            go_wp2
            refine ⟨⟨k + 1, _, rfl, by omega, ⟨ST.out, ?_, ?_⟩⟩, by simp only [intOf]; omega⟩
            · have := RS.out
              rw [Int.natCast_add] at this
              exact this
            · have := HO.out.set (i + k) (.int .i64 ((S' (i + k) : Int) + (m : Int)))
              exact ⟨this.os, this.tape, this.output, this.size, this.block⟩
        · have hgk' : ¬ (k : Int) < y.size := by omega
          obtain rfl : k = y.size := by omega
          have hm : Hid (MoRel x.data.toList y.data.toList N (i + 1) S') := hs.out.1.outer
          go_wp2
          exact ⟨⟨i + 1, S', rfl, by omega, ⟨hm.out, hs.out.2⟩⟩, by simp only [intOf]; omega⟩
    · have hgo' : ¬ (i : Int) < x.size := by omega
      obtain rfl : i = x.size := by omega
      have hb : ∀ j, S j ≤ 8100000 := fun j => by have := hr.out.1.2 j; omega
      have hv : SV S N = dval x.data.toList * dval y.data.toList := by
        have := hr.out.1.1
        rw [low_all x.data.toList x.size (Nat.le_refl _)] at this
        exact this
      have HV := hid (And.intro hb hv)
      clear hb hv
      go_wp2
      go_loopw [8, 9, 10] (fun out cv iv wi => ∃ (i c : Nat) (L : List UInt8), cv = .int .i64 c ∧ iv = .int .i64 i ∧ c ≤ 8100000 ∧ i ≤ N ∧ Hid (CaRel S i c L ∧ OwB wi (g + 1) out L ∧ RowI wi g N S ∧ Below g w wi) ∧ g + 1 ≤ wi.heap.size) (fun _ _ iv _ => 500000 - (intOf iv).toNat)
      case atStart => exact ⟨0, 0, [], rfl, rfl, by omega, by omega, ⟨⟨(fun c hc => by simp at hc), rfl, by simp [lv, SV]⟩, World.ownsRow_nil _ _ _ _, hr.out.2.1, B0.out.trans (hr.out.2.2.below (Nat.le_refl _))⟩, by have := hr.out.2.2.size; omega⟩
      case round =>
        obtain ⟨i, c, L, rfl, rfl, hc, hi3, hq, hsz⟩ := hrel
        by_cases hgo2 : i < N
        · have hgo2' : (i : Int) < N := by omega
          have hcell := hq.out.2.2.1.cell hgo2
          have hSb := HV.out.1 i
          have ST := hid hq.out.1.step
          have OWN := hid hq.out.2.1
          have hL : L.length ≤ 400001 := by rw [hq.out.1.2.1]; omega
          have HN := hid (dig_nat (d := (S i + c) % 10) (by omega))
          have b1 : (S i : Int) ≤ 8100000 := by omega
          go_wp2_with (at_builtin; refine wpList_append_own _ rfl (.tmp 62) (.tmp 67) 89 rfl (g + 1) 5 i0 (.int .u8 0) 1 1 Tryz.underlying89 hi hz0 hz1 hz2 rfl (by decide) _ L.length (Lib.byteCells L) rfl (OWN.out.alloc _) ⟨wr.heap.size, 0, none⟩ 1 1 [.int .u8 (48 + ((S i : Int) + (c : Int)) % 10)] rfl rfl (cell_one_new _ _ _) (by intro u hu; simp at hu; subst hu; rfl) (by unfold maxLen; omega) (by omega) (by simp; omega) ?_; intro v' w3 own3 grow3 _)
          have ez : (48 + ((S i : Int) + (c : Int)) % 10) = ((UInt8.ofNat (48 + (S i + c) % 10)).toNat : Int) := by rw [HN.out]; omega
          rw [ez] at own3
          have hp := OwB.push OWN.out hsz rfl own3 grow3
          exact ⟨⟨i + 1, (S i + c) / 10, _, by congr 1, by congr 1, by omega, by omega, ⟨ST.out, hp.1, RowI.below hp.2.1 (by omega) hq.out.2.2.1, hq.out.2.2.2.trans (hp.2.1.mono (by omega))⟩, hp.2.2⟩, by simp only [intOf]; omega⟩
        · have hgo2' : ¬ (i : Int) < N := by omega
          obtain rfl : i = N := by omega
          have hv : lv L = dval x.data.toList * dval y.data.toList := by
            have h1 := hq.out.1
            have h2 := HV.out.2
            have l1 : x.data.toList.length = x.size := rfl
            have l2 : y.data.toList.length = y.size := rfl
            rw [hN, ← l1, ← l2] at h1 h2
            exact h1.done DX.out DY.out h2
          have HV2 := hid hv
          have HT := hid hq.out.2.1.bt
          have hL : L.length ≤ 400001 := by rw [hq.out.1.2.1]; omega
          clear hv
          go_wp2_with fail
          refine (turned_any _ L wr HT.out (by omega)).mono ?_
          rintro e w2 ⟨rfl, C2⟩
          go_wp2_with fail
          refine (strip_any _ w2 (by simp [ByteArray.size]; omega) (digs_rev hq.out.1.1)).mono ?_
          rintro e w3 ⟨rfl, rfl⟩
          rw [turn_strip, HV2.out]
          go_wp2
          go_ret
          exact ⟨rfl, by rw [hg]; exact hq.out.2.2.2.trans (C2.mono (by omega))⟩
end Go.Proofs.YtocfenjampmdlaaGreatDoor.B
