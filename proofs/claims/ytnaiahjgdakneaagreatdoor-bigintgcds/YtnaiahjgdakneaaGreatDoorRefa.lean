/- The document's answer, by decimal digits: 'digit' and 'strip' of the package vinculumref01. -/
import Derived.Test.YtnaiahjgdakneaaGreatDoorRep
namespace Go.Proofs.YtnaiahjgdakneaaGreatDoor
open Go.RowKit Num
open Go.Lib (decDigits)

/-- the number of digits, the lowest one first. -/
def lv : List UInt8 → Nat
  | [] => 0
  | c :: t => (c.toNat - 48) + 10 * lv t
theorem dval_reverse : ∀ l, dval l.reverse = lv l
  | [] => by simp [dval, lv]
  | c :: t => by rw [List.reverse_cons, dval_snoc, dval_reverse t, lv]; omega
theorem lv_snoc : ∀ (l : List UInt8) (c : UInt8), lv (l ++ [c]) = lv l + 10 ^ l.length * (c.toNat - 48)
  | [], c => by simp [lv]
  | d :: t, c => by
    rw [List.cons_append, lv, lv_snoc t c, lv, List.length_cons, Nat.pow_succ]
    generalize 10 ^ t.length = p
    generalize c.toNat - 48 = r
    have : p * 10 * r = 10 * (p * r) := by grind
    omega
theorem lv_reverse (l : List UInt8) : lv l.reverse = dval l := by rw [← dval_reverse, List.reverse_reverse]
theorem dig_back {c : UInt8} (h : 48 ≤ c.toNat) : UInt8.ofNat (48 + (c.toNat - 48)) = c := by
  rw [show 48 + (c.toNat - 48) = c.toNat by omega]; simp
theorem canon (l : List UInt8) : Digs l → l ≠ [] → (l.length = 1 ∨ ∃ c t, l = c :: t ∧ c.toNat ≠ 48) → decDigits (dval l) = l := by
  refine rev_ind (P := fun l => Digs l → l ≠ [] → (l.length = 1 ∨ ∃ c t, l = c :: t ∧ c.toNat ≠ 48) → decDigits (dval l) = l) (fun _ h => absurd rfl h) (fun t c ih hd _ hh => ?_) l
  have hc := hd c (by simp)
  have hv := dval_snoc t c
  by_cases ht : t = []
  · subst ht
    have : dval ([] : List UInt8) = 0 := rfl
    rw [hv, this, dec_small (by omega), Nat.mul_zero, Nat.zero_add, dig_back hc.1]; rfl
  · have hlen : 0 < t.length := List.length_pos_iff.2 ht
    have hh' : ∃ c t', t = c :: t' ∧ c.toNat ≠ 48 := by
      rcases hh with h | ⟨d, s, e, hd⟩
      · rw [List.length_append, List.length_singleton] at h; omega
      · cases t with
        | nil => exact absurd rfl ht
        | cons d' t' => rw [List.cons_append] at e; obtain ⟨rfl, _⟩ := List.cons.inj e; exact ⟨d', t', rfl, hd⟩
    have h1 := ih (fun x hx => hd x (by simp [hx])) ht (Or.inr hh')
    have h0 : dval t ≠ 0 := by
      intro e
      rw [e, dec_small (by decide)] at h1
      obtain ⟨d, s, e', hd'⟩ := hh'
      rw [e'] at h1
      obtain ⟨e2, _⟩ := List.cons.inj h1
      rw [← e2] at hd'
      exact hd' (by decide)
    rw [decDigits_big (by omega), show dval (t ++ [c]) / 10 = dval t by omega, h1, show dval (t ++ [c]) % 10 = c.toNat - 48 by omega, dig_back hc.1]
theorem dval_zero_cons (l : List UInt8) : dval (48 :: l) = dval l := by
  have := dval_append [48] l
  rw [List.singleton_append] at this
  rw [this]
  simp [dval]

/-- the digit at a place from the end. -/
def dg (l : List UInt8) (i : Nat) : Nat := (l.reverse.getD i 48).toNat - 48
/-- what the lowest i digits say. -/
def low (l : List UInt8) (i : Nat) : Nat := lv (l.reverse.take i)
theorem low_succ (l : List UInt8) (i : Nat) : low l (i + 1) = low l i + 10 ^ i * dg l i := by
  unfold low dg
  by_cases h : i < l.reverse.length
  · rw [List.take_succ_eq_append_getElem h, lv_snoc, List.length_take, Nat.min_eq_left (by omega), List.getD_eq_getElem?_getD, List.getElem?_eq_getElem h]; rfl
  · rw [List.take_of_length_le (by omega), List.take_of_length_le (by omega), List.getD_eq_getElem?_getD, List.getElem?_eq_none (by omega)]; simp
theorem low_all (l : List UInt8) (i : Nat) (h : l.length ≤ i) : low l i = dval l := by
  unfold low
  rw [List.take_of_length_le (by simpa using h), lv_reverse]
theorem dg_le (l : List UInt8) (hd : Digs l) (i : Nat) : dg l i ≤ 9 := by
  unfold dg
  by_cases h : i < l.reverse.length
  · rw [List.getD_eq_getElem?_getD, List.getElem?_eq_getElem h]
    have := hd l.reverse[i] (List.mem_reverse.1 (List.getElem_mem h))
    simp only [Option.getD_some]; omega
  · rw [List.getD_eq_getElem?_getD, List.getElem?_eq_none (by omega)]; simp
theorem dg_at (s : ByteArray) (i : Nat) (h : i < s.size) : dg s.data.toList i = (s[s.size - 1 - i]'(by omega)).toNat - 48 := by
  unfold dg
  have hl : s.data.toList.length = s.size := rfl
  rw [List.getD_eq_getElem?_getD, List.getElem?_reverse (by omega), hl, List.getElem?_eq_getElem (by omega)]
  rfl
theorem dg_over (s : ByteArray) (i : Nat) (h : s.size ≤ i) : dg s.data.toList i = 0 := by
  unfold dg
  have hl : s.data.toList.length = s.size := rfl
  rw [List.getD_eq_getElem?_getD, List.getElem?_eq_none (by rw [List.length_reverse]; omega)]; simp
theorem digs_at {s : ByteArray} (h : Digs s.data.toList) {j : Nat} (hj : j < s.size) : 48 ≤ s[j].toNat ∧ s[j].toNat ≤ 57 :=
  h s[j] (by have : s[j] = s.data.toList[j]'(by simpa using hj) := rfl
             rw [this]; exact List.getElem_mem _)

set_option maxHeartbeats 800000 in
set_option maxRecDepth 100000 in
theorem digit_any (s : ByteArray) (i : Nat) (w : World) (hs : s.size ≤ 1000000) (hi : i ≤ 1000000) (hd : Digs s.data.toList) :
    Calls Tryz.prog 74 #[.string s, .int .i64 i] w fun e w' => e = .returned (.int .i64 (dg s.data.toList i)) ∧ w' = w := by
  by_cases h : i < s.size
  · have e := dg_at s i h
    obtain ⟨h1, h2⟩ := digs_at hd (show s.size - 1 - i < s.size by omega)
    have i1 : (48 : Int) ≤ (s[s.size - 1 - i].toNat : Int) := by omega
    have i2 : (s[s.size - 1 - i].toNat : Int) ≤ 57 := by omega
    have ii : (i : Int) < s.size := by omega
    have E := hid e
    clear e hd
    go_enter Tryz.func74, Tryz.ntmps74
    go_wp2
    go_ret
    refine ⟨?_, rfl⟩
    rw [E.out]
    show Ending.returned (Value.int .i64 ((s[s.size - 1 - i].toNat : Int) - 48)) = _
    rw [show ((s[s.size - 1 - i].toNat - 48 : Nat) : Int) = (s[s.size - 1 - i].toNat : Int) - 48 by omega]
  · have e := dg_over s i (by omega)
    have ii : ¬ (i : Int) < s.size := by omega
    rw [e]
    clear e hd
    go_enter Tryz.func74, Tryz.ntmps74
    go_wp2
    go_ret
    exact ⟨rfl, rfl⟩

/-- the text of a number's digits. -/
def dt (n : Nat) : ByteArray := ⟨(decDigits n).toArray⟩
theorem dt_list (n : Nat) : (dt n).data.toList = decDigits n := rfl
theorem bytes_eq {a b : ByteArray} (h : a.data.toList = b.data.toList) : a = b := by
  cases a with | mk x => cases b with | mk y => cases x; cases y; simp at h; subst h; rfl
theorem strip_end {t : ByteArray} (hd : Digs t.data.toList) (h0 : 0 < t.size) (h : t.size = 1 ∨ t[0].toNat ≠ 48) : t = dt (dval t.data.toList) := by
  refine bytes_eq ?_
  rw [dt_list]
  have hl : t.data.toList.length = t.size := rfl
  refine (canon _ hd (fun e => by rw [e] at hl; simp at hl; omega) ?_).symm
  rcases h with h | h
  · left; omega
  · right
    cases hc : t.data.toList with
    | nil => rw [hc] at hl; simp at hl; omega
    | cons c l =>
      refine ⟨c, l, rfl, ?_⟩
      have : t[0] = t.data.toList[0]'(by omega) := rfl
      rw [this] at h
      simp only [hc, List.getElem_cons_zero] at h
      exact h
theorem strip_step {t t2 : ByteArray} (h : t[0]? = some 48) (e : t2.data.toList = t.data.toList.drop 1) : dval t2.data.toList = dval t.data.toList := by
  rw [e]
  cases hc : t.data.toList with
  | nil => rfl
  | cons c l =>
    have : t[0]? = t.data.toList[0]? := by simp [getElem?_def]; rfl
    rw [this, hc] at h
    simp at h
    subst h
    rw [List.drop_one, List.tail_cons, dval_zero_cons]

set_option maxHeartbeats 800000 in
set_option maxRecDepth 100000 in
theorem strip_any (s : ByteArray) (w : World) (hs : s.size ≤ 1000000) (hd : Digs s.data.toList) :
    Calls Tryz.prog 33 #[.string s] w fun e w' => e = .returned (.string (dt (dval s.data.toList))) ∧ w' = w := by
  have HD := hid hd
  clear hd
  go_enter Tryz.func33, Tryz.ntmps33
  go_wp2
  go_loop [0] (fun v => ∃ t : ByteArray, v = .string t ∧ t.size ≤ 1000000 ∧ Hid (Digs t.data.toList ∧ dval t.data.toList = dval s.data.toList)) (fun v => szOf v)
  case atStart => exact ⟨s, rfl, hs, ⟨HD.out, rfl⟩⟩
  case round =>
    obtain ⟨t, rfl, ht, hr⟩ := hrel
    by_cases h1 : 1 < t.size
    · have h1' : (1 : Int) < (t.size : Int) := by omega
      have hpos : 0 < t.size := by omega
      have he : t.toList.isEmpty = false := by
        rw [Bool.eq_false_iff]; intro h; rw [List.isEmpty_iff] at h; have := toList_len t; rw [h] at this; simp at this; omega
      by_cases h2 : t[0].toNat = 48
      · have h2' : ((t[0].toNat : Int) == 48) = true := by simp; omega
        have hst := strip_step (t2 := t.extract 1 t.size) (by rw [getElem?_pos t 0 hpos]; congr 1; exact UInt8.toNat_inj.1 h2) (ext_drop t 1)
        have hsz : (t.extract 1 t.size).size = t.size - 1 := by
          have h := ext_drop t 1
          have h3 : (t.extract 1 t.size).data.toList.length = (t.extract 1 t.size).size := rfl
          rw [← h3, h, List.length_drop]; rfl
        have HS := hid (And.intro (fun c hc => hr.out.1 c (List.mem_of_mem_drop (by rw [ext_drop] at hc; exact hc)) : Digs (t.extract 1 t.size).data.toList) (hst.trans hr.out.2))
        clear hst hr he h2
        go_wp2
        exact ⟨⟨_, rfl, by omega, HS.out⟩, by simp only [szOf]; omega⟩
      · have h2' : ((t[0].toNat : Int) == 48) = false := by simp; omega
        have hE := hid (strip_end hr.out.1 hpos (Or.inr h2))
        clear h2
        go_wp2
        go_ret
        exact ⟨by rw [← hr.out.2, ← hE.out]; rfl, rfl⟩
    · have h1' : ¬ (1 : Int) < (t.size : Int) := by omega
      by_cases h0 : t.size = 0
      · have he : t.toList.isEmpty = true := by rw [List.isEmpty_iff]; exact List.eq_nil_of_length_eq_zero (by rw [toList_len]; exact h0)
        go_wp2
        go_ret
        refine ⟨?_, rfl⟩
        have e0 : t.data.toList = [] := List.eq_nil_of_length_eq_zero h0
        rw [← hr.out.2, e0]
        show Ending.returned (Value.string ⟨#[48]⟩) = _
        rw [show (⟨#[48]⟩ : ByteArray) = dt (dval []) from bytes_eq (by rw [dt_list]; show [48] = decDigits 0; rw [dec_small (by decide)]; rfl)]
      · have he : t.toList.isEmpty = false := by
          rw [Bool.eq_false_iff]; intro h; rw [List.isEmpty_iff] at h; have := toList_len t; rw [h] at this; simp at this; omega
        have hE := hid (strip_end hr.out.1 (by omega) (Or.inl (by omega)))
        go_wp2
        go_ret
        exact ⟨by rw [← hr.out.2, ← hE.out]; rfl, rfl⟩
end Go.Proofs.YtnaiahjgdakneaaGreatDoor
