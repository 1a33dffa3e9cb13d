/- Which texts are numbers, after the reference of layer 1. -/
import Derived.Test.YtnaiahjgdakneaaDoorRep
namespace Go.Proofs.YtnaiahjgdakneaaDoor
open Go.RowKit Num
open Go.Lib (decDigits)
/-- the number of digits, the lowest one first. -/
def lv : List UInt8 → Nat
  | [] => 0
  | c :: t => (c.toNat - 48) + 10 * lv t
theorem dval_reverse : ∀ l, dval l.reverse = lv l
  | [] => by simp [dval, lv]
  | c :: t => by rw [List.reverse_cons, dval_snoc, dval_reverse t, lv]; omega
theorem lv_snoc : ∀ (l : List UInt8) (c : UInt8), lv (l ++ [c]) = lv l + 10 ^ l.length * (c.toNat - 48)
  | [], c => by simp [lv]
  | d :: t, c => by
    rw [List.cons_append, lv, lv_snoc t c, lv, List.length_cons, Nat.pow_succ]
    generalize 10 ^ t.length = p
    generalize c.toNat - 48 = r
    have : p * 10 * r = 10 * (p * r) := by grind
    omega
theorem lv_reverse (l : List UInt8) : lv l.reverse = dval l := by rw [← dval_reverse, List.reverse_reverse]
theorem dig_back {c : UInt8} (h : 48 ≤ c.toNat) : UInt8.ofNat (48 + (c.toNat - 48)) = c := by
  rw [show 48 + (c.toNat - 48) = c.toNat by omega]; simp
theorem canon (l : List UInt8) : Digs l → l ≠ [] → (l.length = 1 ∨ ∃ c t, l = c :: t ∧ c.toNat ≠ 48) → decDigits (dval l) = l := by
  refine rev_ind (P := fun l => Digs l → l ≠ [] → (l.length = 1 ∨ ∃ c t, l = c :: t ∧ c.toNat ≠ 48) → decDigits (dval l) = l) (fun _ h => absurd rfl h) (fun t c ih hd _ hh => ?_) l
  have hc := hd c (by simp)
  have hv := dval_snoc t c
  by_cases ht : t = []
  · subst ht
    have : dval ([] : List UInt8) = 0 := rfl
    rw [hv, this, dec_small (by omega), Nat.mul_zero, Nat.zero_add, dig_back hc.1]; rfl
  · have hlen : 0 < t.length := List.length_pos_iff.2 ht
    have hh' : ∃ c t', t = c :: t' ∧ c.toNat ≠ 48 := by
      rcases hh with h | ⟨d, s, e, hd⟩
      · rw [List.length_append, List.length_singleton] at h; omega
      · cases t with
        | nil => exact absurd rfl ht
        | cons d' t' => rw [List.cons_append] at e; obtain ⟨rfl, _⟩ := List.cons.inj e; exact ⟨d', t', rfl, hd⟩
    have h1 := ih (fun x hx => hd x (by simp [hx])) ht (Or.inr hh')
    have h0 : dval t ≠ 0 := by
      intro e
      rw [e, dec_small (by decide)] at h1
      obtain ⟨d, s, e', hd'⟩ := hh'
      rw [e'] at h1
      obtain ⟨e2, _⟩ := List.cons.inj h1
      rw [← e2] at hd'
      exact hd' (by decide)
    rw [decDigits_big (by omega), show dval (t ++ [c]) / 10 = dval t by omega, h1, show dval (t ++ [c]) % 10 = c.toNat - 48 by omega, dig_back hc.1]
theorem dval_zero_cons (l : List UInt8) : dval (48 :: l) = dval l := by
  have := dval_append [48] l
  rw [List.singleton_append] at this
  rw [this]
  simp [dval]
/-- the text of a number's digits. -/
def dt (n : Nat) : ByteArray := ⟨(decDigits n).toArray⟩
theorem dt_list (n : Nat) : (dt n).data.toList = decDigits n := rfl
theorem bytes_eq {a b : ByteArray} (h : a.data.toList = b.data.toList) : a = b := by
  cases a with | mk x => cases b with | mk y => cases x; cases y; simp at h; subst h; rfl
theorem strip_end {t : ByteArray} (hd : Digs t.data.toList) (h0 : 0 < t.size) (h : t.size = 1 ∨ t[0].toNat ≠ 48) : t = dt (dval t.data.toList) := by
  refine bytes_eq ?_
  rw [dt_list]
  have hl : t.data.toList.length = t.size := rfl
  refine (canon _ hd (fun e => by rw [e] at hl; simp at hl; omega) ?_).symm
  rcases h with h | h
  · left; omega
  · right
    cases hc : t.data.toList with
    | nil => rw [hc] at hl; simp at hl; omega
    | cons c l =>
      refine ⟨c, l, rfl, ?_⟩
      have : t[0] = t.data.toList[0]'(by omega) := rfl
      rw [this] at h
      simp only [hc, List.getElem_cons_zero] at h
      exact h
/-- what "Parse" of the reference answers. -/
def Code (s : ByteArray) (c : Int) : Prop := (¬ IsNum s ∧ c = 16) ∨ (IsNum s ∧ 20000 < s.size ∧ c = 13) ∨ (IsNum s ∧ s.size ≤ 20000 ∧ c = 0)
theorem empty_yes {s : ByteArray} (h : s.size = 0) : s.toList.isEmpty = true := by rw [List.isEmpty_iff]; exact List.eq_nil_of_length_eq_zero (by rw [toList_len]; exact h)
theorem empty_no {s : ByteArray} (h : 0 < s.size) : s.toList.isEmpty = false := by
  rw [Bool.eq_false_iff]; intro e; rw [List.isEmpty_iff] at e; have := toList_len s; rw [e] at this; simp at this; omega
theorem one_zero {s : ByteArray} (h : s.size = 1) (h0 : s[0].toNat = 48) : s.toList = [48] := by
  rw [toList_eq]
  have hl : s.data.toList.length = s.size := rfl
  match e : s.data.toList with
  | [] => rw [e] at hl; simp at hl; omega
  | [c] =>
    have : s[0] = s.data.toList[0]'(by omega) := rfl
    rw [this] at h0
    simp only [e, List.getElem_cons_zero] at h0
    congr 1
    exact UInt8.toNat_inj.1 h0
  | _ :: _ :: _ => rw [e] at hl; simp at hl; omega
theorem num_pos {s : ByteArray} (h : IsNum s) : 0 < s.size := by
  rcases h.2 with e | ⟨h, _⟩
  · have := toList_len s; rw [e] at this; simp at this; omega
  · exact h
theorem num_head {s : ByteArray} (h : IsNum s) (h1 : 1 < s.size) : s[0].toNat ≠ 48 := by
  rcases h.2 with e | ⟨_, h⟩
  · have := toList_len s; rw [e] at this; simp at this; omega
  · exact h
theorem num_text {s : ByteArray} (h : IsNum s) : s = dt (dval s.data.toList) := by
  have hp := num_pos h
  refine strip_end (hid_digs h) hp ?_
  by_cases h1 : s.size = 1
  · exact Or.inl h1
  · exact Or.inr (num_head h (by omega))
set_option maxHeartbeats 1600000 in
set_option maxRecDepth 100000 in
theorem rparse_any (s : ByteArray) (w : World) (hs : s.size ≤ 1000000) :
    Calls Tryd.prog 23 #[.string s] w fun e w' => (∃ c, e = .returned (.int .i64 c) ∧ Code s c) ∧ w' = w := by
  by_cases hz : s.size = 0
  · have he := empty_yes hz
    have hn : ¬ IsNum s := fun h => by have := num_pos h; omega
    have HN := hid hn
    clear hn
    go_enter Tryd.func23, Tryd.ntmps23
    go_wp2
    go_ret
    exact ⟨⟨_, rfl, Or.inl ⟨HN.out, rfl⟩⟩, rfl⟩
  · have hpos : 0 < s.size := by omega
    have he := empty_no hpos
    by_cases hb : 1 < s.size ∧ s[0].toNat = 48
    · have hn : ¬ IsNum s := fun h => num_head h hb.1 hb.2
      have HN := hid hn
      have b1 : (1 : Int) < s.size := by omega
      have b2 : ((s[0].toNat : Int) == 48) = true := by simp; omega
      clear hn hb
      go_enter Tryd.func23, Tryd.ntmps23
      go_wp2
      go_ret
      exact ⟨⟨_, rfl, Or.inl ⟨HN.out, rfl⟩⟩, rfl⟩
    · have hh : (∀ j (h : j < s.size), 48 ≤ s[j].toNat ∧ s[j].toNat ≤ 57) → IsNum s := fun hall => by
        refine ⟨hall, ?_⟩
        by_cases h48 : s[0].toNat = 48
        · exact Or.inl (one_zero (by omega) h48)
        · exact Or.inr ⟨hpos, h48⟩
      have HH := hid hh
      have HC : decide ((1 : Int) < s.size) = false ∨ (decide ((1 : Int) < s.size) = true ∧ ((s[0].toNat : Int) == 48) = false) := by
        by_cases h1 : 1 < s.size
        · exact Or.inr ⟨by simp; omega, by simp; omega⟩
        · exact Or.inl (by simp; omega)
      clear hh hb
      go_enter Tryd.func23, Tryd.ntmps23
      rcases HC with b1 | ⟨b1, b2⟩
      all_goals
        go_wp2
        go_loop [3] (fun i => ∃ k : Nat, k ≤ s.size ∧ i = .int .i64 k ∧ Hid (∀ j (h : j < s.size), j < k → 48 ≤ s[j].toNat ∧ s[j].toNat ≤ 57)) (fun i => s.size - (intOf i).toNat)
        case atStart => exact ⟨0, Nat.zero_le _, rfl, fun j _ h => absurd h (by omega)⟩
        case round =>
          obtain ⟨k, hk, rfl, hr⟩ := hrel
          by_cases hlt : k < s.size
          · by_cases h1 : s[k].toNat < 48
            · have h1' : (s[k].toNat : Int) < 48 := by omega
              go_wp2
              go_ret
              exact ⟨⟨_, rfl, Or.inl ⟨fun h => by have := h.1 k hlt; omega, rfl⟩⟩, rfl⟩
            · have h1' : ¬ (s[k].toNat : Int) < 48 := by omega
              by_cases h2 : 57 < s[k].toNat
              · have h2' : (57 : Int) < s[k].toNat := by omega
                go_wp2
                go_ret
                exact ⟨⟨_, rfl, Or.inl ⟨fun h => by have := h.1 k hlt; omega, rfl⟩⟩, rfl⟩
              · have h2' : ¬ (57 : Int) < s[k].toNat := by omega
                go_wp2
                refine ⟨⟨k + 1, by omega, by go_num, fun j hj hjk => ?_⟩, by simp [intOf]; omega⟩
                by_cases e : j = k
                · subst e; omega
                · exact hr.out j hj (by omega)
          · have HA := hid (HH.out (fun j h => hr.out j h (by omega)))
            clear hr
            by_cases hb : 20000 < s.size
            · have hb' : (20000 : Int) < s.size := by omega
              go_wp2
              go_ret
              exact ⟨⟨_, rfl, Or.inr (Or.inl ⟨HA.out, hb, rfl⟩)⟩, rfl⟩
            · have hb' : ¬ (20000 : Int) < s.size := by omega
              go_wp2
              go_ret
              exact ⟨⟨_, rfl, Or.inr (Or.inr ⟨HA.out, by omega, rfl⟩)⟩, rfl⟩
end Go.Proofs.YtnaiahjgdakneaaDoor
