/- The walk of 'NatTexts': it answers true, and writes into nothing that was there. -/
import Derived.Test.YtnoeclmccbhkmaaDoorRefp
import Derived.Test.YtnoeclmccbhkmaaDoorAwk
namespace Go.Proofs.YtnoeclmccbhkmaaDoor
open Go.RowKit Num
open Go.Lib (decDigits)

/-- what "Parse" of the reference answers. -/
def Code (s : ByteArray) (c : Int) : Prop := (¬ IsNum s ∧ c = 16) ∨ (IsNum s ∧ 20000 < s.size ∧ c = 13) ∨ (IsNum s ∧ s.size ≤ 20000 ∧ c = 0)
theorem empty_yes {s : ByteArray} (h : s.size = 0) : s.toList.isEmpty = true := by rw [List.isEmpty_iff]; exact List.eq_nil_of_length_eq_zero (by rw [toList_len]; exact h)
theorem empty_no {s : ByteArray} (h : 0 < s.size) : s.toList.isEmpty = false := by
  rw [Bool.eq_false_iff]; intro e; rw [List.isEmpty_iff] at e; have := toList_len s; rw [e] at this; simp at this; omega
theorem one_zero {s : ByteArray} (h : s.size = 1) (h0 : s[0].toNat = 48) : s.toList = [48] := by
  rw [toList_eq]
  have hl : s.data.toList.length = s.size := rfl
  match e : s.data.toList with
  | [] => rw [e] at hl; simp at hl; omega
  | [c] =>
    have : s[0] = s.data.toList[0]'(by omega) := rfl
    rw [this] at h0
    simp only [e, List.getElem_cons_zero] at h0
    congr 1
    exact UInt8.toNat_inj.1 h0
  | _ :: _ :: _ => rw [e] at hl; simp at hl; omega
theorem num_pos {s : ByteArray} (h : IsNum s) : 0 < s.size := by
  rcases h.2 with e | ⟨h, _⟩
  · have := toList_len s; rw [e] at this; simp at this; omega
  · exact h
theorem num_head {s : ByteArray} (h : IsNum s) (h1 : 1 < s.size) : s[0].toNat ≠ 48 := by
  rcases h.2 with e | ⟨_, h⟩
  · have := toList_len s; rw [e] at this; simp at this; omega
  · exact h
theorem num_text {s : ByteArray} (h : IsNum s) : s = dt (dval s.data.toList) := by
  have hp := num_pos h
  refine strip_end (hid_digs h) hp ?_
  by_cases h1 : s.size = 1
  · exact Or.inl h1
  · exact Or.inr (num_head h (by omega))
set_option maxHeartbeats 1600000 in
set_option maxRecDepth 100000 in
theorem rparse_any (s : ByteArray) (w : World) (hs : s.size ≤ 1000000) :
    Calls Tryd.prog 36 #[.string s] w fun e w' => (∃ c, e = .returned (.int .i64 c) ∧ Code s c) ∧ w' = w := by
  by_cases hz : s.size = 0
  · have he := empty_yes hz
    have hn : ¬ IsNum s := fun h => by have := num_pos h; omega
    have HN := hid hn
    clear hn
    go_enter Tryd.func36, Tryd.ntmps36
    go_wp2
    go_ret
    exact ⟨⟨_, rfl, Or.inl ⟨HN.out, rfl⟩⟩, rfl⟩
  · have hpos : 0 < s.size := by omega
    have he := empty_no hpos
    by_cases hb : 1 < s.size ∧ s[0].toNat = 48
    · have hn : ¬ IsNum s := fun h => num_head h hb.1 hb.2
      have HN := hid hn
      have b1 : (1 : Int) < s.size := by omega
      have b2 : ((s[0].toNat : Int) == 48) = true := by simp; omega
      clear hn hb
      go_enter Tryd.func36, Tryd.ntmps36
      go_wp2
      go_ret
      exact ⟨⟨_, rfl, Or.inl ⟨HN.out, rfl⟩⟩, rfl⟩
    · have hh : (∀ j (h : j < s.size), 48 ≤ s[j].toNat ∧ s[j].toNat ≤ 57) → IsNum s := fun hall => by
        refine ⟨hall, ?_⟩
        by_cases h48 : s[0].toNat = 48
        · exact Or.inl (one_zero (by omega) h48)
        · exact Or.inr ⟨hpos, h48⟩
      have HH := hid hh
      have HC : decide ((1 : Int) < s.size) = false ∨ (decide ((1 : Int) < s.size) = true ∧ ((s[0].toNat : Int) == 48) = false) := by
        by_cases h1 : 1 < s.size
        · exact Or.inr ⟨by simp; omega, by simp; omega⟩
        · exact Or.inl (by simp; omega)
      clear hh hb
      go_enter Tryd.func36, Tryd.ntmps36
      rcases HC with b1 | ⟨b1, b2⟩
      all_goals
        go_wp2
        go_loop [3] (fun i => ∃ k : Nat, k ≤ s.size ∧ i = .int .i64 k ∧ Hid (∀ j (h : j < s.size), j < k → 48 ≤ s[j].toNat ∧ s[j].toNat ≤ 57)) (fun i => s.size - (intOf i).toNat)
        case atStart => exact ⟨0, Nat.zero_le _, rfl, fun j _ h => absurd h (by omega)⟩
        case round =>
          obtain ⟨k, hk, rfl, hr⟩ := hrel
          by_cases hlt : k < s.size
          · by_cases h1 : s[k].toNat < 48
            · have h1' : (s[k].toNat : Int) < 48 := by omega
              go_wp2
              go_ret
              exact ⟨⟨_, rfl, Or.inl ⟨fun h => by have := h.1 k hlt; omega, rfl⟩⟩, rfl⟩
            · have h1' : ¬ (s[k].toNat : Int) < 48 := by omega
              by_cases h2 : 57 < s[k].toNat
              · have h2' : (57 : Int) < s[k].toNat := by omega
                go_wp2
                go_ret
                exact ⟨⟨_, rfl, Or.inl ⟨fun h => by have := h.1 k hlt; omega, rfl⟩⟩, rfl⟩
              · have h2' : ¬ (57 : Int) < s[k].toNat := by omega
                go_wp2
                refine ⟨⟨k + 1, by omega, by go_num, fun j hj hjk => ?_⟩, by simp [intOf]; omega⟩
                by_cases e : j = k
                · subst e; omega
                · exact hr.out j hj (by omega)
          · have HA := hid (HH.out (fun j h => hr.out j h (by omega)))
            clear hr
            by_cases hb : 20000 < s.size
            · have hb' : (20000 : Int) < s.size := by omega
              go_wp2
              go_ret
              exact ⟨⟨_, rfl, Or.inr (Or.inl ⟨HA.out, hb, rfl⟩)⟩, rfl⟩
            · have hb' : ¬ (20000 : Int) < s.size := by omega
              go_wp2
              go_ret
              exact ⟨⟨_, rfl, Or.inr (Or.inr ⟨HA.out, by omega, rfl⟩)⟩, rfl⟩
theorem rparse_no (s : ByteArray) (w : World) (hs : s.size ≤ 1000000) (h : ¬ IsNum s) :
    Calls Tryd.prog 36 #[.string s] w fun e w' => e = .returned (.int .i64 16) ∧ w' = w := by
  refine (rparse_any s w hs).mono ?_
  rintro e w' ⟨⟨c, rfl, h1 | h1 | h1⟩, rfl⟩
  · rw [h1.2]; exact ⟨rfl, rfl⟩
  · exact absurd h1.1 h
  · exact absurd h1.1 h
theorem rparse_yes (s : ByteArray) (w : World) (hs : s.size ≤ 20000) (h : IsNum s) :
    Calls Tryd.prog 36 #[.string s] w fun e w' => e = .returned (.int .i64 0) ∧ w' = w := by
  refine (rparse_any s w (by omega)).mono ?_
  rintro e w' ⟨⟨c, rfl, h1 | h1 | h1⟩, rfl⟩
  · exact absurd h h1.1
  · exact absurd h1.2.1 (by omega)
  · rw [h1.2.2]; exact ⟨rfl, rfl⟩
theorem rparse_long (s : ByteArray) (w : World) (hl : 20000 < s.size) (hs : s.size ≤ 1000000) (h : IsNum s) :
    Calls Tryd.prog 36 #[.string s] w fun e w' => e = .returned (.int .i64 13) ∧ w' = w := by
  refine (rparse_any s w (by omega)).mono ?_
  rintro e w' ⟨⟨c, rfl, h1 | h1 | h1⟩, rfl⟩
  · exact absurd h h1.1
  · rw [h1.2.2]; exact ⟨rfl, rfl⟩
  · exact absurd h1.2.1 (by omega)
set_option maxHeartbeats 800000 in
set_option maxRecDepth 100000 in
theorem parse_long (s : ByteArray) (w : World) (hl : 20000 < s.size) (hs : s.size ≤ 1000000) (h : IsNum s) :
    Calls Tryd.prog 35 #[.string s] w fun e w' => e = .returned (.tuple #[.slice none 0 0, .int .i64 13]) ∧ w' = w := by
  have H := hid h
  clear h
  have hl' : (20000 : Int) < s.size := by omega
  go_enter Tryd.func35, Tryd.ntmps35
  go_wp2_with fail
  refine (isNumber_any s w (by omega)).mono ?_
  rintro e w1 ⟨⟨b, rfl, hb⟩, rfl⟩
  have hb' : b = true := hb.2 H.out
  subst hb'
  clear hb
  go_wp2
  go_ret2
  exact ⟨rfl, rfl⟩
theorem print_dt (v : Value) (n : Nat) (A : Nat) (w : World) (h : Nt w v n A) (hn : n ≤ 1000000) (ht : Tab w) :
    Calls Tryd.prog 34 #[v] w fun e w' => e = .returned (.string (dt A)) ∧ Below w.heap.size w w' := print_any v n A w h hn ht
theorem is_txt (v : Value) (k : Nat) (s : ByteArray) (w : World) (h : Nz w v k (dval s.data.toList)) (hk : k ≤ 1000) (hs : IsNum s) :
    Calls Tryd.prog 12 #[v, .string s] w fun e w' => e = .returned (.bool true) ∧ Below w.heap.size w w' := by
  have := is_any v k _ _ w h hk rfl
  rwa [← num_text hs] at this
set_option maxHeartbeats 3200000 in
set_option maxRecDepth 100000 in
theorem txts_no1 (vx : Value) (s : ByteArray) (n u : Nat) (w : World) (hx : Nt w vx n u) (ht : Tab w) (hn : n ≤ 12) (h3 : s.size ≤ 300) (hs : ¬ IsNum s) :
    Calls Tryd.prog 8 #[vx, .string s] w fun e w' => e = .returned (.bool true) ∧ Below w.heap.size w w' := by
  have HX := hid hx
  have HT := hid ht
  have HS := hid hs
  obtain ⟨ao, ca, rfl⟩ := hx.shape
  have n1 : ¬ (12 : Int) < n := by omega
  have n2 : ¬ (20010 : Int) < s.size := by omega
  have n3 : ¬ (300 : Int) < s.size := by omega
  clear hx ht hs
  go_enter Tryd.func8, Tryd.ntmps8
  go_wp2_with fail
  refine (print_dt _ n u _ HX.out (by omega) HT.out).mono ?_
  rintro e w1 ⟨rfl, C1⟩
  replace HX := hid (HX.out.below C1)
  replace HT := hid (HT.out.below C1 HT.out.lt)
  have T0 : Below w.heap.size w w1 := C1
  clear C1
  go_wp2_with fail
  refine (of_any _ n u _ HX.out (by omega)).mono ?_
  rintro e w2 ⟨rfl, C2⟩
  rw [Int.toNat_natCast]
  clear HX
  replace HT := hid (HT.out.below C2 HT.out.lt)
  replace T0 : Below w.heap.size w w2 := T0.trans (C2.mono T0.size)
  clear C2
  go_wp2_with fail
  refine (parse_no s _ (by omega) HS.out).mono ?_
  rintro e w3 ⟨rfl, hwc⟩
  have C3 : Below w2.heap.size w2 w3 := by rw [hwc]; exact Below.refl _ _
  clear hwc
  replace HT := hid (HT.out.below C3 HT.out.lt)
  replace T0 : Below w.heap.size w w3 := T0.trans (C3.mono T0.size)
  clear C3
  go_wp2_with fail
  refine (rparse_no s _ (by omega) HS.out).mono ?_
  rintro e w4 ⟨rfl, hwc⟩
  have C4 : Below w3.heap.size w3 w4 := by rw [hwc]; exact Below.refl _ _
  clear hwc
  replace HT := hid (HT.out.below C4 HT.out.lt)
  replace T0 : Below w.heap.size w w4 := T0.trans (C4.mono T0.size)
  clear C4
  go_wp2_with fail
  refine (awake_any _ HT.out).mono ?_
  rintro e w5 ⟨rfl, C5⟩
  replace HT := hid (HT.out.below C5 HT.out.lt)
  replace T0 : Below w.heap.size w w5 := T0.trans (C5.mono T0.size)
  clear C5
  go_wp2
  go_ret
  exact ⟨rfl, T0⟩
set_option maxHeartbeats 3200000 in
set_option maxRecDepth 100000 in
theorem txts_no2 (vx : Value) (s : ByteArray) (n u : Nat) (w : World) (hx : Nt w vx n u) (ht : Tab w) (hn : n ≤ 12) (h3 : 20000 < s.size) (h4 : s.size ≤ 20010) (hs : ¬ IsNum s) :
    Calls Tryd.prog 8 #[vx, .string s] w fun e w' => e = .returned (.bool true) ∧ Below w.heap.size w w' := by
  have HX := hid hx
  have HT := hid ht
  have HS := hid hs
  obtain ⟨ao, ca, rfl⟩ := hx.shape
  have n1 : ¬ (12 : Int) < n := by omega
  have n2 : ¬ (20010 : Int) < s.size := by omega
  have n3 : (300 : Int) < s.size := by omega
  have n4 : ¬ (s.size : Int) ≤ 20000 := by omega
  clear hx ht hs
  go_enter Tryd.func8, Tryd.ntmps8
  go_wp2_with fail
  refine (print_dt _ n u _ HX.out (by omega) HT.out).mono ?_
  rintro e w1 ⟨rfl, C1⟩
  replace HX := hid (HX.out.below C1)
  replace HT := hid (HT.out.below C1 HT.out.lt)
  have T0 : Below w.heap.size w w1 := C1
  clear C1
  go_wp2_with fail
  refine (of_any _ n u _ HX.out (by omega)).mono ?_
  rintro e w2 ⟨rfl, C2⟩
  rw [Int.toNat_natCast]
  clear HX
  replace HT := hid (HT.out.below C2 HT.out.lt)
  replace T0 : Below w.heap.size w w2 := T0.trans (C2.mono T0.size)
  clear C2
  go_wp2_with fail
  refine (parse_no s _ (by omega) HS.out).mono ?_
  rintro e w3 ⟨rfl, hwc⟩
  have C3 : Below w2.heap.size w2 w3 := by rw [hwc]; exact Below.refl _ _
  clear hwc
  replace HT := hid (HT.out.below C3 HT.out.lt)
  replace T0 : Below w.heap.size w w3 := T0.trans (C3.mono T0.size)
  clear C3
  go_wp2_with fail
  refine (rparse_no s _ (by omega) HS.out).mono ?_
  rintro e w4 ⟨rfl, hwc⟩
  have C4 : Below w3.heap.size w3 w4 := by rw [hwc]; exact Below.refl _ _
  clear hwc
  replace HT := hid (HT.out.below C4 HT.out.lt)
  replace T0 : Below w.heap.size w w4 := T0.trans (C4.mono T0.size)
  clear C4
  go_wp2_with fail
  refine (awake_any _ HT.out).mono ?_
  rintro e w5 ⟨rfl, C5⟩
  replace HT := hid (HT.out.below C5 HT.out.lt)
  replace T0 : Below w.heap.size w w5 := T0.trans (C5.mono T0.size)
  clear C5
  go_wp2
  go_ret
  exact ⟨rfl, T0⟩
set_option maxHeartbeats 3200000 in
set_option maxRecDepth 100000 in
theorem txts_yes (vx : Value) (s : ByteArray) (n u : Nat) (w : World) (hx : Nt w vx n u) (ht : Tab w) (hn : n ≤ 12) (h3 : s.size ≤ 300) (hs : IsNum s) :
    Calls Tryd.prog 8 #[vx, .string s] w fun e w' => e = .returned (.bool true) ∧ Below w.heap.size w w' := by
  have HX := hid hx
  have HT := hid ht
  have HS := hid hs
  obtain ⟨ao, ca, rfl⟩ := hx.shape
  have n1 : ¬ (12 : Int) < n := by omega
  have n2 : ¬ (20010 : Int) < s.size := by omega
  have n3 : ¬ (300 : Int) < s.size := by omega
  clear hx ht hs
  go_enter Tryd.func8, Tryd.ntmps8
  go_wp2_with fail
  refine (print_dt _ n u _ HX.out (by omega) HT.out).mono ?_
  rintro e w1 ⟨rfl, C1⟩
  replace HX := hid (HX.out.below C1)
  replace HT := hid (HT.out.below C1 HT.out.lt)
  have T0 : Below w.heap.size w w1 := C1
  clear C1
  go_wp2_with fail
  refine (of_any _ n u _ HX.out (by omega)).mono ?_
  rintro e w2 ⟨rfl, C2⟩
  rw [Int.toNat_natCast]
  clear HX
  replace HT := hid (HT.out.below C2 HT.out.lt)
  replace T0 : Below w.heap.size w w2 := T0.trans (C2.mono T0.size)
  clear C2
  go_wp2_with fail
  refine (parse_yes s _ (by omega) HS.out).mono ?_
  rintro e w3 ⟨vd, kd, rfl, ID, hkd, C3, _⟩
  obtain ⟨dob, dc, rfl⟩ := ID.shape
  have HD := hid ID; clear ID
  replace HT := hid (HT.out.below C3 HT.out.lt)
  replace T0 : Below w.heap.size w w3 := T0.trans (C3.mono T0.size)
  clear C3
  go_wp2_with fail
  refine (rparse_yes s _ (by omega) HS.out).mono ?_
  rintro e w4 ⟨rfl, hwc⟩
  have C4 : Below w3.heap.size w3 w4 := by rw [hwc]; exact Below.refl _ _
  clear hwc
  replace HD := hid (HD.out.below C4)
  replace HT := hid (HT.out.below C4 HT.out.lt)
  replace T0 : Below w.heap.size w w4 := T0.trans (C4.mono T0.size)
  clear C4
  go_wp2_with fail
  refine (is_txt _ kd s _ HD.out (by omega) HS.out).mono ?_
  rintro e w5 ⟨rfl, C5⟩
  clear HD
  replace HT := hid (HT.out.below C5 HT.out.lt)
  replace T0 : Below w.heap.size w w5 := T0.trans (C5.mono T0.size)
  clear C5
  go_wp2_with fail
  refine (awake_any _ HT.out).mono ?_
  rintro e w6 ⟨rfl, C6⟩
  replace HT := hid (HT.out.below C6 HT.out.lt)
  replace T0 : Below w.heap.size w w6 := T0.trans (C6.mono T0.size)
  clear C6
  go_wp2
  go_ret
  exact ⟨rfl, T0⟩
set_option maxHeartbeats 3200000 in
set_option maxRecDepth 100000 in
theorem txts_long (vx : Value) (s : ByteArray) (n u : Nat) (w : World) (hx : Nt w vx n u) (ht : Tab w) (hn : n ≤ 12) (h3 : 20000 < s.size) (h4 : s.size ≤ 20010) (hs : IsNum s) :
    Calls Tryd.prog 8 #[vx, .string s] w fun e w' => e = .returned (.bool true) ∧ Below w.heap.size w w' := by
  have HX := hid hx
  have HT := hid ht
  have HS := hid hs
  obtain ⟨ao, ca, rfl⟩ := hx.shape
  have n1 : ¬ (12 : Int) < n := by omega
  have n2 : ¬ (20010 : Int) < s.size := by omega
  have n3 : (300 : Int) < s.size := by omega
  have n4 : ¬ (s.size : Int) ≤ 20000 := by omega
  clear hx ht hs
  go_enter Tryd.func8, Tryd.ntmps8
  go_wp2_with fail
  refine (print_dt _ n u _ HX.out (by omega) HT.out).mono ?_
  rintro e w1 ⟨rfl, C1⟩
  replace HX := hid (HX.out.below C1)
  replace HT := hid (HT.out.below C1 HT.out.lt)
  have T0 : Below w.heap.size w w1 := C1
  clear C1
  go_wp2_with fail
  refine (of_any _ n u _ HX.out (by omega)).mono ?_
  rintro e w2 ⟨rfl, C2⟩
  rw [Int.toNat_natCast]
  clear HX
  replace HT := hid (HT.out.below C2 HT.out.lt)
  replace T0 : Below w.heap.size w w2 := T0.trans (C2.mono T0.size)
  clear C2
  go_wp2_with fail
  refine (parse_long s _ h3 (by omega) HS.out).mono ?_
  rintro e w3 ⟨rfl, hwc⟩
  have C3 : Below w2.heap.size w2 w3 := by rw [hwc]; exact Below.refl _ _
  clear hwc
  replace HT := hid (HT.out.below C3 HT.out.lt)
  replace T0 : Below w.heap.size w w3 := T0.trans (C3.mono T0.size)
  clear C3
  go_wp2_with fail
  refine (rparse_long s _ h3 (by omega) HS.out).mono ?_
  rintro e w4 ⟨rfl, hwc⟩
  have C4 : Below w3.heap.size w3 w4 := by rw [hwc]; exact Below.refl _ _
  clear hwc
  replace HT := hid (HT.out.below C4 HT.out.lt)
  replace T0 : Below w.heap.size w w4 := T0.trans (C4.mono T0.size)
  clear C4
  go_wp2_with fail
  refine (awake_any _ HT.out).mono ?_
  rintro e w5 ⟨rfl, C5⟩
  replace HT := hid (HT.out.below C5 HT.out.lt)
  replace T0 : Below w.heap.size w w5 := T0.trans (C5.mono T0.size)
  clear C5
  go_wp2
  go_ret
  exact ⟨rfl, T0⟩
set_option maxHeartbeats 1600000 in
set_option maxRecDepth 100000 in
theorem txts_many1 (vx : Value) (s : ByteArray) (n : Nat) (a : Int) (w : World) (hx : Nt w vx n a) (ht : Tab w) (h : 12 < n) :
    Calls Tryd.prog 8 #[vx, .string s] w fun e w' => e = .returned (.bool true) ∧ Below w.heap.size w w' := by
  have HT := hid ht
  obtain ⟨ao, ca, rfl⟩ := hx.shape
  have n1 : (12 : Int) < n := by omega
  clear hx ht
  go_enter Tryd.func8, Tryd.ntmps8
  go_wp2_with fail
  refine (awake_any _ HT.out).mono ?_
  rintro e w1 ⟨rfl, C1⟩
  go_wp2
  go_ret
  exact ⟨rfl, C1⟩
set_option maxHeartbeats 1600000 in
set_option maxRecDepth 100000 in
theorem txts_many2 (vx : Value) (s : ByteArray) (n : Nat) (a : Int) (w : World) (hx : Nt w vx n a) (ht : Tab w) (h : ¬ 12 < n) (h2 : 300 < s.size) (h3 : s.size ≤ 20000) :
    Calls Tryd.prog 8 #[vx, .string s] w fun e w' => e = .returned (.bool true) ∧ Below w.heap.size w w' := by
  have HT := hid ht
  obtain ⟨ao, ca, rfl⟩ := hx.shape
  have n1 : ¬ (12 : Int) < n := by omega
  have n2 : (300 : Int) < s.size := by omega
  have n3 : (s.size : Int) ≤ 20000 := by omega
  clear hx ht
  go_enter Tryd.func8, Tryd.ntmps8
  go_wp2_with fail
  refine (awake_any _ HT.out).mono ?_
  rintro e w1 ⟨rfl, C1⟩
  go_wp2
  go_ret
  exact ⟨rfl, C1⟩
set_option maxHeartbeats 1600000 in
set_option maxRecDepth 100000 in
theorem txts_many3 (vx : Value) (s : ByteArray) (n : Nat) (a : Int) (w : World) (hx : Nt w vx n a) (ht : Tab w) (h : ¬ 12 < n) (h2 : 20010 < s.size) :
    Calls Tryd.prog 8 #[vx, .string s] w fun e w' => e = .returned (.bool true) ∧ Below w.heap.size w w' := by
  have HT := hid ht
  obtain ⟨ao, ca, rfl⟩ := hx.shape
  have n1 : ¬ (12 : Int) < n := by omega
  have n2 : (300 : Int) < s.size := by omega
  have n3 : ¬ (s.size : Int) ≤ 20000 := by omega
  have n4 : (20010 : Int) < s.size := by omega
  clear hx ht
  go_enter Tryd.func8, Tryd.ntmps8
  go_wp2_with fail
  refine (awake_any _ HT.out).mono ?_
  rintro e w1 ⟨rfl, C1⟩
  go_wp2
  go_ret
  exact ⟨rfl, C1⟩
theorem txtslaw_any (vx : Value) (s : ByteArray) (n : Nat) (a : Int) (w : World) (hx : Nt w vx n a) (ht : Tab w) :
    Calls Tryd.prog 8 #[vx, .string s] w fun e w' => e = .returned (.bool true) ∧ Below w.heap.size w w' := by
  obtain ⟨u, rfl⟩ := Int.eq_ofNat_of_zero_le hx.nonneg
  by_cases h : 12 < n
  · exact txts_many1 vx s n u w hx ht h
  · by_cases h1 : s.size ≤ 300
    · by_cases hs : IsNum s
      · exact txts_yes vx s n u w hx ht (by omega) h1 hs
      · exact txts_no1 vx s n u w hx ht (by omega) h1 hs
    · by_cases h2 : s.size ≤ 20000
      · exact txts_many2 vx s n u w hx ht h (by omega) h2
      · by_cases h3 : 20010 < s.size
        · exact txts_many3 vx s n u w hx ht h h3
        · by_cases hs : IsNum s
          · exact txts_long vx s n u w hx ht (by omega) (by omega) (by omega) hs
          · exact txts_no2 vx s n u w hx ht (by omega) (by omega) (by omega) hs
end Go.Proofs.YtnoeclmccbhkmaaDoor
