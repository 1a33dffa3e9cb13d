/- What 'isNumber' and 'Parse' answer: which texts are numbers, and which number each is. -/
import Derived.Test.YtnaiahjgdakneaaGreatDoorPrt
namespace Go.Proofs.YtnaiahjgdakneaaGreatDoor
open Go.RowKit Num

/-- decimal digits without a 0 too much ahead of them. -/
def IsNum (s : ByteArray) : Prop := (∀ j (h : j < s.size), 48 ≤ s[j].toNat ∧ s[j].toNat ≤ 57) ∧ (s.toList = [48] ∨ ∃ h : 0 < s.size, s[0].toNat ≠ 48)

def NumRet (s : ByteArray) (e : Ending) : Prop := ∃ b, e = .returned (.bool b) ∧ (b = true ↔ IsNum s)
theorem numRet_no {s : ByteArray} (h : ¬ IsNum s) : NumRet s (.returned (.bool false)) := ⟨false, rfl, ⟨(fun e => by cases e), fun e => absurd e h⟩⟩
theorem numRet_yes {s : ByteArray} (h : IsNum s) : NumRet s (.returned (.bool true)) := ⟨true, rfl, ⟨fun _ => h, fun _ => rfl⟩⟩
theorem toList_eq (s : ByteArray) : s.toList = s.data.toList := Lib.toList_data s
theorem toList_len (s : ByteArray) : s.toList.length = s.size := by rw [toList_eq]; rfl
set_option maxHeartbeats 800000 in
set_option maxRecDepth 100000 in
theorem isNumber_any (s : ByteArray) (w : World) (hs : s.size ≤ 9223372036854775807) :
    Calls Tryz.prog 61 #[.string s] w fun e w' => NumRet s e ∧ w' = w := by
  go_enter Tryz.func61, Tryz.ntmps61
  go_wp2
  go_loop [6] (fun i => ∃ k : Nat, k ≤ s.size ∧ i = .int .i64 k ∧ Hid (∀ j (h : j < s.size), j < k → 48 ≤ s[j].toNat ∧ s[j].toNat ≤ 57)) (fun i => s.size - (intOf i).toNat)
  case atStart => exact ⟨0, Nat.zero_le _, rfl, fun j _ h => absurd h (by omega)⟩
  case round =>
    obtain ⟨k, hk, rfl, hr⟩ := hrel
    by_cases hlt : k < s.size
    · by_cases h1 : s[k].toNat < 48
      · have h1' : (s[k].toNat : Int) < 48 := by omega
        go_wp2
        go_ret
        exact ⟨numRet_no (fun h => by have := h.1 k hlt; omega), rfl⟩
      · have h1' : ¬ (s[k].toNat : Int) < 48 := by omega
        by_cases h2 : 57 < s[k].toNat
        · have h2' : (57 : Int) < s[k].toNat := by omega
          go_wp2
          go_ret
          exact ⟨numRet_no (fun h => by have := h.1 k hlt; omega), rfl⟩
        · have h2' : ¬ (57 : Int) < s[k].toNat := by omega
          go_wp2
          refine ⟨⟨k + 1, by omega, by go_num, fun j hj hjk => ?_⟩, by simp [intOf]; omega⟩
          by_cases e : j = k
          · subst e; omega
          · exact hr.out j hj (by omega)
    · have hall : ∀ j (h : j < s.size), 48 ≤ s[j].toNat ∧ s[j].toNat ≤ 57 := fun j h => hr.out j h (by omega)
      have HA := hid hall
      clear hall hr
      by_cases h0 : s.toList = [48]
      · have h0' : (s.toList == [48]) = true := by simpa using h0
        have H0 := hid h0
        clear h0
        go_wp2
        go_ret
        exact ⟨numRet_yes ⟨HA.out, Or.inl H0.out⟩, rfl⟩
      · have h0' : (s.toList == [48]) = false := by simpa using h0
        have H0 := hid h0
        clear h0
        by_cases h1 : s.size = 0
        · have h1' : s.toList.isEmpty = true := by rw [List.isEmpty_iff]; exact List.eq_nil_of_length_eq_zero (by rw [toList_len]; exact h1)
          go_wp2
          go_ret
          exact ⟨numRet_no (fun h => by rcases h.2 with h | ⟨h, _⟩; exact H0.out h; omega), rfl⟩
        · have h1' : s.toList.isEmpty = false := by
            rw [Bool.eq_false_iff]; intro h; rw [List.isEmpty_iff] at h; have := toList_len s; rw [h] at this; simp at this; omega
          have hpos : 0 < s.size := by omega
          by_cases h2 : s[0].toNat = 48
          · have h2' : ((s[0].toNat : Int) != 48) = false := by simp; omega
            have H2 := hid h2
            clear h2
            go_wp2
            go_ret
            exact ⟨numRet_no (fun h => by rcases h.2 with h | ⟨_, h⟩; exact H0.out h; exact h H2.out), rfl⟩
          · have h2' : ((s[0].toNat : Int) != 48) = true := by simp; omega
            have H2 := hid h2
            clear h2
            go_wp2
            go_ret
            exact ⟨numRet_yes ⟨HA.out, Or.inr ⟨hpos, H2.out⟩⟩, rfl⟩

set_option maxHeartbeats 800000 in
set_option maxRecDepth 100000 in
/-- 'Parse' of a text that is no number: ErrSyntax. -/
theorem parse_no (s : ByteArray) (w : World) (hs : s.size ≤ 9223372036854775807) (h : ¬ IsNum s) :
    Calls Tryz.prog 41 #[.string s] w fun e w' => e = .returned (.tuple #[.slice none 0 0, .int .i64 16]) ∧ w' = w := by
  have H := hid h
  clear h
  go_enter Tryz.func41, Tryz.ntmps41
  go_wp2_with fail
  refine (isNumber_any s w hs).mono ?_
  rintro e w1 ⟨⟨b, rfl, hb⟩, rfl⟩
  have hb' : b = false := by
    cases b with
    | false => rfl
    | true => exact absurd (hb.1 rfl) H.out
  subst hb'
  clear hb
  go_wp2
  go_ret2
  exact ⟨rfl, rfl⟩
end Go.Proofs.YtnaiahjgdakneaaGreatDoor
