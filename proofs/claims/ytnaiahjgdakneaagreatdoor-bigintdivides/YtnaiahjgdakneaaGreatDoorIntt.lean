/- Whole numbers: their texts. -/
import Derived.Test.YtnaiahjgdakneaaGreatDoorInts
import Derived.Test.YtnaiahjgdakneaaGreatDoorRep
import Derived.Test.YtnaiahjgdakneaaGreatDoorPfx
namespace Go.Proofs.YtnaiahjgdakneaaGreatDoor
open Go.RowKit Num
open Go.Lib (decDigits)

/-- the text of a whole number. -/
def idt (A : Int) : List UInt8 := if A < 0 then 45 :: decDigits A.natAbs else decDigits A.natAbs
theorem bytes_cat (a b : List UInt8) : (⟨a.toArray⟩ : ByteArray) ++ ⟨b.toArray⟩ = ⟨(a ++ b).toArray⟩ := by
  apply ByteArray.ext
  simp

set_option maxHeartbeats 800000 in
theorem Print_any (v : Value) (n : Nat) (A : Int) (w : World) (h : It w v n A) (hn : n ≤ 100000) (ht : Tab w) :
    Calls Tryz.prog 20 #[v] w fun e w' => e = .returned (.string ⟨(idt A).toArray⟩) ∧ Below w.heap.size w w' := by
  obtain ⟨neg, ao, k, cap, a, rfl, hz, hk, rfl, hne, h0⟩ := h
  obtain ⟨u, rfl⟩ := Int.eq_ofNat_of_zero_le h0
  have t0 := below_new w (.cells #[.bool neg, .slice ao k cap] 30)
  have N0 := hid (hz.nt.below t0)
  have HT := hid (ht.below t0 ht.lt)
  have hl := len_dec_nt hz.nt
  have hl1 : ¬ 9223372036854775807 < 1 + (decDigits u).length := by omega
  have hl2 : ¬ 9223372036854775807 < (decDigits u).length := by omega
  have T0 := hid t0
  clear hz ht t0
  cases neg with
  | true =>
    have hu := hne rfl
    have e : idt (sg true (u : Int)) = 45 :: decDigits u := by
      have e1 : (sg true (u : Int)) < 0 := by simp [sg]; omega
      have e2 : (sg true (u : Int)).natAbs = u := by simp [sg]
      unfold idt; rw [if_pos e1, e2]
    rw [e]
    clear hne hu e
    go_enter Tryz.func20, Tryz.ntmps20
    go_wp2_with fail
    generalize w.alloc (.cells #[.bool true, .slice ao k cap] 30) = wa at *
    refine (print_any _ k u _ N0.out (by omega) HT.out).mono ?_
    rintro e w1 ⟨rfl, C1⟩
    go_wp2
    go_ret
    refine ⟨?_, bt T0.out C1⟩
    show Ending.returned (Value.string ((⟨[45].toArray⟩ : ByteArray) ++ ⟨(decDigits u).toArray⟩)) = _
    rw [bytes_cat]; rfl
  | false =>
    have e : idt (sg false (u : Int)) = decDigits u := by
      have e1 : ¬ (sg false (u : Int)) < 0 := by simp [sg]
      have e2 : (sg false (u : Int)).natAbs = u := by simp [sg]
      unfold idt; rw [if_neg e1, e2]
    rw [e]
    clear hne e
    go_enter Tryz.func20, Tryz.ntmps20
    go_wp2_with fail
    generalize w.alloc (.cells #[.bool false, .slice ao k cap] 30) = wa at *
    refine (print_any _ k u _ N0.out (by omega) HT.out).mono ?_
    rintro e w1 ⟨rfl, C1⟩
    go_wp2
    go_ret
    refine ⟨?_, bt T0.out C1⟩
    show Ending.returned (Value.string ((⟨([] : List UInt8).toArray⟩ : ByteArray) ++ ⟨(decDigits u).toArray⟩)) = _
    rw [bytes_cat]; rfl

theorem minus_has (t : List UInt8) : Lib.hasPrefix (45 :: t) [45] = true := by simp [Lib.hasPrefix]
theorem minus_trim (t : List UInt8) : Lib.trimPrefix (45 :: t) [45] = t := by simp [Lib.trimPrefix, Lib.hasPrefix]
theorem digs_has (t : List UInt8) (h : Digs t) : Lib.hasPrefix t [45] = false := by
  cases t with
  | nil => rfl
  | cons c l =>
    have := h c (by simp)
    have hne : (45 == c) = false := by
      rw [beq_eq_false_iff_ne]; rintro rfl; revert this; decide
    show (45 == c && List.isPrefixOf [] l) = false
    rw [hne]; rfl
theorem digs_trim (t : List UInt8) (h : Digs t) : Lib.trimPrefix t [45] = t := by simp [Lib.trimPrefix, digs_has t h]


set_option maxHeartbeats 800000 in
/-- "-0" is no number. -/
theorem Parse_minus0 (w : World) :
    Calls Tryz.prog 23 #[.string ⟨#[45, 48]⟩] w fun e w' => (∃ v, e = .returned (.tuple #[v, .int .i64 16]) ∧ It w' v 0 0) ∧ Below w.heap.size w w' := by
  have h1 := Tryz.strings_HasPrefix ⟨#[45, 48]⟩ ⟨#[45]⟩
  have h2 := Tryz.strings_TrimPrefix ⟨#[45, 48]⟩ ⟨#[45]⟩
  rw [show Lib.hasPrefix (⟨#[45, 48]⟩ : ByteArray).data.toList (⟨#[45]⟩ : ByteArray).data.toList = true from minus_has [48]] at h1
  rw [show Lib.trimPrefix (⟨#[45, 48]⟩ : ByteArray).data.toList (⟨#[45]⟩ : ByteArray).data.toList = [48] from minus_trim [48]] at h2
  have H1 := hid h1
  have H2 := hid h2
  have h3 := fun W => parse_yes ⟨#[48]⟩ W (by decide) (by have := isNum_dec 0; rwa [dec_small (by decide)] at this)
  have e0 : dval (⟨#[48]⟩ : ByteArray).data.toList = 0 := by decide
  rw [e0] at h3
  have H3 := hid h3
  have T0 := hid (below_new w (.cells #[.bool false, .slice none 0 0] 30))
  have V0 := hid (var_new w)
  clear h1 h2 h3 e0
  go_enter Tryz.func23, Tryz.ntmps23
  go_wp2_with fail
  generalize w.alloc (.cells #[.bool false, .slice none 0 0] 30) = wa at *
  refine (H1.out wa).mono ?_
  rintro e w1 ⟨rfl, rfl⟩
  go_wp2_with fail
  refine (H2.out w1).mono ?_
  rintro e w2 ⟨rfl, rfl⟩
  go_wp2_with fail
  refine (H3.out w2).mono ?_
  rintro e w3 ⟨v, k, rfl, z, hk, C3, _⟩
  have hk0 : k = 0 := z.len.1.1 rfl
  subst hk0
  obtain ⟨ao, cap, rfl⟩ := z.shape
  have V3 := hid (V0.out.go C3)
  obtain ⟨c0, c1, f0, f1, l0⟩ := Var.facts V3.out
  clear z H1 H2 H3
  go_wp2
  refine bodyPost_ret (ret_var2 (Var.set V3.out) rfl rfl rfl) rfl ?_
  exact ⟨⟨_, rfl, ⟨false, none, 0, 0, 0, rfl, nil_nz _, Nat.le_refl _, rfl, by simp, by omega⟩⟩, (bt T0.out C3).trans ((only_two _ _ _ _).below (Nat.le_refl _))⟩

end Go.Proofs.YtnaiahjgdakneaaGreatDoor
