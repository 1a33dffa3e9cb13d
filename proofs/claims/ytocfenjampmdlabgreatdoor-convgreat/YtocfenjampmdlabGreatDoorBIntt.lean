/- Whole numbers: their texts. -/
import Derived.Test.YtocfenjampmdlabGreatDoorBInts
import Derived.Test.YtocfenjampmdlabGreatDoorBRep
import Derived.Test.YtocfenjampmdlabGreatDoorBPfx
namespace Go.Proofs.YtocfenjampmdlabGreatDoor.B
open Go.RowKit NumB
open Go.Lib (decDigits)

/-- the text of a whole number. -/
def idt (A : Int) : List UInt8 := if A < 0 then 45 :: decDigits A.natAbs else decDigits A.natAbs
theorem bytes_cat (a b : List UInt8) : (⟨a.toArray⟩ : ByteArray) ++ ⟨b.toArray⟩ = ⟨(a ++ b).toArray⟩ := by
  apply ByteArray.ext
  simp

set_option maxHeartbeats 800000 in
theorem Print_any (v : Value) (n : Nat) (A : Int) (w : World) (h : It w v n A) (hn : n ≤ 100000) (ht : Tab w) :
    Calls Tryz.prog 12 #[v] w fun e w' => e = .returned (.string ⟨(idt A).toArray⟩) ∧ Below w.heap.size w w' := by
  obtain ⟨neg, ao, k, cap, a, rfl, hz, hk, rfl, hne, h0⟩ := h
  obtain ⟨u, rfl⟩ := Int.eq_ofNat_of_zero_le h0
  have t0 := below_new w (.cells #[.bool neg, .slice ao k cap] 42)
  have N0 := hid (hz.nt.below t0)
  have HT := hid (ht.below t0 ht.lt)
  have hl := len_dec_nt hz.nt
  have hl1 : ¬ 9223372036854775807 < 1 + (decDigits u).length := by omega
  have hl2 : ¬ 9223372036854775807 < (decDigits u).length := by omega
  have T0 := hid t0
  clear hz ht t0
  cases neg with
  | true =>
    have hu := hne rfl
    have e : idt (sg true (u : Int)) = 45 :: decDigits u := by
      have e1 : (sg true (u : Int)) < 0 := by simp [sg]; omega
      have e2 : (sg true (u : Int)).natAbs = u := by simp [sg]
      unfold idt; rw [if_pos e1, e2]
    rw [e]
    clear hne hu e
    go_enter Tryz.func12, Tryz.ntmps12
    go_wp2_with fail
    generalize w.alloc (.cells #[.bool true, .slice ao k cap] 42) = wa at *
    refine (print_any _ k u _ N0.out (by omega) HT.out).mono ?_
    rintro e w1 ⟨rfl, C1⟩
    go_wp2
    go_ret
    refine ⟨?_, bt T0.out C1⟩
    show Ending.returned (Value.string ((⟨[45].toArray⟩ : ByteArray) ++ ⟨(decDigits u).toArray⟩)) = _
    rw [bytes_cat]; rfl
  | false =>
    have e : idt (sg false (u : Int)) = decDigits u := by
      have e1 : ¬ (sg false (u : Int)) < 0 := by simp [sg]
      have e2 : (sg false (u : Int)).natAbs = u := by simp [sg]
      unfold idt; rw [if_neg e1, e2]
    rw [e]
    clear hne e
    go_enter Tryz.func12, Tryz.ntmps12
    go_wp2_with fail
    generalize w.alloc (.cells #[.bool false, .slice ao k cap] 42) = wa at *
    refine (print_any _ k u _ N0.out (by omega) HT.out).mono ?_
    rintro e w1 ⟨rfl, C1⟩
    go_wp2
    go_ret
    refine ⟨?_, bt T0.out C1⟩
    show Ending.returned (Value.string ((⟨([] : List UInt8).toArray⟩ : ByteArray) ++ ⟨(decDigits u).toArray⟩)) = _
    rw [bytes_cat]; rfl

theorem minus_has (t : List UInt8) : Lib.hasPrefix (45 :: t) [45] = true := by simp [Lib.hasPrefix]
theorem minus_trim (t : List UInt8) : Lib.trimPrefix (45 :: t) [45] = t := by simp [Lib.trimPrefix, Lib.hasPrefix]
theorem digs_has (t : List UInt8) (h : Digs t) : Lib.hasPrefix t [45] = false := by
  cases t with
  | nil => rfl
  | cons c l =>
    have := h c (by simp)
    have hne : (45 == c) = false := by
      rw [beq_eq_false_iff_ne]; rintro rfl; revert this; decide
    show (45 == c && List.isPrefixOf [] l) = false
    rw [hne]; rfl
theorem digs_trim (t : List UInt8) (h : Digs t) : Lib.trimPrefix t [45] = t := by simp [Lib.trimPrefix, digs_has t h]


end Go.Proofs.YtocfenjampmdlabGreatDoor.B
