/- "Gcd" of the reference. -/
import Derived.Test.YtnaiahjgdakneaaGreatDoorRefq
namespace Go.Proofs.YtnaiahjgdakneaaGreatDoor
open Go.RowKit Num
open Go.Lib (decDigits)
/-- the number of a text of digits. -/
def strNum : Value → Nat
  | .string s => dval s.data.toList
  | _ => 0
theorem strNum_dt (q : Nat) : strNum (.string (dt q)) = q := dval_dt q
set_option maxHeartbeats 800000 in
set_option maxRecDepth 100000 in
theorem rgcd_any (a b : Nat) (w : World) (ha : (dt a).size ≤ 100000) (hb : (dt b).size ≤ 100000) :
    Calls Tryz.prog 21 #[.string (dt a), .string (dt b)] w fun e w' => e = .returned (.string (dt (Nat.gcd a b))) ∧ Below w.heap.size w w' := by
  obtain ⟨G, hG⟩ : ∃ G, Nat.gcd a b = G := ⟨_, rfl⟩
  have HG := hid hG
  rw [hG]
  clear hG
  go_enter Tryz.func21, Tryz.ntmps21
  go_wp2
  go_loopw [0, 1] (fun xv yv wr => ∃ p q : Nat, xv = .string (dt p) ∧ yv = .string (dt q) ∧ (dt p).size ≤ 100000 ∧ (dt q).size ≤ 100000 ∧ Hid (Nat.gcd p q = G ∧ Below w.heap.size w wr)) (fun _ yv _ => strNum yv)
  case atStart => exact ⟨a, b, rfl, rfl, ha, hb, HG.out, Below.refl _ _⟩
  case round =>
    obtain ⟨p, q, rfl, rfl, hp, hq, HH⟩ := hrel
    clear HG
    by_cases h0 : q = 0
    · subst h0
      have e : p = G := by have := HH.out.1; rw [Nat.gcd_zero_right] at this; exact this
      subst e
      have hz : (dt 0).toList = [48] := by rw [dt_toList]; decide +kernel
      go_wp2
      go_ret
      exact ⟨rfl, HH.out.2⟩
    · have hz : ¬ (dt q).toList = [48] := by
        rw [dt_toList]
        intro e
        have : decDigits 0 = [48] := by decide +kernel
        rw [← this] at e
        have := congrArg dval e
        rw [dval_dec, dval_dec] at this
        exact h0 this
      have hz' : ((dt q).toList == [48]) = false := by simpa using hz
      go_wp2_with fail
      refine (rdiv_any p q wr (by omega) hp hq).mono ?_
      rintro e w2 ⟨rfl, C2⟩
      have N : Hid (Nat.gcd q (p % q) = G) := by
        show _ = _
        rw [← HH.out.1, Nat.gcd_comm p q, Nat.gcd_rec q p, Nat.gcd_comm]
      have B2 := hid (HH.out.2.trans (C2.mono HH.out.2.size))
      have hl := Nat.mod_lt p (show 0 < q by omega)
      have hs : (dt (p % q)).size ≤ 100000 := by
        rw [dt_size] at *
        have : ¬ (decDigits q).length < (decDigits (p % q)).length := fun h => by have := len_lt h; omega
        omega
      clear C2 HH
      go_wp2
      refine ⟨⟨q, p % q, rfl, rfl, hq, hs, N.out, B2.out⟩, ?_⟩
      rw [strNum_dt, strNum_dt]; exact hl
end Go.Proofs.YtnaiahjgdakneaaGreatDoor
