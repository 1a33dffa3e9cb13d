/- "Of" of the reference: the digits of words; and what the law calls of, Is and few. -/
/- What the laws call of, Is and few. -/
/- "DivMod" of the reference: quotient and rest by decimal digits. -/
/- "Gcd" of the reference. -/
import Derived.Test.YtocfenjampmdlaaGreatDoorBRefn
import Derived.Deep.RegionHeld2
namespace Go.Proofs.YtocfenjampmdlaaGreatDoor.B
open Go.RowKit NumB
open Go.Lib (decDigits)
theorem len_of {u k : Nat} (h : (u : Int) < P k) : (decDigits u).length ≤ 20 * k + 1 := by
  have h2 := P_le_pow k
  have h3 : u < 10 ^ (20 * k + 1) := by
    rw [Nat.pow_succ]
    omega
  exact len_dec u _ (by omega) h3
theorem V_head (x : Nat → Int) (o n : Nat) : V x o (n + 1) = x o + 18446744073709551616 * V x (o + 1) n := by
  have h := V_split x o 1 n
  rw [Nat.add_comm n 1, h]
  simp [V, P]
def big64 : ByteArray := ⟨#[49, 56, 52, 52, 54, 55, 52, 52, 48, 55, 51, 55, 48, 57, 53, 53, 49, 54, 49, 54]⟩
theorem big64_val : dval big64.data.toList = 18446744073709551616 := by decide
theorem big64_digs : Digs big64.data.toList := by
  intro c hc
  have : (big64.data.toList.all fun c => decide (48 ≤ c.toNat ∧ c.toNat ≤ 57)) = true := by decide
  have := List.all_eq_true.1 this c hc
  simpa using this
theorem digs_dt (u : Nat) : Digs (dt u).data.toList := digs_dec u
theorem dval_dt (u : Nat) : dval (dt u).data.toList = u := dval_dec u
theorem dt0 : dt 0 = ⟨#[48]⟩ := by
  refine bytes_eq ?_
  rw [dt_list, dec_small (by decide)]; rfl
theorem mul_dt (u : Nat) (w : World) (h : (dt u).size ≤ 100000) :
    Calls Tryz.prog 35 #[.string (dt u), .string big64] w fun e w' => e = .returned (.string (dt (u * 18446744073709551616))) ∧ Below w.heap.size w w' := by
  have := rmul_any (dt u) big64 w h (by decide) (digs_dt u) big64_digs
  rwa [dval_dt, big64_val] at this
theorem add_dt (u v : Nat) (w : World) (h : (dt u).size ≤ 100000) (h2 : (dt v).size ≤ 100000) :
    Calls Tryz.prog 34 #[.string (dt u), .string (dt v)] w fun e w' => e = .returned (.string (dt (u + v))) ∧ Below w.heap.size w w' := by
  have := radd_any (dt u) (dt v) w (by omega) (by omega) (digs_dt u) (digs_dt v)
  rwa [dval_dt, dval_dt] at this

end Go.Proofs.YtocfenjampmdlaaGreatDoor.B
namespace Go.Proofs.YtocfenjampmdlaaGreatDoor.B
open Go.RowKit NumB
open Go.Lib (decDigits)
theorem Nt.shape {w : World} {v : Value} {k : Nat} {a : Int} (h : Nt w v k a) : ∃ ao cap, v = .slice ao k cap := by
  obtain ⟨x, o, ⟨ao, cap, rfl, -⟩, -⟩ := h; exact ⟨ao, cap, rfl⟩
theorem Nz.shapeR {w : World} {v : Value} {k : Nat} {a : Int} (h : Nz w v k a) : ∃ ao cap, v = .slice ao k cap := by
  obtain ⟨x, o, ⟨ao, cap, rfl, -⟩, -⟩ := h; exact ⟨ao, cap, rfl⟩
end Go.Proofs.YtocfenjampmdlaaGreatDoor.B
namespace Go.Proofs.YtocfenjampmdlaaGreatDoor.B
open Go.RowKit NumB
open Go.Lib (decDigits)
theorem own_below {base n : Nat} {e : TypeId} {v : Value} {xs : List Value} {w w' : World} (h : w.ownsRow base e 1 v n xs) (o : Below w.heap.size w w') : w'.ownsRow base e 1 v n xs := by
  refine ⟨h.1, ?_⟩
  rcases h.2 with h0 | ⟨g', cap, cur, rfl, hb, hg', h1, h2, h3, h4⟩
  · exact Or.inl h0
  · refine Or.inr ⟨g', cap, cur, rfl, hb, ?_, h1, h2, h3, h4⟩
    rw [o.block g' (Array.getElem?_eq_some_iff.1 hg').1]; exact hg'
def DvRel (x : List UInt8) (b i r : Nat) (L : List UInt8) : Prop := Digs L ∧ L.length = i ∧ dval (x.take i) = dval L * b + r
theorem DvRel.step {x : List UInt8} {b i r n s : Nat} {c : UInt8} {L : List UInt8} (h : DvRel x b i r L) (hi : x.take (i + 1) = x.take i ++ [c]) (hs : s + n * b = 10 * r + (c.toNat - 48)) (hn : n ≤ 9) : DvRel x b (i + 1) s (L ++ [UInt8.ofNat (48 + n)]) := by
  obtain ⟨h1, h2, h3⟩ := h
  refine ⟨digs_snoc h1 (by omega), by simp [h2], ?_⟩
  rw [hi, dval_snoc, h3, dval_snoc, dig_nat (by omega), Nat.add_sub_cancel_left]
  have e1 : 10 * (dval L * b + r) = 10 * dval L * b + 10 * r := by rw [Nat.mul_add, Nat.mul_assoc]
  have e2 : (10 * dval L + n) * b = 10 * dval L * b + n * b := Nat.add_mul _ _ _
  omega
theorem DvRel.done {x : List UInt8} {b r : Nat} {L : List UInt8} (h : DvRel x b x.length r L) (hr : r < b) : dval L = dval x / b ∧ r = dval x % b := by
  obtain ⟨_, _, h3⟩ := h
  rw [List.take_of_length_le (Nat.le_refl _)] at h3
  have hb : 0 < b := by omega
  rw [h3]
  constructor
  · rw [Nat.mul_comm, Nat.mul_add_div hb, Nat.div_eq_of_lt hr]; omega
  · rw [Nat.mul_comm, Nat.mul_add_mod, Nat.mod_eq_of_lt hr]
def nOf : Value → Nat
  | .string s => dval s.data.toList
  | _ => 0
theorem nOf_dt (s : Nat) : nOf (.string (dt s)) = s := dval_dt s
theorem ext_one (x : ByteArray) (i : Nat) (h : i < x.size) : (x.extract i (i + 1)).data.toList = [x[i]] := by
  have h0 : (x.extract i (i + 1)).data = x.data.extract i (i + 1) := by simp
  rw [h0, Array.toList_extract]
  have hl : x.data.toList.length = x.size := rfl
  simp only [List.extract_eq_take_drop, Nat.add_sub_cancel_left]
  rw [List.drop_eq_getElem_cons (by omega)]
  rfl
theorem cat_list (a b : ByteArray) : (a ++ b).data.toList = a.data.toList ++ b.data.toList := by simp
end Go.Proofs.YtocfenjampmdlaaGreatDoor.B
namespace Go.Proofs.YtocfenjampmdlaaGreatDoor.B
open Go.RowKit NumB
open Go.Lib (decDigits)
/-- the number of a text of digits. -/
def strNum : Value → Nat
  | .string s => dval s.data.toList
  | _ => 0
theorem strNum_dt (q : Nat) : strNum (.string (dt q)) = q := dval_dt q
end Go.Proofs.YtocfenjampmdlaaGreatDoor.B
