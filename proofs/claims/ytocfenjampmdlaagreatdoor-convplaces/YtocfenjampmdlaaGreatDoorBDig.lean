/- What is printed is parsed: decimal digits of a number, and the number of these. -/
/- The library's contracts of strings.HasPrefix and strings.TrimPrefix, laid at this program. -/
/- Whole numbers: their texts. -/
/- What 'moveUp', 'moveDown', 'takeTimes' and 'addBack' do to words. -/
/- What 'moveDown', 'takeTimes' and 'addBack' do to words. -/
/- Lehmer's way with Euclid's steps, and Collins's condition: plain facts on whole numbers. -/
/- What 'wordAt', 'gcdOfWords' and 'timesLess' answer. -/
/- What 'guessDigit' answers: how often a number goes into another one, or one more. -/
/- The walk of 'guessDigit'. -/
/- What 'takeDigit' does: it takes a number off another as often as it goes, and answers how often that is. -/
import Derived.Test.YtocfenjampmdlaaGreatDoorBParse
import Derived.Shelf.Strings.Prefix
import Derived.Test.YtocfenjampmdlaaGreatDoorProg
import Derived.Test.YtocfenjampmdlaaGreatDoorBBld
import Derived.Test.YtocfenjampmdlaaGreatDoorBShelf
import Derived.Deep.QuietTactic
import Derived.BigQuiet
namespace Go.Proofs.YtocfenjampmdlaaGreatDoor.B
open Go.RowKit NumB
open Go.Lib (decDigits)

theorem dec_small {u : Nat} (h : u < 10) : decDigits u = [UInt8.ofNat (48 + u)] := by rw [decDigits, dif_pos h]
theorem dig_nat {d : Nat} (h : d < 10) : (UInt8.ofNat (48 + d)).toNat = 48 + d := by simp; omega
theorem dec_ind {Q : Nat → Prop} (h0 : ∀ u, u < 10 → Q u) (hs : ∀ u, ¬ u < 10 → Q (u / 10) → Q u) (u : Nat) : Q u := by
  induction u using Nat.strongRecOn with
  | ind u ih =>
    by_cases h : u < 10
    · exact h0 u h
    · exact hs u h (ih _ (by omega))
theorem dval_dec (u : Nat) : dval (decDigits u) = u := by
  refine dec_ind (Q := fun u => dval (decDigits u) = u) (fun u h => ?_) (fun u h ih => ?_) u
  · rw [dec_small h]
    have := dig_nat h
    simp only [dval, List.foldl, this]; omega
  · have := dig_nat (d := u % 10) (by omega)
    rw [decDigits_big h, dval_snoc, ih, this]; omega
theorem digs_dec (u : Nat) : Digs (decDigits u) := by
  refine dec_ind (Q := fun u => Digs (decDigits u)) (fun u h => ?_) (fun u h ih => ?_) u
  · rw [dec_small h]
    have := dig_nat h
    intro c hc
    simp only [List.mem_singleton] at hc
    subst hc; rw [this]; omega
  · have := dig_nat (d := u % 10) (by omega)
    rw [decDigits_big h]
    intro c hc
    rcases List.mem_append.1 hc with hc | hc
    · exact ih c hc
    · simp only [List.mem_singleton] at hc
      subst hc; rw [this]; omega
theorem head_dec (u : Nat) (hu : 0 < u) : ∃ c l, decDigits u = c :: l ∧ c.toNat ≠ 48 := by
  refine dec_ind (Q := fun u => 0 < u → ∃ c l, decDigits u = c :: l ∧ c.toNat ≠ 48) (fun u h h0 => ?_) (fun u h ih h0 => ?_) u hu
  · exact ⟨_, [], dec_small h, by rw [dig_nat h]; omega⟩
  · obtain ⟨c, l, e, hc⟩ := ih (by omega)
    exact ⟨c, l ++ [UInt8.ofNat (48 + u % 10)], by rw [decDigits_big h, e]; rfl, hc⟩
theorem len_dec (u : Nat) : ∀ m, 0 < m → u < 10 ^ m → (decDigits u).length ≤ m := by
  refine dec_ind (Q := fun u => ∀ m, 0 < m → u < 10 ^ m → (decDigits u).length ≤ m) (fun u h m h0 _ => ?_) (fun u h ih m h0 hm => ?_) u
  · rw [dec_small h]; exact h0
  · rw [decDigits_big h, List.length_append, List.length_singleton]
    match m, h0 with
    | 1, _ => omega
    | m + 2, _ =>
      have := ih (m + 1) (by omega) (by rw [Nat.pow_succ] at hm; omega)
      omega
theorem isNum_dec (u : Nat) : IsNum ⟨(decDigits u).toArray⟩ := by
  constructor
  · intro j hj
    exact digs_dec u _ (by show (decDigits u).toArray[j] ∈ _; simp)
  · by_cases h : u = 0
    · subst h
      left
      rw [toList_eq]
      show (decDigits 0) = [48]
      rw [dec_small (by decide)]; rfl
    · right
      obtain ⟨c, l, e, hc⟩ := head_dec u (by omega)
      rw [e]
      exact ⟨by simp [ByteArray.size], hc⟩
theorem P_le_pow : ∀ k, P k ≤ ((10 ^ (20 * k) : Nat) : Int)
  | 0 => by simp [P]
  | k + 1 => by
    have ih := P_le_pow k
    rw [show 20 * (k + 1) = 20 * k + 20 by omega, Nat.pow_add]
    have e : (10 : Nat) ^ 20 = 100000000000000000000 := by decide
    rw [e]
    generalize 10 ^ (20 * k) = p at *
    simp only [P]
    omega
theorem len_dec_nt {w : World} {v : Value} {n A : Nat} (h : Nt w v n A) : (decDigits A).length ≤ 20 * n + 1 := by
  refine len_dec A (20 * n + 1) (by omega) ?_
  have h1 := h.lt
  have h2 := P_le_pow n
  rw [Nat.pow_succ]
  omega
end Go.Proofs.YtocfenjampmdlaaGreatDoor.B
namespace Go.Proofs.YtocfenjampmdlaaGreatDoor.B
open Go.Shelf
def Tryz.laysp99_ren : Go.Shelf.Ren := ⟨fun | 99 => 78 | 206 => 104 | n => n, fun | n => n, fun | n => n⟩
theorem Tryz.laysp99 : Go.Proofs.Lays.n99 Tryz.prog Tryz.laysp99_ren := {
  mixed := by kernel_rfl
  f99 := Tryz.func78.trans (congrArg some (by kernel_rfl))
  f206 := Tryz.func104.trans (congrArg some (by kernel_rfl))
  t3 := Tryz.underlying3
  a3 := Tryz.isAgg3
  z3 := Tryz.sizeOf3
  v3 := Tryz.zeroValue3
  t4 := Tryz.underlying4
  a4 := Tryz.isAgg4
  z4 := Tryz.sizeOf4
  v4 := Tryz.zeroValue4
  t9 := Tryz.underlying9
  a9 := Tryz.isAgg9
  z9 := Tryz.sizeOf9
  v9 := Tryz.zeroValue9 }
open Go.RowKit Go.Lib in
theorem Tryz.strings_HasPrefix (s p : ByteArray) (w : World) :
    Calls Tryz.prog 78 #[.string s, .string p] w fun e w' => e = .returned (.bool (Lib.hasPrefix s.data.toList p.data.toList)) ∧ w' = w := Any.strings_HasPrefix Tryz.laysp99 s p w
end Go.Proofs.YtocfenjampmdlaaGreatDoor.B
namespace Go.Proofs.YtocfenjampmdlaaGreatDoor.B
open Go.RowKit NumB
open Go.Lib (decDigits)

/-- the text of a whole number. -/
def idt (A : Int) : List UInt8 := if A < 0 then 45 :: decDigits A.natAbs else decDigits A.natAbs
theorem bytes_cat (a b : List UInt8) : (⟨a.toArray⟩ : ByteArray) ++ ⟨b.toArray⟩ = ⟨(a ++ b).toArray⟩ := by
  apply ByteArray.ext
  simp

set_option maxHeartbeats 800000 in
theorem Print_any (v : Value) (n : Nat) (A : Int) (w : World) (h : It w v n A) (hn : n ≤ 100000) (ht : Tab w) :
    Calls Tryz.prog 16 #[v] w fun e w' => e = .returned (.string ⟨(idt A).toArray⟩) ∧ Below w.heap.size w w' := by
  obtain ⟨neg, ao, k, cap, a, rfl, hz, hk, rfl, hne, h0⟩ := h
  obtain ⟨u, rfl⟩ := Int.eq_ofNat_of_zero_le h0
  have t0 := below_new w (.cells #[.bool neg, .slice ao k cap] 39)
  have N0 := hid (hz.nt.below t0)
  have HT := hid (ht.below t0 ht.lt)
  have hl := len_dec_nt hz.nt
  have hl1 : ¬ 9223372036854775807 < 1 + (decDigits u).length := by omega
  have hl2 : ¬ 9223372036854775807 < (decDigits u).length := by omega
  have T0 := hid t0
  clear hz ht t0
  cases neg with
  | true =>
    have hu := hne rfl
    have e : idt (sg true (u : Int)) = 45 :: decDigits u := by
      have e1 : (sg true (u : Int)) < 0 := by simp [sg]; omega
      have e2 : (sg true (u : Int)).natAbs = u := by simp [sg]
      unfold idt; rw [if_pos e1, e2]
    rw [e]
    clear hne hu e
    go_enter Tryz.func16, Tryz.ntmps16
    go_wp2_with fail
    generalize w.alloc (.cells #[.bool true, .slice ao k cap] 39) = wa at *
    refine (print_any _ k u _ N0.out (by omega) HT.out).mono ?_
    rintro e w1 ⟨rfl, C1⟩
    go_wp2
    go_ret
    refine ⟨?_, bt T0.out C1⟩
    show Ending.returned (Value.string ((⟨[45].toArray⟩ : ByteArray) ++ ⟨(decDigits u).toArray⟩)) = _
    rw [bytes_cat]; rfl
  | false =>
    have e : idt (sg false (u : Int)) = decDigits u := by
      have e1 : ¬ (sg false (u : Int)) < 0 := by simp [sg]
      have e2 : (sg false (u : Int)).natAbs = u := by simp [sg]
      unfold idt; rw [if_neg e1, e2]
    rw [e]
    clear hne e
    go_enter Tryz.func16, Tryz.ntmps16
    go_wp2_with fail
    generalize w.alloc (.cells #[.bool false, .slice ao k cap] 39) = wa at *
    refine (print_any _ k u _ N0.out (by omega) HT.out).mono ?_
    rintro e w1 ⟨rfl, C1⟩
    go_wp2
    go_ret
    refine ⟨?_, bt T0.out C1⟩
    show Ending.returned (Value.string ((⟨([] : List UInt8).toArray⟩ : ByteArray) ++ ⟨(decDigits u).toArray⟩)) = _
    rw [bytes_cat]; rfl

theorem minus_has (t : List UInt8) : Lib.hasPrefix (45 :: t) [45] = true := by simp [Lib.hasPrefix]
theorem minus_trim (t : List UInt8) : Lib.trimPrefix (45 :: t) [45] = t := by simp [Lib.trimPrefix, Lib.hasPrefix]
theorem digs_has (t : List UInt8) (h : Digs t) : Lib.hasPrefix t [45] = false := by
  cases t with
  | nil => rfl
  | cons c l =>
    have := h c (by simp)
    have hne : (45 == c) = false := by
      rw [beq_eq_false_iff_ne]; rintro rfl; revert this; decide
    show (45 == c && List.isPrefixOf [] l) = false
    rw [hne]; rfl
theorem digs_trim (t : List UInt8) (h : Digs t) : Lib.trimPrefix t [45] = t := by simp [Lib.trimPrefix, digs_has t h]


end Go.Proofs.YtocfenjampmdlaaGreatDoor.B
namespace Go.Proofs.YtocfenjampmdlaaGreatDoor.B
open Go.RowKit NumB

theorem pow_split (s : Nat) (hs : s ≤ 63) : (2 : Int) ^ (64 - s) * 2 ^ s = 18446744073709551616 := by
  rw [← Int.pow_add, show 64 - s + s = 64 by omega]; rfl
theorem shr_hi (b : Int) (s : Nat) (hs : s ≤ 63) : b / 2 ^ (64 - s) = hi (b * 2 ^ s) := by
  unfold hi
  rw [← pow_split s hs, Int.mul_ediv_mul_of_pos_left _ _ (Int.pow_pos (by decide))]
/-- a word moved up, and what comes from below. -/
theorem or_words (x b : Int) (s : Nat) (hs : s ≤ 63) (hx : 0 ≤ x) (hb : 0 ≤ b) (hb' : b ≤ 18446744073709551615) :
    bits .or .u64 (IntKind.u64.wrap (x * 2 ^ s)) (b / 2 ^ (64 - s)) = lo (x * 2 ^ s) + hi (b * 2 ^ s) ∧ 0 ≤ lo (x * 2 ^ s) + hi (b * 2 ^ s) ∧ lo (x * 2 ^ s) + hi (b * 2 ^ s) ≤ 18446744073709551615 := by
  obtain ⟨x, rfl⟩ := Int.eq_ofNat_of_zero_le hx
  obtain ⟨b, rfl⟩ := Int.eq_ofNat_of_zero_le hb
  have hKpos : 0 < 2 ^ s := Nat.two_pow_pos s
  have hMpos : 0 < 2 ^ (64 - s) := Nat.two_pow_pos _
  have hMK : 2 ^ (64 - s) * 2 ^ s = 18446744073709551616 := by rw [← Nat.pow_add, show 64 - s + s = 64 by omega]
  have pK : (2 : Int) ^ s = ((2 ^ s : Nat) : Int) := by simp
  have pM : (2 : Int) ^ (64 - s) = ((2 ^ (64 - s) : Nat) : Int) := by simp
  have hlt : b / 2 ^ (64 - s) < 2 ^ s := by rw [Nat.div_lt_iff_lt_mul hMpos, Nat.mul_comm, hMK]; omega
  rw [← shr_hi _ s hs]
  have e1 : lo ((x : Int) * 2 ^ s) = ((x * 2 ^ s % 18446744073709551616 : Nat) : Int) := by unfold lo; rw [pK, ← Int.natCast_mul]; omega
  have e2 : (b : Int) / 2 ^ (64 - s) = ((b / 2 ^ (64 - s) : Nat) : Int) := by rw [pM, Int.natCast_ediv]
  have e3 : x * 2 ^ s % 18446744073709551616 = x % 2 ^ (64 - s) * 2 ^ s := by rw [← hMK, Nat.mul_mod_mul_right]
  rw [e1, e2, IntKind.wrap_u64, pK, ← Int.natCast_mul, show ((x * 2 ^ s : Nat) : Int) % 18446744073709551616 = ((x * 2 ^ s % 18446744073709551616 : Nat) : Int) by omega]
  have hx1 : x % 2 ^ (64 - s) < 2 ^ (64 - s) := Nat.mod_lt _ hMpos
  have hsum : x % 2 ^ (64 - s) * 2 ^ s + b / 2 ^ (64 - s) < 18446744073709551616 := by
    have : (x % 2 ^ (64 - s) + 1) * 2 ^ s ≤ 2 ^ (64 - s) * 2 ^ s := Nat.mul_le_mul_right _ hx1
    rw [Nat.add_mul, hMK] at this
    omega
  rw [e3, bits_or_u64_nat _ _ (by omega) (by omega)]
  have hor : x % 2 ^ (64 - s) * 2 ^ s ||| b / 2 ^ (64 - s) = x % 2 ^ (64 - s) * 2 ^ s + b / 2 ^ (64 - s) := or_add _ _ s hlt
  rw [hor]
  omega

theorem up_step (x' : Nat → Int) (oz k : Nat) (a c t K : Int) (h : V x' oz k + hi (c * K) * P k = t) :
    V (upd x' (oz + k) (lo (a * K) + hi (c * K))) oz (k + 1) + hi (a * K) * P (k + 1) = t + a * K * P k := by
  rw [V_upd_top]
  have e := lo_hi (a * K)
  generalize lo (a * K) = l at *
  generalize hi (a * K) = m at *
  generalize hi (c * K) = q at *
  simp only [P]
  generalize P k = p at *
  rw [← h, ← e]
  grind

end Go.Proofs.YtocfenjampmdlaaGreatDoor.B
namespace Go.Proofs.YtocfenjampmdlaaGreatDoor.B
open Go.RowKit NumB

theorem lo_mul (c : Int) (s : Nat) (hs : s ≤ 63) : lo (c * 2 ^ (64 - s)) = 2 ^ (64 - s) * (c % 2 ^ s) := by
  unfold lo
  rw [← pow_split s hs, Int.mul_comm c, Int.mul_emod_mul_of_pos _ _ (Int.pow_pos (by decide))]
/-- a word moved down, and what comes from above. -/
theorem or_down (x c : Int) (s : Nat) (hs : s ≤ 63) (hx : 0 ≤ x) (hx' : x ≤ 18446744073709551615) (hc : 0 ≤ c) :
    bits .or .u64 (x / 2 ^ s) (IntKind.u64.wrap (c * 2 ^ (64 - s))) = x / 2 ^ s + lo (c * 2 ^ (64 - s)) ∧ 0 ≤ x / 2 ^ s + lo (c * 2 ^ (64 - s)) ∧ x / 2 ^ s + lo (c * 2 ^ (64 - s)) ≤ 18446744073709551615 := by
  obtain ⟨x, rfl⟩ := Int.eq_ofNat_of_zero_le hx
  obtain ⟨c, rfl⟩ := Int.eq_ofNat_of_zero_le hc
  have hKpos : 0 < 2 ^ s := Nat.two_pow_pos s
  have hMpos : 0 < 2 ^ (64 - s) := Nat.two_pow_pos _
  have hMK : 2 ^ (64 - s) * 2 ^ s = 18446744073709551616 := by rw [← Nat.pow_add, show 64 - s + s = 64 by omega]
  have pK : (2 : Int) ^ s = ((2 ^ s : Nat) : Int) := by simp
  have pM : (2 : Int) ^ (64 - s) = ((2 ^ (64 - s) : Nat) : Int) := by simp
  have hlt : x / 2 ^ s < 2 ^ (64 - s) := by rw [Nat.div_lt_iff_lt_mul hKpos, hMK]; omega
  have e1 : lo ((c : Int) * 2 ^ (64 - s)) = ((c % 2 ^ s * 2 ^ (64 - s) : Nat) : Int) := by
    rw [lo_mul _ s hs, pK, pM, Int.natCast_mul, Int.natCast_emod, Int.mul_comm]
  have e0 : IntKind.u64.wrap ((c : Int) * 2 ^ (64 - s)) = lo ((c : Int) * 2 ^ (64 - s)) := by rw [IntKind.wrap_u64]; rfl
  have e2 : (x : Int) / 2 ^ s = ((x / 2 ^ s : Nat) : Int) := by rw [pK, Int.natCast_ediv]
  rw [e0, e1, e2]
  have hc1 : c % 2 ^ s < 2 ^ s := Nat.mod_lt _ hKpos
  have hsum : c % 2 ^ s * 2 ^ (64 - s) + x / 2 ^ s < 18446744073709551616 := by
    have : (c % 2 ^ s + 1) * 2 ^ (64 - s) ≤ 2 ^ s * 2 ^ (64 - s) := Nat.mul_le_mul_right _ hc1
    rw [Nat.add_mul, Nat.mul_comm (2 ^ s), hMK] at this
    omega
  have hor := or_add (c % 2 ^ s) (x / 2 ^ s) (64 - s) hlt
  clear e0 e1 e2
  generalize c % 2 ^ s * 2 ^ (64 - s) = Q at *
  generalize x / 2 ^ s = R at *
  rw [bits_or_u64_nat _ _ (by omega) (by omega), Nat.or_comm, hor]
  omega
theorem down_step {y c T T2 B K M : Int} (hK : 0 < K) (hB : M * K = B) (hT : T = c + B * T2) : y / K + M * (c % K) + B * (T / K) = (y + B * T) / K := by
  have e1 : T % K = c % K := by
    rw [hT, ← hB, show c + M * K * T2 = c + K * (M * T2) by grind, Int.add_mul_emod_self_left]
  have e2 := Int.emod_add_mul_ediv T K
  have e3 : M * T = M * (c % K) + B * (T / K) := by
    rw [← e1, ← hB]
    generalize T / K = q at *
    generalize T % K = r at *
    rw [← e2]; grind
  rw [show y + B * T = y + K * (M * T) by rw [← hB]; grind, Int.add_mul_ediv_left _ _ (by omega), e3]
  omega

/-- how 'takeTimes' reckons a word. -/
theorem take_word (m o x : Int) (hm : 0 ≤ m) (hm' : m ≤ 340282366920938463426481119284349108225) (ho : 0 ≤ o ∧ o ≤ 18446744073709551615) (hx : 0 ≤ x ∧ x ≤ 18446744073709551615) :
    hi m + hi (lo m + o) ≤ 18446744073709551615 ∧ hi m + hi (lo m + o) + db x (lo (lo m + o)) 0 ≤ 18446744073709551615 ∧ dl x (lo (lo m + o)) 0 - (hi m + hi (lo m + o) + db x (lo (lo m + o)) 0) * 18446744073709551616 = x - m - o ∧ 0 ≤ hi m ∧ 0 ≤ hi (lo m + o) ∧ 0 ≤ db x (lo (lo m + o)) 0 ∧ 0 ≤ dl x (lo (lo m + o)) 0 ∧ dl x (lo (lo m + o)) 0 ≤ 18446744073709551615 := by
  unfold dl db hi lo; split <;> omega
theorem take_step (x : Nat → Int) (o k : Nat) (d q m c t : Int) (he : d - q * 18446744073709551616 = x (o + k) - m - c) (h : V x o k - c * P k = t) :
    V (upd x (o + k) d) o (k + 1) - q * P (k + 1) = t + x (o + k) * P k - m * P k := by
  rw [V_upd_top]
  simp only [P]
  generalize P k = p at *
  generalize x (o + k) = u at *
  have : d = u - m - c + q * 18446744073709551616 := by omega
  rw [← h, this]; grind
theorem word_sq {a b : Int} (ha : 0 ≤ a ∧ a ≤ 18446744073709551615) (hb : 0 ≤ b ∧ b ≤ 18446744073709551615) : 0 ≤ a * b ∧ a * b ≤ 340282366920938463426481119284349108225 := by
  refine ⟨Int.mul_nonneg ha.1 hb.1, ?_⟩
  have : a * b ≤ 18446744073709551615 * b := Int.mul_le_mul_of_nonneg_right ha.2 hb.1
  omega
end Go.Proofs.YtocfenjampmdlaaGreatDoor.B
namespace Go.Proofs.YtocfenjampmdlaaGreatDoor.B
namespace NumB

/-- the state of the steps over the heads A and B. -/
structure Lh (A B x y c d e f : Int) (t : Bool) : Prop where
  hy : 0 ≤ y
  hxy : y ≤ x
  c0 : 0 ≤ c
  d0 : 0 ≤ d
  e0 : 0 ≤ e
  f1 : 1 ≤ f
  ef : e ≤ f
  rows : (t = true ∧ x = c * A - d * B ∧ y = f * B - e * A ∧ c * f - d * e = 1) ∨ (t = false ∧ x = d * B - c * A ∧ y = e * A - f * B ∧ d * e - c * f = 1)
  st : (c = 1 ∧ d = 0 ∧ e = 0 ∧ f = 1) ∨ (c ≤ d ∧ 1 ≤ d ∧ 1 ≤ e)
/-- the rows that are answered. -/
structure Lg (A B a b c d : Int) (t : Bool) : Prop where
  a0 : 0 ≤ a
  ab : a ≤ b
  b1 : 1 ≤ b
  c1 : 1 ≤ c
  cd : c ≤ d
  rows : (t = false ∧ a * d - b * c = 1 ∧ d ≤ d * B - c * A ∧ b + d ≤ a * A - b * B - (d * B - c * A)) ∨
    (t = true ∧ b * c - a * d = 1 ∧ d ≤ c * A - d * B ∧ b + d ≤ b * B - a * A - (c * A - d * B))
theorem Lh.start {A B : Int} (hB : 0 ≤ B) (h : B ≤ A) : Lh A B A B 1 0 0 1 true :=
  ⟨hB, h, by decide, by decide, by decide, by decide, by decide, Or.inl ⟨rfl, by omega, by omega, by decide⟩, Or.inl ⟨rfl, rfl, rfl, rfl⟩⟩
theorem Lh.total {A B x y c d e f : Int} {t : Bool} (h : Lh A B x y c d e f t) : A = f * x + d * y := by
  rcases h.rows with ⟨_, h1, h2, h3⟩ | ⟨_, h1, h2, h3⟩
  · rw [h1, h2]
    have : f * (c * A - d * B) + d * (f * B - e * A) = (c * f - d * e) * A := by grind
    rw [this, h3, Int.one_mul]
  · rw [h1, h2]
    have : f * (d * B - c * A) + d * (e * A - f * B) = (d * e - c * f) * A := by grind
    rw [this, h3, Int.one_mul]
/-- what the test may reckon. -/
theorem Lh.test {A B x y c d e f : Int} {t : Bool} (h : Lh A B x y c d e f t) (hf : f ≤ y) : d + f ≤ A := by
  have e := h.total
  have h1 : f * 1 ≤ f * x := Int.mul_le_mul_of_nonneg_left (by have := h.hxy; have := h.f1; omega) (by have := h.f1; omega)
  have h2 : d * 1 ≤ d * y := Int.mul_le_mul_of_nonneg_left (by have := h.f1; omega) h.d0
  omega
theorem Lh.good {A B x y c d e f : Int} {t : Bool} (h : Lh A B x y c d e f t) (hf : f ≤ y) (hd : d + f ≤ x - y) : d = 0 ∨ Lg A B c d e f (!t) := by
  rcases h.st with h' | ⟨h1, h2, h3⟩
  · exact Or.inl h'.2.1
  · refine Or.inr ⟨h.c0, h1, h2, h3, h.ef, ?_⟩
    rcases h.rows with ⟨rfl, h4, h5, h6⟩ | ⟨rfl, h4, h5, h6⟩
    · exact Or.inl ⟨rfl, by rw [Int.mul_comm d e] at *; grind, by rw [← h5]; exact hf, by rw [← h5, ← h4]; exact hd⟩
    · exact Or.inr ⟨rfl, by grind, by rw [← h5]; exact hf, by rw [← h5, ← h4]; exact hd⟩
theorem Lh.step {A B x y c d e f : Int} {t : Bool} (h : Lh A B x y c d e f t) (hf : f ≤ y) :
    Lh A B y (x - x / y * y) e f (c + x / y * e) (d + x / y * f) (!t) ∧ x - x / y * y = x % y ∧ 1 ≤ x / y ∧ x / y ≤ x ∧ 0 ≤ x / y * y ∧ x / y * y ≤ x ∧ 0 ≤ x / y * e ∧ x / y * e ≤ x / y * f ∧ c + x / y * e ≤ d + x / y * f ∧ d + x / y * f ≤ A ∧ 0 ≤ x % y ∧ x % y < y := by
  have hy : 0 < y := by have := h.f1; omega
  have e1 : x - x / y * y = x % y := by have := Int.emod_add_mul_ediv x y; rw [Int.mul_comm] at this; omega
  have r0 := Int.emod_nonneg x (show y ≠ 0 by omega)
  have r1 := Int.emod_lt_of_pos x hy
  have hq1 : 1 ≤ x / y := (Int.le_ediv_iff_mul_le hy).2 (by have := h.hxy; omega)
  have hqx : x / y * 1 ≤ x / y * y := Int.mul_le_mul_of_nonneg_left (by omega) (by omega)
  generalize hq : x / y = q at *
  rw [← e1] at r0 r1
  have q0 : 0 ≤ q * e := Int.mul_nonneg (by omega) h.e0
  have qe : q * e ≤ q * f := Int.mul_le_mul_of_nonneg_left h.ef (by omega)
  have qf : 1 * f ≤ q * f := Int.mul_le_mul_of_nonneg_right hq1 (by have := h.f1; omega)
  have hce : c + q * e ≤ d + q * f := by
    rcases h.st with ⟨rfl, rfl, rfl, rfl⟩ | ⟨h1, h2, h3⟩ <;> omega
  have f1 := h.f1
  have N : Lh A B y (x - q * y) e f (c + q * e) (d + q * f) (!t) := by
    refine ⟨r0, by omega, h.e0, by omega, by have := h.c0; omega, by have := h.d0; omega, hce, ?_, ?_⟩
    · rcases h.rows with ⟨rfl, h4, h5, h6⟩ | ⟨rfl, h4, h5, h6⟩
      · exact Or.inr ⟨rfl, h5, by rw [h4, h5]; grind, by grind⟩
      · exact Or.inl ⟨rfl, h5, by rw [h4, h5]; grind, by grind⟩
    · right
      refine ⟨h.ef, f1, ?_⟩
      rcases h.st with ⟨rfl, rfl, rfl, rfl⟩ | ⟨h1, h2, h3⟩
      · omega
      · have : 1 * e ≤ q * e := Int.mul_le_mul_of_nonneg_right hq1 h.e0
        have := h.c0; omega
  have hA := N.total
  have b1 : (d + q * f) * 1 ≤ (d + q * f) * y := Int.mul_le_mul_of_nonneg_left (by omega) (by have := h.d0; omega)
  have b2 : 0 ≤ f * (x - q * y) := Int.mul_nonneg (by omega) r0
  exact ⟨N, e1, hq1, by omega, by omega, by omega, q0, qe, hce, by omega, by omega, by omega⟩
/-- what the whole numbers become. -/
def nx (X Y a b : Int) (t : Bool) : Int := if t then b * Y - a * X else a * X - b * Y
def ny (X Y c d : Int) (t : Bool) : Int := if t then c * X - d * Y else d * Y - c * X
theorem lo_bd {k z K : Int} (hk : 0 ≤ k) (h1 : z ≤ K - 1) : k * z ≤ k * K - k := by
  have := Int.mul_le_mul_of_nonneg_left h1 hk
  rw [Int.mul_sub, Int.mul_one] at this
  exact this
theorem Lg.whole {A B a b c d : Int} {t : Bool} (h : Lg A B a b c d t) {X Y K x0 y0 : Int} (hK : 0 < K) (eX : X = A * K + x0) (eY : Y = B * K + y0) (hx0 : 0 ≤ x0) (hx1 : x0 < K) (hy0 : 0 ≤ y0) (hy1 : y0 < K) :
    0 ≤ ny X Y c d t ∧ ny X Y c d t < nx X Y a b t ∧ nx X Y a b t ≤ Y ∧ X = d * nx X Y a b t + b * ny X Y c d t ∧ Y = c * nx X Y a b t + a * ny X Y c d t := by
  have h1 := h.a0; have h2 := h.ab; have h3 := h.b1; have h4 := h.c1; have h5 := h.cd
  rcases h.rows with ⟨rfl, dt, g1, g2⟩ | ⟨rfl, dt, g1, g2⟩
  · have n1 : nx X Y a b false = a * X - b * Y := rfl
    have n2 : ny X Y c d false = d * Y - c * X := rfl
    rw [n1, n2]
    have i1 : X = d * (a * X - b * Y) + b * (d * Y - c * X) := by
      have : d * (a * X - b * Y) + b * (d * Y - c * X) = (a * d - b * c) * X := by grind
      rw [this, dt, Int.one_mul]
    have i2 : Y = c * (a * X - b * Y) + a * (d * Y - c * X) := by
      have : c * (a * X - b * Y) + a * (d * Y - c * X) = (a * d - b * c) * Y := by grind
      rw [this, dt, Int.one_mul]
    have k1 : d * Y - c * X = (d * B - c * A) * K + d * y0 - c * x0 := by rw [eX, eY]; grind
    have k2 : (a * X - b * Y) - (d * Y - c * X) = (a * A - b * B - (d * B - c * A)) * K + (a + c) * x0 - (b + d) * y0 := by rw [eX, eY]; grind
    have l1 := lo_bd (k := c) (by omega) (show x0 ≤ K - 1 by omega)
    have l2 := lo_bd (k := b + d) (by omega) (show y0 ≤ K - 1 by omega)
    have l3 : 0 ≤ d * y0 := Int.mul_nonneg (by omega) hy0
    have l4 : 0 ≤ (a + c) * x0 := Int.mul_nonneg (by omega) hx0
    have l5 : d * K ≤ (d * B - c * A) * K := Int.mul_le_mul_of_nonneg_right g1 (by omega)
    have l6 : (b + d) * K ≤ (a * A - b * B - (d * B - c * A)) * K := Int.mul_le_mul_of_nonneg_right g2 (by omega)
    have l7 : c * K ≤ d * K := Int.mul_le_mul_of_nonneg_right h5 (by omega)
    have p0 : 0 ≤ d * Y - c * X := by omega
    have p1 : d * Y - c * X < a * X - b * Y := by omega
    have p2 : 1 * (a * X - b * Y) ≤ c * (a * X - b * Y) := Int.mul_le_mul_of_nonneg_right h4 (by omega)
    have p3 : 0 ≤ a * (d * Y - c * X) := Int.mul_nonneg h1 p0
    exact ⟨p0, p1, by omega, i1, i2⟩
  · have n1 : nx X Y a b true = b * Y - a * X := rfl
    have n2 : ny X Y c d true = c * X - d * Y := rfl
    rw [n1, n2]
    have i1 : X = d * (b * Y - a * X) + b * (c * X - d * Y) := by
      have : d * (b * Y - a * X) + b * (c * X - d * Y) = (b * c - a * d) * X := by grind
      rw [this, dt, Int.one_mul]
    have i2 : Y = c * (b * Y - a * X) + a * (c * X - d * Y) := by
      have : c * (b * Y - a * X) + a * (c * X - d * Y) = (b * c - a * d) * Y := by grind
      rw [this, dt, Int.one_mul]
    have k1 : c * X - d * Y = (c * A - d * B) * K + c * x0 - d * y0 := by rw [eX, eY]; grind
    have k2 : (b * Y - a * X) - (c * X - d * Y) = (b * B - a * A - (c * A - d * B)) * K + (b + d) * y0 - (a + c) * x0 := by rw [eX, eY]; grind
    have l1 := lo_bd (k := d) (by omega) (show y0 ≤ K - 1 by omega)
    have l2 := lo_bd (k := a + c) (by omega) (show x0 ≤ K - 1 by omega)
    have l3 : 0 ≤ c * x0 := Int.mul_nonneg (by omega) hx0
    have l4 : 0 ≤ (b + d) * y0 := Int.mul_nonneg (by omega) hy0
    have l5 : d * K ≤ (c * A - d * B) * K := Int.mul_le_mul_of_nonneg_right g1 (by omega)
    have l6 : (b + d) * K ≤ (b * B - a * A - (c * A - d * B)) * K := Int.mul_le_mul_of_nonneg_right g2 (by omega)
    have l7 : (a + c) * K ≤ (b + d) * K := Int.mul_le_mul_of_nonneg_right (by omega) (by omega)
    have p0 : 0 ≤ c * X - d * Y := by omega
    have p1 : c * X - d * Y < b * Y - a * X := by omega
    have p2 : 1 * (b * Y - a * X) ≤ c * (b * Y - a * X) := Int.mul_le_mul_of_nonneg_right h4 (by omega)
    have p3 : 0 ≤ a * (c * X - d * Y) := Int.mul_nonneg h1 p0
    exact ⟨p0, p1, by omega, i1, i2⟩
theorem gcd_same {X Y X' Y' a b c d : Int} {t : Bool} (i1 : X = d * X' + b * Y') (i2 : Y = c * X' + a * Y') (e1 : X' = nx X Y a b t) (e2 : Y' = ny X Y c d t) : Int.gcd X' Y' = Int.gcd X Y := by
  apply Nat.dvd_antisymm
  · have h1 := Int.gcd_dvd_left X' Y'
    have h2 := Int.gcd_dvd_right X' Y'
    refine Int.natCast_dvd_natCast.1 (Int.dvd_coe_gcd ?_ ?_)
    · rw [i1]; exact Int.dvd_add (Int.dvd_mul_of_dvd_right h1) (Int.dvd_mul_of_dvd_right h2)
    · rw [i2]; exact Int.dvd_add (Int.dvd_mul_of_dvd_right h1) (Int.dvd_mul_of_dvd_right h2)
  · have h1 := Int.gcd_dvd_left X Y
    have h2 := Int.gcd_dvd_right X Y
    refine Int.natCast_dvd_natCast.1 (Int.dvd_coe_gcd ?_ ?_)
    · rw [e1]; unfold nx; split
      · exact Int.dvd_sub (Int.dvd_mul_of_dvd_right h2) (Int.dvd_mul_of_dvd_right h1)
      · exact Int.dvd_sub (Int.dvd_mul_of_dvd_right h1) (Int.dvd_mul_of_dvd_right h2)
    · rw [e2]; unfold ny; split
      · exact Int.dvd_sub (Int.dvd_mul_of_dvd_right h1) (Int.dvd_mul_of_dvd_right h2)
      · exact Int.dvd_sub (Int.dvd_mul_of_dvd_right h2) (Int.dvd_mul_of_dvd_right h1)
theorem gcd_div {a b q r : Int} (e : q * b + r = a) : Int.gcd b r = Int.gcd a b := by
  apply Nat.dvd_antisymm
  · have h1 := Int.gcd_dvd_left b r
    have h2 := Int.gcd_dvd_right b r
    refine Int.natCast_dvd_natCast.1 (Int.dvd_coe_gcd ?_ h1)
    rw [← e]; exact Int.dvd_add (Int.dvd_mul_of_dvd_right h1) h2
  · have h1 := Int.gcd_dvd_left a b
    have h2 := Int.gcd_dvd_right a b
    refine Int.natCast_dvd_natCast.1 (Int.dvd_coe_gcd h2 ?_)
    have : r = a - q * b := by omega
    rw [this]; exact Int.dvd_sub h1 (Int.dvd_mul_of_dvd_right h2)
end NumB
end Go.Proofs.YtocfenjampmdlaaGreatDoor.B
namespace Go.Proofs.YtocfenjampmdlaaGreatDoor.B
open Go.RowKit NumB

/-- word j of a number, or 0 behind its end. -/
def wy (y : Nat → Int) (p m j : Nat) : Int := if j < m then y (p + j) else 0
/-- the numbers of 'timesLess'. -/
theorem tl_room {X2 X3 : Nat → Int} {m N : Nat} {c T S : Int} (hm : m ≤ N) (h1 : V X3 0 m - c * P m = V X2 0 m - S) (h2 : V X2 0 N = T) (h3 : ∀ j, m ≤ j → X3 j = X2 j) (hw : Wd X3 0 m) (hle : S ≤ T) :
    c ≤ V X3 m (N - m) ∧ V X3 0 m + P m * (V X3 m (N - m) - c) = T - S := by
  have e : V X2 0 N = V X2 0 m + P m * V X2 m (N - m) := by
    have := V_split X2 0 m (N - m)
    rw [Nat.zero_add, show m + (N - m) = N by omega] at this
    exact this
  have e3 : V X3 m (N - m) = V X2 m (N - m) := V_congr _ (fun j hj => h3 _ (by omega))
  have hb := V_bd m hw
  have hp := P_pos m
  rw [e3]
  generalize V X2 m (N - m) = H at *
  have k : P m * (H - c) = P m * H - c * P m := by grind
  have t : V X3 0 m + P m * (H - c) = T - S := by rw [k]; omega
  refine ⟨?_, t⟩
  apply Int.not_lt.1
  intro hc
  have : P m * (H - c) ≤ P m * (-1) := Int.mul_le_mul_of_nonneg_left (by omega) (by omega)
  omega
theorem tl_first {X1 : Nat → Int} {n N : Nat} {c T : Int} (hn : n < N) (h1 : V X1 0 n + c * P n = T) (h2 : ∀ j, n ≤ j → X1 j = 0) : V (upd X1 n c) 0 N = T := by
  have e := V_split (upd X1 n c) 0 (n + 1) (N - (n + 1))
  rw [Nat.zero_add, show n + 1 + (N - (n + 1)) = N by omega] at e
  have z : V (upd X1 n c) (n + 1) (N - (n + 1)) = 0 := V_zero _ (fun j _ => by rw [upd_other _ _ _ _ (by omega)]; exact h2 _ (by omega))
  have t := V_upd_top X1 0 n c
  rw [Nat.zero_add] at t
  rw [e, z, t, h1]; simp
end Go.Proofs.YtocfenjampmdlaaGreatDoor.B
namespace Go.Proofs.YtocfenjampmdlaaGreatDoor.B
open Go.RowKit NumB

/-- three words of a number, two of another, and what stands below them. -/
structure Gd (xl yl p u2 u1 u0 v1 v2 x y : Int) : Prop where
  fp : 0 < p
  fxl : 0 ≤ xl
  fxl' : xl < p
  fyl : 0 ≤ yl
  fyl' : yl < p
  fu2 : 0 ≤ u2
  fu1 : 0 ≤ u1
  fu1' : u1 ≤ 18446744073709551615
  fu0 : 0 ≤ u0
  fu0' : u0 ≤ 18446744073709551615
  fv1 : 9223372036854775808 ≤ v1
  fv1' : v1 ≤ 18446744073709551615
  fv2 : 0 ≤ v2
  fv2' : v2 ≤ 18446744073709551615
  fx : x = xl + (u0 + u1 * 18446744073709551616 + u2 * 340282366920938463463374607431768211456) * p
  fy : y = yl + (v2 + v1 * 18446744073709551616) * p
  flt : x < y * 18446744073709551616
/-- a guess and what it leaves. -/
structure Gt (xl yl p u2 u1 u0 v1 v2 x y g l : Int) : Prop where
  fd : Gd xl yl p u2 u1 u0 v1 v2 x y
  fe : g * v1 + l = u2 * 18446744073709551616 + u1
  fg : 0 ≤ g
  fg' : g ≤ 18446744073709551615
  fl : 0 ≤ l
  fh : x < (g + 1) * y

theorem mul_lt_p {a b p : Int} (hp : 0 < p) (h : a < b) : a * p + p ≤ b * p := by
  have : (a + 1) * p ≤ b * p := Int.mul_le_mul_of_nonneg_right (by omega) (by omega)
  rw [Int.add_mul] at this; omega
theorem Gd.top {xl yl p u2 u1 u0 v1 v2 x y : Int} (h : Gd xl yl p u2 u1 u0 v1 v2 x y) : u2 ≤ v1 := by
  apply Int.not_lt.1
  intro hc
  have h1 := h.flt
  rw [h.fx, h.fy] at h1
  have hp := h.fp
  have e : (yl + (v2 + v1 * 18446744073709551616) * p) * 18446744073709551616 ≤ (u0 + u1 * 18446744073709551616 + u2 * 340282366920938463463374607431768211456) * p := by
    have a1 : yl + (v2 + v1 * 18446744073709551616) * p ≤ (v1 + 1) * 18446744073709551616 * p := by
      have := mul_lt_p hp (show v2 + v1 * 18446744073709551616 < (v1 + 1) * 18446744073709551616 by have := h.fv2'; omega)
      have := h.fyl'; omega
    have a2 : (v1 + 1) * 340282366920938463463374607431768211456 * p ≤ (u0 + u1 * 18446744073709551616 + u2 * 340282366920938463463374607431768211456) * p :=
      Int.mul_le_mul_of_nonneg_right (by have := h.fu0; have := h.fu1; omega) (by omega)
    have a3 : (v1 + 1) * 340282366920938463463374607431768211456 * p = (v1 + 1) * 18446744073709551616 * p * 18446744073709551616 := by grind
    omega
  have := h.fxl
  omega
theorem Gd.same {xl yl p u2 u1 u0 v1 v2 x y : Int} (h : Gd xl yl p u2 u1 u0 v1 v2 x y) (he : u2 = v1) : x < (18446744073709551615 + 1) * y ∧ (18446744073709551615 - 1) * y ≤ x := by
  subst he
  have hp := h.fp
  constructor
  · have := h.flt; omega
  · have h1 := h.fx
    have h2 := h.fy
    have a1 : y ≤ (u2 + 1) * 18446744073709551616 * p := by
      have := mul_lt_p hp (show v2 + u2 * 18446744073709551616 < (u2 + 1) * 18446744073709551616 by have := h.fv2'; omega)
      have := h.fyl'; omega
    have a2 : 18446744073709551614 * ((u2 + 1) * 18446744073709551616 * p) ≤ (u0 + u1 * 18446744073709551616 + u2 * 340282366920938463463374607431768211456) * p := by
      rw [← Int.mul_assoc]
      exact Int.mul_le_mul_of_nonneg_right (by have := h.fu0; have := h.fu1; have := h.fv1; omega) (by omega)
    have := h.fxl
    omega
theorem Gt.start {xl yl p u2 u1 u0 v1 v2 x y : Int} (h : Gd xl yl p u2 u1 u0 v1 v2 x y) (hlt : u2 < v1) : Gt xl yl p u2 u1 u0 v1 v2 x y (dq u2 u1 v1) (dr u2 u1 v1) := by
  obtain ⟨b1, b2, b3, b4, b5⟩ := dq_bd h.fu2 ⟨h.fu1, h.fu1'⟩ hlt
  refine ⟨h, b5, b1, b2, b3, ?_⟩
  have hp := h.fp
  have a1 : u2 * 18446744073709551616 + u1 + 1 ≤ (dq u2 u1 v1 + 1) * v1 := by rw [Int.add_mul]; omega
  have a2 : (u2 * 18446744073709551616 + u1 + 1) * 18446744073709551616 * p ≤ (dq u2 u1 v1 + 1) * v1 * 18446744073709551616 * p :=
    Int.mul_le_mul_of_nonneg_right (by omega) (by omega)
  have a3 : (dq u2 u1 v1 + 1) * (v1 * 18446744073709551616 * p) ≤ (dq u2 u1 v1 + 1) * y := by
    refine Int.mul_le_mul_of_nonneg_left ?_ (by omega)
    rw [h.fy]
    have := h.fyl
    have : v1 * 18446744073709551616 * p ≤ (v2 + v1 * 18446744073709551616) * p := Int.mul_le_mul_of_nonneg_right (by have := h.fv2; omega) (by omega)
    omega
  have a4 : x < (u2 * 18446744073709551616 + u1 + 1) * 18446744073709551616 * p := by
    rw [h.fx]
    have := mul_lt_p hp (show u0 + u1 * 18446744073709551616 + u2 * 340282366920938463463374607431768211456 < (u2 * 18446744073709551616 + u1 + 1) * 18446744073709551616 by have := h.fu0'; omega)
    have := h.fxl'
    omega
  have a5 : (dq u2 u1 v1 + 1) * (v1 * 18446744073709551616 * p) = (dq u2 u1 v1 + 1) * v1 * 18446744073709551616 * p := by grind
  omega
theorem Gt.three {xl yl p u2 u1 u0 v1 v2 x y g l : Int} (h : Gt xl yl p u2 u1 u0 v1 v2 x y g l) : g * (v2 + v1 * 18446744073709551616) = g * v2 + (u2 * 18446744073709551616 + u1) * 18446744073709551616 - l * 18446744073709551616 := by
  rw [← h.fe]; grind
theorem Gt.done {xl yl p u2 u1 u0 v1 v2 x y g l : Int} (h : Gt xl yl p u2 u1 u0 v1 v2 x y g l) (ht : g * v2 ≤ l * 18446744073709551616 + u0) : (g - 1) * y ≤ x := by
  have hd := h.fd
  have hp := hd.fp
  have h3 := h.three
  have hy : y ≤ (v2 + v1 * 18446744073709551616 + 1) * p := by rw [hd.fy, Int.add_mul _ 1 p]; have := hd.fyl'; omega
  by_cases hg : g = 0
  · subst hg
    have h0 : 0 ≤ y := by rw [hd.fy]; have := hd.fyl; have := Int.mul_nonneg (show 0 ≤ v2 + v1 * 18446744073709551616 by have := hd.fv2; have := hd.fv1; omega) (Int.le_of_lt hp); omega
    have h1 : 0 ≤ x := by rw [hd.fx]; have := hd.fxl; have := Int.mul_nonneg (show 0 ≤ u0 + u1 * 18446744073709551616 + u2 * 340282366920938463463374607431768211456 by have := hd.fu0; have := hd.fu1; have := hd.fu2; omega) (Int.le_of_lt hp); omega
    omega
  · have a1 : (g - 1) * y ≤ (g - 1) * ((v2 + v1 * 18446744073709551616 + 1) * p) := Int.mul_le_mul_of_nonneg_left hy (by have := h.fg; omega)
    have a2 : (g - 1) * ((v2 + v1 * 18446744073709551616 + 1) * p) = (g * (v2 + v1 * 18446744073709551616) + g - (v2 + v1 * 18446744073709551616) - 1) * p := by grind
    have a3 : (g * (v2 + v1 * 18446744073709551616) + g - (v2 + v1 * 18446744073709551616) - 1) * p ≤ (u0 + u1 * 18446744073709551616 + u2 * 340282366920938463463374607431768211456) * p := by
      refine Int.mul_le_mul_of_nonneg_right ?_ (by omega)
      rw [h3]
      have := h.fg'; have := hd.fv1; have := hd.fv2
      omega
    have := hd.fx; have := hd.fxl
    omega
theorem Gt.less {xl yl p u2 u1 u0 v1 v2 x y g l : Int} (h : Gt xl yl p u2 u1 u0 v1 v2 x y g l) (ht : l * 18446744073709551616 + u0 < g * v2) : 1 ≤ g ∧ Gt xl yl p u2 u1 u0 v1 v2 x y (g - 1) (l + v1) := by
  have hd := h.fd
  have hp := hd.fp
  have h3 := h.three
  have h1 : 1 ≤ g := by
    apply Int.not_lt.1
    intro hc
    have : g = 0 := by have := h.fg; omega
    subst this
    have := h.fl; have := hd.fu0
    omega
  refine ⟨h1, hd, by rw [Int.sub_mul, ← h.fe]; omega, by omega, by have := h.fg'; omega, by have := h.fl; have := hd.fv1; omega, ?_⟩
  rw [show g - 1 + 1 = g by omega]
  have a1 : (u0 + u1 * 18446744073709551616 + u2 * 340282366920938463463374607431768211456 + 1) * p ≤ g * (v2 + v1 * 18446744073709551616) * p :=
    Int.mul_le_mul_of_nonneg_right (by rw [h3]; omega) (by omega)
  have a2 : g * ((v2 + v1 * 18446744073709551616) * p) ≤ g * y := Int.mul_le_mul_of_nonneg_left (by rw [hd.fy]; have := hd.fyl; omega) (by omega)
  have a3 : g * ((v2 + v1 * 18446744073709551616) * p) = g * (v2 + v1 * 18446744073709551616) * p := by grind
  have := hd.fx; have := hd.fxl'
  rw [Int.add_mul _ 1 p] at a1
  omega
theorem test_yes {m l u : Int} (h : hi m < l ∨ hi m = l ∧ lo m ≤ u) (hu : 0 ≤ u) : m ≤ l * 18446744073709551616 + u := by unfold hi lo at h; omega
theorem test_no {m l u : Int} (h1 : ¬ hi m < l) (h2 : ¬ (hi m = l ∧ lo m ≤ u)) (hu : u ≤ 18446744073709551615) : l * 18446744073709551616 + u < m := by unfold hi lo at *; omega
end Go.Proofs.YtocfenjampmdlaaGreatDoor.B
namespace Go.Proofs.YtocfenjampmdlaaGreatDoor.B
open Go.RowKit NumB

theorem div64_quiet (h l y : Int) (w : World) (n : Nat) (hh : 0 ≤ h) (hl : 0 ≤ l) (hl1 : l ≤ 18446744073709551615) (hy : h < y) (hy1 : y ≤ 18446744073709551615) :
    Calls Tryz.prog 49 #[.int .u64 h, .int .u64 l, .int .u64 y] (w.drewN n) fun e w' => e = .returned (.tuple #[.int .u64 (dq h l y), .int .u64 (dr h l y)]) ∧ ∃ m, w' = w.drewN m := by
  refine (div64_any h l y (w.drewN n) hh hl hl1 hy hy1).mono ?_
  rintro e w' ⟨rfl, k, rfl⟩
  exact ⟨rfl, n + k, by simp⟩

end Go.Proofs.YtocfenjampmdlaaGreatDoor.B
namespace Go.Proofs.YtocfenjampmdlaaGreatDoor.B
open Go.RowKit NumB

theorem gd_of {X Y : Nat → Int} {o q m : Nat} (hX : Wd X o (m + 3)) (hY : Wd Y q (m + 2)) (ht : 9223372036854775808 ≤ Y (q + (m + 1))) (hlt : V X o (m + 3) < V Y q (m + 2) * 18446744073709551616) :
    Gd (V X o m) (V Y q m) (P m) (X (o + (m + 2))) (X (o + (m + 1))) (X (o + m)) (Y (q + (m + 1))) (Y (q + m)) (V X o (m + 3)) (V Y q (m + 2)) := by
  have x1 := V_bd m (hX.mono (by omega))
  have y1 := V_bd m (hY.mono (by omega))
  have a2 := hX (m + 2) (by omega); have a1 := hX (m + 1) (by omega); have a0 := hX m (by omega)
  have b1 := hY (m + 1) (by omega); have b0 := hY m (by omega)
  refine ⟨P_pos m, x1.1, x1.2, y1.1, y1.2, a2.1, a1.1, a1.2, a0.1, a0.2, ht, b1.2, b0.1, b0.2, ?_, ?_, hlt⟩
  · simp only [V, P]; grind
  · simp only [V, P]; grind

/-- the digit was not too great. -/
theorem dig_ok {x y g t v u p : Int} (e : t - v * p = x - u * p - y * g) (hx : 0 ≤ t) (ht : t < p) (hy : y ≤ p) (hvu : v ≤ u) (h1 : x < (g + 1) * y) : v = u ∧ t = x - g * y ∧ x - g * y < y := by
  have e1 : (g + 1) * y = y * g + y := by grind
  have e2 : g * y = y * g := by grind
  have hp : 0 < p := by omega
  by_cases h : v = u
  · subst h; refine ⟨rfl, by omega, by omega⟩
  · have : (v + 1) * p ≤ u * p := Int.mul_le_mul_of_nonneg_right (by omega) (by omega)
    rw [Int.add_mul] at this
    omega
/-- the digit was one too great. -/
theorem dig_over {x y g t v u p t2 c : Int} (e : t - v * p = x - u * p - y * g) (e2 : t2 + c * p = t + y) (h2 : 0 ≤ t2) (h2' : t2 < p) (ht : t < p) (_hy0 : 0 < y) (hy : y ≤ p) (hvu : u < v) (h1 : (g - 1) * y ≤ x) : t2 = x - (g - 1) * y ∧ x - (g - 1) * y < y := by
  have e3 : (g - 1) * y = y * g - y := by grind
  have hp : 0 < p := by omega
  have e4 : (c - (v - u)) * p = c * p - v * p + u * p := by grind
  have e5 : (v - u) * p = v * p - u * p := by grind
  have a1 : x - (g - 1) * y = t2 + (c - (v - u)) * p := by omega
  have hx : x - y * g = t - (v - u) * p := by omega
  have a2 : (1 : Int) * p ≤ (v - u) * p := Int.mul_le_mul_of_nonneg_right (by omega) (by omega)
  have lt : x - (g - 1) * y < y := by omega
  have z : c - (v - u) = 0 := by
    have nn : 0 ≤ x - (g - 1) * y := by omega
    by_cases hz : 0 ≤ c - (v - u)
    · by_cases hz2 : 1 ≤ c - (v - u)
      · have : 1 * p ≤ (c - (v - u)) * p := Int.mul_le_mul_of_nonneg_right hz2 (by omega)
        omega
      · omega
    · have : (c - (v - u)) * p ≤ (-1) * p := Int.mul_le_mul_of_nonneg_right (by omega) (by omega)
      omega
  rw [z] at a1
  refine ⟨by omega, lt⟩

end Go.Proofs.YtocfenjampmdlaaGreatDoor.B
