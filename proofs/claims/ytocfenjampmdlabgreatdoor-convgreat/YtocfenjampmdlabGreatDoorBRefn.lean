/- Whole numbers: their texts. -/
/- The document's answer, by decimal digits: 'digit' and 'strip' of the package vinculumref01. -/
/- Bytes that are laid one by one, and "turned" of the reference. -/
/- "Add" of the reference: the sum by decimal digits. -/
/- "Word" and "Cmp" of the reference. -/
/- "Sub" of the reference. -/
/- "Mul" of the reference: plain facts, and rows of ints. -/
/- "Mul" of the reference. -/
import Derived.Test.YtocfenjampmdlabGreatDoorBIntn
import Derived.Test.YtocfenjampmdlabGreatDoorBRep
import Derived.Test.YtocfenjampmdlabGreatDoorBPfx
namespace Go.Proofs.YtocfenjampmdlabGreatDoor.B
open Go.RowKit NumB
open Go.Lib (decDigits)

/-- the text of a whole number. -/
def idt (A : Int) : List UInt8 := if A < 0 then 45 :: decDigits A.natAbs else decDigits A.natAbs
theorem bytes_cat (a b : List UInt8) : (⟨a.toArray⟩ : ByteArray) ++ ⟨b.toArray⟩ = ⟨(a ++ b).toArray⟩ := by
  apply ByteArray.ext
  simp

set_option maxHeartbeats 800000 in
theorem Print_any (v : Value) (n : Nat) (A : Int) (w : World) (h : It w v n A) (hn : n ≤ 100000) (ht : Tab w) :
    Calls Tryz.prog 12 #[v] w fun e w' => e = .returned (.string ⟨(idt A).toArray⟩) ∧ Below w.heap.size w w' := by
  obtain ⟨neg, ao, k, cap, a, rfl, hz, hk, rfl, hne, h0⟩ := h
  obtain ⟨u, rfl⟩ := Int.eq_ofNat_of_zero_le h0
  have t0 := below_new w (.cells #[.bool neg, .slice ao k cap] 42)
  have N0 := hid (hz.nt.below t0)
  have HT := hid (ht.below t0 ht.lt)
  have hl := len_dec_nt hz.nt
  have hl1 : ¬ 9223372036854775807 < 1 + (decDigits u).length := by omega
  have hl2 : ¬ 9223372036854775807 < (decDigits u).length := by omega
  have T0 := hid t0
  clear hz ht t0
  cases neg with
  | true =>
    have hu := hne rfl
    have e : idt (sg true (u : Int)) = 45 :: decDigits u := by
      have e1 : (sg true (u : Int)) < 0 := by simp [sg]; omega
      have e2 : (sg true (u : Int)).natAbs = u := by simp [sg]
      unfold idt; rw [if_pos e1, e2]
    rw [e]
    clear hne hu e
    go_enter Tryz.func12, Tryz.ntmps12
    go_wp2_with fail
    generalize w.alloc (.cells #[.bool true, .slice ao k cap] 42) = wa at *
    refine (print_any _ k u _ N0.out (by omega) HT.out).mono ?_
    rintro e w1 ⟨rfl, C1⟩
    go_wp2
    go_ret
    refine ⟨?_, bt T0.out C1⟩
    show Ending.returned (Value.string ((⟨[45].toArray⟩ : ByteArray) ++ ⟨(decDigits u).toArray⟩)) = _
    rw [bytes_cat]; rfl
  | false =>
    have e : idt (sg false (u : Int)) = decDigits u := by
      have e1 : ¬ (sg false (u : Int)) < 0 := by simp [sg]
      have e2 : (sg false (u : Int)).natAbs = u := by simp [sg]
      unfold idt; rw [if_neg e1, e2]
    rw [e]
    clear hne e
    go_enter Tryz.func12, Tryz.ntmps12
    go_wp2_with fail
    generalize w.alloc (.cells #[.bool false, .slice ao k cap] 42) = wa at *
    refine (print_any _ k u _ N0.out (by omega) HT.out).mono ?_
    rintro e w1 ⟨rfl, C1⟩
    go_wp2
    go_ret
    refine ⟨?_, bt T0.out C1⟩
    show Ending.returned (Value.string ((⟨([] : List UInt8).toArray⟩ : ByteArray) ++ ⟨(decDigits u).toArray⟩)) = _
    rw [bytes_cat]; rfl

theorem minus_has (t : List UInt8) : Lib.hasPrefix (45 :: t) [45] = true := by simp [Lib.hasPrefix]
theorem minus_trim (t : List UInt8) : Lib.trimPrefix (45 :: t) [45] = t := by simp [Lib.trimPrefix, Lib.hasPrefix]
theorem digs_has (t : List UInt8) (h : Digs t) : Lib.hasPrefix t [45] = false := by
  cases t with
  | nil => rfl
  | cons c l =>
    have := h c (by simp)
    have hne : (45 == c) = false := by
      rw [beq_eq_false_iff_ne]; rintro rfl; revert this; decide
    show (45 == c && List.isPrefixOf [] l) = false
    rw [hne]; rfl
theorem digs_trim (t : List UInt8) (h : Digs t) : Lib.trimPrefix t [45] = t := by simp [Lib.trimPrefix, digs_has t h]


end Go.Proofs.YtocfenjampmdlabGreatDoor.B
namespace Go.Proofs.YtocfenjampmdlabGreatDoor.B
open Go.RowKit NumB
open Go.Lib (decDigits)

/-- the number of digits, the lowest one first. -/
def lv : List UInt8 → Nat
  | [] => 0
  | c :: t => (c.toNat - 48) + 10 * lv t
theorem dval_reverse : ∀ l, dval l.reverse = lv l
  | [] => by simp [dval, lv]
  | c :: t => by rw [List.reverse_cons, dval_snoc, dval_reverse t, lv]; omega
theorem lv_snoc : ∀ (l : List UInt8) (c : UInt8), lv (l ++ [c]) = lv l + 10 ^ l.length * (c.toNat - 48)
  | [], c => by simp [lv]
  | d :: t, c => by
    rw [List.cons_append, lv, lv_snoc t c, lv, List.length_cons, Nat.pow_succ]
    generalize 10 ^ t.length = p
    generalize c.toNat - 48 = r
    have : p * 10 * r = 10 * (p * r) := by grind
    omega
theorem lv_reverse (l : List UInt8) : lv l.reverse = dval l := by rw [← dval_reverse, List.reverse_reverse]
theorem dig_back {c : UInt8} (h : 48 ≤ c.toNat) : UInt8.ofNat (48 + (c.toNat - 48)) = c := by
  rw [show 48 + (c.toNat - 48) = c.toNat by omega]; simp
theorem canon (l : List UInt8) : Digs l → l ≠ [] → (l.length = 1 ∨ ∃ c t, l = c :: t ∧ c.toNat ≠ 48) → decDigits (dval l) = l := by
  refine rev_ind (P := fun l => Digs l → l ≠ [] → (l.length = 1 ∨ ∃ c t, l = c :: t ∧ c.toNat ≠ 48) → decDigits (dval l) = l) (fun _ h => absurd rfl h) (fun t c ih hd _ hh => ?_) l
  have hc := hd c (by simp)
  have hv := dval_snoc t c
  by_cases ht : t = []
  · subst ht
    have : dval ([] : List UInt8) = 0 := rfl
    rw [hv, this, dec_small (by omega), Nat.mul_zero, Nat.zero_add, dig_back hc.1]; rfl
  · have hlen : 0 < t.length := List.length_pos_iff.2 ht
    have hh' : ∃ c t', t = c :: t' ∧ c.toNat ≠ 48 := by
      rcases hh with h | ⟨d, s, e, hd⟩
      · rw [List.length_append, List.length_singleton] at h; omega
      · cases t with
        | nil => exact absurd rfl ht
        | cons d' t' => rw [List.cons_append] at e; obtain ⟨rfl, _⟩ := List.cons.inj e; exact ⟨d', t', rfl, hd⟩
    have h1 := ih (fun x hx => hd x (by simp [hx])) ht (Or.inr hh')
    have h0 : dval t ≠ 0 := by
      intro e
      rw [e, dec_small (by decide)] at h1
      obtain ⟨d, s, e', hd'⟩ := hh'
      rw [e'] at h1
      obtain ⟨e2, _⟩ := List.cons.inj h1
      rw [← e2] at hd'
      exact hd' (by decide)
    rw [decDigits_big (by omega), show dval (t ++ [c]) / 10 = dval t by omega, h1, show dval (t ++ [c]) % 10 = c.toNat - 48 by omega, dig_back hc.1]
theorem dval_zero_cons (l : List UInt8) : dval (48 :: l) = dval l := by
  have := dval_append [48] l
  rw [List.singleton_append] at this
  rw [this]
  simp [dval]

/-- the digit at a place from the end. -/
def dg (l : List UInt8) (i : Nat) : Nat := (l.reverse.getD i 48).toNat - 48
/-- what the lowest i digits say. -/
def low (l : List UInt8) (i : Nat) : Nat := lv (l.reverse.take i)
theorem low_succ (l : List UInt8) (i : Nat) : low l (i + 1) = low l i + 10 ^ i * dg l i := by
  unfold low dg
  by_cases h : i < l.reverse.length
  · rw [List.take_succ_eq_append_getElem h, lv_snoc, List.length_take, Nat.min_eq_left (by omega), List.getD_eq_getElem?_getD, List.getElem?_eq_getElem h]; rfl
  · rw [List.take_of_length_le (by omega), List.take_of_length_le (by omega), List.getD_eq_getElem?_getD, List.getElem?_eq_none (by omega)]; simp
theorem low_all (l : List UInt8) (i : Nat) (h : l.length ≤ i) : low l i = dval l := by
  unfold low
  rw [List.take_of_length_le (by simpa using h), lv_reverse]
theorem dg_le (l : List UInt8) (hd : Digs l) (i : Nat) : dg l i ≤ 9 := by
  unfold dg
  by_cases h : i < l.reverse.length
  · rw [List.getD_eq_getElem?_getD, List.getElem?_eq_getElem h]
    have := hd l.reverse[i] (List.mem_reverse.1 (List.getElem_mem h))
    simp only [Option.getD_some]; omega
  · rw [List.getD_eq_getElem?_getD, List.getElem?_eq_none (by omega)]; simp
theorem dg_at (s : ByteArray) (i : Nat) (h : i < s.size) : dg s.data.toList i = (s[s.size - 1 - i]'(by omega)).toNat - 48 := by
  unfold dg
  have hl : s.data.toList.length = s.size := rfl
  rw [List.getD_eq_getElem?_getD, List.getElem?_reverse (by omega), hl, List.getElem?_eq_getElem (by omega)]
  rfl
theorem dg_over (s : ByteArray) (i : Nat) (h : s.size ≤ i) : dg s.data.toList i = 0 := by
  unfold dg
  have hl : s.data.toList.length = s.size := rfl
  rw [List.getD_eq_getElem?_getD, List.getElem?_eq_none (by rw [List.length_reverse]; omega)]; simp
theorem digs_at {s : ByteArray} (h : Digs s.data.toList) {j : Nat} (hj : j < s.size) : 48 ≤ s[j].toNat ∧ s[j].toNat ≤ 57 :=
  h s[j] (by have : s[j] = s.data.toList[j]'(by simpa using hj) := rfl
             rw [this]; exact List.getElem_mem _)

/-- the text of a number's digits. -/
def dt (n : Nat) : ByteArray := ⟨(decDigits n).toArray⟩
theorem dt_list (n : Nat) : (dt n).data.toList = decDigits n := rfl
theorem bytes_eq {a b : ByteArray} (h : a.data.toList = b.data.toList) : a = b := by
  cases a with | mk x => cases b with | mk y => cases x; cases y; simp at h; subst h; rfl
theorem strip_end {t : ByteArray} (hd : Digs t.data.toList) (h0 : 0 < t.size) (h : t.size = 1 ∨ t[0].toNat ≠ 48) : t = dt (dval t.data.toList) := by
  refine bytes_eq ?_
  rw [dt_list]
  have hl : t.data.toList.length = t.size := rfl
  refine (canon _ hd (fun e => by rw [e] at hl; simp at hl; omega) ?_).symm
  rcases h with h | h
  · left; omega
  · right
    cases hc : t.data.toList with
    | nil => rw [hc] at hl; simp at hl; omega
    | cons c l =>
      refine ⟨c, l, rfl, ?_⟩
      have : t[0] = t.data.toList[0]'(by omega) := rfl
      rw [this] at h
      simp only [hc, List.getElem_cons_zero] at h
      exact h
theorem strip_step {t t2 : ByteArray} (h : t[0]? = some 48) (e : t2.data.toList = t.data.toList.drop 1) : dval t2.data.toList = dval t.data.toList := by
  rw [e]
  cases hc : t.data.toList with
  | nil => rfl
  | cons c l =>
    have : t[0]? = t.data.toList[0]? := by simp [getElem?_def]; rfl
    rw [this, hc] at h
    simp at h
    subst h
    rw [List.drop_one, List.tail_cons, dval_zero_cons]

end Go.Proofs.YtocfenjampmdlabGreatDoor.B
namespace Go.Proofs.YtocfenjampmdlabGreatDoor.B
open Go.RowKit NumB
open Go.Lib (decDigits)
def OwB (w : World) (base : Nat) (v : Value) (l : List UInt8) : Prop := w.ownsRow base 5 1 v l.length (Lib.byteCells l)
/-- bytes that stand in a slice. -/
def Bt (w : World) (v : Value) (l : List UInt8) : Prop :=
  ∃ ao cap, v = .slice ao l.length cap ∧ l.length ≤ cap ∧ (0 < l.length → ∃ b off, ao = some ⟨b, off, none⟩ ∧ b < w.heap.size ∧ ∀ j (hj : j < l.length), w.cell? ⟨b, off + j, none⟩ = some (.int .u8 l[j].toNat))
theorem byteCells_get (l : List UInt8) (j : Nat) (hj : j < l.length) : (Lib.byteCells l)[j]? = some (.int .u8 l[j].toNat) := by
  simp [Lib.byteCells, List.getElem?_eq_getElem hj]
theorem OwB.bt {w : World} {base : Nat} {v : Value} {l : List UInt8} (h : OwB w base v l) : Bt w v l := by
  rcases h.2 with ⟨rfl, h0⟩ | ⟨g, cap, cur, rfl, hg, hgg, hgc, hgm, hgs, htk⟩
  · refine ⟨none, 0, by rw [h0], by omega, fun h => by omega⟩
  · refine ⟨_, cap, rfl, hgc, fun _ => ⟨g, 0, rfl, (Array.getElem?_eq_some_iff.1 hgg).1, fun j hj => ?_⟩⟩
    rw [Nat.zero_add]
    have := World.ownsRow.cellAt h j (by omega)
    rw [this, byteCells_get l j hj]
theorem OwB.str {w : World} {base : Nat} {v : Value} {l : List UInt8} (h : OwB w base v l) : (convert 71 9 v).run Tryz.prog w = .ok (.string ⟨l.toArray⟩) w := by
  obtain ⟨ao, cap, rfl, hc, hl⟩ := h.bt
  cases l with
  | nil =>
    cases ao with
    | none => exact run_convert_bytes_nil _ 71 5 Tryz.underlying71 Tryz.underlying5 _ _ 9 Tryz.underlying9
    | some ad => exact run_convert_bytes_back (P := Tryz.prog) w 71 9 5 ad cap [] Tryz.underlying71 Tryz.underlying5 Tryz.underlying9 (fun j hj => by simp at hj)
  | cons c t =>
    obtain ⟨b, off, rfl, hb, hcell⟩ := hl (by simp)
    exact run_convert_bytes_back (P := Tryz.prog) w 71 9 5 ⟨b, off, none⟩ cap (c :: t) Tryz.underlying71 Tryz.underlying5 Tryz.underlying9 (fun j hj => by have h := hcell j hj; simp only [Addr.add]; split; (next e => subst e; exact h); exact h)
theorem Bt.below {w w' : World} {v : Value} {l : List UInt8} (h : Bt w v l) (hb : Below w.heap.size w w') : Bt w' v l := by
  obtain ⟨ao, cap, rfl, h1, h2⟩ := h
  refine ⟨ao, cap, rfl, h1, fun hn => ?_⟩
  obtain ⟨b, off, rfl, hbs, hc⟩ := h2 hn
  exact ⟨b, off, rfl, Nat.lt_of_lt_of_le hbs hb.size, fun j hj => by rw [hb.cell (p := ⟨b, off + j, none⟩) hbs]; exact hc j hj⟩
theorem grown_below {w w' : World} {base n : Nat} {e : TypeId} {v : Value} {xs : List Value} (h : w.ownsRow base e 1 v n xs) (g : w.grownBy w' v.ownBlock) (hb : base ≤ w.heap.size) : Below base w w' :=
  ⟨g.os, g.tape, g.output, g.size, fun _ hk => own_block h g hk (by omega)⟩
theorem OwB.push {w w3 : World} {base N : Nat} {v v' : Value} {L : List UInt8} {c : UInt8} {o : Obj} (h : OwB w base v L) (hb : base ≤ w.heap.size) (hN : N = L.length + 1)
    (own : w3.ownsRow base 5 1 v' N (Lib.byteCells L ++ [.int .u8 (c.toNat : Int)])) (grow : (w.alloc o).grownBy w3 v.ownBlock) : OwB w3 base v' (L ++ [c]) ∧ Below base w w3 ∧ base ≤ w3.heap.size := by
  have h2 : (w.alloc o).ownsRow base 5 1 v L.length (Lib.byteCells L) := World.ownsRow.alloc h _
  have b2 := grown_below h2 grow (by simp; omega)
  refine ⟨?_, ((Below.refl _ _).alloc hb o).trans b2, ?_⟩
  · subst hN
    unfold OwB
    rw [List.length_append, List.length_singleton]
    simpa [Lib.byteCells] using own
  · have := b2.size; simp at this; omega

end Go.Proofs.YtocfenjampmdlabGreatDoor.B
namespace Go.Proofs.YtocfenjampmdlabGreatDoor.B
open Go.RowKit NumB
open Go.Lib (decDigits)
def AdRel (x y : List UInt8) (i c : Nat) (L : List UInt8) : Prop := Digs L ∧ L.length = i ∧ lv L + 10 ^ i * c = low x i + low y i
theorem digs_snoc {L : List UInt8} (h : Digs L) {d : Nat} (hd : d < 10) : Digs (L ++ [UInt8.ofNat (48 + d)]) := by
  intro c hc
  rcases List.mem_append.1 hc with hc | hc
  · exact h c hc
  · simp only [List.mem_singleton] at hc
    subst hc; rw [dig_nat hd]; omega
theorem AdRel.step {x y : List UInt8} {i c : Nat} {L : List UInt8} (h : AdRel x y i c L) : AdRel x y (i + 1) ((dg x i + dg y i + c) / 10) (L ++ [UInt8.ofNat (48 + (dg x i + dg y i + c) % 10)]) := by
  obtain ⟨h1, h2, h3⟩ := h
  refine ⟨digs_snoc h1 (by omega), by simp [h2], ?_⟩
  rw [lv_snoc, dig_nat (by omega), h2, low_succ, low_succ, Nat.pow_succ]
  generalize 10 ^ i = p at *
  generalize dg x i = a
  generalize dg y i = b
  obtain ⟨n, hn⟩ : ∃ n, n = a + b + c := ⟨_, rfl⟩
  rw [← hn, Nat.add_sub_cancel_left]
  have e1 : p * (n % 10) + p * 10 * (n / 10) = p * n := by
    have : p * n = p * (10 * (n / 10) + n % 10) := by rw [Nat.div_add_mod]
    rw [this]; grind
  have e2 : p * n = p * a + p * b + p * c := by rw [hn]; grind
  omega
theorem AdRel.done {x y : List UInt8} {i : Nat} {L : List UInt8} (h : AdRel x y i 0 L) (hx : x.length ≤ i) (hy : y.length ≤ i) : lv L = dval x + dval y := by
  obtain ⟨_, _, h3⟩ := h
  rw [low_all x i hx, low_all y i hy] at h3; omega
theorem turn_strip {L : List UInt8} : dval (⟨L.reverse.toArray⟩ : ByteArray).data.toList = lv L := dval_reverse L
theorem digs_rev {L : List UInt8} (h : Digs L) : Digs (⟨L.reverse.toArray⟩ : ByteArray).data.toList := fun c hc => h c (List.mem_reverse.1 hc)
end Go.Proofs.YtocfenjampmdlabGreatDoor.B
namespace Go.Proofs.YtocfenjampmdlabGreatDoor.B
open Go.RowKit NumB
open Go.Lib (decDigits)
def WdRel (w0 u : Nat) (L : List UInt8) : Prop := Digs L ∧ lv L + 10 ^ L.length * u = w0
theorem WdRel.step {w0 u : Nat} {L : List UInt8} (h : WdRel w0 u L) : WdRel w0 (u / 10) (L ++ [UInt8.ofNat (48 + u % 10)]) := by
  obtain ⟨h1, h3⟩ := h
  refine ⟨digs_snoc h1 (by omega), ?_⟩
  rw [lv_snoc, dig_nat (by omega), List.length_append, List.length_singleton, Nat.pow_succ, Nat.add_sub_cancel_left, ← h3]
  generalize 10 ^ L.length = p at *
  have e1 : p * (u % 10) + p * 10 * (u / 10) = p * u := by
    have : p * u = p * (10 * (u / 10) + u % 10) := by rw [Nat.div_add_mod]
    rw [this]; grind
  omega
theorem WdRel.len {w0 u : Nat} {L : List UInt8} (h : WdRel w0 u L) (hu : 0 < u) (hw : w0 ≤ 18446744073709551615) : L.length < 20 := by
  obtain ⟨_, h3⟩ := h
  apply Decidable.byContradiction
  intro hn
  have h1 : 10 ^ 20 ≤ 10 ^ L.length := Nat.pow_le_pow_right (by decide) (by omega)
  have h2 : 10 ^ L.length * 1 ≤ 10 ^ L.length * u := Nat.mul_le_mul_left _ hu
  have e : (10 : Nat) ^ 20 = 100000000000000000000 := by decide
  omega
theorem dec_len_pos (a : Nat) : 0 < (decDigits a).length := by
  by_cases h : a < 10
  · rw [dec_small h]; simp
  · rw [decDigits_big h]; simp
theorem len_lt {a b : Nat} (h : (decDigits a).length < (decDigits b).length) : a < b := by
  have h1 := dval_lt (decDigits a) (digs_dec a)
  rw [dval_dec] at h1
  have hp := dec_len_pos a
  have h2 : ¬ b < 10 ^ ((decDigits b).length - 1) := fun hb => by have := len_dec b _ (by omega) hb; omega
  have h3 : 10 ^ (decDigits a).length ≤ 10 ^ ((decDigits b).length - 1) := Nat.pow_le_pow_right (by decide) (by omega)
  omega
theorem dval_cons (c : UInt8) (t : List UInt8) : dval (c :: t) = (c.toNat - 48) * 10 ^ t.length + dval t := by
  have := dval_append [c] t
  rw [List.singleton_append] at this
  rw [this]
  simp [dval]
theorem less_iff : ∀ (x y : List UInt8), Digs x → Digs y → x.length = y.length → (Op.bytesLess x y = true ↔ dval x < dval y)
  | [], [], _, _, _ => by simp [Op.bytesLess, dval]
  | [], _ :: _, _, _, h => by simp at h
  | _ :: _, [], _, _, h => by simp at h
  | c :: x, d :: y, hx, hy, h => by
    have hl : x.length = y.length := by simpa using h
    have ih := less_iff x y (fun z hz => hx z (by simp [hz])) (fun z hz => hy z (by simp [hz])) hl
    have bx := dval_lt x (fun z hz => hx z (by simp [hz]))
    have bz := dval_lt y (fun z hz => hy z (by simp [hz]))
    have hc := hx c (by simp)
    have hd := hy d (by simp)
    rw [dval_cons, dval_cons, hl]
    rw [hl] at bx
    simp only [Op.bytesLess, Bool.or_eq_true, decide_eq_true_eq, Bool.and_eq_true, beq_iff_eq, ih]
    generalize 10 ^ y.length = p at *
    rcases Nat.lt_trichotomy c.toNat d.toNat with h | h | h
    · have hcd : c < d := UInt8.lt_iff_toNat_lt.2 h
      have h1 : ((c.toNat - 48) + 1) * p ≤ (d.toNat - 48) * p := Nat.mul_le_mul_right _ (by omega)
      rw [Nat.add_mul] at h1
      constructor
      · intro _; omega
      · intro _; exact Or.inl hcd
    · have hcd : c = d := UInt8.toNat_inj.1 h
      subst hcd
      constructor
      · rintro (h' | ⟨_, h'⟩)
        · exact absurd h' (by simp)
        · omega
      · intro h'; exact Or.inr ⟨rfl, by omega⟩
    · have h1 : ((d.toNat - 48) + 1) * p ≤ (c.toNat - 48) * p := Nat.mul_le_mul_right _ (by omega)
      rw [Nat.add_mul] at h1
      constructor
      · rintro (h' | ⟨h', _⟩)
        · have := UInt8.lt_iff_toNat_lt.1 h'; omega
        · rw [h'] at h; omega
      · intro h'; omega
theorem dt_size (a : Nat) : (dt a).size = (decDigits a).length := bytes_size _
theorem dt_toList (a : Nat) : (dt a).toList = decDigits a := toList_eq _
end Go.Proofs.YtocfenjampmdlabGreatDoor.B
namespace Go.Proofs.YtocfenjampmdlabGreatDoor.B
open Go.RowKit NumB
open Go.Lib (decDigits)
def SbRel (x y : List UInt8) (i c : Nat) (L : List UInt8) : Prop := Digs L ∧ L.length = i ∧ lv L + low y i = low x i + 10 ^ i * c
theorem lv_lt (L : List UInt8) (h : Digs L) : lv L < 10 ^ L.length := by
  have := dval_lt L.reverse (fun c hc => h c (List.mem_reverse.1 hc))
  rw [dval_reverse, List.length_reverse] at this; exact this
theorem SbRel.step {x y : List UInt8} {i c d c' : Nat} {L : List UInt8} (h : SbRel x y i c L) (hd : d < 10) (e : d + dg y i + c = dg x i + 10 * c') : SbRel x y (i + 1) c' (L ++ [UInt8.ofNat (48 + d)]) := by
  obtain ⟨h1, h2, h3⟩ := h
  refine ⟨digs_snoc h1 hd, by simp [h2], ?_⟩
  rw [lv_snoc, dig_nat hd, h2, low_succ, low_succ, Nat.pow_succ, Nat.add_sub_cancel_left]
  generalize 10 ^ i = p at *
  have e2 : p * d + p * dg y i + p * c = p * dg x i + p * 10 * c' := by
    have : p * (d + dg y i + c) = p * (dg x i + 10 * c') := by rw [e]
    grind
  omega
theorem len_le {a b : Nat} (h : b ≤ a) : (decDigits b).length ≤ (decDigits a).length := by
  apply Decidable.byContradiction
  intro hn
  have := len_lt (a := a) (b := b) (by omega)
  omega
theorem SbRel.done {a b c : Nat} {L : List UInt8} (h : SbRel (decDigits a) (decDigits b) (decDigits a).length c L) (hle : b ≤ a) : lv L = a - b := by
  obtain ⟨h1, h2, h3⟩ := h
  rw [low_all _ _ (Nat.le_refl _), low_all _ _ (len_le hle), dval_dec, dval_dec] at h3
  have h4 := lv_lt L h1
  rw [h2] at h4
  generalize 10 ^ (decDigits a).length = p at *
  by_cases hc : c = 0
  · subst hc; omega
  · have : p * 1 ≤ p * c := Nat.mul_le_mul_left _ (by omega)
    omega
end Go.Proofs.YtocfenjampmdlabGreatDoor.B
namespace Go.Proofs.YtocfenjampmdlabGreatDoor.B
open Go.RowKit NumB
open Go.Lib (decDigits)

/-- the sum of places, each times its power of ten. -/
def SV (S : Nat → Nat) : Nat → Nat
  | 0 => 0
  | n + 1 => SV S n + S n * 10 ^ n
def updN (S : Nat → Nat) (i v : Nat) : Nat → Nat := fun j => if j = i then v else S j
theorem SV_zero : ∀ n, SV (fun _ => 0) n = 0
  | 0 => rfl
  | n + 1 => by simp [SV, SV_zero n]
theorem SV_updN_ge (S : Nat → Nat) (i v : Nat) : ∀ n, n ≤ i → SV (updN S i v) n = SV S n
  | 0, _ => rfl
  | n + 1, h => by
    rw [SV, SV, SV_updN_ge S i v n (by omega)]
    simp only [updN]
    rw [if_neg (by omega)]
theorem SV_updN (S : Nat → Nat) (i d : Nat) : ∀ n, i < n → SV (updN S i (S i + d)) n = SV S n + d * 10 ^ i
  | 0, h => by omega
  | n + 1, h => by
    by_cases e : i = n
    · subst e
      rw [SV, SV, SV_updN_ge S i _ i (Nat.le_refl _)]
      simp only [updN]
      rw [if_pos trivial, Nat.add_mul]
      omega
    · rw [SV, SV, SV_updN S i d n (by omega)]
      simp only [updN]
      rw [if_neg (by omega)]
      omega
def MuRel (x y : List UInt8) (N i k : Nat) (S : Nat → Nat) : Prop := SV S N = low x i * dval y + dg x i * 10 ^ i * low y k ∧ (∀ j, S j ≤ 81 * (i + 1)) ∧ (∀ j, i + k ≤ j → S j ≤ 81 * i)
def MoRel (x y : List UInt8) (N i : Nat) (S : Nat → Nat) : Prop := SV S N = low x i * dval y ∧ (∀ j, S j ≤ 81 * i)
theorem MoRel.start (x y : List UInt8) (N : Nat) : MoRel x y N 0 (fun _ => 0) := ⟨by rw [SV_zero]; simp [low, lv], fun _ => Nat.zero_le _⟩
theorem MoRel.inner {x y : List UInt8} {N i : Nat} {S : Nat → Nat} (h : MoRel x y N i S) : MuRel x y N i 0 S :=
  ⟨by rw [h.1]; simp [low, lv], fun j => by have := h.2 j; omega, fun j _ => h.2 j⟩
theorem MuRel.outer {x y : List UInt8} {N i : Nat} {S : Nat → Nat} (h : MuRel x y N i y.length S) : MoRel x y N (i + 1) S := by
  refine ⟨?_, h.2.1⟩
  rw [h.1, low_all y _ (Nat.le_refl _), low_succ, Nat.add_mul, Nat.mul_comm (10 ^ i)]
theorem MuRel.step {x y : List UInt8} {N i k : Nat} {S : Nat → Nat} (h : MuRel x y N i k S) (hx : dg x i ≤ 9) (hy : dg y k ≤ 9) (hN : i + k < N) : MuRel x y N i (k + 1) (updN S (i + k) (S (i + k) + dg x i * dg y k)) := by
  obtain ⟨h1, h2, h3⟩ := h
  have hm : dg x i * dg y k ≤ 9 * 9 := Nat.mul_le_mul hx hy
  refine ⟨?_, fun j => ?_, fun j hj => ?_⟩
  · rw [SV_updN S _ _ N hN, h1, low_succ, Nat.pow_add]
    generalize 10 ^ i = p
    generalize 10 ^ k = q
    generalize dg x i = a
    generalize dg y k = b
    generalize low y k = z
    grind
  · simp only [updN]
    split
    · have := h3 (i + k) (Nat.le_refl _); omega
    · exact h2 j
  · simp only [updN]
    rw [if_neg (by omega)]
    exact h3 j (by omega)
def CaRel (S : Nat → Nat) (i c : Nat) (L : List UInt8) : Prop := Digs L ∧ L.length = i ∧ lv L + 10 ^ i * c = SV S i
theorem CaRel.step {S : Nat → Nat} {i c : Nat} {L : List UInt8} (h : CaRel S i c L) : CaRel S (i + 1) ((S i + c) / 10) (L ++ [UInt8.ofNat (48 + (S i + c) % 10)]) := by
  obtain ⟨h1, h2, h3⟩ := h
  refine ⟨digs_snoc h1 (by omega), by simp [h2], ?_⟩
  rw [lv_snoc, dig_nat (by omega), h2, SV, Nat.pow_succ, Nat.add_sub_cancel_left]
  generalize 10 ^ i = p at *
  obtain ⟨n, hn⟩ : ∃ n, n = S i + c := ⟨_, rfl⟩
  rw [← hn]
  have e1 : p * (n % 10) + p * 10 * (n / 10) = p * n := by
    have : p * n = p * (10 * (n / 10) + n % 10) := by rw [Nat.div_add_mod]
    rw [this]; grind
  have e2 : p * n = S i * p + p * c := by rw [hn]; grind
  omega
theorem CaRel.done {x y : List UInt8} {S : Nat → Nat} {c : Nat} {L : List UInt8} (hx : Digs x) (hy : Digs y) (h : CaRel S (x.length + y.length + 1) c L) (hS : SV S (x.length + y.length + 1) = dval x * dval y) : lv L = dval x * dval y := by
  obtain ⟨h1, h2, h3⟩ := h
  rw [hS] at h3
  have bx := dval_lt x hx
  have bz := dval_lt y hy
  have hb : dval x * dval y < 10 ^ (x.length + y.length + 1) := by
    rw [Nat.pow_succ, Nat.pow_add]
    have h4 : dval x * dval y ≤ 10 ^ x.length * 10 ^ y.length := Nat.mul_le_mul (by omega) (by omega)
    have h5 : 0 < 10 ^ x.length * 10 ^ y.length := Nat.mul_pos (Nat.pow_pos (by decide)) (Nat.pow_pos (by decide))
    omega
  generalize 10 ^ (x.length + y.length + 1) = p at *
  by_cases hc : c = 0
  · subst hc; omega
  · have : p * 1 ≤ p * c := Nat.mul_le_mul_left _ (by omega)
    omega

/-- block g holds n ints. -/
def RowI (w : World) (g n : Nat) (S : Nat → Nat) : Prop :=
  ∃ cur : Array Value, w.heap[g]? = some (.cells cur 3 (0, 0)) ∧ cur.size = n ∧ ∀ j, j < n → cur[j]? = some (.int .i64 (S j : Int))
theorem RowI.lt {w : World} {g n : Nat} {S : Nat → Nat} (h : RowI w g n S) : g < w.heap.size := by
  obtain ⟨cur, hg, _⟩ := h
  exact (Array.getElem?_eq_some_iff.1 hg).1
theorem RowI.cell {w : World} {g n : Nat} {S : Nat → Nat} (h : RowI w g n S) {i : Nat} (hi : i < n) : w.cell? ⟨g, i, none⟩ = some (.int .i64 (S i : Int)) := by
  obtain ⟨cur, hg, _, hc⟩ := h
  simp [World.cell?, hg, hc i hi]
theorem RowI.frozen {w : World} {g n : Nat} {S : Nat → Nat} (h : RowI w g n S) (i : Nat) : w.frozen? ⟨g, i, none⟩ = false := by
  obtain ⟨cur, hg, _, hc⟩ := h
  simp [World.frozen?, hg]
theorem RowI.set {w : World} {g n : Nat} {S : Nat → Nat} (h : RowI w g n S) (i v : Nat) : RowI (w.setCell ⟨g, i, none⟩ (.int .i64 (v : Int))) g n (updN S i v) := by
  obtain ⟨cur, hg, hs, hc⟩ := h
  refine ⟨cur.setIfInBounds i (.int .i64 (v : Int)), ?_, by simpa using hs, fun j hj => ?_⟩
  · rw [heap_setCell_same w g i cur 3 _ hg]
  · by_cases e : j = i
    · subst e; rw [Array.getElem?_setIfInBounds]; simp [hs, hj, updN]
    · rw [Array.getElem?_setIfInBounds]; simp [Ne.symm e, updN, e, hc j hj]
theorem RowI.below {B k n : Nat} {S : Nat → Nat} {w w' : World} (h : Below B w w') (hk : k < B) (r : RowI w k n S) : RowI w' k n S := by
  obtain ⟨cur, hg, hs, hc⟩ := r
  exact ⟨cur, by rw [h.block k hk]; exact hg, hs, hc⟩
end Go.Proofs.YtocfenjampmdlabGreatDoor.B
namespace Go.Proofs.YtocfenjampmdlabGreatDoor.B
open Go.RowKit NumB
open Go.Lib (decDigits)
theorem Tryz.info3 : (Tryz.prog.info? 3).map (fun i => (i.zero, i.size, i.bytes)) = some (some (.int .i64 0), 1, 8) := by kernel_rfl
theorem RowI.new (w : World) (n : Nat) : RowI (w.alloc (.cells (madeCells #[.int .i64 0] (n * 1)) 3)) w.heap.size n (fun _ => 0) := by
  refine ⟨madeCells #[.int .i64 0] (n * 1), ?_, by simp [size_madeCells], fun j hj => ?_⟩
  · exact heap_alloc_new w _
  · simp [madeCells, hj, Nat.mod_one]
end Go.Proofs.YtocfenjampmdlabGreatDoor.B
