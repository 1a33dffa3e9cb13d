/- "Word" and "Cmp" of the reference. -/
import Derived.Test.YtnaiahjgdakneaaGreatDoorRefc
namespace Go.Proofs.YtnaiahjgdakneaaGreatDoor
open Go.RowKit Num
open Go.Lib (decDigits)
def WdRel (w0 u : Nat) (L : List UInt8) : Prop := Digs L ∧ lv L + 10 ^ L.length * u = w0
theorem WdRel.step {w0 u : Nat} {L : List UInt8} (h : WdRel w0 u L) : WdRel w0 (u / 10) (L ++ [UInt8.ofNat (48 + u % 10)]) := by
  obtain ⟨h1, h3⟩ := h
  refine ⟨digs_snoc h1 (by omega), ?_⟩
  rw [lv_snoc, dig_nat (by omega), List.length_append, List.length_singleton, Nat.pow_succ, Nat.add_sub_cancel_left, ← h3]
  generalize 10 ^ L.length = p at *
  have e1 : p * (u % 10) + p * 10 * (u / 10) = p * u := by
    have : p * u = p * (10 * (u / 10) + u % 10) := by rw [Nat.div_add_mod]
    rw [this]; grind
  omega
theorem WdRel.len {w0 u : Nat} {L : List UInt8} (h : WdRel w0 u L) (hu : 0 < u) (hw : w0 ≤ 18446744073709551615) : L.length < 20 := by
  obtain ⟨_, h3⟩ := h
  apply Decidable.byContradiction
  intro hn
  have h1 : 10 ^ 20 ≤ 10 ^ L.length := Nat.pow_le_pow_right (by decide) (by omega)
  have h2 : 10 ^ L.length * 1 ≤ 10 ^ L.length * u := Nat.mul_le_mul_left _ hu
  have e : (10 : Nat) ^ 20 = 100000000000000000000 := by decide
  omega
set_option maxHeartbeats 1600000 in
set_option maxRecDepth 100000 in
theorem rword_any (a : Nat) (w : World) (ha : a ≤ 18446744073709551615) :
    Calls Tryz.prog 14 #[.int .u64 a] w fun e w' => e = .returned (.string (dt a)) ∧ Below w.heap.size w w' := by
  obtain ⟨i0, hi, hz0, hz1, hz2⟩ := info_parts Tryz.infoByte
  go_enter Tryz.func14, Tryz.ntmps14
  go_wp2
  go_loopw [0, 3] (fun av out wr => ∃ (u : Nat) (L : List UInt8), av = .int .u64 u ∧ u ≤ 18446744073709551615 ∧ L.length ≤ 20 ∧ Hid (WdRel a u L ∧ OwB wr w.heap.size out L ∧ Below w.heap.size w wr) ∧ w.heap.size ≤ wr.heap.size) (fun av _ _ => (intOf av).toNat)
  case atStart => exact ⟨a, [], rfl, ha, by simp, ⟨⟨(fun c hc => by simp at hc), by simp [lv]⟩, World.ownsRow_nil _ _ _ _, Below.refl _ _⟩, Nat.le_refl _⟩
  case round =>
    obtain ⟨u, L, rfl, hu, hL, hr, hsz⟩ := hrel
    by_cases h0 : 0 < u
    · have h0' : (0 : Int) < u := by omega
      have ST := hid hr.out.1.step
      have OWN := hid hr.out.2.1
      have hL2 := hr.out.1.len h0 ha
      have HN := hid (dig_nat (d := u % 10) (by omega))
      go_wp2_with (at_builtin; refine wpList_append_own _ rfl (.tmp 6) (.tmp 11) 62 rfl w.heap.size 5 i0 (.int .u8 0) 1 1 Tryz.underlying62 hi hz0 hz1 hz2 rfl (by decide) _ L.length (Lib.byteCells L) rfl (OWN.out.alloc _) ⟨wr.heap.size, 0, none⟩ 1 1 [.int .u8 (48 + (u : Int) % 10)] rfl rfl (cell_one_new _ _ _) (by intro u hu; simp at hu; subst hu; rfl) (by unfold maxLen; omega) (by omega) (by simp; omega) ?_; intro v' w3 own3 grow3 _)
      have ez : (48 + (u : Int) % 10) = ((UInt8.ofNat (48 + u % 10)).toNat : Int) := by rw [HN.out]; omega
      rw [ez] at own3
      have hp := OwB.push OWN.out hsz rfl own3 grow3
      exact ⟨⟨u / 10, _, by congr 1, by omega, by rw [List.length_append, List.length_singleton]; omega, ⟨ST.out, hp.1, hr.out.2.2.trans hp.2.1⟩, hp.2.2⟩, by simp only [intOf]; omega⟩
    · have h0' : ¬ (0 : Int) < u := by omega
      have hu0 : u = 0 := by omega
      subst hu0
      have hv : lv L = a := by have := hr.out.1.2; omega
      have HV := hid hv
      have HT := hid hr.out.2.1.bt
      clear hv
      go_wp2_with fail
      refine (turned_any _ L wr HT.out (by omega)).mono ?_
      rintro e w2 ⟨rfl, C2⟩
      go_wp2_with fail
      refine (strip_any _ w2 (by simp [ByteArray.size]; omega) (digs_rev hr.out.1.1)).mono ?_
      rintro e w3 ⟨rfl, rfl⟩
      rw [turn_strip, HV.out]
      go_wp2
      go_ret
      exact ⟨rfl, hr.out.2.2.trans (C2.mono hsz)⟩
theorem dec_len_pos (a : Nat) : 0 < (decDigits a).length := by
  by_cases h : a < 10
  · rw [dec_small h]; simp
  · rw [decDigits_big h]; simp
theorem len_lt {a b : Nat} (h : (decDigits a).length < (decDigits b).length) : a < b := by
  have h1 := dval_lt (decDigits a) (digs_dec a)
  rw [dval_dec] at h1
  have hp := dec_len_pos a
  have h2 : ¬ b < 10 ^ ((decDigits b).length - 1) := fun hb => by have := len_dec b _ (by omega) hb; omega
  have h3 : 10 ^ (decDigits a).length ≤ 10 ^ ((decDigits b).length - 1) := Nat.pow_le_pow_right (by decide) (by omega)
  omega
theorem dval_cons (c : UInt8) (t : List UInt8) : dval (c :: t) = (c.toNat - 48) * 10 ^ t.length + dval t := by
  have := dval_append [c] t
  rw [List.singleton_append] at this
  rw [this]
  simp [dval]
theorem less_iff : ∀ (x y : List UInt8), Digs x → Digs y → x.length = y.length → (Op.bytesLess x y = true ↔ dval x < dval y)
  | [], [], _, _, _ => by simp [Op.bytesLess, dval]
  | [], _ :: _, _, _, h => by simp at h
  | _ :: _, [], _, _, h => by simp at h
  | c :: x, d :: y, hx, hy, h => by
    have hl : x.length = y.length := by simpa using h
    have ih := less_iff x y (fun z hz => hx z (by simp [hz])) (fun z hz => hy z (by simp [hz])) hl
    have bx := dval_lt x (fun z hz => hx z (by simp [hz]))
    have bz := dval_lt y (fun z hz => hy z (by simp [hz]))
    have hc := hx c (by simp)
    have hd := hy d (by simp)
    rw [dval_cons, dval_cons, hl]
    rw [hl] at bx
    simp only [Op.bytesLess, Bool.or_eq_true, decide_eq_true_eq, Bool.and_eq_true, beq_iff_eq, ih]
    generalize 10 ^ y.length = p at *
    rcases Nat.lt_trichotomy c.toNat d.toNat with h | h | h
    · have hcd : c < d := UInt8.lt_iff_toNat_lt.2 h
      have h1 : ((c.toNat - 48) + 1) * p ≤ (d.toNat - 48) * p := Nat.mul_le_mul_right _ (by omega)
      rw [Nat.add_mul] at h1
      constructor
      · intro _; omega
      · intro _; exact Or.inl hcd
    · have hcd : c = d := UInt8.toNat_inj.1 h
      subst hcd
      constructor
      · rintro (h' | ⟨_, h'⟩)
        · exact absurd h' (by simp)
        · omega
      · intro h'; exact Or.inr ⟨rfl, by omega⟩
    · have h1 : ((d.toNat - 48) + 1) * p ≤ (c.toNat - 48) * p := Nat.mul_le_mul_right _ (by omega)
      rw [Nat.add_mul] at h1
      constructor
      · rintro (h' | ⟨h', _⟩)
        · have := UInt8.lt_iff_toNat_lt.1 h'; omega
        · rw [h'] at h; omega
      · intro h'; omega
theorem dt_size (a : Nat) : (dt a).size = (decDigits a).length := bytes_size _
theorem dt_toList (a : Nat) : (dt a).toList = decDigits a := toList_eq _
set_option maxHeartbeats 800000 in
set_option maxRecDepth 100000 in
theorem rcmp_any (a b : Nat) (w : World) :
    Calls Tryz.prog 51 #[.string (dt a), .string (dt b)] w fun e w' => e = .returned (.int .i64 (cmpI a b)) ∧ w' = w := by
  have sa := dt_size a
  have sb := dt_size b
  by_cases h : (dt a).size = (dt b).size
  · have hne : (((dt a).size : Int) != ((dt b).size : Int)) = false := by simp; omega
    have hl := less_iff (decDigits a) (decDigits b) (digs_dec a) (digs_dec b) (by omega)
    rw [dval_dec, dval_dec] at hl
    by_cases h1 : a < b
    · have hb : Op.bytesLess (dt a).toList (dt b).toList = true := by rw [dt_toList, dt_toList]; exact hl.2 h1
      rw [cmpI_lt (by omega)]
      clear hl sa sb h
      go_enter Tryz.func51, Tryz.ntmps51
      go_wp2
      go_ret
      exact ⟨rfl, rfl⟩
    · have hb : Op.bytesLess (dt a).toList (dt b).toList = false := by rw [dt_toList, dt_toList]; exact Bool.eq_false_iff.2 (fun e => h1 (hl.1 e))
      by_cases h2 : a = b
      · subst h2
        have he : (!((dt a).toList == (dt a).toList)) = false := by simp
        rw [cmpI_self]
        clear hl sa sb h
        go_enter Tryz.func51, Tryz.ntmps51
        go_wp2
        go_ret
        exact ⟨rfl, rfl⟩
      · have he : (!((dt a).toList == (dt b).toList)) = true := by
          rw [dt_toList, dt_toList]; simp; intro e; have := congrArg dval e; rw [dval_dec, dval_dec] at this; exact h2 this
        have hc : cmpI a b = 1 := by unfold cmpI; rw [if_neg (by omega), if_pos (by omega)]
        rw [hc]
        clear hl sa sb h hc
        go_enter Tryz.func51, Tryz.ntmps51
        go_wp2
        go_ret
        exact ⟨rfl, rfl⟩
  · have hne : (((dt a).size : Int) != ((dt b).size : Int)) = true := by simp; omega
    by_cases h1 : (dt a).size < (dt b).size
    · have hlt := len_lt (a := a) (b := b) (by omega)
      rw [cmpI_lt (by omega)]
      clear hlt sa sb h
      go_enter Tryz.func51, Tryz.ntmps51
      go_wp2
      go_ret
      exact ⟨rfl, rfl⟩
    · have hlt := len_lt (a := b) (b := a) (by omega)
      have hc : cmpI a b = 1 := by unfold cmpI; rw [if_neg (by omega), if_pos (by omega)]
      rw [hc]
      clear hlt sa sb h hc
      go_enter Tryz.func51, Tryz.ntmps51
      go_wp2
      go_ret
      exact ⟨rfl, rfl⟩
end Go.Proofs.YtnaiahjgdakneaaGreatDoor
