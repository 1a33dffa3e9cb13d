/- "Sub" of the reference. -/
import Derived.Test.YtnaiahjgdakneaaGreatDoorRefd
namespace Go.Proofs.YtnaiahjgdakneaaGreatDoor
open Go.RowKit Num
open Go.Lib (decDigits)
def SbRel (x y : List UInt8) (i c : Nat) (L : List UInt8) : Prop := Digs L ∧ L.length = i ∧ lv L + low y i = low x i + 10 ^ i * c
theorem lv_lt (L : List UInt8) (h : Digs L) : lv L < 10 ^ L.length := by
  have := dval_lt L.reverse (fun c hc => h c (List.mem_reverse.1 hc))
  rw [dval_reverse, List.length_reverse] at this; exact this
theorem SbRel.step {x y : List UInt8} {i c d c' : Nat} {L : List UInt8} (h : SbRel x y i c L) (hd : d < 10) (e : d + dg y i + c = dg x i + 10 * c') : SbRel x y (i + 1) c' (L ++ [UInt8.ofNat (48 + d)]) := by
  obtain ⟨h1, h2, h3⟩ := h
  refine ⟨digs_snoc h1 hd, by simp [h2], ?_⟩
  rw [lv_snoc, dig_nat hd, h2, low_succ, low_succ, Nat.pow_succ, Nat.add_sub_cancel_left]
  generalize 10 ^ i = p at *
  have e2 : p * d + p * dg y i + p * c = p * dg x i + p * 10 * c' := by
    have : p * (d + dg y i + c) = p * (dg x i + 10 * c') := by rw [e]
    grind
  omega
theorem len_le {a b : Nat} (h : b ≤ a) : (decDigits b).length ≤ (decDigits a).length := by
  apply Decidable.byContradiction
  intro hn
  have := len_lt (a := a) (b := b) (by omega)
  omega
theorem SbRel.done {a b c : Nat} {L : List UInt8} (h : SbRel (decDigits a) (decDigits b) (decDigits a).length c L) (hle : b ≤ a) : lv L = a - b := by
  obtain ⟨h1, h2, h3⟩ := h
  rw [low_all _ _ (Nat.le_refl _), low_all _ _ (len_le hle), dval_dec, dval_dec] at h3
  have h4 := lv_lt L h1
  rw [h2] at h4
  generalize 10 ^ (decDigits a).length = p at *
  by_cases hc : c = 0
  · subst hc; omega
  · have : p * 1 ≤ p * c := Nat.mul_le_mul_left _ (by omega)
    omega
set_option maxHeartbeats 1600000 in
set_option maxRecDepth 100000 in
theorem rsub_any (a b : Nat) (w : World) (hs : (dt a).size ≤ 400000) (hle : b ≤ a) :
    Calls Tryz.prog 52 #[.string (dt a), .string (dt b)] w fun e w' => e = .returned (.string (dt (a - b))) ∧ Below w.heap.size w w' := by
  obtain ⟨i0, hi, hz0, hz1, hz2⟩ := info_parts Tryz.infoByte
  have hsb : (dt b).size ≤ (dt a).size := by rw [dt_size, dt_size]; exact len_le hle
  have HA := hid (dt_size a)
  obtain ⟨x, hx⟩ : ∃ x, x = dt a := ⟨_, rfl⟩
  obtain ⟨y, hy⟩ : ∃ y, y = dt b := ⟨_, rfl⟩
  rw [← hx] at HA hs hsb
  rw [← hy] at hsb
  rw [← hx, ← hy]
  have DX : Hid (Digs x.data.toList) := by rw [hx]; exact digs_dec a
  have DY : Hid (Digs y.data.toList) := by rw [hy]; exact digs_dec b
  have EX : Hid (x.data.toList = decDigits a) := by rw [hx]; exact dt_list a
  have EY : Hid (y.data.toList = decDigits b) := by rw [hy]; exact dt_list b
  clear hx hy
  go_enter Tryz.func52, Tryz.ntmps52
  go_wp2
  go_loopw [5, 6, 7] (fun out cv iv wr => ∃ (i c : Nat) (L : List UInt8), cv = .int .i64 c ∧ iv = .int .i64 i ∧ c ≤ 1 ∧ i ≤ x.size ∧ Hid (SbRel x.data.toList y.data.toList i c L ∧ OwB wr w.heap.size out L ∧ Below w.heap.size w wr) ∧ w.heap.size ≤ wr.heap.size) (fun _ _ iv _ => 500000 - (intOf iv).toNat)
  case atStart => exact ⟨0, 0, [], rfl, rfl, by omega, by omega, ⟨⟨(fun c hc => by simp at hc), rfl, by simp [lv, low]⟩, World.ownsRow_nil _ _ _ _, Below.refl _ _⟩, Nat.le_refl _⟩
  case round =>
    obtain ⟨i, c, L, rfl, rfl, hc, hi2, hr, hsz⟩ := hrel
    by_cases hgo : i < x.size
    · have hgo' : (i : Int) < x.size := by omega
      have a1 := dg_le x.data.toList DX.out i
      have a2 := dg_le y.data.toList DY.out i
      have D1 := hid (digit_any x i wr (by omega) (by omega) DX.out)
      have D2 := hid (digit_any y i wr (by omega) (by omega) DY.out)
      have ST : Hid (∀ d c', d < 10 → d + dg y.data.toList i + c = dg x.data.toList i + 10 * c' → SbRel x.data.toList y.data.toList (i + 1) c' (L ++ [UInt8.ofNat (48 + d)])) := fun d c' h1 h2 => hr.out.1.step h1 h2
      have OWN := hid hr.out.2.1
      have hL : L.length ≤ 400001 := by rw [hr.out.1.2.1]; omega
      generalize dg x.data.toList i = d1 at *
      generalize dg y.data.toList i = d2 at *
      by_cases hneg : d1 < d2 + c
      · have hneg' : (d1 : Int) - d2 - c < 0 := by omega
        obtain ⟨d, hd⟩ : ∃ d, d + d2 + c = d1 + 10 := ⟨d1 + 10 - d2 - c, by omega⟩
        have ed : (d1 : Int) - d2 - c + 10 = d := by omega
        have ST2 := hid (ST.out d 1 (by omega) (by omega))
        have HN := hid (dig_nat (d := d) (by omega))
        go_wp2_with fail
        refine D1.out.mono ?_
        rintro e w1 ⟨rfl, rfl⟩
        go_wp2_with fail
        refine D2.out.mono ?_
        rintro e w2 ⟨rfl, rfl⟩
        go_wp2_with (at_builtin; refine wpList_append_own _ rfl (.tmp 28) (.tmp 32) 62 rfl w.heap.size 5 i0 (.int .u8 0) 1 1 Tryz.underlying62 hi hz0 hz1 hz2 rfl (by decide) _ L.length (Lib.byteCells L) rfl (OWN.out.alloc _) ⟨w2.heap.size, 0, none⟩ 1 1 [.int .u8 (48 + (d : Int))] rfl rfl (cell_one_new _ _ _) (by intro u hu; simp at hu; subst hu; rfl) (by unfold maxLen; omega) (by omega) (by simp; omega) ?_; intro v' w3 own3 grow3 _)
        have ez : (48 + (d : Int)) = ((UInt8.ofNat (48 + d)).toNat : Int) := by rw [HN.out]; omega
        rw [ez] at own3
        have hp := OwB.push OWN.out hsz rfl own3 grow3
        exact ⟨⟨i + 1, 1, _, rfl, by congr 1, by omega, by omega, ⟨ST2.out, hp.1, hr.out.2.2.trans hp.2.1⟩, hp.2.2⟩, by simp only [intOf]; omega⟩
      · have hneg' : ¬ (d1 : Int) - d2 - c < 0 := by omega
        obtain ⟨d, hd⟩ : ∃ d, d + d2 + c = d1 := ⟨d1 - d2 - c, by omega⟩
        have ed : (d1 : Int) - d2 - c = d := by omega
        have ST2 := hid (ST.out d 0 (by omega) (by omega))
        have HN := hid (dig_nat (d := d) (by omega))
        go_wp2_with fail
        refine D1.out.mono ?_
        rintro e w1 ⟨rfl, rfl⟩
        go_wp2_with fail
        refine D2.out.mono ?_
        rintro e w2 ⟨rfl, rfl⟩
        go_wp2_with (at_builtin; refine wpList_append_own _ rfl (.tmp 28) (.tmp 32) 62 rfl w.heap.size 5 i0 (.int .u8 0) 1 1 Tryz.underlying62 hi hz0 hz1 hz2 rfl (by decide) _ L.length (Lib.byteCells L) rfl (OWN.out.alloc _) ⟨w2.heap.size, 0, none⟩ 1 1 [.int .u8 (48 + (d : Int))] rfl rfl (cell_one_new _ _ _) (by intro u hu; simp at hu; subst hu; rfl) (by unfold maxLen; omega) (by omega) (by simp; omega) ?_; intro v' w3 own3 grow3 _)
        have ez : (48 + (d : Int)) = ((UInt8.ofNat (48 + d)).toNat : Int) := by rw [HN.out]; omega
        rw [ez] at own3
        have hp := OwB.push OWN.out hsz rfl own3 grow3
        exact ⟨⟨i + 1, 0, _, rfl, by congr 1, by omega, by omega, ⟨ST2.out, hp.1, hr.out.2.2.trans hp.2.1⟩, hp.2.2⟩, by simp only [intOf]; omega⟩
    · have hgo' : ¬ (i : Int) < x.size := by omega
      obtain rfl : i = x.size := by omega
      have hv : lv L = a - b := by
        have h1 := hr.out.1
        rw [EX.out, EY.out, HA.out] at h1
        exact h1.done hle
      have HV := hid hv
      have HT := hid hr.out.2.1.bt
      have hL : L.length ≤ 400001 := by rw [hr.out.1.2.1]; omega
      clear hv hgo
      go_wp2_with fail
      refine (turned_any _ L wr HT.out (by omega)).mono ?_
      rintro e w2 ⟨rfl, C2⟩
      go_wp2_with fail
      refine (strip_any _ w2 (by simp [ByteArray.size]; omega) (digs_rev hr.out.1.1)).mono ?_
      rintro e w3 ⟨rfl, rfl⟩
      rw [turn_strip, HV.out]
      go_wp2
      go_ret
      exact ⟨rfl, hr.out.2.2.trans (C2.mono hsz)⟩
end Go.Proofs.YtnaiahjgdakneaaGreatDoor
