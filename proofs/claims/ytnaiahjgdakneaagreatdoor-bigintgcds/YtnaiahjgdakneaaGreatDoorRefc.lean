/- "Add" of the reference: the sum by decimal digits. -/
import Derived.Test.YtnaiahjgdakneaaGreatDoorRefb
namespace Go.Proofs.YtnaiahjgdakneaaGreatDoor
open Go.RowKit Num
open Go.Lib (decDigits)
def AdRel (x y : List UInt8) (i c : Nat) (L : List UInt8) : Prop := Digs L ∧ L.length = i ∧ lv L + 10 ^ i * c = low x i + low y i
theorem digs_snoc {L : List UInt8} (h : Digs L) {d : Nat} (hd : d < 10) : Digs (L ++ [UInt8.ofNat (48 + d)]) := by
  intro c hc
  rcases List.mem_append.1 hc with hc | hc
  · exact h c hc
  · simp only [List.mem_singleton] at hc
    subst hc; rw [dig_nat hd]; omega
theorem AdRel.step {x y : List UInt8} {i c : Nat} {L : List UInt8} (h : AdRel x y i c L) : AdRel x y (i + 1) ((dg x i + dg y i + c) / 10) (L ++ [UInt8.ofNat (48 + (dg x i + dg y i + c) % 10)]) := by
  obtain ⟨h1, h2, h3⟩ := h
  refine ⟨digs_snoc h1 (by omega), by simp [h2], ?_⟩
  rw [lv_snoc, dig_nat (by omega), h2, low_succ, low_succ, Nat.pow_succ]
  generalize 10 ^ i = p at *
  generalize dg x i = a
  generalize dg y i = b
  obtain ⟨n, hn⟩ : ∃ n, n = a + b + c := ⟨_, rfl⟩
  rw [← hn, Nat.add_sub_cancel_left]
  have e1 : p * (n % 10) + p * 10 * (n / 10) = p * n := by
    have : p * n = p * (10 * (n / 10) + n % 10) := by rw [Nat.div_add_mod]
    rw [this]; grind
  have e2 : p * n = p * a + p * b + p * c := by rw [hn]; grind
  omega
theorem AdRel.done {x y : List UInt8} {i : Nat} {L : List UInt8} (h : AdRel x y i 0 L) (hx : x.length ≤ i) (hy : y.length ≤ i) : lv L = dval x + dval y := by
  obtain ⟨_, _, h3⟩ := h
  rw [low_all x i hx, low_all y i hy] at h3; omega
theorem turn_strip {L : List UInt8} : dval (⟨L.reverse.toArray⟩ : ByteArray).data.toList = lv L := dval_reverse L
theorem digs_rev {L : List UInt8} (h : Digs L) : Digs (⟨L.reverse.toArray⟩ : ByteArray).data.toList := fun c hc => h c (List.mem_reverse.1 hc)
set_option maxHeartbeats 1600000 in
set_option maxRecDepth 100000 in
theorem radd_any (x y : ByteArray) (w : World) (hx : x.size ≤ 400000) (hy : y.size ≤ 400000) (dx : Digs x.data.toList) (dy : Digs y.data.toList) :
    Calls Tryz.prog 50 #[.string x, .string y] w fun e w' => e = .returned (.string (dt (dval x.data.toList + dval y.data.toList))) ∧ Below w.heap.size w w' := by
  obtain ⟨i0, hi, hz0, hz1, hz2⟩ := info_parts Tryz.infoByte
  have DX := hid dx
  have DY := hid dy
  clear dx dy
  go_enter Tryz.func50, Tryz.ntmps50
  go_wp2
  go_loopw [5, 6, 7] (fun out cv iv wr => ∃ (i c : Nat) (L : List UInt8), cv = .int .i64 c ∧ iv = .int .i64 i ∧ c ≤ 1 ∧ i ≤ 400001 ∧ Hid (AdRel x.data.toList y.data.toList i c L ∧ OwB wr w.heap.size out L ∧ Below w.heap.size w wr) ∧ w.heap.size ≤ wr.heap.size ∧ (i ≤ x.size ∨ i ≤ y.size ∨ c = 0)) (fun _ _ iv _ => 500000 - (intOf iv).toNat)
  case atStart => exact ⟨0, 0, [], rfl, rfl, by omega, by omega, ⟨⟨(fun c hc => by simp at hc), rfl, by simp [lv, low]⟩, World.ownsRow_nil _ _ _ _, Below.refl _ _⟩, Nat.le_refl _, by omega⟩
  case round =>
    obtain ⟨i, c, L, rfl, rfl, hc, hi2, hr, hsz, hend⟩ := hrel
    by_cases hgo : i < x.size ∨ i < y.size ∨ 0 < c
    · have hi3 : i ≤ 400000 := by omega
      have a1 := dg_le x.data.toList DX.out i
      have a2 := dg_le y.data.toList DY.out i
      have a3 : x.size ≤ i → dg x.data.toList i = 0 := dg_over x i
      have a4 : y.size ≤ i → dg y.data.toList i = 0 := dg_over y i
      have D1 := hid (digit_any x i wr (by omega) (by omega) DX.out)
      have D2 := hid (digit_any y i wr (by omega) (by omega) DY.out)
      have ST := hid hr.out.1.step
      have OWN := hid hr.out.2.1
      have hL : L.length ≤ 400001 := by rw [hr.out.1.2.1]; omega
      have hn0 := dig_nat (d := (dg x.data.toList i + dg y.data.toList i + c) % 10) (by omega)
      generalize dg x.data.toList i = d1 at *
      generalize dg y.data.toList i = d2 at *
      have HN := hid hn0
      have HA := hid (And.intro a3 a4)
      clear hn0 a3 a4
      have hcont : ((i : Int) < x.size ∨ (i : Int) < y.size) ∨ (0 : Int) < c := by omega
      go_wp2_with fail
      all_goals
        refine D1.out.mono ?_
        rintro e w1 ⟨rfl, rfl⟩
        go_wp2_with fail
        refine D2.out.mono ?_
        rintro e w2 ⟨rfl, rfl⟩
        go_wp2_with (at_builtin; refine wpList_append_own _ rfl (.tmp 34) (.tmp 39) 62 rfl w.heap.size 5 i0 (.int .u8 0) 1 1 Tryz.underlying62 hi hz0 hz1 hz2 rfl (by decide) _ L.length (Lib.byteCells L) rfl (OWN.out.alloc _) ⟨w2.heap.size, 0, none⟩ 1 1 [.int .u8 (48 + ((d1 : Int) + (d2 : Int) + (c : Int)) % 10)] rfl rfl (cell_one_new _ _ _) (by intro u hu; simp at hu; subst hu; rfl) (by unfold maxLen; omega) (by omega) (by simp; omega) ?_; intro v' w3 own3 grow3 _)
        have ez : (48 + ((d1 : Int) + (d2 : Int) + (c : Int)) % 10) = ((UInt8.ofNat (48 + (d1 + d2 + c) % 10)).toNat : Int) := by rw [HN.out]; omega
        rw [ez] at own3
        have hp := OwB.push OWN.out hsz rfl own3 grow3
        have hq : i + 1 ≤ x.size ∨ i + 1 ≤ y.size ∨ (d1 + d2 + c) / 10 = 0 := by
          by_cases q1 : i < x.size
          · omega
          · by_cases q2 : i < y.size
            · omega
            · have := HA.out.1 (by omega); have := HA.out.2 (by omega); omega
        exact ⟨⟨i + 1, (d1 + d2 + c) / 10, _, by congr 1, by congr 1, by omega, by omega, ⟨ST.out, hp.1, hr.out.2.2.trans hp.2.1⟩, hp.2.2, hq⟩, by simp only [intOf]; omega⟩
    · have hc0 : c = 0 := by omega
      subst hc0
      have n1 : ¬ (i : Int) < x.size := by omega
      have n2 : ¬ (i : Int) < y.size := by omega
      have hv := hr.out.1.done (by have : x.data.toList.length = x.size := rfl; omega) (by have : y.data.toList.length = y.size := rfl; omega)
      have HV := hid hv
      have HT := hid hr.out.2.1.bt
      have hL : L.length ≤ 400001 := by rw [hr.out.1.2.1]; omega
      clear hv hgo
      go_wp2_with fail
      refine (turned_any _ L wr HT.out (by omega)).mono ?_
      rintro e w2 ⟨rfl, C2⟩
      go_wp2_with fail
      refine (strip_any _ w2 (by simp [ByteArray.size]; omega) (digs_rev hr.out.1.1)).mono ?_
      rintro e w3 ⟨rfl, rfl⟩
      rw [turn_strip, HV.out]
      go_wp2
      go_ret
      exact ⟨rfl, hr.out.2.2.trans (C2.mono hsz)⟩
end Go.Proofs.YtnaiahjgdakneaaGreatDoor
