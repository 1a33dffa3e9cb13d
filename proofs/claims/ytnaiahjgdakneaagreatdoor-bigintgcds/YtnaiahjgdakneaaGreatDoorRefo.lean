/- "Of" of the reference: the digits of words; and what the law calls of, Is and few. -/
import Derived.Test.YtnaiahjgdakneaaGreatDoorRefn
import Derived.Deep.RegionHeld2
namespace Go.Proofs.YtnaiahjgdakneaaGreatDoor
open Go.RowKit Num
open Go.Lib (decDigits)
theorem len_of {u k : Nat} (h : (u : Int) < P k) : (decDigits u).length ≤ 20 * k + 1 := by
  have h2 := P_le_pow k
  have h3 : u < 10 ^ (20 * k + 1) := by
    rw [Nat.pow_succ]
    omega
  exact len_dec u _ (by omega) h3
theorem V_head (x : Nat → Int) (o n : Nat) : V x o (n + 1) = x o + 18446744073709551616 * V x (o + 1) n := by
  have h := V_split x o 1 n
  rw [Nat.add_comm n 1, h]
  simp [V, P]
def big64 : ByteArray := ⟨#[49, 56, 52, 52, 54, 55, 52, 52, 48, 55, 51, 55, 48, 57, 53, 53, 49, 54, 49, 54]⟩
theorem big64_val : dval big64.data.toList = 18446744073709551616 := by decide
theorem big64_digs : Digs big64.data.toList := by
  intro c hc
  have : (big64.data.toList.all fun c => decide (48 ≤ c.toNat ∧ c.toNat ≤ 57)) = true := by decide
  have := List.all_eq_true.1 this c hc
  simpa using this
theorem digs_dt (u : Nat) : Digs (dt u).data.toList := digs_dec u
theorem dval_dt (u : Nat) : dval (dt u).data.toList = u := dval_dec u
theorem dt0 : dt 0 = ⟨#[48]⟩ := by
  refine bytes_eq ?_
  rw [dt_list, dec_small (by decide)]; rfl
theorem mul_dt (u : Nat) (w : World) (h : (dt u).size ≤ 100000) :
    Calls Tryz.prog 75 #[.string (dt u), .string big64] w fun e w' => e = .returned (.string (dt (u * 18446744073709551616))) ∧ Below w.heap.size w w' := by
  have := rmul_any (dt u) big64 w h (by decide) (digs_dt u) big64_digs
  rwa [dval_dt, big64_val] at this
theorem add_dt (u v : Nat) (w : World) (h : (dt u).size ≤ 100000) (h2 : (dt v).size ≤ 100000) :
    Calls Tryz.prog 50 #[.string (dt u), .string (dt v)] w fun e w' => e = .returned (.string (dt (u + v))) ∧ Below w.heap.size w w' := by
  have := radd_any (dt u) (dt v) w (by omega) (by omega) (digs_dt u) (digs_dt v)
  rwa [dval_dt, dval_dt] at this

set_option maxHeartbeats 1600000 in
set_option maxRecDepth 100000 in
theorem rof_any (v : Value) (n : Nat) (x : Nat → Int) (o : Nat) (w : World) (h : Sl w v n x o) (hn : n ≤ 1000) :
    Calls Tryz.prog 53 #[v] w fun e w' => e = .returned (.string (dt (V x o n).toNat)) ∧ Below w.heap.size w w' := by
  obtain ⟨ao, cap, rfl, h1, h2, h3, h4, h5⟩ := h
  have HW := hid h3
  have HC := hid h5
  clear h3 h4 h5
  go_enter Tryz.func53, Tryz.ntmps53
  go_wp2
  go_loopw [3, 4] (fun ov iv wr => ∃ k u : Nat, k ≤ n ∧ ov = .string (dt u) ∧ iv = .int .i64 ((k : Int) - 1) ∧ Hid ((u : Int) = V x (o + k) (n - k) ∧ Below w.heap.size w wr)) (fun _ iv _ => (intOf iv + 1).toNat)
  case atStart => exact ⟨n, 0, Nat.le_refl _, by rw [dt0], rfl, ⟨by simp [V], Below.refl _ _⟩⟩
  case round =>
    obtain ⟨k, u, hk, rfl, rfl, hr⟩ := hrel
    by_cases h0 : k = 0
    · subst h0
      have hu : (V x o n).toNat = u := by have := hr.out.1; rw [Nat.add_zero, Nat.sub_zero] at this; omega
      have HU := hid hu
      clear hu
      go_wp2
      go_ret
      exact ⟨by rw [HU.out]; rfl, hr.out.2⟩
    · obtain ⟨j, rfl⟩ : ∃ j, k = j + 1 := ⟨k - 1, by omega⟩
      obtain ⟨b, off, rfl, hb, hc⟩ := HC.out (by omega)
      have hcj : wr.cell? ⟨b, off + j, none⟩ = some (.int .u64 (x (o + j))) := by rw [hr.out.2.cell (p := ⟨b, off + j, none⟩) hb]; exact hc j (by omega)
      obtain ⟨y0, y1⟩ := HW.out j (by omega)
      obtain ⟨d, hd⟩ : ∃ d : Nat, x (o + j) = d := ⟨(x (o + j)).toNat, by omega⟩
      rw [hd] at hcj y1
      have hV : V x (o + j) (n - j) = ((u * 18446744073709551616 + d : Nat) : Int) := by
        obtain ⟨m, hm⟩ : ∃ m, n - j = m + 1 := ⟨n - j - 1, by omega⟩
        have hu := hr.out.1
        rw [show n - (j + 1) = m by omega, ← Nat.add_assoc] at hu
        rw [hm, V_head, hd, ← hu]
        omega
      have hlt : (u : Int) < P (n - (j + 1)) := by
        rw [hr.out.1]
        exact (V_bd (n - (j + 1)) (fun i hi => by have := HW.out (j + 1 + i) (by omega); rwa [← Nat.add_assoc] at this)).2
      have hl1 := len_of hlt
      have hlt2 : ((u * 18446744073709551616 : Nat) : Int) < P (n - (j + 1) + 1) := by
        rw [P]
        have : P (n - (j + 1)) * 18446744073709551616 ≥ ((u : Int) + 1) * 18446744073709551616 := Int.mul_le_mul_of_nonneg_right (by omega) (by decide)
        omega
      have hl2 := len_of hlt2
      have hl3 := len_of (u := d) (k := 1) (by simp [P]; omega)
      rw [← dt_size] at hl1 hl2 hl3
      have HB := hid hr.out.2
      have HV := hid hV
      have L1 := hid hl1
      have L2 := hid hl2
      have L3 := hid hl3
      have j0 : (0 : Int) ≤ (j : Int) := by omega
      have j1 : (j : Int) < (n : Int) := by omega
      have j2 : ((j + 1 : Nat) : Int) - 1 = (j : Int) := by omega
      rw [j2]
      have hbw : b < wr.heap.size := Nat.lt_of_lt_of_le hb hr.out.2.size
      clear hV hlt hlt2 hl1 hl2 hl3 hr hd hc
      go_wp2_with fail
      go_region_held2 (fun W => W.cell? ⟨b, off + j, none⟩ = some (.int .u64 (d : Int))) (first | assumption | (simp [*]; done)) (first
        | (go_at_call 75; go_must (refine (mul_dt u _ (by have := L1.out; omega)).mono ?_; rintro e w1 ⟨rfl, C1⟩; have T1 : Below wr.heap.size wr w1 := (by first | exact C1 | exact ⟨C1.os, C1.tape, C1.output, C1.size, C1.block⟩); have c1 : w1.cell? ⟨b, off + j, none⟩ = some (.int .u64 (d : Int)) := (by rw [T1.cell (p := ⟨b, off + j, none⟩) hbw]; exact hcj)))
        | (go_at_call 14; go_must (refine (rword_any d _ (by omega)).mono ?_; rintro e w2 ⟨rfl, C2⟩; have T2 := T1.trans (C2.mono T1.size); have c2 : w2.cell? ⟨b, off + j, none⟩ = some (.int .u64 (d : Int)) := (by rw [T2.cell (p := ⟨b, off + j, none⟩) hbw]; exact hcj)))
        | (go_at_call 50; go_must (refine (add_dt _ _ _ (by have := L2.out; omega) (by have := L3.out; omega)).mono ?_; rintro e w3 ⟨rfl, C3⟩; have T3 := T2.trans (C3.mono T2.size); have c3 : w3.cell? ⟨b, off + j, none⟩ = some (.int .u64 (d : Int)) := (by rw [T3.cell (p := ⟨b, off + j, none⟩) hbw]; exact hcj))))
      all_goals
        go_wp2
        exact ⟨⟨j, u * 18446744073709551616 + d, by omega, rfl, rfl, ⟨HV.out.symm, HB.out.trans (T3.mono HB.out.size)⟩⟩, by simp only [intOf]; omega⟩
end Go.Proofs.YtnaiahjgdakneaaGreatDoor
