/- What the laws call of, Is and few. -/
import Derived.Test.YtnoeclmccbhkmaaDoorRefo
namespace Go.Proofs.YtnoeclmccbhkmaaDoor
open Go.RowKit Num
open Go.Lib (decDigits)
theorem Nt.shape {w : World} {v : Value} {k : Nat} {a : Int} (h : Nt w v k a) : ∃ ao cap, v = .slice ao k cap := by
  obtain ⟨x, o, ⟨ao, cap, rfl, -⟩, -⟩ := h; exact ⟨ao, cap, rfl⟩
theorem Nz.shape {w : World} {v : Value} {k : Nat} {a : Int} (h : Nz w v k a) : ∃ ao cap, v = .slice ao k cap := by
  obtain ⟨x, o, ⟨ao, cap, rfl, -⟩, -⟩ := h; exact ⟨ao, cap, rfl⟩
theorem rof_nt (v : Value) (n : Nat) (a : Int) (w : World) (h : Nt w v n a) (hn : n ≤ 1000) :
    Calls Tryd.prog 37 #[v] w fun e w' => e = .returned (.string (dt a.toNat)) ∧ Below w.heap.size w w' := by
  obtain ⟨x, o, h1, rfl⟩ := h
  exact rof_any v n x o w h1 hn
set_option maxHeartbeats 800000 in
set_option maxRecDepth 100000 in
theorem of_any (v : Value) (n : Nat) (a : Int) (w : World) (h : Nt w v n a) (hn : n ≤ 1000) :
    Calls Tryd.prog 11 #[v] w fun e w' => e = .returned (.string (dt a.toNat)) ∧ Below w.heap.size w w' := by
  have H := hid (rof_nt v n a w h hn)
  obtain ⟨ao, cap, rfl⟩ := h.shape
  clear h
  go_enter Tryd.func11, Tryd.ntmps11
  go_wp2_with fail
  refine H.out.mono ?_
  rintro e w1 ⟨rfl, C1⟩
  go_wp2
  go_ret
  exact ⟨rfl, C1⟩
set_option maxHeartbeats 800000 in
set_option maxRecDepth 100000 in
theorem few_any (ao bo : Option Addr) (n m ca cb : Nat) (w : World) :
    Calls Tryd.prog 9 #[.slice ao n ca, .slice bo m cb] w fun e w' => e = .returned (.bool (decide (n ≤ 12) && decide (m ≤ 12))) ∧ w' = w := by
  by_cases h1 : n ≤ 12
  · have h1' : (n : Int) ≤ 12 := by omega
    have e1 : decide (n ≤ 12) = true := by simpa using h1
    by_cases h2 : m ≤ 12
    · have h2' : (m : Int) ≤ 12 := by omega
      have e2 : decide (m ≤ 12) = true := by simpa using h2
      rw [e1, e2]
      clear e1 e2
      go_enter Tryd.func9, Tryd.ntmps9
      go_wp2
      go_ret
      exact ⟨rfl, rfl⟩
    · have h2' : ¬ (m : Int) ≤ 12 := by omega
      have e2 : decide (m ≤ 12) = false := by simpa using h2
      rw [e1, e2]
      clear e1 e2
      go_enter Tryd.func9, Tryd.ntmps9
      go_wp2
      go_ret
      exact ⟨rfl, rfl⟩
  · have h1' : ¬ (n : Int) ≤ 12 := by omega
    have e1 : decide (n ≤ 12) = false := by simpa using h1
    rw [e1]
    clear e1
    go_enter Tryd.func9, Tryd.ntmps9
    go_wp2
    go_ret
    exact ⟨rfl, rfl⟩
set_option maxHeartbeats 800000 in
set_option maxRecDepth 100000 in
theorem is_any (v : Value) (k : Nat) (a : Int) (u : Nat) (w : World) (h : Nz w v k a) (hk : k ≤ 1000) (hu : a = u) :
    Calls Tryd.prog 12 #[v, .string (dt u)] w fun e w' => e = .returned (.bool true) ∧ Below w.heap.size w w' := by
  have H := hid (rof_nt v k a w h.nt hk)
  have ea : a.toNat = u := by omega
  rw [ea] at H
  obtain ⟨x, o, ⟨ao, cap, rfl, h1, h2, h3, h4, h5⟩, hn, _⟩ := h
  clear h3 h4 hu ea
  by_cases h0 : k = 0
  · subst h0
    clear h5 hn
    go_enter Tryd.func12, Tryd.ntmps12
    go_wp2_with fail
    refine H.out.mono ?_
    rintro e w1 ⟨rfl, C1⟩
    go_wp2
    go_ret
    exact ⟨by simp, C1⟩
  · obtain ⟨j, rfl⟩ : ∃ j, k = j + 1 := ⟨k - 1, by omega⟩
    obtain ⟨b, off, rfl, hb, hc⟩ := h5 (by omega)
    have hcj := hc j (by omega)
    have hne : x (o + j) ≠ 0 := by rcases hn with e | e; omega; simpa using e
    generalize x (o + j) = z at *
    have hq : (z == 0) = false := by simpa using hne
    have hq2 : (z != 0) = true := by simpa using hne
    have hk0 : ((j : Int) + 1 == 0) = false := by rw [beq_eq_false_iff_ne]; omega
    clear hc h5 hn
    go_enter Tryd.func12, Tryd.ntmps12
    go_wp2_with fail
    refine H.out.mono ?_
    rintro e w1 ⟨rfl, C1⟩
    go_wp2
    go_ret
    exact ⟨by simp, C1⟩
end Go.Proofs.YtnoeclmccbhkmaaDoor
