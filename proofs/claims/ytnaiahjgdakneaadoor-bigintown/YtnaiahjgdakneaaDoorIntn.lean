/- Whole numbers: the number without its sign. -/
import Derived.Test.YtnaiahjgdakneaaDoorInts
namespace Go.Proofs.YtnaiahjgdakneaaDoor
open Go.RowKit Num

set_option maxHeartbeats 400000 in
theorem Nat_any (v : Value) (n : Nat) (A : Int) (w : World) (h : It w v n A) (hn : n ≤ 100000) :
    Calls Tryd.prog 12 #[v] w fun e w' => ∃ k g X, e = .returned (.slice (some ⟨g, 0, none⟩) k k) ∧ w.heap.size ≤ g ∧ Row w' g k X ∧ Wd X 0 k ∧ Nm X 0 k ∧ V X 0 k = A.natAbs ∧ k ≤ n ∧ Below w.heap.size w w' := by
  obtain ⟨neg, ao, k, cap, a, rfl, hz, hk, rfl, hne, h0⟩ := h
  have t0 := below_new w (.cells #[.bool neg, .slice ao k cap] 26)
  have N0 := hid (hz.nt.below t0)
  have T0 := hid t0
  have ea : ((sg neg a).natAbs : Int) = a := by cases neg <;> simp [sg] <;> omega
  rw [ea]
  clear hz t0 hne ea
  go_enter Tryd.func12, Tryd.ntmps12
  go_wp2_with fail
  generalize w.alloc (.cells #[.bool neg, .slice ao k cap] 26) = wa at *
  refine (norm_any _ k a _ N0.out (by omega)).mono ?_
  rintro e w1 ⟨k1, X, rfl, r1, r2, r3, r4, hk1, C1, _⟩
  have RR := hid (And.intro r1 (And.intro r2 (And.intro r3 r4)))
  clear r1 r2 r3 r4
  go_wp2
  go_ret
  exact ⟨k1, wa.heap.size, X, rfl, T0.out.size, RR.out.1, RR.out.2.1, RR.out.2.2.1, RR.out.2.2.2, by omega, bt T0.out C1⟩
end Go.Proofs.YtnaiahjgdakneaaDoor
