/- The reference's New, and the law's own Sized and great. -/
import Derived.Test.YtbecdlibckbbcaaDoorQu
import Derived.Test.YtbecdlibckbbcaaDoorPo
namespace Go.Proofs.YtbecdlibckbbcaaDoor
open Go.RowKit Num Nmb

set_option maxHeartbeats 1600000 in
theorem rnew_limit (p : Nat) (k : Int) (w : World) (hk : 20 < k) :
    Calls Tryd.prog 13 #[.int .u64 p, .int .i64 k] w fun e w' => e = .returned (.tuple #[.pointer none, .int .i64 13]) ∧ w' = w := by
  go_enter Tryd.func13, Tryd.ntmps13
  go_wp2
  go_ret2
  exact ⟨rfl, rfl⟩
set_option maxHeartbeats 1600000 in
theorem rnew_prime (p : Nat) (k : Int) (w : World) (hk : k ≤ 20) (hp : p ≤ 100000) (hb : isB p = false) :
    Calls Tryd.prog 13 #[.int .u64 p, .int .i64 k] w fun e w' => e = .returned (.tuple #[.pointer none, .int .i64 14]) ∧ Below w.heap.size w w' := by
  have IS := hid (ris_any p w (by omega))
  rw [hb] at IS
  have hk' : ¬ (20 : Int) < k := by omega
  clear hb hk
  go_enter Tryd.func13, Tryd.ntmps13
  go_wp2_with fail
  refine IS.out.mono ?_
  rintro e w1 ⟨rfl, rfl⟩
  go_wp2
  go_ret2
  exact ⟨rfl, Below.refl _ _⟩
set_option maxHeartbeats 1600000 in
theorem rnew_arg (p : Nat) (k : Int) (w : World) (hk : k ≤ 20) (hp : p ≤ 100000) (hb : Pri p) (ha : k < 0 ∨ (tw p : Int) < k) :
    Calls Tryd.prog 13 #[.int .u64 p, .int .i64 k] w fun e w' => e = .returned (.tuple #[.pointer none, .int .i64 1]) ∧ Below w.heap.size w w' := by
  have IS := hid (ris_any p w (by omega))
  rw [isB_of_pri hb (by omega)] at IS
  have RR := hid (rroot_bad p k w hb.1 hp ha)
  have hk' : ¬ (20 : Int) < k := by omega
  clear hb hk ha
  go_enter Tryd.func13, Tryd.ntmps13
  go_wp2_with fail
  refine IS.out.mono ?_
  rintro e w1 ⟨rfl, rfl⟩
  go_wp2_with fail
  refine RR.out.mono ?_
  rintro e w1 ⟨rfl, rfl⟩
  go_wp2
  go_ret2
  exact ⟨rfl, Below.refl _ _⟩
set_option maxHeartbeats 1600000 in
theorem rnew_yes (p k : Nat) (w : World) (hk : k ≤ 20) (hp : p ≤ 100000) (hb : Pri p) (ha : k ≤ tw p) :
    Calls Tryd.prog 13 #[.int .u64 p, .int .i64 k] w fun e w' => (∃ r, e = .returned (.tuple #[.pointer (some ⟨w.heap.size, 0, none⟩), .int .i64 0]) ∧ RT w' w.heap.size p k (2 ^ k) r ∧ RootIs p k r) ∧ Below w.heap.size w w' := by
  have IS := hid (ris_any p w (by omega))
  rw [isB_of_pri hb (by omega)] at IS
  have RR := hid (rroot_any p k w hb hp ha)
  have hk' : ¬ (20 : Int) < (k : Int) := by omega
  clear hb ha
  go_enter Tryd.func13, Tryd.ntmps13
  go_wp2_with fail
  refine IS.out.mono ?_
  rintro e w1 ⟨rfl, hw1⟩
  obtain rfl := hw1.symm
  go_wp2_with fail
  refine RR.out.mono ?_
  rintro e w1 ⟨⟨y, rfl, Y⟩, c, rfl⟩
  have YY := hid Y
  clear Y
  have GV := hid (rgiven_any p k y (w.drewN c) hk)
  go_wp2_with fail
  refine GV.out.mono ?_
  rintro e w2 ⟨rfl, T, B⟩
  have TT := hid T
  have BB := hid (Below.of_drew B)
  have hh : (w.drewN c).heap.size = w.heap.size := by simp
  have HH := hid hh
  clear T B hh GV
  go_wp2
  go_ret2
  refine ⟨⟨y, rfl, ?_, YY.out⟩, BB.out⟩
  have := TT.out
  rw [HH.out] at this
  exact this
/-- numbers, cut or 0 behind them. -/
def szd (a : Nat → Int) (n : Nat) (j : Nat) : Int := if j < n then a j else 0
end Go.Proofs.YtbecdlibckbbcaaDoor
