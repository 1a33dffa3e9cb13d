/- The law PrimeScans, walked. -/
import Derived.Test.YteeldlaidohjiaaDoorRs
namespace Go.Proofs.YteeldlaidohjiaaDoor
open Go.RowKit Num Nmb

set_option maxHeartbeats 1600000 in
theorem scan_bad (k many : Int) (below : Nat) (w : World) (h : k < 1 ∨ 40 < k ∨ many < 1 ∨ 64 < many ∨ 9223372036854775808 < below) :
    Calls Tryd.prog 15 #[.int .i64 k, .int .i64 many, .int .u64 below] w fun e w' => e = .returned (.tuple #[.slice none 0 0, .int .i64 1]) ∧ w' = w := by
  by_cases h1 : k < 1
  · clear h
    go_enter Tryd.func15, Tryd.ntmps15
    go_wp2
    go_ret2
    exact ⟨rfl, rfl⟩
  by_cases h2 : 40 < k
  · clear h
    go_enter Tryd.func15, Tryd.ntmps15
    go_wp2
    go_ret2
    exact ⟨rfl, rfl⟩
  by_cases h3 : many < 1
  · clear h
    go_enter Tryd.func15, Tryd.ntmps15
    go_wp2
    go_ret2
    exact ⟨rfl, rfl⟩
  by_cases h4 : 64 < many
  · clear h
    go_enter Tryd.func15, Tryd.ntmps15
    go_wp2
    go_ret2
    exact ⟨rfl, rfl⟩
  have h5 : (9223372036854775808 : Int) < (below : Int) := by omega
  clear h
  go_enter Tryd.func15, Tryd.ntmps15
  go_wp2
  go_ret2
  exact ⟨rfl, rfl⟩
set_option maxHeartbeats 1600000 in
theorem scan_low (k many : Int) (below : Nat) (w : World) (hk : ¬ k < 1 ∧ ¬ 40 < k) (hm : ¬ many < 1 ∧ ¬ 64 < many) (hb : below < 2) :
    Calls Tryd.prog 15 #[.int .i64 k, .int .i64 many, .int .u64 below] w fun e w' => e = .returned (.tuple #[.slice none 0 0, .int .i64 19]) ∧ w' = w := by
  obtain ⟨k1, k2⟩ := hk
  obtain ⟨m1, m2⟩ := hm
  have b1 : (below : Int) < 2 := by omega
  have b2 : ¬ (9223372036854775808 : Int) < (below : Int) := by omega
  go_enter Tryd.func15, Tryd.ntmps15
  go_wp2
  go_ret2
  exact ⟨rfl, rfl⟩
/-- Scan up to 30000, whatever it is. -/
theorem scan_all (k many below u : Nat) (w : World) (hk : 1 ≤ k ∧ k ≤ 40) (hm : 1 ≤ many ∧ many ≤ 64) (hb : below ≤ 9223372036854775808) (hu : 2 ^ k = u) (L : Lay w) :
    Calls Tryd.prog 15 #[.int .i64 k, .int .i64 many, .int .u64 below] w fun e w' => (∃ (v : Value) (er : Int), e = .returned (.tuple #[v, .int .i64 er]) ∧ ScanIs w' w.heap.size v er many (gath u ((below - 2) / u))) ∧ Below w.heap.size w w' := by
  by_cases h2 : 2 ≤ below
  · exact scan_any k many below u _ w hk hm h2 hb hu rfl L
  · refine (scan_low k many below w ⟨by omega, by omega⟩ ⟨by omega, by omega⟩ (by omega)).mono ?_
    rintro e w' ⟨rfl, rfl⟩
    refine ⟨⟨_, _, rfl, Or.inr ⟨rfl, rfl, ?_⟩⟩, Below.refl _ _⟩
    have : 2 ≤ u := by rw [← hu]; simpa using Nat.pow_le_pow_right (show 0 < 2 by decide) hk.1
    rw [gath_none this (by omega)]
    simp; omega
end Go.Proofs.YteeldlaidohjiaaDoor
