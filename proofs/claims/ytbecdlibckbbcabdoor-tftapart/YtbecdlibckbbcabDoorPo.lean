/- What prime's Root and Order answer, whatever they are given. -/
import Derived.Test.YtbecdlibckbbcabDoorPa
import Derived.Test.YtbecdlibckbbcabDoorVo
namespace Go.Proofs.YtbecdlibckbbcabDoor
open Go.RowKit Num Nmb

set_option maxHeartbeats 1600000 in
theorem root_no (p : Nat) (k : Int) (w : World) (hn : p ≤ 18446744073709551615) (hp : isB p = false) (L : Lay w) :
    Calls Tryd.prog 14 #[.int .u64 p, .int .i64 k] w fun e w' => e = .returned (.tuple #[.int .u64 0, .int .i64 14]) ∧ ∃ c, w' = w.drewN c := by
  have FN := hid (field_no p w hn (Or.inr hp) L)
  clear L hp
  go_enter Tryd.func14, Tryd.ntmps14
  go_wp2_with fail
  refine FN.out.mono ?_
  rintro e w2 ⟨rfl, c, rfl⟩
  go_wp2
  go_ret2
  exact ⟨rfl, c, rfl⟩
set_option maxHeartbeats 1600000 in
theorem root_arg (p : Nat) (k : Int) (w : World) (hp : isB p = true) (h63 : p < 9223372036854775808) (hk : k < 0 ∨ (tw p : Int) < k) (L : Lay w) :
    Calls Tryd.prog 14 #[.int .u64 p, .int .i64 k] w fun e w' => e = .returned (.tuple #[.int .u64 0, .int .i64 1]) ∧ Below w.heap.size w w' := by
  have FA := hid (field_any p w hp h63 L)
  generalize (tw p : Int) = t at *
  clear L hp
  by_cases h0 : k < 0
  · clear hk
    go_enter Tryd.func14, Tryd.ntmps14
    go_wp2_with fail
    refine FA.out.mono ?_
    rintro e w1 ⟨rfl, B, f, s, F, O⟩
    have BB := hid B
    clear F O B FA
    go_wp2
    go_ret2
    exact ⟨rfl, BB.out⟩
  · have h1 : t < k := by omega
    clear hk
    go_enter Tryd.func14, Tryd.ntmps14
    go_wp2_with fail
    refine FA.out.mono ?_
    rintro e w1 ⟨rfl, B, f, s, F, O⟩
    have BB := hid B
    clear F O B FA
    go_wp2
    go_ret2
    exact ⟨rfl, BB.out⟩
theorem of_nat (g : Nat) (p x : Nat) (f s : Int) (w : World) (h : Fld w g p f s) (hp : 0 < p) :
    Calls Tryd.prog 41 #[.pointer (some ⟨g, 0, none⟩), .int .u64 x] w fun e w' => e = .returned (.int .u64 (x % p : Nat)) ∧ w' = w := by
  have h := of_any g p f s x w h (by omega) (by omega)
  rw [← Int.natCast_emod] at h
  exact h
/-- what Order answers of a prime. -/
def OrdIs (p x : Nat) (n : Nat) (er : Int) : Prop := (x % p = 0 ∧ n = 0 ∧ er = 1) ∨ (x % p ≠ 0 ∧ er = 0 ∧ n ≤ tw p ∧ Ord p (x % p) n) ∨ (x % p ≠ 0 ∧ er = 19 ∧ n = 0 ∧ ∀ i, i ≤ tw p → (x % p) ^ 2 ^ i % p ≠ 1)
end Go.Proofs.YtbecdlibckbbcabDoor
