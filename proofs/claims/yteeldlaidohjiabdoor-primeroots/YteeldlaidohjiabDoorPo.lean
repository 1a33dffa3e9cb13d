/- What prime's Root and Order answer, whatever they are given. -/
import Derived.Test.YteeldlaidohjiabDoorPa
import Derived.Test.YteeldlaidohjiabDoorVo
namespace Go.Proofs.YteeldlaidohjiabDoor
open Go.RowKit Num Nmb

set_option maxHeartbeats 1600000 in
theorem root_no (p : Nat) (k : Int) (w : World) (hn : p ≤ 18446744073709551615) (hp : isB p = false) (L : Lay w) :
    Calls Tryd.prog 10 #[.int .u64 p, .int .i64 k] w fun e w' => e = .returned (.tuple #[.int .u64 0, .int .i64 14]) ∧ ∃ c, w' = w.drewN c := by
  have FN := hid (field_no p w hn (Or.inr hp) L)
  clear L hp
  go_enter Tryd.func10, Tryd.ntmps10
  go_wp2_with fail
  refine FN.out.mono ?_
  rintro e w2 ⟨rfl, c, rfl⟩
  go_wp2
  go_ret2
  exact ⟨rfl, c, rfl⟩
set_option maxHeartbeats 1600000 in
theorem root_arg (p : Nat) (k : Int) (w : World) (hp : isB p = true) (h63 : p < 9223372036854775808) (hk : k < 0 ∨ (tw p : Int) < k) (L : Lay w) :
    Calls Tryd.prog 10 #[.int .u64 p, .int .i64 k] w fun e w' => e = .returned (.tuple #[.int .u64 0, .int .i64 1]) ∧ Below w.heap.size w w' := by
  have FA := hid (field_any p w hp h63 L)
  generalize (tw p : Int) = t at *
  clear L hp
  by_cases h0 : k < 0
  · clear hk
    go_enter Tryd.func10, Tryd.ntmps10
    go_wp2_with fail
    refine FA.out.mono ?_
    rintro e w1 ⟨rfl, B, f, s, F, O⟩
    have BB := hid B
    clear F O B FA
    go_wp2
    go_ret2
    exact ⟨rfl, BB.out⟩
  · have h1 : t < k := by omega
    clear hk
    go_enter Tryd.func10, Tryd.ntmps10
    go_wp2_with fail
    refine FA.out.mono ?_
    rintro e w1 ⟨rfl, B, f, s, F, O⟩
    have BB := hid B
    clear F O B FA
    go_wp2
    go_ret2
    exact ⟨rfl, BB.out⟩
theorem of_nat (g : Nat) (p x : Nat) (f s : Int) (w : World) (h : Fld w g p f s) (hp : 0 < p) :
    Calls Tryd.prog 21 #[.pointer (some ⟨g, 0, none⟩), .int .u64 x] w fun e w' => e = .returned (.int .u64 (x % p : Nat)) ∧ w' = w := by
  have h := of_any g p f s x w h (by omega) (by omega)
  rw [← Int.natCast_emod] at h
  exact h
/-- what Order answers of a prime. -/
def OrdIs (p x : Nat) (n : Nat) (er : Int) : Prop := (x % p = 0 ∧ n = 0 ∧ er = 1) ∨ (x % p ≠ 0 ∧ er = 0 ∧ n ≤ tw p ∧ Ord p (x % p) n) ∨ (x % p ≠ 0 ∧ er = 19 ∧ n = 0 ∧ ∀ i, i ≤ tw p → (x % p) ^ 2 ^ i % p ≠ 1)
set_option maxHeartbeats 1600000 in
theorem order_no (p x : Nat) (w : World) (hn : p ≤ 18446744073709551615) (hp : isB p = false) (L : Lay w) :
    Calls Tryd.prog 11 #[.int .u64 p, .int .u64 x] w fun e w' => e = .returned (.tuple #[.int .i64 0, .int .i64 14]) ∧ ∃ c, w' = w.drewN c := by
  have FN := hid (field_no p w hn (Or.inr hp) L)
  clear L hp
  go_enter Tryd.func11, Tryd.ntmps11
  go_wp2_with fail
  refine FN.out.mono ?_
  rintro e w2 ⟨rfl, c, rfl⟩
  go_wp2
  go_ret2
  exact ⟨rfl, c, rfl⟩
set_option maxHeartbeats 1600000 in
theorem order_any (p x : Nat) (w : World) (hp : isB p = true) (h63 : p < 9223372036854775808) (L : Lay w) :
    Calls Tryd.prog 11 #[.int .u64 p, .int .u64 x] w fun e w' => (∃ (n : Nat) (er : Int), e = .returned (.tuple #[.int .i64 n, .int .i64 er]) ∧ OrdIs p x n er) ∧ Below w.heap.size w w' := by
  have h2 : 2 ≤ p := by
    apply Nat.le_of_not_lt
    intro h; rw [isP_low h] at hp; cases hp
  have FA := hid (field_any p w hp h63 L)
  have t64 := (tw_said (n := p) (by omega) (by omega)).2.2
  have yl := Nat.mod_lt x (show 0 < p by omega)
  clear L hp
  go_enter Tryd.func11, Tryd.ntmps11
  go_wp2_with fail
  refine FA.out.mono ?_
  rintro e w1 ⟨rfl, B, f, s, F, O⟩
  have FF := hid F
  have OO := hid O
  have BB := hid B
  clear F O B FA
  have OF := hid (of_nat _ p x f s w1 FF.out (by omega))
  have Y1 : Hid (x % p = 0 → OrdIs p x 0 1) := fun h => Or.inl ⟨h, rfl, rfl⟩
  have Y2 : Hid (x % p ≠ 0 → ∀ r, r ≤ tw p → Sq p (x % p) (tw p) r → OrdIs p x r 0) := fun h r hr hs => Or.inr (Or.inl ⟨h, rfl, hr, hs.2.2 hr, hs.2.1⟩)
  have Y3 : Hid (x % p ≠ 0 → ∀ r, tw p < r → Sq p (x % p) (tw p) r → OrdIs p x 0 19) := fun h r hr hs => Or.inr (Or.inr ⟨h, rfl, rfl, fun i hi => hs.2.1 i (by omega)⟩)
  have SQ := hid (squares_any _ p (x % p) (tw p) f s w1 FF.out OO.out yl (by omega))
  generalize tw p = t at *
  generalize x % p = y at *
  go_wp2_with fail
  refine OF.out.mono ?_
  rintro e w2 ⟨rfl, rfl⟩
  by_cases hy : y = 0
  · have yy := hid (Y1.out hy)
    subst hy
    clear Y1 Y2 Y3 SQ
    go_wp2
    go_ret2
    exact ⟨⟨0, 1, rfl, yy.out⟩, BB.out⟩
  · have hy' : ((y : Int) == 0) = false := beq_eq_false_iff_ne.2 (by omega)
    have y2 := hid (Y2.out hy)
    have y3 := hid (Y3.out hy)
    clear Y1 Y2 Y3 hy
    go_wp2_with fail
    refine SQ.out.mono ?_
    rintro e w3 ⟨⟨r, rfl, S⟩, c, rfl⟩
    have SS := hid S
    clear S SQ
    by_cases hr : t < r
    · have hr' : (t : Int) < (r : Int) := by omega
      have yy := hid (y3.out r hr SS.out)
      clear y2 y3
      go_wp2
      go_ret2
      exact ⟨⟨0, 19, rfl, yy.out⟩, below_drewN BB.out c⟩
    · have hr' : ¬ (t : Int) < (r : Int) := by omega
      have yy := hid (y2.out r (by omega) SS.out)
      clear y2 y3
      go_wp2
      go_ret2
      exact ⟨⟨r, 0, rfl, yy.out⟩, below_drewN BB.out c⟩
end Go.Proofs.YteeldlaidohjiabDoor
