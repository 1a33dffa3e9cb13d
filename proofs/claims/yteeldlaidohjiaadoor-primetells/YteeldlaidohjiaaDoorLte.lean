/- The law PrimeTells, walked. -/
import Derived.Test.YteeldlaidohjiaaDoorRn
namespace Go.Proofs.YteeldlaidohjiaaDoor
open Go.RowKit Num Nmb

set_option maxHeartbeats 1600000 in
set_option maxRecDepth 100000 in
theorem tells_law (n : Nat) (w : World) (hn : n ≤ 18446744073709551615) (L : Lay w) :
    Calls Tryd.prog 3 #[.int .u64 n] w fun e w' => e = .returned (.bool true) ∧ Below w.heap.size w w' := by
  by_cases h : 1000000 < n
  · have h' : decide ((1000000 : Int) < (n : Int)) = true := by simp; omega
    have AW := hid (awake_any w L)
    clear h L
    go_enter Tryd.func3, Tryd.ntmps3
    go_wp2_with fail
    refine AW.out.mono ?_
    rintro e w2 ⟨rfl, B⟩
    go_wp2
    go_ret
    exact ⟨rfl, B⟩
  · have h' : decide ((1000000 : Int) < (n : Int)) = false := by simp; omega
    have LL := hid L
    have NX := hid (next_any n w hn L)
    have IS := hid (fun w L => is_any n w hn L)
    have RI := hid (fun w => ris_any n w (by omega))
    have RN := hid (fun w => rnext_any n w (by omega))
    have OK : Hid (∀ (p : Nat) (er : Int), ((er = 0 ∧ p < 9223372036854775808 ∧ Nx n p) ∨ (er = 19 ∧ p = 0 ∧ NoNx n)) → er = 0 ∧ ∀ q, Nx n q → q = p) := fun p er hp => by
      rcases hp with ⟨h1, _, h3⟩ | ⟨_, _, h3⟩
      · exact ⟨h1, fun q hq => hq.uniq h3⟩
      · have := h3 1000003 (by omega) (by decide)
        rw [is1000003] at this
        cases this
    clear h L
    generalize isB n = B at *
    go_enter Tryd.func3, Tryd.ntmps3
    go_wp2_with fail
    refine NX.out.mono ?_
    rintro e w2 ⟨⟨p, er, rfl, hp⟩, c, rfl⟩
    obtain ⟨rfl, hq⟩ := OK.out p er hp
    have HQ := hid hq
    clear hp hq NX OK
    go_wp2_with fail
    refine (IS.out _ (LL.out.drew c)).mono ?_
    rintro e w2 ⟨rfl, c2, rfl⟩
    go_wp2_with fail
    refine (RI.out _).mono ?_
    rintro e w2 ⟨rfl, rfl⟩
    go_wp2_with fail
    refine (RN.out _).mono ?_
    rintro e w2 ⟨⟨q, rfl, hx⟩, rfl⟩
    obtain rfl := HQ.out q hx
    clear HQ hx IS RI RN
    have AW := hid (awake_any _ (LL.out.drew (c + c2)))
    go_wp2_with fail
    refine Calls.mono (by simpa using AW.out) ?_
    rintro e w2 ⟨rfl, B⟩
    go_wp2
    go_ret
    exact ⟨rfl, Below.of_drew B⟩
end Go.Proofs.YteeldlaidohjiaaDoor
