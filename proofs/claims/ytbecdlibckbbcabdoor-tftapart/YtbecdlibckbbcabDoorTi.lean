/- Two numbers that came in. -/
import Derived.Test.YtbecdlibckbbcabDoorPrw
import Derived.WideKeyArr2
namespace Go.Proofs.YtbecdlibckbbcabDoor
open Go.ChangeShapes Go.WideShapes Go.ChangeAt Go.RowKit Num
theorem i2_of {H : Type} {enc : TypeId × Value → H} {W : World} {base : Nat} {v : Value} {d : DataW H} {p : List MemPlace} (hval : Value.okWide Tryd.prog W .any base 23 v)
    (h : DataW.Trod enc Tryd.prog W 0 (fun _ => true) true 23 v d p) :
    ∃ a b : Int, v = .agg #[.int .i64 a, .int .i64 b] ∧ (-9223372036854775808 ≤ a ∧ a ≤ 9223372036854775807) ∧ (-9223372036854775808 ≤ b ∧ b ≤ 9223372036854775807) := by
  have A : WideMaps.ArrKey Tryd.prog 23 3 2 := ⟨Tryd.underlying23, by kernel_rfl, by kernel_rfl, by kernel_rfl⟩
  obtain ⟨xs, rfl, hn⟩ := WideMaps.okWide_arr A hval
  obtain ⟨l⟩ := xs
  match l, hn with
  | [c0, c1], _ =>
    obtain ⟨fuel, hf⟩ := h
    obtain ⟨ys, m, rfl, hx, _, hl, hg⟩ := DataW.trod_array Tryd.underlying23 hf
    have g0 := hg 0 (by decide)
    have g1 := hg 1 (by decide)
    rw [A.one] at g0 g1
    rw [List.getElem?_eq_getElem (by omega)] at g0 g1
    obtain ⟨a, ea, _, wa⟩ := DataW.trod_int Tryd.underlying3 g0
    obtain ⟨b, eb, _, wb⟩ := DataW.trod_int Tryd.underlying3 g1
    simp [Value.cells] at ea eb
    subst ea; subst eb
    exact ⟨a, b, rfl, bounds_i64 wa, bounds_i64 wb⟩
end Go.Proofs.YtbecdlibckbbcabDoor
