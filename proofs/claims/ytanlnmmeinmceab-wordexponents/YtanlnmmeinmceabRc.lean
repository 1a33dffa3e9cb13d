/- A row of two words that came in. -/
import Derived.Test.YtanlnmmeinmceabRow
import Derived.WideKeyArr2
namespace Go.Proofs.Ytanlnmmeinmceab
open Go.ChangeShapes Go.WideShapes Go.ChangeAt Go.RowKit Num
theorem a2_of {H : Type} {enc : TypeId × Value → H} {W : World} {base : Nat} {v : Value} {d : DataW H} {p : List MemPlace} (hval : Value.okWide Try.prog W .any base 23 v)
    (h : DataW.Trod enc Try.prog W 0 (fun _ => true) true 23 v d p) :
    ∃ a b : Int, v = .agg #[.int .u64 a, .int .u64 b] ∧ (0 ≤ a ∧ a ≤ 18446744073709551615) ∧ (0 ≤ b ∧ b ≤ 18446744073709551615) := by
  have A : WideMaps.ArrKey Try.prog 23 22 2 := ⟨Try.underlying23, by kernel_rfl, by kernel_rfl, by kernel_rfl⟩
  obtain ⟨xs, rfl, hn⟩ := WideMaps.okWide_arr A hval
  obtain ⟨l⟩ := xs
  match l, hn with
  | [c0, c1], _ =>
    obtain ⟨fuel, hf⟩ := h
    obtain ⟨ys, m, rfl, hx, _, hl, hg⟩ := DataW.trod_array Try.underlying23 hf
    have g0 := hg 0 (by decide)
    have g1 := hg 1 (by decide)
    rw [A.one] at g0 g1
    rw [List.getElem?_eq_getElem (by omega)] at g0 g1
    obtain ⟨a, ea, _, wa⟩ := DataW.trod_int Try.underlying22 g0
    obtain ⟨b, eb, _, wb⟩ := DataW.trod_int Try.underlying22 g1
    simp [Value.cells] at ea eb
    subst ea; subst eb
    exact ⟨a, b, rfl, bounds_u64 wa, bounds_u64 wb⟩
end Go.Proofs.Ytanlnmmeinmceab
