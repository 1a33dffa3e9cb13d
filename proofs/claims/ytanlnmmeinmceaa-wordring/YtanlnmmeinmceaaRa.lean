/- A row of three words that came in. -/
import Derived.Test.YtanlnmmeinmceaaRow
import Derived.WideKeyArr2
namespace Go.Proofs.Ytanlnmmeinmceaa
open Go.ChangeShapes Go.WideShapes Go.ChangeAt Go.RowKit Num
theorem a3_of {H : Type} {enc : TypeId × Value → H} {W : World} {base : Nat} {v : Value} {d : DataW H} {p : List MemPlace} (hval : Value.okWide Try.prog W .any base 41 v)
    (h : DataW.Trod enc Try.prog W 0 (fun _ => true) true 41 v d p) :
    ∃ a b c : Int, v = .agg #[.int .u64 a, .int .u64 b, .int .u64 c] ∧ (0 ≤ a ∧ a ≤ 18446744073709551615) ∧ (0 ≤ b ∧ b ≤ 18446744073709551615) ∧ (0 ≤ c ∧ c ≤ 18446744073709551615) := by
  have A : WideMaps.ArrKey Try.prog 41 22 3 := ⟨Try.underlying41, by kernel_rfl, by kernel_rfl, by kernel_rfl⟩
  obtain ⟨xs, rfl, hn⟩ := WideMaps.okWide_arr A hval
  obtain ⟨l⟩ := xs
  match l, hn with
  | [c0, c1, c2], _ =>
    obtain ⟨fuel, hf⟩ := h
    obtain ⟨ys, m, rfl, hx, _, hl, hg⟩ := DataW.trod_array Try.underlying41 hf
    have g0 := hg 0 (by decide)
    have g1 := hg 1 (by decide)
    have g2 := hg 2 (by decide)
    rw [A.one] at g0 g1 g2
    rw [List.getElem?_eq_getElem (by omega)] at g0 g1 g2
    obtain ⟨a, ea, _, wa⟩ := DataW.trod_int Try.underlying22 g0
    obtain ⟨b, eb, _, wb⟩ := DataW.trod_int Try.underlying22 g1
    obtain ⟨c, ec, _, wc⟩ := DataW.trod_int Try.underlying22 g2
    simp [Value.cells] at ea eb ec
    subst ea; subst eb; subst ec
    exact ⟨a, b, c, rfl, bounds_u64 wa, bounds_u64 wb, bounds_u64 wc⟩
end Go.Proofs.Ytanlnmmeinmceaa
