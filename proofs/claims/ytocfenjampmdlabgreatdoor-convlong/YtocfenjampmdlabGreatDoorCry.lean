/- Two ints, two words that came in (chapter 8). -/
import Derived.Test.YtocfenjampmdlabGreatDoorCrw
import Derived.WideKeyArr2
namespace Go.Proofs.YtocfenjampmdlabGreatDoor
open Go.ChangeShapes Go.WideShapes Go.ChangeAt Go.RowKit Num Nmb
set_option maxRecDepth 100000 in
theorem i2_of {H : Type} {enc : TypeId × Value → H} {W : World} {base : Nat} {v : Value} {d : DataW H} {p : List MemPlace} (hval : Value.okWide Tryz.prog W .any base 24 v)
    (h : DataW.Trod enc Tryz.prog W 0 (fun _ => true) true 24 v d p) :
    ∃ a b : Int, v = .agg #[.int .i64 a, .int .i64 b] ∧ (-9223372036854775808 ≤ a ∧ a ≤ 9223372036854775807) ∧ (-9223372036854775808 ≤ b ∧ b ≤ 9223372036854775807) := by
  have A : WideMaps.ArrKey Tryz.prog 24 3 2 := ⟨Tryz.underlying24, by kernel_rfl, by kernel_rfl, by kernel_rfl⟩
  obtain ⟨xs, rfl, hn⟩ := WideMaps.okWide_arr A hval
  obtain ⟨l⟩ := xs
  match l, hn with
  | [c0, c1], _ =>
    obtain ⟨fuel, hf⟩ := h
    obtain ⟨ys, m, rfl, hx, _, hl, hg⟩ := DataW.trod_array Tryz.underlying24 hf
    have g0 := hg 0 (by decide)
    have g1 := hg 1 (by decide)
    rw [A.one] at g0 g1
    rw [List.getElem?_eq_getElem (by omega)] at g0 g1
    obtain ⟨a, ea, _, wa⟩ := DataW.trod_int Tryz.underlying3 g0
    obtain ⟨b, eb, _, wb⟩ := DataW.trod_int Tryz.underlying3 g1
    simp [Value.cells] at ea eb
    subst ea; subst eb
    exact ⟨a, b, rfl, bounds_i64 wa, bounds_i64 wb⟩
set_option maxRecDepth 100000 in
theorem u2_of {H : Type} {enc : TypeId × Value → H} {W : World} {base : Nat} {v : Value} {d : DataW H} {p : List MemPlace} (hval : Value.okWide Tryz.prog W .any base 23 v)
    (h : DataW.Trod enc Tryz.prog W 0 (fun _ => true) true 23 v d p) :
    ∃ a b : Nat, v = .agg #[.int .u64 a, .int .u64 b] ∧ a ≤ 18446744073709551615 ∧ b ≤ 18446744073709551615 := by
  have A : WideMaps.ArrKey Tryz.prog 23 22 2 := ⟨Tryz.underlying23, by kernel_rfl, by kernel_rfl, by kernel_rfl⟩
  obtain ⟨xs, rfl, hn⟩ := WideMaps.okWide_arr A hval
  obtain ⟨l⟩ := xs
  match l, hn with
  | [c0, c1], _ =>
    obtain ⟨fuel, hf⟩ := h
    obtain ⟨ys, m, rfl, hx, _, hl, hg⟩ := DataW.trod_array Tryz.underlying23 hf
    have g0 := hg 0 (by decide)
    have g1 := hg 1 (by decide)
    rw [A.one] at g0 g1
    rw [List.getElem?_eq_getElem (by omega)] at g0 g1
    obtain ⟨a, ea, _, wa⟩ := DataW.trod_int Tryz.underlying22 g0
    obtain ⟨b, eb, _, wb⟩ := DataW.trod_int Tryz.underlying22 g1
    simp [Value.cells] at ea eb
    subst ea; subst eb
    have h1 := bounds_u64 wa
    have h2 := bounds_u64 wb
    obtain ⟨a', rfl⟩ := Int.eq_ofNat_of_zero_le h1.1
    obtain ⟨b', rfl⟩ := Int.eq_ofNat_of_zero_le h2.1
    exact ⟨a', b', rfl, by omega, by omega⟩
end Go.Proofs.YtocfenjampmdlabGreatDoor
