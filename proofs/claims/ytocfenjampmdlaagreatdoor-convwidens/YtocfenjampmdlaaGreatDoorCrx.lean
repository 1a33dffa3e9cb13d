/- Boxes that came in (chapter 8). -/
import Derived.Test.YtocfenjampmdlaaGreatDoorCrw
namespace Go.Proofs.YtocfenjampmdlaaGreatDoor
open Go.ChangeShapes Go.WideShapes Go.ChangeAt Go.RowKit Num Nmb

theorem cellsBox : Tryz.prog.cellsOf 47 = 2 := by kernel_rfl
theorem cellsSW : Tryz.prog.cellsOf 22 = 1 := by kernel_rfl
theorem cellsSI : Tryz.prog.cellsOf 41 = 1 := by kernel_rfl
set_option maxRecDepth 100000 in
theorem box_of_trod {H : Type} {enc : TypeId × Value → H} {W : World} {base : Nat} {v : Value} {d : DataW H} {p : List MemPlace} (hval : Value.okWide Tryz.prog W .any base 47 v)
    (h : DataW.Trod enc Tryz.prog W 0 (fun _ => true) true 47 v d p) :
    ∃ xo xn xc lo ln lc x y, v = .agg #[.slice xo xn xc, .slice lo ln lc] ∧ Wi W (.slice xo xn xc) xn x ∧ Wl W (.slice lo ln lc) ln y := by
  obtain ⟨cs, rfl, hsz⟩ := okWide_struct Tryz.underlying47 hval
  rw [cellsBox] at hsz
  obtain ⟨l⟩ := cs
  match l, hsz with
  | [c0, c1], _ =>
    obtain ⟨fuel, hf⟩ := h
    obtain ⟨xs, m, rfl, hx, _, hl, hg⟩ := DataW.trod_struct Tryz.underlying47 hf
    have g0 := hg 0 _ rfl
    have g1 := hg 1 _ rfl
    have hl2 : xs.length = 2 := hl
    rw [List.getElem?_eq_getElem (by omega)] at g0 g1
    obtain ⟨xo, xn, xc, x, e0, W0⟩ := wi_of_cells g0
    obtain ⟨lo, ln, lc, y, e1, W1⟩ := wl_of_cells g1
    change List.take (Tryz.prog.cellsOf 41) (List.drop 0 [c0, c1]) = _ at e0
    change List.take (Tryz.prog.cellsOf 22) (List.drop 1 [c0, c1]) = _ at e1
    rw [cellsSI] at e0
    rw [cellsSW] at e1
    simp at e0 e1
    subst e0; subst e1
    exact ⟨xo, xn, xc, lo, ln, lc, x, y, rfl, W0, W1⟩
end Go.Proofs.YtocfenjampmdlaaGreatDoor
