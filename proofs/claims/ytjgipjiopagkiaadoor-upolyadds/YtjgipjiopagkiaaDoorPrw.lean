/- What the rows' condition gives the walks: the tables lie. -/
import Derived.Test.YtjgipjiopagkiaaDoorRr
import Derived.ProofKit
import Derived.LaidMore
import Derived.OpenShut
import Derived.ChangeOld
import Derived.Stop.Joined
import Derived.Lib.LaidTab
namespace Go.Proofs.YtjgipjiopagkiaaDoor
open Go.ChangeShapes Go.WideShapes Go.ChangeAt Go.RowKit Num Nmb

theorem own : ownKnob Tryd.prog.godebug = none := by kernel_rfl
theorem laidOut : laidOutB Tryd.prog = true := by kernel_rfl
def laidL : List (String × DataW Unit) := [("math/bits.deBruijn64tab", Rows.laid_math_bits_deBruijn64tab), ("vinculum/prime.bases", Rows.laid_vinculum_prime_bases)]
theorem glob0 : Tryd.prog.globalNamed "vinculum/prime.bases" = some 0 := by kernel_rfl
theorem glob1 : Tryd.prog.globalNamed "math/bits.deBruijn64tab" = some 3 := by kernel_rfl
theorem ty0 : (Tryd.prog.globals[0]?).map (·.type) = some 69 := by kernel_rfl
theorem ty1 : (Tryd.prog.globals[3]?).map (·.type) = some 77 := by kernel_rfl
theorem und0 : Tryd.prog.underlying 69 = some (.array 12 22) := by kernel_rfl
theorem und1 : Tryd.prog.underlying 77 = some (.array 64 5) := by kernel_rfl
theorem cellsW : Tryd.prog.cellsOf 22 = 1 := by kernel_rfl
theorem cellsB : Tryd.prog.cellsOf 5 = 1 := by kernel_rfl
theorem cells0 : Tryd.prog.cellsOf 69 = 12 := by kernel_rfl
theorem cells1 : Tryd.prog.cellsOf 77 = 64 := by kernel_rfl
theorem door_met (os : Os) (args : Array Value) : laidMetH Tryd.prog laidL ((World.doorLaid Tryd.prog 24 os).forCall (fun _ _ => 0) ⟨#[], args, []⟩).memory :=
  laidMetH_of_parts3 (fuel := 8) (laidMet_of_run' 8 (by kernel_rfl) (by kernel_rfl)) (by kernel_rfl) (by kernel_rfl)
theorem lay_of_laid {W : World} (h : laidMetH Tryd.prog laidL W) : Lay W := by
  rw [MakeChecks.laidMetH_plain _ _ _ (by kernel_rfl)] at h
  obtain ⟨ps, ⟨g1, t1, cs1, f1, p1, q1, hg1, ht1, hv1, hd1, ⟨g0, t0, cs0, f0, p0, q0, hg0, ht0, hv0, hd0, _, _⟩, _⟩, _⟩ := h
  obtain rfl := Option.some.inj (glob0.symm.trans hg0)
  obtain rfl := Option.some.inj (ty0.symm.trans ht0)
  obtain rfl := Option.some.inj (glob1.symm.trans hg1)
  obtain rfl := Option.some.inj (ty1.symm.trans ht1)
  have e0 : (Rows.laid_vinculum_prime_bases : DataW Unit) = Lib.tabData .u64 [2, 3, 5, 7, 11, 13, 17, 19, 23, 29, 31, 37] := rfl
  have e1 : (Rows.laid_math_bits_deBruijn64tab : DataW Unit) = Lib.tabData .u8 (Lib.deBruijn64tab.map fun (n : Nat) => (n : Int)) := rfl
  rw [e0] at hd0
  rw [e1] at hd1
  have c0 := Lib.cells_of_tab und0 Tryd.underlying22 cellsW cells0 hd0
  have c1 := Lib.cells_of_tab und1 Tryd.underlying5 cellsB cells1 hd1
  refine ⟨?_, fun j hj => ?_⟩
  · simp only [World.var?, glob0, Option.bind_some] at hv0
    split at hv0
    · rename_i cs t fr hh
      obtain rfl := Option.some.inj hv0
      refine ⟨t, fr, ?_⟩
      rw [hh]
      have : cs = basV := by
        apply Array.toList_inj.1
        rw [c0]; rfl
      rw [this]
    · cases hv0
  · rw [World.var?_cell glob1 hv1 j]
    have : cs1 = (Lib.deBruijn64tab.map fun (n : Nat) => Value.int .u8 (n : Int)).toArray := by
      apply Array.toList_inj.1
      rw [c1, List.map_map]; rfl
    rw [this]
    simp [List.getD, List.getElem?_eq_getElem hj]
end Go.Proofs.YtjgipjiopagkiaaDoor
