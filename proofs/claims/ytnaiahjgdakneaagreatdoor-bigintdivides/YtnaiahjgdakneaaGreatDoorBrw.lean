/- What the rows' condition and a number that came in give the walks: the table of powers of ten lies; a number's words are a slice of words. -/
import Derived.Test.YtnaiahjgdakneaaGreatDoorAwb
import Derived.ProofKit
import Derived.LaidMore
import Derived.OpenShut
import Derived.ShutString
import Derived.ChangeOld
import Derived.Stop.Joined
import Derived.Lib.LaidTab
namespace Go.Proofs.YtnaiahjgdakneaaGreatDoor
open Go.ChangeShapes Go.WideShapes Go.ChangeAt Go.RowKit Num

theorem own : ownKnob Tryz.prog.godebug = none := by kernel_rfl
theorem laidOut : laidOutB Tryz.prog = true := by kernel_rfl
def laidL : List (String × DataW Unit) := [("math/bits.deBruijn32tab", Rows.laid_math_bits_deBruijn32tab), ("math/bits.deBruijn64tab", Rows.laid_math_bits_deBruijn64tab), ("internal/strconv.uint64pow10", Rows.laid_internal_strconv_uint64pow10)]
theorem tyTab : (Tryz.prog.globals[2]?).map (·.type) = some 134 := by kernel_rfl
theorem undTab : Tryz.prog.underlying 134 = some (.array 20 26) := by kernel_rfl
theorem cellsW : Tryz.prog.cellsOf 26 = 1 := by kernel_rfl
theorem cellsTab : Tryz.prog.cellsOf 134 = 20 := by kernel_rfl
theorem door_met (os : Os) (args : Array Value) : laidMetH Tryz.prog laidL ((World.doorLaid Tryz.prog 24 os).forCall (fun _ _ => 0) ⟨#[], args, []⟩).memory :=
  laidMetH_of_parts3 (fuel := 8) (laidMet_of_run' 8 (by kernel_rfl) (by kernel_rfl)) (by kernel_rfl) (by kernel_rfl)
theorem tab_of_laid {W : World} (h : laidMetH Tryz.prog laidL W) : Tab W := by
  rw [MakeChecks.laidMetH_plain _ _ _ (by kernel_rfl)] at h
  obtain ⟨ps, ⟨g0, t0, cs0, f0, p0, q0, hg0, ht0, hv0, hd0, ⟨g1, t1, cs1, f1, p1, q1, hg1, ht1, hv1, hd1, ⟨g2, t2, cs2, f2, p2, q2, hg2, ht2, hv2, hd2, _, _⟩, _⟩, _⟩, _⟩ := h
  obtain rfl := Option.some.inj (Tryz.glob.symm.trans hg2)
  obtain rfl := Option.some.inj (tyTab.symm.trans ht2)
  have e : (Rows.laid_internal_strconv_uint64pow10 : DataW Unit) = Lib.tabData .u64 Lib.pow10Tab := rfl
  rw [e] at hd2
  unfold Tab Lib.TabIs
  rw [hv2, ← Lib.cells_of_tab undTab Tryz.underlying26 cellsW cellsTab hd2]
theorem sl_of_trod {H : Type} {enc : TypeId × Value → H} {W : World} {x : DataW H × List MemPlace} {fuel : Nat} {cs : List Value}
    (hf : DataW.trod enc Tryz.prog W 0 (fun _ => true) true fuel 23 cs = some x) : ∃ ao n c X o, cs = [.slice ao n c] ∧ Sl W (.slice ao n c) n X o := by
  rcases open_ints Tryz.underlying23 Tryz.underlying26 cellsW hf with ⟨hcs, _⟩ | ⟨x, l, c, zs, hcs, _, hl, hm, hz, _, hcell, hwz⟩
  · obtain ⟨X, o, h, _⟩ := (nil_nz W).nt
    exact ⟨none, 0, 0, X, o, hcs, h⟩
  · have hz' : zs.length = c := by simpa using hz
    unfold maxLen at hm
    refine ⟨some x, l, c, fun j => zs.getD j 0, 0, hcs, ⟨some x, c, rfl, hl, hm, ?_, (fun e => by cases e), fun hpos => ?_⟩⟩
    · intro j hj
      rw [Nat.zero_add]
      have hmem : zs.getD j 0 ∈ zs := by simp [List.getD, show j < zs.length by omega]
      have := bounds_u64 (hwz _ hmem)
      omega
    · obtain ⟨b, off, spot⟩ := x
      have hc := hcell 0 (by omega)
      have hspot : spot = none := by simpa [Addr.add] using World.cell?_spot hc
      subst hspot
      refine ⟨b, off, rfl, ?_, fun j hj => ?_⟩
      · apply Nat.lt_of_not_le
        intro hge
        simp [World.cell?, Addr.add, Array.getElem?_eq_none hge] at hc
      · rw [Nat.zero_add]
        have := hcell j (by omega)
        by_cases h0 : j = 0
        · subst h0; simpa [Addr.add] using this
        · simpa [Addr.add, h0] using this
theorem cellsNum : Tryz.prog.cellsOf 25 = 2 := by kernel_rfl
theorem cellsBool : Tryz.prog.cellsOf 4 = 1 := by kernel_rfl
theorem cellsNat : Tryz.prog.cellsOf 23 = 1 := by kernel_rfl
set_option maxRecDepth 100000 in
/-- a number that came in. -/
theorem num_of_trod {H : Type} {enc : TypeId × Value → H} {W : World} {base : Nat} {v : Value} {d : DataW H} {p : List MemPlace} (hval : Value.okWide Tryz.prog W .any base 25 v)
    (h : DataW.Trod enc Tryz.prog W 0 (fun _ => true) true 25 v d p) :
    ∃ neg ao n c x o, v = .agg #[.bool neg, .slice ao n c] ∧ Sl W (.slice ao n c) n x o := by
  obtain ⟨cs, rfl, hsz⟩ := okWide_struct Tryz.underlying25 hval
  rw [cellsNum] at hsz
  obtain ⟨l⟩ := cs
  match l, hsz with
  | [c0, c1], _ =>
    obtain ⟨fuel, hf⟩ := h
    obtain ⟨xs, m, rfl, hx, _, hl, hg⟩ := DataW.trod_struct Tryz.underlying25 hf
    have g0 := hg 0 _ rfl
    have g1 := hg 1 _ rfl
    have hl2 : xs.length = 2 := hl
    rw [List.getElem?_eq_getElem (by omega)] at g0 g1
    obtain ⟨b, eb, _⟩ := DataW.trod_bool Tryz.underlying4 g0
    obtain ⟨ao, n, c, X, o, es, hs⟩ := sl_of_trod g1
    change List.take (Tryz.prog.cellsOf 4) (List.drop 0 [c0, c1]) = _ at eb
    change List.take (Tryz.prog.cellsOf 23) (List.drop 1 [c0, c1]) = _ at es
    rw [cellsBool] at eb
    rw [cellsNat] at es
    simp at eb es
    subst eb; subst es
    exact ⟨b, ao, n, c, X, o, rfl, hs⟩
end Go.Proofs.YtnaiahjgdakneaaGreatDoor
