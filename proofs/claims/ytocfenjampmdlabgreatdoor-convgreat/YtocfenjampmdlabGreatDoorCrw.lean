/- What the rows' condition gives the walks of chapter 8: the tables lie; slices of words and of ints that came in. -/
import Derived.Test.YtocfenjampmdlabGreatDoorCe
import Derived.ProofKit
import Derived.LaidMore
import Derived.OpenShut
import Derived.ShutString
import Derived.ChangeOld
import Derived.Stop.Joined
import Derived.Lib.LaidTab
namespace Go.Proofs.YtocfenjampmdlabGreatDoor
open Go.ChangeShapes Go.WideShapes Go.ChangeAt Go.RowKit Num Nmb

theorem own : ownKnob Tryz.prog.godebug = none := by kernel_rfl
theorem laidOut : laidOutB Tryz.prog = true := by kernel_rfl
def laidL : List (String × DataW Unit) := [("math/bits.deBruijn32tab", Rows.laid_math_bits_deBruijn32tab), ("math/bits.deBruijn64tab", Rows.laid_math_bits_deBruijn64tab), ("internal/strconv.uint64pow10", Rows.laid_internal_strconv_uint64pow10), ("vinculum/prime.bases", Rows.laid_vinculum_prime_bases), ("vinculum/conv.primes", Rows.laid_vinculum_conv_primes)]
theorem glob0 : Tryz.prog.globalNamed "vinculum/prime.bases" = some 5 := by kernel_rfl
theorem glob1 : Tryz.prog.globalNamed "math/bits.deBruijn64tab" = some 6 := by kernel_rfl
theorem glob3 : Tryz.prog.globalNamed "vinculum/conv.primes" = some 0 := by kernel_rfl
theorem ty3 : (Tryz.prog.globals[0]?).map (·.type) = some 47 := by kernel_rfl
theorem ty0 : (Tryz.prog.globals[5]?).map (·.type) = some 137 := by kernel_rfl
theorem ty1 : (Tryz.prog.globals[6]?).map (·.type) = some 138 := by kernel_rfl
theorem ty2 : (Tryz.prog.globals[3]?).map (·.type) = some 133 := by kernel_rfl
theorem und0 : Tryz.prog.underlying 137 = some (.array 12 22) := by kernel_rfl
theorem und1 : Tryz.prog.underlying 138 = some (.array 64 5) := by kernel_rfl
theorem und2 : Tryz.prog.underlying 133 = some (.array 20 22) := by kernel_rfl
theorem und3 : Tryz.prog.underlying 47 = some (.array 3 22) := by kernel_rfl
theorem cells3 : Tryz.prog.cellsOf 47 = 3 := by kernel_rfl
theorem cellsW : Tryz.prog.cellsOf 22 = 1 := by kernel_rfl
theorem cellsB : Tryz.prog.cellsOf 5 = 1 := by kernel_rfl
theorem cellsI : Tryz.prog.cellsOf 3 = 1 := by kernel_rfl
theorem cells0 : Tryz.prog.cellsOf 137 = 12 := by kernel_rfl
theorem cells1 : Tryz.prog.cellsOf 138 = 64 := by kernel_rfl
theorem cells2 : Tryz.prog.cellsOf 133 = 20 := by kernel_rfl
theorem door_met (os : Os) (args : Array Value) : laidMetH Tryz.prog laidL ((World.doorLaid Tryz.prog 24 os).forCall (fun _ _ => 0) ⟨#[], args, []⟩).memory :=
  laidMetH_of_parts3 (fuel := 8) (laidMet_of_run' 8 (by kernel_rfl) (by kernel_rfl)) (by kernel_rfl) (by kernel_rfl)
theorem lay_of_laid {W : World} (h : laidMetH Tryz.prog laidL W) : LayB W := by
  rw [MakeChecks.laidMetH_plain _ _ _ (by kernel_rfl)] at h
  obtain ⟨ps, ⟨g3, t3, cs3, f3, p3, q3, hg3, ht3, hv3, hd3, ⟨g1, t1, cs1, f1, p1, q1, hg1, ht1, hv1, hd1, ⟨g2, t2, cs2, f2, p2, q2, hg2, ht2, hv2, hd2, ⟨g0, t0, cs0, f0, p0, q0, hg0, ht0, hv0, hd0, ⟨g4, t4, cs4, f4, p4, q4, hg4, ht4, hv4, hd4, _, _⟩, _⟩, _⟩, _⟩, _⟩, _⟩ := h
  obtain rfl := Option.some.inj (glob0.symm.trans hg0)
  obtain rfl := Option.some.inj (ty0.symm.trans ht0)
  obtain rfl := Option.some.inj (glob1.symm.trans hg1)
  obtain rfl := Option.some.inj (ty1.symm.trans ht1)
  obtain rfl := Option.some.inj (B.Tryz.glob.symm.trans hg2)
  obtain rfl := Option.some.inj (ty2.symm.trans ht2)
  obtain rfl := Option.some.inj (glob3.symm.trans hg4)
  obtain rfl := Option.some.inj (ty3.symm.trans ht4)
  have e4 : (Rows.laid_vinculum_conv_primes : DataW Unit) = Lib.tabData .u64 [9223372036836950017, 9223372036818075649, 9223372036797104129] := rfl
  have e0 : (Rows.laid_vinculum_prime_bases : DataW Unit) = Lib.tabData .u64 [2, 3, 5, 7, 11, 13, 17, 19, 23, 29, 31, 37] := rfl
  have e1 : (Rows.laid_math_bits_deBruijn64tab : DataW Unit) = Lib.tabData .u8 (Lib.deBruijn64tab.map fun (n : Nat) => (n : Int)) := rfl
  have e2 : (Rows.laid_internal_strconv_uint64pow10 : DataW Unit) = Lib.tabData .u64 Lib.pow10Tab := rfl
  rw [e0] at hd0
  rw [e4] at hd4
  rw [e1] at hd1
  rw [e2] at hd2
  have c0 := Lib.cells_of_tab und0 Tryz.underlying22 cellsW cells0 hd0
  have c4 := Lib.cells_of_tab und3 Tryz.underlying22 cellsW cells3 hd4
  have c1 := Lib.cells_of_tab und1 Tryz.underlying5 cellsB cells1 hd1
  have c2 := Lib.cells_of_tab und2 Tryz.underlying22 cellsW cells2 hd2
  refine ⟨⟨?_, fun j hj => ?_⟩, ?_, ?_⟩
  · simp only [World.var?, glob0, Option.bind_some] at hv0
    split at hv0
    · rename_i cs t fr hh
      obtain rfl := Option.some.inj hv0
      refine ⟨t, fr, ?_⟩
      rw [hh]
      have : cs = basV := by
        apply Array.toList_inj.1
        rw [c0]; rfl
      rw [this]
    · cases hv0
  · rw [World.var?_cell glob1 hv1 j]
    have : cs1 = (Lib.deBruijn64tab.map fun (n : Nat) => Value.int .u8 (n : Int)).toArray := by
      apply Array.toList_inj.1
      rw [c1, List.map_map]; rfl
    rw [this]
    simp [List.getD, List.getElem?_eq_getElem hj]
  · unfold B.Tab Lib.TabIs
    rw [hv2, ← c2]
  · simp only [World.var?, glob3, Option.bind_some] at hv4
    split at hv4
    · rename_i cs t fr hh
      obtain rfl := Option.some.inj hv4
      refine ⟨t, fr, ?_⟩
      rw [hh]
      have : cs = #[.int .u64 (prm 0 : Nat), .int .u64 (prm 1 : Nat), .int .u64 (prm 2 : Nat)] := by
        apply Array.toList_inj.1
        rw [c4]; rfl
      rw [this]
    · cases hv4
theorem wl_of_cells {H : Type} {enc : TypeId × Value → H} {W : World} {x : DataW H × List MemPlace} {fuel : Nat} {cs : List Value}
    (hf : DataW.trod enc Tryz.prog W 0 (fun _ => true) true fuel 26 cs = some x) : ∃ a len cap y, cs = [.slice a len cap] ∧ Wl W (.slice a len cap) len y := by
  rcases open_ints Tryz.underlying26 Tryz.underlying22 cellsW hf with ⟨hcs, _⟩ | ⟨x, l, c, zs, hcs, _, hl, hm, hz, _, hcell, hwz⟩
  · exact ⟨none, 0, 0, fun _ => 0, hcs, none, 0, rfl, Nat.le_refl _, by decide, (fun j hj => absurd hj (by omega)), fun h => absurd h (by omega)⟩
  · have hz' : zs.length = c := by simpa using hz
    unfold maxLen at hm
    refine ⟨some x, l, c, fun j => zs.getD j 0, hcs, some x, c, rfl, hl, by omega, ?_, fun hpos => ?_⟩
    · intro j hj
      have hmem : zs.getD j 0 ∈ zs := by simp [List.getD, show j < zs.length by omega]
      exact bounds_u64 (hwz _ hmem)
    · obtain ⟨b, off, spot⟩ := x
      have hc := hcell 0 (by omega)
      have hspot : spot = none := by simpa [Addr.add] using World.cell?_spot hc
      subst hspot
      refine ⟨b, off, rfl, ?_, fun j hj => ?_⟩
      · apply Nat.lt_of_not_le
        intro hge
        simp [World.cell?, Addr.add, Array.getElem?_eq_none hge] at hc
      · have := hcell j (by omega)
        by_cases h0 : j = 0
        · subst h0; simpa [Addr.add] using this
        · simpa [Addr.add, h0] using this
theorem wi_of_cells {H : Type} {enc : TypeId × Value → H} {W : World} {x : DataW H × List MemPlace} {fuel : Nat} {cs : List Value}
    (hf : DataW.trod enc Tryz.prog W 0 (fun _ => true) true fuel 38 cs = some x) : ∃ a len cap y, cs = [.slice a len cap] ∧ Wi W (.slice a len cap) len y := by
  rcases open_ints Tryz.underlying38 Tryz.underlying3 cellsI hf with ⟨hcs, _⟩ | ⟨x, l, c, zs, hcs, _, hl, hm, hz, _, hcell, hwz⟩
  · exact ⟨none, 0, 0, fun _ => 0, hcs, none, 0, rfl, Nat.le_refl _, by decide, (fun j hj => absurd hj (by omega)), fun h => absurd h (by omega)⟩
  · have hz' : zs.length = c := by simpa using hz
    unfold maxLen at hm
    refine ⟨some x, l, c, fun j => zs.getD j 0, hcs, some x, c, rfl, hl, by omega, ?_, fun hpos => ?_⟩
    · intro j hj
      have hmem : zs.getD j 0 ∈ zs := by simp [List.getD, show j < zs.length by omega]
      exact bounds_i64 (hwz _ hmem)
    · obtain ⟨b, off, spot⟩ := x
      have hc := hcell 0 (by omega)
      have hspot : spot = none := by simpa [Addr.add] using World.cell?_spot hc
      subst hspot
      refine ⟨b, off, rfl, ?_, fun j hj => ?_⟩
      · apply Nat.lt_of_not_le
        intro hge
        simp [World.cell?, Addr.add, Array.getElem?_eq_none hge] at hc
      · have := hcell j (by omega)
        by_cases h0 : j = 0
        · subst h0; simpa [Addr.add] using this
        · simpa [Addr.add, h0] using this
theorem wl_of_trod {H : Type} {enc : TypeId × Value → H} {W : World} {d : DataW H} {p : List MemPlace} {a : Option Addr} {len cap : Nat}
    (h : DataW.Trod enc Tryz.prog W 0 (fun _ => true) true 26 (.slice a len cap) d p) : ∃ x, Wl W (.slice a len cap) len x := by
  obtain ⟨fuel, hf⟩ := h
  obtain ⟨a', l', c', y, hcs, W1⟩ := wl_of_cells hf
  simp [Value.cells] at hcs
  obtain ⟨rfl, rfl, rfl⟩ := hcs
  exact ⟨y, W1⟩
theorem wi_of_trod {H : Type} {enc : TypeId × Value → H} {W : World} {d : DataW H} {p : List MemPlace} {a : Option Addr} {len cap : Nat}
    (h : DataW.Trod enc Tryz.prog W 0 (fun _ => true) true 38 (.slice a len cap) d p) : ∃ x, Wi W (.slice a len cap) len x := by
  obtain ⟨fuel, hf⟩ := h
  obtain ⟨a', l', c', y, hcs, W1⟩ := wi_of_cells hf
  simp [Value.cells] at hcs
  obtain ⟨rfl, rfl, rfl⟩ := hcs
  exact ⟨y, W1⟩
end Go.Proofs.YtocfenjampmdlabGreatDoor
