/- A slice of words that came in. -/
import Derived.Test.YtbecdlibckbbcabDoorPrw
import Derived.Test.YtbecdlibckbbcabDoorQa
namespace Go.Proofs.YtbecdlibckbbcabDoor
open Go.ChangeShapes Go.WideShapes Go.ChangeAt Go.RowKit Num Nmb
theorem cellsU : Tryd.prog.cellsOf 28 = 1 := by kernel_rfl
theorem wl_of_trod {H : Type} {enc : TypeId × Value → H} {W : World} {d : DataW H} {p : List MemPlace} {a : Option Addr} {len cap : Nat}
    (h : DataW.Trod enc Tryd.prog W 0 (fun _ => true) true 22 (.slice a len cap) d p) : ∃ x, Wl W (.slice a len cap) len x := by
  obtain ⟨fuel, hf⟩ := h
  rcases open_ints Tryd.underlying22 Tryd.underlying28 cellsU hf with ⟨hcs, _⟩ | ⟨x, l, c, zs, hcs, _, hl, hm, hz, _, hcell, hwz⟩
  · simp [Value.cells] at hcs
    obtain ⟨rfl, rfl, rfl⟩ := hcs
    exact ⟨fun _ => 0, none, 0, rfl, Nat.le_refl _, by decide, (fun j hj => absurd hj (by omega)), fun h => absurd h (by omega)⟩
  · simp [Value.cells] at hcs
    obtain ⟨rfl, rfl, rfl⟩ := hcs
    have hz' : zs.length = cap := by simpa using hz
    unfold maxLen at hm
    refine ⟨fun j => zs.getD j 0, some x, cap, rfl, hl, by omega, ?_, fun hpos => ?_⟩
    · intro j hj
      have hmem : zs.getD j 0 ∈ zs := by simp [List.getD, show j < zs.length by omega]
      exact bounds_u64 (hwz _ hmem)
    · obtain ⟨b, off, spot⟩ := x
      have hc := hcell 0 (by omega)
      have hspot : spot = none := by simpa [Addr.add] using World.cell?_spot hc
      subst hspot
      refine ⟨b, off, rfl, ?_, fun j hj => ?_⟩
      · apply Nat.lt_of_not_le
        intro hge
        simp [World.cell?, Addr.add, Array.getElem?_eq_none hge] at hc
      · have := hcell j (by omega)
        by_cases h0 : j = 0
        · subst h0; simpa [Addr.add] using this
        · simpa [Addr.add, h0] using this
end Go.Proofs.YtbecdlibckbbcabDoor
