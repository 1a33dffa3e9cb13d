/- A slice of words that came in. -/
/- A polynomial (a slice of words of a type of its own) that came in. -/
import Derived.Test.YtjgipjiopagkiaaDoorPrw
import Derived.Test.YtjgipjiopagkiaaDoorEg
namespace Go.Proofs.YtjgipjiopagkiaaDoor
open Go.ChangeShapes Go.WideShapes Go.ChangeAt Go.RowKit Num Nmb
theorem cellsU : Tryd.prog.cellsOf 22 = 1 := by kernel_rfl
theorem wl_of_trod {H : Type} {enc : TypeId × Value → H} {W : World} {d : DataW H} {p : List MemPlace} {a : Option Addr} {len cap : Nat}
    (h : DataW.Trod enc Tryd.prog W 0 (fun _ => true) true 23 (.slice a len cap) d p) : ∃ x, Wl W (.slice a len cap) len x := by
  obtain ⟨fuel, hf⟩ := h
  rcases open_ints Tryd.underlying23 Tryd.underlying22 cellsU hf with ⟨hcs, _⟩ | ⟨x, l, c, zs, hcs, _, hl, hm, hz, _, hcell, hwz⟩
  · simp [Value.cells] at hcs
    obtain ⟨rfl, rfl, rfl⟩ := hcs
    exact ⟨fun _ => 0, none, 0, rfl, Nat.le_refl _, by decide, (fun j hj => absurd hj (by omega)), fun h => absurd h (by omega)⟩
  · simp [Value.cells] at hcs
    obtain ⟨rfl, rfl, rfl⟩ := hcs
    have hz' : zs.length = cap := by simpa using hz
    unfold maxLen at hm
    refine ⟨fun j => zs.getD j 0, some x, cap, rfl, hl, by omega, ?_, fun hpos => ?_⟩
    · intro j hj
      have hmem : zs.getD j 0 ∈ zs := by simp [List.getD, show j < zs.length by omega]
      exact bounds_u64 (hwz _ hmem)
    · obtain ⟨b, off, spot⟩ := x
      have hc := hcell 0 (by omega)
      have hspot : spot = none := by simpa [Addr.add] using World.cell?_spot hc
      subst hspot
      refine ⟨b, off, rfl, ?_, fun j hj => ?_⟩
      · apply Nat.lt_of_not_le
        intro hge
        simp [World.cell?, Addr.add, Array.getElem?_eq_none hge] at hc
      · have := hcell j (by omega)
        by_cases h0 : j = 0
        · subst h0; simpa [Addr.add] using this
        · simpa [Addr.add, h0] using this
end Go.Proofs.YtjgipjiopagkiaaDoor
namespace Go.Proofs.YtjgipjiopagkiaaDoor
open Go.ChangeShapes Go.WideShapes Go.ChangeAt Go.RowKit Num Nmb
theorem undP : Tryd.prog.underlying 24 = some (.slice 22) := by kernel_rfl
theorem wl_of_trodP {H : Type} {enc : TypeId × Value → H} {W : World} {d : DataW H} {p : List MemPlace} {a : Option Addr} {len cap : Nat}
    (h : DataW.Trod enc Tryd.prog W 0 (fun _ => true) true 24 (.slice a len cap) d p) : ∃ x, Wl W (.slice a len cap) len x := by
  obtain ⟨fuel, hf⟩ := h
  rcases open_ints undP Tryd.underlying22 cellsU hf with ⟨hcs, _⟩ | ⟨x, l, c, zs, hcs, _, hl, hm, hz, _, hcell, hwz⟩
  · simp [Value.cells] at hcs
    obtain ⟨rfl, rfl, rfl⟩ := hcs
    exact ⟨fun _ => 0, none, 0, rfl, Nat.le_refl _, by decide, (fun j hj => absurd hj (by omega)), fun h => absurd h (by omega)⟩
  · simp [Value.cells] at hcs
    obtain ⟨rfl, rfl, rfl⟩ := hcs
    have hz' : zs.length = cap := by simpa using hz
    unfold maxLen at hm
    refine ⟨fun j => zs.getD j 0, some x, cap, rfl, hl, by omega, ?_, fun hpos => ?_⟩
    · intro j hj
      have hmem : zs.getD j 0 ∈ zs := by simp [List.getD, show j < zs.length by omega]
      exact bounds_u64 (hwz _ hmem)
    · obtain ⟨b, off, spot⟩ := x
      have hc := hcell 0 (by omega)
      have hspot : spot = none := by simpa [Addr.add] using World.cell?_spot hc
      subst hspot
      refine ⟨b, off, rfl, ?_, fun j hj => ?_⟩
      · apply Nat.lt_of_not_le
        intro hge
        simp [World.cell?, Addr.add, Array.getElem?_eq_none hge] at hc
      · have := hcell j (by omega)
        by_cases h0 : j = 0
        · subst h0; simpa [Addr.add] using this
        · simpa [Addr.add, h0] using this
end Go.Proofs.YtjgipjiopagkiaaDoor
