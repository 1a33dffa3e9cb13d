/- What the laws call of, Is and few. -/
import Derived.Test.YtnaiahjgdakneaaGreatDoorRefo
namespace Go.Proofs.YtnaiahjgdakneaaGreatDoor
open Go.RowKit Num
open Go.Lib (decDigits)
theorem Nt.shape {w : World} {v : Value} {k : Nat} {a : Int} (h : Nt w v k a) : ∃ ao cap, v = .slice ao k cap := by
  obtain ⟨x, o, ⟨ao, cap, rfl, -⟩, -⟩ := h; exact ⟨ao, cap, rfl⟩
theorem Nz.shape {w : World} {v : Value} {k : Nat} {a : Int} (h : Nz w v k a) : ∃ ao cap, v = .slice ao k cap := by
  obtain ⟨x, o, ⟨ao, cap, rfl, -⟩, -⟩ := h; exact ⟨ao, cap, rfl⟩
theorem rof_nt (v : Value) (n : Nat) (a : Int) (w : World) (h : Nt w v n a) (hn : n ≤ 1000) :
    Calls Tryz.prog 53 #[v] w fun e w' => e = .returned (.string (dt a.toNat)) ∧ Below w.heap.size w w' := by
  obtain ⟨x, o, h1, rfl⟩ := h
  exact rof_any v n x o w h1 hn
end Go.Proofs.YtnaiahjgdakneaaGreatDoor
