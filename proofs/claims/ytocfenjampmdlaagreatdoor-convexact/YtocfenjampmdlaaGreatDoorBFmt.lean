/- What strconv.FormatUint answers in this program, to the base 10: the decimal digits. -/
import Derived.Test.YtocfenjampmdlaaGreatDoorBIntn
import Derived.Lib.AppendIntMem
namespace Go.Proofs.YtocfenjampmdlaaGreatDoor.B
open Go.RowKit NumB

theorem Tryz.arr141 : Tryz.prog.underlying 141 = some (.array 24 5) := by kernel_rfl
theorem Tryz.len141 : Tryz.prog.arrayLen 141 = 24 := by kernel_rfl
theorem Tryz.elem141 : Tryz.prog.elem 141 = 5 := by kernel_rfl

set_option maxHeartbeats 1600000 in
set_option maxRecDepth 100000 in
theorem formatUint_small (u : Nat) (hu : u < 100) (w : World) :
    Calls Tryz.prog 76 #[.int .u64 u, .int .i64 10] w fun e w' => e = .returned (.string ⟨(Lib.decDigits u).toArray⟩) ∧ Below w.heap.size w w' := by
  go_enter Tryz.func76, Tryz.ntmps76
  go_wp2_with (go_at_call 99; refine (Tryz.internal_strconv_small u hu _).mono ?_; rintro e w' ⟨rfl, rfl⟩)
  go_ret
  exact ⟨rfl, Below.refl _ _⟩

set_option maxHeartbeats 1600000 in
set_option maxRecDepth 100000 in
theorem formatUint_big (u : Nat) (hu : 100 ≤ u) (hu64 : u < 18446744073709551616) (w : World) (htab : Lib.TabIs Tryz.prog w "internal/strconv.uint64pow10" .u64 Lib.pow10Tab) :
    Calls Tryz.prog 76 #[.int .u64 u, .int .i64 10] w fun e w' => e = .returned (.string ⟨(Lib.decDigits u).toArray⟩) ∧ Below w.heap.size w w' := by
  have hnd20 : Lib.nDigits u ≤ 20 := by have := Lib.numDigits_eq u (by omega) hu64; split at this <;> omega
  have hsl : ∀ W, (Instr.sliceAt 141 (.pointer (some ⟨w.heap.size, 0, none⟩)) none (some (.int .i64 (Lib.nDigits u : Int))) none).run Tryz.prog W = .ok (.slice (some ⟨w.heap.size, 0, none⟩) (Lib.nDigits u) 24) W := fun W => by
    rw [run_sliceAt_array_h W 141 ⟨w.heap.size, 0, none⟩ (by rw [Tryz.len141, Tryz.elem141]; exact Tryz.arr141) .i64 (Lib.nDigits u : Int) (by omega) (by rw [Tryz.len141]; omega)]
    rw [Tryz.len141, Tryz.elem141]
    go_simp
  have hH0 := Lib.holds_zero0 w 141 (Lib.nDigits u) (by omega)
  have hfmt := Tryz.internal_strconv_formatBase10 w.heap.size 0 24 u (Array.replicate (Lib.nDigits u) 0) (w.alloc (.cells Lib.zeros24 141)) hH0 (by rw [Array.size_replicate]; exact Lib.lt_pow_nDigits u) hu64 (by rw [Array.size_replicate]; omega)
  rw [Array.size_replicate] at hfmt
  have HH0 := hid hH0
  have Hf := hid hfmt
  clear hH0 hfmt
  go_enter Tryz.func76, Tryz.ntmps76
  go_wp2_with (go_at_call 100; refine (Tryz.internal_strconv_numDigits u (by omega) hu64 _ (Lib.tabIs_alloc htab _)).mono ?_; rintro e w' ⟨rfl, rfl⟩)
  refine Hf.out.mono ?_
  rintro e w' ⟨rfl, k, v', dk, ew, hF⟩
  have hcell : ∀ j, j < (Lib.decDigits u).length → w'.cell? ⟨w.heap.size, 0 + j, none⟩ = some (.int .u8 (dk[j]!.toNat : Int)) := fun j hj => by
    rw [ew, World.cell?_drewN]
    exact Sort.cell?_putRow (fun (b : UInt8) => Value.int .u8 (b.toNat : Int)) _ w.heap.size 0 _ dk HH0.out (by rw [hF.size, Array.size_replicate]) j (by rw [hF.size]; rw [Lib.decDigits_length] at hj; exact hj)
  have hB : Below w.heap.size w w' := by
    rw [ew]
    refine below_drewN ?_ k
    have h1 : Below w.heap.size w (w.alloc (.cells Lib.zeros24 141)) := (Below.refl _ _).alloc (Nat.le_refl _) _
    exact h1.trans ⟨rfl, rfl, rfl, by simp, fun j hj => by simp [Sort.putRow, Sort.mapBlock, Array.getElem?_modify, show ¬ w.heap.size = j by omega]⟩
  have hcv : (convert 89 9 (.slice (some ⟨w.heap.size, 0, none⟩) (Lib.nDigits u) 24)).run Tryz.prog w' = .ok (.string ⟨(Lib.decDigits u).toArray⟩) w' := by
    have h := run_convert_bytes_back (P := Tryz.prog) w' 89 9 5 ⟨w.heap.size, 0, none⟩ 24 (Lib.decDigits u) Tryz.underlying89 Tryz.underlying5 Tryz.underlying9 (fun j hj => by
      rw [Lib.row_is_numeral hF j hj, Lib.add_plain]
      exact hcell j hj)
    rw [Lib.decDigits_length] at h
    exact h
  clear ew hF hcell Hf HH0 htab
  go_wp2
  go_ret
  exact ⟨rfl, hB⟩

theorem formatUint_any (u : Nat) (hu64 : u < 18446744073709551616) (w : World) (htab : Lib.TabIs Tryz.prog w "internal/strconv.uint64pow10" .u64 Lib.pow10Tab) :
    Calls Tryz.prog 76 #[.int .u64 u, .int .i64 10] w fun e w' => e = .returned (.string ⟨(Lib.decDigits u).toArray⟩) ∧ Below w.heap.size w w' := by
  by_cases h : u < 100
  · exact formatUint_small u h w
  · exact formatUint_big u (by omega) hu64 w htab

set_option maxHeartbeats 400000 in
/-- strconv.FormatUint. -/
theorem format_any (u : Nat) (hu64 : u < 18446744073709551616) (w : World) (htab : Lib.TabIs Tryz.prog w "internal/strconv.uint64pow10" .u64 Lib.pow10Tab) :
    Calls Tryz.prog 58 #[.int .u64 u, .int .i64 10] w fun e w' => e = .returned (.string ⟨(Lib.decDigits u).toArray⟩) ∧ Below w.heap.size w w' := by
  go_enter Tryz.func58, Tryz.ntmps58
  go_wp2_with (go_at_call 76; refine (formatUint_any u hu64 _ htab).mono ?_; rintro e w' ⟨rfl, hB⟩)
  go_ret
  exact ⟨rfl, hB⟩
end Go.Proofs.YtocfenjampmdlaaGreatDoor.B
