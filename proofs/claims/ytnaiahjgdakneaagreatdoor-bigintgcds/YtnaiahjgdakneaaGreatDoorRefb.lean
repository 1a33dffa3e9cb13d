/- Bytes that are laid one by one, and "turned" of the reference. -/
import Derived.Test.YtnaiahjgdakneaaGreatDoorRefa
namespace Go.Proofs.YtnaiahjgdakneaaGreatDoor
open Go.RowKit Num
open Go.Lib (decDigits)
def OwB (w : World) (base : Nat) (v : Value) (l : List UInt8) : Prop := w.ownsRow base 5 1 v l.length (Lib.byteCells l)
/-- bytes that stand in a slice. -/
def Bt (w : World) (v : Value) (l : List UInt8) : Prop :=
  ∃ ao cap, v = .slice ao l.length cap ∧ l.length ≤ cap ∧ (0 < l.length → ∃ b off, ao = some ⟨b, off, none⟩ ∧ b < w.heap.size ∧ ∀ j (hj : j < l.length), w.cell? ⟨b, off + j, none⟩ = some (.int .u8 l[j].toNat))
theorem byteCells_get (l : List UInt8) (j : Nat) (hj : j < l.length) : (Lib.byteCells l)[j]? = some (.int .u8 l[j].toNat) := by
  simp [Lib.byteCells, List.getElem?_eq_getElem hj]
theorem OwB.bt {w : World} {base : Nat} {v : Value} {l : List UInt8} (h : OwB w base v l) : Bt w v l := by
  rcases h.2 with ⟨rfl, h0⟩ | ⟨g, cap, cur, rfl, hg, hgg, hgc, hgm, hgs, htk⟩
  · refine ⟨none, 0, by rw [h0], by omega, fun h => by omega⟩
  · refine ⟨_, cap, rfl, hgc, fun _ => ⟨g, 0, rfl, (Array.getElem?_eq_some_iff.1 hgg).1, fun j hj => ?_⟩⟩
    rw [Nat.zero_add]
    have := World.ownsRow.cellAt h j (by omega)
    rw [this, byteCells_get l j hj]
theorem OwB.str {w : World} {base : Nat} {v : Value} {l : List UInt8} (h : OwB w base v l) : (convert 62 9 v).run Tryz.prog w = .ok (.string ⟨l.toArray⟩) w := by
  obtain ⟨ao, cap, rfl, hc, hl⟩ := h.bt
  cases l with
  | nil =>
    cases ao with
    | none => exact run_convert_bytes_nil _ 62 5 Tryz.underlying62 Tryz.underlying5 _ _ 9 Tryz.underlying9
    | some ad => exact run_convert_bytes_back (P := Tryz.prog) w 62 9 5 ad cap [] Tryz.underlying62 Tryz.underlying5 Tryz.underlying9 (fun j hj => by simp at hj)
  | cons c t =>
    obtain ⟨b, off, rfl, hb, hcell⟩ := hl (by simp)
    exact run_convert_bytes_back (P := Tryz.prog) w 62 9 5 ⟨b, off, none⟩ cap (c :: t) Tryz.underlying62 Tryz.underlying5 Tryz.underlying9 (fun j hj => by have h := hcell j hj; simp only [Addr.add]; split; (next e => subst e; exact h); exact h)
theorem Bt.below {w w' : World} {v : Value} {l : List UInt8} (h : Bt w v l) (hb : Below w.heap.size w w') : Bt w' v l := by
  obtain ⟨ao, cap, rfl, h1, h2⟩ := h
  refine ⟨ao, cap, rfl, h1, fun hn => ?_⟩
  obtain ⟨b, off, rfl, hbs, hc⟩ := h2 hn
  exact ⟨b, off, rfl, Nat.lt_of_lt_of_le hbs hb.size, fun j hj => by rw [hb.cell (p := ⟨b, off + j, none⟩) hbs]; exact hc j hj⟩
theorem grown_below {w w' : World} {base n : Nat} {e : TypeId} {v : Value} {xs : List Value} (h : w.ownsRow base e 1 v n xs) (g : w.grownBy w' v.ownBlock) (hb : base ≤ w.heap.size) : Below base w w' :=
  ⟨g.os, g.tape, g.output, g.size, fun _ hk => own_block h g hk (by omega)⟩
theorem OwB.push {w w3 : World} {base N : Nat} {v v' : Value} {L : List UInt8} {c : UInt8} {o : Obj} (h : OwB w base v L) (hb : base ≤ w.heap.size) (hN : N = L.length + 1)
    (own : w3.ownsRow base 5 1 v' N (Lib.byteCells L ++ [.int .u8 (c.toNat : Int)])) (grow : (w.alloc o).grownBy w3 v.ownBlock) : OwB w3 base v' (L ++ [c]) ∧ Below base w w3 ∧ base ≤ w3.heap.size := by
  have h2 : (w.alloc o).ownsRow base 5 1 v L.length (Lib.byteCells L) := World.ownsRow.alloc h _
  have b2 := grown_below h2 grow (by simp; omega)
  refine ⟨?_, ((Below.refl _ _).alloc hb o).trans b2, ?_⟩
  · subst hN
    unfold OwB
    rw [List.length_append, List.length_singleton]
    simpa [Lib.byteCells] using own
  · have := b2.size; simp at this; omega

set_option maxHeartbeats 800000 in
set_option maxRecDepth 100000 in
theorem turned_any (v : Value) (l : List UInt8) (w : World) (h : Bt w v l) (hl : l.length ≤ 1000000) :
    Calls Tryz.prog 34 #[v] w fun e w' => e = .returned (.string ⟨l.reverse.toArray⟩) ∧ Below w.heap.size w w' := by
  obtain ⟨i0, hi, hz0, hz1, hz2⟩ := info_parts Tryz.infoByte
  have HB := hid h
  obtain ⟨ao, cap, rfl, hc, hcell⟩ := h
  clear hcell
  go_enter Tryz.func34, Tryz.ntmps34
  go_wp2
  go_loopw [3, 4] (fun out i wr => ∃ k : Nat, k ≤ l.length ∧ i = .int .i64 ((k : Int) - 1) ∧ Hid (OwB wr w.heap.size out (l.drop k).reverse ∧ Below w.heap.size w wr) ∧ w.heap.size ≤ wr.heap.size) (fun _ i _ => (intOf i + 1).toNat)
  case atStart => exact ⟨l.length, Nat.le_refl _, rfl, ⟨by rw [List.drop_length]; exact World.ownsRow_nil _ _ _ _, Below.refl _ _⟩, Nat.le_refl _⟩
  case round =>
    obtain ⟨k, hk, rfl, hr, hsz⟩ := hrel
    by_cases h0 : k = 0
    · subst h0
      have HS := hid hr.out.1.str
      have B0 := hr.out.2
      go_wp2_with fail
      rw [HS.out]
      go_wp2
      go_ret
      exact ⟨rfl, B0⟩
    · obtain ⟨j, rfl⟩ : ∃ j, k = j + 1 := ⟨k - 1, by omega⟩
      obtain ⟨ao', cap', e', _, hcell⟩ := HB.out.below hr.out.2
      obtain ⟨b, off, e2, hb, hc2⟩ := hcell (by omega)
      simp only [Value.slice.injEq, true_and] at e'
      obtain ⟨rfl, rfl⟩ := e'
      subst e2
      have hcj := hc2 j (by omega)
      clear hcell hc2
      have OWN := hid hr.out.1
      have hL : (l.drop (j + 1)).reverse.length ≤ 1000000 := by rw [List.length_reverse, List.length_drop]; omega
      go_wp2_with (at_builtin; refine wpList_append_own _ rfl (.tmp 12) (.tmp 17) 62 rfl w.heap.size 5 i0 (.int .u8 0) 1 1 Tryz.underlying62 hi hz0 hz1 hz2 rfl (by decide) _ (l.drop (j + 1)).reverse.length (Lib.byteCells (l.drop (j + 1)).reverse) rfl (OWN.out.alloc _) ⟨wr.heap.size, 0, none⟩ 1 1 [.int .u8 (l[j].toNat : Int)] rfl rfl (cell_one_new _ _ _) (by intro u hu; simp at hu; subst hu; rfl) (by unfold maxLen; omega) (by omega) (by simp; omega) ?_; intro v' w3 own3 grow3 _)
      have hp := OwB.push hr.out.1 hsz rfl own3 grow3
      have he : (l.drop j).reverse = (l.drop (j + 1)).reverse ++ [l[j]] := by rw [List.drop_eq_getElem_cons (by omega), List.reverse_cons]
      exact ⟨⟨j, by omega, rfl, ⟨by rw [he]; exact hp.1, hr.out.2.trans hp.2.1⟩, hp.2.2⟩, by simp only [intOf]; omega⟩
end Go.Proofs.YtnaiahjgdakneaaGreatDoor
