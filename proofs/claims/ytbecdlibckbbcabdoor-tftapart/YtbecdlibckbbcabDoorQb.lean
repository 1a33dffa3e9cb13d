/- What the law's great answers, and slices that are written out. -/
import Derived.Test.YtbecdlibckbbcabDoorQv
namespace Go.Proofs.YtbecdlibckbbcabDoor
open Go.RowKit Num Nmb

theorem priA : Pri 4179340454199820289 := proth2 (c := 29) (k := 57) (a := 3) (i := 56) (by decide) (by decide) (by decide) (by decide) (by decide) (by decide +kernel)
theorem priB : Pri 180143985094819841 := proth2 (c := 5) (k := 55) (a := 3) (i := 54) (by decide) (by decide) (by decide) (by decide) (by decide) (by decide +kernel)
theorem pri7 : Pri 7 := low_pri 7 (by decide) (by decide) (by decide)
theorem Rt.of_ord {p r k : Nat} (hp : Pri p) (h : Ord p r k) (hk : k ≤ tw p) (hl : p ≤ 18446744073709551615) : Rt p r k := by
  have h2 := hp.1
  have one : Cg p ((r : Int) ^ 2 ^ k) 1 := by
    rw [← Int.natCast_pow]
    refine (Cg.nat (b := 1)).2 ?_
    rw [h.1, Nat.mod_eq_of_lt (by omega)]
  refine ⟨hp, one, fun h0 => ?_, fun h0 e => ?_⟩
  · have hn := h.2 (k - 1) (by omega)
    have e1 : r ^ 2 ^ (k - 1) * r ^ 2 ^ (k - 1) = r ^ 2 ^ k := by
      have := two_twice r (k - 1)
      rw [show k - 1 + 1 = k by omega] at this
      exact this.symm
    rcases hp.sqrt1 (x := r ^ 2 ^ (k - 1)) (by rw [e1]; exact h.1) with h3 | h3
    · exact absurd h3 hn
    · have e2 : Cg p ((r : Int) ^ 2 ^ (k - 1)) ((p - 1 : Nat) : Int) := by
        rw [← Int.natCast_pow]
        refine Cg.nat.2 ?_
        rw [h3, Nat.mod_eq_of_lt (by omega)]
      refine e2.trans (Cg.dvd.2 ⟨1, ?_⟩)
      rw [Int.natCast_sub (by omega)]
      omega
  · subst e
    rw [tw2] at hk
    omega
theorem RootIs.rt {p r k : Nat} (h : RootIs p k r) (hp : Pri p) (hk : k ≤ tw p) (hl : p ≤ 18446744073709551615) : Rt p r k := by
  obtain ⟨x, _, _, h3, _⟩ := h
  exact Rt.of_ord hp h3 hk hl
/-- one of the law's primes. -/
def GreatP (p : Nat) : Prop := p = 998244353 ∨ p = 4179340454199820289 ∨ p = 180143985094819841 ∨ p = 7 ∨ p = 17 ∨ p = 97
theorem GreatP.pri {p : Nat} (h : GreatP p) : Pri p := by
  rcases h with rfl | rfl | rfl | rfl | rfl | rfl
  · exact pri998
  · exact priA
  · exact priB
  · exact pri7
  · exact pri17
  · exact pri97
theorem GreatP.le {p : Nat} (h : GreatP p) : p ≤ 4179340454199820289 := by
  rcases h with rfl | rfl | rfl | rfl | rfl | rfl <;> decide
theorem Wl.lit (w : World) (l : List Nat) (o : Obj) (ho : o = .cells (wordCells l).toArray 28 (0, 0)) (hl : l.length ≤ 100) (hb : ∀ x, x ∈ l → x ≤ 18446744073709551615) :
    Wl (w.alloc o) (.slice (some ⟨w.heap.size, 0, none⟩) l.length l.length) l.length (lw l) := by
  have hc : (w.alloc o).heap[w.heap.size]? = some o := heap_alloc_new w o
  refine ⟨_, _, rfl, Nat.le_refl _, by omega, fun j hj => ?_, fun _ => ⟨_, 0, rfl, by simp, fun j hj => ?_⟩⟩
  · unfold lw
    have : l.getD j 0 ∈ l := by rw [List.getD_eq_getElem?_getD, List.getElem?_eq_getElem hj]; exact List.getElem_mem _
    have := hb _ this
    omega
  · rw [ho] at hc ⊢
    unfold World.cell?
    simp only [hc]
    have e2 : l.getD j 0 = l[j] := by rw [List.getD_eq_getElem?_getD, List.getElem?_eq_getElem hj]; rfl
    unfold lw
    rw [e2, Nat.zero_add]
    simp [wordCells, hj]
/-- what is known of a table's numbers. -/
structure TabOk (p k r : Nat) : Prop where
  pri : Pri p
  h63 : p < 9223372036854775808
  k20 : k ≤ 20
  ktw : k ≤ tw p
  root : RootIs p k r
/-- b is what Back answers of the values a. -/
def Bk (p k r : Nat) (a b : Nat → Int) : Prop := ∃ v c : Int, Cg p (v * r) 1 ∧ Cg p (c * (2 ^ k : Nat)) 1 ∧ ∀ j, j < 2 ^ k → b j = c * dft a v (2 ^ k) j % p
theorem TabOk.rt {p k r : Nat} (h : TabOk p k r) : Rt p r k := h.root.rt h.pri h.ktw (by have := h.h63; omega)
theorem Cg.mod_eq {p : Nat} {a b : Int} (h : Cg p a b) : a % p = b % p := h
/-- Back of Go. -/
theorem Bk.there {p k r : Nat} {a b c : Nat → Int} (h : Bk p k r b c) (T : TabOk p k r) (hb : ∀ j, j < 2 ^ k → b j = dft a r (2 ^ k) j % p) (j : Nat) (hj : j < 2 ^ k) : c j = a j % p := by
  obtain ⟨v, e, hv, he, hc⟩ := h
  rw [hc j hj]
  refine Cg.mod_eq (Cg.trans (Cg.rfl.mul (dft_cg (fun i hi => ?_) j)) (T.rt.there hv he a j hj))
  rw [hb i hi]
  exact Cg.mod
/-- Go of Back. -/
theorem Bk.again {p k r : Nat} {a b : Nat → Int} (h : Bk p k r a b) (T : TabOk p k r) (j : Nat) (hj : j < 2 ^ k) : dft b r (2 ^ k) j % p = a j % p := by
  obtain ⟨v, e, hv, he, hc⟩ := h
  refine Cg.mod_eq (Cg.trans (dft_cg (fun i hi => ?_) j) (T.rt.again hv he a j hj))
  rw [hc i hi]
  exact Cg.mod
end Go.Proofs.YtbecdlibckbbcabDoor
