/- Lists of ints that grow; what Mul of boxes answers, in all (chapter 8). -/
import Derived.Test.YtocfenjampmdlaaGreatDoorLcw
import Derived.Test.YtocfenjampmdlaaGreatDoorRgu
namespace Go.Proofs.YtocfenjampmdlaaGreatDoor
open Go.RowKit Num Nmb

def intCells (l : List Int) : List Value := l.map fun (n : Int) => Value.int .i64 n
def OwI (w : World) (base : Nat) (v : Value) (l : List Int) : Prop := w.ownsRow base 3 1 v l.length (intCells l)
theorem OwI.push {w w3 : World} {base N : Nat} {v v' : Value} {L : List Int} {c : Int} {o : Obj} (h : OwI w base v L) (hb : base ≤ w.heap.size) (hN : N = L.length + 1)
    (own : w3.ownsRow base 3 1 v' N (intCells L ++ [.int .i64 c])) (grow : (w.alloc o).grownBy w3 v.ownBlock) : OwI w3 base v' (L ++ [c]) ∧ Below base w w3 ∧ base ≤ w3.heap.size := by
  have h2 : (w.alloc o).ownsRow base 3 1 v L.length (intCells L) := World.ownsRow.alloc h _
  have b2 := grown_below h2 grow (by simp; omega)
  refine ⟨?_, ((Below.refl _ _).alloc hb o).trans b2, ?_⟩
  · subst hN
    unfold OwI
    rw [List.length_append, List.length_singleton]
    simpa [intCells] using own
  · have := b2.size; simp at this; omega
theorem OwI.heap {w w' : World} {base : Nat} {v : Value} {l : List Int} (h : OwI w base v l) (e : w'.heap = w.heap) : OwI w' base v l := by
  unfold OwI World.ownsRow at *
  rw [e]
  exact h
theorem OwI.slice {w : World} {base : Nat} {v : Value} {l : List Int} (h : OwI w base v l) : ∃ ao cap, v = .slice ao l.length cap := by
  rcases h.2 with ⟨rfl, h0⟩ | ⟨g, cap, cur, rfl, hg, hgg, hgc, hgm, hgs, htk⟩
  · exact ⟨none, 0, by rw [h0]⟩
  · exact ⟨_, cap, rfl⟩
theorem pushedI {w w2 w3 : World} {v v' : Value} {L : List Int} {c : Int} {o : Obj} (h : OwI w2 w.heap.size v L) (B : Below w.heap.size w w2) (hb : w.heap.size ≤ w2.heap.size)
    (own : w3.ownsRow w.heap.size 3 1 v' (L.length + 1) (intCells L ++ [.int .i64 c])) (grow : (w2.alloc o).grownBy w3 v.ownBlock) :
    ∃ ao cap, v' = .slice ao (L.length + 1) cap ∧ Hid (OwI w3 w.heap.size (.slice ao (L.length + 1) cap) (L ++ [c])) ∧ Hid (Below w.heap.size w w3) ∧ w.heap.size ≤ w3.heap.size := by
  obtain ⟨h1, h2, h3⟩ := OwI.push h hb rfl own grow
  obtain ⟨ao, cap, hv⟩ := h1.slice
  rw [List.length_append, List.length_singleton] at hv
  subst hv
  exact ⟨ao, cap, rfl, h1, B.trans h2, h3⟩
theorem OwI.wi {w : World} {base : Nat} {v : Value} {l : List Int} (h : OwI w base v l) (hv : ∀ x, x ∈ l → -9223372036854775808 ≤ x ∧ x ≤ 9223372036854775807) : Wi w v l.length (fun j => l.getD j 0) := by
  have bd : ∀ j, j < l.length → -9223372036854775808 ≤ l.getD j 0 ∧ l.getD j 0 ≤ 9223372036854775807 := fun j hj => by
    have : l.getD j 0 ∈ l := by rw [List.getD_eq_getElem?_getD, List.getElem?_eq_getElem hj]; exact List.getElem_mem _
    exact hv _ this
  rcases h.2 with ⟨rfl, h0⟩ | ⟨g, cap, cur, rfl, hg, hgg, hgc, hgm, hgs, htk⟩
  · refine ⟨none, 0, by rw [h0], by omega, by omega, bd, fun h => absurd h (by omega)⟩
  · refine ⟨_, cap, rfl, hgc, by unfold maxLen at hgm; omega, bd, fun _ => ⟨g, 0, rfl, (Array.getElem?_eq_some_iff.1 hgg).1, fun j hj => ?_⟩⟩
    have e := World.ownsRow.cellAt h j (by omega)
    rw [Nat.zero_add, e]
    unfold intCells
    rw [List.getElem?_map, List.getElem?_eq_getElem hj]
    have e2 : l.getD j 0 = l[j] := by rw [List.getD_eq_getElem?_getD, List.getElem?_eq_getElem hj]; rfl
    show some (Value.int IntKind.i64 _) = some (Value.int IntKind.i64 (l.getD j 0))
    rw [e2]
/-- the first i of f. -/
def lst (f : Nat → Int) : Nat → List Int
  | 0 => []
  | i + 1 => lst f i ++ [f i]
theorem lst_len (f : Nat → Int) : ∀ i, (lst f i).length = i
  | 0 => rfl
  | i + 1 => by show (lst f i ++ [f i]).length = _; rw [List.length_append, lst_len f i]; rfl
theorem lst_at (f : Nat → Int) : ∀ i j, j < i → (lst f i).getD j 0 = f j
  | 0, j, h => absurd h (by omega)
  | i + 1, j, h => by
    show (lst f i ++ [f i]).getD j 0 = _
    by_cases e : j = i
    · subst e
      rw [List.getD_eq_getElem?_getD, List.getElem?_append_right (by rw [lst_len]; omega), lst_len, Nat.sub_self]
      rfl
    · rw [List.getD_eq_getElem?_getD, List.getElem?_append_left (by rw [lst_len]; omega), ← List.getD_eq_getElem?_getD]
      exact lst_at f i j (by omega)
theorem lst_mem {f : Nat → Int} {x : Int} : ∀ i, x ∈ lst f i → ∃ j, j < i ∧ x = f j
  | 0, h => by cases h
  | i + 1, h => by
    rcases List.mem_append.1 h with h | h
    · obtain ⟨j, hj, e⟩ := lst_mem i h
      exact ⟨j, by omega, e⟩
    · rw [List.mem_singleton] at h
      exact ⟨i, by omega, h⟩
/-- may two boxes be multiplied? -/
def MayM (d e : Nat → Int) (n m ka kb : Nat) : Prop := SzIs d n ka 0 ∧ SzIs e m kb 0 ∧ n = m
/-- what Mul answers of boxes that may be. -/
def MulR (d e a b : Nat → Int) (n ka kb M : Nat) (xo : Option Addr) (xn xc : Nat) (lo : Option Addr) (ln lc : Nat) (er : Int) (w : World) : Prop :=
  (SzIs (fun t => d t + e t - 1) n 0 13 ∧ er = 13 ∧ ln = 0) ∨
    (SzIs (fun t => d t + e t - 1) n ln 0 ∧ er = 0 ∧ xn = n ∧ Wi w (.slice xo xn xc) n (fun t => d t + e t - 1) ∧ Wl w (.slice lo ln lc) ln (fun j => bxp d e (fun t => d t + e t - 1) n a b ka kb j % M))
theorem cmulb_good (ud ul vd vl : Value) (n ka kb : Nat) (d e a b : Nat → Int) (M : Nat) (w : World) (L : LayB w) (UD : Wi w ud n d) (UL : Wl w ul ka a) (VD : Wi w vd n e) (VL : Wl w vl kb b) (h2 : 2 ≤ M) (h63 : M ≤ 9223372036854775807) (S1 : SzIs d n ka 0) (S2 : SzIs e n kb 0) :
    Calls Tryz.prog 25 #[.agg #[ud, ul], .agg #[vd, vl], .int .u64 M] w fun e' w' => (∃ xo xn xc lo ln lc er, e' = .returned (.tuple #[.agg #[.slice xo xn xc, .slice lo ln lc], .int .i64 er]) ∧ MulR d e a b n ka kb M xo xn xc lo ln lc er w') ∧ Below w.heap.size w w' := by
  obtain ⟨n8, hd, -, -⟩ := S1.ok rfl
  obtain ⟨-, he, -, -⟩ := S2.ok rfl
  have hf : ∀ t, t < n → 1 ≤ d t + e t - 1 := fun t ht => by have := hd t ht; have := he t ht; omega
  by_cases hb : 65536 < pd (fun t => d t + e t - 1) n
  · have S3 : SzIs (fun t => d t + e t - 1) n 0 13 := Or.inr ⟨n8, hf, Or.inl ⟨hb, rfl, rfl⟩⟩
    refine (cmulb_limit ud ul vd vl n ka kb d e a b M w UD UL VD VL h2 h63 S1 S2 S3).mono ?_
    rintro e' w' ⟨⟨xo, xc, lo, lc, rfl⟩, B⟩
    exact ⟨⟨xo, 0, xc, lo, 0, lc, 13, rfl, Or.inl ⟨S3, rfl, rfl⟩⟩, B⟩
  · have p1 := pd_pos hf
    obtain ⟨K, hK⟩ : ∃ K : Nat, pd (fun t => d t + e t - 1) n = K := ⟨(pd (fun t => d t + e t - 1) n).toNat, by omega⟩
    have S3 : SzIs (fun t => d t + e t - 1) n K 0 := Or.inr ⟨n8, hf, Or.inr ⟨by omega, hK.symm, rfl⟩⟩
    refine (cmulb_yes ud ul vd vl n ka kb K d e a b M w L UD UL VD VL h2 h63 S1 S2 S3).mono ?_
    rintro e' w' ⟨⟨xo, xc, lo, lc, rfl, h1, h2⟩, B⟩
    exact ⟨⟨xo, n, xc, lo, K, lc, 0, rfl, Or.inr ⟨S3, rfl, rfl, h1, h2⟩⟩, B⟩
/-- where the product of two coefficients stands. -/
def atp (d e : Nat → Int) (n i k : Nat) : Nat := (pl (fun t => d t + e t - 1) (fun t => dg d n i t + dg e n k t) n).toNat
theorem atp_in {d e : Nat → Int} {n : Nat} (hd : ∀ t, t < n → 1 ≤ d t) (he : ∀ t, t < n → 1 ≤ e t) (i k : Nat) : ∀ t, t < n → 0 ≤ dg d n i t + dg e n k t ∧ dg d n i t + dg e n k t < d t + e t - 1 := fun t ht => by
  have h1 := dg_in (p := (i : Int)) hd t ht
  have h2 := dg_in (p := (k : Int)) he t ht
  omega
theorem atp_said {d e : Nat → Int} {n : Nat} (hd : ∀ t, t < n → 1 ≤ d t) (he : ∀ t, t < n → 1 ≤ e t) (i k : Nat) : pl (fun t => d t + e t - 1) (fun t => dg d n i t + dg e n k t) n = atp d e n i k ∧ (atp d e n i k : Int) < pd (fun t => d t + e t - 1) n := by
  have := pl_lt (d := fun t => d t + e t - 1) (e := fun t => dg d n i t + dg e n k t) (n := n) (atp_in hd he i k)
  unfold atp
  omega
theorem bxp_acc {d e : Nat → Int} {n : Nat} (hd : ∀ t, t < n → 1 ≤ d t) (he : ∀ t, t < n → 1 ≤ e t) (a b : Nat → Int) (ka kb j : Nat) : bxp d e (fun t => d t + e t - 1) n a b ka kb j = acc (atp d e n) a b kb ka 0 j := by
  unfold bxp acc
  show _ = _ + (0 : Int)
  rw [Int.add_zero]
  refine sm_eq _ fun i _ => sm_eq _ fun k _ => ?_
  rw [(atp_said hd he i k).1]
  by_cases q : atp d e n i k = j
  · rw [if_pos q, if_pos (by omega)]
  · rw [if_neg q, if_neg (by omega)]
end Go.Proofs.YtocfenjampmdlaaGreatDoor
