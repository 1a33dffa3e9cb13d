/- What prime's Scan answers. -/
import Derived.Test.YteeldlaidohjiabDoorPf
import Derived.LaidMore
import Derived.Laws.OwnMore
namespace Go.Proofs.YteeldlaidohjiabDoor
open Go.RowKit Num Nmb

/-- the numbers told to be primes among 1 and so many times u, the greatest one first. -/
noncomputable def gath (u : Nat) : Nat → List Nat
  | 0 => []
  | i + 1 => if isB (1 + u * (i + 1)) = true then (1 + u * (i + 1)) :: gath u i else gath u i
def wordCells (l : List Nat) : List Value := l.map fun (n : Nat) => Value.int .u64 (n : Int)
def OwW (w : World) (base : Nat) (v : Value) (l : List Nat) : Prop := w.ownsRow base 22 1 v l.length (wordCells l)
theorem own_block {base n k : Nat} {e : TypeId} {v : Value} {xs : List Value} {w w' : World} (h : w.ownsRow base e 1 v n xs) (o : w.grownBy w' v.ownBlock) (hk : k < base) (hw : k < w.heap.size) : w'.heap[k]? = w.heap[k]? :=
  o.block k hw (fun e => by have := (h.lt k e.symm).1; omega)
theorem grown_below {w w' : World} {base n : Nat} {e : TypeId} {v : Value} {xs : List Value} (h : w.ownsRow base e 1 v n xs) (g : w.grownBy w' v.ownBlock) (hb : base ≤ w.heap.size) : Below base w w' :=
  ⟨g.os, g.tape, g.output, g.size, fun _ hk => own_block h g hk (by omega)⟩
theorem OwW.push {w w3 : World} {base N : Nat} {v v' : Value} {L : List Nat} {c : Nat} {o : Obj} (h : OwW w base v L) (hb : base ≤ w.heap.size) (hN : N = L.length + 1)
    (own : w3.ownsRow base 22 1 v' N (wordCells L ++ [.int .u64 (c : Int)])) (grow : (w.alloc o).grownBy w3 v.ownBlock) : OwW w3 base v' (L ++ [c]) ∧ Below base w w3 ∧ base ≤ w3.heap.size := by
  have h2 : (w.alloc o).ownsRow base 22 1 v L.length (wordCells L) := World.ownsRow.alloc h _
  have b2 := grown_below h2 grow (by simp; omega)
  refine ⟨?_, ((Below.refl _ _).alloc hb o).trans b2, ?_⟩
  · subst hN
    unfold OwW
    rw [List.length_append, List.length_singleton]
    simpa [wordCells] using own
  · have := b2.size; simp at this; omega
theorem OwW.heap {w w' : World} {base : Nat} {v : Value} {l : List Nat} (h : OwW w base v l) (e : w'.heap = w.heap) : OwW w' base v l := by
  unfold OwW World.ownsRow at *
  rw [e]
  exact h
theorem OwW.slice {w : World} {base : Nat} {v : Value} {l : List Nat} (h : OwW w base v l) : ∃ ao cap, v = .slice ao l.length cap := by
  rcases h.2 with ⟨rfl, h0⟩ | ⟨g, cap, cur, rfl, hg, hgg, hgc, hgm, hgs, htk⟩
  · exact ⟨none, 0, by rw [h0]⟩
  · exact ⟨_, cap, rfl⟩
theorem Tryd.infoWord : (Tryd.prog.info? 22).map (fun i => (i.zero, i.size, i.bytes)) = some (some (Value.int IntKind.u64 0), 1, 8) := by kernel_rfl
theorem pushed {w w2 w3 : World} {v v' : Value} {L : List Nat} {c : Nat} {o : Obj} (h : OwW w2 w.heap.size v L) (B : Below w.heap.size w w2) (Y : Lay w2) (Y0 : Lay w) (hb : w.heap.size ≤ w2.heap.size)
    (own : w3.ownsRow w.heap.size 22 1 v' (L.length + 1) (wordCells L ++ [.int .u64 (c : Int)])) (grow : (w2.alloc o).grownBy w3 v.ownBlock) :
    ∃ ao cap, v' = .slice ao (L.length + 1) cap ∧ Hid (OwW w3 w.heap.size (.slice ao (L.length + 1) cap) (L ++ [c])) ∧ Hid (Below w.heap.size w w3) ∧ Hid (Lay w3) ∧ w.heap.size ≤ w3.heap.size := by
  obtain ⟨h1, h2, h3⟩ := OwW.push h hb rfl own grow
  obtain ⟨ao, cap, hv⟩ := h1.slice
  rw [List.length_append, List.length_singleton] at hv
  subst hv
  exact ⟨ao, cap, rfl, h1, B.trans h2, Y.below h2 Y0.size, h3⟩
/-- what Scan answers, of all that there are. -/
def ScanIs (w' : World) (base : Nat) (v : Value) (er : Int) (many : Nat) (G : List Nat) : Prop := (er = 0 ∧ OwW w' base v (G.take many) ∧ many ≤ G.length) ∨ (er = 19 ∧ v = .slice none 0 0 ∧ G.length < many)
set_option maxHeartbeats 1600000 in
set_option maxRecDepth 100000 in
theorem scan_any (k many below u q : Nat) (w : World) (hk : 1 ≤ k ∧ k ≤ 40) (hm : 1 ≤ many ∧ many ≤ 64) (hb : 2 ≤ below) (hb' : below ≤ 9223372036854775808) (hu : 2 ^ k = u) (hq0 : (below - 2) / u = q) (L : Lay w) :
    Calls Tryd.prog 7 #[.int .i64 k, .int .i64 many, .int .u64 below] w fun e w' => (∃ (v : Value) (er : Int), e = .returned (.tuple #[v, .int .i64 er]) ∧ ScanIs w' w.heap.size v er many (gath u q)) ∧ Below w.heap.size w w' := by
  obtain ⟨i0, hi, hz0, hz1, hz2⟩ := info_parts Tryd.infoWord
  obtain ⟨k1, k2⟩ := hk
  obtain ⟨m1, m2⟩ := hm
  have u1 : 2 ≤ 2 ^ k ∧ 2 ^ k ≤ 1099511627776 := ⟨by simpa using Nat.pow_le_pow_right (show 0 < 2 by decide) k1, by simpa using Nat.pow_le_pow_right (show 0 < 2 by decide) k2⟩
  have LL := hid L
  clear L
  have f1 : ¬ (k : Int) < 1 := by omega
  have f2 : ¬ (40 : Int) < (k : Int) := by omega
  have f3 : ¬ (many : Int) < 1 := by omega
  have f4 : ¬ (64 : Int) < (many : Int) := by omega
  have f5 : ¬ (9223372036854775808 : Int) < (below : Int) := by omega
  have f6 : ¬ (below : Int) < 2 := by omega
  rw [hu] at u1
  have eu : (2 : Int) ^ k = (u : Int) := by rw [← hu, Int.natCast_pow]; rfl
  have eq : ((below : Int) - 2) / (u : Int) = (q : Int) := by
    rw [← hq0, Int.natCast_ediv]
    congr 1
    omega
  have hq := Nat.div_mul_le_self (below - 2) u
  rw [hq0] at hq
  have e2 : IntKind.u64.wrap (IntKind.u64.wrap ((q : Int) * (u : Int)) + 1) = ((1 + u * q : Nat) : Int) := by
    have : (q : Int) * (u : Int) = ((q * u : Nat) : Int) := by rw [Int.natCast_mul]
    rw [this, Nat.mul_comm u q, IntKind.wrap_u64, IntKind.wrap_u64]
    omega
  have q2 : u * q ≤ 9223372036854775808 := by rw [Nat.mul_comm]; omega
  clear hu hq hq0
  go_enter Tryd.func7, Tryd.ntmps7
  go_wp2
  clear eq e2 f1 f2 f3 f4 f5 f6
  go_loopw [8, 9] (fun lv nv wr => ∃ (j : Nat) (X : List Nat), nv = .int .u64 ((1 + u * j : Nat) : Int) ∧ j ≤ q ∧ X.length < many ∧ Hid (OwW wr w.heap.size lv X ∧ Below w.heap.size w wr ∧ X ++ gath u j = gath u q ∧ Lay wr) ∧ w.heap.size ≤ wr.heap.size) (fun _ nv _ => (intOf nv).toNat)
  case atStart => exact ⟨q, [], rfl, Nat.le_refl _, by simp; omega, ⟨World.ownsRow_nil _ _ _ _, Below.refl _ _, rfl, LL.out⟩, Nat.le_refl _⟩
  case round =>
    obtain ⟨j, X, rfl, hj, hX, R, hsz⟩ := hrel
    have uj : u * j ≤ u * q := Nat.mul_le_mul_left u hj
    by_cases h0 : j = 0
    · subst h0
      have SP : Hid (ScanIs wr w.heap.size (.slice none 0 0) 19 many (gath u q)) := Or.inr ⟨rfl, rfl, by have := R.out.2.2.1; rw [show gath u 0 = [] from rfl, List.append_nil] at this; rw [← this]; exact hX⟩
      have BB := hid R.out.2.1
      clear R LL
      go_wp2
      go_ret2
      exact ⟨⟨_, _, rfl, SP.out⟩, BB.out⟩
    · obtain ⟨i, rfl⟩ : ∃ i, j = i + 1 := ⟨j - 1, by omega⟩
      have ui : u * (i + 1) = u * i + u := Nat.mul_succ u i
      have IS := hid (is_any (1 + u * (i + 1)) wr (by omega) R.out.2.2.2)
      have G : gath u (i + 1) = if isB (1 + u * (i + 1)) = true then (1 + u * (i + 1)) :: gath u i else gath u i := rfl
      have hn1 : (1 : Int) < ((1 + u * (i + 1) : Nat) : Int) := by omega
      have en : IntKind.u64.wrap (((1 + u * (i + 1) : Nat) : Int) - (u : Int)) = ((1 + u * i : Nat) : Int) := by rw [IntKind.wrap_u64]; omega
      have GG := hid G
      clear G
      generalize hB : isB (1 + u * (i + 1)) = B at *
      have il : (1 + u * i) + u = 1 + u * (i + 1) := by omega
      have bnd : 1 + u * (i + 1) ≤ 9223372036854775809 := by omega
      clear hB ui uj
      generalize 1 + u * (i + 1) = n at *
      have ev : Value.int IntKind.u64 (1 + (u : Int) * (i : Int)) = .int .u64 ((1 + u * i : Nat) : Int) := by rw [Int.natCast_add, Int.natCast_mul]; rfl
      have EV := hid ev
      have em : (1 + (u : Int) * (i : Int)).toNat < n := by
        have : (1 + (u : Int) * (i : Int)) = ((1 + u * i : Nat) : Int) := by rw [Int.natCast_add, Int.natCast_mul]; rfl
        rw [this]
        omega
      have EM := hid em
      clear ev em il
      cases B
      · have ee : X ++ gath u i = gath u q := by rw [← R.out.2.2.1, GG.out, if_neg (by decide)]
        have EE := hid ee
        clear ee
        go_wp2_with fail
        refine IS.out.mono ?_
        rintro e w3 ⟨rfl, c, rfl⟩
        go_wp2
        exact ⟨⟨i, X, EV.out, by omega, hX, ⟨R.out.1.heap (by simp), below_drewN R.out.2.1 c, EE.out, R.out.2.2.2.drew c⟩, by simpa using hsz⟩, EM.out⟩
      · have ee : (X ++ [n]) ++ gath u i = gath u q := by rw [← R.out.2.2.1, GG.out, if_pos (by decide), List.append_assoc]; rfl
        have EE := hid ee
        clear ee
        go_wp2_with fail
        refine IS.out.mono ?_
        rintro e w3 ⟨rfl, c, rfl⟩
        have OWN := hid (R.out.1.heap (w' := wr.drewN c) (by simp))
        have BB := hid (below_drewN R.out.2.1 c)
        have LY := hid (R.out.2.2.2.drew c)
        have hs2 : w.heap.size ≤ (wr.drewN c).heap.size := by simpa using hsz
        clear R IS GG hsz
        generalize wr.drewN c = w2 at *
        by_cases hmany : X.length + 1 = many
        · have hmany' : (((X.length : Int) + 1) == (many : Int)) = true := by simp; omega
          go_wp2_with (at_builtin; refine wpList_append_own _ rfl (.tmp 46) (.tmp 48) 24 rfl w.heap.size 22 i0 (.int .u64 0) 1 8 Tryd.underlying24 hi hz0 hz1 hz2 rfl (by decide) _ X.length (wordCells X) rfl (OWN.out.alloc _) ⟨w2.heap.size, 0, none⟩ 1 1 [.int .u64 (n : Int)] rfl rfl (cell_one_new _ _ _) (by intro u hu; simp at hu; subst hu; rfl) (by unfold maxLen; omega) (by omega) (by simp; omega) ?_; intro v' w3 own3 grow3 iff3; clear iff3; obtain ⟨ao, cap, hv, O3, B3, L3, hp3⟩ := pushed OWN.out BB.out LY.out LL.out hs2 own3 grow3; clear own3 grow3; subst hv)
          have SP : Hid (ScanIs w3 w.heap.size (.slice ao many cap) 0 many (gath u q)) := Or.inl ⟨rfl, by
            have e : (gath u q).take many = X ++ [n] := by rw [← EE.out, List.take_append_of_le_length (by simp; omega), List.take_of_length_le (by simp; omega)]
            rw [e, ← hmany]; exact O3.out, by rw [← EE.out, List.length_append, List.length_append, List.length_singleton]; omega⟩
          go_ret2
          exact ⟨⟨_, _, rfl, SP.out⟩, B3.out⟩
        · have hmany' : (((X.length : Int) + 1) == (many : Int)) = false := beq_eq_false_iff_ne.2 (by omega)
          go_wp2_with (at_builtin; refine wpList_append_own _ rfl (.tmp 46) (.tmp 48) 24 rfl w.heap.size 22 i0 (.int .u64 0) 1 8 Tryd.underlying24 hi hz0 hz1 hz2 rfl (by decide) _ X.length (wordCells X) rfl (OWN.out.alloc _) ⟨w2.heap.size, 0, none⟩ 1 1 [.int .u64 (n : Int)] rfl rfl (cell_one_new _ _ _) (by intro u hu; simp at hu; subst hu; rfl) (by unfold maxLen; omega) (by omega) (by simp; omega) ?_; intro v' w3 own3 grow3 iff3; clear iff3; obtain ⟨ao, cap, hv, O3, B3, L3, hp3⟩ := pushed OWN.out BB.out LY.out LL.out hs2 own3 grow3; clear own3 grow3; subst hv)
          exact ⟨⟨i, X ++ [n], EV.out, by omega, by simp; omega, ⟨O3.out, B3.out, EE.out, L3.out⟩, hp3⟩, EM.out⟩
end Go.Proofs.YteeldlaidohjiabDoor
