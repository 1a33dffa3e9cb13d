/- What is needed of memory for the law BigintOwn: what From answers lies in new memory; a copy that may be written into. -/
import Derived.Test.YtnaiahjgdakneaaDoorRga
import Derived.Test.YtnaiahjgdakneaaDoorIntn
import Derived.Test.YtnaiahjgdakneaaDoorOwc
namespace Go.Proofs.YtnaiahjgdakneaaDoor
open Go.RowKit Num

set_option maxHeartbeats 400000 in
theorem signed_own (neg : Bool) (s : Value) (k : Nat) (a : Int) (w : World) (h : Nz w s k a) :
    Calls Tryd.prog 22 #[.bool neg, s] w fun e w' => ∃ p ao k' c, e = .returned (.agg #[.bool p, .slice ao k' c]) ∧ It w' (.agg #[.bool p, .slice ao k' c]) k (sg neg a) ∧ (k' = 0 ∨ .slice ao k' c = s) ∧ Below w.heap.size w w' := by
  have H := hid h
  have L := hid h.len.1
  have H0 := hid h.nt.nonneg
  obtain ⟨ao, cap, rfl⟩ := h.shape
  clear h
  by_cases h0 : k = 0
  · subst h0
    obtain rfl : a = 0 := L.out.2 rfl
    clear L
    go_enter Tryd.func22, Tryd.ntmps22
    go_wp2
    refine bodyPost_ret (v := .agg #[.bool false, .slice none 0 0]) (by simp [results, Tryd.results22, go_sem]) rfl ?_
    refine ⟨_, _, _, _, rfl, ⟨false, none, 0, 0, 0, rfl, nil_nz _, Nat.le_refl _, ?_, by simp, by omega⟩, Or.inl rfl, below_new w _⟩
    cases neg <;> rfl
  · have hk0 : ((k : Int) == 0) = false := by simp; omega
    go_enter Tryd.func22, Tryd.ntmps22
    go_wp2
    refine bodyPost_ret (v := .agg #[.bool neg, .slice ao k cap]) (by simp [results, Tryd.results22, go_sem]) rfl ?_
    exact ⟨_, _, _, _, rfl, ⟨neg, ao, k, cap, a, rfl, H.out.alloc _, Nat.le_refl _, rfl, fun _ e => h0 (L.out.1 e), H0.out⟩, Or.inr rfl, below_new w _⟩
/-- the words of a number lie in a block at or above the mark, or there are none. -/
def Up (B : Nat) (ao : Option Addr) (k : Nat) : Prop := k = 0 ∨ ∃ g, ao = some ⟨g, 0, none⟩ ∧ B ≤ g
set_option maxHeartbeats 400000 in
theorem From_own (neg : Bool) (v : Value) (n : Nat) (a : Int) (w : World) (h : Nt w v n a) (hn : n ≤ 100000000) :
    Calls Tryd.prog 11 #[.bool neg, v] w fun e w' => ∃ p ao k c, e = .returned (.agg #[.bool p, .slice ao k c]) ∧ It w' (.agg #[.bool p, .slice ao k c]) n (sg neg a) ∧ Up w.heap.size ao k ∧ Below w.heap.size w w' := by
  have V0 := hid (var_new w)
  have B0 := hid (below_new w (.cells #[.bool false, .slice none 0 0] 26))
  have H := hid (norm_any v n a _ (h.alloc (.cells #[.bool false, .slice none 0 0] 26)) hn)
  clear h
  go_enter Tryd.func11, Tryd.ntmps11
  go_wp2_with fail
  refine H.out.mono ?_
  clear H
  generalize w.alloc (.cells #[.bool false, .slice none 0 0] 26) = wa at *
  rintro e w1 ⟨k, X, rfl, r1, r2, r3, r4, hk, C1, _⟩
  have N1 := hid (Nz.of_row r1 r2 r3 r4 (by omega)); clear r1 r2 r3 r4
  go_wp2_with fail
  refine (signed_own _ _ _ _ _ N1.out).mono ?_
  rintro e w2 ⟨p, ao, k', cap, rfl, I, hs, C2⟩
  have I1 := hid I
  have UP : Hid (Up w.heap.size ao k') := by
    rcases hs with h | h
    · exact Or.inl h
    · simp only [Value.slice.injEq] at h
      exact Or.inr ⟨_, h.1, B0.out.size⟩
  clear I hs
  have V2 := hid ((V0.out.below C1 (Blk.lt V0.out)).below C2 (Nat.lt_of_lt_of_le (Blk.lt V0.out) C1.size))
  obtain ⟨c0, c1, f0, f1, l0⟩ := Var.facts V2.out
  go_wp2
  refine bodyPost_ret (ret_var (Var.set V2.out) rfl rfl) rfl ?_
  exact ⟨_, _, _, _, rfl, (I1.out.off V2.out (only_two _ _ _ _)).mono hk, UP.out, (B0.out.trans (C1.mono B0.out.size)).trans ((C2.mono (Nat.le_trans B0.out.size C1.size)).trans ((only_two _ _ _ _).below (Nat.le_refl _)))⟩
/-- a number's words apart from a block that is written into. -/
theorem It.apart {w w' : World} {p : Bool} {ao : Option Addr} {k c n g B : Nat} {A : Int} (h : It w (.agg #[.bool p, .slice ao k c]) n A) (hu : Up B ao k) (hg : g < B) (o : Only g w w') : It w' (.agg #[.bool p, .slice ao k c]) n A := by
  obtain ⟨neg, ao', k', cap, a, e, ⟨x, off, hs, hm, hv⟩, h2, h3, h4, h5⟩ := h
  simp at e
  obtain ⟨rfl, rfl, rfl, rfl⟩ := e
  refine ⟨p, ao, k, c, a, rfl, ⟨x, off, ?_, hm, hv⟩, h2, h3, h4, h5⟩
  obtain ⟨ao2, cap2, e2, s1, s2, s3, s4, s5⟩ := hs
  simp at e2
  obtain ⟨rfl, rfl⟩ := e2
  have : SlN g w (.slice ao k c) k x off := by
    refine ⟨ao, c, rfl, s1, s2, s3, s4, fun hn => ?_⟩
    obtain ⟨b, of, e3, hb, hc⟩ := s5 hn
    refine ⟨b, of, e3, hb, ?_, hc⟩
    rcases hu with hu | ⟨g', hu, hB⟩
    · omega
    · rw [hu] at e3
      simp at e3
      omega
  exact (this.only o).sl
theorem wp_copyown {ops : Array Oper} {rest : List Oper} {q : Oper} {a : Act} {Q : Exit → Act → World → Prop} (w : World) (hg : q.guard = none) (s x : Operand)
    (hop : q.op = .call { callee := .builtin .append, args := #[s, x], argTypes := #[24, 24] }) (hs : a.eval s = .slice none 0 0) (v : Value) (hx : a.eval x = v) (n : Nat) (X : Nat → Int) (o : Nat) (hv : Sl w v n X o) (hn : n ≤ 1000)
    (hK : ∀ v' w', Sl w' v' n X o → Below w.heap.size w w' → (n = 0 ∨ ∃ g cap, v' = .slice (some ⟨g, 0, none⟩) n cap ∧ OwnW w' w.heap.size g n cap (fun j => X (o + j))) → wpList Tryd.prog ops Q rest (a.put q.dst v') w') :
    wpList Tryd.prog ops Q (q :: rest) a w := by
  by_cases hn0 : n = 0
  · exact wp_copyall w hg s x hop hs v hx n X o hv hn fun v' w' h1 h2 => hK v' w' h1 h2 (Or.inl hn0)
  obtain ⟨i0, hi, hz0, hz1, hz2⟩ := info_parts Tryd.infoW
  have hwd := hv.wd
  obtain ⟨ao, cap, rfl, h1, h2, h3, h4, h5⟩ := hv
  obtain ⟨b, off, e, _, hc⟩ := h5 (by omega)
  subst e
  refine wpList_append_own w hg s x 24 hop w.heap.size 41 i0 (.int .u64 0) 1 8 Tryd.underlying24 hi hz0 hz1 hz2 rfl (by decide) (.slice none 0 0) 0 [] hs (World.ownsRow_nil _ _ _ _) ⟨b, off, none⟩ n cap (ws (fun j => X (o + j)) n) hx (by simp [ws_len]) ?_ ?_ (by unfold maxLen; omega) (by omega) (Nat.le_refl _) ?_
  · intro j u hu
    obtain ⟨hj, rfl⟩ := ws_at _ _ _ _ hu
    rw [show (⟨b, off, none⟩ : Addr).add j = ⟨b, off + j, none⟩ from by simp [Addr.add]]
    exact hc j hj
  · intro u hu
    obtain ⟨j, hj, rfl⟩ := List.mem_map.1 hu
    rfl
  · intro v' w' own grow _
    rw [Nat.zero_add, List.nil_append] at own
    have hB : Below w.heap.size w w' := ⟨grow.1, grow.2, grow.3, grow.4, fun k hk => grow.5 k hk (by simp [Value.ownBlock])⟩
    rcases own.2 with ⟨_, h0⟩ | ⟨g, cap', cur, rfl, _⟩
    · exact absurd h0 hn0
    · have OW : OwnW w' w.heap.size g n cap' (fun j => X (o + j)) := own
      exact hK _ _ ⟨_, cap', rfl, OW.caps.1, OW.caps.2, hwd, (fun e => by cases e), fun _ => ⟨g, 0, rfl, OW.lt.2, fun j hj => by rw [Nat.zero_add]; exact OW.cell hj⟩⟩ hB (Or.inr ⟨g, cap', rfl, OW⟩)
end Go.Proofs.YtnaiahjgdakneaaDoor
