/- A copy of a slice of words, made by 'append' to nothing. -/
import Derived.Test.YtnaiahjgdakneaaDoorGrp
namespace Go.Proofs.YtnaiahjgdakneaaDoor
open Go.RowKit Num

theorem Tryd.infoW : (Tryd.prog.info? 41).map (fun i => (i.zero, i.size, i.bytes)) = some (some (.int .u64 0), 1, 8) := by kernel_rfl
theorem ws_at (X : Nat → Int) (n j : Nat) (u : Value) (h : (ws X n)[j]? = some u) : j < n ∧ u = .int .u64 (X j) := by
  by_cases hj : j < n
  · rw [ws_get _ _ _ hj] at h
    exact ⟨hj, (Option.some.inj h).symm⟩
  · rw [List.getElem?_eq_none (by rw [ws_len]; omega)] at h
    cases h
theorem wp_copyall {ops : Array Oper} {rest : List Oper} {q : Oper} {a : Act} {Q : Exit → Act → World → Prop} (w : World) (hg : q.guard = none) (s x : Operand)
    (hop : q.op = .call { callee := .builtin .append, args := #[s, x], argTypes := #[24, 24] }) (hs : a.eval s = .slice none 0 0) (v : Value) (hx : a.eval x = v) (n : Nat) (X : Nat → Int) (o : Nat) (hv : Sl w v n X o) (hn : n ≤ 1000)
    (hK : ∀ v' w', Sl w' v' n X o → Below w.heap.size w w' → wpList Tryd.prog ops Q rest (a.put q.dst v') w') :
    wpList Tryd.prog ops Q (q :: rest) a w := by
  obtain ⟨i0, hi, hz0, hz1, hz2⟩ := info_parts Tryd.infoW
  have hwd := hv.wd
  obtain ⟨ao, cap, rfl, h1, h2, h3, h4, h5⟩ := hv
  cases ao with
  | none =>
    have hc := h4 rfl
    subst hc
    have hn0 : n = 0 := by omega
    subst hn0
    refine wpList_plain hg fun K hK' => ?_
    have := hK (.slice none 0 0) w ⟨none, 0, rfl, Nat.le_refl _, by decide, h3, (fun _ => rfl), fun h => absurd h (by decide)⟩ (Below.refl _ _)
    have hr : (Builtin.append_ #[24, 24] q.type #[.slice none 0 0, .slice none 0 0]).run Tryd.prog w = .ok (.slice none 0 0) w := by
      simp [Builtin.append_, go_sem]
    unfold Oper.wp execOp
    simp only [hop, resolve, invoke, builtin, Sem.run_bind, Sem.run_pure, Result.andThen_ok, List.map_toArray, List.map_cons, List.map_nil, hs, hx, hr]
    exact hK' _ _ this
  | some ad =>
    refine wpList_append_own w hg s x 24 hop w.heap.size 41 i0 (.int .u64 0) 1 8 Tryd.underlying24 hi hz0 hz1 hz2 rfl (by decide) (.slice none 0 0) 0 [] hs (World.ownsRow_nil _ _ _ _) ad n cap (ws (fun j => X (o + j)) n) hx (by simp [ws_len]) ?_ ?_ (by unfold maxLen; omega) (by omega) (Nat.le_refl _) ?_
    · intro j u hu
      obtain ⟨hj, rfl⟩ := ws_at _ _ _ _ hu
      obtain ⟨b, off, e, _, hc⟩ := h5 (by omega)
      cases e
      rw [show (⟨b, off, none⟩ : Addr).add j = ⟨b, off + j, none⟩ from by simp [Addr.add]]
      exact hc j hj
    · intro u hu
      obtain ⟨j, hj, rfl⟩ := List.mem_map.1 hu
      rfl
    · intro v' w' own grow _
      rw [Nat.zero_add, List.nil_append] at own
      refine hK v' w' ?_ ⟨grow.1, grow.2, grow.3, grow.4, fun k hk => grow.5 k hk (by simp [Value.ownBlock])⟩
      rcases own.2 with ⟨rfl, rfl⟩ | ⟨g, cap', cur, rfl, _⟩
      · exact ⟨none, 0, rfl, Nat.le_refl _, by decide, hwd, (fun _ => rfl), fun h => absurd h (by decide)⟩
      · have OW : OwnW w' w.heap.size g n cap' (fun j => X (o + j)) := own
        exact ⟨_, cap', rfl, OW.caps.1, OW.caps.2, hwd, (fun e => by cases e), fun _ => ⟨g, 0, rfl, OW.lt.2, fun j hj => by rw [Nat.zero_add]; exact OW.cell hj⟩⟩
end Go.Proofs.YtnaiahjgdakneaaDoor
