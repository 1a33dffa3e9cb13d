/- The reference's Round and Go. -/
import Derived.Test.YtcclkahoonlieaaDoorQs
import Derived.Test.YtcclkahoonlieaaDoorRr
namespace Go.Proofs.YtcclkahoonlieaaDoor
open Go.RowKit Num Nmb

set_option maxHeartbeats 3200000 in
set_option maxRecDepth 100000 in
theorem rround_any (t : Nat) (u v : Value) (n k0 r : Nat) (a b : Nat → Int) (p : Nat) (w : World) (ht : RT w t p k0 n r) (hu : Wl w u n a) (hv : Wl w v n b) (hn : 0 < n) (hln : n ≤ 1048576) (hp : 2 ≤ p) (hp' : p ≤ 9223372036854775807) :
    Calls Tryd.prog 23 #[.pointer (some ⟨t, 0, none⟩), u, v] w fun e w' => (∃ r, e = .returned r ∧ Wl w' r n (fun m => rnd a b n m % p)) ∧ Below w.heap.size w w' := by
  have T := hid ht
  have U := hid hu
  have V := hid hv
  obtain ⟨ao, cap, rfl, _⟩ := hu
  obtain ⟨bo, bap, rfl, _⟩ := hv
  have tn := ht.cell2
  have tl := hid ht.lt
  clear ht
  go_enter Tryd.func23, Tryd.ntmps23
  go_wp2_with (at_make; refine wp_make _ rfl _ _ rfl _ _ n rfl rfl (by omega) (by omega) (by omega) ?_; intro w1 R1 B1 Z1; have HR := hid R1; have HB := hid B1; have HZ := hid Z1; clear R1 B1 Z1)
  generalize hg : w.heap.size = g at *
  have HG := hid hg
  clear hg tn
  go_loopw [8] (fun iv wr => ∃ (i : Nat) (z : Nat → Int), iv = .int .i64 i ∧ i ≤ n ∧ Hid (Row wr g n z ∧ Below g w wr ∧ AcR (fun i l => (i + l) % n) a b n i 0 n p z)) (fun iv _ => ((n : Int) - intOf iv).toNat)
  case atStart => exact ⟨0, _, rfl, Nat.zero_le _, HR.out, HB.out, fun m _ => (Int.zero_emod p).symm⟩
  case round =>
    obtain ⟨i, z, rfl, hi, H⟩ := hrel
    clear HR HB HZ
    have tn := (T.out.below H.out.2.1 (by rw [← HG.out]; exact T.out.lt)).cell2
    by_cases hin : i = n
    · subst hin
      have D : Hid (Wl wr (.slice (some ⟨g, 0, none⟩) i i) i (fun m => rnd a b i m % p)) := by
        refine Wl.eq (H.out.1.wl (fun j hj => ?_) (by omega)) fun j hj => ?_
        · have := H.out.2.2.val (by omega) hj
          omega
        · rw [H.out.2.2 j hj, acc_rnd]
      have BB := hid H.out.2.1
      clear H
      go_wp2
      go_ret
      rw [HG.out]
      exact ⟨⟨_, rfl, D.out⟩, BB.out⟩
    · have hin' : (i : Int) < (n : Int) := by omega
      go_wp2
      clear tn
      go_loopw [9] (fun kv wk => ∃ (k : Nat) (z : Nat → Int), kv = .int .i64 k ∧ k ≤ n ∧ Hid (Row wk g n z ∧ Below g w wk ∧ AcR (fun i l => (i + l) % n) a b n i k n p z)) (fun kv _ => ((n : Int) - intOf kv).toNat)
      case atStart => exact ⟨0, z, rfl, Nat.zero_le _, H.out⟩
      case round =>
        obtain ⟨k, y, rfl, hk, J⟩ := hrel
        clear H
        have T1 := T.out.below J.out.2.1 (by rw [← HG.out]; exact T.out.lt)
        have tn := T1.cell2
        have tp := T1.cell0
        clear T1
        by_cases hkn : k = n
        · subst hkn
          have E : Hid (AcR (fun i l => (i + l) % k) a b k (i + 1) 0 k p y) := fun m hm => by rw [J.out.2.2 m hm, acc_next]
          go_wp2
          exact ⟨⟨i + 1, y, rfl, by omega, J.out.1, J.out.2.1, E.out⟩, by simp only [intOf]; omega⟩
        · have hkn' : (k : Int) < (n : Int) := by omega
          obtain ⟨b1, o1, rfl, hb1, c1'⟩ := U.out.cell (j := i) (by omega)
          obtain ⟨b2, o2, rfl, hb2, c2'⟩ := V.out.cell (j := k) (by omega)
          have a0 := (U.out.val (j := i) (by omega)).1
          have b0 := (V.out.val (j := k) (by omega)).1
          have n0 : ((n : Int) == 0) = false := beq_eq_false_iff_ne.2 (by omega)
          obtain ⟨s, hs⟩ : ∃ s, s = (i + k) % n := ⟨_, rfl⟩
          have hik : s < n := by rw [hs]; exact Nat.mod_lt _ (by omega)
          have es : ((i : Int) + (k : Int)) % (n : Int) = (s : Int) := by rw [hs, Int.natCast_emod, Int.natCast_add]
          have c1 : wr.cell? ⟨b1, o1 + i, none⟩ = some (.int .u64 (a i)) := by rw [J.out.2.1.cell (p := ⟨b1, o1 + i, none⟩) (by rw [HG.out] at hb1; exact hb1)]; exact c1'
          have c2 : wr.cell? ⟨b2, o2 + k, none⟩ = some (.int .u64 (b k)) := by rw [J.out.2.1.cell (p := ⟨b2, o2 + k, none⟩) (by rw [HG.out] at hb2; exact hb2)]; exact c2'
          have c3 := J.out.1.cell (i := s) hik
          have fz := J.out.1.frozen s
          have z0 := J.out.2.2.val (by omega) hik
          have ST : Hid (AcR (fun i l => (i + l) % n) a b n i (k + 1) n p (fun m => if m = s then (y s + a i * b k % p) % p else y m)) := by
            have := AcR.step J.out.2.2 (show (fun i l => (i + l) % n) i k < n by rw [hs] at hik; exact hik)
            show AcR _ _ _ _ _ _ _ _ _
            rw [hs]
            exact this
          have m0 := Int.emod_nonneg (a i * b k) (show (p : Int) ≠ 0 by omega)
          have RS : Hid (∀ nq, Row ((wr.drewN nq).setCell ⟨g, s, none⟩ (.int .u64 ((y s + a i * b k % p) % p))) g n (fun m => if m = s then (y s + a i * b k % p) % p else y m)) := fun nq => (J.out.1.drew nq).set s _ (fun j _ => rfl)
          have BS : Hid (∀ nq x, Below g w ((wr.drewN nq).setCell ⟨g, s, none⟩ x)) := fun nq x => below_set (below_drewN J.out.2.1 nq) (Nat.le_refl _) _ _
          have M := hid (fun w => rmul_any (a i) (b k) p w a0 b0 (by omega) (by omega))
          have A := hid (fun w => radd_any (y s) (a i * b k % p) p w z0.1 m0 (by omega) (by omega))
          clear J c1' c2' z0 hs
          generalize a i * b k % p = t1 at *
          generalize (y s + t1) % p = t2 at *
          go_wp2_with fail
          refine wp_region_last (by kernel_rfl) (by kernel_rfl) (by kernel_rfl) (by kernel_rfl) (by decide) ?_
          simp only [stillLast, still, lastOf]
          repeat (quiet_step (first
            | (go_at_call 26; exact Calls.quiet_of (M.out _))
            | (go_at_call 25; exact Calls.quiet_of (A.out _))))
          refine wpQuiet_nil ?_
          intro _ hw'
          obtain ⟨nq, hw''⟩ := hw'
          subst hw''
          go_wp2
          exact ⟨⟨k + 1, _, rfl, by omega, RS.out nq, BS.out nq _, ST.out⟩, by simp only [intOf]; omega⟩
/-- the first i values. -/
def GoR (a : Nat → Int) (r p n : Nat) (X : List Nat) : Prop := (∀ j, j < X.length → lw X j = dft a r n j % p) ∧ ∀ c, c ∈ X → c ≤ 18446744073709551615
theorem GoR.push {a : Nat → Int} {r p n c : Nat} {X : List Nat} (h : GoR a r p n X) (hp : 0 < p) (hp' : p ≤ 9223372036854775807) (hc : (c : Int) = ev a n (r ^ X.length % p : Nat) % p) : GoR a r p n (X ++ [c]) := by
  refine ⟨fun j hj => ?_, fun d hd => ?_⟩
  · rw [lw_push]
    by_cases e : j = X.length
    · rw [if_pos e, hc, dft_ev, e]
      have : Cg p ((r ^ X.length % p : Nat) : Int) ((r : Int) ^ X.length) := by
        rw [Int.natCast_emod, Int.natCast_pow]
        exact Cg.mod
      exact ev_cg (fun i _ => Cg.rfl) this
    · rw [if_neg e]
      exact h.1 j (by simp at hj; omega)
  · rcases List.mem_append.1 hd with hd | hd
    · exact h.2 d hd
    · simp at hd
      subst hd
      have := Int.emod_lt_of_pos (ev a n (r ^ X.length % p : Nat)) (show 0 < (p : Int) by omega)
      omega
theorem pushedW {w w2 w3 : World} {v v' : Value} {L : List Nat} {c : Nat} {o : Obj} (h : OwW w2 w.heap.size v L) (B : Below w.heap.size w w2) (hb : w.heap.size ≤ w2.heap.size)
    (own : w3.ownsRow w.heap.size 22 1 v' (L.length + 1) (wordCells L ++ [.int .u64 (c : Int)])) (grow : (w2.alloc o).grownBy w3 v.ownBlock) :
    ∃ ao cap, v' = .slice ao (L.length + 1) cap ∧ Hid (OwW w3 w.heap.size (.slice ao (L.length + 1) cap) (L ++ [c])) ∧ Hid (Below w.heap.size w w3) ∧ w.heap.size ≤ w3.heap.size := by
  obtain ⟨h1, h2, h3⟩ := OwW.push h hb rfl own grow
  obtain ⟨ao, cap, hv⟩ := h1.slice
  rw [List.length_append, List.length_singleton] at hv
  subst hv
  exact ⟨ao, cap, rfl, h1, B.trans h2, h3⟩
set_option maxHeartbeats 3200000 in
set_option maxRecDepth 100000 in
theorem rgo_any (t : Nat) (u : Value) (n N k0 r : Nat) (a : Nat → Int) (p : Nat) (w : World) (ht : RT w t p k0 N r) (hu : Wl w u n a) (hln : N ≤ 1048576) (hp : 2 ≤ p) (hp' : p ≤ 9223372036854775807) :
    Calls Tryd.prog 19 #[.pointer (some ⟨t, 0, none⟩), u] w fun e w' => (∃ v, e = .returned v ∧ Wl w' v N (fun j => dft a r n j % p)) ∧ Below w.heap.size w w' := by
  obtain ⟨i0, hi0, hz0, hz1, hz2⟩ := info_parts Tryd.infoWord
  have T := hid ht
  have U := hid hu
  obtain ⟨ao, cap, rfl, _⟩ := hu
  have tp := ht.cell0
  have p0 : ((p : Int) == 0) = false := beq_eq_false_iff_ne.2 (by omega)
  have p1 : (1 : Int) % (p : Int) = ((r ^ 0 % p : Nat) : Int) := by
    rw [Nat.pow_zero, Int.natCast_emod]
    rfl
  have tl := ht.lt
  clear ht
  generalize hx0 : r ^ 0 % p = x0 at *
  have X0 := hid hx0.symm
  have x0p : x0 < p := by rw [← hx0]; exact Nat.mod_lt _ (by omega)
  have P1 := hid p1
  clear hx0 p1
  go_enter Tryd.func19, Tryd.ntmps19
  go_wp2
  clear tp
  go_loopw [5, 6, 7] (fun ov xv iv wr => ∃ (X : List Nat) (x : Nat), xv = .int .u64 x ∧ iv = .int .i64 X.length ∧ X.length ≤ N ∧ x < p ∧ Hid (x = r ^ X.length % p) ∧ Hid (GoR a r p n X ∧ OwW wr w.heap.size ov X ∧ Below w.heap.size w wr) ∧ w.heap.size ≤ wr.heap.size) (fun _ _ iv _ => ((N : Int) - intOf iv).toNat)
  case atStart => exact ⟨[], x0, by rw [P1.out], rfl, Nat.zero_le _, x0p, X0, ⟨⟨fun j hj => absurd hj (by simp), fun c hc => by simp at hc⟩, World.ownsRow_nil _ _ _ _, Below.refl _ _⟩, Nat.le_refl _⟩
  case round =>
    obtain ⟨X, x, rfl, rfl, hX, hx, XE, R, hsz⟩ := hrel
    have T1 := T.out.below R.out.2.2 tl
    have tn := T1.cell2
    have tp := T1.cell0
    have tr := T1.cell3
    clear T1
    by_cases hin : X.length = N
    · have D : Hid (Wl wr u5 N (fun j => dft a r n j % p)) := by
        have := Wl.eq (R.out.2.1.wl R.out.1.2) R.out.1.1
        rw [hin] at this
        exact this
      have BB := hid R.out.2.2
      have hin' : ¬ (X.length : Int) < (N : Int) := by omega
      clear R XE
      go_wp2
      go_ret
      exact ⟨⟨_, rfl, D.out⟩, BB.out⟩
    · have hin' : (X.length : Int) < (N : Int) := by omega
      have RV := hid (fun c => rvalue_any (.slice ao n cap) n a x p (wr.drewN c) ((U.out.below R.out.2.2).drew c) (by omega) (by omega) (by omega))
      have e0 := Int.emod_nonneg (ev a n (x : Int)) (show (p : Int) ≠ 0 by omega)
      obtain ⟨c, hc⟩ : ∃ c : Nat, (c : Int) = ev a n (x : Int) % p := ⟨(ev a n (x : Int) % p).toNat, by omega⟩
      have G : Hid (GoR a r p n (X ++ [c])) := R.out.1.push (by omega) hp' (by rw [← XE.out]; exact hc)
      rw [← hc] at RV
      obtain ⟨x', hx'⟩ : ∃ x' : Nat, x' = x * r % p := ⟨_, rfl⟩
      have x'p : x' < p := by rw [hx']; exact Nat.mod_lt _ (by omega)
      have XE' : Hid (x' = r ^ (X.length + 1) % p) := by
        show _ = _
        rw [hx', XE.out, Nat.pow_succ, Nat.mod_mul_mod]
      have M : Hid (∀ w, Calls Tryd.prog 26 #[.int .u64 x, .int .u64 r, .int .u64 p] w fun e w' => e = .returned (.int .u64 x') ∧ ∃ c, w' = w.drewN c) := fun w => by
        rw [hx']
        exact rmul_nat x r p w hp (by omega)
      clear hc hx' e0 XE
      have OWN := hid R.out.2.1
      have BB := hid R.out.2.2
      obtain ⟨ow, cw, hv⟩ := OWN.out.slice
      subst hv
      clear R
      go_wp2_with fail
      refine (RV.out 0).mono ?_
      rintro e w2 ⟨rfl, q, rfl⟩
      have O2 := hid (OWN.out.heap (w' := (wr.drewN 0).drewN q) (by simp))
      have B2 : Hid (Below w.heap.size w ((wr.drewN 0).drewN q)) := by
        have : (wr.drewN 0).drewN q = wr.drewN q := by simp
        show Below _ _ _
        rw [this]
        exact below_drewN BB.out q
      have hs2 : w.heap.size ≤ ((wr.drewN 0).drewN q).heap.size := by simpa using hsz
      have T2 := hid (T.out.below B2.out tl)
      clear OWN BB tn tp tr RV hsz
      generalize (wr.drewN 0).drewN q = w2 at *
      go_wp2_with (at_builtin; refine wpList_append_own _ rfl (.tmp 21) (.tmp 29) 36 rfl w.heap.size 22 i0 (.int .u64 0) 1 8 Tryd.underlying36 hi0 hz0 hz1 hz2 rfl (by decide) _ X.length (wordCells X) rfl (O2.out.alloc _) ⟨w2.heap.size, 0, none⟩ 1 1 [.int .u64 (c : Int)] rfl rfl (cell_one_new _ _ _) (by intro u hu; simp at hu; subst hu; rfl) (by unfold maxLen; omega) (by omega) (by simp; omega) ?_; intro v' w3 own3 grow3 iff3; clear iff3; obtain ⟨ao3, cap3, hv, O3, B3, hp3⟩ := pushedW O2.out B2.out hs2 own3 grow3; clear own3 grow3; subst hv; have T3 := T.out.below B3.out tl; have tp := T3.cell0; have tr := T3.cell3; clear T3)
      go_quiet ((go_at_call 26; exact Calls.quiet_of (M.out _)))
      rename_i nq
      go_wp2
      exact ⟨⟨X ++ [c], x', rfl, by simp, by simp; omega, x'p, by rw [List.length_append, List.length_singleton]; exact XE', ⟨G.out, by simpa using O3.out.heap (w' := w3.drewN nq) (by simp), below_drewN B3.out nq⟩, by simpa using hp3⟩, by simp only [intOf]; omega⟩
end Go.Proofs.YtcclkahoonlieaaDoor
