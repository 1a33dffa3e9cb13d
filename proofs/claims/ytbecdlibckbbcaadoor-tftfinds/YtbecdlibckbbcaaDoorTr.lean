/- The reference's Turned, Point and values at points (chapter 7). -/
import Derived.Test.YtbecdlibckbbcaaDoorQb
import Derived.Test.YtbecdlibckbbcaaDoorRgt
namespace Go.Proofs.YtbecdlibckbbcaaDoor
open Go.RowKit Num Nmb

theorem rv_mod : ∀ m b, rv m (b % 2 ^ m) = rv m b
  | 0, _ => rfl
  | m + 1, b => by
    show b % 2 ^ (m + 1) % 2 * 2 ^ m + rv m (b % 2 ^ (m + 1) / 2) = b % 2 * 2 ^ m + rv m (b / 2)
    have e1 : b % 2 ^ (m + 1) % 2 = b % 2 := Nat.mod_mod_of_dvd _ (by rw [Nat.pow_succ]; exact Nat.dvd_mul_left _ _)
    have e2 : b % 2 ^ (m + 1) / 2 = b / 2 % 2 ^ m := by rw [Nat.pow_succ, Nat.mul_comm, Nat.mod_mul_right_div_self]
    rw [e1, e2, rv_mod m (b / 2)]
theorem rv_step (m b : Nat) : rv (m + 1) b = 2 * rv m b + b / 2 ^ m % 2 := by rw [rv_up, rv_mod]
/-- what Turned answers. -/
def TurnIs (i k : Int) (r er : Int) : Prop := (0 ≤ k ∧ k ≤ 20 ∧ 0 ≤ i ∧ i < 2 ^ k.toNat ∧ r = (rv k.toNat i.toNat : Nat) ∧ er = 0) ∨ (¬ (0 ≤ k ∧ k ≤ 20 ∧ 0 ≤ i ∧ i < 2 ^ k.toNat) ∧ r = 0 ∧ er = 1)
theorem TurnIs.uniq {i k r er r' er' : Int} (h : TurnIs i k r er) (h' : TurnIs i k r' er') : r = r' ∧ er = er' := by
  rcases h with ⟨a, b, c, d, rfl, rfl⟩ | ⟨n, rfl, rfl⟩
  · rcases h' with ⟨_, _, _, _, rfl, rfl⟩ | ⟨n, _, _⟩
    · exact ⟨rfl, rfl⟩
    · exact absurd ⟨a, b, c, d⟩ n
  · rcases h' with ⟨a, b, c, d, _, _⟩ | ⟨_, rfl, rfl⟩
    · exact absurd ⟨a, b, c, d⟩ n
    · exact ⟨rfl, rfl⟩
set_option maxHeartbeats 1600000 in
theorem rturned_any (i k : Int) (w : World) (hi : -9223372036854775808 ≤ i ∧ i ≤ 9223372036854775807) :
    Calls Tryd.prog 10 #[.int .i64 i, .int .i64 k] w fun e w' => (∃ r er, e = .returned (.tuple #[.int .i64 r, .int .i64 er]) ∧ TurnIs i k r er) ∧ w' = w := by
  by_cases h0 : k < 0
  · have T : Hid (TurnIs i k 0 1) := Or.inr ⟨fun h => by omega, rfl, rfl⟩
    go_enter Tryd.func10, Tryd.ntmps10
    go_wp2
    go_ret2
    exact ⟨⟨_, _, rfl, T.out⟩, rfl⟩
  by_cases h20 : 20 < k
  · have T : Hid (TurnIs i k 0 1) := Or.inr ⟨fun h => by omega, rfl, rfl⟩
    go_enter Tryd.func10, Tryd.ntmps10
    go_wp2
    go_ret2
    exact ⟨⟨_, _, rfl, T.out⟩, rfl⟩
  by_cases hi0 : i < 0
  · have T : Hid (TurnIs i k 0 1) := Or.inr ⟨fun h => by omega, rfl, rfl⟩
    go_enter Tryd.func10, Tryd.ntmps10
    go_wp2
    go_ret2
    exact ⟨⟨_, _, rfl, T.out⟩, rfl⟩
  obtain ⟨I, rfl⟩ : ∃ I : Nat, i = (I : Int) := ⟨i.toNat, by omega⟩
  obtain ⟨K, rfl⟩ : ∃ K : Nat, k = (K : Int) := ⟨k.toNat, by omega⟩
  have YES : Hid (I < 2 ^ K → TurnIs I K (rv K I : Nat) 0) := fun h => Or.inl ⟨by omega, by omega, by omega, by
    rw [Int.toNat_natCast]
    have : ((2 ^ K : Nat) : Int) = (2 : Int) ^ K := Int.natCast_pow 2 K
    omega, by rw [Int.toNat_natCast, Int.toNat_natCast], rfl⟩
  have NO : Hid (¬ I < 2 ^ K → TurnIs I K 0 1) := fun h => Or.inr ⟨fun h' => by
    rw [Int.toNat_natCast] at h'
    have : ((2 ^ K : Nat) : Int) = (2 : Int) ^ K := Int.natCast_pow 2 K
    omega, rfl, rfl⟩
  have K20 : K ≤ 20 := by omega
  have I63 : I ≤ 9223372036854775807 := by omega
  go_enter Tryd.func10, Tryd.ntmps10
  go_wp2
  go_loopw [0, 6, 7] (fun iv ov jv wr => ∃ (j q o : Nat), jv = .int .i64 j ∧ iv = .int .i64 q ∧ ov = .int .i64 o ∧ j ≤ K ∧ q ≤ 9223372036854775807 ∧ o < 1048576 ∧ Hid (q = I / 2 ^ j) ∧ Hid (o = rv j I) ∧ wr = w) (fun _ _ jv _ => ((K : Int) - intOf jv).toNat)
  case atStart => exact ⟨0, I, 0, rfl, rfl, rfl, Nat.zero_le _, I63, by omega, by show _ = _; rw [Nat.pow_zero, Nat.div_one], rfl, rfl⟩
  case round =>
    obtain ⟨j, q, o, rfl, rfl, rfl, hj, hq, ho, Q, O, hw⟩ := hrel
    obtain rfl := hw.symm
    by_cases hjk : j = K
    · subst hjk
      have hjk' : ¬ (j : Int) < (j : Int) := by omega
      by_cases hl : I < 2 ^ j
      · have q0 : q = 0 := by rw [Q.out]; exact Nat.div_eq_of_lt hl
        subst q0
        have T := hid (YES.out hl)
        rw [← O.out] at T
        clear Q O YES NO hl
        go_wp2
        go_ret2
        exact ⟨⟨_, _, rfl, T.out⟩, by first | trivial | rfl⟩
      · have q0 : 0 < q := by rw [Q.out]; exact Nat.div_pos (by omega) (Nat.two_pow_pos j)
        have q0' : (0 : Int) < (q : Int) := by omega
        have T := hid (NO.out hl)
        clear Q O YES NO hl
        go_wp2
        go_ret2
        exact ⟨⟨_, _, rfl, T.out⟩, by first | trivial | rfl⟩
    · have hjk' : (j : Int) < (K : Int) := by omega
      have Q' : Hid (q / 2 = I / 2 ^ (j + 1)) := by show _ = _; rw [Q.out, Nat.div_div_eq_div_mul, Nat.pow_succ]
      have O' : Hid (2 * o + q % 2 = rv (j + 1) I) := by show _ = _; rw [rv_step, O.out, Q.out]
      have ol : 2 * o + q % 2 < 1048576 := by
        have h1 := rv_lt (j + 1) I
        rw [← O'.out] at h1
        have h2 : 2 ^ (j + 1) ≤ 2 ^ 20 := Nat.pow_le_pow_right (by omega) (by omega)
        omega
      have e1 : Int.tmod (q : Int) 2 = ((q % 2 : Nat) : Int) := by rw [Int.tmod_eq_emod_of_nonneg (by omega)]; omega
      have e2 : Int.tdiv (q : Int) 2 = ((q / 2 : Nat) : Int) := by rw [Int.tdiv_eq_ediv_of_nonneg (by omega)]; omega
      clear Q O YES NO
      go_wp2
      refine ⟨⟨j + 1, q / 2, 2 * o + q % 2, rfl, by congr 1, by congr 1, by omega, by omega, ol, Q', O', by first | trivial | rfl⟩, by simp only [intOf]; omega⟩
theorem rturned_yes (i k : Nat) (w : World) (hk : k ≤ 20) (hi : i < 2 ^ k) :
    Calls Tryd.prog 10 #[.int .i64 i, .int .i64 k] w fun e w' => e = .returned (.tuple #[.int .i64 (rv k i : Nat), .int .i64 0]) ∧ w' = w := by
  have h2 : 2 ^ k ≤ 2 ^ 20 := Nat.pow_le_pow_right (by omega) hk
  refine (rturned_any i k w (by omega)).mono ?_
  rintro e w' ⟨⟨r, er, rfl, T⟩, rfl⟩
  have T' : TurnIs i k (rv k i : Nat) 0 := Or.inl ⟨by omega, by omega, by omega, by
    rw [Int.toNat_natCast]
    have : ((2 ^ k : Nat) : Int) = (2 : Int) ^ k := Int.natCast_pow 2 k
    omega, by rw [Int.toNat_natCast, Int.toNat_natCast], rfl⟩
  obtain ⟨rfl, rfl⟩ := T.uniq T'
  exact ⟨rfl, rfl⟩
set_option maxHeartbeats 1600000 in
theorem rpoint_any (g p k n r i : Nat) (w : World) (T : RT w g p k n r) (hk : k ≤ 20) (hi : i < 2 ^ k) (hp : 2 ≤ p) (hp' : p ≤ 9223372036854775807) :
    Calls Tryd.prog 16 #[.pointer (some ⟨g, 0, none⟩), .int .i64 i] w fun e w' => e = .returned (.int .u64 (r ^ rv k i % p : Nat)) ∧ ∃ c, w' = w.drewN c := by
  have c0 := T.cell0
  have c1 := T.cell1
  have c3 := T.cell3
  have TU := hid (rturned_yes i k w hk hi)
  have lt := rv_lt k i
  have h2 : 2 ^ k ≤ 2 ^ 20 := Nat.pow_le_pow_right (by omega) hk
  have lt' : rv k i ≤ 1048576 := by omega
  have PW := hid (fun w => rpow_nat r (rv k i) p w hp (by omega) (by omega))
  clear lt h2 hi T
  generalize r ^ rv k i % p = v at *
  generalize rv k i = t at *
  have tw : IntKind.u64.wrap (t : Int) = (t : Int) := by rw [IntKind.wrap_u64]; omega
  go_enter Tryd.func16, Tryd.ntmps16
  go_wp2_with fail
  refine TU.out.mono ?_
  rintro e w1 ⟨rfl, hw⟩
  obtain rfl := hw.symm
  go_wp2_with fail
  go_quiet ((go_at_call 32; exact Calls.quiet_of (PW.out _)))
  rename_i nq
  go_wp2
  go_ret
  exact ⟨rfl, nq, rfl⟩
/-- the first values at the points. -/
def PtR (a : Nat → Int) (r p k n : Nat) (X : List Nat) : Prop := (∀ j, j < X.length → lw X j = ev a n ((r : Int) ^ rv k j) % p) ∧ ∀ c, c ∈ X → c ≤ 18446744073709551615
theorem PtR.push {a : Nat → Int} {r p k n c : Nat} {X : List Nat} (h : PtR a r p k n X) (hp : 0 < p) (hp' : p ≤ 9223372036854775807) (hc : (c : Int) = ev a n (r ^ rv k X.length % p : Nat) % p) : PtR a r p k n (X ++ [c]) := by
  refine ⟨fun j hj => ?_, fun d hd => ?_⟩
  · rw [lw_push]
    by_cases e : j = X.length
    · rw [if_pos e, hc, e]
      have : Cg p ((r ^ rv k X.length % p : Nat) : Int) ((r : Int) ^ rv k X.length) := by
        rw [Int.natCast_emod, Int.natCast_pow]
        exact Cg.mod
      exact ev_cg (fun i _ => Cg.rfl) this
    · rw [if_neg e]
      exact h.1 j (by simp at hj; omega)
  · rcases List.mem_append.1 hd with hd | hd
    · exact h.2 d hd
    · simp at hd
      subst hd
      have := Int.emod_lt_of_pos (ev a n (r ^ rv k X.length % p : Nat)) (show 0 < (p : Int) by omega)
      omega
set_option maxHeartbeats 3200000 in
set_option maxRecDepth 100000 in
theorem rtgo_any (g p k N r : Nat) (u : Value) (n m : Nat) (a : Nat → Int) (w : World) (ht : RT w g p k N r) (hu : Wl w u n a) (hk : k ≤ 20) (hm : m ≤ 2 ^ k) (hp : 2 ≤ p) (hp' : p ≤ 9223372036854775807) :
    Calls Tryd.prog 19 #[.pointer (some ⟨g, 0, none⟩), u, .int .i64 m] w fun e w' => (∃ v, e = .returned v ∧ Wl w' v m (fun j => ev a n ((r : Int) ^ rv k j) % p)) ∧ Below w.heap.size w w' := by
  obtain ⟨i0, hi0, hz0, hz1, hz2⟩ := info_parts Tryd.infoWord
  have T := hid ht
  have U := hid hu
  obtain ⟨ao, cap, rfl, -⟩ := hu
  have tl := ht.lt
  have h20 : 2 ^ k ≤ 2 ^ 20 := Nat.pow_le_pow_right (by omega) hk
  have hm20 : m ≤ 1048576 := by omega
  have HM := hid hm
  clear ht hm h20
  go_enter Tryd.func19, Tryd.ntmps19
  go_wp2
  go_loopw [7, 8] (fun ov iv wr => ∃ (X : List Nat), iv = .int .i64 X.length ∧ X.length ≤ m ∧ Hid (PtR a r p k n X ∧ OwW wr w.heap.size ov X ∧ Below w.heap.size w wr) ∧ w.heap.size ≤ wr.heap.size) (fun _ iv _ => ((m : Int) - intOf iv).toNat)
  case atStart => exact ⟨[], rfl, Nat.zero_le _, ⟨⟨fun j hj => absurd hj (by simp), fun c hc => by simp at hc⟩, World.ownsRow_nil _ _ _ _, Below.refl _ _⟩, Nat.le_refl _⟩
  case round =>
    obtain ⟨X, rfl, hX, R, hsz⟩ := hrel
    by_cases hin : X.length = m
    · have D : Hid (Wl wr u7 m (fun j => ev a n ((r : Int) ^ rv k j) % p)) := by
        have := Wl.eq (R.out.2.1.wl R.out.1.2) R.out.1.1
        rw [hin] at this
        exact this
      have BB := hid R.out.2.2
      have hin' : ¬ (X.length : Int) < (m : Int) := by omega
      clear R
      go_wp2
      go_ret
      exact ⟨⟨_, rfl, D.out⟩, BB.out⟩
    · have hin' : (X.length : Int) < (m : Int) := by omega
      have T1 := hid (T.out.below R.out.2.2 tl)
      have tp := T1.out.cell0
      have PT := hid (fun c => rpoint_any g p k N r X.length (wr.drewN c) (T1.out.drew c) hk (by have := HM.out; omega) hp hp')
      have x0 : r ^ rv k X.length % p < p := Nat.mod_lt _ (by omega)
      have PU : Hid (∀ x : Nat, (x : Int) = ev a n (r ^ rv k X.length % p : Nat) % p → PtR a r p k n (X ++ [x])) := fun x hx => R.out.1.push (by omega) hp' hx
      have RV := hid (fun c => rvalue_any (.slice ao n cap) n a (r ^ rv k X.length % p : Nat) p (wr.drewN c) ((U.out.below R.out.2.2).drew c) (by omega) (by omega) (by omega))
      have e0 := Int.emod_nonneg (ev a n ((r ^ rv k X.length % p : Nat) : Int)) (show (p : Int) ≠ 0 by omega)
      obtain ⟨c, hc⟩ : ∃ c : Nat, (c : Int) = ev a n ((r ^ rv k X.length % p : Nat) : Int) % p := ⟨(ev a n ((r ^ rv k X.length % p : Nat) : Int) % p).toNat, by omega⟩
      have G := hid (PU.out c hc)
      rw [← hc] at RV
      clear hc e0 PU x0
      generalize r ^ rv k X.length % p = x at *
      have OWN := hid R.out.2.1
      have BB := hid R.out.2.2
      obtain ⟨ow, cw, hv⟩ := OWN.out.slice
      subst hv
      clear R
      go_wp2_with fail
      refine wp_region_tail1 9 (.tmp 7) rfl rfl (fun _ _ _ _ h => h) (by kernel_rfl) (by kernel_rfl) (by kernel_rfl) (by kernel_rfl) (by kernel_rfl) rfl (by kernel_rfl) (by kernel_rfl) (by kernel_rfl) (by decide) ?_
      simp only [stillFrom, still, List.map, List.drop]
      go_simp
      repeat (quiet_step (first
        | (go_at_call 16; exact Calls.quiet_of (PT.out _))
        | (go_at_call 35; exact Calls.quiet_of (RV.out _))))
      refine wpQuiet_nil ?_
      intro q
      have O2 := hid (OWN.out.heap (w' := wr.drewN q) (by simp))
      have B2 := hid (below_drewN BB.out q)
      have hs2 : w.heap.size ≤ (wr.drewN q).heap.size := by simpa using hsz
      clear OWN BB tp RV PT T1 hsz
      generalize wr.drewN q = w2 at *
      go_wp2_with (at_builtin; refine wpList_append_own _ rfl (.tmp 14) (.tmp 24) 41 rfl w.heap.size 27 i0 (.int .u64 0) 1 8 Tryd.underlying41 hi0 hz0 hz1 hz2 rfl (by decide) _ X.length (wordCells X) rfl (O2.out.alloc _) ⟨w2.heap.size, 0, none⟩ 1 1 [.int .u64 (c : Int)] rfl rfl (cell_one_new _ _ _) (by intro u hu; simp at hu; subst hu; rfl) (by unfold maxLen; omega) (by omega) (by simp; omega) ?_; intro v' w3 own3 grow3 iff3; clear iff3; obtain ⟨ao3, cap3, hv, O3, B3, hp3⟩ := pushedW O2.out B2.out hs2 own3 grow3; clear own3 grow3; subst hv)
      exact ⟨⟨X ++ [c], by simp, by simp; omega, ⟨G.out, by simpa using O3.out, B3.out⟩, hp3⟩, by simp only [intOf]; omega⟩
end Go.Proofs.YtbecdlibckbbcaaDoor
