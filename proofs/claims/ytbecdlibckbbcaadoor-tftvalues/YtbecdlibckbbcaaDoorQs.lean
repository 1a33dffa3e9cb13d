/- The reference's products of polynomials. -/
import Derived.Test.YtbecdlibckbbcaaDoorQr
import Derived.Test.YtbecdlibckbbcaaDoorRgq
import Derived.BigQuiet
namespace Go.Proofs.YtbecdlibckbbcaaDoor
open Go.RowKit Num Nmb

/-- what stands at m when the products of the first i of a, and of the first k of b with the next one, were added. -/
def acc (f : Nat → Nat → Nat) (a b : Nat → Int) (lb i k m : Nat) : Int := sm (fun i' => sm (fun l => if f i' l = m then a i' * b l else 0) lb) i + sm (fun l => if f i l = m then a i * b l else 0) k
theorem acc_step (f : Nat → Nat → Nat) (a b : Nat → Int) (lb i k m : Nat) : acc f a b lb i (k + 1) m = acc f a b lb i k m + (if f i k = m then a i * b k else 0) := by
  unfold acc
  rw [sm_succ, Int.add_assoc]
theorem acc_next (f : Nat → Nat → Nat) (a b : Nat → Int) (lb i m : Nat) : acc f a b lb i lb m = acc f a b lb (i + 1) 0 m := by
  unfold acc
  rw [sm_succ]
  exact (Int.add_zero _).symm
theorem acc_zero (f : Nat → Nat → Nat) (a b : Nat → Int) (lb m : Nat) : acc f a b lb 0 0 m = 0 := rfl
theorem acc_prd (a b : Nat → Int) (la lb m : Nat) : acc (fun i l => i + l) a b lb la 0 m = prd a b la lb m := Int.add_zero _
theorem acc_rnd (a b : Nat → Int) (n m : Nat) : acc (fun i l => (i + l) % n) a b n n 0 m = rnd a b n m := Int.add_zero _
/-- the row's numbers are what is left of the sums. -/
def AcR (f : Nat → Nat → Nat) (a b : Nat → Int) (lb i k N : Nat) (p : Int) (z : Nat → Int) : Prop := ∀ m, m < N → z m = acc f a b lb i k m % p
theorem AcR.step {f : Nat → Nat → Nat} {a b : Nat → Int} {lb i k N : Nat} {p : Int} {z : Nat → Int} (h : AcR f a b lb i k N p z) (hf : f i k < N) :
    AcR f a b lb i (k + 1) N p (fun m => if m = f i k then (z (f i k) + a i * b k % p) % p else z m) := by
  intro m hm
  show (if m = f i k then _ else _) = _
  rw [acc_step]
  by_cases e : m = f i k
  · rw [if_pos e, e, if_pos rfl, h _ hf, ← Int.add_emod]
  · rw [if_neg e, if_neg (fun h' => e h'.symm), Int.add_zero]
    exact h m hm
theorem AcR.val {f : Nat → Nat → Nat} {a b : Nat → Int} {lb i k N : Nat} {p : Int} {z : Nat → Int} (h : AcR f a b lb i k N p z) (hp : 0 < p) {m : Nat} (hm : m < N) : 0 ≤ z m ∧ z m < p := by
  rw [h m hm]
  exact ⟨Int.emod_nonneg _ (by omega), Int.emod_lt_of_pos _ hp⟩
theorem Wl.cell {w : World} {ao : Option Addr} {n cap : Nat} {x : Nat → Int} (h : Wl w (.slice ao n cap) n x) {j : Nat} (hj : j < n) : ∃ b off, ao = some ⟨b, off, none⟩ ∧ b < w.heap.size ∧ w.cell? ⟨b, off + j, none⟩ = some (.int .u64 (x j)) := by
  obtain ⟨ao', cap', e, h1, h2, h3, h5⟩ := h
  cases e
  obtain ⟨b, off, h6, h7, h8⟩ := h5 (by omega)
  exact ⟨b, off, h6, h7, h8 j hj⟩
set_option maxHeartbeats 3200000 in
set_option maxRecDepth 100000 in
theorem rmulp_any (u v : Value) (la lb : Nat) (a b : Nat → Int) (p : Int) (w : World) (hu : Wl w u la a) (hv : Wl w v lb b) (ha : 0 < la) (hb : 0 < lb) (hla : la ≤ 100000) (hlb : lb ≤ 100000) (hp : 2 ≤ p) (hp' : p ≤ 9223372036854775807) :
    Calls Tryd.prog 22 #[u, v, .int .u64 p] w fun e w' => (∃ r, e = .returned r ∧ Wl w' r (la + lb - 1) (fun m => prd a b la lb m % p)) ∧ Below w.heap.size w w' := by
  have U := hid hu
  have V := hid hv
  obtain ⟨ao, cap, rfl, _⟩ := hu
  obtain ⟨bo, bap, rfl, _⟩ := hv
  have f1 : ((la : Int) == 0) = false := beq_eq_false_iff_ne.2 (by omega)
  have f2 : ((lb : Int) == 0) = false := beq_eq_false_iff_ne.2 (by omega)
  obtain ⟨N, hN⟩ : ∃ N, N = la + lb - 1 := ⟨_, rfl⟩
  have f3 : ((la : Int) + (lb : Int) - 1) = (N : Int) := by omega
  have HN := hid hN
  have nl : N ≤ 1000000 := by omega
  clear hN
  go_enter Tryd.func22, Tryd.ntmps22
  go_wp2_with (at_make; refine wp_make _ rfl _ _ rfl _ _ N rfl rfl (by omega) (by omega) (by omega) ?_; intro w1 R1 B1 Z1; have HR := hid R1; have HB := hid B1; have HZ := hid Z1; clear R1 B1 Z1)
  generalize hg : w.heap.size = g at *
  have HG := hid hg
  clear hg
  go_loopw [8] (fun iv wr => ∃ (i : Nat) (z : Nat → Int), iv = .int .i64 i ∧ i ≤ la ∧ Hid (Row wr g N z ∧ Below g w wr ∧ AcR (fun i l => i + l) a b lb i 0 N p z)) (fun iv _ => ((la : Int) - intOf iv).toNat)
  case atStart => exact ⟨0, _, rfl, Nat.zero_le _, HR.out, HB.out, fun m _ => (Int.zero_emod p).symm⟩
  case round =>
    obtain ⟨i, z, rfl, hi, H⟩ := hrel
    clear HR HB HZ
    by_cases hin : i = la
    · subst hin
      have D : Hid (Wl wr (.slice (some ⟨g, 0, none⟩) N N) N (fun m => prd a b i lb m % p)) := by
        refine Wl.eq (H.out.1.wl (fun j hj => ?_) (by omega)) fun j hj => ?_
        · have := H.out.2.2.val (by omega) hj
          omega
        · rw [H.out.2.2 j hj, acc_prd]
      have BB := hid H.out.2.1
      clear H
      go_wp2
      go_ret
      rw [HG.out, ← HN.out]
      exact ⟨⟨_, rfl, D.out⟩, BB.out⟩
    · have hin' : (i : Int) < (la : Int) := by omega
      go_wp2
      go_loopw [9] (fun kv wk => ∃ (k : Nat) (z : Nat → Int), kv = .int .i64 k ∧ k ≤ lb ∧ Hid (Row wk g N z ∧ Below g w wk ∧ AcR (fun i l => i + l) a b lb i k N p z)) (fun kv _ => ((lb : Int) - intOf kv).toNat)
      case atStart => exact ⟨0, z, rfl, Nat.zero_le _, H.out⟩
      case round =>
        obtain ⟨k, y, rfl, hk, J⟩ := hrel
        clear H
        by_cases hkn : k = lb
        · subst hkn
          have E : Hid (AcR (fun i l => i + l) a b k (i + 1) 0 N p y) := fun m hm => by rw [J.out.2.2 m hm, acc_next]
          go_wp2
          exact ⟨⟨i + 1, y, rfl, by omega, J.out.1, J.out.2.1, E.out⟩, by simp only [intOf]; omega⟩
        · have hkn' : (k : Int) < (lb : Int) := by omega
          obtain ⟨b1, o1, rfl, hb1, c1'⟩ := U.out.cell (j := i) (by omega)
          obtain ⟨b2, o2, rfl, hb2, c2'⟩ := V.out.cell (j := k) (by omega)
          have a0 := (U.out.val (j := i) (by omega)).1
          have b0 := (V.out.val (j := k) (by omega)).1
          have hik : i + k < N := by have := HN.out; omega
          have c1 : wr.cell? ⟨b1, o1 + i, none⟩ = some (.int .u64 (a i)) := by rw [J.out.2.1.cell (p := ⟨b1, o1 + i, none⟩) (by rw [HG.out] at hb1; exact hb1)]; exact c1'
          have c2 : wr.cell? ⟨b2, o2 + k, none⟩ = some (.int .u64 (b k)) := by rw [J.out.2.1.cell (p := ⟨b2, o2 + k, none⟩) (by rw [HG.out] at hb2; exact hb2)]; exact c2'
          have c3 := J.out.1.cell (i := i + k) hik
          have fz := J.out.1.frozen (i + k)
          have z0 := J.out.2.2.val (by omega) hik
          have ST : Hid (AcR (fun i l => i + l) a b lb i (k + 1) N p (fun m => if m = i + k then (y (i + k) + a i * b k % p) % p else y m)) := AcR.step J.out.2.2 hik
          have m0 := Int.emod_nonneg (a i * b k) (show p ≠ 0 by omega)
          have RS : Hid (∀ nq, Row ((wr.drewN nq).setCell ⟨g, i + k, none⟩ (.int .u64 ((y (i + k) + a i * b k % p) % p))) g N (fun m => if m = i + k then (y (i + k) + a i * b k % p) % p else y m)) := fun nq => (J.out.1.drew nq).set (i + k) _ (fun j _ => rfl)
          have BS : Hid (∀ nq x, Below g w ((wr.drewN nq).setCell ⟨g, i + k, none⟩ x)) := fun nq x => below_set (below_drewN J.out.2.1 nq) (Nat.le_refl _) _ _
          have M := hid (fun w => rmul_any (a i) (b k) p w a0 b0 hp hp')
          have A := hid (fun w => radd_any (y (i + k)) (a i * b k % p) p w z0.1 m0 hp hp')
          have q0 : (0 : Int) ≤ (i : Int) + (k : Int) := by omega
          have q1 : (i : Int) + (k : Int) < (N : Int) := by omega
          have qn : ((i : Int) + (k : Int)).toNat = i + k := by omega
          have qw : IntKind.i64.wrap ((i : Int) + (k : Int)) = (i : Int) + (k : Int) := by rw [IntKind.wrap_i64]; omega
          clear J c1' c2' z0
          generalize a i * b k % p = t1 at *
          generalize (y (i + k) + t1) % p = t2 at *
          go_wp2_with fail
          refine wp_region_last (by kernel_rfl) (by kernel_rfl) (by kernel_rfl) (by kernel_rfl) (by decide) ?_
          simp only [stillLast, still, lastOf]
          repeat (quiet_step (first
            | (go_at_call 39; exact Calls.quiet_of (M.out _))
            | (go_at_call 38; exact Calls.quiet_of (A.out _))))
          refine wpQuiet_nil ?_
          intro _ hw'
          obtain ⟨nq, hw''⟩ := hw'
          subst hw''
          go_wp2
          exact ⟨⟨k + 1, _, rfl, by omega, RS.out nq, BS.out nq _, ST.out⟩, by simp only [intOf]; omega⟩
set_option maxHeartbeats 1600000 in
theorem rmulp_none (u v : Value) (la lb : Nat) (a b : Nat → Int) (p : Int) (w : World) (hu : Wl w u la a) (hv : Wl w v lb b) (h : la = 0 ∨ lb = 0) :
    Calls Tryd.prog 22 #[u, v, .int .u64 p] w fun e w' => e = .returned (.slice none 0 0) ∧ w' = w := by
  obtain ⟨ao, cap, rfl, -⟩ := hu
  obtain ⟨bo, bap, rfl, -⟩ := hv
  by_cases ha : la = 0
  · subst ha
    clear h
    go_enter Tryd.func22, Tryd.ntmps22
    go_wp2
    go_ret
    exact ⟨rfl, rfl⟩
  · obtain rfl : lb = 0 := by omega
    have f1 : ((la : Int) == 0) = false := beq_eq_false_iff_ne.2 (by omega)
    clear h ha
    go_enter Tryd.func22, Tryd.ntmps22
    go_wp2
    go_ret
    exact ⟨rfl, rfl⟩
end Go.Proofs.YtbecdlibckbbcaaDoor
