/- The reference's products of polynomials. -/
/- The reference's sums, multiples, differences and products of polynomials (chapter 9). -/
/- The reference's multiples, differences, products, inverses and derivatives (chapter 9). -/
/- The reference's Round and Go. -/
/- The reference's New, and the law's own Sized and great. -/
/- What the law's great answers, and slices that are written out. -/
/- The inverse modulo a prime, and that roots and powers of 2 have one. -/
/- The reference's quotients (chapter 9). -/
/- The reference's derivatives, Monic and Gcd (chapter 9). -/
/- The reference's Gcd (chapter 9). -/
/- The reference's PowMod (chapter 9). -/
/- The reference's Ext, where b is not 0 (chapter 9). -/
/- The reference's Ext, where b is 0 (chapter 9). -/
/- What has to be shown of upoly (drafts of its contracts, as a structure), and the law's own field and few. -/
/- The landed upoly: the field (New, P), and a list made. -/
/- The landed upoly: Deg, Norm, cut. -/
/- The landed upoly: Norm, cut. -/
/- The landed upoly: cut, put, take. -/
/- The landed upoly: sum, Add, Sub. -/
/- The landed upoly: scale, scaled, Monic. -/
/- The landed upoly: Derive. -/
import Derived.Test.YtjgipjiopagkiaaDoorQr
import Derived.Test.YtjgipjiopagkiaaDoorRgq
import Derived.BigQuiet
import Derived.Test.YtjgipjiopagkiaaDoorEg
import Derived.Test.YtjgipjiopagkiaaDoorEn
import Derived.Test.YtjgipjiopagkiaaDoorVr
import Derived.Test.YtjgipjiopagkiaaDoorRr
import Derived.Test.YtjgipjiopagkiaaDoorVa
import Derived.Test.YtjgipjiopagkiaaDoorRgx
namespace Go.Proofs.YtjgipjiopagkiaaDoor
open Go.RowKit Num Nmb

/-- what stands at m when the products of the first i of a, and of the first k of b with the next one, were added. -/
def acc (f : Nat → Nat → Nat) (a b : Nat → Int) (lb i k m : Nat) : Int := sm (fun i' => sm (fun l => if f i' l = m then a i' * b l else 0) lb) i + sm (fun l => if f i l = m then a i * b l else 0) k
theorem acc_step (f : Nat → Nat → Nat) (a b : Nat → Int) (lb i k m : Nat) : acc f a b lb i (k + 1) m = acc f a b lb i k m + (if f i k = m then a i * b k else 0) := by
  unfold acc
  rw [sm_succ, Int.add_assoc]
theorem acc_next (f : Nat → Nat → Nat) (a b : Nat → Int) (lb i m : Nat) : acc f a b lb i lb m = acc f a b lb (i + 1) 0 m := by
  unfold acc
  rw [sm_succ]
  exact (Int.add_zero _).symm
theorem acc_zero (f : Nat → Nat → Nat) (a b : Nat → Int) (lb m : Nat) : acc f a b lb 0 0 m = 0 := rfl
theorem acc_prd (a b : Nat → Int) (la lb m : Nat) : acc (fun i l => i + l) a b lb la 0 m = prd a b la lb m := Int.add_zero _
theorem acc_rnd (a b : Nat → Int) (n m : Nat) : acc (fun i l => (i + l) % n) a b n n 0 m = rnd a b n m := Int.add_zero _
/-- the row's numbers are what is left of the sums. -/
def AcR (f : Nat → Nat → Nat) (a b : Nat → Int) (lb i k N : Nat) (p : Int) (z : Nat → Int) : Prop := ∀ m, m < N → z m = acc f a b lb i k m % p
theorem AcR.step {f : Nat → Nat → Nat} {a b : Nat → Int} {lb i k N : Nat} {p : Int} {z : Nat → Int} (h : AcR f a b lb i k N p z) (hf : f i k < N) :
    AcR f a b lb i (k + 1) N p (fun m => if m = f i k then (z (f i k) + a i * b k % p) % p else z m) := by
  intro m hm
  show (if m = f i k then _ else _) = _
  rw [acc_step]
  by_cases e : m = f i k
  · rw [if_pos e, e, if_pos rfl, h _ hf, ← Int.add_emod]
  · rw [if_neg e, if_neg (fun h' => e h'.symm), Int.add_zero]
    exact h m hm
theorem AcR.val {f : Nat → Nat → Nat} {a b : Nat → Int} {lb i k N : Nat} {p : Int} {z : Nat → Int} (h : AcR f a b lb i k N p z) (hp : 0 < p) {m : Nat} (hm : m < N) : 0 ≤ z m ∧ z m < p := by
  rw [h m hm]
  exact ⟨Int.emod_nonneg _ (by omega), Int.emod_lt_of_pos _ hp⟩
theorem Wl.cell {w : World} {ao : Option Addr} {n cap : Nat} {x : Nat → Int} (h : Wl w (.slice ao n cap) n x) {j : Nat} (hj : j < n) : ∃ b off, ao = some ⟨b, off, none⟩ ∧ b < w.heap.size ∧ w.cell? ⟨b, off + j, none⟩ = some (.int .u64 (x j)) := by
  obtain ⟨ao', cap', e, h1, h2, h3, h5⟩ := h
  cases e
  obtain ⟨b, off, h6, h7, h8⟩ := h5 (by omega)
  exact ⟨b, off, h6, h7, h8 j hj⟩
set_option maxHeartbeats 3200000 in
set_option maxRecDepth 100000 in
theorem rmulp_any (u v : Value) (la lb : Nat) (a b : Nat → Int) (p : Int) (w : World) (hu : Wl w u la a) (hv : Wl w v lb b) (ha : 0 < la) (hb : 0 < lb) (hla : la ≤ 100000) (hlb : lb ≤ 100000) (hp : 2 ≤ p) (hp' : p ≤ 9223372036854775807) :
    Calls Tryd.prog 53 #[u, v, .int .u64 p] w fun e w' => (∃ r, e = .returned r ∧ Wl w' r (la + lb - 1) (fun m => prd a b la lb m % p)) ∧ Below w.heap.size w w' := by
  have U := hid hu
  have V := hid hv
  obtain ⟨ao, cap, rfl, _⟩ := hu
  obtain ⟨bo, bap, rfl, _⟩ := hv
  have f1 : ((la : Int) == 0) = false := beq_eq_false_iff_ne.2 (by omega)
  have f2 : ((lb : Int) == 0) = false := beq_eq_false_iff_ne.2 (by omega)
  obtain ⟨N, hN⟩ : ∃ N, N = la + lb - 1 := ⟨_, rfl⟩
  have f3 : ((la : Int) + (lb : Int) - 1) = (N : Int) := by omega
  have HN := hid hN
  have nl : N ≤ 1000000 := by omega
  clear hN
  go_enter Tryd.func53, Tryd.ntmps53
  go_wp2_with (at_make; refine wp_make _ rfl _ _ rfl _ _ N rfl rfl (by omega) (by omega) (by omega) ?_; intro w1 R1 B1 Z1; have HR := hid R1; have HB := hid B1; have HZ := hid Z1; clear R1 B1 Z1)
  generalize hg : w.heap.size = g at *
  have HG := hid hg
  clear hg
  go_loopw [8] (fun iv wr => ∃ (i : Nat) (z : Nat → Int), iv = .int .i64 i ∧ i ≤ la ∧ Hid (Row wr g N z ∧ Below g w wr ∧ AcR (fun i l => i + l) a b lb i 0 N p z)) (fun iv _ => ((la : Int) - intOf iv).toNat)
  case atStart => exact ⟨0, _, rfl, Nat.zero_le _, HR.out, HB.out, fun m _ => (Int.zero_emod p).symm⟩
  case round =>
    obtain ⟨i, z, rfl, hi, H⟩ := hrel
    clear HR HB HZ
    by_cases hin : i = la
    · subst hin
      have D : Hid (Wl wr (.slice (some ⟨g, 0, none⟩) N N) N (fun m => prd a b i lb m % p)) := by
        refine Wl.eq (H.out.1.wl (fun j hj => ?_) (by omega)) fun j hj => ?_
        · have := H.out.2.2.val (by omega) hj
          omega
        · rw [H.out.2.2 j hj, acc_prd]
      have BB := hid H.out.2.1
      clear H
      go_wp2
      go_ret
      rw [HG.out, ← HN.out]
      exact ⟨⟨_, rfl, D.out⟩, BB.out⟩
    · have hin' : (i : Int) < (la : Int) := by omega
      go_wp2
      go_loopw [9] (fun kv wk => ∃ (k : Nat) (z : Nat → Int), kv = .int .i64 k ∧ k ≤ lb ∧ Hid (Row wk g N z ∧ Below g w wk ∧ AcR (fun i l => i + l) a b lb i k N p z)) (fun kv _ => ((lb : Int) - intOf kv).toNat)
      case atStart => exact ⟨0, z, rfl, Nat.zero_le _, H.out⟩
      case round =>
        obtain ⟨k, y, rfl, hk, J⟩ := hrel
        clear H
        by_cases hkn : k = lb
        · subst hkn
          have E : Hid (AcR (fun i l => i + l) a b k (i + 1) 0 N p y) := fun m hm => by rw [J.out.2.2 m hm, acc_next]
          go_wp2
          exact ⟨⟨i + 1, y, rfl, by omega, J.out.1, J.out.2.1, E.out⟩, by simp only [intOf]; omega⟩
        · have hkn' : (k : Int) < (lb : Int) := by omega
          obtain ⟨b1, o1, rfl, hb1, c1'⟩ := U.out.cell (j := i) (by omega)
          obtain ⟨b2, o2, rfl, hb2, c2'⟩ := V.out.cell (j := k) (by omega)
          have a0 := (U.out.val (j := i) (by omega)).1
          have b0 := (V.out.val (j := k) (by omega)).1
          have hik : i + k < N := by have := HN.out; omega
          have c1 : wr.cell? ⟨b1, o1 + i, none⟩ = some (.int .u64 (a i)) := by rw [J.out.2.1.cell (p := ⟨b1, o1 + i, none⟩) (by rw [HG.out] at hb1; exact hb1)]; exact c1'
          have c2 : wr.cell? ⟨b2, o2 + k, none⟩ = some (.int .u64 (b k)) := by rw [J.out.2.1.cell (p := ⟨b2, o2 + k, none⟩) (by rw [HG.out] at hb2; exact hb2)]; exact c2'
          have c3 := J.out.1.cell (i := i + k) hik
          have fz := J.out.1.frozen (i + k)
          have z0 := J.out.2.2.val (by omega) hik
          have ST : Hid (AcR (fun i l => i + l) a b lb i (k + 1) N p (fun m => if m = i + k then (y (i + k) + a i * b k % p) % p else y m)) := AcR.step J.out.2.2 hik
          have m0 := Int.emod_nonneg (a i * b k) (show p ≠ 0 by omega)
          have RS : Hid (∀ nq, Row ((wr.drewN nq).setCell ⟨g, i + k, none⟩ (.int .u64 ((y (i + k) + a i * b k % p) % p))) g N (fun m => if m = i + k then (y (i + k) + a i * b k % p) % p else y m)) := fun nq => (J.out.1.drew nq).set (i + k) _ (fun j _ => rfl)
          have BS : Hid (∀ nq x, Below g w ((wr.drewN nq).setCell ⟨g, i + k, none⟩ x)) := fun nq x => below_set (below_drewN J.out.2.1 nq) (Nat.le_refl _) _ _
          have M := hid (fun w => rmul_any (a i) (b k) p w a0 b0 hp hp')
          have A := hid (fun w => radd_any (y (i + k)) (a i * b k % p) p w z0.1 m0 hp hp')
          have q0 : (0 : Int) ≤ (i : Int) + (k : Int) := by omega
          have q1 : (i : Int) + (k : Int) < (N : Int) := by omega
          have qn : ((i : Int) + (k : Int)).toNat = i + k := by omega
          have qw : IntKind.i64.wrap ((i : Int) + (k : Int)) = (i : Int) + (k : Int) := by rw [IntKind.wrap_i64]; omega
          clear J c1' c2' z0
          generalize a i * b k % p = t1 at *
          generalize (y (i + k) + t1) % p = t2 at *
          go_wp2_with fail
          refine wp_region_last (by kernel_rfl) (by kernel_rfl) (by kernel_rfl) (by kernel_rfl) (by decide) ?_
          simp only [stillLast, still, lastOf]
          repeat (quiet_step (first
            | (go_at_call 35; exact Calls.quiet_of (M.out _))
            | (go_at_call 29; exact Calls.quiet_of (A.out _))))
          refine wpQuiet_nil ?_
          intro _ hw'
          obtain ⟨nq, hw''⟩ := hw'
          subst hw''
          go_wp2
          exact ⟨⟨k + 1, _, rfl, by omega, RS.out nq, BS.out nq _, ST.out⟩, by simp only [intOf]; omega⟩
set_option maxHeartbeats 1600000 in
theorem rmulp_none (u v : Value) (la lb : Nat) (a b : Nat → Int) (p : Int) (w : World) (hu : Wl w u la a) (hv : Wl w v lb b) (h : la = 0 ∨ lb = 0) :
    Calls Tryd.prog 53 #[u, v, .int .u64 p] w fun e w' => e = .returned (.slice none 0 0) ∧ w' = w := by
  obtain ⟨ao, cap, rfl, -⟩ := hu
  obtain ⟨bo, bap, rfl, -⟩ := hv
  by_cases ha : la = 0
  · subst ha
    clear h
    go_enter Tryd.func53, Tryd.ntmps53
    go_wp2
    go_ret
    exact ⟨rfl, rfl⟩
  · obtain rfl : lb = 0 := by omega
    have f1 : ((la : Int) == 0) = false := beq_eq_false_iff_ne.2 (by omega)
    clear h ha
    go_enter Tryd.func53, Tryd.ntmps53
    go_wp2
    go_ret
    exact ⟨rfl, rfl⟩
end Go.Proofs.YtjgipjiopagkiaaDoor
namespace Go.Proofs.YtjgipjiopagkiaaDoor
open Go.RowKit Num Nmb

theorem Ow.drew {w : World} {base : Nat} {v : Value} {n : Nat} {x : Nat → Int} (h : Ow w base v n x) (k : Nat) : Ow (w.drewN k) base v n x := ⟨h.1.heap (by simp), h.2⟩
theorem PV.cast {w : World} {v : Value} {p : Nat} {A B : Nat → Int} (h : PV w v p A) (e : ∀ j, A j = B j) : PV w v p B := by
  rw [← funext e]; exact h
theorem PV.norm {w : World} {v : Value} {p n : Nat} {X : Nat → Int} (h : PV w v p (fun j => ax X n j % p)) (hb : ∀ j, 0 ≤ X j ∧ X j < p) (ho : ∀ j, n ≤ j → X j = 0) : PV w v p X :=
  h.cast fun j => by
    by_cases e : j < n
    · rw [ax_in X e, Int.emod_eq_of_lt (hb j).1 (hb j).2]
    · rw [ax_out X (by omega), Int.zero_emod, ho j (by omega)]
set_option maxHeartbeats 800000 in
theorem coeff9 (u : Value) (n : Nat) (a : Nat → Int) (i : Nat) (w : World) (U : Wl w u n a) : Calls Tryd.prog 30 #[u, .int .i64 i] w fun e w' => e = .returned (.int .u64 (ax a n i)) ∧ w' = w := by
  have UU := hid U
  obtain ⟨uo, ucap, rfl, -⟩ := U
  by_cases h : i < n
  · have h' : (i : Int) < (n : Int) := by omega
    obtain ⟨b, off, rfl, hbl, hc⟩ := UU.out.spot0 (by omega)
    have ci := hc i h
    rw [ax_in a h]
    clear hc UU
    go_enter Tryd.func30, Tryd.ntmps30
    go_wp2
    go_ret
    exact ⟨rfl, rfl⟩
  · have h' : ¬ (i : Int) < (n : Int) := by omega
    rw [ax_out a (by omega)]
    clear UU
    go_enter Tryd.func30, Tryd.ntmps30
    go_wp2
    go_ret
    exact ⟨rfl, rfl⟩
theorem ax_nn {a : Nat → Int} {n : Nat} (h : ∀ j, j < n → 0 ≤ a j ∧ a j ≤ 18446744073709551615) (j : Nat) : 0 ≤ ax a n j := by
  by_cases e : j < n
  · rw [ax_in a e]; exact (h j e).1
  · rw [ax_out a (by omega)]; omega
set_option maxHeartbeats 1600000 in
theorem radd9 (u v : Value) (n m : Nat) (a b : Nat → Int) (p : Nat) (w : World) (U : Wl w u n a) (V : Wl w v m b) (hn : n ≤ 100000) (hm : m ≤ 100000) (h2 : 2 ≤ p) (h63 : p ≤ 9223372036854775807) :
    Calls Tryd.prog 13 #[u, v, .int .u64 p] w fun e w' => (∃ v, e = .returned v ∧ PV w' v p (fun j => (ax a n j + ax b m j) % p)) ∧ Below w.heap.size w w' := by
  have UU := hid U
  have VV := hid V
  have NA := hid (ax_nn (fun j hj => U.val hj))
  have NB := hid (ax_nn (fun j hj => V.val hj))
  obtain ⟨uo, ucap, rfl, -⟩ := U
  obtain ⟨vo, vcap, rfl, -⟩ := V
  obtain ⟨X, hX⟩ : ∃ X : Nat → Int, X = fun j => (ax a n j + ax b m j) % p := ⟨_, rfl⟩
  have XI : Hid (∀ j, X j = (ax a n j + ax b m j) % p) := fun j => by rw [hX]
  have XB : Hid (∀ j, 0 ≤ X j ∧ X j < p) := fun j => by rw [hX]; exact ⟨Int.emod_nonneg _ (by omega), Int.emod_lt_of_pos _ (by omega)⟩
  have XO : Hid (∀ j, n ≤ j → m ≤ j → X j = 0) := fun j h1 h3 => by rw [hX]; show (ax a n j + ax b m j) % p = 0; rw [ax_out a h1, ax_out b h3]; exact Int.zero_emod _
  rw [← hX]
  clear hX
  go_enter Tryd.func13, Tryd.ntmps13
  go_wp2
  go_loopw [8, 7] (fun iv ov wr => ∃ (i : Nat), iv = .int .i64 i ∧ (i ≤ n ∨ i ≤ m) ∧ Hid (Ow wr w.heap.size ov i X) ∧ Hid (Below w.heap.size w wr) ∧ w.heap.size ≤ wr.heap.size) (fun iv _ _ => ((n : Int) + (m : Int) - intOf iv).toNat)
  case atStart => exact ⟨0, rfl, Or.inl (Nat.zero_le _), Ow.none _ _ _, Below.refl _ _, Nat.le_refl _⟩
  case round =>
    obtain ⟨i, rfl, hi, OW, BW, hsz⟩ := hrel
    obtain ⟨oo, oc, rfl⟩ := OW.out.slice
    by_cases hin : n ≤ i ∧ m ≤ i
    · have h1 : ¬ (i : Int) < (n : Int) := by omega
      have h3 : ¬ (i : Int) < (m : Int) := by omega
      have NO := hid (rnorm9 _ i X p wr OW.out.wl (by omega) h2 h63)
      clear OW UU VV NA NB
      go_wp2_with fail
      refine NO.out.mono ?_
      rintro e w3 ⟨⟨v, rfl, P⟩, B3⟩
      have PP := hid (P.norm XB.out (fun j hj => XO.out j (by omega) (by omega)))
      have BB := hid (BW.out.trans (B3.mono BW.out.size))
      clear NO P B3 XI XB XO
      go_wp2
      go_ret
      exact ⟨⟨_, rfl, PP.out⟩, BB.out⟩
    · have C1 := hid (coeff9 _ n a i wr (UU.out.below BW.out))
      have C2 := hid (coeff9 _ m b i wr (VV.out.below BW.out))
      have AD := hid (radd_any (ax a n i) (ax b m i) p wr (NA.out i) (NB.out i) (by omega) (by omega))
      have xi := XI.out i
      rw [← xi] at AD
      have xb := XB.out i
      clear UU VV NA NB XI XB XO xi
      generalize ax a n i = ai at *
      generalize ax b m i = bi at *
      obtain ⟨xv, hxv⟩ : ∃ xv, X i = xv := ⟨_, rfl⟩
      have HXI := hid hxv
      rw [hxv] at AD xb
      clear hxv
      by_cases h1 : (i : Int) < (n : Int)
      · go_wp2_with fail
        refine C1.out.mono ?_
        rintro e w3 ⟨rfl, hw⟩
        obtain rfl := hw.symm
        go_wp2_with fail
        refine C2.out.mono ?_
        rintro e w3 ⟨rfl, hw⟩
        obtain rfl := hw.symm
        go_wp2_with fail
        refine AD.out.mono ?_
        rintro e w3 ⟨rfl, q, rfl⟩
        have OW2 := hid (OW.out.drew q)
        have BW2 := hid (below_drewN BW.out q)
        have hs2 : w.heap.size ≤ (wr.drewN q).heap.size := by simpa using hsz
        clear C1 C2 AD OW BW
        generalize wr.drewN q = w4 at *
        go_wp2_with (at_builtin; refine wp_push rfl _ _ rfl rfl rfl OW2.out HXI.out (by omega) hs2 (by omega) ?_; intro ao3 cap3 w5 O3 B3 s3; have HO := hid O3; have HB := hid (BW2.out.trans B3); clear O3 B3)
        exact ⟨⟨i + 1, rfl, by omega, HO, HB, s3⟩, by simp only [intOf]; omega⟩
      · have h3 : (i : Int) < (m : Int) := by omega
        go_wp2_with fail
        refine C1.out.mono ?_
        rintro e w3 ⟨rfl, hw⟩
        obtain rfl := hw.symm
        go_wp2_with fail
        refine C2.out.mono ?_
        rintro e w3 ⟨rfl, hw⟩
        obtain rfl := hw.symm
        go_wp2_with fail
        refine AD.out.mono ?_
        rintro e w3 ⟨rfl, q, rfl⟩
        have OW2 := hid (OW.out.drew q)
        have BW2 := hid (below_drewN BW.out q)
        have hs2 : w.heap.size ≤ (wr.drewN q).heap.size := by simpa using hsz
        clear C1 C2 AD OW BW
        generalize wr.drewN q = w4 at *
        go_wp2_with (at_builtin; refine wp_push rfl _ _ rfl rfl rfl OW2.out HXI.out (by omega) hs2 (by omega) ?_; intro ao3 cap3 w5 O3 B3 s3; have HO := hid O3; have HB := hid (BW2.out.trans B3); clear O3 B3)
        exact ⟨⟨i + 1, rfl, by omega, HO, HB, s3⟩, by simp only [intOf]; omega⟩
end Go.Proofs.YtjgipjiopagkiaaDoor
namespace Go.Proofs.YtjgipjiopagkiaaDoor
open Go.RowKit Num Nmb

set_option maxHeartbeats 1600000 in
theorem rscale9 (u : Value) (n : Nat) (a : Nat → Int) (x : Int) (p : Nat) (w : World) (U : Wl w u n a) (hn : n ≤ 100000) (hx : 0 ≤ x) (h2 : 2 ≤ p) (h63 : p ≤ 9223372036854775807) :
    Calls Tryd.prog 33 #[u, .int .u64 x, .int .u64 p] w fun e w' => (∃ v, e = .returned v ∧ PV w' v p (fun j => ax a n j * x % p)) ∧ Below w.heap.size w w' := by
  have UU := hid U
  obtain ⟨uo, ucap, rfl, -⟩ := U
  obtain ⟨X, hX⟩ : ∃ X : Nat → Int, X = fun j => ax a n j * x % p := ⟨_, rfl⟩
  have XI : Hid (∀ j, j < n → X j = a j * x % p) := fun j hj => by rw [hX]; show ax a n j * x % p = _; rw [ax_in a hj]
  have XB : Hid (∀ j, 0 ≤ X j ∧ X j < p) := fun j => by rw [hX]; exact ⟨Int.emod_nonneg _ (by omega), Int.emod_lt_of_pos _ (by omega)⟩
  have XO : Hid (∀ j, n ≤ j → X j = 0) := fun j h1 => by rw [hX]; show ax a n j * x % p = 0; rw [ax_out a h1, Int.zero_mul]; exact Int.zero_emod _
  rw [← hX]
  clear hX
  go_enter Tryd.func33, Tryd.ntmps33
  go_wp2
  go_loopw [8, 7] (fun iv ov wr => ∃ (i : Nat), iv = .int .i64 i ∧ i ≤ n ∧ Hid (Ow wr w.heap.size ov i X) ∧ Hid (Below w.heap.size w wr) ∧ w.heap.size ≤ wr.heap.size) (fun iv _ _ => ((n : Int) - intOf iv).toNat)
  case atStart => exact ⟨0, rfl, Nat.zero_le _, Ow.none _ _ _, Below.refl _ _, Nat.le_refl _⟩
  case round =>
    obtain ⟨i, rfl, hi, OW, BW, hsz⟩ := hrel
    obtain ⟨oo, oc, rfl⟩ := OW.out.slice
    by_cases hin : i = n
    · have h1 : ¬ (i : Int) < (n : Int) := by omega
      subst hin
      have NO := hid (rnorm9 _ i X p wr OW.out.wl (by omega) h2 h63)
      clear OW UU XI
      go_wp2_with fail
      refine NO.out.mono ?_
      rintro e w3 ⟨⟨v, rfl, P⟩, B3⟩
      have PP := hid (P.norm XB.out (fun j hj => XO.out j (by omega)))
      have BB := hid (BW.out.trans (B3.mono BW.out.size))
      clear NO P B3 XB XO
      go_wp2
      go_ret
      exact ⟨⟨_, rfl, PP.out⟩, BB.out⟩
    · have h1 : (i : Int) < (n : Int) := by omega
      obtain ⟨b, off, rfl, hbl, hc⟩ := UU.out.spot0 (by omega)
      have ci : wr.cell? ⟨b, off + i, none⟩ = some (.int .u64 (a i)) := by rw [BW.out.cell (p := ⟨b, off + i, none⟩) hbl]; exact hc i (by omega)
      have va := UU.out.val (j := i) (by omega)
      have MU := hid (rmul_any (a i) x p wr va.1 hx (by omega) (by omega))
      have xi := XI.out i (by omega)
      rw [← xi] at MU
      have xb := XB.out i
      obtain ⟨xv, hxv⟩ : ∃ xv, X i = xv := ⟨_, rfl⟩
      have HXI := hid hxv
      rw [hxv] at MU xb
      clear UU XI XB XO xi hxv hc
      generalize a i = ai at *
      go_wp2_with fail
      refine MU.out.mono ?_
      rintro e w3 ⟨rfl, q, rfl⟩
      have OW2 := hid (OW.out.drew q)
      have BW2 := hid (below_drewN BW.out q)
      have hs2 : w.heap.size ≤ (wr.drewN q).heap.size := by simpa using hsz
      clear MU OW BW ci
      generalize wr.drewN q = w4 at *
      go_wp2_with (at_builtin; refine wp_push rfl _ _ rfl rfl rfl OW2.out HXI.out (by omega) hs2 (by omega) ?_; intro ao3 cap3 w5 O3 B3 s3; have HO := hid O3; have HB := hid (BW2.out.trans B3); clear O3 B3)
      exact ⟨⟨i + 1, rfl, by omega, HO, HB, s3⟩, by simp only [intOf]; omega⟩
theorem sub_said (x y : Int) (p : Nat) : (x + y * ((p : Int) - 1) % p) % p = (x - y) % p := by
  have e : x + y * ((p : Int) - 1) = x - y + p * y := by rw [Int.mul_sub, Int.mul_one, Int.mul_comm y]; omega
  rw [Int.add_emod, Int.emod_emod_of_dvd _ (Int.dvd_refl _), ← Int.add_emod, e, Int.add_mul_emod_self_left]
set_option maxHeartbeats 800000 in
theorem rsub9 (u v : Value) (n m : Nat) (a b : Nat → Int) (p : Nat) (w : World) (U : Wl w u n a) (V : Wl w v m b) (hn : n ≤ 100000) (hm : m ≤ 100000) (h2 : 2 ≤ p) (h63 : p ≤ 9223372036854775807) :
    Calls Tryd.prog 15 #[u, v, .int .u64 p] w fun e w' => (∃ v, e = .returned v ∧ PV w' v p (fun j => (ax a n j - ax b m j) % p)) ∧ Below w.heap.size w w' := by
  have SC := hid (rscale9 v m b ((p : Int) - 1) p w V hm (by omega) h2 h63)
  have AD : Hid (∀ W v' k B, Below w.heap.size w W → NP p k B → Wl W v' k B → k ≤ 100000 → Calls Tryd.prog 13 #[u, v', .int .u64 p] W fun e w' => (∃ v, e = .returned v ∧ PV w' v p (fun j => (ax a n j + B j) % p)) ∧ Below W.heap.size W w') := fun W v' k B Bw NB WB hk => by
    have := radd9 u v' n k a B p W (U.below Bw) WB hn hk h2 h63
    rw [NB.ax] at this
    exact this
  obtain ⟨uo, ucap, rfl, -⟩ := U
  obtain ⟨vo, vcap, rfl, -⟩ := V
  have wp : IntKind.u64.wrap ((p : Int) - 1) = (p : Int) - 1 := by rw [IntKind.wrap_u64]; omega
  go_enter Tryd.func15, Tryd.ntmps15
  go_wp2_with fail
  refine SC.out.mono ?_
  rintro e w3 ⟨⟨v', rfl, k, NB, WB⟩, B3⟩
  have hk : k ≤ 100000 := by
    apply Nat.le_of_not_lt
    intro hl
    rcases NB.top with h | h
    · omega
    · refine h ?_
      show ax b m (k - 1) * ((p : Int) - 1) % p = 0
      rw [ax_out b (by omega), Int.zero_mul, Int.zero_emod]
  have A2 := hid (AD.out w3 v' k _ B3 NB WB hk)
  have BB := hid B3
  obtain ⟨so, sc, rfl, -⟩ := WB
  clear SC AD B3 NB
  go_wp2_with fail
  refine A2.out.mono ?_
  rintro e w4 ⟨⟨v2, rfl, P⟩, B4⟩
  have PP := hid (P.cast fun j => sub_said (ax a n j) (ax b m j) p)
  have B5 := hid (BB.out.trans (B4.mono BB.out.size))
  clear A2 P B4 BB
  go_wp2
  go_ret
  exact ⟨⟨_, rfl, PP.out⟩, B5.out⟩
set_option maxHeartbeats 800000 in
theorem rmul9 (u v : Value) (n m : Nat) (a b : Nat → Int) (p : Nat) (w : World) (U : Wl w u n a) (V : Wl w v m b) (hn : n ≤ 100000) (hm : m ≤ 100000) (h2 : 2 ≤ p) (h63 : p ≤ 9223372036854775807) :
    Calls Tryd.prog 40 #[u, v, .int .u64 p] w fun e w' => (∃ v, e = .returned v ∧ PV w' v p (fun j => cv (ax a n) (ax b m) j % p)) ∧ Below w.heap.size w w' := by
  have ML : Hid (Calls Tryd.prog 53 #[u, v, .int .u64 p] w fun e w' => (∃ r k X, e = .returned r ∧ Wl w' r k X ∧ k ≤ 200000 ∧ ∀ j, ax X k j % p = cv (ax a n) (ax b m) j % p) ∧ Below w.heap.size w w') := by
    have pc : ∀ j, prd a b n m j = cv (ax a n) (ax b m) j := fun j => by
      rw [← prd_cv (n := n) (m := m) (fun i hi => ax_out a hi) (fun i hi => ax_out b hi)]
      unfold prd
      exact sm_eq n fun i hi => sm_eq m fun l hl => by dsimp only; rw [ax_in a hi, ax_in b hl]
    by_cases h0 : n = 0 ∨ m = 0
    · refine (rmulp_none u v n m a b p w U V h0).mono ?_
      rintro e w' ⟨rfl, rfl⟩
      refine ⟨⟨_, 0, fun _ => 0, rfl, Wl.nil _ _, by omega, fun j => ?_⟩, Below.refl _ _⟩
      rw [← pc j]
      have : prd a b n m j = 0 := by
        unfold prd
        rcases h0 with h | h
        · rw [h]; rfl
        · rw [h]; exact sm_zero n
      rw [this, ax_out _ (Nat.zero_le _)]
    · refine (rmulp_any u v n m a b p w U V (by omega) (by omega) hn hm (by omega) (by omega)).mono ?_
      rintro e w' ⟨⟨r, rfl, W⟩, B⟩
      refine ⟨⟨r, _, _, rfl, W, by omega, fun j => ?_⟩, B⟩
      by_cases q : j < n + m - 1
      · rw [ax_in _ q, ← pc j, Int.emod_emod_of_dvd _ (Int.dvd_refl _)]
      · rw [ax_out _ (by omega), ← pc j]
        have : prd a b n m j = 0 := by
          unfold prd
          rw [sm_eq (g := fun _ => 0) n (fun i hi => by rw [sm_eq (g := fun _ => 0) m (fun l hl => if_neg (by omega)), sm_zero]), sm_zero]
        rw [this]
  have NO : Hid (∀ W r k X, Wl W r k X → k ≤ 200000 → Calls Tryd.prog 8 #[r, .int .u64 p] W fun e w' => (∃ v, e = .returned v ∧ PV w' v p (fun j => ax X k j % p)) ∧ Below W.heap.size W w') := fun W r k X h hk => rnorm9 r k X p W h (by omega) h2 h63
  obtain ⟨uo, ucap, rfl, -⟩ := U
  obtain ⟨vo, vcap, rfl, -⟩ := V
  go_enter Tryd.func40, Tryd.ntmps40
  go_wp2_with fail
  refine ML.out.mono ?_
  rintro e w3 ⟨⟨r, k, X, rfl, WX, hk, hX⟩, B3⟩
  have N1 := hid (NO.out w3 r k X WX hk)
  have HX := hid hX
  have BB := hid B3
  obtain ⟨so, sc, rfl, -⟩ := WX
  clear ML NO B3 hX
  go_wp2_with fail
  refine N1.out.mono ?_
  rintro e w4 ⟨⟨v2, rfl, P⟩, B4⟩
  have PP := hid (P.cast HX.out)
  have B5 := hid (BB.out.trans (B4.mono BB.out.size))
  clear N1 P B4 BB HX
  go_wp2
  go_ret
  exact ⟨⟨_, rfl, PP.out⟩, B5.out⟩
set_option maxHeartbeats 800000 in
theorem rinv9 (x p : Nat) (w : World) (h2 : 2 ≤ p) (h63 : p ≤ 9223372036854775807) :
    Calls Tryd.prog 38 #[.int .u64 x, .int .u64 p] w fun e w' => e = .returned (.int .u64 ((x ^ (p - 2) % p : Nat) : Int)) ∧ ∃ k, w' = w.drewN k := by
  have PW : Hid (Calls Tryd.prog 51 #[.int .u64 x, .int .u64 ((p : Int) - 2), .int .u64 p] w fun e w' => e = .returned (.int .u64 ((x ^ (p - 2) % p : Nat) : Int)) ∧ ∃ k, w' = w.drewN k) := by
    have := rpow_any x p (p - 2) w (by omega) (by omega) (by omega) (by omega)
    rw [show ((p - 2 : Nat) : Int) = (p : Int) - 2 by omega, ← Int.natCast_pow, ← Int.natCast_emod] at this
    exact this
  have wp : IntKind.u64.wrap ((p : Int) - 2) = (p : Int) - 2 := by rw [IntKind.wrap_u64]; omega
  generalize x ^ (p - 2) % p = y at *
  go_enter Tryd.func38, Tryd.ntmps38
  go_wp2_with fail
  refine PW.out.mono ?_
  rintro e w3 ⟨rfl, k, rfl⟩
  go_wp2
  go_ret
  exact ⟨rfl, k, rfl⟩
end Go.Proofs.YtjgipjiopagkiaaDoor
namespace Go.Proofs.YtjgipjiopagkiaaDoor
open Go.RowKit Num Nmb

/-- the first i values. -/
def GoR (a : Nat → Int) (r p n : Nat) (X : List Nat) : Prop := (∀ j, j < X.length → lw X j = dft a r n j % p) ∧ ∀ c, c ∈ X → c ≤ 18446744073709551615
theorem GoR.push {a : Nat → Int} {r p n c : Nat} {X : List Nat} (h : GoR a r p n X) (hp : 0 < p) (hp' : p ≤ 9223372036854775807) (hc : (c : Int) = ev a n (r ^ X.length % p : Nat) % p) : GoR a r p n (X ++ [c]) := by
  refine ⟨fun j hj => ?_, fun d hd => ?_⟩
  · rw [lw_push]
    by_cases e : j = X.length
    · rw [if_pos e, hc, dft_ev, e]
      have : Cg p ((r ^ X.length % p : Nat) : Int) ((r : Int) ^ X.length) := by
        rw [Int.natCast_emod, Int.natCast_pow]
        exact Cg.mod
      exact ev_cg (fun i _ => Cg.rfl) this
    · rw [if_neg e]
      exact h.1 j (by simp at hj; omega)
  · rcases List.mem_append.1 hd with hd | hd
    · exact h.2 d hd
    · simp at hd
      subst hd
      have := Int.emod_lt_of_pos (ev a n (r ^ X.length % p : Nat)) (show 0 < (p : Int) by omega)
      omega
theorem pushedW {w w2 w3 : World} {v v' : Value} {L : List Nat} {c : Nat} {o : Obj} (h : OwW w2 w.heap.size v L) (B : Below w.heap.size w w2) (hb : w.heap.size ≤ w2.heap.size)
    (own : w3.ownsRow w.heap.size 22 1 v' (L.length + 1) (wordCells L ++ [.int .u64 (c : Int)])) (grow : (w2.alloc o).grownBy w3 v.ownBlock) :
    ∃ ao cap, v' = .slice ao (L.length + 1) cap ∧ Hid (OwW w3 w.heap.size (.slice ao (L.length + 1) cap) (L ++ [c])) ∧ Hid (Below w.heap.size w w3) ∧ w.heap.size ≤ w3.heap.size := by
  obtain ⟨h1, h2, h3⟩ := OwW.push h hb rfl own grow
  obtain ⟨ao, cap, hv⟩ := h1.slice
  rw [List.length_append, List.length_singleton] at hv
  subst hv
  exact ⟨ao, cap, rfl, h1, B.trans h2, h3⟩
end Go.Proofs.YtjgipjiopagkiaaDoor
namespace Go.Proofs.YtjgipjiopagkiaaDoor
open Go.RowKit Num Nmb

/-- numbers, cut or 0 behind them. -/
def szd (a : Nat → Int) (n : Nat) (j : Nat) : Int := if j < n then a j else 0
end Go.Proofs.YtjgipjiopagkiaaDoor
namespace Go.Proofs.YtjgipjiopagkiaaDoor
open Go.RowKit Num Nmb

theorem priA : Pri 4179340454199820289 := proth2 (c := 29) (k := 57) (a := 3) (i := 56) (by decide) (by decide) (by decide) (by decide) (by decide) (by decide +kernel)
theorem priB : Pri 180143985094819841 := proth2 (c := 5) (k := 55) (a := 3) (i := 54) (by decide) (by decide) (by decide) (by decide) (by decide) (by decide +kernel)
theorem pri7 : Pri 7 := low_pri 7 (by decide) (by decide) (by decide)
theorem Rt.of_ord {p r k : Nat} (hp : Pri p) (h : Ord p r k) (hk : k ≤ tw p) (hl : p ≤ 18446744073709551615) : Rt p r k := by
  have h2 := hp.1
  have one : Cg p ((r : Int) ^ 2 ^ k) 1 := by
    rw [← Int.natCast_pow]
    refine (Cg.nat (b := 1)).2 ?_
    rw [h.1, Nat.mod_eq_of_lt (by omega)]
  refine ⟨hp, one, fun h0 => ?_, fun h0 e => ?_⟩
  · have hn := h.2 (k - 1) (by omega)
    have e1 : r ^ 2 ^ (k - 1) * r ^ 2 ^ (k - 1) = r ^ 2 ^ k := by
      have := two_twice r (k - 1)
      rw [show k - 1 + 1 = k by omega] at this
      exact this.symm
    rcases hp.sqrt1 (x := r ^ 2 ^ (k - 1)) (by rw [e1]; exact h.1) with h3 | h3
    · exact absurd h3 hn
    · have e2 : Cg p ((r : Int) ^ 2 ^ (k - 1)) ((p - 1 : Nat) : Int) := by
        rw [← Int.natCast_pow]
        refine Cg.nat.2 ?_
        rw [h3, Nat.mod_eq_of_lt (by omega)]
      refine e2.trans (Cg.dvd.2 ⟨1, ?_⟩)
      rw [Int.natCast_sub (by omega)]
      omega
  · subst e
    rw [tw2] at hk
    omega
theorem RootIs.rt {p r k : Nat} (h : RootIs p k r) (hp : Pri p) (hk : k ≤ tw p) (hl : p ≤ 18446744073709551615) : Rt p r k := by
  obtain ⟨x, _, _, h3, _⟩ := h
  exact Rt.of_ord hp h3 hk hl
/-- one of the law's primes. -/
def GreatP (p : Nat) : Prop := p = 998244353 ∨ p = 4179340454199820289 ∨ p = 180143985094819841 ∨ p = 7 ∨ p = 17 ∨ p = 97
theorem GreatP.pri {p : Nat} (h : GreatP p) : Pri p := by
  rcases h with rfl | rfl | rfl | rfl | rfl | rfl
  · exact pri998
  · exact priA
  · exact priB
  · exact pri7
  · exact pri17
  · exact pri97
theorem GreatP.le {p : Nat} (h : GreatP p) : p ≤ 4179340454199820289 := by
  rcases h with rfl | rfl | rfl | rfl | rfl | rfl <;> decide
theorem Wl.lit (w : World) (l : List Nat) (o : Obj) (ho : o = .cells (wordCells l).toArray 22 (0, 0)) (hl : l.length ≤ 100) (hb : ∀ x, x ∈ l → x ≤ 18446744073709551615) :
    Wl (w.alloc o) (.slice (some ⟨w.heap.size, 0, none⟩) l.length l.length) l.length (lw l) := by
  have hc : (w.alloc o).heap[w.heap.size]? = some o := heap_alloc_new w o
  refine ⟨_, _, rfl, Nat.le_refl _, by omega, fun j hj => ?_, fun _ => ⟨_, 0, rfl, by simp, fun j hj => ?_⟩⟩
  · unfold lw
    have : l.getD j 0 ∈ l := by rw [List.getD_eq_getElem?_getD, List.getElem?_eq_getElem hj]; exact List.getElem_mem _
    have := hb _ this
    omega
  · rw [ho] at hc ⊢
    unfold World.cell?
    simp only [hc]
    have e2 : l.getD j 0 = l[j] := by rw [List.getD_eq_getElem?_getD, List.getElem?_eq_getElem hj]; rfl
    unfold lw
    rw [e2, Nat.zero_add]
    simp [wordCells, hj]
/-- what is known of a table's numbers. -/
structure TabOk (p k r : Nat) : Prop where
  pri : Pri p
  h63 : p < 9223372036854775808
  k20 : k ≤ 20
  ktw : k ≤ tw p
  root : RootIs p k r
/-- b is what Back answers of the values a. -/
def Bk (p k r : Nat) (a b : Nat → Int) : Prop := ∃ v c : Int, Cg p (v * r) 1 ∧ Cg p (c * (2 ^ k : Nat)) 1 ∧ ∀ j, j < 2 ^ k → b j = c * dft a v (2 ^ k) j % p
theorem TabOk.rt {p k r : Nat} (h : TabOk p k r) : Rt p r k := h.root.rt h.pri h.ktw (by have := h.h63; omega)
theorem Cg.mod_eq {p : Nat} {a b : Int} (h : Cg p a b) : a % p = b % p := h
/-- Back of Go. -/
theorem Bk.there {p k r : Nat} {a b c : Nat → Int} (h : Bk p k r b c) (T : TabOk p k r) (hb : ∀ j, j < 2 ^ k → b j = dft a r (2 ^ k) j % p) (j : Nat) (hj : j < 2 ^ k) : c j = a j % p := by
  obtain ⟨v, e, hv, he, hc⟩ := h
  rw [hc j hj]
  refine Cg.mod_eq (Cg.trans (Cg.rfl.mul (dft_cg (fun i hi => ?_) j)) (T.rt.there hv he a j hj))
  rw [hb i hi]
  exact Cg.mod
/-- Go of Back. -/
theorem Bk.again {p k r : Nat} {a b : Nat → Int} (h : Bk p k r a b) (T : TabOk p k r) (j : Nat) (hj : j < 2 ^ k) : dft b r (2 ^ k) j % p = a j % p := by
  obtain ⟨v, e, hv, he, hc⟩ := h
  refine Cg.mod_eq (Cg.trans (dft_cg (fun i hi => ?_) j) (T.rt.again hv he a j hj))
  rw [hc i hi]
  exact Cg.mod
end Go.Proofs.YtjgipjiopagkiaaDoor
namespace Go.Proofs.YtjgipjiopagkiaaDoor
open Go.RowKit Num Nmb

theorem ec_pri {p x : Nat} (hp : Pri p) (h : x % p ≠ 0) : ec (x : Int) (p : Int) = 0 := by
  have h2 := hp.1
  apply ec_pos _ (by omega)
  unfold gc
  have e : ((x : Int) % (p : Int)).toNat = x % p := by rw [← Int.natCast_emod]; rfl
  rw [e]
  have hc : Nat.gcd (x % p) p = 1 := by
    rcases hp.2 _ (Nat.gcd_dvd_right (x % p) p) with h1 | h1
    · exact h1
    · have h3 := Nat.gcd_dvd_left (x % p) p
      rw [h1] at h3
      have := Nat.le_of_dvd (by omega) h3
      have := Nat.mod_lt x (show 0 < p by omega)
      omega
  rw [Int.toNat_natCast, Nat.gcd_comm]
  exact hc
/-- the inverse modulo a prime. -/
def ivp (p x : Nat) : Nat := x ^ (p - 2) % p
theorem ivp_said {p x : Nat} (hp : Pri p) (h : x % p ≠ 0) : x * ivp p x % p = 1 := by
  have h2 := hp.1
  unfold ivp
  rw [Nat.mul_mod_mod, ← Nat.pow_succ', show (p - 2).succ = p - 1 by omega]
  exact hp.fermat1 h
theorem inv_pri (g p x : Nat) (f s : Int) (w : World) (h : Fld w g p f s) (hm : Ok p f s) (hp : Pri p) (hx : x % p ≠ 0) :
    Calls Tryd.prog 50 #[.pointer (some ⟨g, 0, none⟩), .int .u64 x] w fun e w' => e = .returned (.tuple #[.int .u64 (ivp p x : Nat), .int .i64 0]) ∧ w' = w := by
  have e0 := ec_pri hp hx
  have h2 := hp.1
  refine (inv_any g p f s x w h hm (by omega)).mono ?_
  rintro e w' ⟨⟨y, rfl, I⟩, rfl⟩
  obtain ⟨y0, y1, y2⟩ := I.good e0
  rw [e0]
  have c1 : Cg p (y * x) (((ivp p x : Nat) : Int) * x) := by
    have a1 := ivp_said hp hx
    unfold Cg
    rw [Int.mul_comm, y2, Int.mul_comm, ← Int.natCast_mul, ← Int.natCast_emod, a1]
    rfl
  have c2 := hp.cancel (c := (x : Int)) (fun hc => hx (by
    have := (Cg.nat (b := 0)).1 hc
    rw [Nat.zero_mod] at this
    exact this)) c1
  have l1 : ivp p x < p := Nat.mod_lt _ (by omega)
  have : y = ((ivp p x : Nat) : Int) := by
    unfold Cg at c2
    rw [Int.emod_eq_of_lt y0 y1, Int.emod_eq_of_lt (by omega) (by omega)] at c2
    exact c2
  rw [this]
  exact ⟨rfl, rfl⟩
theorem root_nz {p k r : Nat} (T : TabOk p k r) : r % p ≠ 0 := by
  intro h
  have h1 := T.rt.one
  have h2 := T.pri.1
  have h3 : Cg p (r : Int) 0 := (Cg.nat (b := 0)).2 (by rw [h, Nat.zero_mod])
  have h4 := h3.pow (2 ^ k)
  rw [Int.zero_pow (Nat.ne_of_gt (Nat.two_pow_pos k))] at h4
  have h5 := (Cg.nat (p := p) (a := 1) (b := 0)).1 (h1.symm.trans h4)
  rw [Nat.mod_eq_of_lt (by omega), Nat.zero_mod] at h5
  omega
theorem two_nz {p k r : Nat} (T : TabOk p k r) : 2 ^ k % p ≠ 0 := by
  intro h
  have h2 := T.pri.1
  have h3 := T.pri.pow k (Nat.dvd_of_mod_eq_zero h)
  have h4 := Nat.le_of_dvd (by omega) h3
  obtain rfl : p = 2 := by omega
  have h5 := T.ktw
  rw [tw2] at h5
  obtain rfl : k = 0 := by omega
  simp at h
end Go.Proofs.YtjgipjiopagkiaaDoor
namespace Go.Proofs.YtjgipjiopagkiaaDoor
open Go.RowKit Num Nmb

/-- one step of the division: the top goes away. -/
theorem div_top {p k m d : Nat} {R B : Nat → Int} {c i : Int} (hR : NP p (k + 1) R) (hB : NP p (m + 1) B) (hd : k = d + m) (hi : Cg p (i * B m) 1) (hc : Cg p c (R k * i)) :
    ∀ j, k ≤ j → Cg p (R j - cv (mono c d) B j) 0 := fun j hj => by
  rw [cv_mono, if_pos (by omega)]
  by_cases e : j = k
  · subst e
    rw [show j - d = m by omega]
    have h1 : Cg p (c * B m) (R j) := ((hc.mul Cg.rfl).trans (Cg.of_eq (Int.mul_assoc _ _ _))).trans (((Cg.rfl (a := R j)).mul hi).trans (Cg.of_eq (Int.mul_one _)))
    exact ((Cg.rfl (a := R j)).sub h1).trans (Cg.of_eq (by omega))
  · rw [hR.out j (by omega), hB.out (j - d) (by omega), Int.mul_zero]
    exact Cg.rfl
theorem div_step {p : Nat} {A B Q R Q' R' C : Nat → Int} (e : Ct p A (pls (cv Q B) R)) (hQ : Ct p Q' (pls Q C)) (hR : Ct p R' (fun j => R j - cv C B j)) : Ct p A (pls (cv Q' B) R') := by
  refine e.trans fun j => ?_
  have h1 := (hQ.cv (Ct.refl p B)) j
  rw [Pcv] at h1
  have h2 : Cg p (cv Q' B j) (cv Q B j + cv C B j) := h1
  show Cg p (cv Q B j + R j) (cv Q' B j + R' j)
  have h4 : Cg p (R' j) (R j - cv C B j) := hR j
  exact (Cg.of_eq (by omega)).trans (h2.symm.add h4.symm)
set_option maxHeartbeats 3200000 in
theorem rdiv9 (u v : Value) (n m mB : Nat) (a b : Nat → Int) (p : Nat) (w : World) (hp : Pri p) (U : Wl w u n a) (V : Wl w v m b) (hn : n ≤ 10000) (hm : m ≤ 10000) (h63 : p ≤ 9223372036854775807) (hB : NP p (mB + 1) (fun j => ax b m j % p)) :
    Calls Tryd.prog 21 #[u, v, .int .u64 p] w fun e w' => (∃ q r Q R, e = .returned (.tuple #[q, r]) ∧ PV w' q p Q ∧ PV w' r p R ∧ (∀ j, n ≤ j → Q j = 0) ∧ (∀ j, mB ≤ j → R j = 0) ∧ Ct p (ax a n) (pls (cv Q (ax b m)) R)) ∧ Below w.heap.size w w' := by
  have h2 := hp.1
  have NA := hid (rnorm9 u n a p w U (by omega) h2 h63)
  have NB : Hid (∀ W, Below w.heap.size w W → Calls Tryd.prog 8 #[v, .int .u64 p] W fun e w' => (∃ v, e = .returned v ∧ PV w' v p (fun j => ax b m j % p)) ∧ Below W.heap.size W w') := fun W B => rnorm9 v m b p W (V.below B) (by omega) h2 h63
  obtain ⟨uo, ucap, rfl, -⟩ := U
  obtain ⟨vo, vcap, rfl, -⟩ := V
  have mB1 : mB + 1 ≤ m := hB.le (fun j hj => by show ax b m j % p = 0; rw [ax_out b hj, Int.zero_emod])
  have CB : Hid (Ct p (fun j => ax b m j % p) (ax b m)) := mod_ct _
  have CA : Hid (Ct p (fun j => ax a n j % p) (ax a n)) := mod_ct _
  have AO : Hid (∀ j, n ≤ j → (fun j => ax a n j % p) j = 0) := fun j hj => by show ax a n j % p = 0; rw [ax_out a hj, Int.zero_emod]
  have HB := hid hB
  have HP := hid hp
  clear hB hp
  generalize (fun j => ax b m j % p) = B at *
  generalize (fun j => ax a n j % p) = A at *
  generalize ax b m = B0 at *
  generalize ax a n = A0 at *
  go_enter Tryd.func21, Tryd.ntmps21
  go_wp2_with fail
  refine NA.out.mono ?_
  rintro e w3 ⟨⟨va, rfl, PA⟩, B3⟩
  have HPA := hid PA
  have BB3 := hid B3
  have N2 := hid (NB.out w3 B3)
  obtain ⟨ka, NPA, WA⟩ := PA
  obtain ⟨ao, acap, rfl, -⟩ := WA
  clear NA NB NPA B3
  go_wp2_with fail
  refine N2.out.mono ?_
  rintro e w4 ⟨⟨vb, rfl, PB⟩, B4⟩
  have HPA4 := hid (HPA.out.below B4)
  have BB4 := hid (BB3.out.trans (B4.mono BB3.out.size))
  obtain ⟨kb, NPB, WB⟩ := PB
  obtain ⟨-, rfl⟩ := NPB.eq HB.out (Ct.refl p B)
  have HWB := hid WB
  obtain ⟨bo, bcap, rfl, -⟩ := WB
  obtain ⟨bb, boff, rfl, bbl, bc⟩ := HWB.out.spot0 (by omega)
  have cb := bc mB (by omega)
  have vb := HWB.out.val (j := mB) (by omega)
  obtain ⟨bt, hbt⟩ : ∃ bt : Nat, B mB = bt := ⟨(B mB).toNat, by omega⟩
  rw [hbt] at cb
  have IV := hid (rinv9 bt p w4 h2 h63)
  have BI : Hid (Cg p (((bt ^ (p - 2) % p : Nat) : Int) * B mB) 1) := by
    have nz : bt % p ≠ 0 := fun h0 => by
      have h1 := HB.out.tp.2
      rw [hbt] at h1
      exact h1 ((Cg.nat (b := 0)).2 (by rw [h0, Nat.zero_mod]))
    have h3 := ivp_said HP.out nz
    unfold ivp at h3
    rw [hbt]
    show Cg _ _ _
    unfold Cg
    rw [Int.mul_comm, ← Int.natCast_mul, ← Int.natCast_emod, h3, show ((1 : Nat) : Int) = 1 from rfl, Int.emod_eq_of_lt (by omega) (by omega)]
  have b1 : ((mB + 1 : Nat) : Int) - 1 = (mB : Int) := by omega
  clear N2 HPA BB3 B4 NPB bc vb
  obtain ⟨iv, hiv⟩ : ∃ iv, bt ^ (p - 2) % p = iv := ⟨_, rfl⟩
  rw [hiv] at IV BI
  clear hiv
  go_wp2_with fail
  refine IV.out.mono ?_
  rintro e w5 ⟨rfl, q5, rfl⟩
  have HW5 := hid (HWB.out.drew q5)
  have B5 := hid (below_drewN BB4.out q5)
  have P5 : Hid (PV (w4.drewN q5) (.slice ao ka acap) p A) := by
    obtain ⟨n, h1, h3⟩ := HPA4.out
    exact ⟨n, h1, h3.drew q5⟩
  clear IV HWB BB4 HPA4 cb
  generalize w4.drewN q5 = w6 at *
  have E0 : Hid (Ct p A0 (pls (cv (fun _ => 0) B) A)) := fun j => by
    show Cg p (A0 j) (cv (fun _ => 0) B j + A j)
    rw [cv_comm, cv_zero, Int.zero_add]
    exact (CA.out j).symm
  have MA : Hid (∃ k, NP p k A ∧ k ≤ n ∧ Wl w6 (.slice ao ka acap) k A) := by
    obtain ⟨k, h1, h3⟩ := P5.out
    exact ⟨k, h1, h1.le AO.out, h3⟩
  clear P5
  go_wp2
  go_loopw [0, 8] (fun av qv wr => ∃ (ro : Option Addr) (k rcap : Nat) (qo : Option Addr) (kq qcap : Nat) (Q R : Nat → Int), av = .slice ro k rcap ∧ qv = .slice qo kq qcap ∧ k ≤ n ∧ Hid (NP p k R) ∧ Hid (Wl wr (.slice ro k rcap) k R) ∧ Hid (NP p kq Q) ∧ Hid (Wl wr (.slice qo kq qcap) kq Q) ∧ Hid (∀ j, n ≤ j → Q j = 0) ∧ Hid (Ct p A0 (pls (cv Q B) R)) ∧ Hid (Below w6.heap.size w6 wr)) (fun av _ _ => match av with | .slice _ k _ => k | _ => 0)
  case atStart =>
    obtain ⟨k, h1, h3, h4⟩ := MA.out
    have hk : k = ka := by
      obtain ⟨x, y, e, -⟩ := h4
      injection e with _ e2 _
      exact e2.symm
    subst hk
    exact ⟨_, _, _, _, _, _, fun _ => 0, A, rfl, rfl, h3, h1, h4, NP.zero (by omega), Wl.nil _ _, fun _ _ => rfl, E0.out, Below.refl _ _⟩
  case round =>
    clear E0 MA CA AO
    obtain ⟨ro, k, rcap, qo, kq, qcap, Q, R, rfl, rfl, hkn, NR, WR, NQ, WQ, QO, EE, BW⟩ := hrel
    by_cases hkm : k < mB + 1
    · have h1 : ¬ ((mB + 1 : Nat) : Int) ≤ (k : Int) := by omega
      have FIN : Hid (PV wr (.slice qo kq qcap) p Q ∧ PV wr (.slice ro k rcap) p R ∧ (∀ j, n ≤ j → Q j = 0) ∧ (∀ j, mB ≤ j → R j = 0) ∧ Ct p A0 (pls (cv Q B0) R)) := ⟨⟨_, NQ.out, WQ.out⟩, ⟨_, NR.out, WR.out⟩, QO.out, fun j hj => NR.out.out j (by omega), EE.out.trans (((Ct.refl p Q).cv CB.out).pls (Ct.refl p R))⟩
      have BB := hid (B5.out.trans (BW.out.mono B5.out.size))
      clear NR WR NQ WQ QO EE BW CB HB HP HW5 B5 BI
      go_wp2
      go_ret2
      first
        | exact ⟨⟨_, _, Q, R, rfl, FIN.out⟩, BB.out⟩
        | exact ⟨⟨_, _, rfl, Q, FIN.out.1, R, FIN.out.2⟩, BB.out⟩
    · obtain ⟨t, rfl⟩ : ∃ t, k = t + 1 := ⟨k - 1, by omega⟩
      obtain ⟨d, hd⟩ : ∃ d, t = d + mB := ⟨t - mB, by omega⟩
      have hk1 : ((mB + 1 : Nat) : Int) ≤ ((t + 1 : Nat) : Int) := by omega
      have f1 : ((t + 1 : Nat) : Int) - ((mB + 1 : Nat) : Int) = (d : Int) := by omega
      have f3 : ((t + 1 : Nat) : Int) - 1 = (t : Int) := by omega
      have kqn := NQ.out.le QO.out
      obtain ⟨rb, roff, rfl, rbl, rc⟩ := WR.out.spot0 (by omega)
      have ct := rc t (by omega)
      have vt := WR.out.val (j := t) (by omega)
      have b0 : 0 ≤ (iv : Int) := by omega
      obtain ⟨c, hc⟩ : ∃ c, R t * iv % p = c := ⟨_, rfl⟩
      have c0 : 0 ≤ c ∧ c < p := by rw [← hc]; exact ⟨Int.emod_nonneg _ (by omega), Int.emod_lt_of_pos _ (by omega)⟩
      have DT : Hid (∀ j, t ≤ j → Cg p (R j - cv (mono c d) B j) 0) := div_top NR.out HB.out hd BI.out (by rw [← hc]; exact Cg.mod)
      have MU := hid (fun W => rmul_any (R t) iv p W vt.1 b0 (by omega) (by omega))
      rw [hc] at MU
      have mo : ∀ j, d + 1 ≤ j → mono c d j = 0 := fun j hj => if_neg (by omega)
      have mx : ax (mono c d) (d + 1) = mono c d := funext fun j => by
        by_cases e : j < d + 1
        · exact ax_in _ e
        · rw [ax_out _ (by omega), mo j (by omega)]
      have ADD : Hid (∀ W qv ov, Wl W qv kq Q → Wl W ov (d + 1) (mono c d) → Calls Tryd.prog 13 #[qv, ov, .int .u64 p] W fun e w' => (∃ v, e = .returned v ∧ PV w' v p (fun j => (Q j + mono c d j) % p)) ∧ Below W.heap.size W w') := fun W qv ov h3 h4 => by
        have := radd9 qv ov kq (d + 1) Q (mono c d) p W h3 h4 (by omega) (by omega) h2 h63
        rw [NQ.out.ax, mx] at this
        exact this
      have MUL : Hid (∀ W bv ov, Wl W bv (mB + 1) B → Wl W ov (d + 1) (mono c d) → Calls Tryd.prog 40 #[ov, bv, .int .u64 p] W fun e w' => (∃ v, e = .returned v ∧ PV w' v p (fun j => cv (mono c d) B j % p)) ∧ Below W.heap.size W w') := fun W bv ov h3 h4 => by
        have := rmul9 ov bv (d + 1) (mB + 1) (mono c d) B p W h4 h3 (by omega) (by omega) h2 h63
        rw [HB.out.ax, mx] at this
        exact this
      have SUB : Hid (∀ W av mv, Wl W av (t + 1) R → PV W mv p (fun j => cv (mono c d) B j % p) → Calls Tryd.prog 15 #[av, mv, .int .u64 p] W fun e w' => (∃ v, e = .returned v ∧ PV w' v p (fun j => (R j - cv (mono c d) B j % p) % p)) ∧ Below W.heap.size W w') := fun W av mv h3 h4 => by
        obtain ⟨l, hl, WM⟩ := h4
        have ll : l ≤ t + 1 := hl.le fun j hj => by
          show cv (mono c d) B j % p = 0
          rw [cv_mono, if_pos (by omega), HB.out.out (j - d) (by omega), Int.mul_zero, Int.zero_emod]
        have := rsub9 av mv (t + 1) l R _ p W h3 WM (by omega) (by omega) h2 h63
        rw [NR.out.ax, hl.ax] at this
        exact this
      have EE2 : Hid (Ct p A0 (pls (cv (fun j => (Q j + mono c d j) % p) B) (fun j => (R j - cv (mono c d) B j % p) % p))) :=
        div_step EE.out (mod_ct _) fun j => Cg.mod.trans (Cg.rfl.sub Cg.mod)
      have QO2 : Hid (∀ j, n ≤ j → (fun j => (Q j + mono c d j) % p) j = 0) := fun j hj => by show (Q j + mono c d j) % p = 0; rw [QO.out j hj, mo j (by omega)]; exact Int.zero_emod _
      have RO2 : Hid (∀ j, t ≤ j → (fun j => (R j - cv (mono c d) B j % p) % p) j = 0) := fun j hj => by
        show (R j - cv (mono c d) B j % p) % p = 0
        have h3 := (Cg.mod (p := p) (a := R j - cv (mono c d) B j % p)).trans ((Cg.rfl.sub Cg.mod).trans (DT.out j hj))
        unfold Cg at h3
        rw [Int.zero_emod, Int.emod_emod_of_dvd _ (Int.dvd_refl _)] at h3
        exact h3
      have MV : Hid (∀ j, 0 ≤ mono c d j ∧ mono c d j ≤ 18446744073709551615) := fun j => by unfold mono; split <;> omega
      have MS : Hid (∀ j, j < d + 1 → mono c d j = if j = d then c else 0) := fun j _ => by
        unfold mono
        by_cases e : d = j
        · rw [if_pos e, if_pos e.symm]
        · rw [if_neg e, if_neg fun q => e q.symm]
      clear NR NQ QO EE BI DT mo mx hc rc vt
      generalize (fun j => (Q j + mono c d j) % p) = Q2 at *
      generalize (fun j => (R j - cv (mono c d) B j % p) % p) = R2 at *
      generalize (fun j => cv (mono c d) B j % p) = M2 at *
      subst hd
      go_wp2_with (at_make; refine wp_make _ rfl _ _ rfl _ _ (d + 1) rfl rfl (by omega) (by omega) (by omega) ?_; intro w7 R7 B7 Z7; have HR7 := hid R7; have HB7 := hid B7; have HZ7 := hid Z7; have ct7 : w7.cell? ⟨rb, roff + (d + mB), none⟩ = some (.int .u64 (R (d + mB))) := (by rw [B7.cell (p := ⟨rb, roff + (d + mB), none⟩) rbl]; exact ct); clear R7 B7 Z7)
      refine (MU.out _).mono ?_
      rintro e w8 ⟨rfl, q8, rfl⟩
      have HR8 := hid (HR7.out.drew q8)
      have HB8 := hid (below_drewN HB7.out q8)
      have c8 := HR8.out.cell (i := d) (by omega)
      have fz := HR8.out.frozen d
      clear HR7 HB7 ct7 ct MU
      go_wp2_with fail
      have ON := hid ((HR8.out.set d c MS.out).wl (fun j _ => MV.out j) (by omega))
      have B9 := hid (below_set HB8.out (Nat.le_refl _) d (.int .u64 c))
      have WQ9 := hid (WQ.out.below B9.out)
      have WR9 := hid (WR.out.below B9.out)
      have WB9 := hid ((HW5.out.below BW.out).below B9.out)
      have BW9 := hid (BW.out.trans (B9.out.mono BW.out.size))
      clear HR8 HB8 c8 fz B9 WQ WR HW5 BW HZ7 MS MV
      generalize (w7.drewN q8).setCell ⟨wr.heap.size, d, none⟩ (.int .u64 c) = w9 at *
      generalize wr.heap.size = g at *
      refine (ADD.out w9 _ _ WQ9.out ON.out).mono ?_
      rintro e w10 ⟨⟨qv, rfl, PQ⟩, B10⟩
      have PQ10 := hid PQ
      obtain ⟨kq2, NQ2, WQ2⟩ := PQ
      obtain ⟨qo2, qcap2, rfl, -⟩ := WQ2
      have ON10 := hid (ON.out.below B10)
      have WR10 := hid (WR9.out.below B10)
      have WB10 := hid (WB9.out.below B10)
      have BW10 := hid (BW9.out.trans (B10.mono BW9.out.size))
      clear ADD WQ9 ON WR9 WB9 BW9 B10 NQ2
      go_wp2_with fail
      refine (MUL.out w10 _ _ WB10.out ON10.out).mono ?_
      rintro e w11 ⟨⟨mv, rfl, PM⟩, B11⟩
      have WR11 := hid (WR10.out.below B11)
      have PQ11 := hid (PQ10.out.below B11)
      have BW11 := hid (BW10.out.trans (B11.mono BW10.out.size))
      have SU := hid (SUB.out w11 _ mv WR11.out PM)
      obtain ⟨km, NM, WM⟩ := PM
      obtain ⟨mo, mcap, rfl, -⟩ := WM
      clear MUL SUB WR10 WB10 PQ10 BW10 ON10 B11 NM
      go_wp2_with fail
      refine SU.out.mono ?_
      rintro e w12 ⟨⟨rv, rfl, PR⟩, B12⟩
      have PQ12 := hid (PQ11.out.below B12)
      have BW12 := hid (BW11.out.trans (B12.mono BW11.out.size))
      obtain ⟨kr, NR2, WR2⟩ := PR
      have HWR2 := hid WR2
      have HNR2 := hid NR2
      obtain ⟨ro2, rcap2, rfl, -⟩ := WR2
      have kr2 : kr ≤ d + mB := NR2.le RO2.out
      obtain ⟨kq3, NQ3, WQ3⟩ := PQ12.out
      obtain rfl : kq3 = kq2 := by
        obtain ⟨x, y, e, -⟩ := WQ3
        injection e with _ e2 _
        exact e2.symm
      have HWQ3 := hid WQ3
      have HNQ3 := hid NQ3
      clear SU PQ11 BW11 B12 NR2 RO2 WR11 PQ12 NQ3 WQ3 
      go_wp2
      exact ⟨⟨_, _, _, _, _, _, Q2, R2, rfl, rfl, by omega, HNR2, HWR2, HNQ3, HWQ3, QO2, EE2, BW12⟩, by first | omega | (show kr < d + mB + 1; omega)⟩
end Go.Proofs.YtjgipjiopagkiaaDoor
namespace Go.Proofs.YtjgipjiopagkiaaDoor
open Go.RowKit Num Nmb

set_option maxHeartbeats 1600000 in
theorem rderive9 (u : Value) (n : Nat) (a : Nat → Int) (p : Nat) (w : World) (U : Wl w u n a) (hn : n ≤ 100000) (h2 : 2 ≤ p) (h63 : p ≤ 9223372036854775807) :
    Calls Tryd.prog 17 #[u, .int .u64 p] w fun e w' => (∃ v, e = .returned v ∧ PV w' v p (fun j => drv (ax a n) j % p)) ∧ Below w.heap.size w w' := by
  have UU := hid U
  obtain ⟨uo, ucap, rfl, -⟩ := U
  obtain ⟨X, hX⟩ : ∃ X : Nat → Int, X = fun j => drv (ax a n) j % p := ⟨_, rfl⟩
  have XI : Hid (∀ j, j + 1 < n → X j = a (j + 1) * ((j : Int) + 1) % p) := fun j hj => by rw [hX]; show ax a n (j + 1) * ((j + 1 : Nat) : Int) % p = _; rw [ax_in a hj]; rfl
  have XB : Hid (∀ j, 0 ≤ X j ∧ X j < p) := fun j => by rw [hX]; exact ⟨Int.emod_nonneg _ (by omega), Int.emod_lt_of_pos _ (by omega)⟩
  have XO : Hid (∀ j, n ≤ j + 1 → X j = 0) := fun j h1 => by rw [hX]; show ax a n (j + 1) * ((j + 1 : Nat) : Int) % p = 0; rw [ax_out a h1, Int.zero_mul]; exact Int.zero_emod _
  rw [← hX]
  clear hX
  go_enter Tryd.func17, Tryd.ntmps17
  go_wp2
  go_loopw [6, 5] (fun iv ov wr => ∃ (i : Nat), iv = .int .i64 ((i : Int) + 1) ∧ (i + 1 ≤ n ∨ i = 0) ∧ Hid (Ow wr w.heap.size ov i X) ∧ Hid (Below w.heap.size w wr) ∧ w.heap.size ≤ wr.heap.size) (fun iv _ _ => ((n : Int) - intOf iv).toNat)
  case atStart => exact ⟨0, rfl, Or.inr rfl, Ow.none _ _ _, Below.refl _ _, Nat.le_refl _⟩
  case round =>
    obtain ⟨i, rfl, hi, OW, BW, hsz⟩ := hrel
    obtain ⟨oo, oc, rfl⟩ := OW.out.slice
    by_cases hin : n ≤ i + 1
    · have h1 : ¬ (i : Int) + 1 < (n : Int) := by omega
      have NO := hid (rnorm9 _ i X p wr OW.out.wl (by omega) h2 h63)
      clear OW UU XI
      go_wp2_with fail
      refine NO.out.mono ?_
      rintro e w3 ⟨⟨v, rfl, P⟩, B3⟩
      have PP := hid (P.norm XB.out (fun j hj => XO.out j (by omega)))
      have BB := hid (BW.out.trans (B3.mono BW.out.size))
      clear NO P B3 XB XO
      go_wp2
      go_ret
      exact ⟨⟨_, rfl, PP.out⟩, BB.out⟩
    · have h1 : (i : Int) + 1 < (n : Int) := by omega
      obtain ⟨b, off, rfl, hbl, hc⟩ := UU.out.spot0 (by omega)
      have ci : wr.cell? ⟨b, off + (i + 1), none⟩ = some (.int .u64 (a (i + 1))) := by rw [BW.out.cell (p := ⟨b, off + (i + 1), none⟩) hbl]; exact hc (i + 1) (by omega)
      have va := UU.out.val (j := i + 1) (by omega)
      have MU := hid (rmul_any (a (i + 1)) ((i : Int) + 1) p wr va.1 (by omega) (by omega) (by omega))
      have xi := XI.out i (by omega)
      rw [← xi] at MU
      have xb := XB.out i
      obtain ⟨xv, hxv⟩ : ∃ xv, X i = xv := ⟨_, rfl⟩
      have HXI := hid hxv
      have wi : IntKind.u64.wrap ((i : Int) + 1) = (i : Int) + 1 := by rw [IntKind.wrap_u64]; omega
      have ti : ((i : Int) + 1).toNat = i + 1 := by omega
      rw [hxv] at MU xb
      clear UU XI XB XO xi hxv hc
      generalize a (i + 1) = ai at *
      go_wp2_with fail
      refine MU.out.mono ?_
      rintro e w3 ⟨rfl, q, rfl⟩
      have OW2 := hid (OW.out.drew q)
      have BW2 := hid (below_drewN BW.out q)
      have hs2 : w.heap.size ≤ (wr.drewN q).heap.size := by simpa using hsz
      clear MU OW BW ci
      generalize wr.drewN q = w4 at *
      go_wp2_with (at_builtin; refine wp_push rfl _ _ rfl rfl rfl OW2.out HXI.out (by omega) hs2 (by omega) ?_; intro ao3 cap3 w5 O3 B3 s3; have HO := hid O3; have HB := hid (BW2.out.trans B3); clear O3 B3)
      exact ⟨⟨i + 1, rfl, by omega, HO, HB, s3⟩, by simp only [intOf]; omega⟩
/-- the inverse of the coefficient at the end. -/
theorem inv_end {p k : Nat} (hp : Pri p) {A : Nat → Int} (h : NP p (k + 1) A) {t : Nat} (ht : A k = t) : Cg p (((t ^ (p - 2) % p : Nat) : Int) * A k) 1 := by
  have h2 := hp.1
  have nz : t % p ≠ 0 := fun h0 => by
    have h1 := h.tp.2
    rw [ht] at h1
    exact h1 ((Cg.nat (b := 0)).2 (by rw [h0, Nat.zero_mod]))
  have h3 := ivp_said hp nz
  unfold ivp at h3
  rw [ht]
  unfold Cg
  rw [Int.mul_comm, ← Int.natCast_mul, ← Int.natCast_emod, h3, show ((1 : Nat) : Int) = 1 from rfl, Int.emod_eq_of_lt (by omega) (by omega)]
/-- A, divided by its highest coefficient (by c). -/
def MonicIs (p k : Nat) (A G : Nat → Int) : Prop := ∃ c d : Int, Cg p (c * d) 1 ∧ (∀ j, Cg p (G j) (c * A j)) ∧ NP p k G ∧ (k = 0 ∨ G (k - 1) = 1)
set_option maxHeartbeats 1600000 in
theorem rmonic9 (u : Value) (n k : Nat) (a : Nat → Int) (p : Nat) (w : World) (hp : Pri p) (U : Wl w u n a) (hn : n ≤ 100000) (h63 : p ≤ 9223372036854775807) (hA : NP p k (fun j => ax a n j % p)) :
    Calls Tryd.prog 19 #[u, .int .u64 p] w fun e w' => (∃ v G, e = .returned v ∧ Wl w' v k G ∧ MonicIs p k (ax a n) G) ∧ Below w.heap.size w w' := by
  have h2 := hp.1
  have kn : k ≤ n := hA.le fun j hj => by show ax a n j % p = 0; rw [ax_out a hj, Int.zero_emod]
  have NO := hid (rnorm9 u n a p w U (by omega) h2 h63)
  have CA : Hid (Ct p (fun j => ax a n j % p) (ax a n)) := mod_ct _
  obtain ⟨uo, ucap, rfl, -⟩ := U
  have HA := hid hA
  have HP := hid hp
  clear hA hp
  generalize (fun j => ax a n j % p) = A at *
  generalize ax a n = A0 at *
  go_enter Tryd.func19, Tryd.ntmps19
  go_wp2_with fail
  refine NO.out.mono ?_
  rintro e w3 ⟨⟨v, rfl, k', NV, WV⟩, B3⟩
  obtain ⟨-, rfl⟩ := HA.out.eq NV (Ct.refl p A)
  have HWV := hid WV
  have HB := hid B3
  obtain ⟨vo, vcap, rfl, -⟩ := WV
  clear NO NV B3
  cases k with
  | zero =>
    have M : Hid (MonicIs p 0 A0 A) := ⟨1, 1, Cg.rfl, fun j => (CA.out j).trans (Cg.of_eq (Int.one_mul _).symm), HA.out, Or.inl rfl⟩
    have WN := hid (Wl.nil w3 A)
    clear HWV CA HA HP
    go_wp2
    go_ret
    exact ⟨⟨_, A, rfl, WN.out, M.out⟩, HB.out⟩
  | succ k =>
    obtain ⟨vb, voff, rfl, vbl, vc⟩ := HWV.out.spot0 (by omega)
    have ck := vc k (by omega)
    have vk := HWV.out.val (j := k) (by omega)
    obtain ⟨t, ht⟩ : ∃ t : Nat, A k = t := ⟨(A k).toNat, by omega⟩
    have HI := hid (inv_end HP.out HA.out ht)
    rw [ht] at ck
    have IV := hid (rinv9 t p w3 h2 h63)
    obtain ⟨iv, hiv⟩ : ∃ iv, t ^ (p - 2) % p = iv := ⟨_, rfl⟩
    rw [hiv] at IV HI
    have k1 : ((k + 1 : Nat) : Int) - 1 = (k : Int) := by omega
    have k0 : (((k + 1 : Nat) : Int) == 0) = false := beq_eq_false_iff_ne.2 (by omega)
    have SC : Hid (∀ W, Wl W (.slice (some ⟨vb, voff, none⟩) (k + 1) vcap) (k + 1) A → Calls Tryd.prog 33 #[.slice (some ⟨vb, voff, none⟩) (k + 1) vcap, .int .u64 iv, .int .u64 p] W fun e w' => (∃ v G, e = .returned v ∧ Wl w' v (k + 1) G ∧ MonicIs p (k + 1) A0 G) ∧ Below W.heap.size W w') := fun W hW => by
      refine (rscale9 _ (k + 1) A iv p W hW (by omega) (by omega) h2 h63).mono ?_
      rintro e w' ⟨⟨v, rfl, l, NL, WL⟩, B⟩
      rw [HA.out.ax] at NL WL
      have g1 : A k * (iv : Int) % p = 1 := by
        have h3 : Cg p (A k * (iv : Int) % p) 1 := Cg.mod.trans ((Cg.of_eq (Int.mul_comm _ _)).trans HI.out)
        exact h3.small ⟨Int.emod_nonneg _ (by omega), Int.emod_lt_of_pos _ (by omega)⟩ ⟨by omega, by omega⟩
      have ll : l ≤ k + 1 := NL.le fun j hj => by show A j * (iv : Int) % p = 0; rw [HA.out.out j hj, Int.zero_mul, Int.zero_emod]
      have lk : ¬ l ≤ k := fun h => by
        have h3 := NL.out k h
        have h4 : A k * (iv : Int) % p = 0 := h3
        omega
      obtain rfl : l = k + 1 := by omega
      refine ⟨⟨v, _, rfl, WL, (iv : Int), A k, HI.out, fun j => ?_, NL, Or.inr g1⟩, B⟩
      exact Cg.mod.trans ((Cg.of_eq (Int.mul_comm _ _)).trans (Cg.rfl.mul (CA.out j)))
    clear HI vc vk ht hiv CA HA HP
    go_wp2_with fail
    refine IV.out.mono ?_
    rintro e w4 ⟨rfl, q, rfl⟩
    have S2 := hid (SC.out _ (HWV.out.drew q))
    have HB2 := hid (below_drewN HB.out q)
    clear SC IV HWV HB ck
    go_wp2_with fail
    refine S2.out.mono ?_
    rintro e w5 ⟨⟨v, G, rfl, WG, MG⟩, B5⟩
    have R := hid (And.intro WG MG)
    have BB := hid (HB2.out.trans (B5.mono HB2.out.size))
    clear S2 HB2 WG MG B5
    go_wp2
    go_ret
    exact ⟨⟨_, G, rfl, R.out.1, R.out.2⟩, BB.out⟩
theorem NP.mod {p k : Nat} {A : Nat → Int} (h : NP p k A) : (fun j => A j % (p : Int)) = A := funext fun j => Int.emod_eq_of_lt (h.bd j).1 (h.bd j).2
theorem rdivP (u v : Value) (n mB : Nat) (A B : Nat → Int) (p : Nat) (w : World) (hp : Pri p) (U : Wl w u n A) (V : Wl w v (mB + 1) B) (hA : NP p n A) (hB : NP p (mB + 1) B) (hn : n ≤ 10000) (hm : mB + 1 ≤ 10000) (h63 : p ≤ 9223372036854775807) :
    Calls Tryd.prog 21 #[u, v, .int .u64 p] w fun e w' => (∃ q r Q R, e = .returned (.tuple #[q, r]) ∧ PV w' q p Q ∧ PV w' r p R ∧ (∀ j, n ≤ j → Q j = 0) ∧ (∀ j, mB ≤ j → R j = 0) ∧ Ct p A (pls (cv Q B) R)) ∧ Below w.heap.size w w' := by
  have h := rdiv9 u v n (mB + 1) mB A B p w hp U V hn hm h63 (by rw [hB.ax, NP.mod hB]; exact hB)
  rw [hA.ax, hB.ax] at h
  exact h
theorem IsG.ct {p : Nat} {G A B A' B' : Nat → Int} (h : IsG p G A B) (a : Ct p A A') (b : Ct p B B') : IsG p G A' B' := by
  obtain ⟨S, T, N, hS, hT, e⟩ := h.lin
  exact ⟨h.left.ct a, h.right.ct b, S, T, N, hS, hT, e.trans (((Ct.refl p S).cv a).pls ((Ct.refl p T).cv b))⟩
end Go.Proofs.YtjgipjiopagkiaaDoor
namespace Go.Proofs.YtjgipjiopagkiaaDoor
open Go.RowKit Num Nmb

/-- the slices that a loop carries: a polynomial in its one form. -/
def PS (w : World) (v : Value) (k p : Nat) (A : Nat → Int) : Prop := NP p k A ∧ Wl w v k A
theorem PV.ps {w : World} {v : Value} {p : Nat} {A : Nat → Int} (h : PV w v p A) : ∃ o k c, v = .slice o k c ∧ PS w (.slice o k c) k p A := by
  obtain ⟨k, h1, h2⟩ := h
  have h3 := h2
  obtain ⟨o, c, rfl, -⟩ := h2
  exact ⟨o, k, c, rfl, h1, h3⟩
theorem PS.below {w w' : World} {v : Value} {k p : Nat} {A : Nat → Int} (h : PS w v k p A) (hb : Below w.heap.size w w') : PS w' v k p A := ⟨h.1, h.2.below hb⟩
theorem PS.ln {w : World} {v : Value} {k p : Nat} {A : Nat → Int} (h : PS w v k p A) : Ln p k A := h.1.ln
end Go.Proofs.YtjgipjiopagkiaaDoor
namespace Go.Proofs.YtjgipjiopagkiaaDoor
open Go.RowKit Num Nmb

/-- a list of one word, made anew. -/
theorem wl_one (w : World) (c : Int) (h0 : 0 ≤ c) (h1 : c ≤ 18446744073709551615) : Wl (w.alloc (.cells #[.int .u64 c] 22)) (.slice (some ⟨w.heap.size, 0, none⟩) 1 1) 1 (mono c 0) := by
  refine ⟨_, 1, rfl, Nat.le_refl _, by omega, fun j hj => ?_, fun _ => ⟨w.heap.size, 0, rfl, by simp, fun j hj => ?_⟩⟩
  · obtain rfl : j = 0 := by omega
    exact ⟨h0, h1⟩
  · obtain rfl : j = 0 := by omega
    exact cell_one_new w (.int .u64 c) 22 0 _ rfl
theorem mono_ax (c : Int) : ax (mono c 0) 1 = mono c 0 := funext fun j => by
  by_cases e : j < 1
  · exact ax_in _ e
  · rw [ax_out _ (by omega)]; exact (if_neg (by omega)).symm
theorem Cm.pwr {p N M : Nat} {B X Y : Nat → Int} (h : Cm p B X Y) (hX : Ln p N X) (hY : Ln p M Y) : ∀ n, Cm p B (Nmb.pwr X n) (Nmb.pwr Y n)
  | 0 => Cm.refl B _
  | n + 1 => by
    obtain ⟨K, hK⟩ := pwr_ln hY n
    exact (Cm.pwr h hX hY n).cv h hX hK
/-- one step of the powers, by squares. -/
theorem pow_even {p N M K : Nat} {B Z Y X X' : Nat → Int} {f : Nat} (h : Cm p B Z (cv Y (pwr X (2 * f)))) (hX : Ln p N X) (hX' : Ln p M X') (hY : Ln p K Y) (e : Cm p B (cv X X) X') : Cm p B Z (cv Y (pwr X' f)) := by
  refine h.trans ?_
  rw [← pwr_sq]
  obtain ⟨L, hL⟩ := pwr_ln (hX.cv hX) f
  exact (Cm.refl B Y).cv (Cm.pwr e (hX.cv hX) hX' f) hL hY
theorem pow_odd {p N M K L : Nat} {B Z Y Y' X X' : Nat → Int} {f : Nat} (h : Cm p B Z (cv Y (pwr X (2 * f + 1)))) (hX : Ln p N X) (hX' : Ln p M X') (_hY : Ln p K Y) (hY' : Ln p L Y') (e : Cm p B (cv X X) X') (g : Cm p B (cv Y X) Y') : Cm p B Z (cv Y' (pwr X' f)) := by
  refine h.trans ?_
  have e1 : cv Y (pwr X (2 * f + 1)) = cv (cv Y X) (pwr (cv X X) f) := by
    rw [pwr_sq]
    show cv Y (cv (pwr X (2 * f)) X) = _
    rw [cvC (pwr X (2 * f)) X, ← cvA]
  rw [e1]
  obtain ⟨L2, hL⟩ := pwr_ln (hX.cv hX) f
  exact g.cv (Cm.pwr e (hX.cv hX) hX' f) hL hY'
end Go.Proofs.YtjgipjiopagkiaaDoor
namespace Go.Proofs.YtjgipjiopagkiaaDoor
open Go.RowKit Num Nmb

theorem PS.drew {w : World} {v : Value} {k p : Nat} {A : Nat → Int} (h : PS w v k p A) (q : Nat) : PS (w.drewN q) v k p A := ⟨h.1, h.2.drew q⟩
theorem rmulP (t s : Value) (k l : Nat) (x y : Nat → Int) (p : Nat) (W : World) (hx : PS W t k p x) (hy : PS W s l p y) (hk : k ≤ 10000) (hl : l ≤ 10000) (h2 : 2 ≤ p) (h63 : p ≤ 9223372036854775807) :
    Calls Tryd.prog 40 #[t, s, .int .u64 p] W fun e w' => (∃ ro k' rcap, e = .returned (.slice ro k' rcap) ∧ k' ≤ k + l ∧ PS w' (.slice ro k' rcap) k' p (fun j => cv x y j % p)) ∧ Below W.heap.size W w' := by
  refine (rmul9 t s k l x y p W hx.2 hy.2 (by omega) (by omega) h2 h63).mono ?_
  rintro e w' ⟨⟨r, rfl, PR⟩, B⟩
  rw [hx.1.ax, hy.1.ax] at PR
  obtain ⟨ro, kr, rcap, rfl, NR, WR⟩ := PR.ps
  refine ⟨⟨ro, kr, rcap, rfl, ?_, NR, WR⟩, B⟩
  exact NR.le fun j hj => by
    have h3 := (hx.ln.cv hy.ln) j (by omega)
    unfold Cg at h3
    rw [Int.zero_emod] at h3
    exact h3
theorem rsubP (t s : Value) (k l : Nat) (x y : Nat → Int) (p : Nat) (W : World) (hx : PS W t k p x) (hy : PS W s l p y) (hk : k ≤ 100000) (hl : l ≤ 100000) (h2 : 2 ≤ p) (h63 : p ≤ 9223372036854775807) :
    Calls Tryd.prog 15 #[t, s, .int .u64 p] W fun e w' => (∃ ro k' rcap, e = .returned (.slice ro k' rcap) ∧ k' ≤ k + l ∧ PS w' (.slice ro k' rcap) k' p (fun j => (x j - y j) % p)) ∧ Below W.heap.size W w' := by
  refine (rsub9 t s k l x y p W hx.2 hy.2 hk hl h2 h63).mono ?_
  rintro e w' ⟨⟨r, rfl, PR⟩, B⟩
  rw [hx.1.ax, hy.1.ax] at PR
  obtain ⟨ro, kr, rcap, rfl, NR, WR⟩ := PR.ps
  refine ⟨⟨ro, kr, rcap, rfl, ?_, NR, WR⟩, B⟩
  exact NR.le fun j hj => by
    show (x j - y j) % p = 0
    rw [hx.1.out j (by omega), hy.1.out j (by omega)]
    exact Int.zero_emod _
theorem rdivS (u v : Value) (n mB : Nat) (A B : Nat → Int) (p : Nat) (w : World) (hp : Pri p) (U : PS w u n p A) (V : PS w v (mB + 1) p B) (hn : n ≤ 10000) (hm : mB + 1 ≤ 10000) (h63 : p ≤ 9223372036854775807) :
    Calls Tryd.prog 21 #[u, v, .int .u64 p] w fun e w' => (∃ qo kq qc ro kr rc Q R, e = .returned (.tuple #[.slice qo kq qc, .slice ro kr rc]) ∧ PS w' (.slice qo kq qc) kq p Q ∧ PS w' (.slice ro kr rc) kr p R ∧ kq ≤ n ∧ kr ≤ mB ∧ Ct p A (pls (cv Q B) R)) ∧ Below w.heap.size w w' := by
  refine (rdivP u v n mB A B p w hp U.2 V.2 U.1 V.1 hn hm h63).mono ?_
  rintro e w' ⟨⟨q, r, Q, R, rfl, PQ, PR, QO, RO, E⟩, B⟩
  obtain ⟨qo, kq, qc, rfl, SQ⟩ := PQ.ps
  obtain ⟨ro, kr, rc, rfl, SR⟩ := PR.ps
  exact ⟨⟨qo, kq, qc, ro, kr, rc, Q, R, rfl, SQ, SR, SQ.1.le QO, SR.1.le RO, E⟩, B⟩
theorem ExtIs.ct {p n : Nat} {A B A' B' G S T : Nat → Int} (h : ExtIs p n A B G S T) (a : Ct p A A') (b : Ct p B B') : ExtIs p n A' B' G S T := by
  obtain ⟨v, V, tV, eV, lS⟩ := h.low
  exact ⟨IsG.ct h.g a b, h.top, h.one, h.lin.trans (((Ct.refl p S).cv a).pls ((Ct.refl p T).cv b)), ⟨v, V, tV, b.symm.trans eV, lS⟩, h.len⟩
theorem rscaleP (t : Value) (k : Nat) (x : Nat → Int) (i : Int) (p : Nat) (W : World) (hx : PS W t k p x) (hk : k ≤ 100000) (hi : 0 ≤ i) (h2 : 2 ≤ p) (h63 : p ≤ 9223372036854775807) :
    Calls Tryd.prog 33 #[t, .int .u64 i, .int .u64 p] W fun e w' => (∃ ro k' rcap, e = .returned (.slice ro k' rcap) ∧ k' ≤ k ∧ PS w' (.slice ro k' rcap) k' p (fun j => x j * i % p)) ∧ Below W.heap.size W w' := by
  refine (rscale9 t k x i p W hx.2 hk hi h2 h63).mono ?_
  rintro e w' ⟨⟨r, rfl, PR⟩, B⟩
  rw [hx.1.ax] at PR
  obtain ⟨ro, kr, rcap, rfl, NR, WR⟩ := PR.ps
  refine ⟨⟨ro, kr, rcap, rfl, ?_, NR, WR⟩, B⟩
  exact NR.le fun j hj => by
    show x j * i % p = 0
    rw [hx.1.out j hj, Int.zero_mul]
    exact Int.zero_emod _
theorem isg_monic {p k : Nat} {X Y G : Nat → Int} (h : MonicIs p k X G) (hY : ∀ j, Cg p (Y j) 0) : IsG p G X Y := by
  obtain ⟨c, d, hcd, hG, -, -⟩ := h
  have h := (IsG.base (A := X) hY).scale hcd
  refine ⟨?_, ?_, ?_⟩
  · obtain ⟨S, N, hS, e⟩ := h.left
    exact ⟨S, N, hS, e.trans ((Ct.refl p S).cv fun j => (hG j).symm)⟩
  · obtain ⟨S, N, hS, e⟩ := h.right
    exact ⟨S, N, hS, e.trans ((Ct.refl p S).cv fun j => (hG j).symm)⟩
  · obtain ⟨S, T, N, hS, hT, e⟩ := h.lin
    exact ⟨S, T, N, hS, hT, (show Ct p G (fun j => c * X j) from hG).trans e⟩
/-- the factor of what is divided by its highest coefficient. -/
theorem cm_scale {p t : Nat} (hp : Pri p) {A B R S S1 G : Nat → Int} {i : Int} (hR : NP p (t + 1) R) (h : MonicIs p (t + 1) R G) (hi : Cg p (i * R t) 1) (h1 : ∀ j, Cg p (S1 j) (S j * i)) (c : Cm p B (cv S A) R) : Cm p B (cv S1 A) G := by
  obtain ⟨f, d, hcd, hG, -, g1⟩ := h
  have g2 : G t = 1 := by
    rcases g1 with h | h
    · omega
    · exact h
  have fi : Cg p f i := hp.cancel (c := R t) hR.tp.2 (((hG t).symm.trans (Cg.of_eq g2)).trans hi.symm)
  obtain ⟨U, N, hU, e⟩ := c
  refine ⟨fun j => i * U j, N, fun j hj => (hU j hj).zmul, fun j => ?_⟩
  have z1 : Cg p (cv S1 A j) (i * cv S A j) := by
    have := ((show Ct p S1 (fun j => i * S j) from fun j => (h1 j).trans (Cg.of_eq (Int.mul_comm _ _))).cv (Ct.refl p A)) j
    rw [mul_cv] at this
    exact this
  have z2 : Cg p (cv S A j) (cv U B j + R j) := e j
  show Cg p (cv S1 A j) (cv (fun j => i * U j) B j + G j)
  rw [mul_cv]
  refine z1.trans (((Cg.rfl (a := i)).mul z2).trans ?_)
  rw [Int.mul_add]
  exact (Cg.rfl).add ((fi.symm.mul Cg.rfl).trans (hG j).symm)
/-- a list's length. -/
def slLen : Value → Nat
  | .slice _ k _ => k
  | _ => 0
/-- how long the factors of Ext become. -/
theorem z_len {p m l ks ky kq kr kz : Nat} {S Y Q : Nat → Int} (hS : NP p ks S) (hY : NP p ky Y) (hQ : NP p kq Q) (hz : NP p kz (fun j => (S j - cv Q Y j % p) % p)) (h1 : ks + (l + 1) ≤ m) (h2 : ky = 0 ∨ ky + kr ≤ m) (h3 : kq = 0 ∨ kq + l ≤ kr) : kz + (l + 1) ≤ m := by
  have : kz ≤ m - (l + 1) := hz.le fun j hj => by
    have c0 : cv Q Y j % p = 0 := by
      have : Cg p (cv Q Y j) 0 := by
        by_cases q0 : kq = 0
        · subst q0
          rw [hQ.nil, cv_comm, cv_zero]
          exact Cg.rfl
        · by_cases y0 : ky = 0
          · subst y0
            rw [hY.nil, cv_zero]
            exact Cg.rfl
          · exact (hQ.ln.cv hY.ln) j (by omega)
      unfold Cg at this
      rw [Int.zero_emod] at this
      exact this
    show (S j - cv Q Y j % p) % p = 0
    rw [hS.out j (by omega), c0]
    exact Int.zero_emod _
  omega
end Go.Proofs.YtjgipjiopagkiaaDoor
namespace Go.Proofs.YtjgipjiopagkiaaDoor
open Go.RowKit Num Nmb

/-- what is known of the values of the region that answers where b is 0. -/
def RpE (va : Value) (k p rt iv : Nat) (ad : Addr) (A : Nat → Int) : Nat → Value → World → Prop
  | 0, v, _ => v = va
  | 1, v, _ => v = .int .u64 p
  | 2, v, W => ∃ o c G, v = .slice o (k + 1 : Nat) c ∧ Wl W (.slice o (k + 1 : Nat) c) (k + 1) G ∧ MonicIs p (k + 1) A G
  | 3, v, _ => v = va
  | 4, v, _ => v = va
  | 5, v, _ => v = .int .i64 (k + 1 : Nat)
  | 6, v, _ => v = .int .i64 k
  | 7, v, _ => v = .pointer (some ad)
  | 8, v, _ => v = .int .u64 rt
  | 9, v, _ => v = .int .u64 p
  | 10, v, _ => v = .int .u64 iv
  | 11, v, W => ∃ g, v = .slice (some ⟨g, 0, none⟩) 1 1 ∧ Wl W (.slice (some ⟨g, 0, none⟩) 1 1) 1 (mono iv 0)
  | 12, v, W => ∃ o c G, v = .slice o (k + 1 : Nat) c ∧ Wl W (.slice o (k + 1 : Nat) c) (k + 1) G ∧ MonicIs p (k + 1) A G
  | 13, v, W => ∃ g, v = .slice (some ⟨g, 0, none⟩) 1 1 ∧ Wl W (.slice (some ⟨g, 0, none⟩) 1 1) 1 (mono iv 0)
  | _ + 14, v, _ => v = .slice none 0 0
theorem RpE.mono {va : Value} {k p rt iv : Nat} {ad : Addr} {A : Nat → Int} {v : Value} {w w' : World} (hb : Below w.heap.size w w') : ∀ j, RpE va k p rt iv ad A j v w → RpE va k p rt iv ad A j v w'
  | 0, h => h
  | 1, h => h
  | 2, ⟨o, c, G, e, r, m⟩ => ⟨o, c, G, e, r.below hb, m⟩
  | 3, h => h
  | 4, h => h
  | 5, h => h
  | 6, h => h
  | 7, h => h
  | 8, h => h
  | 9, h => h
  | 10, h => h
  | 11, ⟨g, e, r⟩ => ⟨g, e, r.below hb⟩
  | 12, ⟨o, c, G, e, r, m⟩ => ⟨o, c, G, e, r.below hb, m⟩
  | 13, ⟨g, e, r⟩ => ⟨g, e, r.below hb⟩
  | _ + 14, h => h
end Go.Proofs.YtjgipjiopagkiaaDoor
namespace Go.Proofs.YtjgipjiopagkiaaDoor
open Go.RowKit Num Nmb

/-- upoly's contracts: 'Fd w g p': block g is the field modulo p; 'Ly w': the packages' variables lie. -/
structure UpC (Fd : World → Nat → Nat → Prop) (Ly : World → Prop) : Prop where
  fbel : ∀ w w' g p, Fd w g p → Below w.heap.size w w' → Fd w' g p
  lbel : ∀ w w', Ly w → Below w.heap.size w w' → Ly w'
  yes : ∀ p w, Ly w → Asked p → Calls Tryd.prog 22 #[.int .u64 p] w fun e w' => (∃ g, e = .returned (.tuple #[.pointer (some ⟨g, 0, none⟩), .int .i64 0]) ∧ Fd w' g p) ∧ Below w.heap.size w w'
  no : ∀ p : Nat, ∀ w, Ly w → p ≤ 18446744073709551615 → ¬ Asked p → p ≤ 100000 ∨ 9223372036854775808 ≤ p → Calls Tryd.prog 22 #[.int .u64 p] w fun e w' => e = .returned (.tuple #[.pointer none, .int .i64 14]) ∧ Below w.heap.size w w'
  any : ∀ p : Nat, ∀ w, Ly w → p ≤ 18446744073709551615 → ¬ Asked p → Calls Tryd.prog 22 #[.int .u64 p] w fun e w' => (∃ v x, e = .returned (.tuple #[.pointer v, .int .i64 x])) ∧ Below w.heap.size w w'
  fp : ∀ w g p, Fd w g p → Calls Tryd.prog 24 #[.pointer (some ⟨g, 0, none⟩)] w fun e w' => e = .returned (.int .u64 p) ∧ w' = w
  div0 : ∀ w g p u v n m a b, Fd w g p → Pri p → Wl w u n a → Wl w v m b → n ≤ 1000 → m ≤ 1000 → NP p 0 (fun j => ax b m j % p) → Calls Tryd.prog 20 #[.pointer (some ⟨g, 0, none⟩), u, v] w fun e w' => (∃ qo qc ro rc, e = .returned (.tuple #[.slice qo 0 qc, .slice ro 0 rc, .int .i64 10])) ∧ Below w.heap.size w w'
  div : ∀ w g p u v n m mB a b, Fd w g p → Pri p → Wl w u n a → Wl w v m b → n ≤ 1000 → m ≤ 1000 → NP p (mB + 1) (fun j => ax b m j % p) → Calls Tryd.prog 20 #[.pointer (some ⟨g, 0, none⟩), u, v] w fun e w' => (∃ q r, e = .returned (.tuple #[q, r, .int .i64 0]) ∧ ∃ Q R, PV w' q p Q ∧ PV w' r p R ∧ (∀ j, mB ≤ j → R j = 0) ∧ Ct p (ax a n) (pls (cv Q (ax b m)) R)) ∧ Below w.heap.size w w'
  awk : ∀ w, Ly w → Calls Tryd.prog 7 #[] w fun e w' => e = .returned (.bool true) ∧ Below w.heap.size w w'
variable {Fd : World → Nat → Nat → Prop} {Ly : World → Prop}
set_option maxHeartbeats 1600000 in
theorem field9_yes (C : UpC Fd Ly) (p : Nat) (w : World) (hL : Ly w) (hp : Asked p) :
    Calls Tryd.prog 5 #[.int .u64 p] w fun e w' => (∃ g, e = .returned (.tuple #[.pointer (some ⟨g, 0, none⟩), .bool true]) ∧ Fd w' g p) ∧ Below w.heap.size w w' := by
  have NW := hid (C.yes p w hL hp)
  have PR : Hid (∀ W, Calls Tryd.prog 23 #[.int .u64 p] W fun e w' => e = .returned (.bool true) ∧ ∃ k, w' = W.drewN k) := fun W => by
    have := prime9 p W (by have := hp.le; omega)
    rw [askB_true hp] at this
    exact this
  have FP : Hid (∀ W g, Fd W g p → Calls Tryd.prog 24 #[.pointer (some ⟨g, 0, none⟩)] W fun e w' => e = .returned (.int .u64 p) ∧ w' = W) := fun W g h => C.fp W g p h
  have FB : Hid (∀ W g k, Fd W g p → Fd (W.drewN k) g p) := fun W g k h => C.fbel _ _ _ _ h (below_drewN (Below.refl _ _) k)
  clear hL hp C
  go_enter Tryd.func5, Tryd.ntmps5
  go_wp2_with fail
  refine NW.out.mono ?_
  rintro e w3 ⟨⟨g, rfl, F3⟩, B3⟩
  have HF := hid F3
  have HB := hid B3
  clear NW F3 B3
  go_wp2_with fail
  refine (PR.out _).mono ?_
  rintro e w4 ⟨rfl, k, rfl⟩
  have F4 := hid (FB.out _ _ k HF.out)
  have B4 := hid (below_drewN HB.out k)
  have P4 := hid (FP.out _ _ F4.out)
  clear PR FP FB HF HB
  generalize w3.drewN k = w5 at *
  go_wp2_with fail
  refine P4.out.mono ?_
  rintro e w6 ⟨rfl, hw⟩
  obtain rfl := hw.symm
  clear P4
  go_wp2
  go_ret2
  exact ⟨⟨g, rfl, F4.out⟩, B4.out⟩
set_option maxHeartbeats 1600000 in
set_option maxRecDepth 100000 in
theorem field9_no (C : UpC Fd Ly) (p : Nat) (w : World) (hL : Ly w) (h64 : p ≤ 18446744073709551615) (hp : ¬ Asked p) :
    Calls Tryd.prog 5 #[.int .u64 p] w fun e w' => e = .returned (.tuple #[.pointer none, .bool true]) ∧ Below w.heap.size w w' := by
  have PR : Hid (∀ W, Calls Tryd.prog 23 #[.int .u64 p] W fun e w' => e = .returned (.bool false) ∧ ∃ k, w' = W.drewN k) := fun W => by
    have := prime9 p W h64
    rw [askB_false hp] at this
    exact this
  by_cases h : p ≤ 100000 ∨ 9223372036854775808 ≤ p
  · have NW := hid (C.no p w hL h64 hp h)
    have hh : (p : Int) ≤ 100000 ∨ ¬ (p : Int) ≤ 100000 ∧ (9223372036854775808 : Int) ≤ (p : Int) := by omega
    clear hL hp C h
    go_enter Tryd.func5, Tryd.ntmps5
    go_wp2_with fail
    refine NW.out.mono ?_
    rintro e w3 ⟨rfl, B3⟩
    have HB := hid B3
    clear NW B3
    go_wp2_with fail
    refine (PR.out _).mono ?_
    rintro e w4 ⟨rfl, k, rfl⟩
    have B4 := hid (below_drewN HB.out k)
    clear PR HB
    generalize w3.drewN k = w5 at *
    rcases hh with h1 | ⟨h1, h3⟩
    · go_wp2
      go_ret2
      exact ⟨rfl, B4.out⟩
    · go_wp2
      go_ret2
      exact ⟨rfl, B4.out⟩
  · have NW := hid (C.any p w hL h64 hp)
    have h1 : ¬ (p : Int) ≤ 100000 := by omega
    have h3 : (p : Int) < 9223372036854775808 := by omega
    have h4 : decide ((9223372036854775808 : Int) ≤ (p : Int)) = false := decide_eq_false (by omega)
    clear hL hp C h h64
    generalize (p : Int) = z at *
    go_enter Tryd.func5, Tryd.ntmps5
    go_wp2_with fail
    refine NW.out.mono ?_
    rintro e w3 ⟨⟨v, x, rfl⟩, B3⟩
    have HB := hid B3
    clear NW B3
    go_wp2_with fail
    refine (PR.out _).mono ?_
    rintro e w4 ⟨rfl, k, rfl⟩
    have B4 := hid (below_drewN HB.out k)
    clear PR HB
    generalize w3.drewN k = w5 at *
    go_wp2
    go_ret2
    exact ⟨rfl, B4.out⟩
set_option maxHeartbeats 800000 in
theorem few9 (u v : Value) (n m : Nat) (a b : Nat → Int) (w : World) (U : Wl w u n a) (V : Wl w v m b) :
    Calls Tryd.prog 6 #[u, v] w fun e w' => e = .returned (.bool (decide (n ≤ 40 ∧ m ≤ 40))) ∧ w' = w := by
  obtain ⟨uo, ucap, rfl, -⟩ := U
  obtain ⟨vo, vcap, rfl, -⟩ := V
  by_cases h1 : n ≤ 40
  · have h1' : (n : Int) ≤ 40 := by omega
    by_cases h2 : m ≤ 40
    · have h2' : (m : Int) ≤ 40 := by omega
      rw [decide_eq_true (show n ≤ 40 ∧ m ≤ 40 from ⟨h1, h2⟩)]
      go_enter Tryd.func6, Tryd.ntmps6
      go_wp2
      go_ret
      exact ⟨rfl, rfl⟩
    · have h2' : ¬ (m : Int) ≤ 40 := by omega
      rw [decide_eq_false (show ¬ (n ≤ 40 ∧ m ≤ 40) from fun h => h2 h.2)]
      go_enter Tryd.func6, Tryd.ntmps6
      go_wp2
      go_ret
      exact ⟨rfl, rfl⟩
  · have h1' : ¬ (n : Int) ≤ 40 := by omega
    rw [decide_eq_false (show ¬ (n ≤ 40 ∧ m ≤ 40) from fun h => h1 h.1)]
    go_enter Tryd.func6, Tryd.ntmps6
    go_wp2
    go_ret
    exact ⟨rfl, rfl⟩
end Go.Proofs.YtjgipjiopagkiaaDoor
namespace Go.Proofs.YtjgipjiopagkiaaDoor
open Go.RowKit Num Nmb

/-- block g is the field modulo p: a pointer to that of words. -/
def UF (w : World) (g p : Nat) : Prop := ∃ h f s, Box w g (.pointer (some ⟨h, 0, none⟩)) ∧ Fld w h p f s ∧ Ok p f s
theorem UF.lt {w : World} {g p : Nat} (h : UF w g p) : g < w.heap.size := by obtain ⟨h, f, s, h1, _⟩ := h; exact h1.lt
theorem UF.below {w w' : World} {g p : Nat} (h : UF w g p) (b : Below w.heap.size w w') : UF w' g p := by
  obtain ⟨k, f, s, h1, h2, h3⟩ := h
  exact ⟨k, f, s, h1.below b h1.lt, h2.below b h2.lt, h3⟩
theorem UF.drew {w : World} {g p : Nat} (h : UF w g p) (k : Nat) : UF (w.drewN k) g p := h.below (below_drewN (Below.refl _ _) k)
theorem UF.two {w : World} {g p : Nat} (h : UF w g p) : 2 ≤ p ∧ p ≤ 9223372036854775807 := by
  obtain ⟨k, f, s, h1, h2, h3⟩ := h
  have := h3.h2
  have := h3.h63
  omega
theorem Lay.bel {w w' : World} (h : Lay w) (b : Below w.heap.size w w') : Lay w' := h.below b h.size
set_option maxHeartbeats 800000 in
theorem m_any (g : Nat) (m f s : Int) (w : World) (h : Fld w g m f s) : Calls Tryd.prog 44 #[.pointer (some ⟨g, 0, none⟩)] w fun e w' => e = .returned (.int .u64 m) ∧ w' = w := by
  have c := h.cell0
  clear h
  go_enter Tryd.func44, Tryd.ntmps44
  go_wp2
  go_ret
  exact ⟨rfl, rfl⟩
set_option maxHeartbeats 800000 in
theorem up_any (g p : Nat) (w : World) (F : UF w g p) : Calls Tryd.prog 24 #[.pointer (some ⟨g, 0, none⟩)] w fun e w' => e = .returned (.int .u64 p) ∧ w' = w := by
  obtain ⟨gf, f, s, h1, h2, _⟩ := F
  have c := h1.cell
  have M := hid (m_any gf p f s w h2)
  clear h1 h2
  go_enter Tryd.func24, Tryd.ntmps24
  go_wp2_with fail
  refine M.out.mono ?_
  rintro e w1 ⟨rfl, hw⟩
  obtain rfl := hw.symm
  go_wp2
  go_ret
  exact ⟨rfl, by first | trivial | rfl⟩
set_option maxHeartbeats 1600000 in
theorem unew_yes (p : Nat) (w : World) (hb : isB p = true) (h2 : 2 ≤ p) (h63 : p < 9223372036854775808) (L : Lay w) :
    Calls Tryd.prog 22 #[.int .u64 p] w fun e w' => (∃ g, e = .returned (.tuple #[.pointer (some ⟨g, 0, none⟩), .int .i64 0]) ∧ UF w' g p) ∧ Below w.heap.size w w' := by
  have IS := hid (is_any p w (by omega) L)
  rw [hb] at IS
  have NW : Hid (∀ w : World, Calls Tryd.prog 42 #[.int .u64 p] w fun e w' => e = .returned (.tuple #[.pointer (some ⟨w.heap.size, 0, none⟩), .int .i64 0]) ∧ Below w.heap.size w w' ∧ ∃ f s, Fld w' w.heap.size p f s ∧ Ok p f s) := fun w => new_any p w (by omega) (by omega)
  have h4 : decide ((9223372036854775808 : Int) ≤ (p : Int)) = false := decide_eq_false (by omega)
  clear L h2 h63 hb
  have UFI : Hid (∀ W g gf f s, Box W g (.pointer (some ⟨gf, 0, none⟩)) → Fld W gf p f s → Ok p f s → UF W g p) := fun W g gf f s h1 h3 h5 => ⟨gf, f, s, h1, h3, h5⟩
  generalize (p : Int) = z at *
  go_enter Tryd.func22, Tryd.ntmps22
  go_wp2_with fail
  refine IS.out.mono ?_
  rintro e w1 ⟨rfl, k, rfl⟩
  have BB := hid (below_drewN (Below.refl w.heap.size w) k)
  clear IS
  generalize w.drewN k = w2 at *
  go_wp2_with fail
  refine (NW.out _).mono ?_
  rintro e w3 ⟨rfl, B3, f, s, F, O⟩
  have BB3 := hid (BB.out.trans (B3.mono BB.out.size))
  have FF := hid F
  have OO := hid O
  clear B3 F O NW BB
  generalize w2.heap.size = gf at *
  go_wp2
  go_ret2
  have A3 : Below w3.heap.size w3 (w3.alloc (.cells #[.pointer (some ⟨gf, 0, none⟩)] 48 (0, 0))) := (Below.refl _ _).alloc (Nat.le_refl _) _
  refine ⟨⟨_, rfl, UFI.out _ _ gf f s ⟨_, heap_alloc_new w3 _⟩ (FF.out.below A3 FF.out.lt) OO.out⟩, BB3.out.alloc BB3.out.size _⟩
set_option maxHeartbeats 800000 in
theorem unew_great (p : Nat) (w : World) (h63 : 9223372036854775808 ≤ p) :
    Calls Tryd.prog 22 #[.int .u64 p] w fun e w' => e = .returned (.tuple #[.pointer none, .int .i64 14]) ∧ w' = w := by
  have h4 : decide ((9223372036854775808 : Int) ≤ (p : Int)) = true := decide_eq_true (by omega)
  have h5 : (9223372036854775808 : Int) ≤ (p : Int) := by omega
  clear h63
  generalize (p : Int) = z at *
  go_enter Tryd.func22, Tryd.ntmps22
  go_wp2
  go_ret2
  exact ⟨rfl, rfl⟩
set_option maxHeartbeats 800000 in
theorem unew_no (p : Nat) (w : World) (hb : isB p = false) (h63 : p < 9223372036854775808) (L : Lay w) :
    Calls Tryd.prog 22 #[.int .u64 p] w fun e w' => e = .returned (.tuple #[.pointer none, .int .i64 14]) ∧ Below w.heap.size w w' := by
  have IS := hid (is_any p w (by omega) L)
  rw [hb] at IS
  have h4 : decide ((9223372036854775808 : Int) ≤ (p : Int)) = false := decide_eq_false (by omega)
  clear L h63 hb
  generalize (p : Int) = z at *
  go_enter Tryd.func22, Tryd.ntmps22
  go_wp2_with fail
  refine IS.out.mono ?_
  rintro e w1 ⟨rfl, k, rfl⟩
  have BB := hid (below_drewN (Below.refl w.heap.size w) k)
  clear IS
  generalize w.drewN k = w2 at *
  go_wp2
  go_ret2
  exact ⟨rfl, BB.out⟩
theorem isB_two {p : Nat} (h : isB p = true) : 2 ≤ p := by
  apply Nat.le_of_not_lt
  intro hl
  rw [isP_low hl] at h
  cases h
theorem unewA_yes (p : Nat) (w : World) (L : Lay w) (h : Asked p) :
    Calls Tryd.prog 22 #[.int .u64 p] w fun e w' => (∃ g, e = .returned (.tuple #[.pointer (some ⟨g, 0, none⟩), .int .i64 0]) ∧ UF w' g p) ∧ Below w.heap.size w w' :=
  unew_yes p w (isB_of_pri h.1 (by have := h.le; omega)) h.1.1 (by have := h.le; omega) L
theorem unewA_no (p : Nat) (w : World) (L : Lay w) (hn : ¬ Asked p) (h : p ≤ 100000 ∨ 9223372036854775808 ≤ p) :
    Calls Tryd.prog 22 #[.int .u64 p] w fun e w' => e = .returned (.tuple #[.pointer none, .int .i64 14]) ∧ Below w.heap.size w w' := by
  by_cases hg : 9223372036854775808 ≤ p
  · refine (unew_great p w hg).mono ?_
    rintro e w' ⟨rfl, rfl⟩
    exact ⟨rfl, Below.refl _ _⟩
  · refine unew_no p w ?_ (by omega) L
    cases hb : isB p with
    | false => rfl
    | true => exact absurd ⟨pri_of_isB hb (by omega), Or.inl (by omega)⟩ hn
theorem unewA_any (p : Nat) (w : World) (L : Lay w) :
    Calls Tryd.prog 22 #[.int .u64 p] w fun e w' => (∃ v x, e = .returned (.tuple #[.pointer v, .int .i64 x])) ∧ Below w.heap.size w w' := by
  by_cases hg : 9223372036854775808 ≤ p
  · refine (unew_great p w hg).mono ?_
    rintro e w' ⟨rfl, rfl⟩
    exact ⟨⟨_, _, rfl⟩, Below.refl _ _⟩
  · cases hb : isB p with
    | false =>
      refine (unew_no p w hb (by omega) L).mono ?_
      rintro e w' ⟨rfl, B⟩
      exact ⟨⟨_, _, rfl⟩, B⟩
    | true =>
      refine (unew_yes p w hb (isB_two hb) (by omega) L).mono ?_
      rintro e w' ⟨⟨g, rfl, _⟩, B⟩
      exact ⟨⟨_, _, rfl⟩, B⟩
theorem wp_makeP {ops : Array Oper} {rest : List Oper} {o : Oper} {a : Act} {Q : Exit → Act → World → Prop} (w : World) (hg : o.guard = none) (l c : Operand) (hop : o.op = Op.makeSlice 24 l c)
    (L C : Int) (n : Nat) (hl : a.eval l = .int .i64 L) (hc : a.eval c = .int .i64 C) (hL : L = (n : Int)) (hC : C = (n : Int)) (hn : n ≤ 1000000000)
    (hK : ∀ w', Row w' w.heap.size n (fun _ => 0) → Below w.heap.size w w' → w'.heap.size = w.heap.size + 1 → wpList Tryd.prog ops Q rest (a.put o.dst (.slice (some ⟨w.heap.size, 0, none⟩) n n)) w') :
    wpList Tryd.prog ops Q (o :: rest) a w := by
  obtain ⟨i0, hi, hz0, hz1, hz2⟩ := info_parts Tryd.infoU
  refine wpList_plain hg fun K hK' => ?_
  have hr := run_make (P := Tryd.prog) w 24 22 i0 (.int .u64 0) (by kernel_rfl) hi hz0 .i64 .i64 n n (by omega) (Int.le_refl _) (by rw [hz2]; omega) (by omega)
  simp only [Int.toNat_natCast] at hr
  rw [hz1] at hr
  subst hL; subst hC
  unfold Oper.wp
  simp [execOp, hop, hl, hc, hr, Result.andThen]
  refine hK' _ _ (hK _ ?_ ?_ ?_)
  · have := Row.new w n
    rw [Nat.mul_one] at this
    exact this
  · exact (Below.refl _ _).alloc (Nat.le_refl _) _
  · simp
end Go.Proofs.YtjgipjiopagkiaaDoor
namespace Go.Proofs.YtjgipjiopagkiaaDoor
open Go.RowKit Num Nmb

set_option maxHeartbeats 1600000 in
theorem udeg_any (g p : Nat) (u : Value) (n d : Nat) (a : Nat → Int) (w : World) (F : UF w g p) (U : Wl w u n a) (hd : NP p d (fun j => ax a n j % p)) :
    Calls Tryd.prog 11 #[.pointer (some ⟨g, 0, none⟩), u] w fun e w' => e = .returned (.int .i64 ((d : Int) - 1)) ∧ ∃ k, w' = w.drewN k := by
  have UU := hid U
  obtain ⟨uo, ucap, rfl, -⟩ := U
  obtain ⟨h2, h63⟩ := F.two
  obtain ⟨gf, f, s, h1, h3, -⟩ := F
  have c := h1.cell
  have FF := hid h3
  have OF : Hid (∀ W x, (∃ q, W = w.drewN q) → 0 ≤ x → Calls Tryd.prog 26 #[.pointer (some ⟨gf, 0, none⟩), .int .u64 x] W fun e w' => e = .returned (.int .u64 (x % p)) ∧ w' = W) := fun W x ⟨q, hq⟩ hx => by rw [hq]; exact of_any gf p f s x _ (FF.out.drew q) (by omega) hx
  have dn : d ≤ n := hd.le (fun j hj => by show ax a n j % p = 0; rw [ax_out a hj, Int.zero_emod])
  have XT : Hid (∀ k, k < n → (∀ j, k + 1 ≤ j → ax a n j % p = 0) → a k % p ≠ 0 → d = k + 1) := fun k hk h5 h6 => by
    have : NP p (k + 1) (fun j => ax a n j % p) := ⟨hd.bd, h5, Or.inr (by show ax a n k % p ≠ 0; rw [ax_in a hk]; exact h6)⟩
    exact (hd.eq this (Ct.refl _ _)).2
  have XZ : Hid ((∀ j, ax a n j % p = 0) → d = 0) := fun h5 => (hd.eq (⟨hd.bd, fun j _ => h5 j, Or.inl rfl⟩ : NP p 0 (fun j => ax a n j % p)) (Ct.refl _ _)).2
  have XN : Hid (∀ j, n ≤ j → ax a n j % p = 0) := fun j hj => by rw [ax_out a hj, Int.zero_emod]
  have XI : Hid (∀ j, j < n → ax a n j = a j) := fun j hj => ax_in a hj
  have wn : IntKind.i64.wrap ((n : Int) - 1) = (n : Int) - 1 := by have := UU.out.cap; rw [IntKind.wrap_i64]; omega
  clear h1 h3 hd dn
  go_enter Tryd.func11, Tryd.ntmps11
  go_wp2
  go_loopw [5] (fun iv wr => ∃ (k : Nat), iv = .int .i64 ((k : Int) - 1) ∧ k ≤ n ∧ Hid (∀ j, k ≤ j → ax a n j % p = 0) ∧ Hid (∃ q, wr = w.drewN q)) (fun iv _ => (intOf iv + 1).toNat)
  case atStart => exact ⟨n, rfl, Nat.le_refl _, XN.out, 0, rfl⟩
  case round =>
    obtain ⟨k, rfl, hkn, XK, HQ⟩ := hrel
    cases k with
    | zero =>
      rw [show (((0 : Nat) : Int) - 1) = -1 from rfl]
      obtain rfl := XZ.out fun j => XK.out j (Nat.zero_le _)
      clear XT XZ XN XI UU OF XK
      have HQ2 : Hid (∀ q, ∃ q', wr.drewN q = w.drewN q') := fun q => by obtain ⟨q', hq⟩ := HQ.out; exact ⟨q' + q, by rw [hq, World.drewN_drewN]⟩
      go_wp2_with fail
      go_quiet (fail)
      rename_i nq
      have HQ3 := hid (HQ2.out nq)
      clear HQ2 HQ
      generalize wr.drewN nq = w3 at *
      go_wp2
      go_ret
      exact ⟨rfl, HQ3.out⟩
    | succ k =>
      have kk : ((k + 1 : Nat) : Int) - 1 = (k : Int) := by omega
      rw [kk]
      obtain ⟨b, off, rfl, hbl, hc⟩ := UU.out.spot0 (by omega)
      have ck : wr.cell? ⟨b, off + k, none⟩ = some (.int .u64 (a k)) := by obtain ⟨q, hq⟩ := HQ.out; rw [hq]; simpa using hc k (by omega)
      have cg : wr.cell? ⟨g, 0, none⟩ = some (.pointer (some ⟨gf, 0, none⟩)) := by obtain ⟨q, hq⟩ := HQ.out; rw [hq]; simpa using c
      have va := UU.out.val (j := k) (by omega)
      have HQ2 : Hid (∀ q, ∃ q', wr.drewN q = w.drewN q') := fun q => by obtain ⟨q', hq⟩ := HQ.out; exact ⟨q' + q, by rw [hq, World.drewN_drewN]⟩
      have OK := hid (fun q => OF.out (wr.drewN q) (a k) (HQ2.out q) va.1)
      have k0 : (0 : Int) ≤ (k : Int) := by omega
      have kn : (k : Int) < (n : Int) := by omega
      have wk : IntKind.i64.wrap ((k : Int) - 1) = (k : Int) - 1 := by have := UU.out.cap; rw [IntKind.wrap_i64]; omega
      by_cases x0 : a k % p = 0
      · rw [x0] at OK
        have XK2 : Hid (∀ j, k ≤ j → ax a n j % p = 0) := fun j hj => by
          by_cases e : j = k
          · rw [e, XI.out k (by omega)]; exact x0
          · exact XK.out j (by omega)
        clear XT XZ XN XI UU OF XK hc x0 va kk c
        generalize a k = ak at *
        go_wp2_with fail
        go_quiet ((go_at_call 26; exact Calls.quiet_of_same (OK.out _)))
        rename_i nq
        have HQ3 := hid (HQ2.out nq)
        clear OK HQ2 HQ ck cg
        generalize wr.drewN nq = w3 at *
        go_wp2
        exact ⟨⟨k, rfl, by omega, XK2, HQ3⟩, by simp only [intOf]; omega⟩
      · obtain rfl := XT.out k (by omega) XK.out x0
        have x0' : (a k % (p : Int) == 0) = false := beq_eq_false_iff_ne.2 x0
        clear XT XZ XN XI UU OF XK hc va x0 c
        generalize a k % (p : Int) = xk at *
        generalize a k = ak at *
        go_wp2_with fail
        go_quiet ((go_at_call 26; exact Calls.quiet_of_same (OK.out _)))
        rename_i nq
        have HQ3 := hid (HQ2.out nq)
        clear OK HQ2 HQ ck cg
        generalize wr.drewN nq = w3 at *
        go_wp2
        go_ret
        exact ⟨by rw [kk]; rfl, HQ3.out⟩
end Go.Proofs.YtjgipjiopagkiaaDoor
namespace Go.Proofs.YtjgipjiopagkiaaDoor
open Go.RowKit Num Nmb

/-- the first i of X, behind them those of Y. -/
def mx (X Y : Nat → Int) (i j : Nat) : Int := if j < i then X j else Y j
theorem mx_step (X Y : Nat → Int) (i j : Nat) : mx X Y (i + 1) j = if j = i then X i else mx X Y i j := by
  unfold mx
  by_cases e : j = i
  · rw [if_pos (by omega), if_pos e, e]
  · rw [if_neg e]
    by_cases h : j < i
    · rw [if_pos (by omega), if_pos h]
    · rw [if_neg (by omega), if_neg h]
theorem mx_zero (X Y : Nat → Int) : mx X Y 0 = Y := funext fun j => if_neg (by omega)
theorem mx_all {X Y : Nat → Int} {n j : Nat} (h : j < n) : mx X Y n j = X j := if_pos h
theorem mx_at (X Y : Nat → Int) (i : Nat) : mx X Y i i = Y i := if_neg (by omega)
theorem mx_bd {X Y : Nat → Int} {i : Nat} {P : Int → Prop} (hX : ∀ j, P (X j)) (hY : ∀ j, P (Y j)) (j : Nat) : P (mx X Y i j) := by
  unfold mx; split
  · exact hX j
  · exact hY j
theorem Row.put {w0 W : World} {r N i : Nat} {X Y : Nat → Int} {v : Int} (h : Row W r N (mx X Y i)) (B : Below r w0 W) (e : v = X i) : Row (W.setCell ⟨r, i, none⟩ (.int .u64 v)) r N (mx X Y (i + 1)) ∧ Below r w0 (W.setCell ⟨r, i, none⟩ (.int .u64 v)) :=
  ⟨h.set i v fun j _ => by rw [e]; exact mx_step X Y i j, below_set B (Nat.le_refl _) i _⟩
set_option maxHeartbeats 1600000 in
theorem unorm_any (g p : Nat) (u : Value) (n d : Nat) (a : Nat → Int) (w : World) (F : UF w g p) (U : Wl w u n a) (hn : n ≤ 1000000) (hd : NP p d (fun j => ax a n j % p)) :
    Calls Tryd.prog 10 #[.pointer (some ⟨g, 0, none⟩), u] w fun e w' => (∃ v, e = .returned v ∧ Wl w' v d (fun j => ax a n j % p)) ∧ Below w.heap.size w w' := by
  have DG := hid (udeg_any g p u n d a w F U hd)
  have UU := hid U
  have FF := hid F
  obtain ⟨uo, ucap, rfl, -⟩ := U
  obtain ⟨h2, h63⟩ := F.two
  have dn : d ≤ n := hd.le (fun j hj => by show ax a n j % p = 0; rw [ax_out a hj, Int.zero_emod])
  obtain ⟨X, hX⟩ : ∃ X : Nat → Int, X = fun j => ax a n j % p := ⟨_, rfl⟩
  have XA : Hid (∀ j, j < n → a j % p = X j) := fun j hj => by rw [hX]; show a j % p = ax a n j % p; rw [ax_in a hj]
  have XB : Hid (∀ j, 0 ≤ X j ∧ X j ≤ 18446744073709551615) := fun j => by rw [hX]; have h1 := Int.emod_nonneg (ax a n j) (show (p : Int) ≠ 0 by omega); have h3 := Int.emod_lt_of_pos (ax a n j) (show (0 : Int) < p by omega); exact ⟨h1, by show ax a n j % p ≤ _; omega⟩
  rw [← hX]
  clear hX hd F
  have wd : IntKind.i64.wrap ((d : Int) - 1 + 1) = (d : Int) := by rw [IntKind.wrap_i64]; omega
  go_enter Tryd.func10, Tryd.ntmps10
  go_wp2_with fail
  refine DG.out.mono ?_
  rintro e w1 ⟨rfl, k, rfl⟩
  have B1 := hid (below_drewN (Below.refl w.heap.size w) k)
  have Z1 : Hid ((w.drewN k).heap.size = w.heap.size) := by show _ = _; simp
  clear DG
  generalize w.drewN k = w1 at *
  go_wp2_with (at_make; refine wp_makeP _ rfl _ _ rfl _ _ d rfl rfl (by omega) (by omega) (by omega) ?_; intro w2 R2 B2 Z2; rw [Z1.out] at R2 B2 ⊢; have HR := hid R2; have HB := hid (B1.out.trans B2); clear R2 B2 Z2)
  go_loopw [16, 6] (fun iv _ wr => ∃ (i : Nat), iv = .int .i64 i ∧ i ≤ d ∧ Hid (Row wr w.heap.size d (mx X (fun _ => 0) i)) ∧ Hid (Below w.heap.size w wr)) (fun iv _ _ => ((d : Int) - intOf iv).toNat)
  case atStart => exact ⟨0, rfl, Nat.zero_le _, by rw [mx_zero]; exact HR.out, HB.out⟩
  case round =>
    obtain ⟨i, rfl, hi, RW, BW⟩ := hrel
    by_cases hin : i = d
    · have hin' : ¬ (i : Int) < (d : Int) := by omega
      subst hin
      have WL := hid ((RW.out.wl (fun j hj => by rw [mx_all hj]; exact XB.out j) (by omega)).eq (fun j hj => mx_all hj))
      clear RW UU XA XB FF HR HB B1 Z1
      go_wp2
      go_ret
      exact ⟨⟨_, rfl, WL.out⟩, BW.out⟩
    · have hin' : (i : Int) < (d : Int) := by omega
      have hin2 : (i : Int) < (n : Int) := by omega
      obtain ⟨b, off, rfl, hbl, hc⟩ := UU.out.spot0 (by omega)
      have ci : wr.cell? ⟨b, off + i, none⟩ = some (.int .u64 (a i)) := by rw [BW.out.cell (p := ⟨b, off + i, none⟩) hbl]; exact hc i (by omega)
      have va := UU.out.val (j := i) (by omega)
      obtain ⟨gf, f, s, f1, f3, f5⟩ := FF.out.below BW.out
      have cg := f1.cell
      have OF : Hid (∀ q, Calls Tryd.prog 26 #[.pointer (some ⟨gf, 0, none⟩), .int .u64 (a i)] (wr.drewN q) fun e w' => e = .returned (.int .u64 (a i % p)) ∧ w' = wr.drewN q) := fun q => of_any gf p f s (a i) _ (f3.drew q) (by omega) va.1
      have cr := RW.out.cell (i := i) (by omega)
      have fr := RW.out.frozen i
      have FI : Hid (∀ q, Row ((wr.drewN q).setCell ⟨w.heap.size, i, none⟩ (.int .u64 (a i % p))) w.heap.size d (mx X (fun _ => 0) (i + 1)) ∧ Below w.heap.size w ((wr.drewN q).setCell ⟨w.heap.size, i, none⟩ (.int .u64 (a i % p)))) := fun q => (RW.out.drew q).put (below_drewN BW.out q) (XA.out i (by omega))
      clear hc XA XB UU va f1 f3 f5 FF HR HB B1 Z1 RW BW
      generalize a i % (p : Int) = c at *
      generalize a i = ai at *
      generalize mx X (fun _ => 0) i i = yi at *
      go_wp2_with fail
      refine wp_region_last (by kernel_rfl) (by kernel_rfl) (by kernel_rfl) (by kernel_rfl) (by decide) ?_
      simp only [stillLast, still, lastOf]
      repeat (quiet_step ((go_at_call 26; exact Calls.quiet_of_same (OF.out _))))
      refine wpQuiet_nil ?_
      intro _ hw'
      obtain ⟨nq, hw''⟩ := hw'
      subst hw''
      have F3 := hid (FI.out nq)
      have cr2 : (wr.drewN nq).cell? ⟨w.heap.size, i, none⟩ = some (.int .u64 yi) := by simpa using cr
      have fr2 : (wr.drewN nq).frozen? ⟨w.heap.size, i, none⟩ = false := by simpa using fr
      clear FI OF cr fr ci cg
      generalize wr.drewN nq = w3 at *
      go_wp2
      exact ⟨⟨i + 1, rfl, by omega, F3.out.1, F3.out.2⟩, by simp only [intOf]; omega⟩
end Go.Proofs.YtjgipjiopagkiaaDoor
namespace Go.Proofs.YtjgipjiopagkiaaDoor
open Go.RowKit Num Nmb

set_option maxHeartbeats 800000 in
theorem ucut_any (g p : Nat) (ao : Option Addr) (n d cap : Nat) (a : Nat → Int) (w : World) (F : UF w g p) (U : Wl w (.slice ao n cap) n a) (hd : NP p d (fun j => ax a n j % p)) :
    Calls Tryd.prog 27 #[.pointer (some ⟨g, 0, none⟩), .slice ao n cap] w fun e w' => e = .returned (.slice ao d cap) ∧ ∃ k, w' = w.drewN k := by
  have DG := hid (udeg_any g p _ n d a w F U hd)
  have cp := U.cap
  have dn : d ≤ n := hd.le (fun j hj => by show ax a n j % p = 0; rw [ax_out a hj, Int.zero_emod])
  have d1 : (d : Int) ≤ (cap : Int) := by omega
  have wd : IntKind.i64.wrap ((d : Int) - 1 + 1) = (d : Int) := by rw [IntKind.wrap_i64]; omega
  clear hd F U
  go_enter Tryd.func27, Tryd.ntmps27
  go_wp2_with fail
  refine DG.out.mono ?_
  rintro e w1 ⟨rfl, k, rfl⟩
  clear DG
  go_wp2
  go_ret
  exact ⟨rfl, k, rfl⟩
set_option maxHeartbeats 1600000 in
theorem uput_any (g p r N : Nat) (u : Value) (n : Nat) (a X : Nat → Int) (w0 w : World) (F : UF w0 g p) (U : Wl w0 u n a) (B : Below w0.heap.size w0 w) (hr : w0.heap.size ≤ r) (R : Row w r N X) (hX : ∀ j, 0 ≤ X j) (hn : n ≤ N) (hN : N ≤ 1000000) :
    Calls Tryd.prog 31 #[.pointer (some ⟨g, 0, none⟩), .slice (some ⟨r, 0, none⟩) N N, u] w fun e w' => e = .returned (.tuple #[]) ∧ Row w' r N (mx (fun j => (X j + a j) % p) X n) ∧ Below r w w' := by
  have UU := hid U
  have FF := hid F
  have BB := hid B
  have HR := hid R
  have X0 := hid hX
  obtain ⟨uo, ucap, rfl, -⟩ := U
  obtain ⟨h2, h63⟩ := F.two
  have hin2 : (n : Int) ≤ (N : Int) := by omega
  obtain ⟨Y, hY⟩ : ∃ Y : Nat → Int, Y = fun j => (X j + a j) % p := ⟨_, rfl⟩
  have YA : Hid (∀ j, (X j + a j) % p = Y j) := fun j => by rw [hY]
  rw [← hY]
  clear hY F B R hX
  go_enter Tryd.func31, Tryd.ntmps31
  go_wp2
  go_loopw [10, 6, 7] (fun iv _ _ wr => ∃ (i : Nat), iv = .int .i64 i ∧ i ≤ n ∧ Hid (Row wr r N (mx Y X i)) ∧ Hid (Below r w wr)) (fun iv _ _ _ => ((n : Int) - intOf iv).toNat)
  case atStart => exact ⟨0, rfl, Nat.zero_le _, by rw [mx_zero]; exact HR.out, Below.refl _ _⟩
  case round =>
    obtain ⟨i, rfl, hi, RW, BW⟩ := hrel
    by_cases hin : i = n
    · have hin' : ¬ (i : Int) < (n : Int) := by omega
      subst hin
      clear UU FF BB HR X0 YA
      go_wp2
      go_end0
      exact ⟨rfl, RW.out, BW.out⟩
    · have hin' : (i : Int) < (n : Int) := by omega
      have hiN : (i : Int) < (N : Int) := by omega
      obtain ⟨b, off, rfl, hbl, hc⟩ := UU.out.spot0 (by omega)
      have BT := hid (BB.out.trans (BW.out.mono hr))
      have ci : wr.cell? ⟨b, off + i, none⟩ = some (.int .u64 (a i)) := by rw [BT.out.cell (p := ⟨b, off + i, none⟩) hbl]; exact hc i (by omega)
      have va := UU.out.val (j := i) (by omega)
      obtain ⟨gf, f, s, f1, f3, f5⟩ := FF.out.below BT.out
      have cg := f1.cell
      have cr := RW.out.cell (i := i) (by omega)
      have fr := RW.out.frozen i
      rw [mx_at] at cr
      have OF : Hid (∀ q, Calls Tryd.prog 46 #[.pointer (some ⟨gf, 0, none⟩), .int .u64 (X i), .int .u64 (a i)] (wr.drewN q) fun e w' => e = .returned (.int .u64 ((X i + a i) % p)) ∧ w' = wr.drewN q) := fun q => add_any gf p f s (X i) (a i) _ (f3.drew q) f5 (X0.out i) va.1
      have FI : Hid (∀ q, Row ((wr.drewN q).setCell ⟨r, i, none⟩ (.int .u64 ((X i + a i) % p))) r N (mx Y X (i + 1)) ∧ Below r w ((wr.drewN q).setCell ⟨r, i, none⟩ (.int .u64 ((X i + a i) % p)))) := fun q => (RW.out.drew q).put (below_drewN BW.out q) (YA.out i)
      clear hc UU va f1 f3 f5 FF BB HR BT RW BW YA X0
      generalize (X i + a i) % (p : Int) = c at *
      generalize a i = ai at *
      generalize X i = xi at *
      go_wp2_with fail
      refine wp_region_last (by kernel_rfl) (by kernel_rfl) (by kernel_rfl) (by kernel_rfl) (by decide) ?_
      simp only [stillLast, still, lastOf]
      repeat (quiet_step ((go_at_call 46; exact Calls.quiet_of_same (OF.out _))))
      refine wpQuiet_nil ?_
      intro _ hw'
      obtain ⟨nq, hw''⟩ := hw'
      subst hw''
      have F3 := hid (FI.out nq)
      have cr2 : (wr.drewN nq).cell? ⟨r, i, none⟩ = some (.int .u64 xi) := by simpa using cr
      have fr2 : (wr.drewN nq).frozen? ⟨r, i, none⟩ = false := by simpa using fr
      clear FI OF cr fr ci cg
      generalize wr.drewN nq = w3 at *
      go_wp2
      exact ⟨⟨i + 1, rfl, by omega, F3.out.1, F3.out.2⟩, by simp only [intOf]; omega⟩
set_option maxHeartbeats 1600000 in
theorem utake_any (g p r N : Nat) (u : Value) (n : Nat) (a X : Nat → Int) (w0 w : World) (F : UF w0 g p) (U : Wl w0 u n a) (B : Below w0.heap.size w0 w) (hr : w0.heap.size ≤ r) (R : Row w r N X) (hX : ∀ j, 0 ≤ X j) (hn : n ≤ N) (hN : N ≤ 1000000) :
    Calls Tryd.prog 32 #[.pointer (some ⟨g, 0, none⟩), .slice (some ⟨r, 0, none⟩) N N, u] w fun e w' => e = .returned (.tuple #[]) ∧ Row w' r N (mx (fun j => (X j - a j) % p) X n) ∧ Below r w w' := by
  have UU := hid U
  have FF := hid F
  have BB := hid B
  have HR := hid R
  have X0 := hid hX
  obtain ⟨uo, ucap, rfl, -⟩ := U
  obtain ⟨h2, h63⟩ := F.two
  have hin2 : (n : Int) ≤ (N : Int) := by omega
  obtain ⟨Y, hY⟩ : ∃ Y : Nat → Int, Y = fun j => (X j - a j) % p := ⟨_, rfl⟩
  have YA : Hid (∀ j, (X j - a j) % p = Y j) := fun j => by rw [hY]
  rw [← hY]
  clear hY F B R hX
  go_enter Tryd.func32, Tryd.ntmps32
  go_wp2
  go_loopw [10, 6, 7] (fun iv _ _ wr => ∃ (i : Nat), iv = .int .i64 i ∧ i ≤ n ∧ Hid (Row wr r N (mx Y X i)) ∧ Hid (Below r w wr)) (fun iv _ _ _ => ((n : Int) - intOf iv).toNat)
  case atStart => exact ⟨0, rfl, Nat.zero_le _, by rw [mx_zero]; exact HR.out, Below.refl _ _⟩
  case round =>
    obtain ⟨i, rfl, hi, RW, BW⟩ := hrel
    by_cases hin : i = n
    · have hin' : ¬ (i : Int) < (n : Int) := by omega
      subst hin
      clear UU FF BB HR X0 YA
      go_wp2
      go_end0
      exact ⟨rfl, RW.out, BW.out⟩
    · have hin' : (i : Int) < (n : Int) := by omega
      have hiN : (i : Int) < (N : Int) := by omega
      obtain ⟨b, off, rfl, hbl, hc⟩ := UU.out.spot0 (by omega)
      have BT := hid (BB.out.trans (BW.out.mono hr))
      have ci : wr.cell? ⟨b, off + i, none⟩ = some (.int .u64 (a i)) := by rw [BT.out.cell (p := ⟨b, off + i, none⟩) hbl]; exact hc i (by omega)
      have va := UU.out.val (j := i) (by omega)
      obtain ⟨gf, f, s, f1, f3, f5⟩ := FF.out.below BT.out
      have cg := f1.cell
      have cr := RW.out.cell (i := i) (by omega)
      have fr := RW.out.frozen i
      rw [mx_at] at cr
      have OF : Hid (∀ q, Calls Tryd.prog 47 #[.pointer (some ⟨gf, 0, none⟩), .int .u64 (X i), .int .u64 (a i)] (wr.drewN q) fun e w' => e = .returned (.int .u64 ((X i - a i) % p)) ∧ w' = wr.drewN q) := fun q => sub_any gf p f s (X i) (a i) _ (f3.drew q) f5 (X0.out i) va.1
      have FI : Hid (∀ q, Row ((wr.drewN q).setCell ⟨r, i, none⟩ (.int .u64 ((X i - a i) % p))) r N (mx Y X (i + 1)) ∧ Below r w ((wr.drewN q).setCell ⟨r, i, none⟩ (.int .u64 ((X i - a i) % p)))) := fun q => (RW.out.drew q).put (below_drewN BW.out q) (YA.out i)
      clear hc UU va f1 f3 f5 FF BB HR BT RW BW YA X0
      generalize (X i - a i) % (p : Int) = c at *
      generalize a i = ai at *
      generalize X i = xi at *
      go_wp2_with fail
      refine wp_region_last (by kernel_rfl) (by kernel_rfl) (by kernel_rfl) (by kernel_rfl) (by decide) ?_
      simp only [stillLast, still, lastOf]
      repeat (quiet_step ((go_at_call 47; exact Calls.quiet_of_same (OF.out _))))
      refine wpQuiet_nil ?_
      intro _ hw'
      obtain ⟨nq, hw''⟩ := hw'
      subst hw''
      have F3 := hid (FI.out nq)
      have cr2 : (wr.drewN nq).cell? ⟨r, i, none⟩ = some (.int .u64 xi) := by simpa using cr
      have fr2 : (wr.drewN nq).frozen? ⟨r, i, none⟩ = false := by simpa using fr
      clear FI OF cr fr ci cg
      generalize wr.drewN nq = w3 at *
      go_wp2
      exact ⟨⟨i + 1, rfl, by omega, F3.out.1, F3.out.2⟩, by simp only [intOf]; omega⟩
end Go.Proofs.YtjgipjiopagkiaaDoor
namespace Go.Proofs.YtjgipjiopagkiaaDoor
open Go.RowKit Num Nmb

/-- cut, where what is cut is known. -/
theorem ucutP (g p : Nat) (ao : Option Addr) (N cap : Nat) (Z X : Nat → Int) (w : World) (F : UF w g p) (U : Wl w (.slice ao N cap) N Z) (hZ : ∀ j, j < N → Z j = X j) (hX : ∀ j, 0 ≤ X j ∧ X j < p) (hO : ∀ j, N ≤ j → X j = 0) :
    Calls Tryd.prog 27 #[.pointer (some ⟨g, 0, none⟩), .slice ao N cap] w fun e w' => (∃ v, e = .returned v ∧ PV w' v p X) ∧ Below w.heap.size w w' := by
  have h2 := F.two
  obtain ⟨d, hdN, hd⟩ := np_ex (p := p) (by omega) X N (fun j hj => Cg.of_eq (hO j hj))
  have e1 : (fun j => X j % (p : Int)) = X := funext fun j => Int.emod_eq_of_lt (hX j).1 (hX j).2
  have e2 : (fun j => ax Z N j % (p : Int)) = X := funext fun j => by
    by_cases h : j < N
    · show ax Z N j % (p : Int) = X j
      rw [ax_in Z h, hZ j h]; exact Int.emod_eq_of_lt (hX j).1 (hX j).2
    · show ax Z N j % (p : Int) = X j
      rw [ax_out Z (by omega), Int.zero_emod, hO j (by omega)]
  rw [e1] at hd
  refine (ucut_any g p ao N d cap Z w F U (by rw [e2]; exact hd)).mono ?_
  rintro e w' ⟨rfl, k, rfl⟩
  exact ⟨⟨_, rfl, d, hd, ((U.eq hZ).short hdN).drew k⟩, below_drewN (Below.refl _ _) k⟩
theorem max_cast (n m : Nat) : (if (n : Int) ≤ (m : Int) then (m : Int) else (n : Int)) = ((max n m : Nat) : Int) := by
  split <;> omega
set_option maxHeartbeats 1600000 in
theorem usum_any (g p : Nat) (u v : Value) (n m : Nat) (a b : Nat → Int) (w : World) (F : UF w g p) (U : Wl w u n a) (V : Wl w v m b) (hn : n ≤ 100000) (hm : m ≤ 100000) :
    Calls Tryd.prog 28 #[.pointer (some ⟨g, 0, none⟩), u, v] w fun e w' => (∃ ao cap Z, e = .returned (.slice ao (max n m : Nat) cap) ∧ Wl w' (.slice ao (max n m : Nat) cap) (max n m) Z ∧ ∀ j, j < max n m → Z j = (ax a n j + ax b m j) % p) ∧ Below w.heap.size w w' := by
  have h2 := F.two
  obtain ⟨N, hN⟩ : ∃ N, max n m = N := ⟨_, rfl⟩
  rw [hN]
  have nN : n ≤ N := by omega
  have mN : m ≤ N := by omega
  have Nl : N ≤ 100000 := by omega
  obtain ⟨Y, hY⟩ : ∃ Y : Nat → Int, Y = mx (fun j => (0 + a j) % p) (fun _ => 0) n := ⟨_, rfl⟩
  have Y0 : Hid (∀ j, 0 ≤ Y j) := fun j => by
    rw [hY]; unfold mx; split
    · exact Int.emod_nonneg _ (by omega)
    · exact Int.le_refl _
  have PA : Hid (∀ W, Below w.heap.size w W → Row W w.heap.size N (fun _ => 0) → Calls Tryd.prog 31 #[.pointer (some ⟨g, 0, none⟩), .slice (some ⟨w.heap.size, 0, none⟩) N N, u] W fun e w' => e = .returned (.tuple #[]) ∧ Row w' w.heap.size N Y ∧ Below w.heap.size W w') := fun W B R => by
    rw [hY]
    exact uput_any g p w.heap.size N u n a (fun _ => 0) w W F U B (Nat.le_refl _) R (fun _ => Int.le_refl _) nN (by omega)
  have PB : Hid (∀ W, Below w.heap.size w W → Row W w.heap.size N Y → Calls Tryd.prog 31 #[.pointer (some ⟨g, 0, none⟩), .slice (some ⟨w.heap.size, 0, none⟩) N N, v] W fun e w' => e = .returned (.tuple #[]) ∧ Row w' w.heap.size N (mx (fun j => (Y j + b j) % p) Y m) ∧ Below w.heap.size W w') := fun W B R =>
    uput_any g p w.heap.size N v m b Y w W F V B (Nat.le_refl _) R Y0.out mN (by omega)
  have E : Hid (∀ j, j < N → mx (fun j => (Y j + b j) % p) Y m j = (ax a n j + ax b m j) % p) := fun j hj => by
    have y1 : Y j % p = ax a n j % p := by
      rw [hY]; unfold mx
      by_cases h : j < n
      · rw [if_pos h, ax_in a h]
        dsimp only
        rw [Int.zero_add, Int.emod_emod_of_dvd _ (Int.dvd_refl _)]
      · rw [if_neg h, ax_out a (by omega)]
    by_cases h : j < m
    · rw [mx_all h, ax_in b h, Int.add_emod, y1, ← Int.add_emod]
    · unfold mx
      rw [if_neg h, ax_out b (by omega), Int.add_zero, ← y1, hY, mx_all (by omega), Int.emod_emod_of_dvd _ (Int.dvd_refl _)]
  have EB : Hid (∀ j, j < N → 0 ≤ mx (fun j => (Y j + b j) % p) Y m j ∧ mx (fun j => (Y j + b j) % p) Y m j ≤ 18446744073709551615) := fun j hj => by
    rw [E.out j hj]
    have h1 := Int.emod_nonneg (ax a n j + ax b m j) (show (p : Int) ≠ 0 by omega)
    have h3 := Int.emod_lt_of_pos (ax a n j + ax b m j) (show (0 : Int) < p by omega)
    omega
  obtain ⟨uo, ucap, rfl, -⟩ := U
  obtain ⟨vo, vcap, rfl, -⟩ := V
  have hN' := hid hN
  clear F hY Y0 hN
  generalize mx (fun j => (Y j + b j) % (p : Int)) Y m = Z at *
  go_enter Tryd.func28, Tryd.ntmps28
  go_wp2_with (at_make; refine wp_makeP _ rfl _ _ rfl _ _ N rfl rfl (by have := hN'.out; omega) (by have := hN'.out; omega) (by omega) ?_; intro w2 R2 B2 Z2; have HR := hid R2; have HB := hid B2; clear R2 B2 Z2)
  refine (PA.out _ HB.out HR.out).mono ?_
  rintro e w3 ⟨rfl, R3, B3⟩
  have HR3 := hid R3
  have HB3 := hid (HB.out.trans B3)
  clear HR HB R3 B3 PA
  go_wp2_with fail
  refine (PB.out _ HB3.out HR3.out).mono ?_
  rintro e w4 ⟨rfl, R4, B4⟩
  have HR4 := hid (R4.wl EB.out (by omega))
  have HB4 := hid (HB3.out.trans B4)
  clear HR3 HB3 R4 B4 PB
  go_wp2
  go_ret
  exact ⟨⟨_, _, Z, rfl, HR4.out, E.out⟩, HB4.out⟩
set_option maxHeartbeats 1600000 in
theorem uadd_any (g p : Nat) (u v : Value) (n m : Nat) (a b : Nat → Int) (w : World) (F : UF w g p) (U : Wl w u n a) (V : Wl w v m b) (hn : n ≤ 100000) (hm : m ≤ 100000) :
    Calls Tryd.prog 12 #[.pointer (some ⟨g, 0, none⟩), u, v] w fun e w' => (∃ x, e = .returned x ∧ PV w' x p (fun j => (ax a n j + ax b m j) % p)) ∧ Below w.heap.size w w' := by
  have h2 := F.two
  have SU := hid (usum_any g p u v n m a b w F U V hn hm)
  have CU : Hid (∀ W ao cap Z, Below w.heap.size w W → Wl W (.slice ao (max n m : Nat) cap) (max n m) Z → (∀ j, j < max n m → Z j = (ax a n j + ax b m j) % p) → Calls Tryd.prog 27 #[.pointer (some ⟨g, 0, none⟩), .slice ao (max n m : Nat) cap] W fun e w' => (∃ x, e = .returned x ∧ PV w' x p (fun j => (ax a n j + ax b m j) % p)) ∧ Below W.heap.size W w') := fun W ao cap Z B WZ hZ =>
    ucutP g p ao (max n m) cap Z _ W (F.below B) WZ hZ (fun j => ⟨Int.emod_nonneg _ (by omega), Int.emod_lt_of_pos _ (by omega)⟩) (fun j hj => by show (ax a n j + ax b m j) % p = 0; rw [ax_out a (by omega), ax_out b (by omega)]; exact Int.zero_emod _)
  obtain ⟨uo, ucap, rfl, -⟩ := U
  obtain ⟨vo, vcap, rfl, -⟩ := V
  clear F
  go_enter Tryd.func12, Tryd.ntmps12
  go_wp2_with fail
  refine SU.out.mono ?_
  rintro e w3 ⟨⟨ao, cap, Z, rfl, WZ, hZ⟩, B3⟩
  have C3 := hid (CU.out w3 ao cap Z B3 WZ hZ)
  have HB := hid B3
  clear SU CU WZ hZ B3
  generalize max n m = N at *
  go_wp2_with fail
  refine C3.out.mono ?_
  rintro e w4 ⟨⟨x, rfl, P⟩, B4⟩
  have PP := hid P
  have HB4 := hid (HB.out.trans (B4.mono HB.out.size))
  clear C3 P B4 HB
  go_wp2
  go_ret
  exact ⟨⟨_, rfl, PP.out⟩, HB4.out⟩
set_option maxHeartbeats 1600000 in
theorem usub_any (g p : Nat) (u v : Value) (n m : Nat) (a b : Nat → Int) (w : World) (F : UF w g p) (U : Wl w u n a) (V : Wl w v m b) (hn : n ≤ 100000) (hm : m ≤ 100000) :
    Calls Tryd.prog 14 #[.pointer (some ⟨g, 0, none⟩), u, v] w fun e w' => (∃ x, e = .returned x ∧ PV w' x p (fun j => (ax a n j - ax b m j) % p)) ∧ Below w.heap.size w w' := by
  have h2 := F.two
  obtain ⟨N, hN⟩ : ∃ N, max n m = N := ⟨_, rfl⟩
  have nN : n ≤ N := by omega
  have mN : m ≤ N := by omega
  have Nl : N ≤ 100000 := by omega
  obtain ⟨Y, hY⟩ : ∃ Y : Nat → Int, Y = mx (fun j => (0 + a j) % p) (fun _ => 0) n := ⟨_, rfl⟩
  have Y0 : Hid (∀ j, 0 ≤ Y j) := fun j => by
    rw [hY]; unfold mx; split
    · exact Int.emod_nonneg _ (by omega)
    · exact Int.le_refl _
  have PA : Hid (∀ W, Below w.heap.size w W → Row W w.heap.size N (fun _ => 0) → Calls Tryd.prog 31 #[.pointer (some ⟨g, 0, none⟩), .slice (some ⟨w.heap.size, 0, none⟩) N N, u] W fun e w' => e = .returned (.tuple #[]) ∧ Row w' w.heap.size N Y ∧ Below w.heap.size W w') := fun W B R => by
    rw [hY]
    exact uput_any g p w.heap.size N u n a (fun _ => 0) w W F U B (Nat.le_refl _) R (fun _ => Int.le_refl _) nN (by omega)
  have PB : Hid (∀ W, Below w.heap.size w W → Row W w.heap.size N Y → Calls Tryd.prog 32 #[.pointer (some ⟨g, 0, none⟩), .slice (some ⟨w.heap.size, 0, none⟩) N N, v] W fun e w' => e = .returned (.tuple #[]) ∧ Row w' w.heap.size N (mx (fun j => (Y j - b j) % p) Y m) ∧ Below w.heap.size W w') := fun W B R =>
    utake_any g p w.heap.size N v m b Y w W F V B (Nat.le_refl _) R Y0.out mN (by omega)
  have E : Hid (∀ j, j < N → mx (fun j => (Y j - b j) % p) Y m j = (ax a n j - ax b m j) % p) := fun j hj => by
    have y1 : Y j % p = ax a n j % p := by
      rw [hY]; unfold mx
      by_cases h : j < n
      · rw [if_pos h, ax_in a h]
        dsimp only
        rw [Int.zero_add, Int.emod_emod_of_dvd _ (Int.dvd_refl _)]
      · rw [if_neg h, ax_out a (by omega)]
    by_cases h : j < m
    · rw [mx_all h, ax_in b h, Int.sub_emod, y1, ← Int.sub_emod]
    · unfold mx
      rw [if_neg h, ax_out b (by omega), Int.sub_zero, ← y1, hY, mx_all (by omega), Int.emod_emod_of_dvd _ (Int.dvd_refl _)]
  have EB : Hid (∀ j, j < N → 0 ≤ mx (fun j => (Y j - b j) % p) Y m j ∧ mx (fun j => (Y j - b j) % p) Y m j ≤ 18446744073709551615) := fun j hj => by
    rw [E.out j hj]
    have h1 := Int.emod_nonneg (ax a n j - ax b m j) (show (p : Int) ≠ 0 by omega)
    have h3 := Int.emod_lt_of_pos (ax a n j - ax b m j) (show (0 : Int) < p by omega)
    omega
  have CU : Hid (∀ W ao cap Z, Below w.heap.size w W → Wl W (.slice ao N cap) N Z → (∀ j, j < N → Z j = (ax a n j - ax b m j) % p) → Calls Tryd.prog 27 #[.pointer (some ⟨g, 0, none⟩), .slice ao N cap] W fun e w' => (∃ x, e = .returned x ∧ PV w' x p (fun j => (ax a n j - ax b m j) % p)) ∧ Below W.heap.size W w') := fun W ao cap Z B WZ hZ =>
    ucutP g p ao N cap Z _ W (F.below B) WZ hZ (fun j => ⟨Int.emod_nonneg _ (by omega), Int.emod_lt_of_pos _ (by omega)⟩) (fun j hj => by show (ax a n j - ax b m j) % p = 0; rw [ax_out a (by omega), ax_out b (by omega)]; exact Int.zero_emod _)
  obtain ⟨uo, ucap, rfl, -⟩ := U
  obtain ⟨vo, vcap, rfl, -⟩ := V
  have hN' := hid hN
  clear F hY Y0 hN
  generalize mx (fun j => (Y j - b j) % (p : Int)) Y m = Z at *
  go_enter Tryd.func14, Tryd.ntmps14
  go_wp2_with (at_make; refine wp_makeP _ rfl _ _ rfl _ _ N rfl rfl (by have := hN'.out; omega) (by have := hN'.out; omega) (by omega) ?_; intro w2 R2 B2 Z2; have HR := hid R2; have HB := hid B2; clear R2 B2 Z2)
  refine (PA.out _ HB.out HR.out).mono ?_
  rintro e w3 ⟨rfl, R3, B3⟩
  have HR3 := hid R3
  have HB3 := hid (HB.out.trans B3)
  clear HR HB R3 B3 PA
  go_wp2_with fail
  refine (PB.out _ HB3.out HR3.out).mono ?_
  rintro e w4 ⟨rfl, R4, B4⟩
  have HB4 := hid (HB3.out.trans B4)
  have C4 := hid (CU.out w4 _ _ Z HB4.out (R4.wl EB.out (by omega)) E.out)
  clear HR3 HB3 R4 B4 PB CU
  go_wp2_with fail
  refine C4.out.mono ?_
  rintro e w5 ⟨⟨x, rfl, P⟩, B5⟩
  have PP := hid P
  have HB5 := hid (HB4.out.trans (B5.mono HB4.out.size))
  clear C4 P B5 HB4
  go_wp2
  go_ret
  exact ⟨⟨_, rfl, PP.out⟩, HB5.out⟩
end Go.Proofs.YtjgipjiopagkiaaDoor
namespace Go.Proofs.YtjgipjiopagkiaaDoor
open Go.RowKit Num Nmb

set_option maxHeartbeats 800000 in
theorem uscale_nil (g : Nat) (ao : Option Addr) (cap : Nat) (w : World) :
    Calls Tryd.prog 37 #[.pointer (some ⟨g, 0, none⟩), .slice ao 0 cap] w fun e w' => e = .returned (.int .u64 0) ∧ w' = w := by
  go_enter Tryd.func37, Tryd.ntmps37
  go_wp2
  go_ret
  exact ⟨rfl, rfl⟩
set_option maxHeartbeats 1600000 in
theorem uscale_any (g p : Nat) (u : Value) (k : Nat) (A : Nat → Int) (w : World) (hp : Pri p) (F : UF w g p) (U : Wl w u (k + 1) A) (hA : NP p (k + 1) A) :
    Calls Tryd.prog 37 #[.pointer (some ⟨g, 0, none⟩), u] w fun e w' => (∃ c : Nat, e = .returned (.int .u64 c) ∧ Cg p (c * A k) 1 ∧ c < p) ∧ ∃ q, w' = w.drewN q := by
  have UU := hid U
  obtain ⟨uo, ucap, rfl, -⟩ := U
  obtain ⟨h2, h63⟩ := F.two
  obtain ⟨gf, f, s, f1, f3, f5⟩ := F
  have cg := f1.cell
  obtain ⟨b, off, rfl, hbl, hc⟩ := UU.out.spot0 (by omega)
  have ck := hc k (by omega)
  have va := UU.out.val (j := k) (by omega)
  obtain ⟨t, ht⟩ : ∃ t : Nat, A k = t := ⟨(A k).toNat, by omega⟩
  have I1 := hid (inv_end hp hA ht)
  have nz : t % p ≠ 0 := fun h0 => by
    have h1 := hA.tp.2
    rw [ht] at h1
    exact h1 ((Cg.nat (b := 0)).2 (by rw [h0, Nat.zero_mod]))
  have IV : Hid (∀ q, Calls Tryd.prog 50 #[.pointer (some ⟨gf, 0, none⟩), .int .u64 t] (w.drewN q) fun e w' => e = .returned (.tuple #[.int .u64 (t ^ (p - 2) % p : Nat), .int .i64 0]) ∧ w' = w.drewN q) := fun q => inv_pri gf p t f s _ (f3.drew q) f5 hp nz
  have I2 : Hid (t ^ (p - 2) % p < p) := Nat.mod_lt _ (by omega)
  rw [ht] at ck I1
  obtain ⟨c, hcc⟩ : ∃ c, t ^ (p - 2) % p = c := ⟨_, rfl⟩
  rw [hcc] at I1 IV I2
  rw [ht]
  have k1 : ((k + 1 : Nat) : Int) - 1 = (k : Int) := by omega
  have k0 : (((k + 1 : Nat) : Int) == 0) = false := beq_eq_false_iff_ne.2 (by omega)
  have cp := UU.out.cap
  have k3 : (k : Int) < ((k + 1 : Nat) : Int) := by omega
  have k4 : (0 : Int) ≤ (k : Int) := by omega
  have wk : IntKind.i64.wrap (k : Int) = (k : Int) := by rw [IntKind.wrap_i64]; omega
  generalize ((k + 1 : Nat) : Int) = K at *
  clear UU hc va f1 f3 f5 nz hA hp ht hcc hbl
  go_enter Tryd.func37, Tryd.ntmps37
  go_wp2_with fail
  go_quiet ((go_at_call 50; exact Calls.quiet_of_same (IV.out _)))
  rename_i nq
  clear IV ck cg
  go_wp2
  go_ret
  exact ⟨⟨c, rfl, I1.out, I2.out⟩, nq, rfl⟩
set_option maxHeartbeats 1600000 in
theorem uscaled_any (g p : Nat) (u : Value) (n : Nat) (a : Nat → Int) (c : Int) (w : World) (F : UF w g p) (U : Wl w u n a) (hn : n ≤ 1000000) (hc0 : 0 ≤ c) :
    Calls Tryd.prog 36 #[.pointer (some ⟨g, 0, none⟩), u, .int .u64 c] w fun e w' => (∃ v, e = .returned v ∧ Wl w' v n (fun j => a j * c % p)) ∧ Below w.heap.size w w' := by
  have UU := hid U
  have FF := hid F
  obtain ⟨uo, ucap, rfl, -⟩ := U
  obtain ⟨h2, h63⟩ := F.two
  obtain ⟨X, hX⟩ : ∃ X : Nat → Int, X = fun j => a j * c % p := ⟨_, rfl⟩
  have XA : Hid (∀ j, a j * c % p = X j) := fun j => by rw [hX]
  have XB : Hid (∀ j, 0 ≤ X j ∧ X j ≤ 18446744073709551615) := fun j => by
    rw [← XA.out j]
    have h1 := Int.emod_nonneg (a j * c) (show (p : Int) ≠ 0 by omega)
    have h3 := Int.emod_lt_of_pos (a j * c) (show (0 : Int) < p by omega)
    omega
  rw [← hX]
  clear hX F
  go_enter Tryd.func36, Tryd.ntmps36
  go_wp2_with (at_make; refine wp_makeP _ rfl _ _ rfl _ _ n rfl rfl (by omega) (by omega) (by omega) ?_; intro w2 R2 B2 Z2; have HR := hid R2; have HB := hid B2; clear R2 B2 Z2)
  go_loopw [15, 8, 9] (fun iv _ _ wr => ∃ (i : Nat), iv = .int .i64 i ∧ i ≤ n ∧ Hid (Row wr w.heap.size n (mx X (fun _ => 0) i)) ∧ Hid (Below w.heap.size w wr)) (fun iv _ _ _ => ((n : Int) - intOf iv).toNat)
  case atStart => exact ⟨0, rfl, Nat.zero_le _, by rw [mx_zero]; exact HR.out, HB.out⟩
  case round =>
    obtain ⟨i, rfl, hi, RW, BW⟩ := hrel
    by_cases hin : i = n
    · have hin' : ¬ (i : Int) < (n : Int) := by omega
      subst hin
      have WL := hid ((RW.out.wl (fun j hj => by rw [mx_all hj]; exact XB.out j) (by omega)).eq (fun j hj => mx_all hj))
      clear RW UU XA XB FF HR HB
      go_wp2
      go_ret
      exact ⟨⟨_, rfl, WL.out⟩, BW.out⟩
    · have hin' : (i : Int) < (n : Int) := by omega
      obtain ⟨b, off, rfl, hbl, hc⟩ := UU.out.spot0 (by omega)
      have ci : wr.cell? ⟨b, off + i, none⟩ = some (.int .u64 (a i)) := by rw [BW.out.cell (p := ⟨b, off + i, none⟩) hbl]; exact hc i (by omega)
      have va := UU.out.val (j := i) (by omega)
      obtain ⟨gf, f, s, f1, f3, f5⟩ := FF.out.below BW.out
      have cg := f1.cell
      have OF := hid (mul_any gf p f s (a i) c wr f3 f5 va.1 hc0)
      have cr := RW.out.cell (i := i) (by omega)
      have fr := RW.out.frozen i
      have FI : Hid (∀ q, Row ((wr.drewN q).setCell ⟨w.heap.size, i, none⟩ (.int .u64 (a i * c % p))) w.heap.size n (mx X (fun _ => 0) (i + 1)) ∧ Below w.heap.size w ((wr.drewN q).setCell ⟨w.heap.size, i, none⟩ (.int .u64 (a i * c % p)))) := fun q => (RW.out.drew q).put (below_drewN BW.out q) (XA.out i)
      clear hc XA XB UU va f1 f3 f5 FF HR HB RW BW hc0
      generalize a i * c % (p : Int) = x at *
      generalize a i = ai at *
      generalize mx X (fun _ => 0) i i = yi at *
      go_wp2_with fail
      refine OF.out.mono ?_
      rintro e w3 ⟨rfl, nq, rfl⟩
      have F3 := hid (FI.out nq)
      have cr2 : (wr.drewN nq).cell? ⟨w.heap.size, i, none⟩ = some (.int .u64 yi) := by simpa using cr
      have fr2 : (wr.drewN nq).frozen? ⟨w.heap.size, i, none⟩ = false := by simpa using fr
      clear FI OF cr fr ci cg
      generalize wr.drewN nq = w3 at *
      go_wp2
      exact ⟨⟨i + 1, rfl, by omega, F3.out.1, F3.out.2⟩, by simp only [intOf]; omega⟩
theorem monic_of {p k : Nat} {A0 A : Nat → Int} {c : Nat} (h2 : 2 ≤ p) (HA : NP p (k + 1) A) (CA : Ct p A A0) (HI : Cg p (c * A k) 1) : MonicIs p (k + 1) A0 (fun j => A j * c % p) := by
  have g1 : A k * (c : Int) % p = 1 := by
    have h3 : Cg p (A k * (c : Int) % p) 1 := Cg.mod.trans ((Cg.of_eq (Int.mul_comm _ _)).trans HI)
    exact h3.small ⟨Int.emod_nonneg _ (by omega), Int.emod_lt_of_pos _ (by omega)⟩ ⟨by omega, by omega⟩
  refine ⟨(c : Int), A k, HI, fun j => Cg.mod.trans ((Cg.of_eq (Int.mul_comm _ _)).trans (Cg.rfl.mul (CA j))), ⟨fun j => ⟨Int.emod_nonneg _ (by omega), Int.emod_lt_of_pos _ (by omega)⟩, fun j hj => ?_, Or.inr ?_⟩, Or.inr g1⟩
  · show A j * (c : Int) % p = 0
    rw [HA.out j hj, Int.zero_mul, Int.zero_emod]
  · show A k * (c : Int) % p ≠ 0
    omega
theorem monic_none {p : Nat} {A0 A : Nat → Int} {c : Int} (h2 : 2 ≤ p) (HA : NP p 0 A) (CA : Ct p A A0) : MonicIs p 0 A0 (fun j => A j * c % p) := by
  refine ⟨1, 1, Cg.rfl, fun j => ?_, ⟨fun j => ⟨Int.emod_nonneg _ (by omega), Int.emod_lt_of_pos _ (by omega)⟩, fun j hj => ?_, Or.inl rfl⟩, Or.inl rfl⟩
  · have h := CA j
    show Cg p (A j * c % p) (1 * A0 j)
    rw [HA.out j (Nat.zero_le _)] at h ⊢
    rw [Int.zero_mul, Int.zero_emod, Int.one_mul]
    exact h
  · show A j * c % p = 0
    rw [HA.out j hj, Int.zero_mul, Int.zero_emod]
set_option maxHeartbeats 1600000 in
theorem umonic_any (g p : Nat) (u : Value) (n k : Nat) (a : Nat → Int) (w : World) (hp : Pri p) (F : UF w g p) (U : Wl w u n a) (hn : n ≤ 100000) (hA : NP p k (fun j => ax a n j % p)) :
    Calls Tryd.prog 18 #[.pointer (some ⟨g, 0, none⟩), u] w fun e w' => (∃ v G, e = .returned v ∧ Wl w' v k G ∧ MonicIs p k (ax a n) G) ∧ Below w.heap.size w w' := by
  have h2 := F.two
  have kn : k ≤ n := hA.le fun j hj => by show ax a n j % p = 0; rw [ax_out a hj, Int.zero_emod]
  have NO := hid (unorm_any g p u n k a w F U (by omega) hA)
  have CA : Hid (Ct p (fun j => ax a n j % p) (ax a n)) := mod_ct _
  obtain ⟨uo, ucap, rfl, -⟩ := U
  have HA := hid hA
  have FF := hid F
  have HP := hid hp
  clear hA F hp
  generalize (fun j => ax a n j % (p : Int)) = A at *
  generalize ax a n = A0 at *
  go_enter Tryd.func18, Tryd.ntmps18
  go_wp2_with fail
  refine NO.out.mono ?_
  rintro e w3 ⟨⟨v, rfl, WV⟩, B3⟩
  have HWV := hid WV
  have HB := hid B3
  have F3 := hid (FF.out.below B3)
  obtain ⟨vo, vcap, rfl, -⟩ := WV
  clear NO B3 FF
  cases k with
  | zero =>
    have SC := hid (uscaled_any g p _ 0 A 0 w3 F3.out HWV.out (by omega) (Int.le_refl _))
    have MI := hid (monic_none (c := 0) h2.1 HA.out CA.out)
    have S0 := hid (uscale_nil g vo vcap w3)
    clear HWV F3 HA CA HP
    go_wp2_with fail
    refine S0.out.mono ?_
    rintro e w4 ⟨rfl, hw⟩
    obtain rfl := hw.symm
    go_wp2_with fail
    refine SC.out.mono ?_
    rintro e w5 ⟨⟨v, rfl, WG⟩, B5⟩
    have R := hid WG
    have BB := hid (HB.out.trans (B5.mono HB.out.size))
    clear SC S0 HB WG B5
    go_wp2
    go_ret
    exact ⟨⟨_, _, rfl, R.out, MI.out⟩, BB.out⟩
  | succ k =>
    have S0 := hid (uscale_any g p _ k A w3 HP.out F3.out HWV.out HA.out)
    have SC : Hid (∀ (c q : Nat), Calls Tryd.prog 36 #[.pointer (some ⟨g, 0, none⟩), .slice vo (k + 1 : Nat) vcap, .int .u64 c] (w3.drewN q) fun e w' => (∃ v, e = .returned v ∧ Wl w' v (k + 1) (fun j => A j * c % p)) ∧ Below (w3.drewN q).heap.size (w3.drewN q) w') := fun c q => uscaled_any g p _ (k + 1) A c _ (F3.out.drew q) (HWV.out.drew q) (by omega) (by omega)
    have MI : Hid (∀ c : Nat, Cg p (c * A k) 1 → MonicIs p (k + 1) A0 (fun j => A j * c % p)) := fun c h => monic_of h2.1 HA.out CA.out h
    clear HWV F3 HA CA HP
    go_wp2_with fail
    refine S0.out.mono ?_
    rintro e w4 ⟨⟨c, rfl, hc, -⟩, q, rfl⟩
    have M2 := hid (MI.out c hc)
    have S2 := hid (SC.out c q)
    have HB2 := hid (below_drewN HB.out q)
    clear S0 SC MI hc HB
    generalize w3.drewN q = w4 at *
    go_wp2_with fail
    refine S2.out.mono ?_
    rintro e w5 ⟨⟨v, rfl, WG⟩, B5⟩
    have R := hid WG
    have BB := hid (HB2.out.trans (B5.mono HB2.out.size))
    clear S2 HB2 WG B5
    go_wp2
    go_ret
    exact ⟨⟨_, _, rfl, R.out, M2.out⟩, BB.out⟩
end Go.Proofs.YtjgipjiopagkiaaDoor
namespace Go.Proofs.YtjgipjiopagkiaaDoor
open Go.RowKit Num Nmb

set_option maxHeartbeats 800000 in
theorem uderive_nil (g : Nat) (ao : Option Addr) (cap : Nat) (w : World) :
    Calls Tryd.prog 16 #[.pointer (some ⟨g, 0, none⟩), .slice ao 0 cap] w fun e w' => e = .returned (.slice none 0 0) ∧ w' = w := by
  go_enter Tryd.func16, Tryd.ntmps16
  go_wp2
  go_ret
  exact ⟨rfl, rfl⟩
set_option maxHeartbeats 1600000 in
theorem uderive_any (g p : Nat) (u : Value) (n : Nat) (a : Nat → Int) (w : World) (F : UF w g p) (U : Wl w u n a) (hn : n ≤ 100000) :
    Calls Tryd.prog 16 #[.pointer (some ⟨g, 0, none⟩), u] w fun e w' => (∃ v, e = .returned v ∧ PV w' v p (fun j => drv (ax a n) j % p)) ∧ Below w.heap.size w w' := by
  have h2 := F.two
  have UU := hid U
  have FF := hid F
  obtain ⟨uo, ucap, rfl, -⟩ := U
  by_cases n0 : n = 0
  · subst n0
    refine (uderive_nil g uo ucap w).mono ?_
    rintro e w' ⟨rfl, rfl⟩
    refine ⟨⟨_, rfl, 0, ?_, Wl.nil _ _⟩, Below.refl _ _⟩
    have e : (fun j => drv (ax a 0) j % (p : Int)) = fun _ => 0 := funext fun j => by unfold drv; rw [ax_out a (Nat.zero_le _), Int.zero_mul, Int.zero_emod]
    rw [e]
    exact NP.zero (by omega)
  · obtain ⟨M, hM⟩ : ∃ M, M = n := ⟨_, rfl⟩
    obtain ⟨n, hn1⟩ : ∃ k, M = k + 1 := ⟨M - 1, by omega⟩
    rw [← hM] at UU n0 hn ⊢
    clear hM
    obtain ⟨X, hX⟩ : ∃ X : Nat → Int, X = fun j => drv (ax a M) j % p := ⟨_, rfl⟩
    have XA : Hid (∀ j, j < n → (((j : Int) + 1) * a (j + 1)) % p = X j) := fun j hj => by
      rw [hX]; show _ = drv (ax a M) j % p
      unfold drv
      rw [ax_in a (by omega), Int.mul_comm, Int.natCast_add]
      rfl
    have XC : Hid (∀ j, 0 ≤ X j ∧ X j < p) := fun j => by rw [hX]; exact ⟨Int.emod_nonneg _ (by omega), Int.emod_lt_of_pos _ (by omega)⟩
    have XO : Hid (∀ j, n ≤ j → X j = 0) := fun j hj => by rw [hX]; show drv (ax a M) j % p = 0; unfold drv; rw [ax_out a (by omega), Int.zero_mul, Int.zero_emod]
    rw [← hX]
    have CU : Hid (∀ W, Below w.heap.size w W → Wl W (.slice (some ⟨w.heap.size, 0, none⟩) n n) n X → Calls Tryd.prog 27 #[.pointer (some ⟨g, 0, none⟩), .slice (some ⟨w.heap.size, 0, none⟩) n n] W fun e w' => (∃ x, e = .returned x ∧ PV w' x p X) ∧ Below W.heap.size W w') := fun W B WZ =>
      ucutP g p _ n n X X W (F.below B) WZ (fun _ _ => rfl) XC.out XO.out
    clear hX F XO
    have k1 : (M : Int) - 1 = (n : Int) := by omega
    have k0 : ((M : Int) == 0) = false := beq_eq_false_iff_ne.2 (by omega)
    have wk : IntKind.i64.wrap (n : Int) = (n : Int) := by rw [IntKind.wrap_i64]; omega
    have mM : Hid (∀ i : Nat, i < n → (i : Int) + 1 < (M : Int) ∧ i + 1 < M) := fun i hi => by show _ ∧ _; omega
    clear hn1 n0
    go_enter Tryd.func16, Tryd.ntmps16
    go_wp2_with (at_make; refine wp_makeP _ rfl _ _ rfl _ _ n rfl rfl (by omega) (by omega) (by omega) ?_; intro w2 R2 B2 Z2; have HR := hid R2; have HB := hid B2; clear R2 B2 Z2)
    go_loopw [20, 6] (fun iv _ wr => ∃ (i : Nat), iv = .int .i64 i ∧ i ≤ n ∧ Hid (Row wr w.heap.size n (mx X (fun _ => 0) i)) ∧ Hid (Below w.heap.size w wr)) (fun iv _ _ => ((n : Int) - intOf iv).toNat)
    case atStart => exact ⟨0, rfl, Nat.zero_le _, by rw [mx_zero]; exact HR.out, HB.out⟩
    case round =>
      obtain ⟨i, rfl, hi, RW, BW⟩ := hrel
      by_cases hin : i = n
      · have hin' : ¬ (i : Int) < (n : Int) := by omega
        subst hin
        have C4 := hid (CU.out _ BW.out ((RW.out.wl (fun j hj => by rw [mx_all hj]; have := XC.out j; omega) (by omega)).eq (fun j hj => mx_all hj)))
        clear RW UU XA XC FF HR HB CU
        go_wp2_with fail
        refine C4.out.mono ?_
        rintro e w5 ⟨⟨x, rfl, P⟩, B5⟩
        have PP := hid P
        have HB5 := hid (BW.out.trans (B5.mono BW.out.size))
        clear C4 P B5 BW
        go_wp2
        go_ret
        exact ⟨⟨_, rfl, PP.out⟩, HB5.out⟩
      · have hin' : (i : Int) < (n : Int) := by omega
        obtain ⟨im1', im2'⟩ := mM.out i (by omega)
        obtain ⟨i1, hi1⟩ : ∃ i1, i + 1 = i1 := ⟨_, rfl⟩
        have e1 : (i : Int) + 1 = (i1 : Int) := by omega
        have im1 : (i1 : Int) < (M : Int) := by omega
        obtain ⟨b, off, rfl, hbl, hc⟩ := UU.out.spot0 (by omega)
        have ci : wr.cell? ⟨b, off + i1, none⟩ = some (.int .u64 (a i1)) := by rw [BW.out.cell (p := ⟨b, off + i1, none⟩) hbl]; exact hc i1 (by omega)
        have va := UU.out.val (j := i1) (by omega)
        obtain ⟨gf, f, s, f1, f3, f5⟩ := FF.out.below BW.out
        have cg := f1.cell
        have OF : Hid (∀ q, Calls Tryd.prog 34 #[.pointer (some ⟨gf, 0, none⟩), .int .u64 i1, .int .u64 (a i1)] (wr.drewN q) fun e w' => e = .returned (.int .u64 ((i1 : Int) * a i1 % p)) ∧ ∃ k, w' = (wr.drewN q).drewN k) := fun q => mul_any gf p f s _ _ _ (f3.drew q) f5 (by omega) va.1
        have cr := RW.out.cell (i := i) (by omega)
        have fr := RW.out.frozen i
        have xa := XA.out i (by omega)
        rw [e1, hi1] at xa
        have FI : Hid (∀ q, Row ((wr.drewN q).setCell ⟨w.heap.size, i, none⟩ (.int .u64 ((i1 : Int) * a i1 % p))) w.heap.size n (mx X (fun _ => 0) (i + 1)) ∧ Below w.heap.size w ((wr.drewN q).setCell ⟨w.heap.size, i, none⟩ (.int .u64 ((i1 : Int) * a i1 % p)))) := fun q => (RW.out.drew q).put (below_drewN BW.out q) xa
        rw [hi1] at FI
        have wi : IntKind.i64.wrap (i1 : Int) = (i1 : Int) := by rw [IntKind.wrap_i64]; omega
        have wu : IntKind.u64.wrap (i1 : Int) = (i1 : Int) := by rw [IntKind.wrap_u64]; omega
        have wv : IntKind.u64.wrap (i : Int) = (i : Int) := by rw [IntKind.wrap_u64]; omega
        have i1n : Hid (i1 ≤ n) := by show _ ≤ _; omega
        clear xa hi1 im1' im2'
        clear hc XA XC UU va f1 f3 f5 FF HR HB RW BW CU mM
        generalize (i1 : Int) * a i1 % (p : Int) = x at *
        generalize a i1 = ai at *
        generalize mx X (fun _ => 0) i i = yi at *
        go_wp2_with fail
        refine wp_region_last (by kernel_rfl) (by kernel_rfl) (by kernel_rfl) (by kernel_rfl) (by decide) ?_
        simp only [stillLast, still, lastOf]
        repeat (quiet_step ((go_at_call 34; exact Calls.quiet_of (OF.out _))))
        refine wpQuiet_nil ?_
        intro _ hw'
        obtain ⟨nq, hw''⟩ := hw'
        subst hw''
        have F3 := hid (FI.out nq)
        have cr2 : (wr.drewN nq).cell? ⟨w.heap.size, i, none⟩ = some (.int .u64 yi) := by simpa using cr
        have fr2 : (wr.drewN nq).frozen? ⟨w.heap.size, i, none⟩ = false := by simpa using fr
        clear FI OF cr fr ci cg
        generalize wr.drewN nq = w3 at *
        go_wp2
        exact ⟨⟨i1, rfl, i1n.out, F3.out.1, F3.out.2⟩, by simp only [intOf]; omega⟩
end Go.Proofs.YtjgipjiopagkiaaDoor
