/- The forms of the points, and what New answers, in the landed tft. -/
/- What the calls of the landed tft answer. -/
/- Products, in the landed tft. -/
import Derived.Test.YtocfenjampmdlaaGreatDoorRgu
import Derived.OwnWalk
import Derived.Test.YtocfenjampmdlaaGreatDoorUi
namespace Go.Proofs.YtocfenjampmdlaaGreatDoor
open Go.RowKit Num Nmb

/-- what formsOfPoints answers. -/
def FrmP (w w' : World) (p r k n : Nat) (e : Ending) : Prop := ∃ gm, e = .returned (.slice (some ⟨gm, 0, none⟩) n n) ∧ Row w' gm n (fmp p r k) ∧ w.heap.size ≤ gm
set_option maxHeartbeats 1600000 in
theorem formsp_any (gf p r k n : Nat) (f s : Int) (w : World) (F : Fld w gf p f s) (OK : Ok p f s) (hk : k ≤ 20) (hn : n = 2 ^ k / 2) (ho : 0 < n → (p : Int) % 2 = 1) :
    Calls Tryz.prog 84 #[.pointer (some ⟨gf, 0, none⟩), .int .u64 r, .int .i64 k] w fun e w' => FrmP w w' p r k n e ∧ Below w.heap.size w w' := by
  have h2 := OK.h2
  have l20 : 2 ^ k ≤ 2 ^ 20 := Nat.pow_le_pow_right (by decide) hk
  have FF := hid F
  have lt := F.lt
  have K1 : Hid (0 < n → n = 2 ^ (k - 1) ∧ (k : Int) - 1 = ((k - 1 : Nat) : Int)) := fun h => by
    have : k ≠ 0 := by
      rintro rfl
      rw [hn] at h
      simp at h
    obtain ⟨j, rfl⟩ : ∃ j, k = j + 1 := ⟨k - 1, by omega⟩
    rw [hn, Nat.pow_succ]
    exact ⟨by rw [show j + 1 - 1 = j from rfl]; omega, by omega⟩
  have IN : Hid (∀ W x, Fld W gf p f s → 0 ≤ x → 0 < n → Calls Tryz.prog 71 #[.pointer (some ⟨gf, 0, none⟩), .int .u64 x] W fun e w' => e = .returned (.tuple #[.int .u64 (x * 18446744073709551616 % p), .int .i64 0]) ∧ ∃ k, w' = W.drewN k) := fun W x F hx h => in_form gf p f s x W F OK hx (ho h)
  have MU : Hid (∀ W x, Fld W gf p f s → 0 ≤ x → Calls Tryz.prog 67 #[.pointer (some ⟨gf, 0, none⟩), .int .u64 x, .int .u64 r] W fun e w' => e = .returned (.int .u64 (x * r % p)) ∧ ∃ k, w' = W.drewN k) := fun W x F hx => mul_any gf p f s x r W F OK hx (by omega)
  have e2 : (2 : Int) ^ k = ((2 ^ k : Nat) : Int) := (Int.natCast_pow 2 k).symm
  have dq : Int.tdiv ((2 ^ k : Nat) : Int) 2 = (n : Int) := by rw [Int.tdiv_eq_ediv_of_nonneg (by omega), hn]; omega
  have n20 : n ≤ 1048576 := by omega
  have k20 : k ≤ 20 := hk
  clear hn ho OK F
  generalize 2 ^ k = NN at *
  go_enter Tryz.func84, Tryz.ntmps84
  go_wp2_with (at_make; refine wp_make _ rfl _ _ rfl _ _ n rfl rfl (by omega) (by omega) (by omega) ?_; intro w1 R1 C1 Z1; have HR := hid R1; have HC := hid C1; clear R1 C1 Z1)
  go_loopw [16, 8] (fun iv pv wr => ∃ (i : Nat) (pw : Int) (fm : Nat → Int), iv = .int .i64 i ∧ pv = .int .u64 pw ∧ i ≤ n ∧ 0 ≤ pw ∧ Hid (pw = (r : Int) ^ i % p) ∧ Hid (∀ j, j < i → fm (rv (k - 1) j) = (r : Int) ^ j * 18446744073709551616 % p) ∧ Hid (Row wr w.heap.size n fm) ∧ Hid (Below w.heap.size w wr)) (fun iv _ _ => ((n : Int) - intOf iv).toNat)
  case atStart => exact ⟨0, 1, _, rfl, rfl, Nat.zero_le _, by omega, by show (1 : Int) = _; rw [Int.pow_zero, Int.emod_eq_of_lt (by omega) (by omega)], fun j hj => absurd hj (by omega), HR.out, HC.out⟩
  case round =>
    obtain ⟨i, pw, fm, rfl, rfl, hi, hpw, HP, HFM, RW, BW⟩ := hrel
    by_cases him : i = n
    · have him' : ¬ (i : Int) < (n : Int) := by omega
      obtain rfl := him
      have D : Hid (FrmP w wr p r k i (.returned (.slice (some ⟨w.heap.size, 0, none⟩) i i))) := ⟨_, rfl, RW.out.eq (fun j hj => by
        have hk1 := (K1.out (by omega)).1
        have h3 := HFM.out (rv (k - 1) j) (by
          have := rv_lt (k - 1) j
          omega)
        rw [rv_rv (k - 1) j (by omega)] at h3
        exact h3), Nat.le_refl _⟩
      clear HR HC IN MU FF HP HFM RW K1
      go_wp2
      go_ret
      exact ⟨D.out, BW.out⟩
    · have him' : (i : Int) < (n : Int) := by omega
      obtain ⟨hk1, hk2⟩ := K1.out (by omega)
      have lr : rv (k - 1) i < n := by
        have := rv_lt (k - 1) i
        omega
      have lr' : ((rv (k - 1) i : Nat) : Int) < (n : Int) := by omega
      have TU := hid (turned_any i (k - 1) wr (by omega) (by omega))
      have Fi := hid (FF.out.below BW.out lt)
      have I1 := hid (IN.out wr pw Fi.out hpw (by omega))
      have M1 : Hid (∀ W, Fld W gf p f s → Calls Tryz.prog 67 #[.pointer (some ⟨gf, 0, none⟩), .int .u64 pw, .int .u64 r] W fun e w' => e = .returned (.int .u64 (pw * r % p)) ∧ ∃ k, w' = W.drewN k) := fun W F => MU.out W pw F hpw
      have cl := RW.out.cell (i := rv (k - 1) i) lr
      have fl := RW.out.frozen (rv (k - 1) i)
      have NX : Hid (∀ W q, Row W w.heap.size n fm → Below w.heap.size w W → Fld W gf p f s → Hid (pw * r % p = (r : Int) ^ (i + 1) % p) ∧ Hid (∀ j, j < i + 1 → (fun t => if t = rv (k - 1) i then pw * 18446744073709551616 % p else fm t) (rv (k - 1) j) = (r : Int) ^ j * 18446744073709551616 % p) ∧ Hid (Row ((W.setCell ⟨w.heap.size, rv (k - 1) i, none⟩ (.int .u64 (pw * 18446744073709551616 % p))).drewN q) w.heap.size n (fun t => if t = rv (k - 1) i then pw * 18446744073709551616 % p else fm t)) ∧ Hid (Below w.heap.size w ((W.setCell ⟨w.heap.size, rv (k - 1) i, none⟩ (.int .u64 (pw * 18446744073709551616 % p))).drewN q))) := by
        intro W q R B F
        have hp := HP.out
        refine ⟨?_, ?_, (R.set _ _ (fun j _ => rfl)).drew q, below_drewN (below_set B (Nat.le_refl _) _ _) q⟩
        · show pw * r % p = _
          rw [hp, Int.pow_succ, Int.mul_emod, Int.emod_emod_of_dvd _ (Int.dvd_refl _), ← Int.mul_emod]
        · intro j hj
          show (if rv (k - 1) j = rv (k - 1) i then pw * 18446744073709551616 % p else fm (rv (k - 1) j)) = _
          by_cases e : j = i
          · subst e
            rw [if_pos rfl, hp, Int.mul_emod, Int.emod_emod_of_dvd _ (Int.dvd_refl _), ← Int.mul_emod]
          · have ne : rv (k - 1) j ≠ rv (k - 1) i := fun h => e (rv_inj (k := k - 1) (by omega) (by omega) h)
            rw [if_neg ne]
            exact HFM.out j (by omega)
      have v1b : 0 ≤ pw * r % (p : Int) := Int.emod_nonneg _ (by omega)
      have R1 := hid RW.out
      have B1 := hid BW.out
      have FS : Hid (∀ W v, Fld W gf p f s → Fld (W.setCell ⟨w.heap.size, rv (k - 1) i, none⟩ v) gf p f s) := fun W v F => F.other (by omega) _ _
      clear HR HC IN MU FF HP HFM RW BW K1 hk1
      generalize pw * 18446744073709551616 % (p : Int) = v1 at *
      generalize pw * r % (p : Int) = v2 at *
      generalize rv (k - 1) i = t at *
      go_wp2_with fail
      refine TU.out.mono ?_
      rintro e w7 ⟨rfl, hw⟩
      obtain rfl := hw.symm
      go_wp2_with fail
      refine I1.out.mono ?_
      rintro e w7 ⟨rfl, q, rfl⟩
      have N1 := hid (fun q' => NX.out _ q' (R1.out.drew q) (below_drewN B1.out q) (Fi.out.drew q))
      have M2 := hid (M1.out _ (FS.out _ (.int .u64 v1) (Fi.out.drew q)))
      have cl2 : (wr.drewN q).cell? ⟨w.heap.size, t, none⟩ = some (.int .u64 (fm t)) := by simpa using cl
      have fl2 : (wr.drewN q).frozen? ⟨w.heap.size, t, none⟩ = false := by simpa using fl
      clear TU I1 M1 cl fl NX R1 B1 FS Fi
      generalize wr.drewN q = w8 at *
      go_wp2_with fail
      refine M2.out.mono ?_
      rintro e w9 ⟨rfl, q2, rfl⟩
      have N2 := hid (N1.out q2)
      clear M2 N1 cl2 fl2
      generalize (w8.setCell ⟨w.heap.size, t, none⟩ (.int .u64 v1)).drewN q2 = w10 at *
      go_wp2
      exact ⟨⟨i + 1, v2, _, rfl, rfl, by omega, v1b, N2.out.1, N2.out.2.1, N2.out.2.2.1, N2.out.2.2.2⟩, by simp only [intOf]; omega⟩
set_option maxHeartbeats 1600000 in
theorem tnew_limit (p : Nat) (k : Int) (w : World) (hk : 20 < k) :
    Calls Tryz.prog 64 #[.int .u64 p, .int .i64 k] w fun e w' => e = .returned (.tuple #[.pointer none, .int .i64 13]) ∧ Below w.heap.size w w' := by
  go_enter Tryz.func64, Tryz.ntmps64
  go_wp2
  go_ret2
  exact ⟨rfl, Below.refl _ _⟩
set_option maxHeartbeats 1600000 in
theorem tnew_prime (p : Nat) (k : Int) (w : World) (hn : p ≤ 18446744073709551615) (hk : k ≤ 20) (hb : isB p = false) (L : Lay w) :
    Calls Tryz.prog 64 #[.int .u64 p, .int .i64 k] w fun e w' => e = .returned (.tuple #[.pointer none, .int .i64 14]) ∧ Below w.heap.size w w' := by
  have R := hid (root_no p k w hn hb L)
  have hk' : ¬ (20 : Int) < k := by omega
  clear hb L
  go_enter Tryz.func64, Tryz.ntmps64
  go_wp2_with fail
  refine R.out.mono ?_
  rintro e w1 ⟨rfl, c, rfl⟩
  have BB := hid (below_drewN (Below.refl w.heap.size w) c)
  go_wp2
  go_ret2
  exact ⟨rfl, BB.out⟩
set_option maxHeartbeats 1600000 in
theorem tnew_arg (p : Nat) (k : Int) (w : World) (hp : Pri p) (h63 : p < 9223372036854775808) (hk : k ≤ 20) (ha : k < 0 ∨ (tw p : Int) < k) (L : Lay w) :
    Calls Tryz.prog 64 #[.int .u64 p, .int .i64 k] w fun e w' => e = .returned (.tuple #[.pointer none, .int .i64 1]) ∧ Below w.heap.size w w' := by
  have R := hid (root_arg p k w (isB_of_pri hp (by omega)) h63 ha L)
  have hk' : ¬ (20 : Int) < k := by omega
  clear hp ha L
  go_enter Tryz.func64, Tryz.ntmps64
  go_wp2_with fail
  refine R.out.mono ?_
  rintro e w1 ⟨rfl, B⟩
  have BB := hid B
  clear B
  go_wp2
  go_ret2
  exact ⟨rfl, BB.out⟩
set_option maxHeartbeats 3200000 in
theorem tnew_yes (p k : Nat) (w : World) (hp : Pri p) (h63 : p < 9223372036854775808) (hk : k ≤ 20) (ha : k ≤ tw p) (L : Lay w) :
    Calls Tryz.prog 64 #[.int .u64 p, .int .i64 k] w fun e w' => (∃ g r, e = .returned (.tuple #[.pointer (some ⟨g, 0, none⟩), .int .i64 0]) ∧ Pln w' g p k r) ∧ Below w.heap.size w w' := by
  have R := hid (root_any p k w hp h63 ha L)
  have hk' : ¬ (20 : Int) < (k : Int) := by omega
  have HP := hid hp
  have HA := hid ha
  have p2 := hp.1
  have NW : Hid (∀ w : World, Calls Tryz.prog 69 #[.int .u64 p] w fun e w' => e = .returned (.tuple #[.pointer (some ⟨w.heap.size, 0, none⟩), .int .i64 0]) ∧ Below w.heap.size w w' ∧ ∃ f s, Fld w' w.heap.size p f s ∧ Ok p f s) := fun w => new_any p w (by omega) (by omega)
  have N0 : Hid (0 < 2 ^ k / 2 → 0 < k) := fun h => by
    apply Nat.pos_of_ne_zero
    intro e
    rw [e] at h
    simp at h
  obtain ⟨M, hM⟩ : ∃ M, M = 2 ^ k / 2 := ⟨_, rfl⟩
  rw [← hM] at N0
  have HM := hid hM
  clear hp ha L hM
  go_enter Tryz.func64, Tryz.ntmps64
  go_wp2_with fail
  refine R.out.mono ?_
  rintro e w1 ⟨⟨y, rfl, Y⟩, B1⟩
  have BB1 := hid B1
  have YY := hid Y
  clear B1 Y R
  go_wp2_with fail
  refine (NW.out _).mono ?_
  rintro e w2 ⟨rfl, B2, f, s, F, O⟩
  have BB2 := hid (BB1.out.trans (B2.mono BB1.out.size))
  have TO : TabOk p k y := ⟨HP.out, h63, hk, HA.out, YY.out.2⟩
  have FR := hid (formsp_any w1.heap.size p y k M f s w2 F O hk HM.out (fun h => TO.odd (N0.out h)))
  have TT := hid TO
  have FF := hid F
  have OO := hid O
  clear B2 F O BB1 NW TO
  generalize w1.heap.size = gf at *
  go_wp2_with fail
  refine FR.out.mono ?_
  rintro e w3 ⟨X, B3⟩
  obtain ⟨gm, rfl, R3, l3⟩ := X
  have BB3 := hid (BB2.out.trans (B3.mono BB2.out.size))
  have FF3 := hid (FF.out.below B3 FF.out.lt)
  have RR3 := hid R3
  clear B3 R3 l3 FR FF BB2
  go_wp2
  go_ret2
  have A3 : Below w3.heap.size w3 (w3.alloc (.cells #[.pointer (some ⟨gf, 0, none⟩), .int .i64 k, .int .u64 y, .slice (some ⟨gm, 0, none⟩) M M] 112 (0, 0))) := (Below.refl _ _).alloc (Nat.le_refl _) _
  refine ⟨⟨_, y, rfl, TT.out, gf, gm, M, f, s, ⟨heap_alloc_new w3 _, FF3.out.below A3 FF3.out.lt, RR3.out.below A3 RR3.out.lt⟩, HM.out, OO.out⟩, BB3.out.alloc BB3.out.size _⟩
end Go.Proofs.YtocfenjampmdlaaGreatDoor
namespace Go.Proofs.YtocfenjampmdlaaGreatDoor
open Go.RowKit Num Nmb

set_option maxHeartbeats 800000 in
theorem tmul_nil (u v : Value) (n m : Nat) (a b : Nat → Int) (w : World) (_U : Wl w u n a) (_V : Wl w v m b) : Calls Tryz.prog 46 #[.pointer none, u, v] w fun e w' => (∃ v, e = .returned (.tuple #[v, .int .i64 2])) ∧ Below w.heap.size w w' := by
  have B := hid (Below.refl w.heap.size w)
  clear _U _V
  go_enter Tryz.func46, Tryz.ntmps46
  go_wp2
  go_ret2
  exact ⟨⟨_, rfl⟩, B.out⟩
set_option maxHeartbeats 800000 in
theorem tmul_none (g p k r : Nat) (u v : Value) (n m : Nat) (a b : Nat → Int) (w : World) (_T : Pln w g p k r) (U : Wl w u n a) (V : Wl w v m b) (h : n = 0 ∨ m = 0) :
    Calls Tryz.prog 46 #[.pointer (some ⟨g, 0, none⟩), u, v] w fun e w' => (∃ ao cap, e = .returned (.tuple #[.slice ao 0 cap, .int .i64 0]) ∧ Wl w' (.slice ao 0 cap) 0 a) ∧ Below w.heap.size w w' := by
  have B := hid (Below.refl w.heap.size w)
  have W := hid (Wl.nil w a)
  obtain ⟨ao, cap, rfl, -⟩ := U
  obtain ⟨bo, bap, rfl, -⟩ := V
  clear _T
  by_cases n0 : n = 0
  · subst n0
    go_enter Tryz.func46, Tryz.ntmps46
    go_wp2
    go_ret2
    exact ⟨⟨_, _, rfl, W.out⟩, B.out⟩
  · obtain rfl : m = 0 := by omega
    have n0' : ((n : Int) == 0) = false := beq_eq_false_iff_ne.2 (by omega)
    go_enter Tryz.func46, Tryz.ntmps46
    go_wp2
    go_ret2
    exact ⟨⟨_, _, rfl, W.out⟩, B.out⟩
set_option maxHeartbeats 800000 in
theorem tmul_limit (g p k r : Nat) (u v : Value) (n m : Nat) (a b : Nat → Int) (w : World) (T : Pln w g p k r) (U : Wl w u n a) (V : Wl w v m b) (hn : 0 < n) (hm : 0 < m) (h : 2 ^ k < n + m - 1) (hs : n + m ≤ 9223372036854775807) :
    Calls Tryz.prog 46 #[.pointer (some ⟨g, 0, none⟩), u, v] w fun e w' => (∃ ao cap, e = .returned (.tuple #[.slice ao 0 cap, .int .i64 13])) ∧ Below w.heap.size w w' := by
  have B := hid (Below.refl w.heap.size w)
  have l20 : 2 ^ k ≤ 2 ^ 20 := Nat.pow_le_pow_right (by decide) T.ok.k20
  obtain ⟨ao, cap, rfl, -⟩ := U
  obtain ⟨bo, bap, rfl, -⟩ := V
  have MA := hid (tmost_any g p k r w T)
  have n0' : ((n : Int) == 0) = false := beq_eq_false_iff_ne.2 (by omega)
  have m0' : ((m : Int) == 0) = false := beq_eq_false_iff_ne.2 (by omega)
  have w1 : IntKind.i64.wrap ((n : Int) + (m : Int)) = (n : Int) + (m : Int) := by rw [IntKind.wrap_i64]; omega
  have w2 : ((2 ^ k : Nat) : Int) + 2 ≤ (n : Int) + (m : Int) := by omega
  clear T h
  generalize 2 ^ k = N at *
  go_enter Tryz.func46, Tryz.ntmps46
  go_wp2_with fail
  refine MA.out.mono ?_
  rintro e w3 ⟨rfl, hw⟩
  obtain rfl := hw.symm
  go_wp2
  go_ret2
  exact ⟨⟨_, _, rfl⟩, B.out⟩
end Go.Proofs.YtocfenjampmdlaaGreatDoor
namespace Go.Proofs.YtocfenjampmdlaaGreatDoor
open Go.RowKit Num Nmb

set_option maxHeartbeats 1600000 in
set_option maxRecDepth 100000 in
theorem tmul_any (g p k r : Nat) (u v : Value) (n m : Nat) (a b : Nat → Int) (w : World) (T : Pln w g p k r) (U : Wl w u n a) (V : Wl w v m b) (hn : 0 < n) (hm : 0 < m) (h : n + m - 1 ≤ 2 ^ k) :
    Calls Tryz.prog 46 #[.pointer (some ⟨g, 0, none⟩), u, v] w fun e w' => (∃ ao cap, e = .returned (.tuple #[.slice ao (n + m - 1 : Nat) cap, .int .i64 0]) ∧ Wl w' (.slice ao (n + m - 1) cap) (n + m - 1) (fun j => prd a b n m j % p)) ∧ Below w.heap.size w w' := by
  have p2 := T.ok.pri.1
  have p63 := T.ok.h63
  have l20 : 2 ^ k ≤ 1048576 := Nat.pow_le_pow_right (n := 2) (j := 20) (by decide) T.ok.k20
  have TO := T.ok
  obtain ⟨M, hM⟩ : ∃ M, M = n + m - 1 := ⟨_, rfl⟩
  have MA := hid (tmost_any g p k r w T)
  have VA := hid (values_some g p k r u n M a w T U (by omega) (by omega) (by omega))
  have VB : Hid (∀ w1, Below w.heap.size w w1 → Calls Tryz.prog 66 #[.pointer (some ⟨g, 0, none⟩), v, .int .i64 M] w1 fun e w' => e = .returned (.slice (some ⟨w1.heap.size, 0, none⟩) M M) ∧ (∃ N X, Row w' w1.heap.size N X ∧ M ≤ N ∧ N ≤ 1048576 ∧ ∀ j, j < M → X j = ev b m ((r : Int) ^ rv k j) % p) ∧ Below w1.heap.size w1 w') := fun w1 B => values_some g p k r v m M b w1 (T.below B) (V.below B) (by omega) (by omega) (by omega)
  obtain ⟨ao, cap, rfl, -⟩ := U
  obtain ⟨bo, bap, rfl, -⟩ := V
  obtain ⟨_, gf, gm, hh, f, s, TF, hh2, OK⟩ := T
  have TT := hid TF
  have lt := TF.lt
  have PL : Hid (∀ W, PlnF W g gf gm p k r hh f s → Pln W g p k r) := fun W F => ⟨TO, gf, gm, hh, f, s, F, hh2, OK⟩
  have CO : Hid (∀ W gv (z : Nat → Int), PlnF W g gf gm p k r hh f s → Wl W (.slice (some ⟨gv, 0, none⟩) M M) M z → Calls Tryz.prog 68 #[.pointer (some ⟨g, 0, none⟩), .slice (some ⟨gv, 0, none⟩) M M] W fun e w' => e = .returned (.slice (some ⟨W.heap.size, 0, none⟩) M M) ∧ (∃ b, Wl w' (.slice (some ⟨W.heap.size, 0, none⟩) M M) M b ∧ Fnd p k r M z b) ∧ Below W.heap.size W w') := fun W gv z F Z => coefs_some g p k r _ M z W (PL.out W F) Z (by omega) (by omega)
  have MU : Hid (∀ W x y, Fld W gf p f s → 0 ≤ x → 0 ≤ y → Calls Tryz.prog 67 #[.pointer (some ⟨gf, 0, none⟩), .int .u64 x, .int .u64 y] W fun e w' => e = .returned (.int .u64 (x * y % p)) ∧ ∃ k, w' = W.drewN k) := fun W x y F hx hy => mul_any gf p f s x y W F OK hx hy
  have em : ∀ x : Int, 0 ≤ x % (p : Int) ∧ x % (p : Int) < p := fun x => ⟨Int.emod_nonneg _ (by omega), Int.emod_lt_of_pos _ (by omega)⟩
  have EM := hid em
  have FIN : Hid (∀ (w' : World) (sv : Value) (c z : Nat → Int), (∀ j, j < M → z j = ev a n ((r : Int) ^ rv k j) % p * (ev b m ((r : Int) ^ rv k j) % p) % p) → Wl w' sv M c → Fnd p k r M z c → Wl w' sv M (fun j => prd a b n m j % p)) := by
    intro w' sv c z hz W F
    refine W.eq fun j hj => ?_
    refine F.is TO (by omega) (fun i hi => ?_) j hj
    rw [hz i hi, ev_prd a b (by omega), Int.emod_emod_of_dvd _ (Int.dvd_refl _), ← Int.mul_emod]
  have n0' : ((n : Int) == 0) = false := beq_eq_false_iff_ne.2 (by omega)
  have m0' : ((m : Int) == 0) = false := beq_eq_false_iff_ne.2 (by omega)
  have w1 : IntKind.i64.wrap ((n : Int) + (m : Int)) = (n : Int) + (m : Int) := by rw [IntKind.wrap_i64]; omega
  have w2 : ¬ ((2 ^ k : Nat) : Int) + 2 ≤ (n : Int) + (m : Int) := by omega
  have w3 : (n : Int) + (m : Int) - 1 = (M : Int) := by omega
  have w4 : IntKind.i64.wrap (M : Int) = (M : Int) := by rw [IntKind.wrap_i64]; omega
  have M20 : M ≤ 1048576 := by omega
  rw [← hM]
  clear TF OK hM h TO hh2 PL em
  generalize 2 ^ k = Nk at *
  go_enter Tryz.func46, Tryz.ntmps46
  go_wp2_with fail
  refine MA.out.mono ?_
  rintro e w3 ⟨rfl, hw⟩
  obtain rfl := hw.symm
  go_wp2_with fail
  refine VA.out.mono ?_
  rintro e w5 ⟨rfl, ⟨N, X, R1, hMN, hN2, hX⟩, B1⟩
  have V2 := hid (VB.out w5 B1)
  have lt5 := R1.lt
  have RR1 := hid R1
  have BB1 := hid B1
  have HX := hid hX
  clear R1 B1 hX VA VB MA
  go_wp2_with fail
  refine V2.out.mono ?_
  rintro e w6 ⟨rfl, ⟨N2, X2, R2, hMN2, hN22, hX2⟩, B2⟩
  have RV := hid (RR1.out.below B2 lt5)
  have RO := hid R2
  have BB2 := hid (BB1.out.trans (B2.mono BB1.out.size))
  have T6 := hid (TT.out.below BB2.out lt)
  have HX2 := hid hX2
  have ne : w5.heap.size ≠ w.heap.size := by omega
  have d3 : g ≠ w.heap.size ∧ gf ≠ w.heap.size ∧ gm ≠ w.heap.size := by omega
  have D3 := hid d3
  clear RR1 BB1 R2 B2 V2 TT hX2 d3 lt lt5
  obtain ⟨gv, hgv⟩ : ∃ gv, gv = w.heap.size := ⟨_, rfl⟩
  have HG := hid hgv
  rw [← hgv] at RV BB2 D3 ne ⊢
  clear hgv
  generalize w5.heap.size = go at *
  go_wp2
  go_loopw [50] (fun iv wr => ∃ (i : Nat) (Z : Nat → Int), iv = .int .i64 i ∧ i ≤ M ∧ Hid (∀ j, j < N → Z j = if j < i then X j * X2 j % p else X j) ∧ Hid (Row wr gv N Z) ∧ Hid (OnlyB gv w6 wr)) (fun iv _ => ((M : Int) - intOf iv).toNat)
  case atStart => exact ⟨0, X, rfl, Nat.zero_le _, fun j _ => by rw [if_neg (by omega)], RV.out, OnlyB.refl _ _⟩
  case round =>
    obtain ⟨i, Z, rfl, hi, HZ, Ri, Oi⟩ := hrel
    by_cases him : i = M
    · have him' : ¬ (i : Int) < (M : Int) := by omega
      obtain rfl := him
      have ZW : Wl wr (.slice (some ⟨gv, 0, none⟩) i i) i Z := ⟨_, i, rfl, Nat.le_refl _, by omega, fun j hj => by
        rw [HZ.out j (by omega), if_pos hj]
        have := EM.out (X j * X2 j)
        omega, fun _ => ⟨gv, 0, rfl, Ri.out.lt, fun j hj => by rw [Nat.zero_add]; exact Ri.out.cell (by omega)⟩⟩
      have C1 := hid (CO.out wr gv Z (T6.out.only Oi.out D3.out) ZW)
      have hz : Hid (∀ j, j < i → Z j = ev a n ((r : Int) ^ rv k j) % p * (ev b m ((r : Int) ^ rv k j) % p) % p) := fun j hj => by rw [HZ.out j (by omega), if_pos hj, HX.out j hj, HX2.out j hj]
      have B7 := hid (BB2.out.trans (Oi.out.below))
      clear ZW CO HZ Ri Oi RV RO BB2 T6 HX HX2 MU D3 EM
      go_wp2_with fail
      refine C1.out.mono ?_
      rintro e w7 ⟨rfl, ⟨c, W7, F7⟩, B8⟩
      have G := hid (FIN.out w7 _ c Z hz.out W7 F7)
      have B9 := hid (B7.out.trans (B8.mono (by have := B7.out.size; have := HG.out; omega)))
      clear C1 W7 F7 B8 B7 hz FIN
      go_wp2
      go_ret2
      refine ⟨⟨_, _, rfl, G.out⟩, ?_⟩
      rw [← HG.out]
      exact B9.out
    · have him' : (i : Int) < (M : Int) := by omega
      have hi' : i < M := by omega
      have Ti := T6.out.only Oi.out D3.out
      have cf := Ti.tc.cell0
      have cl := Ri.out.cell (i := i) (by omega)
      have fl := Ri.out.frozen i
      have co := (RO.out.only Oi.out ne).cell (i := i) (by omega)
      rw [HZ.out i (by omega), if_neg (by omega)] at cl
      have x0 : 0 ≤ X i := by rw [HX.out i hi']; exact (EM.out _).1
      have y0 : 0 ≤ X2 i := by rw [HX2.out i hi']; exact (EM.out _).1
      have M1 := hid (fun q => MU.out (wr.drewN q) (X i) (X2 i) (Ti.fld.drew q) x0 y0)
      have N1 : Hid (∀ q, Hid (∀ j, j < N → (fun t => if t = i then X i * X2 i % p else Z t) j = if j < i + 1 then X j * X2 j % p else X j) ∧ Hid (Row ((wr.drewN q).setCell ⟨gv, i, none⟩ (.int .u64 (X i * X2 i % p))) gv N (fun t => if t = i then X i * X2 i % p else Z t)) ∧ Hid (OnlyB gv w6 ((wr.drewN q).setCell ⟨gv, i, none⟩ (.int .u64 (X i * X2 i % p))))) := fun q =>
        ⟨fun j hj => by
          show (if j = i then X i * X2 i % p else Z j) = _
          by_cases e : j = i
          · rw [if_pos e, if_pos (by omega), e]
          · rw [if_neg e, HZ.out j hj]
            by_cases e2 : j < i
            · rw [if_pos e2, if_pos (by omega)]
            · rw [if_neg e2, if_neg (by omega)], (Ri.out.drew q).set i _ (fun _ _ => rfl), (Oi.out.drew q).set _ _⟩
      clear Ti x0 y0 MU CO HZ Ri Oi RV RO BB2 T6 HX HX2 D3 EM FIN
      generalize X i * X2 i % (p : Int) = v1 at *
      go_wp2_with fail
      refine wp_region_last (by kernel_rfl) (by kernel_rfl) (by kernel_rfl) (by kernel_rfl) (by decide) ?_
      simp only [stillLast, still, lastOf]
      repeat (quiet_step ((go_at_call 67; exact Calls.quiet_of (M1.out _))))
      refine wpQuiet_nil ?_
      intro _ hw'
      obtain ⟨nq, hw''⟩ := hw'
      subst hw''
      have N2 := hid (N1.out nq)
      have cl2 : (wr.drewN nq).cell? ⟨gv, i, none⟩ = some (.int .u64 (X i)) := by simpa using cl
      have fl2 : (wr.drewN nq).frozen? ⟨gv, i, none⟩ = false := by simpa using fl
      clear cf cl fl co M1 N1
      generalize wr.drewN nq = w8 at *
      go_wp2
      exact ⟨⟨i + 1, _, rfl, by omega, N2.out.1, N2.out.2.1, N2.out.2.2⟩, by simp only [intOf]; omega⟩
end Go.Proofs.YtocfenjampmdlaaGreatDoor
