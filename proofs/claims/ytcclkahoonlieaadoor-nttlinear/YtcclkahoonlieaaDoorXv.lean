/- A pair of the landed ntt: together, and the two functions of values. -/
/- A number's last bits, by a mask. -/
/- The functions of values, in the landed ntt. -/
/- The two loops of values, in the landed ntt. -/
/- Values, in the landed ntt. -/
import Derived.Test.YtcclkahoonlieaaDoorXc
import Derived.Test.YtcclkahoonlieaaDoorXt
import Derived.Test.YtcclkahoonlieaaDoorVa
import Derived.Test.YtcclkahoonlieaaDoorQf
import Derived.Test.YtcclkahoonlieaaDoorRgt
import Derived.Test.YtcclkahoonlieaaDoorQo
import Derived.Laws.BitsLemmas
import Derived.WalkMore
namespace Go.Proofs.YtcclkahoonlieaaDoor
open Go.RowKit Num Nmb

/-- the pair. -/
def prw (z : Nat → Int) (p : Nat) (x : Int) (i h : Nat) (j : Nat) : Int := if j = i then (z i + z (i + h) * x % p) % p else if j = i + h then (z i - z (i + h) * x % p) % p else z j
set_option maxHeartbeats 3200000 in
set_option maxRecDepth 100000 in
theorem together_any {w : World} {g gf gm gr p k r hh N : Nat} {f s : Int} {z : Nat → Int} (T : TabF w g gf gm p k r hh f s) (OK : Ok p f s) (R : Row w gr N z) (D : g ≠ gr ∧ gf ≠ gr ∧ gm ≠ gr) (i H : Nat) (hi : i + H < N) (h0 : 0 < H) (hN : N ≤ 1048576) (hz : ∀ j, j < N → 0 ≤ z j ∧ z j < p) (x y : Int) (hy : 0 ≤ y) (ho : (p : Int) % 2 = 1) (hxy : y % p = x * 18446744073709551616 % p) :
    Calls Tryd.prog 58 #[.pointer (some ⟨g, 0, none⟩), .slice (some ⟨gr, 0, none⟩) N N, .int .i64 i, .int .i64 H, .int .u64 y] w fun e w' =>
      e = .returned (.tuple #[]) ∧ OnlyB gr w w' ∧ Row w' gr N (prw z p x i H) := by
  have cf := T.tc.cell0
  have c1 := R.cell (i := i) (by omega)
  have c2 := R.cell (i := i + H) hi
  have f1 := R.frozen i
  have f2 := R.frozen (i + H)
  have z1 := hz i (by omega)
  have z2 := hz (i + H) hi
  have p2 := OK.h2
  have FF := hid T.fld
  have OO := hid OK
  have RR := hid R
  have m0 := Int.emod_nonneg (z (i + H) * x) (show (p : Int) ≠ 0 by omega)
  have M := hid (fun c => times_form gf p f s (z (i + H)) y x (w.drewN c) (FF.out.drew c) OO.out z2.1 hy ho hxy)
  have q0 : (0 : Int) ≤ (i : Int) + (H : Int) := by omega
  have q1 : (i : Int) + (H : Int) < (N : Int) := by omega
  have q2 : (i : Int) < (N : Int) := by omega
  have qn : ((i : Int) + (H : Int)).toNat = i + H := by omega
  have qw : IntKind.i64.wrap ((i : Int) + (H : Int)) = (i : Int) + (H : Int) := by rw [IntKind.wrap_i64]; omega
  have SA : Hid (∀ W : World, W.heap = w.heap → Calls Tryd.prog 72 #[.pointer (some ⟨gf, 0, none⟩), .int .u64 (z i), .int .u64 (z (i + H) * x % p)] W fun e w' => e = .returned (.int .u64 ((z i + z (i + H) * x % p) % p)) ∧ w' = W) := fun W e => add_any gf p f s _ _ W (FF.out.heap e) OO.out z1.1 m0
  have SS : Hid (∀ W : World, W.heap = w.heap → Calls Tryd.prog 73 #[.pointer (some ⟨gf, 0, none⟩), .int .u64 (z i), .int .u64 (z (i + H) * x % p)] W fun e w' => e = .returned (.int .u64 ((z i - z (i + H) * x % p) % p)) ∧ w' = W) := fun W e => sub_any gf p f s _ _ W (FF.out.heap e) OO.out z1.1 m0
  have FIN : Hid (∀ W : World, W.heap = w.heap → W.os = w.os → W.tape = w.tape → W.output = w.output → Row ((W.setCell ⟨gr, i, none⟩ (.int .u64 ((z i + z (i + H) * x % p) % p))).setCell ⟨gr, i + H, none⟩ (.int .u64 ((z i - z (i + H) * x % p) % p))) gr N (prw z p x i H) ∧ OnlyB gr w ((W.setCell ⟨gr, i, none⟩ (.int .u64 ((z i + z (i + H) * x % p) % p))).setCell ⟨gr, i + H, none⟩ (.int .u64 ((z i - z (i + H) * x % p) % p)))) := by
    intro W e1 e2 e3 e4
    have R0 : Row W gr N z := by
      obtain ⟨cur, h1, h2, h3⟩ := RR.out
      exact ⟨cur, by rw [e1]; exact h1, h2, h3⟩
    have O0 : OnlyB gr w W := ⟨e2, e3, e4, by rw [e1], fun k _ => by rw [e1]⟩
    refine ⟨(R0.set i _ (fun j _ => rfl)).set (i + H) _ (fun j _ => ?_), (O0.set i _).set (i + H) _⟩
    show prw z p x i H j = if j = i + H then _ else if j = i then _ else z j
    unfold prw
    by_cases ej : j = i
    · rw [if_pos ej, if_neg (by omega), if_pos ej]
    · rw [if_neg ej]
      by_cases ej2 : j = i + H
      · rw [if_pos ej2, if_pos ej2]
      · rw [if_neg ej2, if_neg ej2, if_neg ej]
  have d5 := D.1
  clear T R D OK hz z1 z2 RR FF hxy hy
  generalize z (i + H) * x % (p : Int) = t at *
  generalize (z i + t) % (p : Int) = v1 at *
  generalize (z i - t) % (p : Int) = v2 at *
  go_enter Tryd.func58, Tryd.ntmps58
  go_wp2_with fail
  go_quiet ((go_at_call 71; exact Calls.quiet_of (M.out _)))
  rename_i nq
  have hw0 : (w.drewN nq).heap = w.heap := by simp
  have HW0 := hid hw0
  have cf' : (w.drewN nq).cell? ⟨g, 0, none⟩ = some (.pointer (some ⟨gf, 0, none⟩)) := by simpa using cf
  have c1' : (w.drewN nq).cell? ⟨gr, i, none⟩ = some (.int .u64 (z i)) := by simpa using c1
  have c2' : (w.drewN nq).cell? ⟨gr, i + H, none⟩ = some (.int .u64 (z (i + H))) := by simpa using c2
  have f1' : (w.drewN nq).frozen? ⟨gr, i, none⟩ = false := by simpa using f1
  have f2' : (w.drewN nq).frozen? ⟨gr, i + H, none⟩ = false := by simpa using f2
  have e2 : (w.drewN nq).os = w.os := (below_drewN (Below.refl w.heap.size w) nq).os
  have e3 : (w.drewN nq).tape = w.tape := (below_drewN (Below.refl w.heap.size w) nq).tape
  have e4 : (w.drewN nq).output = w.output := (below_drewN (Below.refl w.heap.size w) nq).output
  have E2 := hid e2
  have E3 := hid e3
  have E4 := hid e4
  have k4 := fun W i v => cell_other d5 W i 0 v
  clear cf c1 c2 f1 f2 M hw0 e2 e3 e4
  generalize w.drewN nq = w2 at *
  go_wp2_with fail
  go_region_held3 (fun W => W.cell? ⟨g, 0, none⟩ = some (.pointer (some ⟨gf, 0, none⟩))) (first | assumption | (simp [*]; done)) (first
    | (go_at_call 72; go_must (refine (SA.out _ (by first | exact HW0.out | (rw [← HW0.out]; rfl))).mono ?_; rintro e w3 ⟨rfl, rfl⟩))
    | (go_at_call 73; go_must (refine (SS.out _ (by first | exact HW0.out | (rw [← HW0.out]; rfl))).mono ?_; rintro e w3 ⟨rfl, rfl⟩)))
  all_goals
    go_end0
    have FI := FIN.out w2 HW0.out E2.out E3.out E4.out
    exact ⟨rfl, FI.2.drew 1, FI.1.drew 1⟩
end Go.Proofs.YtcclkahoonlieaaDoor
namespace Go.Proofs.YtcclkahoonlieaaDoor
open Go.RowKit Num Nmb

theorem and_mask (n : Int) (s H : Nat) (hs : s ≤ 62) (hH : H = 2 ^ s) : bits .and .i64 n ((H : Int) - 1) = n % (H : Int) := by
  have l1 : 1 ≤ H := by rw [hH]; exact Nat.two_pow_pos s
  have l2 : H ≤ 2 ^ 62 := by rw [hH]; exact Nat.pow_le_pow_right (by omega) hs
  have e1 : (BitVec.ofInt 64 ((H : Int) - 1)).toNat = 2 ^ s - 1 := by
    rw [show (H : Int) - 1 = ((H - 1 : Nat) : Int) by omega, BitVec.ofInt_natCast, BitVec.toNat_ofNat, Nat.mod_eq_of_lt (by omega), hH]
  have key : (BitVec.ofInt 64 n &&& BitVec.ofInt 64 ((H : Int) - 1)).toNat = (n % ((2 ^ 64 : Nat) : Int)).toNat % 2 ^ s := by
    rw [BitVec.toNat_and, BitVec.toNat_ofInt, e1, Nat.and_two_pow_sub_one_eq_mod]
  show IntKind.i64.wrap ((BitVec.ofInt 64 n &&& BitVec.ofInt 64 ((H : Int) - 1)).toNat : Nat) = n % (H : Int)
  rw [key, ← hH]
  have d : ((H : Nat) : Int) ∣ ((2 ^ 64 : Nat) : Int) := Int.natCast_dvd_natCast.2 (by rw [hH]; exact Nat.pow_dvd_pow 2 (by omega))
  have e2 : (((n % ((2 ^ 64 : Nat) : Int)).toNat % H : Nat) : Int) = n % (H : Int) := by
    rw [Int.natCast_emod, Int.toNat_of_nonneg (Int.emod_nonneg _ (by decide)), Int.emod_emod_of_dvd _ d]
  rw [e2, IntKind.wrap_i64]
  have b0 := Int.emod_nonneg n (show (H : Int) ≠ 0 by omega)
  have b1 := Int.emod_lt_of_pos n (show (0 : Int) < (H : Int) by omega)
  omega
end Go.Proofs.YtcclkahoonlieaaDoor
namespace Go.Proofs.YtcclkahoonlieaaDoor
open Go.RowKit Num Nmb

/-- what the functions of values have captured. -/
structure EnvV (w : World) (gT gS gr g gf gm N p k r hh : Nat) (f s : Int) (z : Nat → Int) : Prop where
  bT : Box w gT (.pointer (some ⟨g, 0, none⟩))
  bS : Box w gS (.slice (some ⟨gr, 0, none⟩) N N)
  row : Row w gr N z
  tab : TabF w g gf gm p k r hh f s
  d : gT ≠ gr ∧ gS ≠ gr ∧ g ≠ gr ∧ gf ≠ gr ∧ gm ≠ gr
theorem EnvV.only {w w' : World} {gT gS gr g gf gm N p k r hh : Nat} {f s : Int} {z z' : Nat → Int} (E : EnvV w gT gS gr g gf gm N p k r hh f s z) (O : OnlyB gr w w') (R : Row w' gr N z') : EnvV w' gT gS gr g gf gm N p k r hh f s z' :=
  ⟨E.bT.only O E.d.1, E.bS.only O E.d.2.1, R, E.tab.only O E.d.2.2, E.d⟩
set_option maxHeartbeats 3200000 in
set_option maxRecDepth 100000 in
theorem val1_any {w : World} {gT gL gS gK gr g gf gm N p k r hh kk n cap : Nat} {ao : Option Addr} {f s : Int} {z a : Nat → Int} (E : EnvV w gT gS gr g gf gm N p k r hh f s z) (OK : Ok p f s) (bL : Box w gL (.slice ao n cap)) (bK : Box w gK (.int .i64 kk)) (hk : kk ≤ 20) (hN : N = 2 ^ kk) (i : Nat) (hi : i < n) (hnN : n ≤ N)
    (b1 o1 : Nat) (ha : ao = some ⟨b1, o1, none⟩) (hc : w.cell? ⟨b1, o1 + i, none⟩ = some (.int .u64 (a i))) (a0 : 0 ≤ a i) :
    Calls Tryd.prog 54 #[.int .i64 i, .pointer (some ⟨gT, 0, none⟩), .pointer (some ⟨gL, 0, none⟩), .pointer (some ⟨gS, 0, none⟩), .pointer (some ⟨gK, 0, none⟩)] w fun e w' =>
      e = .returned (.tuple #[]) ∧ OnlyB gr w w' ∧ Row w' gr N (fun t => if t = rv kk i then a i % p else z t) := by
  subst ha
  have p2 := OK.h2
  have n20 : N ≤ 1048576 := by
    rw [hN]
    exact Nat.pow_le_pow_right (n := 2) (j := 20) (by decide) hk
  have ct := E.bT.cell
  have cl := bL.cell
  have cs := E.bS.cell
  have ck := bK.cell
  have cf := E.tab.tc.cell0
  have rl := rv_lt kk i
  rw [← hN] at rl
  have TU := hid (fun w => turned_any i kk w (by omega) (by omega))
  have OF : Hid (∀ c, Calls Tryd.prog 55 #[.pointer (some ⟨gf, 0, none⟩), .int .u64 (a i)] (w.drewN c) fun e w' => e = .returned (.int .u64 (a i % p)) ∧ w' = w.drewN c) := fun c => of_any gf p f s (a i) _ (E.tab.fld.drew c) (by omega) a0
  have cz := E.row.cell (i := rv kk i) rl
  have fz := E.row.frozen (rv kk i)
  have RS : Hid (∀ nq, Row ((w.drewN nq).setCell ⟨gr, rv kk i, none⟩ (.int .u64 (a i % p))) gr N (fun t => if t = rv kk i then a i % p else z t)) := fun nq => (E.row.drew nq).set (rv kk i) _ (fun j _ => rfl)
  have BS : Hid (∀ nq x, OnlyB gr w ((w.drewN nq).setCell ⟨gr, rv kk i, none⟩ x)) := fun nq x => ((OnlyB.refl _ _).drew nq).set _ _
  have hin : (i : Int) < (n : Int) := by omega
  clear E bL bK hN OK
  generalize a i % (p : Int) = v at *
  generalize rv kk i = t at *
  go_enter Tryd.func54, Tryd.ntmps54
  go_wp2_with fail
  refine wp_region_last (by kernel_rfl) (by kernel_rfl) (by kernel_rfl) (by kernel_rfl) (by decide) ?_
  simp only [stillLast, still, lastOf]
  repeat (quiet_step (first
    | (go_at_call 56; exact Calls.quiet_of_same (TU.out _))
    | (go_at_call 55; exact Calls.quiet_of_same (OF.out _))))
  refine wpQuiet_nil ?_
  intro _ hw'
  obtain ⟨nq, hw''⟩ := hw'
  subst hw''
  go_wp2
  go_end0
  exact ⟨rfl, BS.out nq _, RS.out nq⟩
set_option maxHeartbeats 3200000 in
set_option maxRecDepth 100000 in
theorem val2_any {w : World} {gT gS gH gQ gr g gf gm N p k r hh st H Q : Nat} {f s : Int} {z : Nat → Int} (E : EnvV w gT gS gr g gf gm N p k r hh f s z) (OK : Ok p f s) (bH : Box w gH (.int .i64 H)) (bQ : Box w gQ (.int .i64 Q)) (hst : st ≤ 20) (hH : H = 2 ^ st) (n20 : N ≤ 1048576) (h20 : hh ≤ 1048576) (ho : (p : Int) % 2 = 1) (hz : ∀ j, j < N → 0 ≤ z j ∧ z j < p) (i : Nat) (hi : i / H * (2 * H) + i % H + H < N) (hq : i % H * Q < hh) (hil : i ≤ N) :
    Calls Tryd.prog 57 #[.int .i64 i, .pointer (some ⟨gH, 0, none⟩), .pointer (some ⟨gT, 0, none⟩), .pointer (some ⟨gS, 0, none⟩), .pointer (some ⟨gQ, 0, none⟩)] w fun e w' =>
      e = .returned (.tuple #[]) ∧ OnlyB gr w w' ∧ Row w' gr N (prw z p ((r : Int) ^ (i % H * Q)) (i / H * (2 * H) + i % H) H) := by
  have p2 := OK.h2
  have H1 : 1 ≤ H := by rw [hH]; exact Nat.two_pow_pos st
  have ct := E.bT.cell
  have cs := E.bS.cell
  have ch := bH.cell
  have cq := bQ.cell
  have cm := E.tab.tc.cell3
  have cF := E.tab.row.cell (i := i % H * Q) hq
  have am := and_mask i st H (by omega) hH
  rw [← Int.natCast_emod] at am
  have H20 : H ≤ 1048576 := by
    rw [hH]
    exact Nat.pow_le_pow_right (n := 2) (j := 20) (by decide) hst
  clear hH
  have ij : i = i / H * H + i % H := by rw [Nat.mul_comm]; exact (Nat.div_add_mod i H).symm
  have ml : i % H < H := Nat.mod_lt _ (by omega)
  have mi : i % H ≤ i := Nat.mod_le _ _
  have ilo : 2 * i - i % H = i / H * (2 * H) + i % H := by
    have e : i / H * (2 * H) = 2 * (i / H * H) := by rw [← Nat.mul_assoc, Nat.mul_comm (i / H) 2, Nat.mul_assoc]
    rw [e]; omega
  have f0 : 0 ≤ fmv p r (i % H * Q) := Int.emod_nonneg _ (by omega)
  have f1 : fmv p r (i % H * Q) % p = (r : Int) ^ (i % H * Q) * 18446744073709551616 % p := Int.emod_emod_of_dvd _ (Int.dvd_refl _)
  have TA : Hid (∀ c, Calls Tryd.prog 58 #[.pointer (some ⟨g, 0, none⟩), .slice (some ⟨gr, 0, none⟩) N N, .int .i64 (i / H * (2 * H) + i % H : Nat), .int .i64 H, .int .u64 (fmv p r (i % H * Q))] (w.drewN c) fun e w' => e = .returned (.tuple #[]) ∧ OnlyB gr (w.drewN c) w' ∧ Row w' gr N (prw z p ((r : Int) ^ (i % H * Q)) (i / H * (2 * H) + i % H) H)) :=
    fun c => together_any (E.tab.drew c) OK (E.row.drew c) E.d.2.2 _ H hi (by omega) n20 hz _ _ f0 ho f1
  have O1 : Hid (∀ c w', OnlyB gr (w.drewN c) w' → OnlyB gr w w') := fun c w' o => ((OnlyB.refl _ _).drew c).trans o
  clear E bH bQ OK f0 f1 hz hi
  rw [← ilo] at TA
  rw [← ilo]
  clear ilo ij
  generalize prw z p ((r : Int) ^ (i % H * Q)) (2 * i - i % H) H = zz at *
  generalize i % H = j at *
  generalize fmv p r (j * Q) = y at *
  have e1 : ((2 * i - j : Nat) : Int) = 2 * (i : Int) - (j : Int) := by omega
  rw [e1] at TA
  have q1 : IntKind.i64.wrap (2 * (i : Int)) = 2 * (i : Int) := by rw [IntKind.wrap_i64]; omega
  have q2 : IntKind.i64.wrap (2 * (i : Int) - (j : Int)) = 2 * (i : Int) - (j : Int) := by rw [IntKind.wrap_i64]; omega
  have q3 : (j : Int) * (Q : Int) = ((j * Q : Nat) : Int) := (Int.natCast_mul j Q).symm
  have q4 : IntKind.i64.wrap ((j : Int) * (Q : Int)) = ((j * Q : Nat) : Int) := by rw [q3, IntKind.wrap_i64]; omega
  have q5 : ((j * Q : Nat) : Int) < (hh : Int) := by omega
  clear e1 q3
  generalize j * Q = t at *
  go_enter Tryd.func57, Tryd.ntmps57
  go_wp2_with fail
  refine wp_region_last (by kernel_rfl) (by kernel_rfl) (by kernel_rfl) (by kernel_rfl) (by decide) ?_
  simp only [stillLast, still, lastOf]
  repeat (quiet_step (fail))
  refine wpQuiet_nil ?_
  intro _ hw'
  obtain ⟨nq, hw''⟩ := hw'
  subst hw''
  go_wp2_with fail
  refine (TA.out nq).mono ?_
  rintro e w2 ⟨rfl, o2, r2⟩
  have O2 := hid (O1.out nq w2 o2)
  have R2 := hid r2
  clear o2 r2 O1 TA
  go_wp2
  go_end0
  exact ⟨rfl, O2.out, R2.out⟩
end Go.Proofs.YtcclkahoonlieaaDoor
namespace Go.Proofs.YtcclkahoonlieaaDoor
open Go.RowKit Num Nmb

theorem rt_part {p : Nat} {w : Int} {k kk : Nat} (h : Rt p w k) (hk : kk ≤ k) : Rt p (w ^ 2 ^ (k - kk)) kk := by
  refine ⟨h.pri, ?_, fun h0 => ?_, fun h0 => h.odd (by omega)⟩
  · rw [← Int.pow_mul, ← Nat.pow_add, show k - kk + kk = k by omega]
    exact h.one
  · rw [← Int.pow_mul, ← Nat.pow_add, show k - kk + (kk - 1) = k - 1 by omega]
    exact h.half (by omega)
/-- a list with 0 behind it. -/
def ext (a : Nat → Int) (n : Nat) (j : Nat) : Int := if j < n then a j else 0
/-- what lies in the places of the first i numbers. -/
def Lai (a : Nat → Int) (p kk N i : Nat) (z : Nat → Int) : Prop := ∀ t, t < N → z t = if rv kk t < i then a (rv kk t) % p else 0
theorem Lai.step {a : Nat → Int} {p kk N i : Nat} {z : Nat → Int} (h : Lai a p kk N i z) (hN : N = 2 ^ kk) (hi : i < N) : Lai a p kk N (i + 1) (fun t => if t = rv kk i then a i % p else z t) := fun t ht => by
  show (if t = rv kk i then _ else _) = _
  by_cases e : t = rv kk i
  · have e2 : rv kk t = i := by rw [e, rv_rv kk i (by omega)]
    rw [if_pos e, e2, if_pos (by omega)]
  · have e2 : rv kk t ≠ i := fun h' => e (by rw [← h', rv_rv kk t (by omega)])
    rw [if_neg e, h t ht]
    by_cases h3 : rv kk t < i
    · rw [if_pos h3, if_pos (by omega)]
    · rw [if_neg h3, if_neg (by omega)]
theorem Lai.vals {a : Nat → Int} {p kk N i : Nat} {z : Nat → Int} (h : Lai a p kk N i z) (hp : 0 < p) (t : Nat) (ht : t < N) : 0 ≤ z t ∧ z t < p := by
  rw [h t ht]
  split
  · exact ⟨Int.emod_nonneg _ (by omega), Int.emod_lt_of_pos _ (by omega)⟩
  · exact ⟨Int.le_refl _, by omega⟩
theorem Lai.stg {a : Nat → Int} {p kk N n : Nat} {z : Nat → Int} {w : Int} (h : Lai a p kk N n z) (hN : N = 2 ^ kk) : Stg p (ext a n) w kk 0 z := Stg.zero fun t ht => by
  rw [h t (by omega)]
  unfold ext
  split
  · exact Cg.mod
  · exact Cg.rfl
theorem eg_val1 : ∀ args w, (callFunc 54 args).run Tryd.prog w = .ok (.enter 54 args) w := enters_of Tryd.func54 (by kernel_rfl) rfl
theorem eg_val2 : ∀ args w, (callFunc 57 args).run Tryd.prog w = .ok (.enter 57 args) w := enters_of Tryd.func57 (by kernel_rfl) rfl
theorem lay_any {w : World} {gT gL gS gK gr g gf gm N p k r hh kk n cap : Nat} {ao : Option Addr} {f s : Int} {a : Nat → Int} (E : EnvV w gT gS gr g gf gm N p k r hh f s (fun _ => 0)) (OK : Ok p f s) (bL : Box w gL (.slice ao n cap)) (bK : Box w gK (.int .i64 kk)) (dL : gL ≠ gr) (dK : gK ≠ gr) (hk : kk ≤ 20) (hN : N = 2 ^ kk) (hnN : n ≤ N)
    (ha : 0 < n → ∃ b1 o1, ao = some ⟨b1, o1, none⟩ ∧ b1 ≠ gr ∧ ∀ i, i < n → w.cell? ⟨b1, o1 + i, none⟩ = some (.int .u64 (a i))) (a0 : ∀ i, i < n → 0 ≤ a i) :
    Calls Tryd.prog 47 #[.int .i64 n, .func (.func 54) #[] #[.pointer (some ⟨gT, 0, none⟩), .pointer (some ⟨gL, 0, none⟩), .pointer (some ⟨gS, 0, none⟩), .pointer (some ⟨gK, 0, none⟩)]] w fun e w' =>
      e = .returned (.tuple #[]) ∧ ∃ z, Lai a p kk N n z ∧ Row w' gr N z ∧ OnlyB gr w w' := by
  have n20 : N ≤ 1048576 := by
    rw [hN]
    exact Nat.pow_le_pow_right (n := 2) (j := 20) (by decide) hk
  refine each_any n _ _ eg_val1 (fun i W => ∃ z, Lai a p kk N i z ∧ Row W gr N z ∧ OnlyB gr w W) w (by omega) ⟨_, fun t _ => by rw [if_neg (by omega)], E.row, OnlyB.refl _ _⟩ ?_
  rintro i W hi ⟨z, hz, R, O⟩
  obtain ⟨b1, o1, rfl, hb, hc⟩ := ha (by omega)
  refine (val1_any (E.only O R) OK (bL.only O dL) (bK.only O dK) hk hN i hi hnN b1 o1 rfl (a := a) ?_ (a0 i hi)).mono ?_
  · have := hc i hi
    unfold World.cell? at this ⊢
    rw [O.block b1 hb]
    exact this
  · rintro e w' ⟨rfl, O', R'⟩
    exact ⟨rfl, _, hz.step hN (by omega), R', O.trans O'⟩
theorem prw_vals {z : Nat → Int} {p N i H : Nat} {x : Int} (hp : 0 < p) (hz : ∀ j, j < N → 0 ≤ z j ∧ z j < p) (t : Nat) (ht : t < N) : 0 ≤ prw z p x i H t ∧ prw z p x i H t < p := by
  unfold prw
  by_cases e1 : t = i
  · rw [if_pos e1]
    exact ⟨Int.emod_nonneg _ (by omega), Int.emod_lt_of_pos _ (by omega)⟩
  · rw [if_neg e1]
    by_cases e2 : t = i + H
    · rw [if_pos e2]
      exact ⟨Int.emod_nonneg _ (by omega), Int.emod_lt_of_pos _ (by omega)⟩
    · rw [if_neg e2]
      exact hz t ht
theorem pair_at {H b j i : Nat} (hj : j < H) : b * H + j < i + 1 ↔ b * H + j < i ∨ (b = i / H ∧ j = i % H) := by
  have h0 : 0 < H := by omega
  have e := Nat.div_add_mod i H
  constructor
  · intro h
    by_cases h1 : b * H + j < i
    · exact Or.inl h1
    · have h2 : i = H * b + j := by rw [Nat.mul_comm]; omega
      refine Or.inr ⟨?_, ?_⟩
      · rw [h2, Nat.mul_add_div h0, Nat.div_eq_of_lt hj, Nat.add_zero]
      · rw [h2, Nat.mul_add_mod, Nat.mod_eq_of_lt hj]
  · rintro (h | ⟨rfl, rfl⟩)
    · omega
    · rw [Nat.mul_comm]; omega
set_option maxHeartbeats 1600000 in
theorem stage_any {w : World} {gT gS gH gQ gr g gf gm N p k r hh kk st H Q M : Nat} {f s : Int} {z a : Nat → Int} (E : EnvV w gT gS gr g gf gm N p k r hh f s z) (OK : Ok p f s) (bH : Box w gH (.int .i64 H)) (bQ : Box w gQ (.int .i64 Q)) (dH : gH ≠ gr) (dQ : gQ ≠ gr)
    (RT : Rt p r k) (hst : st < kk) (hkk : kk ≤ k) (hk : k ≤ 20) (hH : H = 2 ^ st) (hN : N = 2 ^ kk) (hM : M = N / 2) (hhh : hh = 2 ^ k / 2) (hQ : Q = 2 ^ (k - (st + 1))) (ho : (p : Int) % 2 = 1)
    (S : Stg p a ((r : Int) ^ 2 ^ (k - kk)) kk st z) (hz : ∀ j, j < N → 0 ≤ z j ∧ z j < p) :
    Calls Tryd.prog 47 #[.int .i64 M, .func (.func 57) #[] #[.pointer (some ⟨gH, 0, none⟩), .pointer (some ⟨gT, 0, none⟩), .pointer (some ⟨gS, 0, none⟩), .pointer (some ⟨gQ, 0, none⟩)]] w fun e w' =>
      e = .returned (.tuple #[]) ∧ ∃ y, Stg p a ((r : Int) ^ 2 ^ (k - kk)) kk (st + 1) y ∧ (∀ j, j < N → 0 ≤ y j ∧ y j < p) ∧ Row w' gr N y ∧ OnlyB gr w w' := by
  have p2 := OK.h2
  have n20 : N ≤ 1048576 := by
    rw [hN]
    exact Nat.pow_le_pow_right (n := 2) (j := 20) (by decide) (by omega)
  have k20 : 2 ^ k ≤ 1048576 := Nat.pow_le_pow_right (n := 2) (j := 20) (by decide) hk
  have H1 : 0 < H := by rw [hH]; exact Nat.two_pow_pos st
  obtain ⟨D, hD⟩ : ∃ D, D = 2 ^ (kk - (st + 1)) := ⟨_, rfl⟩
  have hMD : M = D * H := by
    have : N = D * H * 2 := by rw [hN, hD, hH, ← Nat.pow_add, ← Nat.pow_succ, show (kk - (st + 1) + st).succ = kk by omega]
    omega
  have hQH : hh = H * Q := by
    have : 2 ^ k = H * Q * 2 := by rw [hQ, hH, ← Nat.pow_add, ← Nat.pow_succ, show (st + (k - (st + 1))).succ = k by omega]
    omega
  have Q1 : 0 < Q := by rw [hQ]; exact Nat.two_pow_pos _
  have RP := rt_part RT hkk
  refine (each_any M _ _ eg_val2 (fun i W => ∃ y, Mix p a ((r : Int) ^ 2 ^ (k - kk)) kk st (fun b j => b * H + j < i) y ∧ (∀ j, j < N → 0 ≤ y j ∧ y j < p) ∧ Row W gr N y ∧ OnlyB gr w W) w (by omega) ⟨z, (S.mix hst).iff (fun b j _ _ => ⟨fun h => absurd h (by omega), fun h => h.elim⟩), hz, E.row, OnlyB.refl _ _⟩ ?_).mono ?_
  · rintro i W hi ⟨y, hm, hy, R, O⟩
    have ml : i % H < H := Nat.mod_lt _ H1
    have bl : i / H < D := Nat.div_lt_of_lt_mul (by rw [Nat.mul_comm]; omega)
    have il : i / H * (2 * H) + i % H + H < N := by
      have h1 : (i / H + 1) * (2 * H) ≤ D * (2 * H) := Nat.mul_le_mul_right _ bl
      rw [Nat.succ_mul] at h1
      have h2 : D * (2 * H) = D * H * 2 := by rw [Nat.mul_comm 2 H, ← Nat.mul_assoc]
      omega
    have ql : i % H * Q < hh := by
      rw [hQH]
      exact Nat.mul_lt_mul_of_pos_right ml Q1
    refine (val2_any (E.only O R) OK (bH.only O dH) (bQ.only O dQ) (by omega) hH n20 (by omega) ho hy i il ql (by omega)).mono ?_
    rintro e w' ⟨rfl, O', R'⟩
    refine ⟨rfl, _, ?_, fun t ht => prw_vals (by omega) hy t ht, R', O.trans O'⟩
    have h1 := hm.pair (b0 := i / H) (j0 := i % H) (x := (r : Int) ^ (i % H * Q)) (z' := prw y p ((r : Int) ^ (i % H * Q)) (i / H * (2 * H) + i % H) H) RP hst (by rw [← hD]; exact bl) (by rw [← hH]; exact ml)
      (by have := Nat.div_add_mod i H; rw [Nat.mul_comm (i / H)]; omega)
      (by
        rw [← Int.pow_mul, ← Nat.mul_assoc, ← Nat.pow_add, show k - kk + (kk - (st + 1)) = k - (st + 1) by omega, ← hQ, Nat.mul_comm]
        exact Cg.rfl)
      (by
        rw [← hH]
        unfold prw
        rw [if_pos rfl, Int.mul_comm]
        exact Cg.mod.trans (Cg.rfl.add Cg.mod))
      (by
        rw [← hH]
        unfold prw
        rw [if_neg (by omega), if_pos rfl, Int.mul_comm]
        exact Cg.mod.trans (Cg.rfl.sub Cg.mod))
      (fun t _ h2 h3 => by
        rw [← hH] at h2 h3
        unfold prw
        rw [if_neg h2, if_neg h3])
    exact h1.iff (fun b j _ hj => pair_at (by rw [hH]; exact hj))
  · rintro e w' ⟨rfl, y, hm, hy, R, O⟩
    refine ⟨rfl, y, hm.stg (fun b j hb hj => ?_), hy, R, O⟩
    rw [← hD] at hb
    rw [← hH] at hj
    have h1 : (b + 1) * H ≤ D * H := Nat.mul_le_mul_right _ hb
    rw [Nat.succ_mul] at h1
    omega
end Go.Proofs.YtcclkahoonlieaaDoor
namespace Go.Proofs.YtcclkahoonlieaaDoor
open Go.RowKit Num Nmb

/-- what values answers. -/
def ValR (w w' : World) (p N : Nat) (ro : Int) (a : Nat → Int) (e : Ending) : Prop := ∃ gr z, e = .returned (.slice (some ⟨gr, 0, none⟩) N N) ∧ Row w' gr N z ∧ w.heap.size ≤ gr ∧ ∀ j, j < N → z j = dft a ro N j % p
/-- how much is left of the halves. -/
def lefth (N : Nat) (v : Value) (w : World) : Nat := match v with
  | .pointer (some q) => match w.cell? q with
    | some (.int _ h) => N - h.toNat
    | _ => 0
  | _ => 0
theorem lefth_eq {N g h : Nat} {w : World} (hb : Box w g (.int .i64 h)) : lefth N (.pointer (some ⟨g, 0, none⟩)) w = N - h := by
  show (match w.cell? ⟨g, 0, none⟩ with
    | some (.int _ h) => N - h.toNat
    | _ => 0) = _
  rw [hb.cell]
  simp
theorem cell_past {w w1 : World} {B g : Nat} {v : Value} (X : Box w g v) (C : Below B w w1) (hg : g < B) (hB : B ≤ w1.heap.size) (o : Obj) : (w1.alloc o).cell? ⟨g, 0, none⟩ = some v :=
  ((X.below C hg).below ((Below.refl w1.heap.size w1).alloc (Nat.le_refl _) o) (by omega)).cell
set_option maxHeartbeats 6400000 in
set_option maxRecDepth 100000 in
theorem values_any (g p k r kk : Nat) (u : Value) (n : Nat) (a : Nat → Int) (w : World) (T : Tab w g p k r) (U : Wl w u n a) (hkk : kk ≤ k) (hn : n ≤ 2 ^ kk) :
    Calls Tryd.prog 35 #[.pointer (some ⟨g, 0, none⟩), u, .int .i64 kk] w fun e w' =>
      ValR w w' p (2 ^ kk) ((r : Int) ^ 2 ^ (k - kk)) (ext a n) e ∧ Below w.heap.size w w' := by
  have TO := hid T.ok
  have k20 := T.ok.k20
  have p2 := T.ok.pri.1
  have p63 := T.ok.h63
  obtain ⟨-, gf, gm, hh, f, s, h1, h2, h3⟩ := T
  have TF := hid h1
  have HH := hid h2
  have OO := hid h3
  have UU := hid U
  obtain ⟨ao, cap, rfl, -⟩ := U
  clear h1 h2 h3
  have e2 : (2 : Int) ^ kk = ((2 ^ kk : Nat) : Int) := (Int.natCast_pow 2 kk).symm
  have n20 : 2 ^ kk ≤ 1048576 := Nat.pow_le_pow_right (n := 2) (j := 20) (by decide) (by omega)
  have n1 : 1 ≤ 2 ^ kk := Nat.two_pow_pos kk
  obtain ⟨N, hN⟩ : ∃ N, N = 2 ^ kk := ⟨_, rfl⟩
  rw [← hN] at e2 n20 n1 hn ⊢
  have HN := hid hN
  clear hN
  obtain ⟨X1, B1, Z1⟩ := alloc_box w (.pointer (some ⟨g, 0, none⟩)) 24
  obtain ⟨X2, B2, Z2⟩ := alloc_box (w.alloc (.cells #[.pointer (some ⟨g, 0, none⟩)] 24 (0, 0))) (.slice ao n cap) 36
  rw [Z1] at X2 B2 Z2
  obtain ⟨X3, B3, Z3⟩ := alloc_box ((w.alloc (.cells #[.pointer (some ⟨g, 0, none⟩)] 24 (0, 0))).alloc (.cells #[.slice ao n cap] 36 (0, 0))) (.int .i64 kk) 3
  rw [Z2] at X3 B3 Z3
  have X2' := X2.below B3 (by omega)
  have X1' := (X1.below B2 (by omega)).below B3 (by omega)
  have B' := B1.trans ((B2.trans (B3.mono (by omega))).mono (by omega))
  have HX1 := hid X1'
  have HX2 := hid X2'
  have HX3 := hid X3
  have HB := hid B'
  have HZ := hid Z3
  clear X1 B1 Z1 X2 B2 Z2 X3 B3 Z3 X1' X2' B'
  go_enter Tryd.func35, Tryd.ntmps35
  go_wp2_with (at_make; refine wp_make _ rfl _ _ rfl _ _ N rfl rfl (by omega) (by omega) (by omega) ?_; intro w1 R1 C1 Z1; have HR := hid R1; have HC := hid C1; have HZ1 := hid Z1; have cL := cell_past HX2.out C1 (by have := HZ.out; omega) (by omega) (.cells #[.slice (some ⟨w.heap.size + 1 + 1 + 1, 0, none⟩) N N] 36 (0, 0)); clear R1 C1 Z1)
  have hz := HZ.out
  have hz1 := HZ1.out
  have R1 := HR.out
  have C1 := HC.out
  rw [hz] at hz1 R1 C1
  obtain ⟨X4, B4, Z4⟩ := alloc_box w1 (.slice (some ⟨w.heap.size + 1 + 1 + 1, 0, none⟩) N N) 36
  have D1 := HB.out.trans (C1.mono (by omega))
  have D2 := D1.trans (B4.mono D1.size)
  have L0 := TF.out.lt
  have E0 : EnvV (w1.alloc (.cells #[.slice (some ⟨w.heap.size + 1 + 1 + 1, 0, none⟩) N N] 36 (0, 0))) w.heap.size w1.heap.size (w.heap.size + 1 + 1 + 1) g gf gm N p k r hh f s (fun _ => 0) :=
    ⟨(HX1.out.below C1 (by omega)).below B4 (by omega), X4, R1.below B4 (by omega), TF.out.below D2 L0, by omega, by omega, by omega, by omega, by omega⟩
  have LA := hid (lay_any (a := a) E0 OO.out ((HX2.out.below C1 (by omega)).below B4 (by omega)) ((HX3.out.below C1 (by omega)).below B4 (by omega)) (by omega) (by omega) (by omega) HN.out hn (fun h0 => by
    obtain ⟨b1, o1, e1, hb1, -⟩ := UU.out.cell h0
    refine ⟨b1, o1, e1, by omega, fun i hi => ?_⟩
    obtain ⟨b2, o2, e3, hb2, hc2⟩ := UU.out.cell hi
    rw [e1] at e3
    injection e3 with e3
    injection e3 with e3 e4
    subst e3
    subst e4
    rw [D2.cell (p := ⟨b1, o1 + i, none⟩) hb1]
    exact hc2) (fun i hi => (UU.out.val hi).1))
  have GO : Hid (∀ w3 z, OnlyB (w.heap.size + 1 + 1 + 1) (w1.alloc (.cells #[.slice (some ⟨w.heap.size + 1 + 1 + 1, 0, none⟩) N N] 36 (0, 0))) w3 → Row w3 (w.heap.size + 1 + 1 + 1) N z → EnvV w3 w.heap.size w1.heap.size (w.heap.size + 1 + 1 + 1) g gf gm N p k r hh f s z ∧ Below w.heap.size w w3 ∧ w3.heap.size = w1.heap.size + 1) := fun w3 z O R => ⟨E0.only O R, D2.trans (O.below.mono (by omega)), by rw [O.size, Z4]⟩
  obtain ⟨gT, hgT⟩ : ∃ gT, gT = w.heap.size := ⟨_, rfl⟩
  obtain ⟨gL, hgL⟩ : ∃ gL, gL = w.heap.size + 1 := ⟨_, rfl⟩
  obtain ⟨gK, hgK⟩ : ∃ gK, gK = w.heap.size + 1 + 1 := ⟨_, rfl⟩
  obtain ⟨gr, hgr⟩ : ∃ gr, gr = w.heap.size + 1 + 1 + 1 := ⟨_, rfl⟩
  obtain ⟨gS, hgS⟩ : ∃ gS, gS = w1.heap.size := ⟨_, rfl⟩
  have ORD : Hid (g < gT ∧ gf < gT ∧ gm < gT ∧ gT < gr ∧ gS = gr + 1 ∧ gT = w.heap.size) := ⟨by omega, by omega, by omega, by omega, by omega, by omega⟩
  rw [← hgr, ← hgK, ← hgL, ← hgT, ← hgS] at LA
  rw [← hgr, ← hgT, ← hgS] at GO
  rw [← hgr, ← hgK, ← hgL, ← hgT, ← hgS]
  clear hz hz1 R1 C1 X4 B4 Z4 D1 D2 E0 L0 HZ HZ1 HR HC HB HX1 HX2 HX3 cL hgL hgK hgr hgS TF
  generalize w1.alloc (.cells #[.slice (some ⟨gr, 0, none⟩) N N] 36 (0, 0)) = w2 at *
  refine LA.out.mono ?_
  rintro e w3 ⟨rfl, z, hz, R3, O3⟩
  obtain ⟨E3, D3, Z3⟩ := GO.out w3 z O3 R3
  have S3 := hid (hz.stg (w := (r : Int) ^ 2 ^ (k - kk)) HN.out)
  have V3 := hid (hz.vals (show 0 < p by omega))
  obtain ⟨X5, B5, Z5⟩ := alloc_box w3 (.int .i64 ((1 : Nat) : Int)) 3
  have lt3 : gr < w3.heap.size := by have := ORD.out; omega
  have E5 : Hid (EnvV (w3.alloc (.cells #[.int .i64 ((1 : Nat) : Int)] 3 (0, 0))) gT gS gr g gf gm N p k r hh f s z) := by
    have o := ORD.out
    exact ⟨E3.bT.below B5 (by omega), E3.bS.below B5 (by omega), E3.row.below B5 (by omega), E3.tab.below B5 (by omega), E3.d⟩
  have D5 : Hid (Below gT w (w3.alloc (.cells #[.int .i64 ((1 : Nat) : Int)] 3 (0, 0)))) := D3.trans (B5.mono (by have := D3.size; omega))
  have X5' := hid X5
  have GR : Hid (gr < w3.heap.size) := lt3
  clear E3 D3 Z3 hz R3 O3 X5 B5 Z5 LA GO lt3 hgT
  go_wp2
  go_loopw [9] (fun hv wq => ∃ (st H gH : Nat) (y : Nat → Int), hv = .pointer (some ⟨gH, 0, none⟩) ∧ st ≤ kk ∧ H ≤ N ∧ 1 ≤ H ∧ Hid (gr < gH) ∧ Hid (H = 2 ^ st) ∧ Hid (Box wq gH (.int .i64 H) ∧ EnvV wq gT gS gr g gf gm N p k r hh f s y ∧ Stg p (ext a n) ((r : Int) ^ 2 ^ (k - kk)) kk st y ∧ (∀ t, t < N → 0 ≤ y t ∧ y t < p) ∧ Below gT w wq)) (fun hv wq => lefth N hv wq)
  case atStart => exact ⟨0, 1, w3.heap.size, z, rfl, Nat.zero_le _, n1, Nat.le_refl _, GR, rfl, X5'.out, E5.out, S3.out, V3.out, D5.out⟩
  case round =>
    obtain ⟨st, H, gH, y, rfl, hst, hHN, hH1, GRH, HE, R⟩ := hrel
    clear E5 S3 V3 D5 X5' GR
    have ch := R.out.1.cell
    by_cases hlast : st = kk
    · have hH : H = N := by rw [HE.out, HN.out, hlast]
      have cS := R.out.2.1.bS.cell
      have D : Hid (ValR w wr p N ((r : Int) ^ 2 ^ (k - kk)) (ext a n) (.returned (.slice (some ⟨gr, 0, none⟩) N N))) := by
        refine ⟨gr, y, rfl, R.out.2.1.row, by have := ORD.out; omega, fun j hj => ?_⟩
        have h1 := R.out.2.2.1
        rw [hlast] at h1
        have h2 := h1.all j (by rw [← HN.out]; exact hj)
        have h3 := R.out.2.2.2.1 j hj
        rw [← HN.out] at h2
        unfold Cg at h2
        rw [Int.emod_eq_of_lt h3.1 h3.2] at h2
        exact h2
      have BB : Hid (Below w.heap.size w wr) := by
        show Below _ _ _
        rw [← ORD.out.2.2.2.2.2]
        exact R.out.2.2.2.2
      rw [hH] at ch
      have hH' : ¬ (N : Int) < (N : Int) := by omega
      clear R HE hH hlast
      go_wp2
      go_ret
      exact ⟨D.out, BB.out⟩
    · have hst' : st < kk := by omega
      have hHlt : H < N := by
        rw [HE.out, HN.out]
        exact Nat.pow_lt_pow_right (by omega) hst'
      have hHlt' : (H : Int) < (N : Int) := by omega
      obtain ⟨Q, hQ⟩ : ∃ Q, Q = 2 ^ (k - (st + 1)) := ⟨_, rfl⟩
      have hQH : hh = H * Q := by
        have e3 : 2 ^ k = H * Q * 2 := by rw [hQ, HE.out, ← Nat.pow_add, ← Nat.pow_succ, show (st + (k - (st + 1))).succ = k by omega]
        rw [HH.out, e3]
        omega
      have dq : Int.tdiv (hh : Int) (H : Int) = (Q : Int) := by
        rw [Int.tdiv_eq_ediv_of_nonneg (by omega), ← Int.natCast_ediv, hQH, Nat.mul_div_cancel_left _ (by omega)]
      have HQ := hid hQ
      have ct := R.out.2.1.bT.cell
      have c3 := R.out.2.1.tab.tc.cell3
      have hH0 : ¬ (H : Int) = 0 := by omega
      have h20 : hh ≤ 1048576 := by
        rw [HH.out]
        have := Nat.pow_le_pow_right (n := 2) (i := k) (j := 20) (by decide) k20
        omega
      have Q20 : Q ≤ hh := by
        rw [hQH]
        have := Nat.mul_le_mul_right Q hH1
        omega
      clear hQ hQH hlast
      go_wp2_with fail
      have hH0' : ¬ H = 0 := by omega
      have chA : (wr.alloc (.cells #[.int .i64 0] 3 (0, 0))).cell? ⟨gH, 0, none⟩ = some (.int .i64 H) := (R.out.1.below ((Below.refl wr.heap.size wr).alloc (Nat.le_refl _) _) R.out.1.lt).cell
      have ctA : (wr.alloc (.cells #[.int .i64 0] 3 (0, 0))).cell? ⟨gT, 0, none⟩ = some (.pointer (some ⟨g, 0, none⟩)) := (R.out.2.1.bT.below ((Below.refl wr.heap.size wr).alloc (Nat.le_refl _) _) R.out.2.1.bT.lt).cell
      have c3A : (wr.alloc (.cells #[.int .i64 0] 3 (0, 0))).cell? ⟨g, 3, none⟩ = some (.slice (some ⟨gm, 0, none⟩) hh hh) := (R.out.2.1.tab.below ((Below.refl wr.heap.size wr).alloc (Nat.le_refl _) _) R.out.2.1.tab.lt).tc.cell3
      go_region
      obtain ⟨X6, B6, Z6⟩ := alloc_box wr (.int .i64 Q) 3
      have lH := R.out.1.lt
      have lR := R.out.2.1.row.lt
      have o := ORD.out
      have g1 := GRH.out
      have E6 : EnvV ((wr.alloc (.cells #[.int .i64 Q] 3 (0, 0))).drewN 1) gT gS gr g gf gm N p k r hh f s y :=
        ⟨(R.out.2.1.bT.below B6 (by omega)).drew 1, (R.out.2.1.bS.below B6 (by omega)).drew 1, (R.out.2.1.row.below B6 (by omega)).drew 1, (R.out.2.1.tab.below B6 (by omega)).drew 1, R.out.2.1.d⟩
      have xH := (R.out.1.below B6 (by omega)).drew 1
      have xQ := X6.drew 1
      have D6 := below_drewN (R.out.2.2.2.2.trans (B6.mono (by omega))) 1
      have dM : Int.tdiv (N : Int) 2 = ((N / 2 : Nat) : Int) := by rw [Int.tdiv_eq_ediv_of_nonneg (by omega)]; omega
      have SG := hid (stage_any E6 OO.out xH xQ (by omega) (by omega) TO.out.rt hst' hkk k20 HE.out HN.out (M := N / 2) rfl HH.out HQ.out (TO.out.odd (by omega)) R.out.2.2.1 R.out.2.2.2.1)
      have NX : Hid (∀ w7 y', OnlyB gr ((wr.alloc (.cells #[.int .i64 Q] 3 (0, 0))).drewN 1) w7 → Row w7 gr N y' → Box w7 gH (.int .i64 H) ∧ EnvV w7 gT gS gr g gf gm N p k r hh f s y' ∧ Below gT w w7 ∧ gr < w7.heap.size) := fun w7 y' O R => ⟨xH.only O (by omega), E6.only O R, D6.trans (O.below.mono (by omega)), R.lt⟩
      have LH : Hid (lefth N (.pointer (some ⟨gH, 0, none⟩)) wr = N - H) := lefth_eq R.out.1
      clear R ch ct c3 chA ctA c3A X6 B6 Z6 lH lR o g1 E6 xH xQ D6
      have M20 : N / 2 ≤ 1048576 := by omega
      generalize N / 2 = M at *
      go_wp2_with fail
      refine SG.out.mono ?_
      rintro e w7 ⟨rfl, y', S7, V7, R7, O7⟩
      obtain ⟨xH7, E7, D7, L7⟩ := NX.out w7 y' O7 R7
      have ch7 := xH7.cell
      have SS7 := hid S7
      have VV7 := hid V7
      have HE7 := hid E7
      have HD7 := hid D7
      have HL7 := hid L7
      clear S7 V7 R7 O7 E7 D7 L7 xH7 SG NX
      go_wp2
      obtain ⟨X8, B8, -⟩ := alloc_box w7 (.int .i64 ((H * 2 : Nat) : Int)) 3
      rw [Int.natCast_mul] at X8 B8
      have o := ORD.out
      have l7 := HL7.out
      have E8 : EnvV (w7.alloc (.cells #[.int .i64 ((H : Int) * (2 : Nat))] 3 (0, 0))) gT gS gr g gf gm N p k r hh f s y' :=
        ⟨HE7.out.bT.below B8 (by omega), HE7.out.bS.below B8 HE7.out.bS.lt, HE7.out.row.below B8 (by omega), HE7.out.tab.below B8 (by omega), HE7.out.d⟩
      have H2N : H * 2 ≤ N := by
        rw [HE.out, HN.out, ← Nat.pow_succ]
        exact Nat.pow_le_pow_right (by omega) hst'
      refine ⟨⟨st + 1, H * 2, w7.heap.size, y', rfl, by omega, H2N, by omega, l7, ?_, by rw [Int.natCast_mul]; exact X8, E8, SS7.out, VV7.out, HD7.out.trans (B8.mono (by omega))⟩, ?_⟩
      · show _ = _
        rw [HE.out, Nat.pow_succ]
      · rw [LH.out]
        have L2 := lefth_eq (N := N) (h := H * 2) (by rw [Int.natCast_mul]; exact X8)
        show lefth N (.pointer (some ⟨w7.heap.size, 0, none⟩)) (w7.alloc (.cells #[.int .i64 ((H : Int) * ((2 : Nat) : Int))] 3 (0, 0))) < N - H
        rw [L2]
        omega
end Go.Proofs.YtcclkahoonlieaaDoor
