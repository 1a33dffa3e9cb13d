/- Blocks up and down, and what values and coefficients answer, in the landed tft. -/
/- What values and coefficients answer, in the landed tft. -/
/- The forms of the points, and what New answers, in the landed tft. -/
/- What the calls of the landed tft answer. -/
/- Products, in the landed tft. -/
import Derived.Test.YtocfenjampmdlabGreatDoorUg
import Derived.Test.YtocfenjampmdlabGreatDoorVp
import Derived.OwnWalk
import Derived.Test.YtocfenjampmdlabGreatDoorUd
namespace Go.Proofs.YtocfenjampmdlabGreatDoor
open Go.RowKit Num Nmb

set_option maxHeartbeats 800000 in
theorem up_none (g gl off L b n : Nat) (w : World) (h : n = 0 ∨ L = 1) :
    Calls Tryz.prog 62 #[.pointer (some ⟨g, 0, none⟩), .slice (some ⟨gl, off, none⟩) L L, .int .i64 b, .int .i64 n] w fun e w' => e = .returned (.tuple #[]) ∧ w' = w := by
  by_cases n0 : n = 0
  · subst n0
    go_enter Tryz.func62, Tryz.ntmps62
    go_wp2
    go_end0
    exact ⟨rfl, rfl⟩
  · obtain rfl : L = 1 := by omega
    have n0' : ((n : Int) == 0) = false := beq_eq_false_iff_ne.2 (by omega)
    go_enter Tryz.func62, Tryz.ntmps62
    go_wp2
    go_end0
    exact ⟨rfl, rfl⟩
set_option maxHeartbeats 1600000 in
theorem up_step {g gf gm gl p k r h N : Nat} {f s : Int} (OK : Ok p f s) (TO : TabOk p k r) (hh : h = 2 ^ k / 2) (hN : N ≤ 1048576) (m H : Nat) (hm : m + 1 ≤ k) (hH : H = 2 ^ m) (IH : UpIs g gf gm gl p k r h N f s m H) : UpIs g gf gm gl p k r h N f s (m + 1) (2 * H) := by
  intro b n off X w E hoff hb hn
  have H0 : 0 < H := by rw [hH]; exact Nat.two_pow_pos m
  by_cases n0 : n = 0
  · subst n0
    refine (up_none g gl off (2 * H) b 0 w (Or.inl rfl)).mono ?_
    rintro e w' ⟨rfl, rfl⟩
    exact ⟨rfl, X, E, OnlyB.refl _ _, fun _ _ _ => rfl, fun i hi => absurd hi (by omega), fun _ _ _ => Cg.rfl⟩
  have n0' : ((n : Int) == 0) = false := beq_eq_false_iff_ne.2 (by omega)
  by_cases hl : n ≤ H
  · have LS := hid (low_step OK TO hh hN m H hm hH IH b n off X w E hoff hb hl)
    obtain ⟨D, hD⟩ : ∃ D, D = 2 * H := ⟨_, rfl⟩
    have q1 : ((D : Int) == 1) = false := beq_eq_false_iff_ne.2 (by omega)
    have dq : Int.tdiv (D : Int) 2 = (H : Int) := by rw [Int.tdiv_eq_ediv_of_nonneg (by omega)]; omega
    have hl' : (n : Int) ≤ (H : Int) := by omega
    have D20 : D ≤ 1048576 := by omega
    have H20 : H ≤ 1048576 := by omega
    rw [← hD] at LS ⊢
    clear IH E hoff hb hD hH hh
    go_enter Tryz.func62, Tryz.ntmps62
    go_wp2_with fail
    refine LS.out.mono ?_
    rintro e w4 ⟨rfl, R⟩
    have RR := hid R
    clear R LS
    go_wp2
    go_end0
    exact ⟨rfl, RR.out⟩
  · have LS := hid (both_step OK TO hh hN m H hm hH IH b n off X w E hoff hb (by omega) hn)
    obtain ⟨D, hD⟩ : ∃ D, D = 2 * H := ⟨_, rfl⟩
    have q1 : ((D : Int) == 1) = false := beq_eq_false_iff_ne.2 (by omega)
    have dq : Int.tdiv (D : Int) 2 = (H : Int) := by rw [Int.tdiv_eq_ediv_of_nonneg (by omega)]; omega
    have hl' : ¬ (n : Int) ≤ (H : Int) := by omega
    have D20 : D ≤ 1048576 := by omega
    have H20 : H ≤ 1048576 := by omega
    rw [← hD] at LS ⊢
    clear IH E hoff hb hD hH hh
    go_enter Tryz.func62, Tryz.ntmps62
    go_wp2_with fail
    refine LS.out.mono ?_
    rintro e w4 ⟨rfl, R⟩
    have RR := hid R
    clear R LS
    go_wp2
    go_end0
    exact ⟨rfl, RR.out⟩
theorem up_any {g gf gm gl p k r h N : Nat} {f s : Int} (OK : Ok p f s) (TO : TabOk p k r) (hh : h = 2 ^ k / 2) (hN : N ≤ 1048576) : ∀ m, m ≤ k → UpIs g gf gm gl p k r h N f s m (2 ^ m)
  | 0, _ => by
    intro b n off X w E hoff hb hn
    refine (up_none g gl off (2 ^ 0) b n w (Or.inr rfl)).mono ?_
    rintro e w' ⟨rfl, rfl⟩
    exact ⟨rfl, X, E, OnlyB.refl _ _, fun _ _ _ => rfl, Mxd.zero⟩
  | m + 1, hm => by
    rw [Nat.pow_succ, Nat.mul_comm]
    exact up_step OK TO hh hN m (2 ^ m) hm rfl (up_any OK TO hh hN m (by omega))
/-- what was handed in, below the modulus, and nothing behind it. -/
def exm (p : Nat) (a : Nat → Int) (n j : Nat) : Int := if j < n then a j % p else 0
set_option maxHeartbeats 1600000 in
theorem block_any {g gf gm p k r h : Nat} {f s : Int} (u : Value) (n M kk N : Nat) (a : Nat → Int) (w : World) (T : PlnF w g gf gm p k r h f s) (OK : Ok p f s) (U : Wl w u n a) (hn : n ≤ M) (hM : 0 < M) (hM2 : M ≤ 1048576) (hk : kk = Lib.bitLen (M - 1)) (hN : N = 2 ^ kk) (hN2 : N ≤ 1048576) (hMN : M ≤ N) :
    Calls Tryz.prog 58 #[.pointer (some ⟨g, 0, none⟩), u, .int .i64 M] w fun e w' => e = .returned (.slice (some ⟨w.heap.size, 0, none⟩) N N) ∧ EnvT w' g gf gm w.heap.size p k r h N f s (exm p a n) ∧ Below w.heap.size w w' := by
  have p2 := OK.h2
  have BL := hid (blen_any (M - 1) w (by omega))
  rw [← hk] at BL
  have k20 : kk ≤ 62 := by
    apply Nat.le_of_not_lt
    intro hlt
    have : 2 ^ 63 ≤ 2 ^ kk := Nat.pow_le_pow_right (by decide) hlt
    omega
  have e2 : (2 : Int) ^ kk = (N : Int) := by rw [hN, Int.natCast_pow]; rfl
  have TT := hid T
  have UU := hid U
  have lt := T.lt
  have OF : Hid (∀ W x, Fld W gf p f s → 0 ≤ x → Calls Tryz.prog 83 #[.pointer (some ⟨gf, 0, none⟩), .int .u64 x] W fun e w' => e = .returned (.int .u64 (x % p)) ∧ w' = W) := fun W x F hx => of_any gf p f s x W F (by omega) hx
  have w1 : (M : Int) - 1 = ((M - 1 : Nat) : Int) := by omega
  obtain ⟨ao, cap, rfl, hcap, hcap2, -, -⟩ := U
  have hnN : n ≤ N := by omega
  have M1 : M - 1 ≤ 1048576 := by omega
  generalize M - 1 = m1 at *
  have HLT := hid lt
  clear T hk hN OK lt hn hMN
  go_enter Tryz.func58, Tryz.ntmps58
  go_wp2_with fail
  refine BL.out.mono ?_
  rintro e w3 ⟨rfl, hw⟩
  obtain rfl := hw.symm
  clear BL
  go_wp2_with (at_make; refine wp_make _ rfl _ _ rfl _ _ N rfl rfl (by omega) (by omega) (by omega) ?_; intro w1 R1 C1 Z1; have HR := hid R1; have HC := hid C1; have HZ1 := hid Z1; clear R1 C1 Z1)
  have lt := HLT.out
  have B0 := hid (HC.out)
  have E0 : Hid (EnvT w1 g gf gm w.heap.size p k r h N f s (fun _ => 0)) := ⟨TT.out.below B0.out lt, HR.out, fun j _ => ⟨Int.le_refl 0, by omega⟩, by omega, by omega, by omega⟩
  clear HR HC HZ1
  go_loopw [18] (fun iv wr => ∃ (i : Nat), iv = .int .i64 i ∧ i ≤ n ∧ Hid (EnvT wr g gf gm w.heap.size p k r h N f s (exm p a i)) ∧ Hid (Below w.heap.size w wr)) (fun iv _ => ((n : Int) - intOf iv).toNat)
  case atStart => exact ⟨0, rfl, Nat.zero_le _, E0.out.eq (fun j _ => by unfold exm; rw [if_neg (by omega)]), B0.out⟩
  case round =>
    obtain ⟨i, rfl, hi, Ei, Bi⟩ := hrel
    by_cases him : i = n
    · have him' : ¬ (i : Int) < (n : Int) := by omega
      obtain rfl := him
      clear E0 B0 TT UU OF HLT
      go_wp2
      go_ret
      exact ⟨rfl, Ei.out, Bi.out⟩
    · have him' : (i : Int) < (n : Int) := by omega
      have Ui := UU.out.below Bi.out
      obtain ⟨ao', cap', hu, -, -, hv, hcell⟩ := Ui
      injection hu with hu1 hu2 hu3
      subst hu1 hu3
      clear hu2
      obtain ⟨ub, uo, hao, hub, hc⟩ := hcell (by omega)
      subst hao
      have ci := hc i (by omega)
      have ai := hv i (by omega)
      have cf := Ei.out.pln.tc.cell0
      have cl := Ei.out.row.cell (i := i) (by omega)
      have fl := Ei.out.row.frozen i
      have O1 := hid (OF.out wr (a i) Ei.out.pln.fld ai.1)
      have F3 : Hid (EnvT (wr.setCell ⟨w.heap.size, i, none⟩ (.int .u64 (a i % p))) g gf gm w.heap.size p k r h N f s (exm p a (i + 1)) ∧ Below w.heap.size w (wr.setCell ⟨w.heap.size, i, none⟩ (.int .u64 (a i % p)))) :=
        ⟨Ei.out.set i _ ⟨Int.emod_nonneg _ (by omega), Int.emod_lt_of_pos _ (by omega)⟩ (fun j _ => by
          unfold exm
          by_cases e : j = i
          · rw [if_pos e, e, if_pos (by omega)]
          · rw [if_neg e]
            by_cases e2 : j < i
            · rw [if_pos e2, if_pos (by omega)]
            · rw [if_neg e2, if_neg (by omega)]), below_set Bi.out (Nat.le_refl _) _ _⟩
      have hiN : (i : Int) < (N : Int) := by omega
      clear Ei Bi UU OF hc hv hcell E0 B0 TT HLT
      generalize a i % (p : Int) = v1 at *
      go_wp2_with fail
      refine O1.out.mono ?_
      rintro e w7 ⟨rfl, hw⟩
      obtain rfl := hw.symm
      clear O1
      go_wp2
      exact ⟨⟨i + 1, rfl, by omega, F3.out.1, F3.out.2⟩, by simp only [intOf]; omega⟩
end Go.Proofs.YtocfenjampmdlabGreatDoor
namespace Go.Proofs.YtocfenjampmdlabGreatDoor
open Go.RowKit Num Nmb

theorem ev_cut {p n N : Nat} {A : Nat → Int} (hn : n ≤ N) (h : ∀ j, n ≤ j → j < N → Cg p (A j) 0) (x : Int) : Cg p (ev A N x) (ev A n x) := by
  have h2 : Cg p (ev A N x) (ev (fun j => if j < n then A j else 0) N x) := ev_cg (fun j hj => by
    show Cg p (A j) (if j < n then A j else 0)
    by_cases e : j < n
    · rw [if_pos e]; exact Cg.rfl
    · rw [if_neg e]; exact h j (by omega) hj) Cg.rfl
  refine h2.trans (Cg.of_eq ?_)
  rw [ev_long (m := n) hn (fun j h3 _ => if_neg (by omega))]
  exact sm_eq _ fun j hj => by show (if j < n then A j else 0) * _ = _; rw [if_pos hj]
/-- what is asked of a list of M words: how great its block is. -/
theorem size_said {k M : Nat} (hk : k ≤ 20) (hM : 0 < M) (hM2 : M ≤ 2 ^ k) : ∃ kk N, kk = Lib.bitLen (M - 1) ∧ N = 2 ^ kk ∧ kk ≤ k ∧ M ≤ N ∧ N ≤ 1048576 := by
  have bl := bl_said k (M - 1) (by omega) (by omega)
  have : 2 ^ Lib.bitLen (M - 1) ≤ 2 ^ 20 := Nat.pow_le_pow_right (by decide) (by omega)
  exact ⟨_, _, rfl, rfl, bl.2, by omega, by omega⟩
set_option maxHeartbeats 1600000 in
theorem values_some (g p k r : Nat) (u : Value) (n m : Nat) (a : Nat → Int) (w : World) (T : Pln w g p k r) (U : Wl w u n a) (hn : n ≤ 2 ^ k) (hm : m ≤ 2 ^ k) (m0 : 0 < m) :
    Calls Tryz.prog 38 #[.pointer (some ⟨g, 0, none⟩), u, .int .i64 m] w fun e w' => e = .returned (.slice (some ⟨w.heap.size, 0, none⟩) m m) ∧ (∃ N X, Row w' w.heap.size N X ∧ m ≤ N ∧ N ≤ 1048576 ∧ ∀ j, j < m → X j = ev a n ((r : Int) ^ rv k j) % p) ∧ Below w.heap.size w w' := by
  obtain ⟨TO, gf, gm, h, f, s, TF, hh, OK⟩ := T
  have p2 := TO.pri.1
  obtain ⟨M, hM⟩ : ∃ M, M = max n m := ⟨_, rfl⟩
  obtain ⟨kk, N, hkk, hN, hk, hMN, hN2⟩ := size_said (k := k) (M := M) TO.k20 (by omega) (by omega)
  have BK := hid (block_any u n M kk N a w TF OK U (by omega) (by omega) (by omega) hkk hN hN2 hMN)
  have DN := down_any (g := g) (gf := gf) (gm := gm) (gl := w.heap.size) (N := N) OK TO hh hN2 kk hk
  rw [← hN] at DN
  have HDN := hid DN
  have l0 : 0 < 2 ^ (k - kk) := Nat.two_pow_pos _
  have FIN : Hid (∀ Y : Nat → Int, (∀ j, j < N → 0 ≤ Y j ∧ Y j < p) → (∀ i, i < m → Cg p (Y (0 + i)) (lf r k kk 0 (fun j => exm p a n (0 + j)) i)) → ∀ j, j < m → Y j = ev a n ((r : Int) ^ rv k j) % p) := by
    intro Y bd h1 j hj
    have b := bd j (by omega)
    have h2 := h1 j hj
    rw [Nat.zero_add] at h2
    have h3 := h2.trans (TO.rt.lf_ev kk hk 0 (fun j => exm p a n (0 + j)) j (by omega))
    rw [Nat.zero_mul, Nat.zero_add] at h3
    have h4 := h3.trans (ev_cut (n := n) (by omega) (fun j hj _ => by
      show Cg p (exm p a n (0 + j)) 0
      unfold exm
      rw [if_neg (by omega)]
      exact Cg.rfl) _)
    have h5 := h4.trans (ev_cg (b := a) (y := (r : Int) ^ rv k j) (fun j hj => by
      show Cg p (exm p a n (0 + j)) (a j)
      unfold exm
      rw [Nat.zero_add, if_pos hj]
      exact Cg.mod) Cg.rfl)
    have h6 : Y j % p = ev a n ((r : Int) ^ rv k j) % p := h5
    rw [Int.emod_eq_of_lt b.1 b.2] at h6
    exact h6
  have mx : max (n : Int) (m : Int) = (M : Int) := by omega
  have HX := hid mx
  have m0' : ((m : Int) == 0) = false := beq_eq_false_iff_ne.2 (by omega)
  have mN : m ≤ N := by omega
  have mN' : (m : Int) ≤ (N : Int) := by omega
  obtain ⟨ao, cap, rfl, -⟩ := U
  clear TF hh OK hM hkk hN mx DN
  go_enter Tryz.func38, Tryz.ntmps38
  go_wp2_with fail
  rw [HX.out]
  refine BK.out.mono ?_
  rintro e w3 ⟨rfl, E3, B3⟩
  have D3 := hid (HDN.out 0 m 0 _ w3 E3 (by omega) l0 mN)
  have BB := hid B3
  clear BK HX E3 B3 HDN
  go_wp2_with fail
  refine D3.out.mono ?_
  rintro e w4 ⟨rfl, Y, E4, O4, -, a2⟩
  have R4 : Hid (∃ N X, Row w4 w.heap.size N X ∧ m ≤ N ∧ N ≤ 1048576 ∧ ∀ j, j < m → X j = ev a n ((r : Int) ^ rv k j) % p) := ⟨N, Y, E4.row, mN, hN2, FIN.out Y E4.bnd a2⟩
  have B4 := hid (BB.out.trans (O4.below))
  clear D3 E4 O4 a2 BB FIN
  go_wp2
  go_ret
  exact ⟨rfl, R4.out, B4.out⟩
set_option maxHeartbeats 800000 in
theorem values_none (g : Nat) (u : Value) (w : World) :
    Calls Tryz.prog 38 #[.pointer (some ⟨g, 0, none⟩), u, .int .i64 0] w fun e w' => e = .returned (.slice none 0 0) ∧ w' = w := by
  go_enter Tryz.func38, Tryz.ntmps38
  go_wp2
  go_ret
  exact ⟨rfl, rfl⟩
set_option maxHeartbeats 1600000 in
theorem coefs_some (g p k r : Nat) (u : Value) (n : Nat) (a : Nat → Int) (w : World) (T : Pln w g p k r) (U : Wl w u n a) (hn : n ≤ 2 ^ k) (n0 : 0 < n) :
    Calls Tryz.prog 40 #[.pointer (some ⟨g, 0, none⟩), u] w fun e w' => e = .returned (.slice (some ⟨w.heap.size, 0, none⟩) n n) ∧ (∃ b, Wl w' (.slice (some ⟨w.heap.size, 0, none⟩) n n) n b ∧ Fnd p k r n a b) ∧ Below w.heap.size w w' := by
  obtain ⟨TO, gf, gm, h, f, s, TF, hh, OK⟩ := T
  have p2 := TO.pri.1
  have p63 := TO.h63
  obtain ⟨kk, N, hkk, hN, hk, hMN, hN2⟩ := size_said (k := k) (M := n) TO.k20 (by omega) (by omega)
  have BK := hid (block_any u n n kk N a w TF OK U (by omega) (by omega) (by omega) hkk hN hN2 hMN)
  have DN := up_any (g := g) (gf := gf) (gm := gm) (gl := w.heap.size) (N := N) OK TO hh hN2 kk hk
  rw [← hN] at DN
  have HDN := hid DN
  have l0 : 0 < 2 ^ (k - kk) := Nat.two_pow_pos _
  have FIN : Hid (∀ Y : Nat → Int, (∀ j, j < N → 0 ≤ Y j ∧ Y j < p) → Mxd p r k kk 0 n (fun j => Y (0 + j)) (fun j => exm p a n (0 + j)) → Fnd p k r n a Y) := by
    intro Y bd h1 j hj
    have b := bd j (by omega)
    refine ⟨b.1, b.2, ?_⟩
    have h2 : Cg p (exm p a n (0 + j)) (lf r k kk 0 (fun j => Y (0 + j)) j) := h1.1 j hj (by omega)
    have h3 := h2.trans (TO.rt.lf_ev kk hk 0 (fun j => Y (0 + j)) j (by omega))
    rw [Nat.zero_mul, Nat.zero_add] at h3
    have h4 := h3.trans (ev_cut (n := n) (by omega) (fun j hj hj2 => by
      have q : Cg p (exm p a n (0 + j)) (Y (0 + j)) := h1.2 j hj hj2
      unfold exm at q
      rw [if_neg (by omega)] at q
      exact q.symm) _)
    unfold exm at h4
    rw [if_pos hj] at h4
    have h5 : Cg p (a j) (ev (fun j => Y (0 + j)) n ((r : Int) ^ rv k j)) := Cg.mod.symm.trans h4
    have e : (fun j => Y (0 + j)) = Y := funext fun j => by rw [Nat.zero_add]
    rw [e] at h5
    exact h5.symm
  have n0' : ((n : Int) == 0) = false := beq_eq_false_iff_ne.2 (by omega)
  have mN' : (n : Int) ≤ (N : Int) := by omega
  obtain ⟨ao, cap, rfl, -⟩ := U
  clear TF hh OK hkk hN DN TO
  go_enter Tryz.func40, Tryz.ntmps40
  go_wp2_with fail
  refine BK.out.mono ?_
  rintro e w3 ⟨rfl, E3, B3⟩
  have D3 := hid (HDN.out 0 n 0 _ w3 E3 (by omega) l0 hMN)
  have BB := hid B3
  clear BK E3 B3 HDN
  go_wp2_with fail
  refine D3.out.mono ?_
  rintro e w4 ⟨rfl, Y, E4, O4, -, a2⟩
  have R4 : Hid (∃ b, Wl w4 (.slice (some ⟨w.heap.size, 0, none⟩) n n) n b ∧ Fnd p k r n a b) := ⟨Y, ⟨_, n, rfl, Nat.le_refl _, by omega, fun j hj => by
    have := E4.bnd j (by omega)
    omega, fun _ => ⟨w.heap.size, 0, rfl, E4.row.lt, fun j hj => by rw [Nat.zero_add]; exact E4.row.cell (by omega)⟩⟩, FIN.out Y E4.bnd a2⟩
  have B4 := hid (BB.out.trans (O4.below))
  clear D3 E4 O4 a2 BB FIN
  go_wp2
  go_ret
  exact ⟨rfl, R4.out, B4.out⟩
set_option maxHeartbeats 800000 in
theorem coefs_none (g : Nat) (ao : Option Addr) (cap : Nat) (w : World) :
    Calls Tryz.prog 40 #[.pointer (some ⟨g, 0, none⟩), .slice ao 0 cap] w fun e w' => e = .returned (.slice none 0 0) ∧ w' = w := by
  go_enter Tryz.func40, Tryz.ntmps40
  go_wp2
  go_ret
  exact ⟨rfl, rfl⟩
end Go.Proofs.YtocfenjampmdlabGreatDoor
namespace Go.Proofs.YtocfenjampmdlabGreatDoor
open Go.RowKit Num Nmb

/-- what formsOfPoints answers. -/
def FrmP (w w' : World) (p r k n : Nat) (e : Ending) : Prop := ∃ gm, e = .returned (.slice (some ⟨gm, 0, none⟩) n n) ∧ Row w' gm n (fmp p r k) ∧ w.heap.size ≤ gm
set_option maxHeartbeats 1600000 in
theorem formsp_any (gf p r k n : Nat) (f s : Int) (w : World) (F : Fld w gf p f s) (OK : Ok p f s) (hk : k ≤ 20) (hn : n = 2 ^ k / 2) (ho : 0 < n → (p : Int) % 2 = 1) :
    Calls Tryz.prog 57 #[.pointer (some ⟨gf, 0, none⟩), .int .u64 r, .int .i64 k] w fun e w' => FrmP w w' p r k n e ∧ Below w.heap.size w w' := by
  have h2 := OK.h2
  have l20 : 2 ^ k ≤ 2 ^ 20 := Nat.pow_le_pow_right (by decide) hk
  have FF := hid F
  have lt := F.lt
  have K1 : Hid (0 < n → n = 2 ^ (k - 1) ∧ (k : Int) - 1 = ((k - 1 : Nat) : Int)) := fun h => by
    have : k ≠ 0 := by
      rintro rfl
      rw [hn] at h
      simp at h
    obtain ⟨j, rfl⟩ : ∃ j, k = j + 1 := ⟨k - 1, by omega⟩
    rw [hn, Nat.pow_succ]
    exact ⟨by rw [show j + 1 - 1 = j from rfl]; omega, by omega⟩
  have IN : Hid (∀ W x, Fld W gf p f s → 0 ≤ x → 0 < n → Calls Tryz.prog 43 #[.pointer (some ⟨gf, 0, none⟩), .int .u64 x] W fun e w' => e = .returned (.tuple #[.int .u64 (x * 18446744073709551616 % p), .int .i64 0]) ∧ ∃ k, w' = W.drewN k) := fun W x F hx h => in_form gf p f s x W F OK hx (ho h)
  have MU : Hid (∀ W x, Fld W gf p f s → 0 ≤ x → Calls Tryz.prog 39 #[.pointer (some ⟨gf, 0, none⟩), .int .u64 x, .int .u64 r] W fun e w' => e = .returned (.int .u64 (x * r % p)) ∧ ∃ k, w' = W.drewN k) := fun W x F hx => mul_any gf p f s x r W F OK hx (by omega)
  have e2 : (2 : Int) ^ k = ((2 ^ k : Nat) : Int) := (Int.natCast_pow 2 k).symm
  have dq : Int.tdiv ((2 ^ k : Nat) : Int) 2 = (n : Int) := by rw [Int.tdiv_eq_ediv_of_nonneg (by omega), hn]; omega
  have n20 : n ≤ 1048576 := by omega
  have k20 : k ≤ 20 := hk
  clear hn ho OK F
  generalize 2 ^ k = NN at *
  go_enter Tryz.func57, Tryz.ntmps57
  go_wp2_with (at_make; refine wp_make _ rfl _ _ rfl _ _ n rfl rfl (by omega) (by omega) (by omega) ?_; intro w1 R1 C1 Z1; have HR := hid R1; have HC := hid C1; clear R1 C1 Z1)
  go_loopw [16, 8] (fun iv pv wr => ∃ (i : Nat) (pw : Int) (fm : Nat → Int), iv = .int .i64 i ∧ pv = .int .u64 pw ∧ i ≤ n ∧ 0 ≤ pw ∧ Hid (pw = (r : Int) ^ i % p) ∧ Hid (∀ j, j < i → fm (rv (k - 1) j) = (r : Int) ^ j * 18446744073709551616 % p) ∧ Hid (Row wr w.heap.size n fm) ∧ Hid (Below w.heap.size w wr)) (fun iv _ _ => ((n : Int) - intOf iv).toNat)
  case atStart => exact ⟨0, 1, _, rfl, rfl, Nat.zero_le _, by omega, by show (1 : Int) = _; rw [Int.pow_zero, Int.emod_eq_of_lt (by omega) (by omega)], fun j hj => absurd hj (by omega), HR.out, HC.out⟩
  case round =>
    obtain ⟨i, pw, fm, rfl, rfl, hi, hpw, HP, HFM, RW, BW⟩ := hrel
    by_cases him : i = n
    · have him' : ¬ (i : Int) < (n : Int) := by omega
      obtain rfl := him
      have D : Hid (FrmP w wr p r k i (.returned (.slice (some ⟨w.heap.size, 0, none⟩) i i))) := ⟨_, rfl, RW.out.eq (fun j hj => by
        have hk1 := (K1.out (by omega)).1
        have h3 := HFM.out (rv (k - 1) j) (by
          have := rv_lt (k - 1) j
          omega)
        rw [rv_rv (k - 1) j (by omega)] at h3
        exact h3), Nat.le_refl _⟩
      clear HR HC IN MU FF HP HFM RW K1
      go_wp2
      go_ret
      exact ⟨D.out, BW.out⟩
    · have him' : (i : Int) < (n : Int) := by omega
      obtain ⟨hk1, hk2⟩ := K1.out (by omega)
      have lr : rv (k - 1) i < n := by
        have := rv_lt (k - 1) i
        omega
      have lr' : ((rv (k - 1) i : Nat) : Int) < (n : Int) := by omega
      have TU := hid (turned_any i (k - 1) wr (by omega) (by omega))
      have Fi := hid (FF.out.below BW.out lt)
      have I1 := hid (IN.out wr pw Fi.out hpw (by omega))
      have M1 : Hid (∀ W, Fld W gf p f s → Calls Tryz.prog 39 #[.pointer (some ⟨gf, 0, none⟩), .int .u64 pw, .int .u64 r] W fun e w' => e = .returned (.int .u64 (pw * r % p)) ∧ ∃ k, w' = W.drewN k) := fun W F => MU.out W pw F hpw
      have cl := RW.out.cell (i := rv (k - 1) i) lr
      have fl := RW.out.frozen (rv (k - 1) i)
      have NX : Hid (∀ W q, Row W w.heap.size n fm → Below w.heap.size w W → Fld W gf p f s → Hid (pw * r % p = (r : Int) ^ (i + 1) % p) ∧ Hid (∀ j, j < i + 1 → (fun t => if t = rv (k - 1) i then pw * 18446744073709551616 % p else fm t) (rv (k - 1) j) = (r : Int) ^ j * 18446744073709551616 % p) ∧ Hid (Row ((W.setCell ⟨w.heap.size, rv (k - 1) i, none⟩ (.int .u64 (pw * 18446744073709551616 % p))).drewN q) w.heap.size n (fun t => if t = rv (k - 1) i then pw * 18446744073709551616 % p else fm t)) ∧ Hid (Below w.heap.size w ((W.setCell ⟨w.heap.size, rv (k - 1) i, none⟩ (.int .u64 (pw * 18446744073709551616 % p))).drewN q))) := by
        intro W q R B F
        have hp := HP.out
        refine ⟨?_, ?_, (R.set _ _ (fun j _ => rfl)).drew q, below_drewN (below_set B (Nat.le_refl _) _ _) q⟩
        · show pw * r % p = _
          rw [hp, Int.pow_succ, Int.mul_emod, Int.emod_emod_of_dvd _ (Int.dvd_refl _), ← Int.mul_emod]
        · intro j hj
          show (if rv (k - 1) j = rv (k - 1) i then pw * 18446744073709551616 % p else fm (rv (k - 1) j)) = _
          by_cases e : j = i
          · subst e
            rw [if_pos rfl, hp, Int.mul_emod, Int.emod_emod_of_dvd _ (Int.dvd_refl _), ← Int.mul_emod]
          · have ne : rv (k - 1) j ≠ rv (k - 1) i := fun h => e (rv_inj (k := k - 1) (by omega) (by omega) h)
            rw [if_neg ne]
            exact HFM.out j (by omega)
      have v1b : 0 ≤ pw * r % (p : Int) := Int.emod_nonneg _ (by omega)
      have R1 := hid RW.out
      have B1 := hid BW.out
      have FS : Hid (∀ W v, Fld W gf p f s → Fld (W.setCell ⟨w.heap.size, rv (k - 1) i, none⟩ v) gf p f s) := fun W v F => F.other (by omega) _ _
      clear HR HC IN MU FF HP HFM RW BW K1 hk1
      generalize pw * 18446744073709551616 % (p : Int) = v1 at *
      generalize pw * r % (p : Int) = v2 at *
      generalize rv (k - 1) i = t at *
      go_wp2_with fail
      refine TU.out.mono ?_
      rintro e w7 ⟨rfl, hw⟩
      obtain rfl := hw.symm
      go_wp2_with fail
      refine I1.out.mono ?_
      rintro e w7 ⟨rfl, q, rfl⟩
      have N1 := hid (fun q' => NX.out _ q' (R1.out.drew q) (below_drewN B1.out q) (Fi.out.drew q))
      have M2 := hid (M1.out _ (FS.out _ (.int .u64 v1) (Fi.out.drew q)))
      have cl2 : (wr.drewN q).cell? ⟨w.heap.size, t, none⟩ = some (.int .u64 (fm t)) := by simpa using cl
      have fl2 : (wr.drewN q).frozen? ⟨w.heap.size, t, none⟩ = false := by simpa using fl
      clear TU I1 M1 cl fl NX R1 B1 FS Fi
      generalize wr.drewN q = w8 at *
      go_wp2_with fail
      refine M2.out.mono ?_
      rintro e w9 ⟨rfl, q2, rfl⟩
      have N2 := hid (N1.out q2)
      clear M2 N1 cl2 fl2
      generalize (w8.setCell ⟨w.heap.size, t, none⟩ (.int .u64 v1)).drewN q2 = w10 at *
      go_wp2
      exact ⟨⟨i + 1, v2, _, rfl, rfl, by omega, v1b, N2.out.1, N2.out.2.1, N2.out.2.2.1, N2.out.2.2.2⟩, by simp only [intOf]; omega⟩
set_option maxHeartbeats 1600000 in
theorem tnew_limit (p : Nat) (k : Int) (w : World) (hk : 20 < k) :
    Calls Tryz.prog 36 #[.int .u64 p, .int .i64 k] w fun e w' => e = .returned (.tuple #[.pointer none, .int .i64 13]) ∧ Below w.heap.size w w' := by
  go_enter Tryz.func36, Tryz.ntmps36
  go_wp2
  go_ret2
  exact ⟨rfl, Below.refl _ _⟩
set_option maxHeartbeats 1600000 in
theorem tnew_prime (p : Nat) (k : Int) (w : World) (hn : p ≤ 18446744073709551615) (hk : k ≤ 20) (hb : isB p = false) (L : Lay w) :
    Calls Tryz.prog 36 #[.int .u64 p, .int .i64 k] w fun e w' => e = .returned (.tuple #[.pointer none, .int .i64 14]) ∧ Below w.heap.size w w' := by
  have R := hid (root_no p k w hn hb L)
  have hk' : ¬ (20 : Int) < k := by omega
  clear hb L
  go_enter Tryz.func36, Tryz.ntmps36
  go_wp2_with fail
  refine R.out.mono ?_
  rintro e w1 ⟨rfl, c, rfl⟩
  have BB := hid (below_drewN (Below.refl w.heap.size w) c)
  go_wp2
  go_ret2
  exact ⟨rfl, BB.out⟩
set_option maxHeartbeats 1600000 in
theorem tnew_arg (p : Nat) (k : Int) (w : World) (hp : Pri p) (h63 : p < 9223372036854775808) (hk : k ≤ 20) (ha : k < 0 ∨ (tw p : Int) < k) (L : Lay w) :
    Calls Tryz.prog 36 #[.int .u64 p, .int .i64 k] w fun e w' => e = .returned (.tuple #[.pointer none, .int .i64 1]) ∧ Below w.heap.size w w' := by
  have R := hid (root_arg p k w (isB_of_pri hp (by omega)) h63 ha L)
  have hk' : ¬ (20 : Int) < k := by omega
  clear hp ha L
  go_enter Tryz.func36, Tryz.ntmps36
  go_wp2_with fail
  refine R.out.mono ?_
  rintro e w1 ⟨rfl, B⟩
  have BB := hid B
  clear B
  go_wp2
  go_ret2
  exact ⟨rfl, BB.out⟩
set_option maxHeartbeats 3200000 in
theorem tnew_yes (p k : Nat) (w : World) (hp : Pri p) (h63 : p < 9223372036854775808) (hk : k ≤ 20) (ha : k ≤ tw p) (L : Lay w) :
    Calls Tryz.prog 36 #[.int .u64 p, .int .i64 k] w fun e w' => (∃ g r, e = .returned (.tuple #[.pointer (some ⟨g, 0, none⟩), .int .i64 0]) ∧ Pln w' g p k r) ∧ Below w.heap.size w w' := by
  have R := hid (root_any p k w hp h63 ha L)
  have hk' : ¬ (20 : Int) < (k : Int) := by omega
  have HP := hid hp
  have HA := hid ha
  have p2 := hp.1
  have NW : Hid (∀ w : World, Calls Tryz.prog 41 #[.int .u64 p] w fun e w' => e = .returned (.tuple #[.pointer (some ⟨w.heap.size, 0, none⟩), .int .i64 0]) ∧ Below w.heap.size w w' ∧ ∃ f s, Fld w' w.heap.size p f s ∧ Ok p f s) := fun w => new_any p w (by omega) (by omega)
  have N0 : Hid (0 < 2 ^ k / 2 → 0 < k) := fun h => by
    apply Nat.pos_of_ne_zero
    intro e
    rw [e] at h
    simp at h
  obtain ⟨M, hM⟩ : ∃ M, M = 2 ^ k / 2 := ⟨_, rfl⟩
  rw [← hM] at N0
  have HM := hid hM
  clear hp ha L hM
  go_enter Tryz.func36, Tryz.ntmps36
  go_wp2_with fail
  refine R.out.mono ?_
  rintro e w1 ⟨⟨y, rfl, Y⟩, B1⟩
  have BB1 := hid B1
  have YY := hid Y
  clear B1 Y R
  go_wp2_with fail
  refine (NW.out _).mono ?_
  rintro e w2 ⟨rfl, B2, f, s, F, O⟩
  have BB2 := hid (BB1.out.trans (B2.mono BB1.out.size))
  have TO : TabOk p k y := ⟨HP.out, h63, hk, HA.out, YY.out.2⟩
  have FR := hid (formsp_any w1.heap.size p y k M f s w2 F O hk HM.out (fun h => TO.odd (N0.out h)))
  have TT := hid TO
  have FF := hid F
  have OO := hid O
  clear B2 F O BB1 NW TO
  generalize w1.heap.size = gf at *
  go_wp2_with fail
  refine FR.out.mono ?_
  rintro e w3 ⟨X, B3⟩
  obtain ⟨gm, rfl, R3, l3⟩ := X
  have BB3 := hid (BB2.out.trans (B3.mono BB2.out.size))
  have FF3 := hid (FF.out.below B3 FF.out.lt)
  have RR3 := hid R3
  clear B3 R3 l3 FR FF BB2
  go_wp2
  go_ret2
  have A3 : Below w3.heap.size w3 (w3.alloc (.cells #[.pointer (some ⟨gf, 0, none⟩), .int .i64 k, .int .u64 y, .slice (some ⟨gm, 0, none⟩) M M] 87 (0, 0))) := (Below.refl _ _).alloc (Nat.le_refl _) _
  refine ⟨⟨_, y, rfl, TT.out, gf, gm, M, f, s, ⟨heap_alloc_new w3 _, FF3.out.below A3 FF3.out.lt, RR3.out.below A3 RR3.out.lt⟩, HM.out, OO.out⟩, BB3.out.alloc BB3.out.size _⟩
end Go.Proofs.YtocfenjampmdlabGreatDoor
namespace Go.Proofs.YtocfenjampmdlabGreatDoor
open Go.RowKit Num Nmb

set_option maxHeartbeats 800000 in
theorem tmul_nil (u v : Value) (n m : Nat) (a b : Nat → Int) (w : World) (_U : Wl w u n a) (_V : Wl w v m b) : Calls Tryz.prog 21 #[.pointer none, u, v] w fun e w' => (∃ v, e = .returned (.tuple #[v, .int .i64 2])) ∧ Below w.heap.size w w' := by
  have B := hid (Below.refl w.heap.size w)
  clear _U _V
  go_enter Tryz.func21, Tryz.ntmps21
  go_wp2
  go_ret2
  exact ⟨⟨_, rfl⟩, B.out⟩
set_option maxHeartbeats 800000 in
theorem tmul_none (g p k r : Nat) (u v : Value) (n m : Nat) (a b : Nat → Int) (w : World) (_T : Pln w g p k r) (U : Wl w u n a) (V : Wl w v m b) (h : n = 0 ∨ m = 0) :
    Calls Tryz.prog 21 #[.pointer (some ⟨g, 0, none⟩), u, v] w fun e w' => (∃ ao cap, e = .returned (.tuple #[.slice ao 0 cap, .int .i64 0]) ∧ Wl w' (.slice ao 0 cap) 0 a) ∧ Below w.heap.size w w' := by
  have B := hid (Below.refl w.heap.size w)
  have W := hid (Wl.nil w a)
  obtain ⟨ao, cap, rfl, -⟩ := U
  obtain ⟨bo, bap, rfl, -⟩ := V
  clear _T
  by_cases n0 : n = 0
  · subst n0
    go_enter Tryz.func21, Tryz.ntmps21
    go_wp2
    go_ret2
    exact ⟨⟨_, _, rfl, W.out⟩, B.out⟩
  · obtain rfl : m = 0 := by omega
    have n0' : ((n : Int) == 0) = false := beq_eq_false_iff_ne.2 (by omega)
    go_enter Tryz.func21, Tryz.ntmps21
    go_wp2
    go_ret2
    exact ⟨⟨_, _, rfl, W.out⟩, B.out⟩
set_option maxHeartbeats 800000 in
theorem tmul_limit (g p k r : Nat) (u v : Value) (n m : Nat) (a b : Nat → Int) (w : World) (T : Pln w g p k r) (U : Wl w u n a) (V : Wl w v m b) (hn : 0 < n) (hm : 0 < m) (h : 2 ^ k < n + m - 1) (hs : n + m ≤ 9223372036854775807) :
    Calls Tryz.prog 21 #[.pointer (some ⟨g, 0, none⟩), u, v] w fun e w' => (∃ ao cap, e = .returned (.tuple #[.slice ao 0 cap, .int .i64 13])) ∧ Below w.heap.size w w' := by
  have B := hid (Below.refl w.heap.size w)
  have l20 : 2 ^ k ≤ 2 ^ 20 := Nat.pow_le_pow_right (by decide) T.ok.k20
  obtain ⟨ao, cap, rfl, -⟩ := U
  obtain ⟨bo, bap, rfl, -⟩ := V
  have MA := hid (tmost_any g p k r w T)
  have n0' : ((n : Int) == 0) = false := beq_eq_false_iff_ne.2 (by omega)
  have m0' : ((m : Int) == 0) = false := beq_eq_false_iff_ne.2 (by omega)
  have w1 : IntKind.i64.wrap ((n : Int) + (m : Int)) = (n : Int) + (m : Int) := by rw [IntKind.wrap_i64]; omega
  have w2 : ((2 ^ k : Nat) : Int) + 2 ≤ (n : Int) + (m : Int) := by omega
  clear T h
  generalize 2 ^ k = N at *
  go_enter Tryz.func21, Tryz.ntmps21
  go_wp2_with fail
  refine MA.out.mono ?_
  rintro e w3 ⟨rfl, hw⟩
  obtain rfl := hw.symm
  go_wp2
  go_ret2
  exact ⟨⟨_, _, rfl⟩, B.out⟩
end Go.Proofs.YtocfenjampmdlabGreatDoor
namespace Go.Proofs.YtocfenjampmdlabGreatDoor
open Go.RowKit Num Nmb

set_option maxHeartbeats 1600000 in
set_option maxRecDepth 100000 in
theorem tmul_any (g p k r : Nat) (u v : Value) (n m : Nat) (a b : Nat → Int) (w : World) (T : Pln w g p k r) (U : Wl w u n a) (V : Wl w v m b) (hn : 0 < n) (hm : 0 < m) (h : n + m - 1 ≤ 2 ^ k) :
    Calls Tryz.prog 21 #[.pointer (some ⟨g, 0, none⟩), u, v] w fun e w' => (∃ ao cap, e = .returned (.tuple #[.slice ao (n + m - 1 : Nat) cap, .int .i64 0]) ∧ Wl w' (.slice ao (n + m - 1) cap) (n + m - 1) (fun j => prd a b n m j % p)) ∧ Below w.heap.size w w' := by
  have p2 := T.ok.pri.1
  have p63 := T.ok.h63
  have l20 : 2 ^ k ≤ 1048576 := Nat.pow_le_pow_right (n := 2) (j := 20) (by decide) T.ok.k20
  have TO := T.ok
  obtain ⟨M, hM⟩ : ∃ M, M = n + m - 1 := ⟨_, rfl⟩
  have MA := hid (tmost_any g p k r w T)
  have VA := hid (values_some g p k r u n M a w T U (by omega) (by omega) (by omega))
  have VB : Hid (∀ w1, Below w.heap.size w w1 → Calls Tryz.prog 38 #[.pointer (some ⟨g, 0, none⟩), v, .int .i64 M] w1 fun e w' => e = .returned (.slice (some ⟨w1.heap.size, 0, none⟩) M M) ∧ (∃ N X, Row w' w1.heap.size N X ∧ M ≤ N ∧ N ≤ 1048576 ∧ ∀ j, j < M → X j = ev b m ((r : Int) ^ rv k j) % p) ∧ Below w1.heap.size w1 w') := fun w1 B => values_some g p k r v m M b w1 (T.below B) (V.below B) (by omega) (by omega) (by omega)
  obtain ⟨ao, cap, rfl, -⟩ := U
  obtain ⟨bo, bap, rfl, -⟩ := V
  obtain ⟨_, gf, gm, hh, f, s, TF, hh2, OK⟩ := T
  have TT := hid TF
  have lt := TF.lt
  have PL : Hid (∀ W, PlnF W g gf gm p k r hh f s → Pln W g p k r) := fun W F => ⟨TO, gf, gm, hh, f, s, F, hh2, OK⟩
  have CO : Hid (∀ W gv (z : Nat → Int), PlnF W g gf gm p k r hh f s → Wl W (.slice (some ⟨gv, 0, none⟩) M M) M z → Calls Tryz.prog 40 #[.pointer (some ⟨g, 0, none⟩), .slice (some ⟨gv, 0, none⟩) M M] W fun e w' => e = .returned (.slice (some ⟨W.heap.size, 0, none⟩) M M) ∧ (∃ b, Wl w' (.slice (some ⟨W.heap.size, 0, none⟩) M M) M b ∧ Fnd p k r M z b) ∧ Below W.heap.size W w') := fun W gv z F Z => coefs_some g p k r _ M z W (PL.out W F) Z (by omega) (by omega)
  have MU : Hid (∀ W x y, Fld W gf p f s → 0 ≤ x → 0 ≤ y → Calls Tryz.prog 39 #[.pointer (some ⟨gf, 0, none⟩), .int .u64 x, .int .u64 y] W fun e w' => e = .returned (.int .u64 (x * y % p)) ∧ ∃ k, w' = W.drewN k) := fun W x y F hx hy => mul_any gf p f s x y W F OK hx hy
  have em : ∀ x : Int, 0 ≤ x % (p : Int) ∧ x % (p : Int) < p := fun x => ⟨Int.emod_nonneg _ (by omega), Int.emod_lt_of_pos _ (by omega)⟩
  have EM := hid em
  have FIN : Hid (∀ (w' : World) (sv : Value) (c z : Nat → Int), (∀ j, j < M → z j = ev a n ((r : Int) ^ rv k j) % p * (ev b m ((r : Int) ^ rv k j) % p) % p) → Wl w' sv M c → Fnd p k r M z c → Wl w' sv M (fun j => prd a b n m j % p)) := by
    intro w' sv c z hz W F
    refine W.eq fun j hj => ?_
    refine F.is TO (by omega) (fun i hi => ?_) j hj
    rw [hz i hi, ev_prd a b (by omega), Int.emod_emod_of_dvd _ (Int.dvd_refl _), ← Int.mul_emod]
  have n0' : ((n : Int) == 0) = false := beq_eq_false_iff_ne.2 (by omega)
  have m0' : ((m : Int) == 0) = false := beq_eq_false_iff_ne.2 (by omega)
  have w1 : IntKind.i64.wrap ((n : Int) + (m : Int)) = (n : Int) + (m : Int) := by rw [IntKind.wrap_i64]; omega
  have w2 : ¬ ((2 ^ k : Nat) : Int) + 2 ≤ (n : Int) + (m : Int) := by omega
  have w3 : (n : Int) + (m : Int) - 1 = (M : Int) := by omega
  have w4 : IntKind.i64.wrap (M : Int) = (M : Int) := by rw [IntKind.wrap_i64]; omega
  have M20 : M ≤ 1048576 := by omega
  rw [← hM]
  clear TF OK hM h TO hh2 PL em
  generalize 2 ^ k = Nk at *
  go_enter Tryz.func21, Tryz.ntmps21
  go_wp2_with fail
  refine MA.out.mono ?_
  rintro e w3 ⟨rfl, hw⟩
  obtain rfl := hw.symm
  go_wp2_with fail
  refine VA.out.mono ?_
  rintro e w5 ⟨rfl, ⟨N, X, R1, hMN, hN2, hX⟩, B1⟩
  have V2 := hid (VB.out w5 B1)
  have lt5 := R1.lt
  have RR1 := hid R1
  have BB1 := hid B1
  have HX := hid hX
  clear R1 B1 hX VA VB MA
  go_wp2_with fail
  refine V2.out.mono ?_
  rintro e w6 ⟨rfl, ⟨N2, X2, R2, hMN2, hN22, hX2⟩, B2⟩
  have RV := hid (RR1.out.below B2 lt5)
  have RO := hid R2
  have BB2 := hid (BB1.out.trans (B2.mono BB1.out.size))
  have T6 := hid (TT.out.below BB2.out lt)
  have HX2 := hid hX2
  have ne : w5.heap.size ≠ w.heap.size := by omega
  have d3 : g ≠ w.heap.size ∧ gf ≠ w.heap.size ∧ gm ≠ w.heap.size := by omega
  have D3 := hid d3
  clear RR1 BB1 R2 B2 V2 TT hX2 d3 lt lt5
  obtain ⟨gv, hgv⟩ : ∃ gv, gv = w.heap.size := ⟨_, rfl⟩
  have HG := hid hgv
  rw [← hgv] at RV BB2 D3 ne ⊢
  clear hgv
  generalize w5.heap.size = go at *
  go_wp2
  go_loopw [50] (fun iv wr => ∃ (i : Nat) (Z : Nat → Int), iv = .int .i64 i ∧ i ≤ M ∧ Hid (∀ j, j < N → Z j = if j < i then X j * X2 j % p else X j) ∧ Hid (Row wr gv N Z) ∧ Hid (OnlyB gv w6 wr)) (fun iv _ => ((M : Int) - intOf iv).toNat)
  case atStart => exact ⟨0, X, rfl, Nat.zero_le _, fun j _ => by rw [if_neg (by omega)], RV.out, OnlyB.refl _ _⟩
  case round =>
    obtain ⟨i, Z, rfl, hi, HZ, Ri, Oi⟩ := hrel
    by_cases him : i = M
    · have him' : ¬ (i : Int) < (M : Int) := by omega
      obtain rfl := him
      have ZW : Wl wr (.slice (some ⟨gv, 0, none⟩) i i) i Z := ⟨_, i, rfl, Nat.le_refl _, by omega, fun j hj => by
        rw [HZ.out j (by omega), if_pos hj]
        have := EM.out (X j * X2 j)
        omega, fun _ => ⟨gv, 0, rfl, Ri.out.lt, fun j hj => by rw [Nat.zero_add]; exact Ri.out.cell (by omega)⟩⟩
      have C1 := hid (CO.out wr gv Z (T6.out.only Oi.out D3.out) ZW)
      have hz : Hid (∀ j, j < i → Z j = ev a n ((r : Int) ^ rv k j) % p * (ev b m ((r : Int) ^ rv k j) % p) % p) := fun j hj => by rw [HZ.out j (by omega), if_pos hj, HX.out j hj, HX2.out j hj]
      have B7 := hid (BB2.out.trans (Oi.out.below))
      clear ZW CO HZ Ri Oi RV RO BB2 T6 HX HX2 MU D3 EM
      go_wp2_with fail
      refine C1.out.mono ?_
      rintro e w7 ⟨rfl, ⟨c, W7, F7⟩, B8⟩
      have G := hid (FIN.out w7 _ c Z hz.out W7 F7)
      have B9 := hid (B7.out.trans (B8.mono (by have := B7.out.size; have := HG.out; omega)))
      clear C1 W7 F7 B8 B7 hz FIN
      go_wp2
      go_ret2
      refine ⟨⟨_, _, rfl, G.out⟩, ?_⟩
      rw [← HG.out]
      exact B9.out
    · have him' : (i : Int) < (M : Int) := by omega
      have hi' : i < M := by omega
      have Ti := T6.out.only Oi.out D3.out
      have cf := Ti.tc.cell0
      have cl := Ri.out.cell (i := i) (by omega)
      have fl := Ri.out.frozen i
      have co := (RO.out.only Oi.out ne).cell (i := i) (by omega)
      rw [HZ.out i (by omega), if_neg (by omega)] at cl
      have x0 : 0 ≤ X i := by rw [HX.out i hi']; exact (EM.out _).1
      have y0 : 0 ≤ X2 i := by rw [HX2.out i hi']; exact (EM.out _).1
      have M1 := hid (fun q => MU.out (wr.drewN q) (X i) (X2 i) (Ti.fld.drew q) x0 y0)
      have N1 : Hid (∀ q, Hid (∀ j, j < N → (fun t => if t = i then X i * X2 i % p else Z t) j = if j < i + 1 then X j * X2 j % p else X j) ∧ Hid (Row ((wr.drewN q).setCell ⟨gv, i, none⟩ (.int .u64 (X i * X2 i % p))) gv N (fun t => if t = i then X i * X2 i % p else Z t)) ∧ Hid (OnlyB gv w6 ((wr.drewN q).setCell ⟨gv, i, none⟩ (.int .u64 (X i * X2 i % p))))) := fun q =>
        ⟨fun j hj => by
          show (if j = i then X i * X2 i % p else Z j) = _
          by_cases e : j = i
          · rw [if_pos e, if_pos (by omega), e]
          · rw [if_neg e, HZ.out j hj]
            by_cases e2 : j < i
            · rw [if_pos e2, if_pos (by omega)]
            · rw [if_neg e2, if_neg (by omega)], (Ri.out.drew q).set i _ (fun _ _ => rfl), (Oi.out.drew q).set _ _⟩
      clear Ti x0 y0 MU CO HZ Ri Oi RV RO BB2 T6 HX HX2 D3 EM FIN
      generalize X i * X2 i % (p : Int) = v1 at *
      go_wp2_with fail
      refine wp_region_last (by kernel_rfl) (by kernel_rfl) (by kernel_rfl) (by kernel_rfl) (by decide) ?_
      simp only [stillLast, still, lastOf]
      repeat (quiet_step ((go_at_call 39; exact Calls.quiet_of (M1.out _))))
      refine wpQuiet_nil ?_
      intro _ hw'
      obtain ⟨nq, hw''⟩ := hw'
      subst hw''
      have N2 := hid (N1.out nq)
      have cl2 : (wr.drewN nq).cell? ⟨gv, i, none⟩ = some (.int .u64 (X i)) := by simpa using cl
      have fl2 : (wr.drewN nq).frozen? ⟨gv, i, none⟩ = false := by simpa using fl
      clear cf cl fl co M1 N1
      generalize wr.drewN nq = w8 at *
      go_wp2
      exact ⟨⟨i + 1, _, rfl, by omega, N2.out.1, N2.out.2.1, N2.out.2.2⟩, by simp only [intOf]; omega⟩
end Go.Proofs.YtocfenjampmdlabGreatDoor
