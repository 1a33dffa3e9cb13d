/- The exponents of a place: the reference's Exps (chapter 8). -/
/- The values of a polynomial at the points whose exponents' bits are turned about, by halves: what each half leaves (chapter 7). -/
/- The way back by halves, of some values and the coefficients behind them (after van der Hoeven). -/
/- Plain mathematics for the landed tft: bits turned about of two places; points; halves. -/
/- Bits turned about: what math/bits' Reverse64 does, in plain numbers. -/
import Derived.Test.YtocfenjampmdlaaGreatDoorQo
import Derived.Test.YtocfenjampmdlaaGreatDoorQt
namespace Go.Proofs.YtocfenjampmdlaaGreatDoor
open Go.RowKit Num Nmb

/-- the exponents of the place p. -/
def dg (d : Nat → Int) : Nat → Int → Nat → Int
  | 0, _, _ => 0
  | n + 1, p, t => if t = n then p % d n else dg d n (p / d n) t
theorem dg_in {d : Nat → Int} : ∀ {n : Nat} {p : Int}, (∀ i, i < n → 1 ≤ d i) → ∀ t, t < n → 0 ≤ dg d n p t ∧ dg d n p t < d t
  | 0, _, _, t, ht => absurd ht (by omega)
  | n + 1, p, h, t, ht => by
    have hn := h n (by omega)
    show 0 ≤ (if t = n then p % d n else dg d n (p / d n) t) ∧ (if t = n then p % d n else dg d n (p / d n) t) < d t
    by_cases e : t = n
    · rw [if_pos e, e]
      exact ⟨Int.emod_nonneg _ (by omega), Int.emod_lt_of_pos _ (by omega)⟩
    · rw [if_neg e]
      exact dg_in (fun i hi => h i (by omega)) t (by omega)
theorem pl_eq {d e e' : Nat → Int} : ∀ {n : Nat}, (∀ i, i < n → e i = e' i) → pl d e n = pl d e' n
  | 0, _ => rfl
  | n + 1, h => by
    show pl d e n * d n + e n = pl d e' n * d n + e' n
    rw [pl_eq (fun i hi => h i (by omega)), h n (by omega)]
theorem pl_dg {d : Nat → Int} : ∀ {n : Nat} {p : Int}, (∀ i, i < n → 1 ≤ d i) → 0 ≤ p → p < pd d n → pl d (dg d n p) n = p
  | 0, p, _, h0, h1 => by
    have h1' : p < 1 := h1
    show (0 : Int) = p
    omega
  | n + 1, p, h, h0, h1 => by
    have hn := h n (by omega)
    have h1' : p < pd d n * d n := h1
    have e1 : pl d (dg d (n + 1) p) n = pl d (dg d n (p / d n)) n := pl_eq fun i hi => by
      show (if i = n then p % d n else dg d n (p / d n) i) = _
      rw [if_neg (by omega)]
    have e2 : dg d (n + 1) p n = p % d n := by
      show (if n = n then p % d n else dg d n (p / d n) n) = _
      rw [if_pos rfl]
    show pl d (dg d (n + 1) p) n * d n + dg d (n + 1) p n = p
    rw [e1, e2, pl_dg (fun i hi => h i (by omega)) (Int.ediv_nonneg h0 (by omega)) (Int.ediv_lt_of_lt_mul (by omega) h1'), Int.mul_comm]
    exact Int.mul_ediv_add_emod p (d n)
/-- exponents are told by their place. -/
theorem pl_inj {d e e' : Nat → Int} : ∀ {n : Nat}, (∀ i, i < n → 0 ≤ e i ∧ e i < d i) → (∀ i, i < n → 0 ≤ e' i ∧ e' i < d i) → pl d e n = pl d e' n → ∀ i, i < n → e i = e' i
  | 0, _, _, _, i, hi => absurd hi (by omega)
  | n + 1, h, h', he, i, hi => by
    have a1 := h n (by omega)
    have a2 := h' n (by omega)
    have he' : pl d e n * d n + e n = pl d e' n * d n + e' n := he
    have m1 : (pl d e n * d n + e n) % d n = e n := by
      rw [Int.add_comm, Int.add_mul_emod_self_right, Int.emod_eq_of_lt a1.1 a1.2]
    have m2 : (pl d e' n * d n + e' n) % d n = e' n := by
      rw [Int.add_comm, Int.add_mul_emod_self_right, Int.emod_eq_of_lt a2.1 a2.2]
    have en : e n = e' n := by rw [← m1, he', m2]
    have ep : pl d e n = pl d e' n := Int.eq_of_mul_eq_mul_right (show d n ≠ 0 by omega) (by omega)
    by_cases q : i = n
    · rw [q]; exact en
    · exact pl_inj (fun i hi => h i (by omega)) (fun i hi => h' i (by omega)) ep i (by omega)
/-- block g holds n ints x. -/
def Rowi (w : World) (g n : Nat) (x : Nat → Int) : Prop :=
  ∃ cur : Array Value, w.heap[g]? = some (.cells cur 3 (0, 0)) ∧ cur.size = n ∧ ∀ j, j < n → cur[j]? = some (.int .i64 (x j))
theorem Rowi.cell {w : World} {g n : Nat} {x : Nat → Int} (h : Rowi w g n x) {i : Nat} (hi : i < n) : w.cell? ⟨g, i, none⟩ = some (.int .i64 (x i)) := by
  obtain ⟨cur, hg, _, hc⟩ := h
  simp [World.cell?, hg, hc i hi]
theorem Rowi.frozen {w : World} {g n : Nat} {x : Nat → Int} (h : Rowi w g n x) (i : Nat) : w.frozen? ⟨g, i, none⟩ = false := by
  obtain ⟨cur, hg, _, hc⟩ := h
  simp [World.frozen?, hg]
theorem Rowi.lt {w : World} {g n : Nat} {x : Nat → Int} (h : Rowi w g n x) : g < w.heap.size := by
  obtain ⟨cur, hg, _⟩ := h
  exact (Array.getElem?_eq_some_iff.1 hg).1
theorem Rowi.set {w : World} {g n : Nat} {x y : Nat → Int} (h : Rowi w g n x) (i : Nat) (v : Int) (e : ∀ j, j < n → y j = if j = i then v else x j) : Rowi (w.setCell ⟨g, i, none⟩ (.int .i64 v)) g n y := by
  obtain ⟨cur, hg, hs, hc⟩ := h
  refine ⟨cur.setIfInBounds i (.int .i64 v), ?_, by simpa using hs, fun j hj => ?_⟩
  · rw [heap_setCell_same w g i cur 3 _ hg]
  · rw [e j hj]
    by_cases e : j = i
    · subst e; rw [Array.getElem?_setIfInBounds]; simp [hs, hj]
    · rw [Array.getElem?_setIfInBounds]; simp [Ne.symm e, e, hc j hj]
theorem Rowi.below {B : Nat} {w w' : World} {g n : Nat} {x : Nat → Int} (h : Rowi w g n x) (hb : Below B w w') (hg : g < B) : Rowi w' g n x := by
  obtain ⟨cur, h1, h2, h3⟩ := h
  exact ⟨cur, by rw [hb.block g hg]; exact h1, h2, h3⟩
theorem Rowi.wi {w : World} {g n : Nat} {x : Nat → Int} (h : Rowi w g n x) (hv : ∀ j, j < n → -9223372036854775808 ≤ x j ∧ x j ≤ 9223372036854775807) (hn : n ≤ 9223372036854775807) : Wi w (.slice (some ⟨g, 0, none⟩) n n) n x :=
  ⟨_, n, rfl, Nat.le_refl _, hn, hv, fun _ => ⟨g, 0, rfl, h.lt, fun j hj => by rw [Nat.zero_add]; exact h.cell hj⟩⟩
theorem Tryz.infoI : (Tryz.prog.info? 3).map (fun i => (i.zero, i.size, i.bytes)) = some (some (.int .i64 0), 1, 8) := by kernel_rfl
theorem Rowi.new (w : World) (n : Nat) : Rowi (w.alloc (.cells (madeCells #[.int .i64 0] (n * 1)) 3)) w.heap.size n (fun _ => 0) := by
  refine ⟨madeCells #[.int .i64 0] (n * 1), ?_, by simp [size_madeCells], fun j hj => ?_⟩
  · exact heap_alloc_new w _
  · simp [madeCells, hj, Nat.mod_one]
theorem wp_makei {ops : Array Oper} {rest : List Oper} {o : Oper} {a : Act} {Q : Exit → Act → World → Prop} (w : World) (hg : o.guard = none) (l c : Operand) (hop : o.op = Op.makeSlice 41 l c)
    (L C : Int) (n : Nat) (hl : a.eval l = .int .i64 L) (hc : a.eval c = .int .i64 C) (hL : L = (n : Int)) (hC : C = (n : Int)) (hn : n ≤ 1000000000)
    (hK : ∀ w', Rowi w' w.heap.size n (fun _ => 0) → Below w.heap.size w w' → w'.heap.size = w.heap.size + 1 → wpList Tryz.prog ops Q rest (a.put o.dst (.slice (some ⟨w.heap.size, 0, none⟩) n n)) w') :
    wpList Tryz.prog ops Q (o :: rest) a w := by
  obtain ⟨i0, hi, hz0, hz1, hz2⟩ := info_parts Tryz.infoI
  refine wpList_plain hg fun K hK' => ?_
  have hr := run_make (P := Tryz.prog) w 41 3 i0 (.int .i64 0) Tryz.underlying41 hi hz0 .i64 .i64 n n (by omega) (Int.le_refl _) (by rw [hz2]; omega) (by omega)
  simp only [Int.toNat_natCast] at hr
  rw [hz1] at hr
  subst hL; subst hC
  unfold Oper.wp
  simp [execOp, hop, hl, hc, hr, Result.andThen]
  refine hK' _ _ (hK _ ?_ ?_ ?_)
  · have := Rowi.new w n
    rw [Nat.mul_one] at this
    exact this
  · exact (Below.refl _ _).alloc (Nat.le_refl _) _
  · simp
set_option maxHeartbeats 1600000 in
theorem rexps_any (u : Value) (n : Nat) (d : Nat → Int) (p : Int) (w : World) (U : Wi w u n d) (hd : ∀ i, i < n → 1 ≤ d i) (hn : n ≤ 100) (hp : 0 ≤ p ∧ p ≤ 1000000) :
    Calls Tryz.prog 24 #[u, .int .i64 p] w fun e w' => e = .returned (.slice (some ⟨w.heap.size, 0, none⟩) n n) ∧ Rowi w' w.heap.size n (dg d n p) ∧ Below w.heap.size w w' := by
  have UU := hid U
  have HD := hid hd
  obtain ⟨ao, cap, rfl, -⟩ := U
  clear hd
  go_enter Tryz.func24, Tryz.ntmps24
  go_wp2_with (at_make; refine wp_makei _ rfl _ _ rfl _ _ n rfl rfl (by omega) (by omega) (by omega) ?_; intro w1 R1 C1 Z1; have HR := hid R1; have HC := hid C1; clear R1 C1 Z1)
  go_loopw [6, 1] (fun iv pv wr => ∃ (t : Nat) (q : Int) (x : Nat → Int), iv = .int .i64 ((t : Int) - 1) ∧ pv = .int .i64 q ∧ t ≤ n ∧ 0 ≤ q ∧ q ≤ 1000000 ∧ Hid (∀ i, i < n → dg d n p i = if i < t then dg d t q i else x i) ∧ Hid (Rowi wr w.heap.size n x) ∧ Hid (Below w.heap.size w wr)) (fun iv _ _ => (intOf iv + 1).toNat)
  case atStart => exact ⟨n, p, _, rfl, rfl, Nat.le_refl _, hp.1, hp.2, fun i hi => by rw [if_pos hi], HR.out, HC.out⟩
  case round =>
    obtain ⟨t, q, x, rfl, rfl, ht, hq1, hq2, HX, RW, BW⟩ := hrel
    by_cases t0 : t = 0
    · subst t0
      have R : Hid (Rowi wr w.heap.size n (dg d n p)) := by
        obtain ⟨cur, h1, h2, h3⟩ := RW.out
        exact ⟨cur, h1, h2, fun j hj => by rw [HX.out j hj, if_neg (by omega)]; exact h3 j hj⟩
      clear HX RW UU HD HR HC
      go_wp2
      go_ret
      exact ⟨rfl, R.out, BW.out⟩
    · obtain ⟨k, rfl⟩ : ∃ k, t = k + 1 := ⟨t - 1, by omega⟩
      obtain ⟨ao', cap', hu, -, -, hvd, hcell⟩ := UU.out
      injection hu with hu1 hu2 hu3
      subst hu1 hu3
      clear hu2
      obtain ⟨ub, uo, hao, hub, hcd⟩ := hcell (by omega)
      subst hao
      have cd0 := hcd k (by omega)
      have cd : wr.cell? ⟨ub, uo + k, none⟩ = some (.int .i64 (d k)) := by rw [BW.out.cell (p := ⟨ub, uo + k, none⟩) hub]; exact cd0
      have d1 := HD.out k (by omega)
      have vd := hvd k (by omega)
      have cl := RW.out.cell (i := k) (by omega)
      have fl := RW.out.frozen k
      have hkn : (k : Int) < (n : Int) := by omega
      have ek : ((k + 1 : Nat) : Int) - 1 = (k : Int) := by omega
      have tm : Int.tmod q (d k) = q % d k := Int.tmod_eq_emod_of_nonneg hq1
      have td : Int.tdiv q (d k) = q / d k := Int.tdiv_eq_ediv_of_nonneg hq1
      have q1 : 0 ≤ q / d k := Int.ediv_nonneg hq1 (by omega)
      have q2 : q / d k ≤ q := Int.ediv_le_self _ hq1
      have q3 : 0 ≤ q % d k := Int.emod_nonneg _ (by omega)
      have q4 : q % d k < d k := Int.emod_lt_of_pos _ (by omega)
      have R2 : Hid (∀ v, v = q % d k → Rowi (wr.setCell ⟨w.heap.size, k, none⟩ (.int .i64 v)) w.heap.size n (fun j => if j = k then v else x j)) := fun v _ => RW.out.set k v (fun _ _ => rfl)
      have B2 : Hid (∀ v, Below w.heap.size w (wr.setCell ⟨w.heap.size, k, none⟩ v)) := fun v => below_set BW.out (Nat.le_refl _) _ _
      have X2 : Hid (∀ i, i < n → dg d n p i = if i < k then dg d k (q / d k) i else (fun j => if j = k then q % d k else x j) i) := fun i hi => by
        rw [HX.out i hi]
        show _ = if i < k then dg d k (q / d k) i else if i = k then q % d k else x i
        by_cases e1 : i < k
        · rw [if_pos (by omega), if_pos e1]
          show (if i = k then q % d k else dg d k (q / d k) i) = _
          rw [if_neg (by omega)]
        · rw [if_neg e1]
          by_cases e2 : i = k
          · rw [if_pos (by omega), if_pos e2]
            show (if i = k then q % d k else dg d k (q / d k) i) = _
            rw [if_pos e2]
          · rw [if_neg (by omega), if_neg e2]
      have ne : ub ≠ w.heap.size := by omega
      have kq := fun W i v => cell_other ne W i (uo + k) v
      clear HX RW BW hcd hvd hcell HR HC cd0
      have R3 := hid (R2.out _ rfl)
      have B3 := hid (B2.out (.int .i64 (q % d k)))
      clear R2 B2 UU HD
      have ek2 : (k : Int) + 1 - 1 = (k : Int) := by omega
      have dne : (d k == 0) = false := beq_eq_false_iff_ne.2 (by omega)
      have w1 : IntKind.i64.wrap (q / d k) = q / d k := by rw [IntKind.wrap_i64]; omega
      have w2 : IntKind.i64.wrap (q % d k) = q % d k := by rw [IntKind.wrap_i64]; omega
      generalize hdd : d k = dk at *
      clear hdd
      go_wp2
      exact ⟨⟨k, q / dk, _, rfl, rfl, by omega, q1, by omega, X2, R3, B3⟩, by simp only [intOf]; omega⟩
end Go.Proofs.YtocfenjampmdlaaGreatDoor
namespace Nmb

theorem rv_cat : ∀ m d B i, i < 2 ^ m → rv (d + m) (B * 2 ^ m + i) = rv d B + 2 ^ d * rv m i
  | 0, d, B, i, h => by
    obtain rfl : i = 0 := by rw [Nat.pow_zero] at h; omega
    rw [Nat.pow_zero, Nat.mul_one, Nat.add_zero, Nat.add_zero]
    show _ = _ + 2 ^ d * 0
    omega
  | m + 1, d, B, i, h => by
    have e1 : (B * 2 ^ (m + 1) + i) % 2 = i % 2 := by
      rw [Nat.pow_succ, ← Nat.mul_assoc]
      omega
    have e2 : (B * 2 ^ (m + 1) + i) / 2 = B * 2 ^ m + i / 2 := by
      rw [Nat.pow_succ, ← Nat.mul_assoc]
      omega
    have h' : i / 2 < 2 ^ m := by rw [Nat.pow_succ] at h; omega
    show (B * 2 ^ (m + 1) + i) % 2 * 2 ^ (d + m) + rv (d + m) ((B * 2 ^ (m + 1) + i) / 2) = rv d B + 2 ^ d * (i % 2 * 2 ^ m + rv m (i / 2))
    rw [e1, e2, rv_cat m d B (i / 2) h', Nat.mul_add, Nat.pow_add, Nat.mul_left_comm (2 ^ d)]
    omega
/-- the values at the points below the place b of the depth k - m, of what is left there. -/
def lf (w : Int) (k : Nat) : Nat → Nat → (Nat → Int) → Nat → Int
  | 0, _, A, _ => A 0
  | m + 1, b, A, i => if i < 2 ^ m then lf w k m (2 * b) (fun j => A j + nd w k (k - m) (2 * b) * A (j + 2 ^ m)) i
      else lf w k m (2 * b + 1) (fun j => A j - nd w k (k - m) (2 * b) * A (j + 2 ^ m)) (i - 2 ^ m)
theorem ev_halves (A : Nat → Int) (h : Nat) (x : Int) : ev A (2 * h) x = ev A h x + x ^ h * ev (fun j => A (j + h)) h x := by
  unfold ev
  rw [Nat.two_mul, sm_app, ← sm_mul]
  congr 1
  refine sm_eq _ fun j _ => ?_
  rw [Nat.add_comm h j, Int.pow_add, Int.mul_left_comm, Int.mul_comm (x ^ h)]
  grind
theorem ev_mulc (A : Nat → Int) (c : Int) (n : Nat) (x : Int) : ev (fun j => c * A j) n x = c * ev A n x := by
  unfold ev
  rw [← sm_mul]
  exact sm_eq _ fun j _ => Int.mul_assoc ..
theorem Rt.lf_ev {p : Nat} {w : Int} {k : Nat} (R : Rt p w k) : ∀ m, m ≤ k → ∀ b A i, i < 2 ^ m → Cg p (lf w k m b A i) (ev A (2 ^ m) (w ^ rv k (b * 2 ^ m + i)))
  | 0, _, b, A, i, _ => by
    show Cg p (A 0) (ev A 1 _)
    rw [ev_front]
    exact Cg.of_eq (by show A 0 = A 0 + _ * 0; rw [Int.mul_zero, Int.add_zero])
  | m + 1, hm, b, A, i, hi => by
    have e2 : 2 ^ (m + 1) = 2 * 2 ^ m := by rw [Nat.pow_succ, Nat.mul_comm]
    have key : ∀ B i, i < 2 ^ m → Cg p ((w ^ rv k (B * 2 ^ m + i)) ^ 2 ^ m) (nd w k (k - m) B) := fun B i hi => by
      have h1 := rv_cat m (k - m) B i hi
      rw [Nat.sub_add_cancel (by omega)] at h1
      unfold nd
      rw [h1, ← Int.pow_mul, Nat.add_mul, Int.pow_add, show k - (k - m) = m by omega]
      have h2 : Cg p (w ^ (2 ^ (k - m) * rv m i * 2 ^ m)) 1 := by
        rw [Nat.mul_right_comm, ← Nat.pow_add, Nat.sub_add_cancel (by omega), Int.pow_mul]
        exact R.one.pow_one _
      have := (Cg.rfl (p := p) (a := w ^ (rv (k - m) B * 2 ^ m))).mul h2
      rw [Int.mul_one] at this
      exact this
    rw [e2, ev_halves]
    show Cg p (if i < 2 ^ m then _ else _) _
    by_cases h : i < 2 ^ m
    · rw [if_pos h]
      refine (R.lf_ev m (by omega) (2 * b) _ i h).trans ?_
      rw [ev_add, ev_mulc, show 2 * b * 2 ^ m + i = b * (2 * 2 ^ m) + i by rw [Nat.mul_comm 2 b, Nat.mul_assoc]]
      refine Cg.rfl.add (Cg.mul ?_ Cg.rfl)
      have := key (2 * b) i h
      rw [show 2 * b * 2 ^ m + i = b * (2 * 2 ^ m) + i by rw [Nat.mul_comm 2 b, Nat.mul_assoc]] at this
      exact this.symm
    · rw [if_neg h]
      have hi' : i - 2 ^ m < 2 ^ m := by omega
      refine (R.lf_ev m (by omega) (2 * b + 1) _ (i - 2 ^ m) hi').trans ?_
      have ei : (2 * b + 1) * 2 ^ m + (i - 2 ^ m) = b * (2 * 2 ^ m) + i := by
        rw [Nat.add_mul, Nat.mul_comm 2 b, Nat.mul_assoc]
        omega
      rw [ev_sub, ev_mulc, ei]
      have k1 := key (2 * b + 1) (i - 2 ^ m) hi'
      rw [ei] at k1
      have k2 := R.nd_high (d := k - m - 1) (by omega) b
      rw [show k - m - 1 + 1 = k - m by omega] at k2
      have k3 := k1.trans k2
      have k4 := (Cg.rfl (p := p) (a := ev A (2 ^ m) (w ^ rv k (b * (2 * 2 ^ m) + i)))).add (k3.mul (Cg.rfl (p := p) (a := ev (fun j => A (j + 2 ^ m)) (2 ^ m) (w ^ rv k (b * (2 * 2 ^ m) + i)))))
      refine (k4.trans (Cg.of_eq ?_)).symm
      rw [Int.neg_mul]
      omega
/-- all values. -/
theorem Rt.lf_all {p : Nat} {w : Int} {k : Nat} (R : Rt p w k) (A : Nat → Int) (i : Nat) (hi : i < 2 ^ k) : Cg p (lf w k k 0 A i) (ev A (2 ^ k) (w ^ rv k i)) := by
  have := R.lf_ev k (Nat.le_refl _) 0 A i hi
  rw [Nat.zero_mul, Nat.zero_add] at this
  exact this
theorem lf_cg {p : Nat} {w : Int} {k : Nat} : ∀ m b A A' i, (∀ j, j < 2 ^ m → Cg p (A j) (A' j)) → i < 2 ^ m → Cg p (lf w k m b A i) (lf w k m b A' i)
  | 0, _, A, A', _, h, _ => h 0 (by rw [Nat.pow_zero]; omega)
  | m + 1, b, A, A', i, h, hi => by
    have e2 : 2 ^ (m + 1) = 2 * 2 ^ m := by rw [Nat.pow_succ, Nat.mul_comm]
    show Cg p (if i < 2 ^ m then _ else _) (if i < 2 ^ m then _ else _)
    by_cases hl : i < 2 ^ m
    · rw [if_pos hl, if_pos hl]
      exact lf_cg m _ _ _ i (fun j hj => (h j (by omega)).add (Cg.rfl.mul (h (j + 2 ^ m) (by omega)))) hl
    · rw [if_neg hl, if_neg hl]
      exact lf_cg m _ _ _ _ (fun j hj => (h j (by omega)).sub (Cg.rfl.mul (h (j + 2 ^ m) (by omega)))) (by omega)
end Nmb
namespace Nmb

/-- the list Z has the first n values of A, and A's coefficients behind them. -/
def Mxd (p : Nat) (w : Int) (k m b n : Nat) (A Z : Nat → Int) : Prop := (∀ i, i < n → i < 2 ^ m → Cg p (Z i) (lf w k m b A i)) ∧ ∀ i, n ≤ i → i < 2 ^ m → Cg p (Z i) (A i)
theorem Mxd.cg {p : Nat} {w : Int} {k m b n : Nat} {A Z Z' : Nat → Int} (h : Mxd p w k m b n A Z) (e : ∀ i, i < 2 ^ m → Cg p (Z' i) (Z i)) : Mxd p w k m b n A Z' :=
  ⟨fun i h1 h2 => (e i h2).trans (h.1 i h1 h2), fun i h1 h2 => (e i h2).trans (h.2 i h1 h2)⟩
theorem Mxd.zero {p : Nat} {w : Int} {k b n : Nat} {Z : Nat → Int} : Mxd p w k 0 b n Z Z :=
  ⟨fun i _ h2 => by
    obtain rfl : i = 0 := by rw [Nat.pow_zero] at h2; omega
    exact Cg.rfl, fun _ _ _ => Cg.rfl⟩
/-- no more values than half of them. -/
theorem Mxd.small {p : Nat} {w : Int} {k m b n : Nat} {lo Z A : Nat → Int} (hn : n ≤ 2 ^ m)
    (h : Mxd p w k m (2 * b) n lo (fun i => if i < n then Z i else Z i + nd w k (k - m) (2 * b) * Z (i + 2 ^ m)))
    (h1 : ∀ j, j < 2 ^ m → Cg p (A j) (lo j - nd w k (k - m) (2 * b) * Z (j + 2 ^ m)))
    (h2 : ∀ j, j < 2 ^ m → Cg p (A (j + 2 ^ m)) (Z (j + 2 ^ m))) : Mxd p w k (m + 1) b n A Z := by
  have e2 : 2 ^ (m + 1) = 2 * 2 ^ m := by rw [Nat.pow_succ, Nat.mul_comm]
  have lov : ∀ j, j < 2 ^ m → Cg p (A j + nd w k (k - m) (2 * b) * A (j + 2 ^ m)) (lo j) := fun j hj => by
    have := (h1 j hj).add ((Cg.rfl (p := p) (a := nd w k (k - m) (2 * b))).mul (h2 j hj))
    rw [Int.sub_add_cancel] at this
    exact this
  refine ⟨fun i hi hi2 => ?_, fun i hi hi2 => ?_⟩
  · have h3 := h.1 i hi (by omega)
    have h3' : Cg p (Z i) (lf w k m (2 * b) lo i) := by
      have e : (if i < n then Z i else Z i + nd w k (k - m) (2 * b) * Z (i + 2 ^ m)) = Z i := if_pos hi
      rw [← e]
      exact h3
    show Cg p (Z i) (if i < 2 ^ m then _ else _)
    rw [if_pos (by omega)]
    exact h3'.trans (lf_cg m _ _ _ i (fun j hj => (lov j hj).symm) (by omega))
  · by_cases hl : i < 2 ^ m
    · have h3 := h.2 i hi hl
      have e : (if i < n then Z i else Z i + nd w k (k - m) (2 * b) * Z (i + 2 ^ m)) = Z i + nd w k (k - m) (2 * b) * Z (i + 2 ^ m) := if_neg (by omega)
      have h4 : Cg p (Z i + nd w k (k - m) (2 * b) * Z (i + 2 ^ m)) (lo i) := by rw [← e]; exact h3
      have h5 := (h4.sub (Cg.rfl (p := p) (a := nd w k (k - m) (2 * b) * Z (i + 2 ^ m)))).trans (h1 i hl).symm
      rw [Int.add_sub_cancel] at h5
      exact h5
    · obtain ⟨j, rfl⟩ : ∃ j, i = j + 2 ^ m := ⟨i - 2 ^ m, by omega⟩
      exact (h2 j (by omega)).symm
/-- half of the values at least. -/
theorem Mxd.great {p : Nat} {w : Int} {k m b n : Nat} {lo hi Z A : Nat → Int} {c d : Int} (hn : 2 ^ m ≤ n)
    (hc : Cg p (2 * c) 1) (hd : Cg p (d * nd w k (k - m) (2 * b)) c)
    (h : ∀ i, i < 2 ^ m → Cg p (Z i) (lf w k m (2 * b) lo i))
    (h' : Mxd p w k m (2 * b + 1) (n - 2 ^ m) hi (fun i => if i < n - 2 ^ m then Z (i + 2 ^ m) else lo i - 2 * (nd w k (k - m) (2 * b) * Z (i + 2 ^ m))))
    (h1 : ∀ j, j < 2 ^ m → Cg p (A j) ((lo j + hi j) * c))
    (h2 : ∀ j, j < 2 ^ m → Cg p (A (j + 2 ^ m)) ((lo j - hi j) * d)) : Mxd p w k (m + 1) b n A Z := by
  have e2 : 2 ^ (m + 1) = 2 * 2 ^ m := by rw [Nat.pow_succ, Nat.mul_comm]
  generalize he : nd w k (k - m) (2 * b) = e at *
  have half : ∀ x y : Int, Cg p ((x + y) * c + e * ((x - y) * d)) x := fun x y => by
    have a1 : Cg p ((x + y) * c + e * ((x - y) * d)) ((x + y) * c + (x - y) * c) := by
      refine Cg.rfl.add ?_
      have := (Cg.rfl (p := p) (a := x - y)).mul hd
      exact (Cg.of_eq (by grind)).trans this
    refine a1.trans ((Cg.of_eq (b := x * (2 * c)) (by grind)).trans ?_)
    have := (Cg.rfl (p := p) (a := x)).mul hc
    rw [Int.mul_one] at this
    exact this
  have half2 : ∀ x y : Int, Cg p ((x + y) * c - e * ((x - y) * d)) y := fun x y => by
    have a1 : Cg p ((x + y) * c - e * ((x - y) * d)) ((x + y) * c - (x - y) * c) := by
      refine Cg.rfl.sub ?_
      have := (Cg.rfl (p := p) (a := x - y)).mul hd
      exact (Cg.of_eq (by grind)).trans this
    refine a1.trans ((Cg.of_eq (b := y * (2 * c)) (by grind)).trans ?_)
    have := (Cg.rfl (p := p) (a := y)).mul hc
    rw [Int.mul_one] at this
    exact this
  have lov : ∀ j, j < 2 ^ m → Cg p (A j + e * A (j + 2 ^ m)) (lo j) := fun j hj => ((h1 j hj).add (Cg.rfl.mul (h2 j hj))).trans (half _ _)
  have hiv : ∀ j, j < 2 ^ m → Cg p (A j - e * A (j + 2 ^ m)) (hi j) := fun j hj => ((h1 j hj).sub (Cg.rfl.mul (h2 j hj))).trans (half2 _ _)
  refine ⟨fun i hi1 hi2 => ?_, fun i hi1 hi2 => ?_⟩
  · show Cg p (Z i) (if i < 2 ^ m then _ else _)
    by_cases hl : i < 2 ^ m
    · rw [if_pos hl, he]
      exact (h i hl).trans (lf_cg m _ _ _ i (fun j hj => (lov j hj).symm) hl)
    · rw [if_neg hl, he]
      have h3 := h'.1 (i - 2 ^ m) (by omega) (by omega)
      have e3 : (if i - 2 ^ m < n - 2 ^ m then Z (i - 2 ^ m + 2 ^ m) else lo (i - 2 ^ m) - 2 * (e * Z (i - 2 ^ m + 2 ^ m))) = Z i := by
        rw [if_pos (by omega), Nat.sub_add_cancel (by omega)]
      have h4 : Cg p (Z i) (lf w k m (2 * b + 1) hi (i - 2 ^ m)) := by rw [← e3]; exact h3
      exact h4.trans (lf_cg m _ _ _ _ (fun j hj => (hiv j hj).symm) (by omega))
  · obtain ⟨j, rfl⟩ : ∃ j, i = j + 2 ^ m := ⟨i - 2 ^ m, by omega⟩
    have h3 := h'.2 j (by omega) (by omega)
    have e3 : (if j < n - 2 ^ m then Z (j + 2 ^ m) else lo j - 2 * (e * Z (j + 2 ^ m))) = lo j - 2 * (e * Z (j + 2 ^ m)) := if_neg (by omega)
    have h4 : Cg p (lo j - 2 * (e * Z (j + 2 ^ m))) (hi j) := by rw [← e3]; exact h3
    -- lo - hi = 2 e Z
    have h5 : Cg p (lo j - hi j) (2 * (e * Z (j + 2 ^ m))) := by
      have := (Cg.rfl (p := p) (a := lo j)).sub h4.symm
      exact this.trans (Cg.of_eq (by omega))
    have h6 := (h5.mul (Cg.rfl (p := p) (a := d))).symm
    have h7 : Cg p (2 * (e * Z (j + 2 ^ m)) * d) (Z (j + 2 ^ m)) := by
      have a1 : 2 * (e * Z (j + 2 ^ m)) * d = 2 * (d * e) * Z (j + 2 ^ m) := by grind
      rw [a1]
      have a2 := (((Cg.rfl (p := p) (a := 2)).mul hd).trans hc).mul (Cg.rfl (p := p) (a := Z (j + 2 ^ m)))
      rw [Int.one_mul] at a2
      exact a2
    exact h7.symm.trans (h6.trans (h2 j (by omega)).symm)
/-- what is found has the values. -/
theorem Rt.mxd_found {p : Nat} {w : Int} {k n : Nat} {A Z : Nat → Int} (R : Rt p w k) (hn : n ≤ 2 ^ k) (h : Mxd p w k k 0 n A Z) (h0 : ∀ i, n ≤ i → i < 2 ^ k → Z i = 0) (i : Nat) (hi : i < n) : Cg p (ev A n (w ^ rv k i)) (Z i) := by
  have h1 := h.1 i hi (by omega)
  refine Cg.symm (h1.trans ((R.lf_all A i (by omega)).trans ?_))
  have h2 : Cg p (ev A (2 ^ k) (w ^ rv k i)) (ev (fun j => if j < n then A j else 0) (2 ^ k) (w ^ rv k i)) := ev_cg (fun j hj => by
    show Cg p (A j) (if j < n then A j else 0)
    by_cases e : j < n
    · rw [if_pos e]; exact Cg.rfl
    · rw [if_neg e]
      have := h.2 j (by omega) hj
      rw [h0 j (by omega) hj] at this
      exact this.symm) Cg.rfl
  refine h2.trans (Cg.of_eq ?_)
  rw [ev_long (m := n) hn (fun j h3 _ => if_neg (by omega))]
  exact sm_eq _ fun j hj => by show (if j < n then A j else 0) * _ = _; rw [if_pos hj]
end Nmb
namespace Nmb

theorem rv_nil : ∀ M, rv M 0 = 0
  | 0 => rfl
  | M + 1 => by
    show 0 % 2 * 2 ^ M + rv M (0 / 2) = 0
    rw [Nat.zero_div, rv_nil M]
    simp
/-- two places that follow each other in reverse have exponents whose sum is half of all. -/
theorem rv_flip : ∀ q M t, q < M → t < 2 ^ q → rv M (2 ^ q + t) + rv M (2 ^ q + (2 ^ q - 1 - t)) = 2 ^ M
  | _, 0, _, h, _ => absurd h (Nat.not_lt_zero _)
  | 0, M + 1, t, _, h => by
    obtain rfl : t = 0 := by rw [Nat.pow_zero] at h; omega
    have e : rv (M + 1) 1 = 2 ^ M := by
      show 1 % 2 * 2 ^ M + rv M (1 / 2) = 2 ^ M
      rw [show 1 / 2 = 0 from rfl, rv_nil, show 1 % 2 = 1 from rfl]
      omega
    show rv (M + 1) 1 + rv (M + 1) 1 = 2 ^ (M + 1)
    rw [e, Nat.pow_succ]
    omega
  | q + 1, M + 1, t, hq, h => by
    have h2 : t < 2 * 2 ^ q := by rw [Nat.pow_succ] at h; omega
    have ih := rv_flip q M (t / 2) (by omega) (by omega)
    have l0 : 0 < 2 ^ q := Nat.two_pow_pos q
    have a1 : (2 ^ (q + 1) + t) % 2 = t % 2 := by rw [Nat.pow_succ]; omega
    have a2 : (2 ^ (q + 1) + t) / 2 = 2 ^ q + t / 2 := by rw [Nat.pow_succ]; omega
    have b1 : (2 ^ (q + 1) + (2 ^ (q + 1) - 1 - t)) % 2 = 1 - t % 2 := by rw [Nat.pow_succ]; omega
    have b2 : (2 ^ (q + 1) + (2 ^ (q + 1) - 1 - t)) / 2 = 2 ^ q + (2 ^ q - 1 - t / 2) := by rw [Nat.pow_succ]; omega
    show (2 ^ (q + 1) + t) % 2 * 2 ^ M + rv M ((2 ^ (q + 1) + t) / 2) + ((2 ^ (q + 1) + (2 ^ (q + 1) - 1 - t)) % 2 * 2 ^ M + rv M ((2 ^ (q + 1) + (2 ^ (q + 1) - 1 - t)) / 2)) = 2 ^ (M + 1)
    rw [a1, a2, b1, b2, Nat.pow_succ]
    rcases Nat.mod_two_eq_zero_or_one t with e | e <;> rw [e] <;> simp <;> omega
theorem xor_flip (q t : Nat) (h : t < 2 ^ q) : (2 ^ q + t) ^^^ (2 ^ q - 1) = 2 ^ q + (2 ^ q - 1 - t) := by
  apply Nat.eq_of_testBit_eq
  intro i
  have hp : 2 ^ q - 1 - t = 2 ^ q - (t + 1) := by omega
  have h2 : 2 ^ q - (t + 1) < 2 ^ q := by omega
  rw [hp, Nat.testBit_xor, Nat.testBit_two_pow_sub_one]
  rcases Nat.lt_trichotomy i q with hi | hi | hi
  · rw [Nat.testBit_two_pow_add_gt hi, Nat.testBit_two_pow_add_gt hi, Nat.testBit_two_pow_sub_succ h]
    simp [hi]
  · subst hi
    rw [Nat.testBit_two_pow_add_eq, Nat.testBit_two_pow_add_eq, Nat.testBit_lt_two_pow h, Nat.testBit_lt_two_pow h2]
    simp
  · have e : 2 ^ (q + 1) ≤ 2 ^ i := Nat.pow_le_pow_right (by decide) (by omega)
    rw [Nat.pow_succ] at e
    rw [Nat.testBit_lt_two_pow (x := 2 ^ q + t) (by omega), Nat.testBit_lt_two_pow (x := 2 ^ q + (2 ^ q - (t + 1))) (by omega)]
    simp
    omega
/-- what a half leaves is told by a point. -/
theorem nd_pt (w : Int) {k m B : Nat} (hm : m ≤ k) (hB : B < 2 ^ (k - m)) : nd w k (k - m) B = w ^ rv k B := by
  have h := rv_cat (k - m) m 0 B hB
  rw [Nat.zero_mul, Nat.zero_add, Nat.add_sub_cancel' hm] at h
  unfold nd
  rw [h, rv_nil, Nat.zero_add, Nat.mul_comm, show k - (k - m) = m by omega]
/-- a point and the inverse of it. -/
theorem Rt.flip {p : Nat} {w : Int} {k : Nat} (R : Rt p w (k + 1)) (q t : Nat) (hq : q < k) (ht : t < 2 ^ q) : Cg p (w ^ rv (k + 1) (2 * (2 ^ q + t)) * -(w ^ rv (k + 1) (2 * (2 ^ q + (2 ^ q - 1 - t))))) 1 := by
  rw [rv_even, rv_even, Int.mul_neg, ← Int.pow_add, rv_flip q k t hq ht]
  have h1 : Cg p (w ^ 2 ^ k) (-1) := R.half (Nat.succ_pos k)
  have := (Cg.rfl (p := p) (a := 0)).sub h1
  rw [Int.zero_sub, Int.zero_sub] at this
  exact this
/-- a half of an odd modulus. -/
theorem half_said {p : Nat} {c x y : Int} (hc : Cg p (2 * c) 1) (h : Cg p (2 * y) x) : Cg p y (x * c) := by
  have h1 := h.mul (Cg.rfl (p := p) (a := c))
  have h2 := hc.mul (Cg.rfl (p := p) (a := y))
  rw [Int.one_mul] at h2
  exact h2.symm.trans ((Cg.of_eq (by rw [Int.mul_right_comm])).trans h1)
theorem half_is {p : Nat} (ho : (p : Int) % 2 = 1) : Cg p (2 * (((p : Int) + 1) / 2)) 1 := by
  have e : 2 * (((p : Int) + 1) / 2) = 1 + p := by omega
  rw [e]
  unfold Cg
  rw [Int.add_emod_right]
/-- the values of a product. -/
theorem ev_prd (a b : Nat → Int) {n m N : Nat} (h : n + m ≤ N + 1) (x : Int) : ev (prd a b n m) N x = ev a n x * ev b m x := by
  have h1 : ev (prd a b n m) N x = sm (fun j => sm (fun i => sm (fun l => if i + l = j then a i * b l * x ^ j else 0) m) n) N := sm_eq _ fun j _ => by
    show sm (fun i => sm (fun l => if i + l = j then a i * b l else 0) m) n * x ^ j = _
    rw [← sm_mulr]
    refine sm_eq _ fun i _ => ?_
    rw [← sm_mulr]
    refine sm_eq _ fun l _ => ?_
    by_cases e : i + l = j
    · rw [if_pos e, if_pos e]
    · rw [if_neg e, if_neg e, Int.zero_mul]
  rw [h1, sm_swap (fun j i => sm (fun l => if i + l = j then a i * b l * x ^ j else 0) m)]
  have h2 : sm (fun i => sm (fun j => sm (fun l => if i + l = j then a i * b l * x ^ j else 0) m) N) n = sm (fun i => a i * x ^ i * ev b m x) n := sm_eq _ fun i hi => by
    rw [sm_swap (fun j l => if i + l = j then a i * b l * x ^ j else 0)]
    unfold ev
    rw [← sm_mul]
    refine sm_eq _ fun l hl => ?_
    rw [sm_one (fun j => a i * b l * x ^ j) (i + l) N (by omega), Int.pow_add]
    grind
  rw [h2, sm_mulr]
  rfl
end Nmb
namespace Nmb
theorem rv_bit : ∀ k b i, (rv k b).testBit i = (decide (i < k) && b.testBit (k - 1 - i))
  | 0, b, i => by rw [show rv 0 b = 0 from rfl]; simp
  | k + 1, b, i => by
    show (b % 2 * 2 ^ k + rv k (b / 2)).testBit i = _
    rw [Nat.mul_comm, Nat.testBit_two_pow_mul_add _ (rv_lt k _)]
    by_cases h : i < k
    · rw [if_pos h, rv_bit k, show k + 1 - 1 - i = (k - 1 - i) + 1 by omega, Nat.testBit_succ]
      simp [h, show i < k + 1 by omega]
    · rw [if_neg h]
      by_cases e : i = k
      · subst e
        simp [Nat.testBit_zero]
      · have : (b % 2).testBit (i - k) = false := by
          apply Nat.testBit_lt_two_pow
          have h1 : b % 2 < 2 := Nat.mod_lt _ (by omega)
          have h2 : 2 ^ 1 ≤ 2 ^ (i - k) := Nat.pow_le_pow_right (by omega) (by omega)
          omega
        rw [this]
        simp [show ¬ i < k + 1 by omega]
/-- the bits are taken apart by a mask, and each part moved past the other. -/
def sw (m s x : Nat) : Nat := (x / 2 ^ s &&& m) ||| ((x &&& m) * 2 ^ s % 18446744073709551616)
theorem sw_bit (m s x i : Nat) (hi : i < 64) (h : ∀ j, j < 64 → m.testBit j = decide (j / s % 2 = 0)) (hs : 0 < s) : (sw m s x).testBit i = x.testBit (if i / s % 2 = 0 then i + s else i - s) := by
  unfold sw
  rw [Nat.testBit_or, Nat.testBit_and, Nat.testBit_div_two_pow, h i hi, show (18446744073709551616 : Nat) = 2 ^ 64 from rfl, Nat.testBit_mod_two_pow, ← Nat.shiftLeft_eq, Nat.testBit_shiftLeft]
  by_cases e : i / s % 2 = 0
  · rw [if_pos e]
    by_cases g : s ≤ i
    · have : ((i - s) / s) % 2 = 1 := by
        have := Nat.div_eq_sub_div hs g
        omega
      simp [Nat.testBit_and, h (i - s) (by omega), this, e]
    · simp [g, e]
  · rw [if_neg e]
    have g : s ≤ i := by
      apply Nat.le_of_not_lt
      intro g
      rw [Nat.div_eq_of_lt g] at e
      omega
    have : ((i - s) / s) % 2 = 0 := by
      have := Nat.div_eq_sub_div hs g
      omega
    simp [Nat.testBit_and, h (i - s) (by omega), this, e, g, hi]
theorem sw_lt (m s x : Nat) (hm : m < 18446744073709551616) : sw m s x < 18446744073709551616 := by
  unfold sw
  refine Nat.or_lt_two_pow (n := 64) (Nat.lt_of_le_of_lt Nat.and_le_right hm) (Nat.mod_lt _ (by decide))
/-- both halves change their places. -/
def sh (x : Nat) : Nat := x / 2 ^ 32 ||| (x * 2 ^ 32 % 18446744073709551616)
theorem sh_lt (x : Nat) (h : x < 18446744073709551616) : sh x < 18446744073709551616 :=
  Nat.or_lt_two_pow (n := 64) (Nat.lt_of_le_of_lt (Nat.div_le_self _ _) h) (Nat.mod_lt _ (by decide))
theorem sh_bit (x i : Nat) (hx : x < 18446744073709551616) (hi : i < 64) : (sh x).testBit i = x.testBit (if i / 32 % 2 = 0 then i + 32 else i - 32) := by
  unfold sh
  rw [Nat.testBit_or, Nat.testBit_div_two_pow, show (18446744073709551616 : Nat) = 2 ^ 64 from rfl, Nat.testBit_mod_two_pow, ← Nat.shiftLeft_eq, Nat.testBit_shiftLeft]
  by_cases e : i < 32
  · rw [if_pos (by omega)]
    simp [show ¬ 32 ≤ i by omega]
  · rw [if_neg (by omega)]
    have : x.testBit (i + 32) = false := Nat.testBit_lt_two_pow (Nat.lt_of_lt_of_le hx (Nat.pow_le_pow_right (n := 2) (i := 64) (by omega) (by omega)))
    rw [this]
    simp [hi, show 32 ≤ i by omega]
def rev64 (x : Nat) : Nat := sh (sw 281470681808895 16 (sw 71777214294589695 8 (sw 1085102592571150095 4 (sw 3689348814741910323 2 (sw 6148914691236517205 1 x)))))
theorem sw_m0 : ∀ j, j < 64 → Nat.testBit 6148914691236517205 j = decide (j / 1 % 2 = 0) := by decide
theorem sw_m1 : ∀ j, j < 64 → Nat.testBit 3689348814741910323 j = decide (j / 2 % 2 = 0) := by decide
theorem sw_m2 : ∀ j, j < 64 → Nat.testBit 1085102592571150095 j = decide (j / 4 % 2 = 0) := by decide
theorem sw_m3 : ∀ j, j < 64 → Nat.testBit 71777214294589695 j = decide (j / 8 % 2 = 0) := by decide
theorem sw_m4 : ∀ j, j < 64 → Nat.testBit 281470681808895 j = decide (j / 16 % 2 = 0) := by decide
/-- the place to which a bit is moved by one step. -/
def swi (s i : Nat) : Nat := if i / s % 2 = 0 then i + s else i - s
theorem swi_all : ∀ i, i < 64 → swi 32 i < 64 ∧ swi 16 (swi 32 i) < 64 ∧ swi 8 (swi 16 (swi 32 i)) < 64 ∧ swi 4 (swi 8 (swi 16 (swi 32 i))) < 64 ∧ swi 2 (swi 4 (swi 8 (swi 16 (swi 32 i)))) < 64 ∧ swi 1 (swi 2 (swi 4 (swi 8 (swi 16 (swi 32 i))))) = 63 - i := by decide
theorem rev64_lt (x : Nat) : rev64 x < 18446744073709551616 := sh_lt _ (sw_lt _ _ _ (by decide))
theorem rev64_bit (x i : Nat) (hi : i < 64) : (rev64 x).testBit i = x.testBit (63 - i) := by
  obtain ⟨a1, a2, a3, a4, a5, a6⟩ := swi_all i hi
  unfold rev64
  rw [sh_bit _ i (sw_lt _ _ _ (by decide)) hi]
  show Nat.testBit _ (swi 32 i) = _
  rw [sw_bit _ _ _ _ a1 sw_m4 (by decide)]
  show Nat.testBit _ (swi 16 (swi 32 i)) = _
  rw [sw_bit _ _ _ _ a2 sw_m3 (by decide)]
  show Nat.testBit _ (swi 8 (swi 16 (swi 32 i))) = _
  rw [sw_bit _ _ _ _ a3 sw_m2 (by decide)]
  show Nat.testBit _ (swi 4 _) = _
  rw [sw_bit _ _ _ _ a4 sw_m1 (by decide)]
  show Nat.testBit _ (swi 2 _) = _
  rw [sw_bit _ _ _ _ a5 sw_m0 (by decide)]
  show Nat.testBit _ (swi 1 _) = _
  rw [a6]
/-- the first k bits, the other way about. -/
theorem rev64_rv (x k : Nat) (hk : k ≤ 64) : rev64 x / 2 ^ (64 - k) = rv k x := by
  apply Nat.eq_of_testBit_eq
  intro i
  rw [Nat.testBit_div_two_pow, rv_bit]
  by_cases h : i < k
  · rw [rev64_bit _ _ (by omega), show 63 - (i + (64 - k)) = k - 1 - i by omega]
    simp [h]
  · rw [Nat.testBit_lt_two_pow (Nat.lt_of_lt_of_le (rev64_lt x) (Nat.pow_le_pow_right (n := 2) (i := 64) (by omega) (by omega)))]
    simp [h]
end Nmb
