/- The reference's products over the integers, as digits (chapter 8). -/
import Derived.Test.YtocfenjampmdlaaGreatDoorDn
import Derived.Test.YtocfenjampmdlaaGreatDoorTm
import Derived.Test.YtocfenjampmdlaaGreatDoorRgw
import Derived.Test.YtocfenjampmdlaaGreatDoorBRefn
import Derived.Test.YtocfenjampmdlaaGreatDoorBRgc
namespace Go.Proofs.YtocfenjampmdlaaGreatDoor
open Go.RowKit Num Nmb

theorem sm_bd {f : Nat → Int} {c : Int} : ∀ {n : Nat}, (∀ i, i < n → 0 ≤ f i ∧ f i ≤ c) → 0 ≤ sm f n ∧ sm f n ≤ n * c
  | 0, _ => by
    show (0 : Int) ≤ 0 ∧ (0 : Int) ≤ ((0 : Nat) : Int) * c
    rw [Int.natCast_zero, Int.zero_mul]
    omega
  | n + 1, h => by
    have h1 := sm_bd (n := n) (fun i hi => h i (by omega))
    have h2 := h n (by omega)
    rw [sm_succ, Int.natCast_add, Int.add_mul, Int.natCast_one, Int.one_mul]
    omega
/-- how great sums of products of words are. -/
theorem acc_bd {f : Nat → Nat → Nat} {a b : Nat → Int} {la lb i k : Nat} (ha : ∀ j, j < la → 0 ≤ a j ∧ a j ≤ 18446744073709551615) (hb : ∀ j, j < lb → 0 ≤ b j ∧ b j ≤ 18446744073709551615) (hi : i < la ∨ i = la ∧ k = 0) (hk : k ≤ lb) (m : Nat) :
    0 ≤ acc f a b lb i k m ∧ acc f a b lb i k m ≤ ((i : Int) * lb + k) * 340282366920938463463374607431768211456 := by
  have t : ∀ j l, j < la → l < lb → 0 ≤ (if f j l = m then a j * b l else 0) ∧ (if f j l = m then a j * b l else 0) ≤ 340282366920938463463374607431768211456 := fun j l hj hl => by
    by_cases e : f j l = m
    · rw [if_pos e]
      have h1 := ha j hj
      have h2 := hb l hl
      have h3 := Int.mul_le_mul h1.2 h2.2 h2.1 (by omega)
      exact ⟨Int.mul_nonneg h1.1 h2.1, by omega⟩
    · rw [if_neg e]; omega
  unfold acc
  have s1 := sm_bd (n := i) (f := fun i' => sm (fun l => if f i' l = m then a i' * b l else 0) lb) (c := lb * 340282366920938463463374607431768211456) (fun j hj => sm_bd (fun l hl => t j l (by omega) hl))
  have s2 := sm_bd (n := k) (f := fun l => if f i l = m then a i * b l else 0) (c := 340282366920938463463374607431768211456) (fun l hl => t i l (by omega) (by omega))
  rw [Int.add_mul, Int.mul_assoc]
  omega
/-- block g holds n texts s. -/
def Rows_ (w : World) (g n : Nat) (s : Nat → ByteArray) : Prop :=
  ∃ cur : Array Value, w.heap[g]? = some (.cells cur 9 (0, 0)) ∧ cur.size = n ∧ ∀ j, j < n → cur[j]? = some (.string (s j))
theorem Rows_.cell {w : World} {g n : Nat} {x : Nat → ByteArray} (h : Rows_ w g n x) {i : Nat} (hi : i < n) : w.cell? ⟨g, i, none⟩ = some (.string (x i)) := by
  obtain ⟨cur, hg, _, hc⟩ := h
  simp [World.cell?, hg, hc i hi]
theorem Rows_.frozen {w : World} {g n : Nat} {x : Nat → ByteArray} (h : Rows_ w g n x) (i : Nat) : w.frozen? ⟨g, i, none⟩ = false := by
  obtain ⟨cur, hg, _, hc⟩ := h
  simp [World.frozen?, hg]
theorem Rows_.lt {w : World} {g n : Nat} {x : Nat → ByteArray} (h : Rows_ w g n x) : g < w.heap.size := by
  obtain ⟨cur, hg, _⟩ := h
  exact (Array.getElem?_eq_some_iff.1 hg).1
theorem Rows_.set {w : World} {g n : Nat} {x y : Nat → ByteArray} (h : Rows_ w g n x) (i : Nat) (v : ByteArray) (e : ∀ j, j < n → y j = if j = i then v else x j) : Rows_ (w.setCell ⟨g, i, none⟩ (.string v)) g n y := by
  obtain ⟨cur, hg, hs, hc⟩ := h
  refine ⟨cur.setIfInBounds i (.string v), ?_, by simpa using hs, fun j hj => ?_⟩
  · rw [heap_setCell_same w g i cur 9 _ hg]
  · rw [e j hj]
    by_cases e : j = i
    · subst e; rw [Array.getElem?_setIfInBounds]; simp [hs, hj]
    · rw [Array.getElem?_setIfInBounds]; simp [Ne.symm e, e, hc j hj]
theorem Rows_.below {B : Nat} {w w' : World} {g n : Nat} {x : Nat → ByteArray} (h : Rows_ w g n x) (hb : Below B w w') (hg : g < B) : Rows_ w' g n x := by
  obtain ⟨cur, h1, h2, h3⟩ := h
  exact ⟨cur, by rw [hb.block g hg]; exact h1, h2, h3⟩
theorem Rows_.eq {w : World} {g n : Nat} {x y : Nat → ByteArray} (h : Rows_ w g n x) (e : ∀ j, j < n → x j = y j) : Rows_ w g n y := by
  obtain ⟨cur, h1, h2, h3⟩ := h
  exact ⟨cur, h1, h2, fun j hj => by rw [← e j hj]; exact h3 j hj⟩
theorem Tryz.infoS : (Tryz.prog.info? 9).map (fun i => (i.zero, i.size, i.bytes)) = some (some (.string ⟨#[]⟩), 1, 16) := by kernel_rfl
theorem Rows_.new (w : World) (n : Nat) : Rows_ (w.alloc (.cells (madeCells #[.string ⟨#[]⟩] (n * 1)) 9)) w.heap.size n (fun _ => ⟨#[]⟩) := by
  refine ⟨madeCells #[.string ⟨#[]⟩] (n * 1), ?_, by simp [size_madeCells], fun j hj => ?_⟩
  · exact heap_alloc_new w _
  · simp [madeCells, hj, Nat.mod_one]
theorem wp_makes {ops : Array Oper} {rest : List Oper} {o : Oper} {a : Act} {Q : Exit → Act → World → Prop} (w : World) (hg : o.guard = none) (l c : Operand) (hop : o.op = Op.makeSlice 35 l c)
    (L C : Int) (n : Nat) (hl : a.eval l = .int .i64 L) (hc : a.eval c = .int .i64 C) (hL : L = (n : Int)) (hC : C = (n : Int)) (hn : n ≤ 1000000000)
    (hK : ∀ w', Rows_ w' w.heap.size n (fun _ => ⟨#[]⟩) → Below w.heap.size w w' → w'.heap.size = w.heap.size + 1 → wpList Tryz.prog ops Q rest (a.put o.dst (.slice (some ⟨w.heap.size, 0, none⟩) n n)) w') :
    wpList Tryz.prog ops Q (o :: rest) a w := by
  obtain ⟨i0, hi, hz0, hz1, hz2⟩ := info_parts Tryz.infoS
  refine wpList_plain hg fun K hK' => ?_
  have hr := run_make (P := Tryz.prog) w 35 9 i0 (.string ⟨#[]⟩) Tryz.underlying35 hi hz0 .i64 .i64 n n (by omega) (Int.le_refl _) (by rw [hz2]; omega) (by omega)
  simp only [Int.toNat_natCast] at hr
  rw [hz1] at hr
  subst hL; subst hC
  unfold Oper.wp
  simp [execOp, hop, hl, hc, hr, Result.andThen]
  refine hK' _ _ (hK _ ?_ ?_ ?_)
  · have := Rows_.new w n
    rw [Nat.mul_one] at this
    exact this
  · exact (Below.refl _ _).alloc (Nat.le_refl _) _
  · simp
theorem dt_zero : B.dt 0 = ⟨#[48]⟩ := by decide +kernel
theorem dt_sm (n : Nat) (h : n < 10 ^ 60) : (B.dt n).size ≤ 100 := by
  rw [B.dt_size]
  have := B.len_dec n 60 (by omega) h
  omega
theorem word_any (x : Int) (h0 : 0 ≤ x) (h1 : x ≤ 18446744073709551615) (w : World) : Calls Tryz.prog 36 #[.int .u64 x] w fun e w' => e = .returned (.string (B.dt x.toNat)) ∧ Below w.heap.size w w' := by
  obtain ⟨a, rfl⟩ := Int.eq_ofNat_of_zero_le h0
  exact B.rword_any a w (by omega)
theorem mult_any (x y : Nat) (hx : x < 10 ^ 60) (hy : y < 10 ^ 60) (w : World) : Calls Tryz.prog 35 #[.string (B.dt x), .string (B.dt y)] w fun e w' => e = .returned (.string (B.dt (x * y))) ∧ Below w.heap.size w w' := by
  have h1 := dt_sm x hx
  have h2 := dt_sm y hy
  have := B.rmul_any (B.dt x) (B.dt y) w (by omega) (by omega) (B.digs_dt x) (B.digs_dt y)
  rw [B.dval_dt, B.dval_dt] at this
  exact this
theorem addt_any (x y : Nat) (hx : x < 10 ^ 60) (hy : y < 10 ^ 60) (w : World) : Calls Tryz.prog 34 #[.string (B.dt x), .string (B.dt y)] w fun e w' => e = .returned (.string (B.dt (x + y))) ∧ Below w.heap.size w w' := by
  have h1 := dt_sm x hx
  have h2 := dt_sm y hy
  have := B.radd_any (B.dt x) (B.dt y) w (by omega) (by omega) (B.digs_dt x) (B.digs_dt y)
  rw [B.dval_dt, B.dval_dt] at this
  exact this
set_option maxHeartbeats 1600000 in
set_option maxRecDepth 100000 in
theorem rexact_any (u v : Value) (n m : Nat) (a b : Nat → Int) (w : World) (U : Wl w u n a) (V : Wl w v m b) (hn : 0 < n) (hm : 0 < m) (hn2 : n ≤ 100) (hm2 : m ≤ 100) :
    Calls Tryz.prog 15 #[u, v] w fun e w' => e = .returned (.slice (some ⟨w.heap.size, 0, none⟩) (n + m - 1 : Nat) (n + m - 1 : Nat)) ∧ Rows_ w' w.heap.size (n + m - 1) (fun j => B.dt (prd a b n m j).toNat) ∧ Below w.heap.size w w' := by
  have UU := hid U
  have VV := hid V
  obtain ⟨ao, cap, rfl, -⟩ := U
  obtain ⟨bo, bap, rfl, -⟩ := V
  have f1 : ((n : Int) == 0) = false := beq_eq_false_iff_ne.2 (by omega)
  have f2 : ((m : Int) == 0) = false := beq_eq_false_iff_ne.2 (by omega)
  obtain ⟨N, hN⟩ : ∃ N, N = n + m - 1 := ⟨_, rfl⟩
  have f3 : ((n : Int) + (m : Int) - 1) = (N : Int) := by omega
  have HN := hid hN
  have nl : N ≤ 1000 := by omega
  rw [← hN]
  clear hN
  go_enter Tryz.func15, Tryz.ntmps15
  go_wp2_with (at_make; refine wp_makes _ rfl _ _ rfl _ _ N rfl rfl (by omega) (by omega) (by omega) ?_; intro w1 R1 B1 Z1; have HR := hid R1; have HB := hid B1; clear R1 B1 Z1)
  obtain ⟨g, hg⟩ : ∃ g, g = w.heap.size := ⟨_, rfl⟩
  have HG := hid hg
  rw [← hg] at HR HB ⊢
  clear hg
  go_loopw [6] (fun iv wr => ∃ (i : Nat), iv = .int .i64 i ∧ i ≤ N ∧ Hid (Rows_ wr g N (fun j => if j < i then ⟨#[48]⟩ else ⟨#[]⟩)) ∧ Hid (Below g w wr)) (fun iv _ => ((N : Int) - intOf iv).toNat)
  case atStart => exact ⟨0, rfl, Nat.zero_le _, HR.out.eq (fun j _ => by rw [if_neg (by omega)]), HB.out⟩
  case round =>
    obtain ⟨i, rfl, hi, RW, BW⟩ := hrel
    by_cases him : i = N
    · have him' : ¬ (i : Int) < (N : Int) := by omega
      obtain rfl := him
      have R0 : Hid (Rows_ wr g i (fun j => B.dt (acc (fun i l => i + l) a b m 0 0 j).toNat)) := RW.out.eq (fun j hj => by rw [if_pos hj, acc_zero]; exact dt_zero.symm)
      clear HR HB RW
      go_wp2
      go_loopw [7] (fun iv wr => ∃ (t : Nat), iv = .int .i64 t ∧ t ≤ n ∧ Hid (Rows_ wr g i (fun j => B.dt (acc (fun i l => i + l) a b m t 0 j).toNat)) ∧ Hid (Below g w wr)) (fun iv _ => ((n : Int) - intOf iv).toNat)
      case atStart => exact ⟨0, rfl, Nat.zero_le _, R0.out, BW.out⟩
      case round =>
        obtain ⟨t, rfl, ht, RT, BT⟩ := hrel
        clear R0 BW
        by_cases htn : t = n
        · have htn' : ¬ (t : Int) < (n : Int) := by omega
          obtain rfl := htn
          have R9 : Hid (Rows_ wr g i (fun j => B.dt (prd a b t m j).toNat)) := RT.out.eq (fun j hj => by rw [acc_prd])
          clear RT UU VV
          go_wp2
          go_ret
          rw [← HG.out]
          exact ⟨rfl, R9.out, BT.out⟩
        · have htn' : (t : Int) < (n : Int) := by omega
          go_wp2
          go_loopw [8] (fun kv wk => ∃ (k : Nat), kv = .int .i64 k ∧ k ≤ m ∧ Hid (Rows_ wk g i (fun j => B.dt (acc (fun i l => i + l) a b m t k j).toNat)) ∧ Hid (Below g w wk)) (fun kv _ => ((m : Int) - intOf kv).toNat)
          case atStart => exact ⟨0, rfl, Nat.zero_le _, RT.out, BT.out⟩
          case round =>
            obtain ⟨k, rfl, hk, RK, BK⟩ := hrel
            clear RT BT
            by_cases hkm : k = m
            · have hkm' : ¬ (k : Int) < (m : Int) := by omega
              obtain rfl := hkm
              have R8 : Hid (Rows_ wr g i (fun j => B.dt (acc (fun i l => i + l) a b k (t + 1) 0 j).toNat)) := RK.out.eq (fun j hj => by rw [acc_next])
              clear RK UU VV
              go_wp2
              exact ⟨⟨t + 1, rfl, by omega, R8.out, BK.out⟩, by simp only [intOf]; omega⟩
            · have hkm' : (k : Int) < (m : Int) := by omega
              obtain ⟨b1, o1, rfl, hb1, c1'⟩ := UU.out.cell (j := t) (by omega)
              obtain ⟨b2, o2, rfl, hb2, c2'⟩ := VV.out.cell (j := k) (by omega)
              have a0 := UU.out.val (j := t) (by omega)
              have b0 := VV.out.val (j := k) (by omega)
              have hik : t + k < i := by have := HN.out; omega
              have bd := acc_bd (f := fun i l => i + l) (a := a) (b := b) (la := n) (lb := m) (i := t) (k := k) (fun j hj => UU.out.val hj) (fun j hj => VV.out.val hj) (Or.inl (by omega)) hk (t + k)
              have tm : (t : Int) * m ≤ 100 * 100 := Int.mul_le_mul (by omega) (by omega) (by omega) (by omega)
              have glt : g < wr.heap.size := RK.out.lt
              have lw1 : b1 < wr.heap.size := by have := BK.out.size; have := HG.out; omega
              have lw2 : b2 < wr.heap.size := by have := BK.out.size; have := HG.out; omega
              have c1 : ∀ x : Beh wr, x.1.cell? ⟨b1, o1 + t, none⟩ = some (.int .u64 (a t)) := fun x => by
                rw [x.2.cell (p := ⟨b1, o1 + t, none⟩) lw1, BK.out.cell (p := ⟨b1, o1 + t, none⟩) (by rw [HG.out]; exact hb1)]; exact c1'
              have c2 : ∀ x : Beh wr, x.1.cell? ⟨b2, o2 + k, none⟩ = some (.int .u64 (b k)) := fun x => by
                rw [x.2.cell (p := ⟨b2, o2 + k, none⟩) lw2, BK.out.cell (p := ⟨b2, o2 + k, none⟩) (by rw [HG.out]; exact hb2)]; exact c2'
              have c3 : ∀ x : Beh wr, x.1.cell? ⟨g, t + k, none⟩ = some (.string (B.dt (acc (fun i l => i + l) a b m t k (t + k)).toNat)) := fun x => (RK.out.below x.2 glt).cell hik
              have fz : ∀ x : Beh wr, x.1.frozen? ⟨g, t + k, none⟩ = false := fun x => (RK.out.below x.2 glt).frozen _
              have ab0 := Int.mul_nonneg a0.1 b0.1
              have ab1 := Int.mul_le_mul a0.2 b0.2 b0.1 (by omega)
              have p60 : (10 : Nat) ^ 60 = 1000000000000000000000000000000000000000000000000000000000000 := by decide
              have WD : Hid (∀ x : Int, 0 ≤ x ∧ x ≤ 18446744073709551615 → ∀ W, Calls Tryz.prog 36 #[.int .u64 x] W fun e w' => e = .returned (.string (B.dt x.toNat)) ∧ Below W.heap.size W w') := fun x h W => word_any x h.1 h.2 W
              have e1 : (a t).toNat * (b k).toNat = (a t * b k).toNat := by
                have := Int.toNat_mul a0.1 b0.1
                exact this.symm
              have MU := hid (fun W => mult_any (a t).toNat (b k).toNat (by rw [p60]; omega) (by rw [p60]; omega) W)
              rw [e1] at MU
              have AD := hid (fun W => addt_any (acc (fun i l => i + l) a b m t k (t + k)).toNat (a t * b k).toNat (by rw [p60]; omega) (by rw [p60]; omega) W)
              have e2 : (acc (fun i l => i + l) a b m t k (t + k)).toNat + (a t * b k).toNat = (acc (fun i l => i + l) a b m t (k + 1) (t + k)).toNat := by
                rw [acc_step, if_pos rfl]
                omega
              rw [e2] at AD
              have R5 : Hid (∀ x : Beh wr, Rows_ (x.1.setCell ⟨g, t + k, none⟩ (.string (B.dt (acc (fun i l => i + l) a b m t (k + 1) (t + k)).toNat))) g i (fun j => B.dt (acc (fun i l => i + l) a b m t (k + 1) j).toNat)) := fun x => (RK.out.below x.2 glt).set (t + k) _ (fun j _ => by
                by_cases e : j = t + k
                · rw [if_pos e, e]
                · rw [if_neg e, acc_step, if_neg (fun h => e h.symm), Int.add_zero])
              have B5 : Hid (∀ (x : Beh wr) v, Below g w (x.1.setCell ⟨g, t + k, none⟩ v)) := fun x v => below_set (BK.out.trans (x.2.mono (Nat.le_of_lt glt))) (Nat.le_refl _) _ _
              have q1 : (t : Int) + (k : Int) < (i : Int) := by omega
              have q2 : ((t : Int) + (k : Int)).toNat = t + k := by omega
              have qw : IntKind.i64.wrap ((t : Int) + (k : Int)) = (t : Int) + (k : Int) := by rw [IntKind.wrap_i64]; omega
              have q0 : (0 : Int) ≤ (t : Int) + (k : Int) := by omega
              clear e1 e2 p60 ab0 ab1 bd tm c1' c2' RK BK UU VV lw1 lw2 glt
              generalize (acc (fun i l => i + l) a b m t (k + 1) (t + k)).toNat = z2 at *
              generalize (acc (fun i l => i + l) a b m t k (t + k)).toNat = z1 at *
              generalize (a t * b k).toNat = z3 at *
              generalize a t = at_ at *
              generalize b k = bk at *
              have nb := Beh.some wr
              go_wp2_with fail
              refine wp_region_last_beh (by kernel_rfl) (by kernel_rfl) (by kernel_rfl) (by kernel_rfl) (by decide) ?_
              simp only [stillLast, still, lastOf]
              repeat (go_big_quiet_step (first
                | (go_at_call 36; rename_i x; exact Calls.beh_of (WD.out _ (by assumption) _))
                | (go_at_call 35; rename_i x; exact Calls.beh_of (MU.out _))
                | (go_at_call 34; rename_i x; exact Calls.beh_of (AD.out _))))
              refine wpQuiet_nil ?_
              intro _ hw'
              obtain ⟨x9, rfl⟩ := hw'
              have R6 := hid (R5.out x9)
              have B6 := hid (B5.out x9 (.string (B.dt z2)))
              have c9 := c3 x9
              have f9 := fz x9
              clear c1 c2 c3 fz R5 B5 WD MU AD
              generalize x9.1 = w9 at *
              go_wp2
              exact ⟨⟨k + 1, rfl, by omega, R6.out, B6.out⟩, by simp only [intOf]; omega⟩
    · have him' : (i : Int) < (N : Int) := by omega
      have cl := RW.out.cell (i := i) (by omega)
      have fl := RW.out.frozen i
      have R2 : Hid (Rows_ (wr.setCell ⟨g, i, none⟩ (.string ⟨#[48]⟩)) g N (fun j => if j < i + 1 then ⟨#[48]⟩ else ⟨#[]⟩)) := RW.out.set i _ (fun j _ => by
        by_cases e : j = i
        · rw [if_pos e, if_pos (by omega)]
        · rw [if_neg e]
          by_cases e2 : j < i
          · rw [if_pos e2, if_pos (by omega)]
          · rw [if_neg e2, if_neg (by omega)])
      have B2 : Hid (Below g w (wr.setCell ⟨g, i, none⟩ (.string ⟨#[48]⟩))) := below_set BW.out (Nat.le_refl _) _ _
      rw [if_neg (by omega)] at cl
      clear RW BW HR HB UU VV
      go_wp2
      exact ⟨⟨i + 1, rfl, by omega, R2.out, B2.out⟩, by simp only [intOf]; omega⟩
end Go.Proofs.YtocfenjampmdlaaGreatDoor
