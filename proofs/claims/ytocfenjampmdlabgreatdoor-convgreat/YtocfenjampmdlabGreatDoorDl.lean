/- What plansFor answers, in the landed conv; what is laid. -/
/- Slices of numbers of three words, in the landed conv; how great the coefficients of a product are. -/
/- The product over the integers, as numbers of three words, in the landed conv. -/
/- The product modulo a word, in the landed conv. -/
/- The product over the integers, in the landed conv. -/
import Derived.Test.YtocfenjampmdlabGreatDoorDg
import Derived.Test.YtocfenjampmdlabGreatDoorTm
import Derived.Test.YtocfenjampmdlabGreatDoorBRep
import Derived.Test.YtocfenjampmdlabGreatDoorBIntn
namespace Go.Proofs.YtocfenjampmdlabGreatDoor
open Go.RowKit Num Nmb

/-- what is laid: prime's tables, that by which numbers are printed, and the primes. -/
structure LayB (w : World) : Prop where
  lay : Lay w
  tab : B.Tab w
  pri : PriA w
theorem LayB.below {w w' : World} (h : LayB w) (hb : Below w.heap.size w w') : LayB w' := ⟨h.lay.below hb h.lay.size, h.tab.below hb h.tab.lt, h.pri.below hb h.pri.lt⟩
theorem prm_tw {i : Nat} (h : i < 3) : 20 ≤ tw (prm i) := by
  match i, h with
  | 0, _ => decide +kernel
  | 1, _ => decide +kernel
  | 2, _ => decide +kernel
/-- block b is no plan's. -/
theorem Pln.set {w : World} {g p k r b n : Nat} {t : TypeId} {C : Nat → Value} (h : Pln w g p k r) (R : Rv w b t n C) (h1 : t ≠ 87) (h2 : t ≠ 111) (h3 : t ≠ 22) (i : Nat) (v : Value) : Pln (w.setCell ⟨b, i, none⟩ v) g p k r := by
  obtain ⟨h0, gf, gm, hh, f, s, F, e, O⟩ := h
  obtain ⟨cur, hb, _⟩ := R
  refine ⟨h0, gf, gm, hh, f, s, F.only ((OnlyB.refl b w).set i v) ⟨?_, ?_, ?_⟩, e, O⟩
  · rintro rfl
    have := F.tc
    unfold PlnC at this
    rw [this] at hb
    injection hb with hb
    injection hb with _ hb
    exact h1 hb.symm
  · rintro rfl
    have := F.fld
    unfold Fld at this
    rw [this] at hb
    injection hb with hb
    injection hb with _ hb
    exact h2 hb.symm
  · rintro rfl
    obtain ⟨c2, hc, _⟩ := F.row
    rw [hc] at hb
    injection hb with hb
    injection hb with _ hb
    exact h3 hb.symm
/-- the cells of three plans, i of which are made. -/
def pc (G : Nat → Nat) (i j : Nat) : Value := if j < i then .pointer (some ⟨G j, 0, none⟩) else .pointer none
theorem pz_new (w : World) (t : TypeId) (G : Nat → Nat) : Rv (w.alloc (.cells #[.pointer none, .pointer none, .pointer none] t)) w.heap.size t 3 (pc G 0) := Rv.new w _ _ _ _ rfl fun j hj => by
  match j, hj with
  | 0, _ => rfl
  | 1, _ => rfl
  | 2, _ => rfl
theorem ret_p3 {fn : Func} {tmps : Array Value} {w : World} {t : Tmp} {g : Nat} {V : Nat → Value} (h3 : Rv w g 55 3 V) (h : fn.results = #[.cell t 55]) (ht : tmps[t]?.getD undef = .pointer (some ⟨g, 0, none⟩)) :
    (results fn tmps).run Tryz.prog w = .ok (.agg #[V 0, V 1, V 2]) w := by
  have c0 := h3.cell (i := 0) (by omega)
  have c1 := h3.cell (i := 1) (by omega)
  have c2 := h3.cell (i := 2) (by omega)
  simp [results, h, go_sem, ht, c0, c1, c2]
set_option maxHeartbeats 1600000 in
theorem plansFor_any (M k : Nat) (w : World) (L : LayB w) (h1 : 1 ≤ M) (h20 : M ≤ 1048576) (hk : k = Lib.bitLen (M - 1)) :
    Calls Tryz.prog 20 #[.int .i64 M] w fun e w' => (∃ G : Nat → Nat, e = .returned (.agg #[.pointer (some ⟨G 0, 0, none⟩), .pointer (some ⟨G 1, 0, none⟩), .pointer (some ⟨G 2, 0, none⟩)]) ∧ ∀ t, t < 3 → ∃ r, Pln w' (G t) (prm t) k r) ∧ Below w.heap.size w w' := by
  have k20 : k ≤ 20 := by
    rw [hk]
    exact (bl_said 20 (M - 1) (by omega) (by omega)).2
  have l0 := L.pri.lt
  have Ba : Below w.heap.size w ((w.alloc (.cells #[.pointer none, .pointer none, .pointer none] 55)).alloc (.cells #[.pointer none, .pointer none, .pointer none] 55)) := (below_new' w _).trans ((below_new' _ _).mono (by simp))
  have BA := hid Ba
  have La := L.below Ba
  have LA := hid La
  have c0 := La.pri.cell (i := 0) (by omega)
  have c1 := La.pri.cell (i := 1) (by omega)
  have c2 := La.pri.cell (i := 2) (by omega)
  have R0 := hid (fun G => (pz_new w 55 G).below (below_new' _ (.cells #[.pointer none, .pointer none, .pointer none] 55)) (by simp))
  have R1 : Hid (∀ G, Rv ((w.alloc (.cells #[.pointer none, .pointer none, .pointer none] 55)).alloc (.cells #[.pointer none, .pointer none, .pointer none] 55)) (w.heap.size + 1) 55 3 (pc G 0)) := fun G => by
    have := pz_new (w.alloc (.cells #[.pointer none, .pointer none, .pointer none] 55)) 55 G
    simpa using this
  have IX : Hid (∀ i : Nat, i < 3 → ∀ W : World, (Instr.index 47 (.agg #[.int .u64 (prm 0 : Nat), .int .u64 (prm 1 : Nat), .int .u64 (prm 2 : Nat)]) (.int .i64 (i : Int))).run Tryz.prog W = .ok (.int .u64 (prm i : Nat)) W) := fun i hi W => index_a3 (fun i => (prm i : Nat)) hi W
  have BL : Hid (∀ W, Calls Tryz.prog 35 #[.int .u64 ((M : Int) - 1)] W fun e w' => e = .returned (.int .i64 k) ∧ w' = W) := fun W => by
    have := blen_any (M - 1) W (by omega)
    rw [← hk, show ((M - 1 : Nat) : Int) = (M : Int) - 1 by omega] at this
    exact this
  have mw : IntKind.i64.wrap ((M : Int) - 1) = (M : Int) - 1 := by rw [IntKind.wrap_i64]; omega
  have mu : IntKind.u64.wrap ((M : Int) - 1) = (M : Int) - 1 := by rw [IntKind.wrap_u64]; omega
  have TN : Hid (∀ i, i < 3 → ∀ W, LayB W → Calls Tryz.prog 36 #[.int .u64 (prm i : Nat), .int .i64 k] W fun e w' => (∃ g r, e = .returned (.tuple #[.pointer (some ⟨g, 0, none⟩), .int .i64 0]) ∧ Pln w' g (prm i) k r) ∧ Below W.heap.size W w') := fun i hi W LW => by
    have := prm_bd hi
    exact tnew_yes (prm i) k W (prm_pri hi) (by omega) k20 (Nat.le_trans k20 (prm_tw hi)) LW.lay
  have LB : Hid (∀ W, Below w.heap.size w W → LayB W) := fun W B => L.below B
  clear Ba La L hk
  go_enter Tryz.func20, Tryz.ntmps20
  go_wp2_with fail
  refine (BL.out _).mono ?_
  rintro e w2 ⟨rfl, hw⟩
  obtain rfl := hw.symm
  clear BL
  go_wp2
  clear c0 c1 c2
  go_loopw [12] (fun iv wr => ∃ (i : Nat) (G : Nat → Nat), iv = .int .i64 i ∧ i ≤ 3 ∧ Hid (Rv wr (w.heap.size + 1) 55 3 (pc G i)) ∧ Hid (∀ t, t < i → ∃ r, Pln wr (G t) (prm t) k r) ∧ Hid (Rv wr w.heap.size 55 3 (pc G 0)) ∧ Hid (LayB wr) ∧ Hid (Below w.heap.size w wr)) (fun iv _ => (3 - intOf iv).toNat)
  case atStart => exact ⟨0, fun _ => 0, rfl, by omega, R1.out _, fun t ht => absurd ht (by omega), R0.out _, LA.out, BA.out⟩
  case round =>
    clear R0 R1 LA BA
    obtain ⟨i, G, rfl, hi, HG, HP, HZ, HL, HB⟩ := hrel
    by_cases i3 : i = 3
    · subst i3
      have c0 : wr.cell? ⟨w.heap.size + 1, 0, none⟩ = some (.pointer (some ⟨G 0, 0, none⟩)) := HG.out.cell (i := 0) (by omega)
      have c1 : wr.cell? ⟨w.heap.size + 1, 1, none⟩ = some (.pointer (some ⟨G 1, 0, none⟩)) := HG.out.cell (i := 1) (by omega)
      have c2 : wr.cell? ⟨w.heap.size + 1, 2, none⟩ = some (.pointer (some ⟨G 2, 0, none⟩)) := HG.out.cell (i := 2) (by omega)
      have f0 := HZ.out.frozen 0
      have f1 := HZ.out.frozen 1
      have f2 := HZ.out.frozen 2
      have d0 := HZ.out.cell (i := 0) (by omega)
      have d1 := HZ.out.cell (i := 1) (by omega)
      have d2 := HZ.out.cell (i := 2) (by omega)
      have s0 := HZ.out.set (D := fun j => if j = 0 then (.pointer (some ⟨G 0, 0, none⟩)) else pc G 0 j) 0 (.pointer (some ⟨G 0, 0, none⟩)) (fun _ _ => rfl)
      have s1 := s0.set (D := fun j => if j = 1 then (.pointer (some ⟨G 1, 0, none⟩)) else if j = 0 then (.pointer (some ⟨G 0, 0, none⟩)) else pc G 0 j) 1 (.pointer (some ⟨G 1, 0, none⟩)) (fun _ _ => rfl)
      have s2 := s1.set (D := pc G 3) 2 (.pointer (some ⟨G 2, 0, none⟩)) (fun j hj => by
        match j, hj with
        | 0, _ => rfl
        | 1, _ => rfl
        | 2, _ => rfl)
      have S := hid s2
      have B2 := hid (below_set (below_set (below_set HB.out (Nat.le_refl _) 0 (.pointer (some ⟨G 0, 0, none⟩))) (Nat.le_refl _) 1 (.pointer (some ⟨G 1, 0, none⟩))) (Nat.le_refl _) 2 (.pointer (some ⟨G 2, 0, none⟩)))
      have P2 : Hid (∀ t, t < 3 → ∃ r, Pln (((wr.setCell ⟨w.heap.size, 0, none⟩ (.pointer (some ⟨G 0, 0, none⟩))).setCell ⟨w.heap.size, 1, none⟩ (.pointer (some ⟨G 1, 0, none⟩))).setCell ⟨w.heap.size, 2, none⟩ (.pointer (some ⟨G 2, 0, none⟩))) (G t) (prm t) k r) := fun t ht => by
        obtain ⟨r, p⟩ := HP.out t ht
        exact ⟨r, ((p.set HZ.out (by decide) (by decide) (by decide) _ _).set s0 (by decide) (by decide) (by decide) _ _).set s1 (by decide) (by decide) (by decide) _ _⟩
      clear s0 s1 s2 HG HP HZ HL HB IX TN
      go_wp2
      refine bodyPost_ret (ret_p3 S.out rfl rfl) rfl ?_
      exact ⟨⟨G, rfl, P2.out⟩, B2.out⟩
    · have hi' : i < 3 := by omega
      have hil : (i : Int) < 3 := by omega
      have ix := IX.out i hi'
      have TW := hid (TN.out i hi' wr HL.out)
      have glt : w.heap.size + 1 < wr.heap.size := HG.out.lt
      have K : Hid (∀ w2 gn r, Below wr.heap.size wr w2 → Pln w2 gn (prm i) k r → ∃ G', Rv (w2.setCell ⟨w.heap.size + 1, i, none⟩ (.pointer (some ⟨gn, 0, none⟩))) (w.heap.size + 1) 55 3 (pc G' (i + 1)) ∧ (∀ t, t < i + 1 → ∃ r, Pln (w2.setCell ⟨w.heap.size + 1, i, none⟩ (.pointer (some ⟨gn, 0, none⟩))) (G' t) (prm t) k r) ∧ Rv (w2.setCell ⟨w.heap.size + 1, i, none⟩ (.pointer (some ⟨gn, 0, none⟩))) w.heap.size 55 3 (pc G' 0) ∧ LayB (w2.setCell ⟨w.heap.size + 1, i, none⟩ (.pointer (some ⟨gn, 0, none⟩))) ∧ Below w.heap.size w (w2.setCell ⟨w.heap.size + 1, i, none⟩ (.pointer (some ⟨gn, 0, none⟩))) ∧ w2.frozen? ⟨w.heap.size + 1, i, none⟩ = false ∧ ∃ v, w2.cell? ⟨w.heap.size + 1, i, none⟩ = some v) := by
        intro w2 gn r B2 P2
        have r2 := HG.out.below B2 glt
        have Bs : Below w.heap.size w (w2.setCell ⟨w.heap.size + 1, i, none⟩ (.pointer (some ⟨gn, 0, none⟩))) := below_set (HB.out.trans (B2.mono (by omega))) (by omega) _ _
        refine ⟨fun t => if t = i then gn else G t, r2.set i _ (fun j hj => ?_), fun t ht => ?_, ((HZ.out.below B2 (by omega)).other (by omega) _ _).eq (fun j hj => ?_), LB.out _ Bs, Bs, r2.frozen i, _, r2.cell (by omega)⟩
        · unfold pc
          dsimp only
          by_cases e : j = i
          · rw [if_pos e, if_pos e, if_pos (by omega)]
          · rw [if_neg e, if_neg e]
            by_cases e3 : j < i
            · rw [if_pos (by omega), if_pos e3]
            · rw [if_neg (by omega), if_neg e3]
        · dsimp only
          by_cases e : t = i
          · subst e
            rw [if_pos rfl]
            exact ⟨r, P2.set r2 (by decide) (by decide) (by decide) _ _⟩
          · rw [if_neg e]
            obtain ⟨r', p⟩ := HP.out t (by omega)
            exact ⟨r', (p.below B2).set r2 (by decide) (by decide) (by decide) _ _⟩
        · unfold pc
          rw [if_neg (by omega), if_neg (by omega)]
      clear HG HP HL HZ HB IX TN
      go_wp2_with fail
      refine TW.out.mono ?_
      rintro e w2 ⟨⟨gn, r, rfl, P2⟩, B2⟩
      obtain ⟨G', r3, p3, z3, l3, b3, fz, v, cz⟩ := K.out w2 gn r B2 P2
      have R3 := hid r3
      have P3 := hid p3
      have Z3 := hid z3
      have L3 := hid l3
      have B3 := hid b3
      clear r3 p3 z3 l3 b3 K TW B2 P2
      go_wp2
      exact ⟨⟨i + 1, G', rfl, by omega, R3, P3, Z3, L3, B3⟩, by simp only [intOf]; omega⟩
end Go.Proofs.YtocfenjampmdlabGreatDoor
namespace Go.Proofs.YtocfenjampmdlabGreatDoor
open Go.RowKit Num Nmb

theorem sm_bd0 {f : Nat → Int} {c : Int} : ∀ {n : Nat}, (∀ i, i < n → 0 ≤ f i ∧ f i ≤ c) → 0 ≤ sm f n ∧ sm f n ≤ n * c
  | 0, _ => by show (0 : Int) ≤ 0 ∧ (0 : Int) ≤ ((0 : Nat) : Int) * c; omega
  | n + 1, h => by
    have h1 := sm_bd0 (n := n) (fun i hi => h i (by omega))
    have h2 := h n (by omega)
    rw [sm_succ, show ((n + 1 : Nat) : Int) = (n : Int) + 1 by omega, Int.add_mul, Int.one_mul]
    omega
theorem prd_bd {a b : Nat → Int} {n m : Nat} (ha : ∀ j, j < n → 0 ≤ a j ∧ a j ≤ 18446744073709551615) (hb : ∀ j, j < m → 0 ≤ b j ∧ b j ≤ 18446744073709551615) (hn : n ≤ 1048576) (hm : m ≤ 1048576) (j : Nat) : 0 ≤ prd a b n m j ∧ prd a b n m j < 374144419156711147060143317175368453031918731001856 := by
  have h1 := sm_bd0 (n := n) (c := m * 340282366920938463426481119284349108225) (f := fun i => sm (fun l => if i + l = j then a i * b l else 0) m) fun i hi => sm_bd0 fun l hl => by
    by_cases e : i + l = j
    · rw [if_pos e]
      have h1 := ha i hi
      have h2 := hb l hl
      have h3 := Int.mul_le_mul h1.2 h2.2 h2.1 (by omega)
      exact ⟨Int.mul_nonneg h1.1 h2.1, by omega⟩
    · rw [if_neg e]; omega
  have h2 : (n : Int) * (m * 340282366920938463426481119284349108225) ≤ 1048576 * (m * 340282366920938463426481119284349108225) := Int.mul_le_mul_of_nonneg_right (by omega) (by omega)
  refine ⟨h1.1, Int.lt_of_le_of_lt (Int.le_trans h1.2 h2) (by omega)⟩
/-- what a number leaves. -/
def lv (A : Int) (k : Nat) : Int := A % (prm k : Nat)
/-- the cells of a row of numbers, i of which are laid. -/
def pw (A : Nat → Int) (i c : Nat) : Value := .int .u64 (if c / 3 < i then dgt (A (c / 3)) (c % 3) else 0)
theorem Tryz.infoW : (Tryz.prog.info? 48).map (fun i => (i.zero, i.size, i.bytes)) = some (some (.agg #[.int .u64 0, .int .u64 0, .int .u64 0]), 3, 24) := by kernel_rfl
theorem pw_new (w : World) (n : Nat) (A : Nat → Int) : Rv (w.alloc (.cells (madeCells #[.int .u64 0, .int .u64 0, .int .u64 0] (n * 3)) 48)) w.heap.size 48 (n * 3) (pw A 0) := by
  refine Rv.new w _ _ _ _ (size_madeCells _ _) fun j hj => ?_
  unfold pw
  rw [if_neg (by omega)]
  have : j % 3 = 0 ∨ j % 3 = 1 ∨ j % 3 = 2 := by omega
  rcases this with h | h | h <;> simp [madeCells, hj, h]
theorem wp_makeW {ops : Array Oper} {rest : List Oper} {o : Oper} {a : Act} {Q : Exit → Act → World → Prop} (w : World) (hg : o.guard = none) (l c : Operand) (hop : o.op = Op.makeSlice 45 l c)
    (L C : Int) (n : Nat) (hl : a.eval l = .int .i64 L) (hc : a.eval c = .int .i64 C) (hL : L = (n : Int)) (hC : C = (n : Int)) (hn : n ≤ 1000000000)
    (hK : ∀ w', (∀ A, Rv w' w.heap.size 48 (n * 3) (pw A 0)) → Below w.heap.size w w' → w'.heap.size = w.heap.size + 1 → wpList Tryz.prog ops Q rest (a.put o.dst (.slice (some ⟨w.heap.size, 0, none⟩) n n)) w') :
    wpList Tryz.prog ops Q (o :: rest) a w := by
  obtain ⟨i0, hi, hz0, hz1, hz2⟩ := info_parts Tryz.infoW
  refine wpList_plain hg fun K hK' => ?_
  have hr := run_make (P := Tryz.prog) w 45 48 i0 (.agg #[.int .u64 0, .int .u64 0, .int .u64 0]) Tryz.underlying45 hi hz0 .i64 .i64 n n (by omega) (Int.le_refl _) (by rw [hz2]; omega) (by omega)
  simp only [Int.toNat_natCast] at hr
  rw [hz1] at hr
  subst hL; subst hC
  unfold Oper.wp
  simp [execOp, hop, hl, hc, hr, Result.andThen]
  refine hK' _ _ (hK _ ?_ ?_ ?_)
  · intro A
    exact pw_new w n A
  · exact (Below.refl _ _).alloc (Nat.le_refl _) _
  · simp
/-- a slice of words, where a value is laid into a block that has none. -/
theorem Wl.setv {w : World} {v : Value} {n b k : Nat} {x : Nat → Int} {t : TypeId} {C : Nat → Value} (h : Wl w v n x) (R : Rv w b t k C) (hC : ∀ j, j < k → ∀ z, C j ≠ .int .u64 z) (i : Nat) (u : Value) : Wl (w.setCell ⟨b, i, none⟩ u) v n x := by
  obtain ⟨ao, cap, rfl, h1, h2, h3, h5⟩ := h
  refine ⟨ao, cap, rfl, h1, h2, h3, fun hn => ?_⟩
  obtain ⟨b', off, rfl, hbs, hc⟩ := h5 hn
  have ne : b' ≠ b := by
    rintro rfl
    have c0 := hc 0 hn
    by_cases ho : off + 0 < k
    · rw [R.cell ho] at c0
      exact hC _ ho _ (Option.some.inj c0)
    · obtain ⟨cur, hb, hs, _⟩ := R
      simp [World.cell?, hb, show cur.size ≤ off by omega] at c0
  refine ⟨b', off, rfl, by simpa [World.setCell] using hbs, fun j hj => ?_⟩
  rw [cell_other ne]
  exact hc j hj
/-- the cells of three slices, i of which are laid. -/
def lc (ao : Nat → Option Addr) (cp : Nat → Nat) (M i j : Nat) : Value := if j < i then .slice (ao j) M (cp j) else .slice none 0 0
theorem lc_no (ao : Nat → Option Addr) (cp : Nat → Nat) (M i j : Nat) (z : Int) : lc ao cp M i j ≠ .int .u64 z := by
  unfold lc
  by_cases e : j < i
  · rw [if_pos e]; exact fun h => by cases h
  · rw [if_neg e]; exact fun h => by cases h
theorem lz_new (w : World) (t : TypeId) (ao : Nat → Option Addr) (cp : Nat → Nat) (M : Nat) : Rv (w.alloc (.cells #[.slice none 0 0, .slice none 0 0, .slice none 0 0] t)) w.heap.size t 3 (lc ao cp M 0) := Rv.new w _ _ _ _ rfl fun j hj => by
  match j, hj with
  | 0, _ => rfl
  | 1, _ => rfl
  | 2, _ => rfl
theorem index_q3 (F : Nat → Nat) {i : Nat} (hi : i < 3) (w : World) : (Instr.index 55 (.agg #[.pointer (some ⟨F 0, 0, none⟩), .pointer (some ⟨F 1, 0, none⟩), .pointer (some ⟨F 2, 0, none⟩)]) (.int .i64 (i : Int))).run Tryz.prog w = .ok (.pointer (some ⟨F i, 0, none⟩)) w := by
  match i, hi with
  | 0, _ => simp [Instr.index, run_underlying Tryz.underlying55, asIntOf, part, go_sem]
  | 1, _ => simp [Instr.index, run_underlying Tryz.underlying55, asIntOf, part, go_sem]
  | 2, _ => simp [Instr.index, run_underlying Tryz.underlying55, asIntOf, part, go_sem]
set_option maxHeartbeats 800000 in
theorem product_none (u v : Value) (n m : Nat) (a b : Nat → Int) (w : World) (U : Wl w u n a) (V : Wl w v m b) (h : n = 0 ∨ m = 0) :
    Calls Tryz.prog 15 #[u, v] w fun e w' => e = .returned (.slice none 0 0) ∧ w' = w := by
  obtain ⟨ao, cap, rfl, -⟩ := U
  obtain ⟨bo, bap, rfl, -⟩ := V
  by_cases n0 : n = 0
  · subst n0
    go_enter Tryz.func15, Tryz.ntmps15
    go_wp2
    go_ret
    exact ⟨rfl, rfl⟩
  · obtain rfl : m = 0 := by omega
    have n0' : ((n : Int) == 0) = false := beq_eq_false_iff_ne.2 (by omega)
    go_enter Tryz.func15, Tryz.ntmps15
    go_wp2
    go_ret
    exact ⟨rfl, rfl⟩
end Go.Proofs.YtocfenjampmdlabGreatDoor
namespace Go.Proofs.YtocfenjampmdlabGreatDoor
open Go.RowKit Num Nmb

theorem Wl.spot {w : World} {a : Option Addr} {n c : Nat} {x : Nat → Int} (h : Wl w (.slice a n c) n x) (hn : 0 < n) : ∃ b off, a = some ⟨b, off, none⟩ ∧ b < w.heap.size ∧ ∀ j, j < n → w.cell? ⟨b, off + j, none⟩ = some (.int .u64 (x j)) := by
  obtain ⟨ao, cap, e, h1, h2, h3, h5⟩ := h
  injection e with e1 e2 e3
  subst e1
  exact h5 hn
/-- one number more is laid. -/
theorem pw_step {w : World} {g M i : Nat} {t : TypeId} {A : Nat → Int} (h : Rv w g t (M * 3) (pw A i)) : Rv (((w.setCell ⟨g, i * 3, none⟩ (.int .u64 (dgt (A i) 0))).setCell ⟨g, i * 3 + 1, none⟩ (.int .u64 (dgt (A i) 1))).setCell ⟨g, i * 3 + 2, none⟩ (.int .u64 (dgt (A i) 2))) g t (M * 3) (pw A (i + 1)) := by
  refine (((h.set (D := fun c => if c = i * 3 then .int .u64 (dgt (A i) 0) else pw A i c) (i * 3) _ (fun _ _ => rfl)).set (D := fun c => if c = i * 3 + 1 then .int .u64 (dgt (A i) 1) else if c = i * 3 then .int .u64 (dgt (A i) 0) else pw A i c) (i * 3 + 1) _ (fun _ _ => rfl)).set (i * 3 + 2) _ fun c hc => ?_)
  unfold pw
  by_cases e2 : c = i * 3 + 2
  · rw [if_pos e2, if_pos (by omega), show c / 3 = i by omega, show c % 3 = 2 by omega]
  · rw [if_neg e2]
    by_cases e1 : c = i * 3 + 1
    · rw [if_pos e1, if_pos (by omega), show c / 3 = i by omega, show c % 3 = 1 by omega]
    · rw [if_neg e1]
      by_cases e0 : c = i * 3
      · rw [if_pos e0, if_pos (by omega), show c / 3 = i by omega, show c % 3 = 0 by omega]
      · rw [if_neg e0]
        by_cases e : c / 3 < i
        · rw [if_pos e, if_pos (by omega)]
        · rw [if_neg e, if_neg (by omega)]
set_option maxHeartbeats 3200000 in
theorem product_any (u v : Value) (n m : Nat) (a b : Nat → Int) (w : World) (L : LayB w) (U : Wl w u n a) (V : Wl w v m b) (hn : 0 < n) (hm : 0 < m) (h : n + m ≤ 1048576) :
    Calls Tryz.prog 15 #[u, v] w fun e w' => (∃ gs, e = .returned (.slice (some ⟨gs, 0, none⟩) (n + m - 1 : Nat) (n + m - 1 : Nat)) ∧ Rv w' gs 48 ((n + m - 1) * 3) (pw (prd a b n m) (n + m - 1))) ∧ Below w.heap.size w w' := by
  obtain ⟨M, hM⟩ : ∃ M, M = n + m - 1 := ⟨_, rfl⟩
  obtain ⟨k, hk⟩ : ∃ k, k = Lib.bitLen (M - 1) := ⟨_, rfl⟩
  have Mk : M ≤ 2 ^ k := by
    have := (bl_said 64 (M - 1) (by omega) (by omega)).1
    rw [← hk] at this
    omega
  have AB := hid (prd_bd (fun j hj => U.val hj) (fun j hj => V.val hj) (show n ≤ 1048576 by omega) (show m ≤ 1048576 by omega))
  have MU : Hid (∀ W g p r, Below w.heap.size w W → Pln W g p k r → Calls Tryz.prog 21 #[.pointer (some ⟨g, 0, none⟩), u, v] W fun e w' => (∃ ao cap, e = .returned (.tuple #[.slice ao M cap, .int .i64 0]) ∧ Wl w' (.slice ao M cap) M (fun j => prd a b n m j % p)) ∧ Below W.heap.size W w') := fun W g p r B P => by
    rw [hM]
    exact tmul_any g p k r u v n m a b W P (U.below B) (V.below B) hn hm (by rw [← hM]; exact Mk)
  have M0 : 0 < M := by omega
  have M20 : M ≤ 1048576 := by omega
  have Ba := below_new' w (.cells #[.slice none 0 0, .slice none 0 0, .slice none 0 0] 53)
  have BA := hid Ba
  have PF := hid (plansFor_any M k _ (L.below Ba) M0 M20 hk)
  have LB : Hid (∀ W, Below w.heap.size w W → LayB W) := fun W B => L.below B
  have LZ := hid (fun ao cp => lz_new w 53 ao cp M)
  have IX : Hid (∀ (G : Nat → Nat) (i : Nat), i < 3 → ∀ W : World, (Instr.index 55 (.agg #[.pointer (some ⟨G 0, 0, none⟩), .pointer (some ⟨G 1, 0, none⟩), .pointer (some ⟨G 2, 0, none⟩)]) (.int .i64 (i : Int))).run Tryz.prog W = .ok (.pointer (some ⟨G i, 0, none⟩)) W) := fun G i hi W => index_q3 G hi W
  obtain ⟨ua, ucap, rfl, -⟩ := U
  obtain ⟨va, vcap, rfl, -⟩ := V
  have n0' : ((n : Int) == 0) = false := beq_eq_false_iff_ne.2 (by omega)
  have m0' : ((m : Int) == 0) = false := beq_eq_false_iff_ne.2 (by omega)
  have w1 : IntKind.i64.wrap ((n : Int) + (m : Int)) = (n : Int) + (m : Int) := by rw [IntKind.wrap_i64]; omega
  have w2 : (n : Int) + (m : Int) - 1 = (M : Int) := by omega
  have w3 : IntKind.i64.wrap (M : Int) = (M : Int) := by rw [IntKind.wrap_i64]; omega
  rw [← hM]
  generalize prd a b n m = A at *
  clear Ba L hk Mk hM h
  go_enter Tryz.func15, Tryz.ntmps15
  go_wp2_with fail
  refine PF.out.mono ?_
  rintro e w2 ⟨⟨G, rfl, PG⟩, B2⟩
  have BB2 := hid (BA.out.trans (B2.mono BA.out.size))
  have HG := hid PG
  have RL := hid (fun ao cp => (LZ.out ao cp).below B2 (LZ.out ao cp).lt)
  clear PF LZ BA B2 PG
  go_wp2
  go_loopw [28] (fun iv wr => ∃ (i : Nat) (ao : Nat → Option Addr) (cp : Nat → Nat), iv = .int .i64 i ∧ i ≤ 3 ∧ Hid (Rv wr w.heap.size 53 3 (lc ao cp M i)) ∧ Hid (∀ t, t < i → Wl wr (.slice (ao t) M (cp t)) M (fun j => lv (A j) t)) ∧ Hid (∀ t, t < 3 → ∃ r, Pln wr (G t) (prm t) k r) ∧ Hid (Below w.heap.size w wr)) (fun iv _ => (3 - intOf iv).toNat)
  case atStart => exact ⟨0, fun _ => none, fun _ => 0, rfl, by omega, RL.out _ _, fun t ht => absurd ht (by omega), HG.out, BB2.out⟩
  case round =>
    clear RL HG BB2
    obtain ⟨i, ao, cp, rfl, hi, RL, HW, HG, HB⟩ := hrel
    by_cases i3 : i = 3
    · subst i3
      clear MU IX HG
      have NJ := hid (newJoiner_any wr (LB.out wr HB.out).pri)
      go_wp2_with fail
      refine NJ.out.mono ?_
      rintro e w4 ⟨⟨F, I, rfl, J4, I4⟩, B4⟩
      clear NJ
      have Q5 : Hid (∀ W5, W5 = w4.alloc (.cells (jv F I).toArray 62) → Rv W5 w4.heap.size 62 12 (jc F 3 I) ∧ JF W5 3 F ∧ Rv W5 w.heap.size 53 3 (lc ao cp M 3) ∧ (∀ t, t < 3 → Wl W5 (.slice (ao t) M (cp t)) M (fun j => lv (A j) t)) ∧ LayB W5 ∧ Below w.heap.size w W5 ∧ W5.heap.size = w4.heap.size + 1) := by
        intro W5 hW5
        have b1 : Below w4.heap.size w4 W5 := by rw [hW5]; exact below_new' w4 _
        have b2 := B4.trans (b1.mono B4.size)
        have b3 := HB.out.trans (b2.mono HB.out.size)
        refine ⟨?_, J4.below b1, RL.out.below b2 RL.out.lt, fun t ht => (HW.out t ht).below b2, LB.out W5 b3, b3, by rw [hW5]; simp⟩
        rw [hW5]
        exact Rv.new w4 _ _ _ _ rfl fun j hj => by
          rw [← jv_at F I j hj]
          have : j < (jv F I).length := hj
          simp [List.getD, this]
      have g0 := RL.out.lt
      have g4 : w.heap.size < w4.heap.size := Nat.lt_of_lt_of_le g0 B4.size
      have HI := hid I4
      clear RL HW HB B4 J4 LB I4
      go_wp2_with (at_make; refine wp_makeW _ rfl _ _ rfl _ _ M rfl rfl (by omega) (by omega) (by omega) ?_; intro w6 R6 C6 Z6; have HR := hid R6; have HC := hid C6; clear R6 C6 Z6)
      obtain ⟨a1, a2, a3, a4, a5, a6, z5⟩ := Q5.out _ rfl
      have RJ := hid a1
      have HJ := hid a2
      have RL := hid a3
      have HW := hid a4
      have LY := hid a5
      have B5 := hid a6
      have z5' : (w4.alloc (.cells #[.pointer (some ⟨F 0, 0, none⟩), .pointer (some ⟨F 1, 0, none⟩), .pointer (some ⟨F 2, 0, none⟩), .int .u64 (I 0), .int .u64 (I 1), .int .u64 (I 2), .int .u64 (I 3), .int .u64 (I 4), .int .u64 (I 5), .int .u64 (I 6), .int .u64 (I 7), .int .u64 (I 8)] 62)).heap.size = w4.heap.size + 1 := z5
      rw [z5'] at HR HC
      have Z5 := hid z5'
      clear a1 a2 a3 a4 a5 a6 z5 z5' Q5
      unfold jv at *
      generalize w4.alloc (.cells #[.pointer (some ⟨F 0, 0, none⟩), .pointer (some ⟨F 1, 0, none⟩), .pointer (some ⟨F 2, 0, none⟩), .int .u64 (I 0), .int .u64 (I 1), .int .u64 (I 2), .int .u64 (I 3), .int .u64 (I 4), .int .u64 (I 5), .int .u64 (I 6), .int .u64 (I 7), .int .u64 (I 8)] 62) = w5 at *
      go_loopw [47] (fun iv wr => ∃ (i : Nat), iv = .int .i64 i ∧ i ≤ M ∧ Hid (Rv wr (w4.heap.size + 1) 48 (M * 3) (pw A i)) ∧ Hid (Below (w4.heap.size + 1) w5 wr)) (fun iv _ => ((M : Int) - intOf iv).toNat)
      case atStart => exact ⟨0, rfl, Nat.zero_le _, HR.out A, HC.out⟩
      case round =>
        clear HR HC
        obtain ⟨i, rfl, hi, HR, HC⟩ := hrel
        by_cases him : i = M
        · have him' : ¬ (i : Int) < (M : Int) := by omega
          subst him
          have BF := hid (B5.out.trans (HC.out.mono (by omega)))
          clear RJ HJ RL HW LY B5 HC HI AB Z5
          go_wp2
          go_ret
          exact ⟨⟨_, rfl, HR.out⟩, BF.out⟩
        · have him' : (i : Int) < (M : Int) := by omega
          have hi' : i < M := by omega
          have z5 := Z5.out
          have gl : w4.heap.size + 1 < wr.heap.size := HR.out.lt
          have BX : Hid (∀ x : Beh wr, Below (w4.heap.size + 1) w5 x.1) := fun x => HC.out.trans (x.2.mono (Nat.le_of_lt gl))
          obtain ⟨b0, o0, e0, lb0, cc0⟩ := (HW.out 0 (by omega)).spot M0
          obtain ⟨b1, o1, e1, lb1, cc1⟩ := (HW.out 1 (by omega)).spot M0
          obtain ⟨b2, o2, e2, lb2, cc2⟩ := (HW.out 2 (by omega)).spot M0
          have l0 : ∀ x : Beh wr, x.1.cell? ⟨w.heap.size, 0, none⟩ = some (.slice (some ⟨b0, o0, none⟩) M (cp 0)) := fun x => by
            rw [← e0]; exact (RL.out.below (BX.out x) (by omega)).cell (i := 0) (by omega)
          have l1 : ∀ x : Beh wr, x.1.cell? ⟨w.heap.size, 1, none⟩ = some (.slice (some ⟨b1, o1, none⟩) M (cp 1)) := fun x => by
            rw [← e1]; exact (RL.out.below (BX.out x) (by omega)).cell (i := 1) (by omega)
          have l2 : ∀ x : Beh wr, x.1.cell? ⟨w.heap.size, 2, none⟩ = some (.slice (some ⟨b2, o2, none⟩) M (cp 2)) := fun x => by
            rw [← e2]; exact (RL.out.below (BX.out x) (by omega)).cell (i := 2) (by omega)
          have v0 : ∀ x : Beh wr, x.1.cell? ⟨b0, o0 + i, none⟩ = some (.int .u64 (lv (A i) 0)) := fun x => by
            rw [(BX.out x).cell (p := ⟨b0, o0 + i, none⟩) (by show b0 < _; omega)]; exact cc0 i hi'
          have v1 : ∀ x : Beh wr, x.1.cell? ⟨b1, o1 + i, none⟩ = some (.int .u64 (lv (A i) 1)) := fun x => by
            rw [(BX.out x).cell (p := ⟨b1, o1 + i, none⟩) (by show b1 < _; omega)]; exact cc1 i hi'
          have v2 : ∀ x : Beh wr, x.1.cell? ⟨b2, o2 + i, none⟩ = some (.int .u64 (lv (A i) 2)) := fun x => by
            rw [(BX.out x).cell (p := ⟨b2, o2 + i, none⟩) (by show b2 < _; omega)]; exact cc2 i hi'
          have ab := AB.out i
          have gn : hh (gou (lv (A i)) 3) 3 = A i := garner ab.1 ab.2 (fun _ _ => rfl)
          have NU : Hid (∀ x : Beh wr, Calls Tryz.prog 23 #[.pointer (some ⟨w4.heap.size, 0, none⟩), .agg #[.int .u64 (lv (A i) 0), .int .u64 (lv (A i) 1), .int .u64 (lv (A i) 2)]] x.1 fun e w' => e = .returned (.agg #[.int .u64 (dgt (A i) 0), .int .u64 (dgt (A i) 1), .int .u64 (dgt (A i) 2)]) ∧ Below x.1.heap.size x.1 w') := fun x => by
            have := number_any w4.heap.size F I (lv (A i)) x.1 (LY.out.pri.below (BX.out x) (by have := LY.out.pri.lt; omega)) (RJ.out.below (BX.out x) (by omega)) (HJ.out.below (by rw [z5]; exact BX.out x)) HI.out (fun k hk => Int.emod_nonneg _ (by have := prm_bd hk; omega)) (gou_in (fun _ _ => rfl))
            rw [gn] at this
            exact this
          have f0 : ∀ x : Beh wr, x.1.frozen? ⟨w4.heap.size + 1, i * 3, none⟩ = false := fun x => (HR.out.below x.2 gl).frozen _
          have f1 : ∀ x : Beh wr, x.1.frozen? ⟨w4.heap.size + 1, i * 3 + 1, none⟩ = false := fun x => (HR.out.below x.2 gl).frozen _
          have f2 : ∀ x : Beh wr, x.1.frozen? ⟨w4.heap.size + 1, i * 3 + 2, none⟩ = false := fun x => (HR.out.below x.2 gl).frozen _
          have t0 : ∀ x : Beh wr, x.1.cell? ⟨w4.heap.size + 1, i * 3, none⟩ = some (pw A i (i * 3)) := fun x => (HR.out.below x.2 gl).cell (by omega)
          have t1 : ∀ x : Beh wr, x.1.cell? ⟨w4.heap.size + 1, i * 3 + 1, none⟩ = some (pw A i (i * 3 + 1)) := fun x => (HR.out.below x.2 gl).cell (by omega)
          have t2 : ∀ x : Beh wr, x.1.cell? ⟨w4.heap.size + 1, i * 3 + 2, none⟩ = some (pw A i (i * 3 + 2)) := fun x => (HR.out.below x.2 gl).cell (by omega)
          have NX : Hid (∀ (x : Beh wr) W, W = ((x.1.setCell ⟨w4.heap.size + 1, i * 3, none⟩ (.int .u64 (dgt (A i) 0))).setCell ⟨w4.heap.size + 1, i * 3 + 1, none⟩ (.int .u64 (dgt (A i) 1))).setCell ⟨w4.heap.size + 1, i * 3 + 2, none⟩ (.int .u64 (dgt (A i) 2)) → Rv W (w4.heap.size + 1) 48 (M * 3) (pw A (i + 1)) ∧ Below (w4.heap.size + 1) w5 W) := by
            intro x W hW
            rw [hW]
            exact ⟨pw_step (HR.out.below x.2 gl), below_set (below_set (below_set (BX.out x) (Nat.le_refl _) _ _) (Nat.le_refl _) _ _) (Nat.le_refl _) _ _⟩
          clear RJ HJ RL HW LY B5 HC HI AB Z5 z5 e0 e1 e2 lb0 lb1 lb2 cc0 cc1 cc2 BX gn ab HR
          generalize lv (A i) = X at *
          generalize dgt (A i) = Y at *
          generalize hgj : w4.heap.size = gj at *
          clear hgj
          have nb := Beh.some wr
          go_wp2_with fail
          refine wp_region_last_beh (by kernel_rfl) (by kernel_rfl) (by kernel_rfl) (by kernel_rfl) (by decide) ?_
          simp only [stillLast, still, lastOf]
          repeat (go_big_quiet_step ((go_at_call 23; rename_i x; exact Calls.beh_of (NU.out _))))
          refine wpQuiet_nil ?_
          intro _ hw'
          obtain ⟨x9, rfl⟩ := hw'
          have N6 := hid (NX.out x9 _ rfl)
          have p0 := f0 x9
          have p1 := f1 x9
          have p2 := f2 x9
          have r0 := t0 x9
          have r1 := t1 x9
          have r2 := t2 x9
          clear l0 l1 l2 v0 v1 v2 f0 f1 f2 t0 t1 t2 NX NU
          generalize x9.1 = w9 at *
          go_wp2
          exact ⟨⟨i + 1, rfl, by omega, N6.out.1, N6.out.2⟩, by simp only [intOf]; omega⟩
    · have hi' : i < 3 := by omega
      have hil : (i : Int) < 3 := by omega
      have ix := IX.out G i hi'
      obtain ⟨r, P⟩ := HG.out i hi'
      have MW := hid (MU.out wr (G i) (prm i) r HB.out P)
      have K : Hid (∀ w2 bo cap, Below wr.heap.size wr w2 → Wl w2 (.slice bo M cap) M (fun j => lv (A j) i) → ∃ ao' cp', Rv (w2.setCell ⟨w.heap.size, i, none⟩ (.slice bo M cap)) w.heap.size 53 3 (lc ao' cp' M (i + 1)) ∧ (∀ t, t < i + 1 → Wl (w2.setCell ⟨w.heap.size, i, none⟩ (.slice bo M cap)) (.slice (ao' t) M (cp' t)) M (fun j => lv (A j) t)) ∧ (∀ t, t < 3 → ∃ r, Pln (w2.setCell ⟨w.heap.size, i, none⟩ (.slice bo M cap)) (G t) (prm t) k r) ∧ Below w.heap.size w (w2.setCell ⟨w.heap.size, i, none⟩ (.slice bo M cap)) ∧ w2.frozen? ⟨w.heap.size, i, none⟩ = false ∧ ∃ v, w2.cell? ⟨w.heap.size, i, none⟩ = some v) := by
        intro w2 bo cap B2 W2
        have r2 := RL.out.below B2 RL.out.lt
        refine ⟨fun t => if t = i then bo else ao t, fun t => if t = i then cap else cp t, r2.set i _ (fun j hj => ?_), fun t ht => ?_, fun t ht => ?_, below_set (HB.out.trans (B2.mono HB.out.size)) (Nat.le_refl _) _ _, r2.frozen i, _, r2.cell (by omega)⟩
        · unfold lc
          dsimp only
          by_cases e : j = i
          · rw [if_pos e, if_pos e, if_pos e, if_pos (by omega)]
          · rw [if_neg e, if_neg e, if_neg e]
            by_cases e3 : j < i
            · rw [if_pos (by omega), if_pos e3]
            · rw [if_neg (by omega), if_neg e3]
        · dsimp only
          by_cases e : t = i
          · subst e
            rw [if_pos rfl, if_pos rfl]
            exact W2.setv r2 (fun j _ z => lc_no _ _ _ _ _ z) _ _
          · rw [if_neg e, if_neg e]
            exact ((HW.out t (by omega)).below B2).setv r2 (fun j _ z => lc_no _ _ _ _ _ z) _ _
        · obtain ⟨r', p⟩ := HG.out t ht
          exact ⟨r', (p.below B2).set r2 (by decide) (by decide) (by decide) _ _⟩
      clear RL HW HG HB MU LB IX P AB
      go_wp2_with fail
      refine MW.out.mono ?_
      rintro e w2 ⟨⟨bo, cap, rfl, W2⟩, B2⟩
      obtain ⟨ao', cp', r3, k3, p3, b3, fz, vv, cz⟩ := K.out w2 bo cap B2 W2
      have R3 := hid r3
      have K3 := hid k3
      have P3 := hid p3
      have B3 := hid b3
      clear r3 k3 p3 b3 K MW B2 W2
      go_wp2
      exact ⟨⟨i + 1, ao', cp', rfl, by omega, R3, K3, P3, B3⟩, by simp only [intOf]; omega⟩
end Go.Proofs.YtocfenjampmdlabGreatDoor
namespace Go.Proofs.YtocfenjampmdlabGreatDoor
open Go.RowKit Num Nmb

set_option maxHeartbeats 800000 in
theorem mayDivide_any (m : Int) (w : World) : Calls Tryz.prog 13 #[.int .u64 m] w fun e w' => e = .returned (.bool (decide (2 ≤ m ∧ m ≤ 9223372036854775807))) ∧ w' = w := by
  by_cases h1 : 2 ≤ m
  · by_cases h2 : m < 9223372036854775808
    · have e : decide (2 ≤ m ∧ m ≤ 9223372036854775807) = true := decide_eq_true (by omega)
      rw [e]
      clear e
      go_enter Tryz.func13, Tryz.ntmps13
      go_wp2
      go_ret
      exact ⟨rfl, rfl⟩
    · have e : decide (2 ≤ m ∧ m ≤ 9223372036854775807) = false := decide_eq_false (by omega)
      rw [e]
      clear e
      go_enter Tryz.func13, Tryz.ntmps13
      go_wp2
      go_ret
      exact ⟨rfl, rfl⟩
  · have e : decide (2 ≤ m ∧ m ≤ 9223372036854775807) = false := decide_eq_false (by omega)
    rw [e]
    clear e
    go_enter Tryz.func13, Tryz.ntmps13
    go_wp2
    go_ret
    exact ⟨rfl, rfl⟩
set_option maxHeartbeats 800000 in
theorem tooMany_yes (ao bo : Option Addr) (n m ca cb : Nat) (w : World) (hn : 0 < n) (hm : 0 < m) (h : 1048577 ≤ n + m) (hs : n + m ≤ 9223372036854775807) :
    Calls Tryz.prog 14 #[.slice ao n ca, .slice bo m cb] w fun e w' => e = .returned (.bool true) ∧ w' = w := by
  have w1 : IntKind.i64.wrap ((n : Int) + (m : Int)) = (n : Int) + (m : Int) := by rw [IntKind.wrap_i64]; omega
  have h1 : (0 : Int) < (n : Int) := by omega
  have h2 : (0 : Int) < (m : Int) := by omega
  have h3 : (1048576 : Int) < (n : Int) + (m : Int) := by omega
  clear hn hm h hs
  go_enter Tryz.func14, Tryz.ntmps14
  go_wp2
  go_ret
  exact ⟨rfl, rfl⟩
set_option maxHeartbeats 800000 in
theorem tooMany_no (ao bo : Option Addr) (n m ca cb : Nat) (w : World) (h : n = 0 ∨ m = 0 ∨ n + m ≤ 1048576) :
    Calls Tryz.prog 14 #[.slice ao n ca, .slice bo m cb] w fun e w' => e = .returned (.bool false) ∧ w' = w := by
  by_cases n0 : n = 0
  · subst n0
    clear h
    go_enter Tryz.func14, Tryz.ntmps14
    go_wp2
    go_ret
    exact ⟨rfl, rfl⟩
  · have h1 : (0 : Int) < (n : Int) := by omega
    by_cases m0 : m = 0
    · subst m0
      clear h
      go_enter Tryz.func14, Tryz.ntmps14
      go_wp2
      go_ret
      exact ⟨rfl, rfl⟩
    · have h2 : (0 : Int) < (m : Int) := by omega
      have w1 : IntKind.i64.wrap ((n : Int) + (m : Int)) = (n : Int) + (m : Int) := by rw [IntKind.wrap_i64]; omega
      have h3 : ¬ (1048576 : Int) < (n : Int) + (m : Int) := by omega
      clear h
      go_enter Tryz.func14, Tryz.ntmps14
      go_wp2
      go_ret
      exact ⟨rfl, rfl⟩
set_option maxHeartbeats 800000 in
theorem conv_bad (u v : Value) (n m : Nat) (a b : Nat → Int) (M : Int) (w : World) (U : Wl w u n a) (V : Wl w v m b) (hM : 0 ≤ M ∧ M ≤ 18446744073709551615) (hb : M < 2 ∨ 9223372036854775807 < M) :
    Calls Tryz.prog 6 #[u, v, .int .u64 M] w fun e w' => (∃ ao cap, e = .returned (.tuple #[.slice ao 0 cap, .int .i64 1])) ∧ Below w.heap.size w w' := by
  obtain ⟨ao, cap, rfl, -⟩ := U
  obtain ⟨bo, bap, rfl, -⟩ := V
  have MD := hid (mayDivide_any M w)
  rw [show decide (2 ≤ M ∧ M ≤ 9223372036854775807) = false from decide_eq_false (by omega)] at MD
  clear hM hb
  go_enter Tryz.func6, Tryz.ntmps6
  go_wp2_with fail
  refine MD.out.mono ?_
  rintro e w3 ⟨rfl, hw⟩
  obtain rfl := hw.symm
  clear MD
  go_wp2
  go_ret2
  exact ⟨⟨_, _, rfl⟩, Below.refl _ _⟩
set_option maxHeartbeats 800000 in
theorem conv_limit (u v : Value) (n m : Nat) (a b : Nat → Int) (M : Nat) (w : World) (U : Wl w u n a) (V : Wl w v m b) (h2 : 2 ≤ M) (h63 : M ≤ 9223372036854775807) (hn : 0 < n) (hm : 0 < m) (h : 1048577 ≤ n + m) (hs : n + m ≤ 9223372036854775807) :
    Calls Tryz.prog 6 #[u, v, .int .u64 M] w fun e w' => (∃ ao cap, e = .returned (.tuple #[.slice ao 0 cap, .int .i64 13])) ∧ Below w.heap.size w w' := by
  obtain ⟨ao, cap, rfl, -⟩ := U
  obtain ⟨bo, bap, rfl, -⟩ := V
  have MD := hid (mayDivide_any M w)
  rw [show decide (2 ≤ (M : Int) ∧ (M : Int) ≤ 9223372036854775807) = true from decide_eq_true (by omega)] at MD
  have TM := hid (tooMany_yes ao bo n m cap bap w hn hm h hs)
  clear h2 h63 hn hm h hs
  go_enter Tryz.func6, Tryz.ntmps6
  go_wp2_with fail
  refine MD.out.mono ?_
  rintro e w3 ⟨rfl, hw⟩
  obtain rfl := hw.symm
  clear MD
  go_wp2_with fail
  refine TM.out.mono ?_
  rintro e w3 ⟨rfl, hw⟩
  obtain rfl := hw.symm
  clear TM
  go_wp2
  go_ret2
  exact ⟨⟨_, _, rfl⟩, Below.refl _ _⟩
set_option maxHeartbeats 1600000 in
theorem conv_none (u v : Value) (n m : Nat) (a b : Nat → Int) (M : Nat) (w : World) (U : Wl w u n a) (V : Wl w v m b) (h2 : 2 ≤ M) (h63 : M ≤ 9223372036854775807) (h : n = 0 ∨ m = 0) :
    Calls Tryz.prog 6 #[u, v, .int .u64 M] w fun e w' => (∃ ao cap, e = .returned (.tuple #[.slice ao 0 cap, .int .i64 0]) ∧ Wl w' (.slice ao 0 cap) 0 a) ∧ Below w.heap.size w w' := by
  have PN := hid (product_none u v n m a b w U V h)
  obtain ⟨ao, cap, rfl, -⟩ := U
  obtain ⟨bo, bap, rfl, -⟩ := V
  have MD := hid (mayDivide_any M w)
  rw [show decide (2 ≤ (M : Int) ∧ (M : Int) ≤ 9223372036854775807) = true from decide_eq_true (by omega)] at MD
  have TM := hid (tooMany_no ao bo n m cap bap w (by omega))
  clear h2 h63 h
  go_enter Tryz.func6, Tryz.ntmps6
  go_wp2_with fail
  refine MD.out.mono ?_
  rintro e w3 ⟨rfl, hw⟩
  obtain rfl := hw.symm
  clear MD
  go_wp2_with fail
  refine TM.out.mono ?_
  rintro e w3 ⟨rfl, hw⟩
  obtain rfl := hw.symm
  clear TM
  go_wp2_with fail
  refine PN.out.mono ?_
  rintro e w3 ⟨rfl, hw⟩
  obtain rfl := hw.symm
  clear PN
  go_wp2_with (at_make; refine wp_make _ rfl _ _ rfl _ _ 0 rfl rfl (by omega) (by omega) (by omega) ?_; intro w1 R1 C1 Z1; have HR := hid R1; have HC := hid C1; clear R1 C1 Z1)
  go_loopw [28] (fun iv wr => iv = .int .i64 0 ∧ wr = w1) (fun _ _ => 0)
  case atStart => exact ⟨rfl, rfl⟩
  case round =>
    obtain ⟨rfl, rfl⟩ := hrel
    go_wp2
    go_ret2
    exact ⟨⟨_, _, rfl, ⟨_, _, rfl, Nat.le_refl _, by omega, fun j hj => absurd hj (by omega), fun h => absurd h (by omega)⟩⟩, HC.out⟩
set_option maxHeartbeats 3200000 in
theorem conv_yes (u v : Value) (n m : Nat) (a b : Nat → Int) (M : Nat) (w : World) (L : LayB w) (U : Wl w u n a) (V : Wl w v m b) (h2 : 2 ≤ M) (h63 : M ≤ 9223372036854775807) (hn : 0 < n) (hm : 0 < m) (h : n + m ≤ 1048576) :
    Calls Tryz.prog 6 #[u, v, .int .u64 M] w fun e w' => (∃ ao cap, e = .returned (.tuple #[.slice ao (n + m - 1 : Nat) cap, .int .i64 0]) ∧ Wl w' (.slice ao (n + m - 1) cap) (n + m - 1) (fun j => prd a b n m j % M)) ∧ Below w.heap.size w w' := by
  have PR := hid (product_any u v n m a b w L U V hn hm h)
  have AB := hid (prd_bd (fun j hj => U.val hj) (fun j hj => V.val hj) (show n ≤ 1048576 by omega) (show m ≤ 1048576 by omega))
  obtain ⟨ao, cap, rfl, -⟩ := U
  obtain ⟨bo, bap, rfl, -⟩ := V
  have MD := hid (mayDivide_any M w)
  rw [show decide (2 ≤ (M : Int) ∧ (M : Int) ≤ 9223372036854775807) = true from decide_eq_true (by omega)] at MD
  have TM := hid (tooMany_no ao bo n m cap bap w (by omega))
  have K0 : 0 < n + m - 1 := by omega
  have K20 : n + m - 1 ≤ 1048576 := by omega
  generalize prd a b n m = A at *
  generalize n + m - 1 = K at *
  clear hn hm h L
  go_enter Tryz.func6, Tryz.ntmps6
  go_wp2_with fail
  refine MD.out.mono ?_
  rintro e w3 ⟨rfl, hw⟩
  obtain rfl := hw.symm
  clear MD
  go_wp2_with fail
  refine TM.out.mono ?_
  rintro e w3 ⟨rfl, hw⟩
  obtain rfl := hw.symm
  clear TM
  go_wp2_with fail
  refine PR.out.mono ?_
  rintro e w3 ⟨⟨gs, rfl, R3⟩, B3⟩
  have HS := hid R3
  have HB := hid B3
  have gs3 := R3.lt
  clear PR R3 B3
  go_wp2_with (at_make; refine wp_make _ rfl _ _ rfl _ _ K rfl rfl (by omega) (by omega) (by omega) ?_; intro w4 R4 C4 Z4; have HR := hid R4; have HC := hid C4; clear R4 C4 Z4)
  go_loopw [28] (fun iv wr => ∃ (i : Nat), iv = .int .i64 i ∧ i ≤ K ∧ Hid (Row wr w3.heap.size K (fun j => if j < i then A j % M else 0)) ∧ Hid (Below w3.heap.size w3 wr)) (fun iv _ => ((K : Int) - intOf iv).toNat)
  case atStart => exact ⟨0, rfl, Nat.zero_le _, HR.out.eq (fun j _ => by rw [if_neg (by omega)]), HC.out⟩
  case round =>
    clear HR HC
    obtain ⟨i, rfl, hi, HR, HC⟩ := hrel
    by_cases him : i = K
    · have him' : ¬ (i : Int) < (K : Int) := by omega
      subst him
      have BF := hid (HB.out.trans (HC.out.mono HB.out.size))
      have RF := hid ((HR.out.eq (y := fun j => A j % M) (fun j hj => by rw [if_pos hj])).wl (fun j hj => ⟨Int.emod_nonneg _ (by omega), by have := Int.emod_lt_of_pos (A j) (show 0 < (M : Int) by omega); omega⟩) (by omega))
      clear HS HB HR HC AB
      go_wp2
      go_ret2
      exact ⟨⟨_, _, rfl, RF.out⟩, BF.out⟩
    · have him' : (i : Int) < (K : Int) := by omega
      have hi' : i < K := by omega
      have rs := HS.out.below HC.out gs3
      have c0 := rs.cell (i := i * 3) (by omega)
      have c1 := rs.cell (i := i * 3 + 1) (by omega)
      have c2 := rs.cell (i := i * 3 + 2) (by omega)
      unfold pw at c0 c1 c2
      rw [if_pos (by omega), show i * 3 / 3 = i by omega, show i * 3 % 3 = 0 by omega] at c0
      rw [if_pos (by omega), show (i * 3 + 1) / 3 = i by omega, show (i * 3 + 1) % 3 = 1 by omega] at c1
      rw [if_pos (by omega), show (i * 3 + 2) / 3 = i by omega, show (i * 3 + 2) % 3 = 2 by omega] at c2
      have ab := AB.out i
      have LE : Hid (∀ W, Calls Tryz.prog 16 #[.agg #[.int .u64 (dgt (A i) 0), .int .u64 (dgt (A i) 1), .int .u64 (dgt (A i) 2)], .int .u64 M] W fun e w' => e = .returned (.int .u64 (A i % M)) ∧ Below W.heap.size W w') := fun W => wleft_dgt (A i) M W ab.1 (by omega) (by omega)
      have NX : Hid (∀ W, Below wr.heap.size wr W → Row (W.setCell ⟨w3.heap.size, i, none⟩ (.int .u64 (A i % M))) w3.heap.size K (fun j => if j < i + 1 then A j % M else 0) ∧ Below w3.heap.size w3 (W.setCell ⟨w3.heap.size, i, none⟩ (.int .u64 (A i % M))) ∧ W.frozen? ⟨w3.heap.size, i, none⟩ = false ∧ ∃ v, W.cell? ⟨w3.heap.size, i, none⟩ = some v) := fun W B => by
        have r := HR.out.below B HR.out.lt
        refine ⟨r.set i _ (fun j hj => ?_), below_set (HC.out.trans (B.mono (Nat.le_of_lt HR.out.lt))) (Nat.le_refl _) _ _, r.frozen i, _, r.cell hi'⟩
        by_cases e : j = i
        · rw [if_pos (by omega), if_pos e, e]
        · rw [if_neg e]
          by_cases e2 : j < i
          · rw [if_pos e2, if_pos (by omega)]
          · rw [if_neg e2, if_neg (by omega)]
      clear rs ab HS HB HR HC AB
      generalize A i % (M : Int) = r at *
      generalize dgt (A i) = Y at *
      go_wp2_with fail
      refine (LE.out _).mono ?_
      rintro e w5 ⟨rfl, B5⟩
      obtain ⟨n1, n2, fz, vv, cz⟩ := NX.out w5 ((below_new' wr _).trans (B5.mono (by simp)))
      have N1 := hid n1
      have N2 := hid n2
      clear n1 n2 NX LE c0 c1 c2 B5
      go_wp2
      exact ⟨⟨i + 1, rfl, by omega, N1, N2⟩, by simp only [intOf]; omega⟩
end Go.Proofs.YtocfenjampmdlabGreatDoor
namespace Go.Proofs.YtocfenjampmdlabGreatDoor
open Go.RowKit Num Nmb

/-- 'v' is a slice of n numbers A. -/
def Zl (w : World) (v : Value) (n : Nat) (A : Nat → Int) : Prop :=
  ∃ ao cap, v = .slice ao n cap ∧ n ≤ cap ∧ cap ≤ 9223372036854775807 ∧
    (0 < n → ∃ b off, ao = some ⟨b, off, none⟩ ∧ b < w.heap.size ∧ ∀ j, j < n → ∃ p a k c, w.cell? ⟨b, off + j * 2, none⟩ = some (.bool p) ∧ w.cell? ⟨b, off + j * 2 + 1, none⟩ = some (.slice a k c) ∧ B.It w (.agg #[.bool p, .slice a k c]) 100 (A j))
theorem It_setv {w : World} {v : Value} {n b k : Nat} {a : Int} {t : TypeId} {C : Nat → Value} (h : B.It w v n a) (R : Rv w b t k C) (hC : ∀ j, j < k → ∀ z, C j ≠ .int .u64 z) (i : Nat) (u : Value) : B.It (w.setCell ⟨b, i, none⟩ u) v n a := by
  obtain ⟨neg, ao, q, cap, a', rfl, ⟨x, o, ⟨ao', cap', e, s1, s2, s3, s4, s5⟩, h2, h3⟩, h4⟩ := h
  refine ⟨neg, ao, q, cap, a', rfl, ⟨x, o, ⟨ao', cap', e, s1, s2, s3, s4, fun hq => ?_⟩, h2, h3⟩, h4⟩
  obtain ⟨b', off, e', hbs, hc⟩ := s5 hq
  have ne : b' ≠ b := by
    rintro rfl
    have c0 := hc 0 hq
    by_cases ho : off + 0 < k
    · rw [R.cell ho] at c0
      exact hC _ ho _ (Option.some.inj c0)
    · obtain ⟨cur, hb, hs, _⟩ := R
      simp [World.cell?, hb, show cur.size ≤ off by omega] at c0
  refine ⟨b', off, e', by simpa [World.setCell] using hbs, fun j hj => ?_⟩
  rw [cell_other ne]
  exact hc j hj
/-- the cells of a row of numbers. -/
def zc (p : Nat → Bool) (a : Nat → Option Addr) (k c : Nat → Nat) (j : Nat) : Value := if j % 2 = 0 then .bool (p (j / 2)) else .slice (a (j / 2)) (k (j / 2)) (c (j / 2))
theorem zc_no (p : Nat → Bool) (a : Nat → Option Addr) (k c : Nat → Nat) (j : Nat) (z : Int) : zc p a k c j ≠ .int .u64 z := by
  unfold zc
  by_cases e : j % 2 = 0
  · rw [if_pos e]; exact fun h => by cases h
  · rw [if_neg e]; exact fun h => by cases h
theorem Tryz.infoZ : (Tryz.prog.info? 42).map (fun i => (i.zero, i.size, i.bytes)) = some (some (.agg #[.bool false, .slice none 0 0]), 2, 32) := by kernel_rfl
theorem zc_new (w : World) (n : Nat) : Rv (w.alloc (.cells (madeCells #[.bool false, .slice none 0 0] (n * 2)) 42)) w.heap.size 42 (n * 2) (zc (fun _ => false) (fun _ => none) (fun _ => 0) (fun _ => 0)) := by
  refine Rv.new w _ _ _ _ (size_madeCells _ _) fun j hj => ?_
  unfold zc
  have : j % 2 = 0 ∨ j % 2 = 1 := by omega
  rcases this with h | h <;> simp [madeCells, hj, h]
theorem wp_makeZ {ops : Array Oper} {rest : List Oper} {o : Oper} {a : Act} {Q : Exit → Act → World → Prop} (w : World) (hg : o.guard = none) (l c : Operand) (hop : o.op = Op.makeSlice 32 l c)
    (L C : Int) (n : Nat) (hl : a.eval l = .int .i64 L) (hc : a.eval c = .int .i64 C) (hL : L = (n : Int)) (hC : C = (n : Int)) (hn : n ≤ 1000000000)
    (hK : ∀ w', Rv w' w.heap.size 42 (n * 2) (zc (fun _ => false) (fun _ => none) (fun _ => 0) (fun _ => 0)) → Below w.heap.size w w' → w'.heap.size = w.heap.size + 1 → wpList Tryz.prog ops Q rest (a.put o.dst (.slice (some ⟨w.heap.size, 0, none⟩) n n)) w') :
    wpList Tryz.prog ops Q (o :: rest) a w := by
  obtain ⟨i0, hi, hz0, hz1, hz2⟩ := info_parts Tryz.infoZ
  refine wpList_plain hg fun K hK' => ?_
  have hr := run_make (P := Tryz.prog) w 32 42 i0 (.agg #[.bool false, .slice none 0 0]) Tryz.underlying32 hi hz0 .i64 .i64 n n (by omega) (Int.le_refl _) (by rw [hz2]; omega) (by omega)
  simp only [Int.toNat_natCast] at hr
  rw [hz1] at hr
  subst hL; subst hC
  unfold Oper.wp
  simp [execOp, hop, hl, hc, hr, Result.andThen]
  refine hK' _ _ (hK _ ?_ ?_ ?_)
  · exact zc_new w n
  · exact (Below.refl _ _).alloc (Nat.le_refl _) _
  · simp
set_option maxHeartbeats 800000 in
theorem exact_limit (u v : Value) (n m : Nat) (a b : Nat → Int) (w : World) (U : Wl w u n a) (V : Wl w v m b) (hn : 0 < n) (hm : 0 < m) (h : 1048577 ≤ n + m) (hs : n + m ≤ 9223372036854775807) :
    Calls Tryz.prog 9 #[u, v] w fun e w' => (∃ ao cap, e = .returned (.tuple #[.slice ao 0 cap, .int .i64 13])) ∧ Below w.heap.size w w' := by
  obtain ⟨ao, cap, rfl, -⟩ := U
  obtain ⟨bo, bap, rfl, -⟩ := V
  have TM := hid (tooMany_yes ao bo n m cap bap w hn hm h hs)
  clear hn hm h hs
  go_enter Tryz.func9, Tryz.ntmps9
  go_wp2_with fail
  refine TM.out.mono ?_
  rintro e w3 ⟨rfl, hw⟩
  obtain rfl := hw.symm
  clear TM
  go_wp2
  go_ret2
  exact ⟨⟨_, _, rfl⟩, Below.refl _ _⟩
set_option maxHeartbeats 1600000 in
theorem exact_none (u v : Value) (n m : Nat) (a b : Nat → Int) (w : World) (U : Wl w u n a) (V : Wl w v m b) (h : n = 0 ∨ m = 0) :
    Calls Tryz.prog 9 #[u, v] w fun e w' => (∃ ao cap, e = .returned (.tuple #[.slice ao 0 cap, .int .i64 0]) ∧ cap ≤ 9223372036854775807) ∧ Below w.heap.size w w' := by
  have PN := hid (product_none u v n m a b w U V h)
  obtain ⟨ao, cap, rfl, -⟩ := U
  obtain ⟨bo, bap, rfl, -⟩ := V
  have TM := hid (tooMany_no ao bo n m cap bap w (by omega))
  clear h
  go_enter Tryz.func9, Tryz.ntmps9
  go_wp2_with fail
  refine TM.out.mono ?_
  rintro e w3 ⟨rfl, hw⟩
  obtain rfl := hw.symm
  clear TM
  go_wp2_with fail
  refine PN.out.mono ?_
  rintro e w3 ⟨rfl, hw⟩
  obtain rfl := hw.symm
  clear PN
  go_wp2_with (at_make; refine wp_makeZ _ rfl _ _ rfl _ _ 0 rfl rfl (by omega) (by omega) (by omega) ?_; intro w1 R1 C1 Z1; have HC := hid C1; clear R1 C1 Z1)
  go_loopw [20] (fun iv wr => iv = .int .i64 0 ∧ wr = w1) (fun _ _ => 0)
  case atStart => exact ⟨rfl, rfl⟩
  case round =>
    obtain ⟨rfl, rfl⟩ := hrel
    go_wp2
    go_ret2
    exact ⟨⟨_, _, rfl, by omega⟩, HC.out⟩
/-- three words of a row are a number. -/
theorem nt_of_pw {w : World} {g M i : Nat} {t : TypeId} {A : Nat → Int} (h : Rv w g t (M * 3) (pw A M)) (hi : i < M) (h0 : 0 ≤ A i) (h1 : A i < 6277101735386680763835789423207666416102355444464034512896) : B.Nt w (.slice (some ⟨g, i * 3, none⟩) 3 3) 3 (A i) := by
  refine ⟨dgt (A i), 0, ⟨_, 3, rfl, Nat.le_refl _, by omega, fun j hj => ?_, (fun h => by cases h), fun _ => ⟨g, i * 3, rfl, h.lt, fun j hj => ?_⟩⟩, ?_⟩
  · have := dgt_bd h0 h1 j (by omega)
    rw [Nat.zero_add]
    exact this
  · have c := h.cell (i := i * 3 + j) (by omega)
    unfold pw at c
    rw [if_pos (by omega), show (i * 3 + j) / 3 = i by omega, show (i * 3 + j) % 3 = j by omega] at c
    rw [Nat.zero_add]
    exact c
  · have := hvw_dgt (A i)
    unfold hvw at this
    show 0 + dgt (A i) 0 * 1 + dgt (A i) 1 * (1 * 18446744073709551616) + dgt (A i) 2 * (1 * 18446744073709551616 * 18446744073709551616) = A i
    omega
set_option maxHeartbeats 3200000 in
theorem exact_yes (u v : Value) (n m : Nat) (a b : Nat → Int) (w : World) (L : LayB w) (U : Wl w u n a) (V : Wl w v m b) (hn : 0 < n) (hm : 0 < m) (h : n + m ≤ 1048576) :
    Calls Tryz.prog 9 #[u, v] w fun e w' => (∃ ao cap, e = .returned (.tuple #[.slice ao (n + m - 1 : Nat) cap, .int .i64 0]) ∧ Zl w' (.slice ao (n + m - 1) cap) (n + m - 1) (prd a b n m)) ∧ Below w.heap.size w w' := by
  have PR := hid (product_any u v n m a b w L U V hn hm h)
  have AB := hid (prd_bd (fun j hj => U.val hj) (fun j hj => V.val hj) (show n ≤ 1048576 by omega) (show m ≤ 1048576 by omega))
  obtain ⟨ao, cap, rfl, -⟩ := U
  obtain ⟨bo, bap, rfl, -⟩ := V
  have TM := hid (tooMany_no ao bo n m cap bap w (by omega))
  have K0 : 0 < n + m - 1 := by omega
  have K20 : n + m - 1 ≤ 1048576 := by omega
  generalize prd a b n m = A at *
  generalize n + m - 1 = K at *
  clear hn hm h L
  go_enter Tryz.func9, Tryz.ntmps9
  go_wp2_with fail
  refine TM.out.mono ?_
  rintro e w3 ⟨rfl, hw⟩
  obtain rfl := hw.symm
  clear TM
  go_wp2_with fail
  refine PR.out.mono ?_
  rintro e w3 ⟨⟨gs, rfl, R3⟩, B3⟩
  have HS := hid R3
  have HB := hid B3
  have gs3 := R3.lt
  clear PR R3 B3
  go_wp2_with (at_make; refine wp_makeZ _ rfl _ _ rfl _ _ K rfl rfl (by omega) (by omega) (by omega) ?_; intro w4 R4 C4 Z4; have HR := hid R4; have HC := hid C4; clear R4 C4 Z4)
  go_loopw [20] (fun iv wr => ∃ (i : Nat) (p : Nat → Bool) (sa : Nat → Option Addr) (sk sc : Nat → Nat), iv = .int .i64 i ∧ i ≤ K ∧ Hid (Rv wr w3.heap.size 42 (K * 2) (zc p sa sk sc)) ∧ Hid (∀ j, j < i → B.It wr (.agg #[.bool (p j), .slice (sa j) (sk j) (sc j)]) 100 (A j)) ∧ Hid (Below w3.heap.size w3 wr)) (fun iv _ => ((K : Int) - intOf iv).toNat)
  case atStart => exact ⟨0, _, _, _, _, rfl, Nat.zero_le _, HR.out, fun j hj => absurd hj (by omega), HC.out⟩
  case round =>
    clear HR HC
    obtain ⟨i, p, sa, sk, sc, rfl, hi, HR, HI, HC⟩ := hrel
    by_cases him : i = K
    · have him' : ¬ (i : Int) < (K : Int) := by omega
      subst him
      have BF := hid (HB.out.trans (HC.out.mono HB.out.size))
      have RF : Hid (Zl wr (.slice (some ⟨w3.heap.size, 0, none⟩) i i) i A) := ⟨_, i, rfl, Nat.le_refl _, by omega, fun _ => ⟨w3.heap.size, 0, rfl, HR.out.lt, fun j hj => ⟨p j, sa j, sk j, sc j, by
        have := HR.out.cell (i := j * 2) (by omega)
        unfold zc at this
        rw [if_pos (by omega), show j * 2 / 2 = j by omega] at this
        rw [Nat.zero_add]; exact this, by
        have := HR.out.cell (i := j * 2 + 1) (by omega)
        unfold zc at this
        rw [if_neg (by omega), show (j * 2 + 1) / 2 = j by omega] at this
        rw [Nat.zero_add]; exact this, HI.out j hj⟩⟩⟩
      clear HS HB HR HC AB HI
      go_wp2
      go_ret2
      exact ⟨⟨_, _, rfl, RF.out⟩, BF.out⟩
    · have him' : (i : Int) < (K : Int) := by omega
      have hi' : i < K := by omega
      have rs := HS.out.below HC.out gs3
      have ab := AB.out i
      have FR := hid (B.From_any false _ 3 (A i) wr (nt_of_pw rs hi' ab.1 (by omega)) (by omega))
      have NX : Hid (∀ W q bo k c, Below wr.heap.size wr W → B.It W (.agg #[.bool q, .slice bo k c]) 100 (A i) → ∃ p' sa' sk' sc', Rv ((W.setCell ⟨w3.heap.size, i * 2, none⟩ (.bool q)).setCell ⟨w3.heap.size, i * 2 + 1, none⟩ (.slice bo k c)) w3.heap.size 42 (K * 2) (zc p' sa' sk' sc') ∧ (∀ j, j < i + 1 → B.It ((W.setCell ⟨w3.heap.size, i * 2, none⟩ (.bool q)).setCell ⟨w3.heap.size, i * 2 + 1, none⟩ (.slice bo k c)) (.agg #[.bool (p' j), .slice (sa' j) (sk' j) (sc' j)]) 100 (A j)) ∧ Below w3.heap.size w3 ((W.setCell ⟨w3.heap.size, i * 2, none⟩ (.bool q)).setCell ⟨w3.heap.size, i * 2 + 1, none⟩ (.slice bo k c)) ∧ W.frozen? ⟨w3.heap.size, i * 2, none⟩ = false ∧ W.frozen? ⟨w3.heap.size, i * 2 + 1, none⟩ = false ∧ (∃ v, W.cell? ⟨w3.heap.size, i * 2, none⟩ = some v) ∧ ∃ v, W.cell? ⟨w3.heap.size, i * 2 + 1, none⟩ = some v) := by
        intro W q bo k c B I
        have r := HR.out.below B HR.out.lt
        have r1 := r.set (D := fun j => if j = i * 2 then .bool q else zc p sa sk sc j) (i * 2) (.bool q) (fun _ _ => rfl)
        have no1 : ∀ j, j < K * 2 → ∀ z, (fun j => if j = i * 2 then Value.bool q else zc p sa sk sc j) j ≠ .int .u64 z := fun j _ z => by
          dsimp only
          by_cases e : j = i * 2
          · rw [if_pos e]; exact fun h => by cases h
          · rw [if_neg e]; exact zc_no _ _ _ _ _ _
        refine ⟨fun j => if j = i then q else p j, fun j => if j = i then bo else sa j, fun j => if j = i then k else sk j, fun j => if j = i then c else sc j, r1.set _ _ (fun j hj => ?_), fun j hj => ?_, below_set (below_set (HC.out.trans (B.mono (Nat.le_of_lt HR.out.lt))) (Nat.le_refl _) _ _) (Nat.le_refl _) _ _, r.frozen _, r.frozen _, ⟨_, r.cell (by omega)⟩, ⟨_, r.cell (by omega)⟩⟩
        · unfold zc
          dsimp only
          by_cases e1 : j = i * 2 + 1
          · rw [if_pos e1, if_neg (by omega), if_pos (by omega), if_pos (by omega), if_pos (by omega)]
          · rw [if_neg e1]
            by_cases e0 : j = i * 2
            · rw [if_pos e0, if_pos (by omega), if_pos (by omega)]
            · rw [if_neg e0]
              have ne : ¬ j / 2 = i := by omega
              rw [if_neg ne, if_neg ne, if_neg ne, if_neg ne]
        · dsimp only
          by_cases e : j = i
          · subst e
            rw [if_pos rfl, if_pos rfl, if_pos rfl, if_pos rfl]
            exact It_setv (It_setv I r (fun j _ z => zc_no _ _ _ _ _ z) _ _) r1 no1 _ _
          · rw [if_neg e, if_neg e, if_neg e, if_neg e]
            exact It_setv (It_setv ((HI.out j (by omega)).below B) r (fun j _ z => zc_no _ _ _ _ _ z) _ _) r1 no1 _ _
      clear rs ab HS HB HR HC AB HI
      go_wp2_with fail
      refine FR.out.mono ?_
      rintro e w5 ⟨v', rfl, I5, B5⟩
      obtain ⟨q, bo, k, c, rfl⟩ := I5.shape
      rw [show B.sg false (A i) = A i from rfl] at I5
      obtain ⟨p', sa', sk', sc', n1, n2, n3, f0, f1, ⟨v0, c0⟩, ⟨v1, c1⟩⟩ := NX.out w5 q bo k c B5 (I5.mono (by omega))
      have N1 := hid n1
      have N2 := hid n2
      have N3 := hid n3
      clear n1 n2 n3 NX FR I5 B5
      go_wp2
      exact ⟨⟨i + 1, p', sa', sk', sc', rfl, by omega, N1, N2, N3⟩, by simp only [intOf]; omega⟩
end Go.Proofs.YtocfenjampmdlabGreatDoor
