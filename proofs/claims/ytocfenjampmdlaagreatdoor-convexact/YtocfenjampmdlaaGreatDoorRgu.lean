/- Plans of the landed tft: their fields, and what the small calls answer. -/
/- Halves of a block, halved words, inverses of points, in the landed tft. -/
/- A region whose first four operations are moves that may come at any time, whose next ones only read, and whose others wait for all ahead of them but these moves. -/
import Derived.Test.YtocfenjampmdlaaGreatDoorQr
import Derived.Test.YtocfenjampmdlaaGreatDoorTd
import Derived.BigQuiet
namespace Go.Proofs.YtocfenjampmdlaaGreatDoor
open Go.RowKit Num Nmb

/-- the form of the point at an even place. -/
def fmp (p r k j : Nat) : Int := (r : Int) ^ rv (k - 1) j * 18446744073709551616 % p
/-- block g holds the fields of a plan. -/
def PlnC (w : World) (g gf gm k r h : Nat) : Prop := w.heap[g]? = some (.cells #[.pointer (some ⟨gf, 0, none⟩), .int .i64 k, .int .u64 r, .slice (some ⟨gm, 0, none⟩) h h] 112 (0, 0))
theorem PlnC.lt {w : World} {g gf gm k r h : Nat} (t : PlnC w g gf gm k r h) : g < w.heap.size := (Array.getElem?_eq_some_iff.1 t).1
theorem PlnC.cell0 {w : World} {g gf gm k r h : Nat} (t : PlnC w g gf gm k r h) : w.cell? ⟨g, 0, none⟩ = some (.pointer (some ⟨gf, 0, none⟩)) := by unfold PlnC at t; simp only [World.cell?, t]; rfl
theorem PlnC.cell1 {w : World} {g gf gm k r h : Nat} (t : PlnC w g gf gm k r h) : w.cell? ⟨g, 1, none⟩ = some (.int .i64 k) := by unfold PlnC at t; simp only [World.cell?, t]; rfl
theorem PlnC.cell2 {w : World} {g gf gm k r h : Nat} (t : PlnC w g gf gm k r h) : w.cell? ⟨g, 2, none⟩ = some (.int .u64 r) := by unfold PlnC at t; simp only [World.cell?, t]; rfl
theorem PlnC.cell3 {w : World} {g gf gm k r h : Nat} (t : PlnC w g gf gm k r h) : w.cell? ⟨g, 3, none⟩ = some (.slice (some ⟨gm, 0, none⟩) h h) := by unfold PlnC at t; simp only [World.cell?, t]; rfl
/-- block g holds a plan, with its field and its forms. -/
structure PlnF (w : World) (g gf gm p k r h : Nat) (f s : Int) : Prop where
  tc : PlnC w g gf gm k r h
  fld : Fld w gf p f s
  row : Row w gm h (fmp p r k)
theorem PlnF.keep {w w' : World} {g gf gm p k r h : Nat} {f s : Int} (T : PlnF w g gf gm p k r h f s) (e1 : w'.heap[g]? = w.heap[g]?) (e2 : w'.heap[gf]? = w.heap[gf]?) (e3 : w'.heap[gm]? = w.heap[gm]?) : PlnF w' g gf gm p k r h f s := by
  obtain ⟨h1, h2, cur, h3, h4⟩ := T
  exact ⟨by unfold PlnC; rw [e1]; exact h1, by unfold Fld; rw [e2]; exact h2, cur, by rw [e3]; exact h3, h4⟩
theorem PlnF.lt {w : World} {g gf gm p k r h : Nat} {f s : Int} (T : PlnF w g gf gm p k r h f s) : g < w.heap.size ∧ gf < w.heap.size ∧ gm < w.heap.size := ⟨T.tc.lt, T.fld.lt, T.row.lt⟩
theorem PlnF.below {B : Nat} {w w' : World} {g gf gm p k r h : Nat} {f s : Int} (T : PlnF w g gf gm p k r h f s) (hb : Below B w w') (hB : g < B ∧ gf < B ∧ gm < B) : PlnF w' g gf gm p k r h f s :=
  T.keep (hb.block _ hB.1) (hb.block _ hB.2.1) (hb.block _ hB.2.2)
theorem PlnF.only {b : Nat} {w w' : World} {g gf gm p k r h : Nat} {f s : Int} (T : PlnF w g gf gm p k r h f s) (o : OnlyB b w w') (hB : g ≠ b ∧ gf ≠ b ∧ gm ≠ b) : PlnF w' g gf gm p k r h f s :=
  T.keep (o.block _ hB.1) (o.block _ hB.2.1) (o.block _ hB.2.2)
theorem PlnF.heap {w w' : World} {g gf gm p k r h : Nat} {f s : Int} (T : PlnF w g gf gm p k r h f s) (e : w'.heap = w.heap) : PlnF w' g gf gm p k r h f s :=
  T.keep (by rw [e]) (by rw [e]) (by rw [e])
theorem PlnF.drew {w : World} {g gf gm p k r h : Nat} {f s : Int} (T : PlnF w g gf gm p k r h f s) (n : Nat) : PlnF (w.drewN n) g gf gm p k r h f s := T.heap (by simp)
/-- block g holds a plan. -/
def Pln (w : World) (g p k r : Nat) : Prop := TabOk p k r ∧ ∃ gf gm h f s, PlnF w g gf gm p k r h f s ∧ h = 2 ^ k / 2 ∧ Ok p f s
theorem Pln.ok {w : World} {g p k r : Nat} (h : Pln w g p k r) : TabOk p k r := h.1
theorem Pln.below {w w' : World} {g p k r : Nat} (h : Pln w g p k r) (hb : Below w.heap.size w w') : Pln w' g p k r := by
  obtain ⟨h0, gf, gm, h, f, s, h1, h2, h3⟩ := h
  exact ⟨h0, gf, gm, h, f, s, h1.below hb h1.lt, h2, h3⟩
theorem Pln.heap {w w' : World} {g p k r : Nat} (h : Pln w g p k r) (e : w'.heap = w.heap) : Pln w' g p k r := by
  obtain ⟨h0, gf, gm, h, f, s, h1, h2, h3⟩ := h
  exact ⟨h0, gf, gm, h, f, s, h1.heap e, h2, h3⟩
theorem TabOk.odd {p k r : Nat} (T : TabOk p k r) (hk : 0 < k) : (p : Int) % 2 = 1 := by
  have h1 : p % 2 ≠ 0 := fun h => by
    rcases T.pri.2 2 (Nat.dvd_of_mod_eq_zero h) with h' | h'
    · omega
    · have := T.ktw
      rw [← h', tw2] at this
      omega
  omega
set_option maxHeartbeats 800000 in
theorem m_any (g : Nat) (m f s : Int) (w : World) (h : Fld w g m f s) : Calls Tryz.prog 128 #[.pointer (some ⟨g, 0, none⟩)] w fun e w' => e = .returned (.int .u64 m) ∧ w' = w := by
  have c := h.cell0
  clear h
  go_enter Tryz.func128, Tryz.ntmps128
  go_wp2
  go_ret
  exact ⟨rfl, rfl⟩
set_option maxHeartbeats 800000 in
theorem tmost_nil (w : World) : Calls Tryz.prog 65 #[.pointer none] w fun e w' => e = .returned (.int .i64 0) ∧ w' = w := by
  go_enter Tryz.func65, Tryz.ntmps65
  go_wp2
  go_ret
  exact ⟨rfl, rfl⟩
set_option maxHeartbeats 800000 in
theorem tmost_any (g p k r : Nat) (w : World) (T : Pln w g p k r) : Calls Tryz.prog 65 #[.pointer (some ⟨g, 0, none⟩)] w fun e w' => e = .returned (.int .i64 (2 ^ k : Nat)) ∧ w' = w := by
  have k20 := T.ok.k20
  obtain ⟨_, gf, gm, h, f, s, h1, _, _⟩ := T
  have c := h1.tc.cell1
  have e2 : (2 : Int) ^ k = ((2 ^ k : Nat) : Int) := (Int.natCast_pow 2 k).symm
  have l20 : 2 ^ k ≤ 2 ^ 20 := Nat.pow_le_pow_right (by decide) k20
  clear h1
  obtain ⟨N, hN⟩ : ∃ N, N = 2 ^ k := ⟨_, rfl⟩
  rw [← hN] at e2 l20 ⊢
  clear hN
  go_enter Tryz.func65, Tryz.ntmps65
  go_wp2
  go_ret
  exact ⟨rfl, rfl⟩
end Go.Proofs.YtocfenjampmdlaaGreatDoor
namespace Go.Proofs.YtocfenjampmdlaaGreatDoor
open Go.RowKit Num Nmb

set_option maxHeartbeats 1600000 in
theorem halves_any (gl off H : Nat) (w : World) (h0 : 0 < H) (hH : H ≤ 1048576) :
    Calls Tryz.prog 111 #[.slice (some ⟨gl, off, none⟩) (2 * H : Nat) (2 * H : Nat)] w fun e w' => e = .returned (.tuple #[.slice (some ⟨gl, off, none⟩) H H, .slice (some ⟨gl, off + H, none⟩) H H]) ∧ ∃ c, w' = w.drewN c := by
  have dq : Int.tdiv ((2 * H : Nat) : Int) 2 = (H : Int) := by rw [Int.tdiv_eq_ediv_of_nonneg (by omega)]; omega
  have q1 : (H : Int) ≤ ((2 * H : Nat) : Int) := by omega
  have q2 : 2 * H - H = H := by omega
  have q3 : (((2 * H : Nat) : Int) - (H : Int)).toNat = H := by omega
  go_enter Tryz.func111, Tryz.ntmps111
  go_wp2_with fail
  go_quiet (fail)
  rename_i nq
  go_wp2
  go_ret2
  refine ⟨?_, nq, rfl⟩
  show Ending.returned (Value.tuple #[Value.slice (some ⟨gl, off, none⟩) H H, Value.slice (some ⟨gl, off + H, none⟩) (2 * H - H) (2 * H - H)]) = _
  rw [q2]
/-- what x is twice of. -/
def hv (p : Nat) (x : Int) : Int := if x % 2 = 0 then x / 2 else (x + p) / 2
theorem hv_said {p : Nat} {x : Int} (hx : 0 ≤ x ∧ x < p) (ho : (p : Int) % 2 = 1) : (0 ≤ hv p x ∧ hv p x < p) ∧ Cg p (2 * hv p x) x := by
  unfold hv
  by_cases h : x % 2 = 0
  · rw [if_pos h]
    exact ⟨⟨by omega, by omega⟩, Cg.of_eq (by omega)⟩
  · rw [if_neg h]
    refine ⟨⟨by omega, by omega⟩, ?_⟩
    rw [show 2 * ((x + (p : Int)) / 2) = x + p by omega]
    unfold Cg
    rw [Int.add_emod_right]
set_option maxHeartbeats 1600000 in
theorem halved_any (g gf gm p k r h : Nat) (f s x : Int) (w : World) (T : PlnF w g gf gm p k r h f s) (h63 : p < 9223372036854775808) (hx : 0 ≤ x ∧ x < p) (ho : (p : Int) % 2 = 1) :
    Calls Tryz.prog 124 #[.pointer (some ⟨g, 0, none⟩), .int .u64 x] w fun e w' => e = .returned (.int .u64 (hv p x)) ∧ w' = w := by
  have c := T.tc.cell0
  have MM := hid (m_any gf p f s w T.fld)
  clear T
  rcases (show x % 2 = 0 ∨ x % 2 = 1 by omega) with h | h
  · have D : hv p x = x / 2 := by unfold hv; rw [if_pos h]
    rw [D]
    clear D
    have tm : Int.tmod x 2 = 0 := by rw [Int.tmod_eq_emod_of_nonneg (by omega)]; exact h
    have td : Int.tdiv x 2 = x / 2 := by rw [Int.tdiv_eq_ediv_of_nonneg (by omega)]
    go_enter Tryz.func124, Tryz.ntmps124
    go_wp2
    go_ret
    exact ⟨rfl, by first | trivial | rfl⟩
  · have D : hv p x = (x + p) / 2 := by unfold hv; rw [if_neg (by omega)]
    rw [D]
    clear D
    have tm : Int.tmod x 2 = 1 := by rw [Int.tmod_eq_emod_of_nonneg (by omega)]; exact h
    have td : Int.tdiv (x + p) 2 = (x + p) / 2 := by rw [Int.tdiv_eq_ediv_of_nonneg (by omega)]
    have wr : IntKind.u64.wrap (x + p) = x + p := by rw [IntKind.wrap_u64]; omega
    go_enter Tryz.func124, Tryz.ntmps124
    go_wp2_with fail
    refine MM.out.mono ?_
    rintro e w3 ⟨rfl, hw⟩
    obtain rfl := hw.symm
    go_wp2
    go_ret
    exact ⟨rfl, by first | trivial | rfl⟩
theorem add_q (g : Nat) (m f s x y : Int) (w : World) (h : Fld w g m f s) (hm : Ok m f s) (hx : 0 ≤ x) (hy : 0 ≤ y) :
    Calls Tryz.prog 112 #[.pointer (some ⟨g, 0, none⟩), .int .u64 x, .int .u64 y] w fun e w' => e = .returned (.int .u64 ((x + y) % m)) ∧ ∃ k, w' = w.drewN k := by
  refine (add_any g m f s x y w h hm hx hy).mono ?_
  rintro e w' ⟨rfl, rfl⟩
  exact ⟨rfl, 0, rfl⟩
theorem sub_q (g : Nat) (m f s x y : Int) (w : World) (h : Fld w g m f s) (hm : Ok m f s) (hx : 0 ≤ x) (hy : 0 ≤ y) :
    Calls Tryz.prog 96 #[.pointer (some ⟨g, 0, none⟩), .int .u64 x, .int .u64 y] w fun e w' => e = .returned (.int .u64 ((x - y) % m)) ∧ ∃ k, w' = w.drewN k := by
  refine (sub_any g m f s x y w h hm hx hy).mono ?_
  rintro e w' ⟨rfl, rfl⟩
  exact ⟨rfl, 0, rfl⟩
/-- the point at twice a place. -/
def pt (r k b : Nat) : Int := (r : Int) ^ rv k (2 * b)
theorem fmp_pt {p r k b : Nat} (hk : 0 < k) : fmp p r k b % p = pt r k b * 18446744073709551616 % p := by
  obtain ⟨k, rfl⟩ : ∃ j, k = j + 1 := ⟨k - 1, by omega⟩
  unfold fmp pt
  rw [rv_even, Int.emod_emod_of_dvd _ (Int.dvd_refl _)]
  rfl
theorem fmp_nn {p r k b : Nat} (hp : 0 < p) : 0 ≤ fmp p r k b ∧ fmp p r k b < p := ⟨Int.emod_nonneg _ (by omega), Int.emod_lt_of_pos _ (by omega)⟩
set_option maxHeartbeats 1600000 in
/-- the inverse of a point, in Montgomery's form. -/
theorem inverse_any (g gf gm p k r h b : Nat) (f s : Int) (OK : Ok p f s) (TO : TabOk p k r) (hh : h = 2 ^ k / 2) (hb : b < h) : ∃ v z : Int, (0 ≤ v ∧ v % p = z * 18446744073709551616 % p ∧ Cg p (pt r k b * z) 1) ∧ ∀ w, PlnF w g gf gm p k r h f s →
    Calls Tryz.prog 123 #[.pointer (some ⟨g, 0, none⟩), .int .i64 b] w fun e w' => e = .returned (.int .u64 v) ∧ ∃ c, w' = w.drewN c := by
  have p2 := TO.pri.1
  have k20 := TO.k20
  obtain ⟨k1, rfl⟩ : ∃ j, k = j + 1 := ⟨k - 1, by
    have : k ≠ 0 := by
      rintro rfl
      rw [hh] at hb
      simp at hb
    omega⟩
  have hh' : h = 2 ^ k1 := by rw [hh, Nat.pow_succ]; omega
  have l20 : 2 ^ k1 ≤ 2 ^ 19 := Nat.pow_le_pow_right (by decide) (by omega)
  by_cases b0 : b = 0
  · subst b0
    refine ⟨fmp p r (k1 + 1) 0, 1, ?_, fun w T => ?_⟩
    · show 0 ≤ fmp p r (k1 + 1) 0 ∧ fmp p r (k1 + 1) 0 % p = 1 * 18446744073709551616 % p ∧ Cg p (pt r (k1 + 1) 0 * 1) 1
      refine ⟨(fmp_nn (by omega)).1, ?_, ?_⟩
      · rw [fmp_pt (by omega)]
        unfold pt
        rw [rv_nil, Int.pow_zero]
      · unfold pt
        rw [rv_nil, Int.pow_zero]
        exact Cg.rfl
    have c0 := T.tc.cell0
    have c3 := T.tc.cell3
    have cm := T.row.cell (i := 0) hb
    have hb' : (0 : Int) < (h : Int) := by omega
    clear T
    generalize fmp p r (k1 + 1) 0 = v at *
    go_enter Tryz.func123, Tryz.ntmps123
    go_wp2
    go_ret
    exact ⟨rfl, 0, rfl⟩
  · obtain ⟨q, hq, hql⟩ := bl_low k1 b (by omega) (by omega) (by omega)
    have hb2 := (bl_said k1 b (by omega) (by omega)).1
    rw [hq, Nat.pow_succ] at hb2
    obtain ⟨t, rfl⟩ : ∃ t, b = 2 ^ q + t := ⟨b - 2 ^ q, by omega⟩
    have qk : q < k1 := by
      apply Nat.lt_of_not_le
      intro hle
      have : 2 ^ k1 ≤ 2 ^ q := Nat.pow_le_pow_right (by decide) hle
      omega
    have xf := xor_flip q t (by omega)
    have q62 : 2 ^ q ≤ 2 ^ 19 := Nat.pow_le_pow_right (by decide) (by omega)
    have l0 : 0 < 2 ^ q := Nat.two_pow_pos q
    have xi := xor_i64 (2 ^ q + t) (2 ^ q - 1) (by omega) (by omega)
    rw [xf] at xi
    have ll : 2 ^ q + (2 ^ q - 1 - t) < h := by
      have : 2 ^ (q + 1) ≤ 2 ^ k1 := Nat.pow_le_pow_right (by decide) (by omega)
      rw [Nat.pow_succ] at this
      omega
    have nn := (fmp_nn (p := p) (r := r) (k := k1 + 1) (b := 2 ^ q + (2 ^ q - 1 - t)) (by omega)).1
    refine ⟨(0 - fmp p r (k1 + 1) (2 ^ q + (2 ^ q - 1 - t))) % (p : Int), -pt r (k1 + 1) (2 ^ q + (2 ^ q - 1 - t)), ?_, fun w T => ?_⟩
    · refine ⟨Int.emod_nonneg _ (by omega), ?_, TO.rt.flip q t qk (by omega)⟩
      have h1 : Cg p (fmp p r (k1 + 1) (2 ^ q + (2 ^ q - 1 - t))) (pt r (k1 + 1) (2 ^ q + (2 ^ q - 1 - t)) * 18446744073709551616) := fmp_pt (by omega)
      have h2 := (Cg.rfl (p := p) (a := 0)).sub h1
      rw [Int.emod_emod_of_dvd _ (Int.dvd_refl _), Int.neg_mul]
      rw [Int.zero_sub (pt r (k1 + 1) (2 ^ q + (2 ^ q - 1 - t)) * 18446744073709551616)] at h2
      exact h2
    have c0 := T.tc.cell0
    have c3 := T.tc.cell3
    have cm := T.row.cell (i := 2 ^ q + (2 ^ q - 1 - t)) ll
    have SU := hid (fun c => sub_q gf p f s 0 (fmp p r (k1 + 1) (2 ^ q + (2 ^ q - 1 - t))) (w.drewN c) (T.fld.drew c) OK (Int.le_refl 0) nn)
    have BL := hid (blen_any (2 ^ q + t) w (by omega))
    rw [hq] at BL
    have sq : ((q : Int) + 1 - 1) = (q : Int) := by omega
    have e2 : (2 : Int) ^ q = ((2 ^ q : Nat) : Int) := (Int.natCast_pow 2 q).symm
    have e3 : ((2 ^ q : Nat) : Int) - 1 = ((2 ^ q - 1 : Nat) : Int) := by omega
    have n0 : (((2 ^ q + t : Nat) : Int) == 0) = false := beq_eq_false_iff_ne.2 (by omega)
    have w1 : IntKind.u64.wrap ((2 ^ q + t : Nat) : Int) = ((2 ^ q + t : Nat) : Int) := by rw [IntKind.wrap_u64]; omega
    have ll' : ((2 ^ q + (2 ^ q - 1 - t) : Nat) : Int) < (h : Int) := by omega
    clear T hh hh' OK TO xf hql hb2
    generalize 2 ^ q = Q at *
    have w2 : IntKind.i64.wrap ((Q - 1 : Nat) : Int) = ((Q - 1 : Nat) : Int) := by rw [IntKind.wrap_i64]; omega
    have w3 : IntKind.i64.wrap (Q : Int) = (Q : Int) := by rw [IntKind.wrap_i64]; omega
    generalize Q + (Q - 1 - t) = j at *
    generalize Q + t = b at *
    generalize Q - 1 = Q1 at *
    generalize fmp p r (k1 + 1) j = v at *
    go_enter Tryz.func123, Tryz.ntmps123
    go_wp2_with fail
    refine BL.out.mono ?_
    rintro e w3 ⟨rfl, hw⟩
    obtain rfl := hw.symm
    go_wp2_with fail
    go_quiet ((go_at_call 96; exact Calls.quiet_of (SU.out _)))
    rename_i nq
    go_wp2
    go_ret
    exact ⟨rfl, nq, rfl⟩
end Go.Proofs.YtocfenjampmdlaaGreatDoor
namespace Go.Proofs.YtocfenjampmdlaaGreatDoor
section
variable {P : Program} {C : World → Prop} {Q : Exit → Act → World → Prop}

/-- does it wait for nothing? -/
def freeB (o : Oper) : Bool := o.after.all fun e => !Region.binds .any e
theorem freeB_said {o : Oper} (h : freeB o = true) : ∀ e ∈ o.after, Region.binds .any e = true → False := fun e he hb => by
  have := Array.all_eq_true_iff_forall_mem.1 h e he
  rw [hb] at this
  cases this
theorem wp_region_tail4 (n : Nat) {id : Nat} {a : Act} {w : World} {o0 o1 o2 o3 : Oper} {l : List Oper} (x0 x1 x2 x3 : Operand) (hx0 : o0.op = .move x0) (hx1 : o1.op = .move x1) (hx2 : o2.op = .move x2) (hx3 : o3.op = .move x3)
    (hg0 : o0.guard = none) (hg1 : o1.guard = none) (hg2 : o2.guard = none) (hg3 : o3.guard = none) (hQ0 : ∀ c a w v, Q (.panic c) (a.put o0.dst v) w → Q (.panic c) a w) (hQ1 : ∀ c a w v, Q (.panic c) (a.put o1.dst v) w → Q (.panic c) a w) (hQ2 : ∀ c a w v, Q (.panic c) (a.put o2.dst v) w → Q (.panic c) a w) (hQ3 : ∀ c a w v, Q (.panic c) (a.put o3.dst v) w → Q (.panic c) a w)
    (hm : P.follows .mixedOrders = true) (hs : Region.noSelect (o0 :: o1 :: o2 :: o3 :: l).toArray = true) (hs' : Region.noSelect (stillFrom (n + 4) (o0 :: o1 :: o2 :: o3 :: l)).toArray = true)
    (hf0 : Region.free .any (o0 :: o1 :: o2 :: o3 :: l).toArray (Array.replicate (l.length + 4) false) 0 = true) (hr0 : (Region.ready .any (o0 :: o1 :: o2 :: o3 :: l).toArray (Array.replicate (l.length + 4) false)).contains 0 = true)
    (hf1 : Region.free .any (o0 :: o1 :: o2 :: o3 :: l).toArray ((Array.replicate (l.length + 4) false).setIfInBounds 0 true) 1 = true) (hr1 : (Region.ready .any (o0 :: o1 :: o2 :: o3 :: l).toArray ((Array.replicate (l.length + 4) false).setIfInBounds 0 true)).contains 1 = true)
    (hf2 : Region.free .any (o0 :: o1 :: o2 :: o3 :: l).toArray (((Array.replicate (l.length + 4) false).setIfInBounds 0 true).setIfInBounds 1 true) 2 = true) (hr2 : (Region.ready .any (o0 :: o1 :: o2 :: o3 :: l).toArray (((Array.replicate (l.length + 4) false).setIfInBounds 0 true).setIfInBounds 1 true)).contains 2 = true)
    (hf3 : Region.free .any (o0 :: o1 :: o2 :: o3 :: l).toArray ((((Array.replicate (l.length + 4) false).setIfInBounds 0 true).setIfInBounds 1 true).setIfInBounds 2 true) 3 = true) (hr3 : (Region.ready .any (o0 :: o1 :: o2 :: o3 :: l).toArray ((((Array.replicate (l.length + 4) false).setIfInBounds 0 true).setIfInBounds 1 true).setIfInBounds 2 true)).contains 3 = true)
    (ha0 : freeB o0 = true) (ha1 : freeB o1 = true) (ha2 : freeB o2 = true) (ha3 : freeB o3 = true)
    (hB : Region.lexFrom .any (stillFrom (n + 4) (o0 :: o1 :: o2 :: o3 :: l)).toArray l.length 4 (((((Array.replicate (l.length + 4) false).setIfInBounds 0 true).setIfInBounds 1 true).setIfInBounds 2 true).setIfInBounds 3 true) = true) (hb : backB 0 (o0 :: o1 :: o2 :: o3 :: l) = true) (ht : tailB 4 (n + 4) (o0 :: o1 :: o2 :: o3 :: l) = true) (hn : n < l.length)
    (a1 a2 a3 a4 : Act) (e1 : a1 = a.put o0.dst (a.eval x0)) (e2 : a2 = a1.put o1.dst (a1.eval x1)) (e3 : a3 = a2.put o2.dst (a2.eval x2)) (e4 : a4 = a3.put o3.dst (a3.eval x3))
    (h : wpQuiet P (stillFrom (n + 4) (o0 :: o1 :: o2 :: o3 :: l)).toArray (fun w' => ∃ m, w' = w.drewN m) (fun a' => ∀ w', (∃ m, w' = w.drewN m) → wpList P (o0 :: o1 :: o2 :: o3 :: l).toArray Q (l.drop n) a' w') (stillFrom n l) a4) : (Code.region id (o0 :: o1 :: o2 :: o3 :: l).toArray true).wp P Q a w := by
  refine wp_region_any hm ?_
  show wpAny P .any (o0 :: o1 :: o2 :: o3 :: l).toArray Q (l.length + 4) (Array.replicate (l.length + 4) false) a _
  refine wpAny_take (i := 0) (oi := o0) (v := a.eval x0) rfl hs hf0 hr0 (fun c a w => hQ0 c a w _) (Or.inl ⟨by unfold Region.wanted; rw [hg0], fun w => BigFrame.run_move x0 hx0 w⟩) ?_
  rw [← e1]
  refine wpAny_take (i := 1) (oi := o1) (v := a1.eval x1) rfl hs hf1 hr1 (fun c a w => hQ1 c a w _) (Or.inl ⟨by unfold Region.wanted; rw [hg1], fun w => BigFrame.run_move x1 hx1 w⟩) ?_
  rw [← e2]
  refine wpAny_take (i := 2) (oi := o2) (v := a2.eval x2) rfl hs hf2 hr2 (fun c a w => hQ2 c a w _) (Or.inl ⟨by unfold Region.wanted; rw [hg2], fun w => BigFrame.run_move x2 hx2 w⟩) ?_
  rw [← e3]
  refine wpAny_take (i := 3) (oi := o3) (v := a3.eval x3) rfl hs hf3 hr3 (fun c a w => hQ3 c a w _) (Or.inl ⟨by unfold Region.wanted; rw [hg3], fun w => BigFrame.run_move x3 hx3 w⟩) ?_
  rw [← e4]
  have gd : ∀ j, 4 ≤ j → j < l.length + 4 → (((((Array.replicate (l.length + 4) false).setIfInBounds 0 true).setIfInBounds 1 true).setIfInBounds 2 true).setIfInBounds 3 true).getD j true = false := fun j h4 hj => by
    rw [getD_set_ne true (by omega), getD_set_ne true (by omega), getD_set_ne true (by omega), getD_set_ne true (by omega)]
    simp [Array.getD, hj]
  refine any_of_tail (C := fun w' => ∃ m, w' = w.drewN m) hb ht (by omega) (by simp; omega) _ _ _ _ ⟨1, rfl⟩ ?_ (by simp) (fun j hj _ => ?_) (fun j hj hj2 => ?_) ?_ ?_
  · intro j oj hoj hl e he hbe
    have hj : j < l.length + 4 := by simpa using (List.getElem?_eq_some_iff.1 hoj).1
    rcases (show j = 0 ∨ j = 1 ∨ j = 2 ∨ j = 3 ∨ 4 ≤ j by omega) with rfl | rfl | rfl | rfl | h4
    · obtain rfl : o0 = oj := by simpa using hoj
      exact (freeB_said ha0 e he hbe).elim
    · obtain rfl : o1 = oj := by simpa using hoj
      exact (freeB_said ha1 e he hbe).elim
    · obtain rfl : o2 = oj := by simpa using hoj
      exact (freeB_said ha2 e he hbe).elim
    · obtain rfl : o3 = oj := by simpa using hoj
      exact (freeB_said ha3 e he hbe).elim
    · rw [gd j h4 hj] at hl
      cases hl
  · rcases (show j = 0 ∨ j = 1 ∨ j = 2 ∨ j = 3 by omega) with rfl | rfl | rfl | rfl <;> simp [Array.getD]
  · exact gd j (by omega) (by simpa using hj2)
  · have u0 : (Array.replicate (l.length + 4) false).getD 0 true = false := by simp [Array.getD]
    have u1 : ((Array.replicate (l.length + 4) false).setIfInBounds 0 true).getD 1 true = false := by rw [getD_set_ne true (by omega)]; simp [Array.getD]
    have u2 : (((Array.replicate (l.length + 4) false).setIfInBounds 0 true).setIfInBounds 1 true).getD 2 true = false := by rw [getD_set_ne true (by omega), getD_set_ne true (by omega)]; simp [Array.getD]
    have u3 : ((((Array.replicate (l.length + 4) false).setIfInBounds 0 true).setIfInBounds 1 true).setIfInBounds 2 true).getD 3 true = false := by rw [getD_set_ne true (by omega), getD_set_ne true (by omega), getD_set_ne true (by omega)]; simp [Array.getD]
    have v0 := unl_set (n := (o0 :: o1 :: o2 :: o3 :: l).length) (i := 0) (by simp) u0
    have v1 := unl_set (n := (o0 :: o1 :: o2 :: o3 :: l).length) (i := 1) (by simp) u1
    have v2 := unl_set (n := (o0 :: o1 :: o2 :: o3 :: l).length) (i := 2) (by simp) u2
    have v3 := unl_set (n := (o0 :: o1 :: o2 :: o3 :: l).length) (i := 3) (by simp) u3
    have v4 : unl (o0 :: o1 :: o2 :: o3 :: l).length (Array.replicate (l.length + 4) false) ≤ l.length + 4 := by
      unfold unl
      exact Nat.le_trans (List.length_filter_le _ _) (by simp)
    omega
  · have := wpAnyQ_lex (P := P) (C := fun w' => ∃ m, w' = w.drewN m) (md := .any) hs' (stillFrom n l) 4 (((((Array.replicate (l.length + 4) false).setIfInBounds 0 true).setIfInBounds 1 true).setIfInBounds 2 true).setIfInBounds 3 true) a4 (fun j => by
      simp only [stillFrom, List.getElem?_toArray]
      rw [Nat.add_comm 4 j]
      rfl) (by rw [stillFrom_len]; exact hB) h
    rw [stillFrom_len] at this
    exact this
end
end Go.Proofs.YtocfenjampmdlaaGreatDoor
