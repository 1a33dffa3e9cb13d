/- What firstError, apart and Invs answer. -/
import Derived.Test.YtanlnmmeinmceaaWw
import Derived.Laws.CopyOwn
namespace Go.Proofs.Ytanlnmmeinmceaa
open Go.RowKit Num

/-- 'v' is a slice of the n words x. -/
def Wl (w : World) (v : Value) (n : Nat) (x : Nat → Int) : Prop :=
  ∃ ao cap, v = .slice ao n cap ∧ n ≤ cap ∧ cap ≤ 9223372036854775807 ∧ (∀ j, j < n → 0 ≤ x j ∧ x j ≤ 18446744073709551615) ∧
    (0 < n → ∃ b off, ao = some ⟨b, off, none⟩ ∧ b < w.heap.size ∧ ∀ j, j < n → w.cell? ⟨b, off + j, none⟩ = some (.int .u64 (x j)))
theorem Wl.below {w w' : World} {v : Value} {n : Nat} {x : Nat → Int} (h : Wl w v n x) (hb : Below w.heap.size w w') : Wl w' v n x := by
  obtain ⟨ao, cap, rfl, h1, h2, h3, h5⟩ := h
  refine ⟨ao, cap, rfl, h1, h2, h3, fun hn => ?_⟩
  obtain ⟨b, off, rfl, hbs, hc⟩ := h5 hn
  refine ⟨b, off, rfl, Nat.lt_of_lt_of_le hbs hb.size, fun j hj => ?_⟩
  rw [hb.cell (p := ⟨b, off + j, none⟩) hbs]; exact hc j hj
/-- the first error of the Invs of all. -/
def Fe (x : Nat → Int) (m : Int) (n : Nat) (E : Int) : Prop := (∃ j, j < n ∧ ec (x j) m = E ∧ E ≠ 0 ∧ ∀ i, i < j → ec (x i) m = 0) ∨ (E = 0 ∧ ∀ j, j < n → ec (x j) m = 0)
set_option maxHeartbeats 800000 in
theorem first_any (g : Nat) (m f s : Int) (v : Value) (n : Nat) (x : Nat → Int) (w : World) (h : Fld w g m f s) (hm : Ok m f s) (hl : Wl w v n x) :
    Calls Try.prog 35 #[.pointer (some ⟨g, 0, none⟩), v] w fun e w' => (∃ E, e = .returned (.int .i64 E) ∧ Fe x m n E) ∧ w' = w := by
  obtain ⟨ao, cap, rfl, h1, h2, h3, h5⟩ := hl
  have FF := hid h
  have OO := hid hm
  have H3 := hid h3
  have H5 := hid h5
  clear h hm h3 h5
  go_enter Try.func35, Try.ntmps35
  go_wp2
  go_loop [11] (fun iv => ∃ k : Nat, k ≤ n ∧ iv = .int .i64 k ∧ Hid (∀ i, i < k → ec (x i) m = 0)) (fun iv => ((n : Int) - intOf iv).toNat)
  case atStart => exact ⟨0, Nat.zero_le _, rfl, fun i hi => absurd hi (by omega)⟩
  case round =>
    obtain ⟨k, hk, rfl, HK⟩ := hrel
    by_cases hn : k = n
    · subst hn
      go_wp2
      go_ret
      exact ⟨⟨0, rfl, Or.inr ⟨rfl, HK.out⟩⟩, rfl⟩
    · have hkn : (k : Int) < n := by omega
      obtain ⟨b, off, rfl, hbs, hc⟩ := H5.out (by omega)
      have ck := hc k (by omega)
      obtain ⟨x0, x1⟩ := H3.out k (by omega)
      clear hc
      go_wp2_with fail
      refine (inv_any g m f s (x k) _ FF.out OO.out x0).mono ?_
      rintro e w2 ⟨⟨y, rfl, I⟩, rfl⟩
      clear I
      by_cases he : ec (x k) m = 0
      · rw [he]
        go_wp2
        refine ⟨⟨k + 1, by omega, rfl, fun i hi => ?_⟩, by simp only [intOf]; omega⟩
        by_cases hik : i = k
        · subst hik; exact he
        · exact HK.out i (by omega)
      · have FE : Hid (Fe x m n (ec (x k) m)) := Or.inl ⟨k, by omega, rfl, he, HK.out⟩
        have he' : (ec (x k) m != 0) = true := by simp [he]
        clear he HK
        generalize ec (x k) m = E at *
        go_wp2
        go_ret
        exact ⟨⟨E, rfl, FE.out⟩, rfl⟩
/-- the product of the first k. -/
def pp (x : Nat → Int) : Nat → Int
  | 0 => 1
  | k + 1 => pp x k * x k
theorem pp_nonneg {x : Nat → Int} : ∀ k, (∀ j, j < k → 0 ≤ x j) → 0 ≤ pp x k
  | 0, _ => by simp [pp]
  | k + 1, h => Int.mul_nonneg (pp_nonneg k (fun j hj => h j (by omega))) (h k (by omega))
theorem gc_eq {a m : Int} (ha : 0 ≤ a) (hm : 0 < m) : gc a m = Nat.gcd m.toNat a.toNat := by
  unfold gc
  rw [Int.toNat_emod ha (by omega), Nat.gcd_comm, ← Nat.gcd_rec]
theorem gc_pp {x : Nat → Int} {m : Int} (hm : 2 ≤ m) : ∀ k, (∀ j, j < k → 0 ≤ x j) → (gc (pp x k) m = 1 ↔ ∀ j, j < k → gc (x j) m = 1)
  | 0, _ => by
    refine ⟨fun _ j hj => absurd hj (by omega), fun _ => ?_⟩
    rw [gc_eq (by simp [pp]) (by omega)]; simp [pp]
  | k + 1, h => by
    have h0 := pp_nonneg k (fun j hj => h j (by omega))
    have h1 := h k (by omega)
    have ih := gc_pp (x := x) hm k (fun j hj => h j (by omega))
    rw [show pp x (k + 1) = pp x k * x k from rfl, gc_eq (Int.mul_nonneg h0 h1) (by omega)]
    rw [Int.toNat_mul h0 h1]
    have hc := Nat.coprime_mul_iff_right (k := m.toNat) (m := (pp x k).toNat) (n := (x k).toNat)
    unfold Nat.Coprime at hc
    rw [hc, ← gc_eq h0 (by omega), ← gc_eq h1 (by omega), ih]
    constructor
    · rintro ⟨a, b⟩ j hj
      by_cases e : j = k
      · subst e; exact b
      · exact a j (by omega)
    · intro a
      exact ⟨fun j hj => a j (by omega), a k (by omega)⟩
theorem ec_iff {a m : Int} (hm : 2 ≤ m) : ec a m = 0 ↔ gc a m = 1 := ⟨ec_zero, ec_pos a hm⟩
/-- block g holds n words x. -/
def Row (w : World) (g n : Nat) (x : Nat → Int) : Prop :=
  ∃ cur : Array Value, w.heap[g]? = some (.cells cur 22 (0, 0)) ∧ cur.size = n ∧ ∀ j, j < n → cur[j]? = some (.int .u64 (x j))
theorem Row.cell {w : World} {g n : Nat} {x : Nat → Int} (h : Row w g n x) {i : Nat} (hi : i < n) : w.cell? ⟨g, i, none⟩ = some (.int .u64 (x i)) := by
  obtain ⟨cur, hg, _, hc⟩ := h
  simp [World.cell?, hg, hc i hi]
theorem Row.frozen {w : World} {g n : Nat} {x : Nat → Int} (h : Row w g n x) (i : Nat) : w.frozen? ⟨g, i, none⟩ = false := by
  obtain ⟨cur, hg, _, hc⟩ := h
  simp [World.frozen?, hg]
theorem Row.set {w : World} {g n : Nat} {x y : Nat → Int} (h : Row w g n x) (i : Nat) (v : Int) (e : ∀ j, j < n → y j = if j = i then v else x j) : Row (w.setCell ⟨g, i, none⟩ (.int .u64 v)) g n y := by
  obtain ⟨cur, hg, hs, hc⟩ := h
  refine ⟨cur.setIfInBounds i (.int .u64 v), ?_, by simpa using hs, fun j hj => ?_⟩
  · rw [heap_setCell_same w g i cur 22 _ hg]
  · rw [e j hj]
    by_cases e : j = i
    · subst e; rw [Array.getElem?_setIfInBounds]; simp [hs, hj]
    · rw [Array.getElem?_setIfInBounds]; simp [Ne.symm e, e, hc j hj]
theorem Row.drew {w : World} {g n : Nat} {x : Nat → Int} (h : Row w g n x) (k : Nat) : Row (w.drewN k) g n x := by
  obtain ⟨cur, hg, hs, hc⟩ := h
  exact ⟨cur, by simpa using hg, hs, hc⟩
theorem Row.below {B : Nat} {w w' : World} {g n : Nat} {x : Nat → Int} (h : Row w g n x) (hb : Below B w w') (hg : g < B) : Row w' g n x := by
  obtain ⟨cur, h1, h2, h3⟩ := h
  exact ⟨cur, by rw [hb.block g hg]; exact h1, h2, h3⟩
theorem Row.lt {w : World} {g n : Nat} {x : Nat → Int} (h : Row w g n x) : g < w.heap.size := by
  obtain ⟨cur, hg, _⟩ := h
  exact (Array.getElem?_eq_some_iff.1 hg).1
theorem Fld.other {w : World} {g r : Nat} {m f s : Int} (h : Fld w g m f s) (hg : g ≠ r) (i : Nat) (v : Value) : Fld (w.setCell ⟨r, i, none⟩ v) g m f s := by
  unfold Fld; rw [heap_setCell_other w ⟨r, i, none⟩ g v hg]; exact h
theorem Try.infoU : (Try.prog.info? 22).map (fun i => (i.zero, i.size, i.bytes)) = some (some (.int .u64 0), 1, 8) := by kernel_rfl
theorem Row.new (w : World) (n : Nat) : Row (w.alloc (.cells (madeCells #[.int .u64 0] (n * 1)) 22)) w.heap.size n (fun _ => 0) := by
  refine ⟨madeCells #[.int .u64 0] (n * 1), ?_, by simp [size_madeCells], fun j hj => ?_⟩
  · exact heap_alloc_new w _
  · simp [madeCells, hj, Nat.mod_one]
theorem wp_make {ops : Array Oper} {rest : List Oper} {o : Oper} {a : Act} {Q : Exit → Act → World → Prop} (w : World) (hg : o.guard = none) (l c : Operand) (hop : o.op = Op.makeSlice 36 l c)
    (L C : Int) (n : Nat) (hl : a.eval l = .int .i64 L) (hc : a.eval c = .int .i64 C) (hL : L = (n : Int)) (hC : C = (n : Int)) (hn : n ≤ 1000000000)
    (hK : ∀ w', Row w' w.heap.size n (fun _ => 0) → Below w.heap.size w w' → w'.heap.size = w.heap.size + 1 → wpList Try.prog ops Q rest (a.put o.dst (.slice (some ⟨w.heap.size, 0, none⟩) n n)) w') :
    wpList Try.prog ops Q (o :: rest) a w := by
  obtain ⟨i0, hi, hz0, hz1, hz2⟩ := info_parts Try.infoU
  refine wpList_plain hg fun K hK' => ?_
  have hr := run_make (P := Try.prog) w 36 22 i0 (.int .u64 0) Try.underlying36 hi hz0 .i64 .i64 n n (by omega) (Int.le_refl _) (by rw [hz2]; omega) (by omega)
  simp only [Int.toNat_natCast] at hr
  rw [hz1] at hr
  subst hL; subst hC
  unfold Oper.wp
  simp [execOp, hop, hl, hc, hr, Result.andThen]
  refine hK' _ _ (hK _ ?_ ?_ ?_)
  · have := Row.new w n
    rw [Nat.mul_one] at this
    exact this
  · exact (Below.refl _ _).alloc (Nat.le_refl _) _
  · simp
/-- what 'apart' has done when it stands at k. -/
structure Ap (x : Nat → Int) (m : Int) (n k : Nat) (inv : Int) (y : Nat → Int) : Prop where
  i0 : 0 ≤ inv
  im : inv < m
  ie : pp x k * inv % m = 1
  lo : ∀ j, j < k → y j = pp x j % m
  hi : ∀ j, k ≤ j → j < n → 0 ≤ y j ∧ y j < m ∧ x j * y j % m = 1
theorem Ap.step {x : Nat → Int} {m : Int} {n k : Nat} {inv : Int} {y : Nat → Int} (h : Ap x m n (k + 1) inv y) (hm : 2 ≤ m) : Ap x m n k (inv * x k % m) (fun j => if j = k then y k * inv % m else y j) := by
  have a := md_lt (inv * x k) (show 0 < m by omega)
  have b := md_lt (y k * inv) (show 0 < m by omega)
  refine ⟨a.1, a.2, ?_, fun j hj => ?_, fun j h1 h2 => ?_⟩
  · rw [md_right]
    have : pp x k * (inv * x k) = pp x (k + 1) * inv := by simp only [pp]; grind
    rw [this]; exact h.ie
  · show (if j = k then _ else _) = _
    rw [if_neg (by omega)]; exact h.lo j (by omega)
  · show 0 ≤ (if j = k then _ else _) ∧ (if j = k then _ else _) < m ∧ x j * (if j = k then _ else _) % m = 1
    by_cases e : j = k
    · subst e
      rw [if_pos rfl]
      refine ⟨b.1, b.2, ?_⟩
      rw [md_right, h.lo j (by omega)]
      have e1 : x j * (pp x j % m * inv) = pp x j % m * (x j * inv) := by grind
      rw [e1, md_left]
      have : pp x j * (x j * inv) = pp x (j + 1) * inv := by simp only [pp]; grind
      rw [this]; exact h.ie
    · rw [if_neg e]; exact h.hi j (by omega) h2
set_option maxHeartbeats 1600000 in
theorem apart_any (g : Nat) (m f s : Int) (r : Nat) (v : Value) (n : Nat) (x y : Nat → Int) (inv : Int) (w : World) (h : Fld w g m f s) (hm : Ok m f s) (hl : Wl w v n x) (hr : Row w r n y) (hgr : g < r)
    (hlr : 0 < n → ∀ ao c, v = .slice ao n c → ∀ a, ao = some a → a.block < r) (hn : n ≤ 9223372036854775807) (ha : Ap x m n n inv y) :
    Calls Try.prog 36 #[.pointer (some ⟨g, 0, none⟩), .slice (some ⟨r, 0, none⟩) n n, v, .int .u64 inv] w fun e w' =>
      e = .returned (.slice (some ⟨r, 0, none⟩) n n) ∧ Below r w w' ∧ ∃ y' inv', Row w' r n y' ∧ Ap x m n 0 inv' y' := by
  obtain ⟨ao, cap, rfl, h1, h2, h3, h5⟩ := hl
  have FF := hid h
  have OO := hid hm
  have H3 := hid h3
  have H5 := hid h5
  have HL := hid (fun h => hlr h ao cap rfl)
  have RR := hid hr
  have AA := hid ha
  clear h hm h3 h5 hr ha hlr
  go_enter Try.func36, Try.ntmps36
  go_wp2
  go_loopw [3, 9] (fun nv iv wr => ∃ (k : Nat) (q : Int) (z : Nat → Int), k ≤ n ∧ nv = .int .u64 q ∧ iv = .int .i64 ((k : Int) - 1) ∧ Hid (Ap x m n k q z ∧ Row wr r n z ∧ Below r w wr)) (fun _ iv _ => (intOf iv + 1).toNat)
  case atStart => exact ⟨n, inv, y, Nat.le_refl _, rfl, rfl, AA.out, RR.out, Below.refl _ _⟩
  case round =>
    obtain ⟨k, q, z, hk, rfl, rfl, HH⟩ := hrel
    cases k with
    | zero =>
      go_wp2
      go_ret
      exact ⟨rfl, HH.out.2.2, z, q, HH.out.2.1, HH.out.1⟩
    | succ k =>
      obtain ⟨b, off, rfl, hbs, hc⟩ := H5.out (by omega)
      have hbr := HL.out (by omega) _ rfl
      have ck : wr.cell? ⟨b, off + k, none⟩ = some (.int .u64 (x k)) := by rw [HH.out.2.2.cell (p := ⟨b, off + k, none⟩) hbr]; exact hc k (by omega)
      have rk := HH.out.2.1.cell (i := k) (by omega)
      have rf := HH.out.2.1.frozen k
      have FW := hid (FF.out.below HH.out.2.2 hgr)
      obtain ⟨x0, x1⟩ := H3.out k (by omega)
      have ST := hid (HH.out.1.step OO.out.h2)
      have q0 := HH.out.1.i0
      have z0 : 0 ≤ z k := by rw [HH.out.1.lo k (by omega)]; exact (md_lt _ (by have := OO.out.h2; omega)).1
      have R2 := hid HH.out.2.1
      have B2 := hid HH.out.2.2
      have hbr' : b ≠ r := by have : b < r := hbr; omega
      clear hc HH hbr
      go_wp2_with fail
      refine (mul_any g m f s (z k) q _ FW.out OO.out z0 q0).mono ?_
      rintro e w2 ⟨rfl, k1, rfl⟩
      go_wp2_with fail
      refine (mul_any g m f s q (x k) _ ((FW.out.drew k1).other (by omega) _ _) OO.out q0 x0).mono ?_
      rintro e w3 ⟨rfl, k2, rfl⟩
      generalize q * x k % m = q' at *
      go_wp2
      refine ⟨⟨k, q', _, by omega, rfl, by congr 1, ST.out, ((R2.out.drew k1).set k _ (fun j hj => rfl)).drew k2, below_drewN (below_set (below_drewN B2.out k1) (Nat.le_refl _) k _) k2⟩, by simp only [intOf]; omega⟩
theorem pp_one {m : Int} (hm : 2 ≤ m) (x : Nat → Int) : pp x 0 % m = 1 := Int.emod_eq_of_lt (by simp [pp]) (by show (1 : Int) < m; omega)
set_option maxHeartbeats 1600000 in
theorem invs_any (g : Nat) (m f s : Int) (v : Value) (n : Nat) (x : Nat → Int) (w : World) (h : Fld w g m f s) (hm : Ok m f s) (hl : Wl w v n x) (hn : n ≤ 100) :
    Calls Try.prog 22 #[.pointer (some ⟨g, 0, none⟩), v] w fun e w' => Below w.heap.size w w' ∧
      ((∃ r y, e = .returned (.tuple #[.slice (some ⟨r, 0, none⟩) n n, .int .i64 0]) ∧ Row w' r n y ∧ (∀ j, j < n → 0 ≤ y j ∧ y j < m ∧ x j * y j % m = 1) ∧ ∀ j, j < n → ec (x j) m = 0) ∨
       (∃ E, e = .returned (.tuple #[.slice none 0 0, .int .i64 E]) ∧ E ≠ 0 ∧ Fe x m n E)) := by
  have HW := hid hl
  obtain ⟨ao, cap, rfl, h1, h2, h3, h5⟩ := hl
  have FF := hid h
  have OO := hid hm
  have H3 := hid h3
  have H5 := hid h5
  clear h hm h3 h5
  have e1 : ec (pp x n % m) m = ec (pp x n) m := by unfold ec gc; rw [Int.emod_emod]
  go_enter Try.func22, Try.ntmps22
  go_wp2_with (at_make; refine wp_make _ rfl _ _ rfl _ _ n rfl rfl (by omega) (by omega) (by omega) ?_; intro w1 R1 B1 Z1; have HR := hid R1; have HB := hid B1; have HZ := hid Z1; clear R1 B1 Z1)
  go_loopw [7, 19] (fun pv iv wr => ∃ (k : Nat) (z : Nat → Int), k ≤ n ∧ pv = .int .u64 (pp x k % m) ∧ iv = .int .i64 k ∧ Hid (Row wr w.heap.size n z ∧ Below w.heap.size w wr ∧ w.heap.size < wr.heap.size ∧ ∀ j, j < k → z j = pp x j % m)) (fun _ iv _ => ((n : Int) - intOf iv).toNat)
  case atStart => exact ⟨0, fun _ => 0, Nat.zero_le _, by rw [pp_one OO.out.h2], rfl, HR.out, HB.out, by rw [HZ.out]; omega, fun j hj => absurd hj (by omega)⟩
  case round =>
    obtain ⟨k, z, hk, rfl, rfl, HH⟩ := hrel
    clear HR HB HZ
    have hp0 := (md_lt (pp x k) (show 0 < m by have := OO.out.h2; omega)).1
    by_cases hkn : k = n
    · subst hkn
      have FW := hid (FF.out.below HH.out.2.1 FF.out.lt)
      go_wp2_with fail
      refine (inv_any g m f s (pp x k % m) _ FW.out OO.out hp0).mono ?_
      rintro e w2 ⟨⟨y, rfl, I⟩, rfl⟩
      have J := hid I
      clear I
      rw [e1]
      have hpos : ∀ j, j < k → 0 ≤ x j := fun j hj => (H3.out j hj).1
      by_cases he : ec (pp x k) m = 0
      · have hall := (gc_pp OO.out.h2 k hpos).1 ((ec_iff OO.out.h2).1 he)
        obtain ⟨y0, ym, yi⟩ := J.out.good (by rw [e1]; exact he)
        rw [md_left] at yi
        have AP : Hid (Ap x m k k y z) := ⟨y0, ym, yi, HH.out.2.2.2, fun j h1 h2 => absurd h1 (by omega)⟩
        have EC := hid (fun j (hj : j < k) => (ec_iff OO.out.h2).2 (hall j hj))
        have A := hid (apart_any g m f s w.heap.size (.slice ao k cap) k x z y w2 FW.out OO.out (HW.out.below HH.out.2.1) HH.out.1 FF.out.lt (fun h ao' c' e a ea => by
          obtain ⟨b, off, hb, hbs, _⟩ := H5.out h
          cases e
          rw [hb] at ea
          cases ea
          exact hbs) (by omega) AP.out)
        rw [he]
        clear yi e1 hall he J
        go_wp2_with fail
        refine A.out.mono ?_
        rintro e w3 ⟨rfl, B, y', q', R', A'⟩
        have BB := hid (HH.out.2.1.trans B)
        have RR := hid R'
        have AA := hid A'
        clear B R' A'
        go_wp2
        go_ret2
        exact ⟨BB.out, Or.inl ⟨w.heap.size, y', rfl, RR.out, fun j hj => AA.out.hi j (by omega) hj, EC.out⟩⟩
      · have FE := hid (first_any g m f s (.slice ao k cap) k x w2 FW.out OO.out (HW.out.below HH.out.2.1))
        have NE : Hid (∀ E, Fe x m k E → E ≠ 0) := by
          rintro E (⟨j, hj, _, h0, _⟩ | ⟨rfl, hz⟩)
          · exact h0
          · exact absurd ((ec_iff OO.out.h2).2 ((gc_pp OO.out.h2 k hpos).2 (fun j hj => (ec_iff OO.out.h2).1 (hz j hj)))) he
        have he' : (ec (pp x k) m != 0) = true := by simp [he]
        clear he J e1
        generalize ec (pp x k) m = E0 at *
        go_wp2_with fail
        refine FE.out.mono ?_
        rintro e w3 ⟨⟨E, rfl, hE⟩, rfl⟩
        have HE := hid hE
        clear hE
        go_wp2
        go_ret2
        exact ⟨HH.out.2.1, Or.inr ⟨E, rfl, NE.out E HE.out, HE.out⟩⟩
    · have hk' : (k : Int) < n := by omega
      obtain ⟨b, off, rfl, hbs, hc⟩ := H5.out (by omega)
      have ck : wr.cell? ⟨b, off + k, none⟩ = some (.int .u64 (x k)) := by rw [HH.out.2.1.cell (p := ⟨b, off + k, none⟩) hbs]; exact hc k (by omega)
      have rk := HH.out.1.cell (i := k) (by omega)
      have rf := HH.out.1.frozen k
      have FW := hid ((FF.out.below HH.out.2.1 FF.out.lt).other (r := w.heap.size) (by have := FF.out.lt; omega) k (.int .u64 (pp x k % m)))
      obtain ⟨x0, x1⟩ := H3.out k (by omega)
      have hbr : b ≠ w.heap.size := by omega
      have EM : Hid (pp x k % m * x k % m = pp x (k + 1) % m) := md_left _ _ _
      clear hc e1
      generalize hq : pp x k % m = q at *
      go_wp2_with fail
      refine (mul_any g m f s q (x k) _ FW.out OO.out hp0 x0).mono ?_
      rintro e w2 ⟨rfl, k1, rfl⟩
      rw [EM.out]
      go_wp2
      refine ⟨⟨k + 1, (fun j => if j = k then q else z j), by omega, rfl, rfl, (HH.out.1.set k q (fun j hj => rfl)).drew k1, below_drewN (below_set HH.out.2.1 (Nat.le_refl _) k _) k1, by simpa [World.setCell] using HH.out.2.2.1, fun j hj => ?_⟩, by simp only [intOf]; omega⟩
      show (if j = k then q else z j) = _
      by_cases e : j = k
      · subst e; rw [if_pos rfl]; exact hq.symm
      · rw [if_neg e]; exact HH.out.2.2.2 j (by omega)
end Go.Proofs.Ytanlnmmeinmceaa
