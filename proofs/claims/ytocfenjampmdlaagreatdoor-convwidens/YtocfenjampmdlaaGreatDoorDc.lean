/- Numbers of three words, in the landed conv: what is left of one, and what one is times a word, and a word more. -/
/- A number of three words times a word, and a word more, in the landed conv. -/
/- Great primes told by their divisors less one (after Pocklington); plain numbers alone. -/
/- The three greatest primes below 2 to the 63rd that leave 1 divided by 2 to the 20th. -/
/- A region whose operations, and callees, leave what lay in memory as it was, in whatever order. -/
/- A region whose operations, and callees, leave what lay in memory as it was, but for its last one, in whatever order. -/
/- The three primes of the landed conv, and what newJoiner answers. -/
import Derived.Test.YtocfenjampmdlaaGreatDoorQo
import Derived.Test.YtocfenjampmdlaaGreatDoorBShelf
import Derived.Test.YtocfenjampmdlaaGreatDoorPp
import Derived.Test.YtocfenjampmdlaaGreatDoorShelf
import Derived.Test.YtocfenjampmdlaaGreatDoorVo
import Derived.Test.YtocfenjampmdlaaGreatDoorRgu
namespace Go.Proofs.YtocfenjampmdlaaGreatDoor
open Go.RowKit Num Nmb

/-- block g holds three words. -/
def W3 (w : World) (g : Nat) (t : TypeId) (X : Nat → Int) : Prop := w.heap[g]? = some (.cells #[.int .u64 (X 0), .int .u64 (X 1), .int .u64 (X 2)] t (0, 0))
theorem W3.lt {w : World} {g : Nat} {t : TypeId} {X : Nat → Int} (h : W3 w g t X) : g < w.heap.size := (Array.getElem?_eq_some_iff.1 h).1
theorem W3.cell {w : World} {g : Nat} {t : TypeId} {X : Nat → Int} (h : W3 w g t X) {i : Nat} (hi : i < 3) : w.cell? ⟨g, i, none⟩ = some (.int .u64 (X i)) := by
  unfold W3 at h
  match i, hi with
  | 0, _ => simp only [World.cell?, h]; rfl
  | 1, _ => simp only [World.cell?, h]; rfl
  | 2, _ => simp only [World.cell?, h]; rfl
theorem W3.frozen {w : World} {g : Nat} {t : TypeId} {X : Nat → Int} (h : W3 w g t X) (i : Nat) : w.frozen? ⟨g, i, none⟩ = false := by
  unfold W3 at h; simp only [World.frozen?, h]; rfl
theorem W3.drew {w : World} {g : Nat} {t : TypeId} {X : Nat → Int} (h : W3 w g t X) (n : Nat) : W3 (w.drewN n) g t X := by unfold W3 at *; simpa using h
theorem W3.below {B : Nat} {w w' : World} {g : Nat} {t : TypeId} {X : Nat → Int} (h : W3 w g t X) (hb : Below B w w') (hg : g < B) : W3 w' g t X := by unfold W3; rw [hb.block g hg]; exact h
theorem W3.other {w : World} {g b : Nat} {t : TypeId} {X : Nat → Int} (h : W3 w g t X) (hg : g ≠ b) (i : Nat) (v : Value) : W3 (w.setCell ⟨b, i, none⟩ v) g t X := by
  unfold W3; rw [heap_setCell_other w ⟨b, i, none⟩ g v hg]; exact h
theorem W3.set {w : World} {g : Nat} {t : TypeId} {X : Nat → Int} (h : W3 w g t X) {i : Nat} (hi : i < 3) (v : Int) : W3 (w.setCell ⟨g, i, none⟩ (.int .u64 v)) g t (fun j => if j = i then v else X j) := by
  unfold W3 at *
  rw [heap_setCell_same w g i _ t _ h]
  match i, hi with
  | 0, _ => rfl
  | 1, _ => rfl
  | 2, _ => rfl
theorem W3.eq {w : World} {g : Nat} {t : TypeId} {X Y : Nat → Int} (h : W3 w g t X) (e : ∀ j, j < 3 → X j = Y j) : W3 w g t Y := by
  unfold W3 at *; rw [h, e 0 (by omega), e 1 (by omega), e 2 (by omega)]
theorem W3.new (w : World) (t : TypeId) (X : Nat → Int) : W3 (w.alloc (.cells #[.int .u64 (X 0), .int .u64 (X 1), .int .u64 (X 2)] t)) w.heap.size t X := heap_alloc_new w _
/-- the number of the k highest words. -/
def hk (X : Nat → Int) : Nat → Int
  | 0 => 0
  | k + 1 => X (2 - k) + 18446744073709551616 * hk X k
/-- the number of three words. -/
def hvw (X : Nat → Int) : Int := X 0 + 18446744073709551616 * (X 1 + 18446744073709551616 * X 2)
theorem hk_three (X : Nat → Int) : hk X 3 = hvw X := by
  show X 0 + 18446744073709551616 * (X 1 + 18446744073709551616 * (X 2 + 18446744073709551616 * 0)) = _
  unfold hvw; omega
theorem below_new' (w : World) (o : Obj) : Below w.heap.size w (w.alloc o) := (Below.refl _ _).alloc (Nat.le_refl _) o
set_option maxHeartbeats 800000 in
theorem wleft_any (X : Nat → Int) (m : Int) (w : World) (hX : ∀ j, j < 3 → 0 ≤ X j ∧ X j ≤ 18446744073709551615) (hm : 1 ≤ m ∧ m ≤ 18446744073709551615) :
    Calls Tryz.prog 32 #[.agg #[.int .u64 (X 0), .int .u64 (X 1), .int .u64 (X 2)], .int .u64 m] w fun e w' => e = .returned (.int .u64 (hvw X % m)) ∧ Below w.heap.size w w' := by
  have HX := hid hX
  have N0 := hid (W3.new w 61 X)
  have B0 := hid (below_new' w (.cells #[.int .u64 (X 0), .int .u64 (X 1), .int .u64 (X 2)] 61))
  have T3 := hid (hk_three X)
  have RC : Hid (∀ k, hk X (k + 1) = X (2 - k) + 18446744073709551616 * hk X k) := fun _ => rfl
  clear hX
  go_enter Tryz.func32, Tryz.ntmps32
  go_wp2
  go_loopw [6, 5] (fun iv zv wr => ∃ (k : Nat) (z : Int), iv = .int .i64 (2 - (k : Int)) ∧ zv = .int .u64 z ∧ k ≤ 3 ∧ 0 ≤ z ∧ z < m ∧ Hid (z = hk X k % m) ∧ Hid (W3 wr w.heap.size 61 X) ∧ Hid (Below w.heap.size w wr)) (fun iv _ _ => (intOf iv + 1).toNat)
  case atStart => exact ⟨0, 0, rfl, rfl, by omega, by omega, by omega, by show (0 : Int) = 0 % m; rw [Int.zero_emod], N0.out, B0.out⟩
  case round =>
    obtain ⟨k, z, rfl, rfl, hk3, hz0, hz1, HZ, HW, HB⟩ := hrel
    by_cases k3 : k = 3
    · subst k3
      have E : Hid (z = hvw X % m) := by rw [← T3.out]; exact HZ.out
      clear HX N0 B0 T3 RC HZ HW
      go_wp2
      go_ret
      exact ⟨ret_int E.out, HB.out⟩
    · obtain ⟨i, hi, hi3⟩ : ∃ i : Nat, 2 - (k : Int) = (i : Int) ∧ i = 2 - k := ⟨2 - k, by omega, rfl⟩
      have cl := HW.out.cell (i := i) (by omega)
      have vx := HX.out i (by omega)
      have D := div64_any z (X i) m wr hz0 vx.1 vx.2 hz1 hm.2
      have e1 : dr z (X i) m = hk X (k + 1) % m := by
        unfold dr
        rw [RC.out k, ← hi3, HZ.out, Int.add_comm, Int.mul_comm, Int.add_emod, Int.mul_emod, Int.emod_emod_of_dvd _ (Int.dvd_refl _), ← Int.mul_emod, ← Int.add_emod]
      have b1 : 0 ≤ dr z (X i) m ∧ dr z (X i) m < m := ⟨Int.emod_nonneg _ (by omega), Int.emod_lt_of_pos _ (by omega)⟩
      have E1 := hid e1
      have DD := hid D
      have hil : (i : Int) < 3 := by omega
      have hk' : Hid (2 - ((k + 1 : Nat) : Int) = (i : Int) - 1) := by show _ = _; omega
      have W2 : Hid (∀ q, W3 (wr.drewN q) w.heap.size 61 X) := fun q => HW.out.drew q
      have B2 : Hid (∀ q, Below w.heap.size w (wr.drewN q)) := fun q => below_drewN HB.out q
      rw [hi]
      clear D e1 N0 B0 T3 RC HZ HW HB HX hi3 hi
      generalize dr z (X i) m = r at *
      generalize X i = xi at *
      go_wp2_with fail
      refine DD.out.mono ?_
      rintro e w2 ⟨rfl, q, rfl⟩
      clear DD cl
      go_wp2
      exact ⟨⟨k + 1, r, by rw [hk'.out], rfl, by omega, b1.1, b1.2, E1, W2.out q, B2.out q⟩, by simp only [intOf]; omega⟩
/-- the number of the k lowest words. -/
def lk (X : Nat → Int) : Nat → Int
  | 0 => 0
  | k + 1 => lk X k + X k * 18446744073709551616 ^ k
theorem lk_three (X : Nat → Int) : lk X 3 = hvw X := by
  show 0 + X 0 * 18446744073709551616 ^ 0 + X 1 * 18446744073709551616 ^ 1 + X 2 * 18446744073709551616 ^ 2 = _
  rw [show (18446744073709551616 : Int) ^ 0 = 1 from rfl, show (18446744073709551616 : Int) ^ 1 = 18446744073709551616 from rfl, show (18446744073709551616 : Int) ^ 2 = 340282366920938463463374607431768211456 from by decide]
  unfold hvw; omega
/-- one step of the product: the word x times b, and c more. -/
theorem step_said {x b c : Int} (hx : 0 ≤ x ∧ x ≤ 18446744073709551615) (hb : 0 ≤ b ∧ b ≤ 18446744073709551615) (hc : 0 ≤ c ∧ c ≤ 18446744073709551615) :
    0 ≤ (x * b + c) / 18446744073709551616 ∧ (x * b + c) / 18446744073709551616 ≤ 18446744073709551615 ∧ 0 ≤ (x * b + c) % 18446744073709551616 ∧ (x * b + c) % 18446744073709551616 ≤ 18446744073709551615 ∧
    0 ≤ x * b / 18446744073709551616 ∧ x * b / 18446744073709551616 ≤ 18446744073709551614 ∧ 0 ≤ x * b % 18446744073709551616 ∧ x * b % 18446744073709551616 ≤ 18446744073709551615 ∧
    (x * b % 18446744073709551616 + c) % 18446744073709551616 = (x * b + c) % 18446744073709551616 ∧ x * b / 18446744073709551616 + (x * b % 18446744073709551616 + c) / 18446744073709551616 = (x * b + c) / 18446744073709551616 := by
  have h1 := Int.mul_le_mul hx.2 hb.2 hb.1 (by omega)
  have h2 := Int.mul_nonneg hx.1 hb.1
  generalize x * b = p at *
  omega
end Go.Proofs.YtocfenjampmdlaaGreatDoor
namespace Go.Proofs.YtocfenjampmdlaaGreatDoor
open Go.RowKit Num Nmb

theorem W3.store {w : World} {g : Nat} {t : TypeId} {X : Nat → Int} (h : W3 w g t X) (Y : Nat → Int) :
    W3 (((w.setCell ⟨g, 0, none⟩ (.int .u64 (Y 0))).setCell ⟨g, 1, none⟩ (.int .u64 (Y 1))).setCell ⟨g, 2, none⟩ (.int .u64 (Y 2))) g t Y :=
  (((h.set (i := 0) (by omega) (Y 0)).set (i := 1) (by omega) (Y 1)).set (i := 2) (by omega) (Y 2)).eq fun j hj => by
    match j, hj with
    | 0, _ => rfl
    | 1, _ => rfl
    | 2, _ => rfl
theorem ret_w3 {fn : Func} {tmps : Array Value} {w : World} {t : Tmp} {g : Nat} {X : Nat → Int} (h3 : W3 w g 61 X) (h : fn.results = #[.cell t 61]) (ht : tmps[t]?.getD undef = .pointer (some ⟨g, 0, none⟩)) :
    (results fn tmps).run Tryz.prog w = .ok (.agg #[.int .u64 (X 0), .int .u64 (X 1), .int .u64 (X 2)]) w := by
  have c0 := h3.cell (i := 0) (by omega)
  have c1 := h3.cell (i := 1) (by omega)
  have c2 := h3.cell (i := 2) (by omega)
  simp [results, h, go_sem, ht, c0, c1, c2]
theorem index_w3 (X : Nat → Int) {i : Nat} (hi : i < 3) (w : World) : (Instr.index 61 (.agg #[.int .u64 (X 0), .int .u64 (X 1), .int .u64 (X 2)]) (.int .i64 (i : Int))).run Tryz.prog w = .ok (.int .u64 (X i)) w := by
  match i, hi with
  | 0, _ => simp [Instr.index, run_underlying Tryz.underlying61, asIntOf, part, go_sem]
  | 1, _ => simp [Instr.index, run_underlying Tryz.underlying61, asIntOf, part, go_sem]
  | 2, _ => simp [Instr.index, run_underlying Tryz.underlying61, asIntOf, part, go_sem]
theorem lk_eq {X Y : Nat → Int} : ∀ k, (∀ j, j < k → X j = Y j) → lk X k = lk Y k
  | 0, _ => rfl
  | k + 1, h => by
    show lk X k + X k * _ = lk Y k + Y k * _
    rw [lk_eq k (fun j hj => h j (by omega)), h k (by omega)]
set_option maxHeartbeats 1600000 in
theorem wtimes_any (X : Nat → Int) (b c : Int) (w : World) (hX : ∀ j, j < 3 → 0 ≤ X j ∧ X j ≤ 18446744073709551615) (hb : 0 ≤ b ∧ b ≤ 18446744073709551615) (hc : 0 ≤ c ∧ c ≤ 18446744073709551615) (hs : hvw X * b + c < 6277101735386680763835789423207666416102355444464034512896) :
    Calls Tryz.prog 73 #[.agg #[.int .u64 (X 0), .int .u64 (X 1), .int .u64 (X 2)], .int .u64 b, .int .u64 c] w fun e w' => (∃ Y, e = .returned (.agg #[.int .u64 (Y 0), .int .u64 (Y 1), .int .u64 (Y 2)]) ∧ (∀ j, j < 3 → 0 ≤ Y j ∧ Y j ≤ 18446744073709551615) ∧ hvw Y = hvw X * b + c) ∧ Below w.heap.size w w' := by
  have HX := hid hX
  have HS := hid hs
  have N0 := hid ((W3.new w 61 X).below (below_new' _ (.cells #[.int .u64 0, .int .u64 0, .int .u64 0] 61)) (by simp))
  have N1 : Hid (W3 ((w.alloc (.cells #[.int .u64 (X 0), .int .u64 (X 1), .int .u64 (X 2)] 61)).alloc (.cells #[.int .u64 0, .int .u64 0, .int .u64 0] 61)) (w.heap.size + 1) 61 (fun _ => 0)) := by
    have := W3.new (w.alloc (.cells #[.int .u64 (X 0), .int .u64 (X 1), .int .u64 (X 2)] 61)) 61 (fun _ => 0)
    show W3 _ _ _ _
    simpa using this
  have B0 : Hid (Below w.heap.size w ((w.alloc (.cells #[.int .u64 (X 0), .int .u64 (X 1), .int .u64 (X 2)] 61)).alloc (.cells #[.int .u64 0, .int .u64 0, .int .u64 0] 61))) := (below_new' w _).trans ((below_new' _ _).mono (by simp))
  have IX : Hid (∀ i : Nat, i < 3 → ∀ W : World, (Instr.index 61 (.agg #[.int .u64 (X 0), .int .u64 (X 1), .int .u64 (X 2)]) (.int .i64 (i : Int))).run Tryz.prog W = .ok (.int .u64 (X i)) W) := fun i hi W => index_w3 X hi W
  clear hX hs
  go_enter Tryz.func73, Tryz.ntmps73
  go_wp2
  go_loopw [13, 2] (fun iv cv wr => ∃ (i : Nat) (d : Int) (Y : Nat → Int), iv = .int .i64 i ∧ cv = .int .u64 d ∧ i ≤ 3 ∧ 0 ≤ d ∧ d ≤ 18446744073709551615 ∧ Hid (∀ j, j < 3 → 0 ≤ Y j ∧ Y j ≤ 18446744073709551615) ∧ Hid (lk Y i + d * 18446744073709551616 ^ i = lk X i * b + c) ∧ Hid (W3 wr w.heap.size 61 Y) ∧ Hid (W3 wr (w.heap.size + 1) 61 (fun _ => 0)) ∧ Hid (Below w.heap.size w wr)) (fun iv _ _ => (3 - intOf iv).toNat)
  case atStart => exact ⟨0, c, X, rfl, rfl, by omega, hc.1, hc.2, HX.out, by show (0 : Int) + c * 18446744073709551616 ^ 0 = 0 * b + c; rw [Int.pow_zero]; omega, N0.out, N1.out, B0.out⟩
  case round =>
    obtain ⟨i, d, Y, rfl, rfl, hi, hd0, hd1, HY, HL, HW, HV, HB⟩ := hrel
    by_cases i3 : i = 3
    · subst i3
      have c0 := HW.out.cell (i := 0) (by omega)
      have c1 := HW.out.cell (i := 1) (by omega)
      have c2 := HW.out.cell (i := 2) (by omega)
      have f0 := HV.out.frozen 0
      have f1 := HV.out.frozen 1
      have f2 := HV.out.frozen 2
      have d0 := HV.out.cell (i := 0) (by omega)
      have d1 := HV.out.cell (i := 1) (by omega)
      have d2 := HV.out.cell (i := 2) (by omega)
      have S := hid (HV.out.store Y)
      have B2 : Hid (Below w.heap.size w (((wr.setCell ⟨w.heap.size + 1, 0, none⟩ (.int .u64 (Y 0))).setCell ⟨w.heap.size + 1, 1, none⟩ (.int .u64 (Y 1))).setCell ⟨w.heap.size + 1, 2, none⟩ (.int .u64 (Y 2)))) := below_set (below_set (below_set HB.out (by omega) _ _) (by omega) _ _) (by omega) _ _
      have E : Hid (hvw Y = hvw X * b + c) := by
        have h := HL.out
        rw [lk_three, lk_three, show (18446744073709551616 : Int) ^ 3 = 6277101735386680763835789423207666416102355444464034512896 from by decide] at h
        have := HS.out
        have y0 := HY.out 0 (by omega)
        have y1 := HY.out 1 (by omega)
        have y2 := HY.out 2 (by omega)
        show _ = _
        unfold hvw at h this ⊢
        omega
      clear HX HS N0 N1 B0 IX HL HW HV HB
      go_wp2
      refine bodyPost_ret (ret_w3 S.out rfl rfl) rfl ?_
      exact ⟨⟨Y, rfl, HY.out, E.out⟩, B2.out⟩
    · have hi' : i < 3 := by omega
      have hil : (i : Int) < 3 := by omega
      have ix := IX.out i hi'
      have vx := HX.out i hi'
      obtain ⟨s1, s2, s3, s4, s5, s6, s7, s8, s9, s10⟩ := step_said vx hb ⟨hd0, hd1⟩
      have cl := HW.out.cell (i := i) hi'
      have fl := HW.out.frozen i
      have M := hid (Tryz.bits_Mul64 (X i) b vx.1 vx.2 hb.1 hb.2 wr)
      have A := hid (B.add64_0 (X i * b % 18446744073709551616) d s7 hd0)
      have a1 : B.NumB.lo (X i * b % 18446744073709551616 + d) = (X i * b + d) % 18446744073709551616 := s9
      have a2 : IntKind.u64.wrap (X i * b / 18446744073709551616 + B.NumB.hi (X i * b % 18446744073709551616 + d)) = (X i * b + d) / 18446744073709551616 := by
        unfold B.NumB.hi
        rw [s10, IntKind.wrap_u64]
        omega
      have HL' : Hid (lk (fun j => if j = i then (X i * b + d) % 18446744073709551616 else Y j) (i + 1) + (X i * b + d) / 18446744073709551616 * 18446744073709551616 ^ (i + 1) = lk X (i + 1) * b + c) := by
        show lk (fun j => if j = i then (X i * b + d) % 18446744073709551616 else Y j) i + (if i = i then (X i * b + d) % 18446744073709551616 else Y i) * 18446744073709551616 ^ i + _ = (lk X i + X i * 18446744073709551616 ^ i) * b + c
        rw [if_pos rfl, lk_eq (Y := Y) i (fun j hj => if_neg (by omega)), Int.pow_succ]
        have h := HL.out
        have e := Int.emod_add_mul_ediv (X i * b + d) 18446744073709551616
        generalize (18446744073709551616 : Int) ^ i = K at *
        have e2 : (X i * b + d) % 18446744073709551616 * K + (X i * b + d) / 18446744073709551616 * (K * 18446744073709551616) = (X i * b + d) * K := by
          rw [Int.mul_comm K, ← Int.mul_assoc, ← Int.add_mul, Int.mul_comm ((X i * b + d) / 18446744073709551616), e]
        have e3 : X i * K * b = X i * b * K := Int.mul_right_comm _ _ _
        have e4 : (X i * b + d) * K = X i * b * K + d * K := Int.add_mul _ _ _
        have e5 : (lk X i + X i * K) * b = lk X i * b + X i * K * b := Int.add_mul _ _ _
        omega
      have HY' : Hid (∀ j, j < 3 → 0 ≤ (fun j => if j = i then (X i * b + d) % 18446744073709551616 else Y j) j ∧ (fun j => if j = i then (X i * b + d) % 18446744073709551616 else Y j) j ≤ 18446744073709551615) := fun j hj => by
        show 0 ≤ (if j = i then (X i * b + d) % 18446744073709551616 else Y j) ∧ (if j = i then (X i * b + d) % 18446744073709551616 else Y j) ≤ 18446744073709551615
        by_cases e : j = i
        · rw [if_pos e]; exact ⟨s3, s4⟩
        · rw [if_neg e]; exact HY.out j hj
      have HW' := hid (HW.out.set hi' ((X i * b + d) % 18446744073709551616))
      have HV' := hid (HV.out.other (b := w.heap.size) (by omega) i (.int .u64 ((X i * b + d) % 18446744073709551616)))
      have HB' := hid (below_set HB.out (Nat.le_refl _) i (.int .u64 ((X i * b + d) % 18446744073709551616)))
      rw [a1] at A
      have b1 : 0 ≤ (X i * b + d) / 18446744073709551616 := s1
      clear HX HS N0 N1 B0 IX HY HL HW HV HB s3 s4 s9 s10 a1 vx
      generalize B.NumB.hi (X i * b % 18446744073709551616 + d) = h1 at *
      generalize (X i * b + d) % 18446744073709551616 = v1 at *
      generalize (X i * b + d) / 18446744073709551616 = v2 at *
      generalize X i * b / 18446744073709551616 = v3 at *
      generalize X i * b % 18446744073709551616 = v4 at *
      generalize X i = xi at *
      go_wp2_with (first | (go_at_call 87; refine M.out.mono ?_; rintro e w3 ⟨rfl, rfl⟩) | simp only [A.out])
      exact ⟨⟨i + 1, v2, _, rfl, rfl, by omega, b1, s2, HY', HL', HW', HV', HB'⟩, by simp only [intOf]; omega⟩
/-- the three words of a number. -/
def dgt (N : Int) : Nat → Int
  | 0 => N % 18446744073709551616
  | 1 => N / 18446744073709551616 % 18446744073709551616
  | _ + 2 => N / 18446744073709551616 / 18446744073709551616
theorem hvw_dgt (N : Int) : hvw (dgt N) = N := by
  show N % 18446744073709551616 + 18446744073709551616 * (N / 18446744073709551616 % 18446744073709551616 + 18446744073709551616 * (N / 18446744073709551616 / 18446744073709551616)) = N
  omega
theorem dgt_bd {N : Int} (h0 : 0 ≤ N) (h : N < 6277101735386680763835789423207666416102355444464034512896) : ∀ j, j < 3 → 0 ≤ dgt N j ∧ dgt N j ≤ 18446744073709551615 := fun j hj => by
  match j, hj with
  | 0, _ => show 0 ≤ N % 18446744073709551616 ∧ N % 18446744073709551616 ≤ 18446744073709551615; omega
  | 1, _ => show 0 ≤ N / 18446744073709551616 % 18446744073709551616 ∧ N / 18446744073709551616 % 18446744073709551616 ≤ 18446744073709551615; omega
  | 2, _ => show 0 ≤ N / 18446744073709551616 / 18446744073709551616 ∧ N / 18446744073709551616 / 18446744073709551616 ≤ 18446744073709551615; omega
theorem dgt_hvw {Y : Nat → Int} (h : ∀ j, j < 3 → 0 ≤ Y j ∧ Y j ≤ 18446744073709551615) : ∀ j, j < 3 → Y j = dgt (hvw Y) j := fun j hj => by
  have h0 := h 0 (by omega)
  have h1 := h 1 (by omega)
  have h2 := h 2 (by omega)
  unfold hvw
  match j, hj with
  | 0, _ => show Y 0 = (Y 0 + 18446744073709551616 * (Y 1 + 18446744073709551616 * Y 2)) % 18446744073709551616; omega
  | 1, _ => show Y 1 = (Y 0 + 18446744073709551616 * (Y 1 + 18446744073709551616 * Y 2)) / 18446744073709551616 % 18446744073709551616; omega
  | 2, _ => show Y 2 = (Y 0 + 18446744073709551616 * (Y 1 + 18446744073709551616 * Y 2)) / 18446744073709551616 / 18446744073709551616; omega
theorem wtimes_dgt (N b c : Int) (w : World) (h0 : 0 ≤ N) (hN : N < 6277101735386680763835789423207666416102355444464034512896) (hb : 0 ≤ b ∧ b ≤ 18446744073709551615) (hc : 0 ≤ c ∧ c ≤ 18446744073709551615) (hs : N * b + c < 6277101735386680763835789423207666416102355444464034512896) :
    Calls Tryz.prog 73 #[.agg #[.int .u64 (dgt N 0), .int .u64 (dgt N 1), .int .u64 (dgt N 2)], .int .u64 b, .int .u64 c] w fun e w' => e = .returned (.agg #[.int .u64 (dgt (N * b + c) 0), .int .u64 (dgt (N * b + c) 1), .int .u64 (dgt (N * b + c) 2)]) ∧ Below w.heap.size w w' := by
  refine (wtimes_any (dgt N) b c w (dgt_bd h0 hN) hb hc (by rw [hvw_dgt]; exact hs)).mono ?_
  rintro e w' ⟨⟨Y, rfl, hY, hE⟩, B⟩
  rw [hvw_dgt] at hE
  rw [← hE]
  have y0 := dgt_hvw hY 0 (by omega)
  have y1 := dgt_hvw hY 1 (by omega)
  have y2 := dgt_hvw hY 2 (by omega)
  exact ⟨by rw [← y0, ← y1, ← y2], B⟩
theorem wleft_dgt (N m : Int) (w : World) (h0 : 0 ≤ N) (hN : N < 6277101735386680763835789423207666416102355444464034512896) (hm : 1 ≤ m ∧ m ≤ 18446744073709551615) :
    Calls Tryz.prog 32 #[.agg #[.int .u64 (dgt N 0), .int .u64 (dgt N 1), .int .u64 (dgt N 2)], .int .u64 m] w fun e w' => e = .returned (.int .u64 (N % m)) ∧ Below w.heap.size w w' := by
  have := wleft_any (dgt N) m w (dgt_bd h0 hN) hm
  rw [hvw_dgt] at this
  exact this
end Go.Proofs.YtocfenjampmdlaaGreatDoor
namespace Nmb

/-- a to the eth modulo n, by squares; e has at most f bits. -/
def pmd (n : Nat) : Nat → Nat → Nat → Nat
  | 0, _, _ => 1 % n
  | f + 1, a, e => if e % 2 = 1 then a * pmd n f (a * a % n) (e / 2) % n else pmd n f (a * a % n) (e / 2)
theorem pmd_said (n : Nat) : ∀ f a e, e < 2 ^ f → pmd n f a e = a ^ e % n
  | 0, a, e, h => by
    obtain rfl : e = 0 := by rw [Nat.pow_zero] at h; omega
    rw [Nat.pow_zero]
    rfl
  | f + 1, a, e, h => by
    rw [Nat.pow_succ] at h
    have ih := pmd_said n f (a * a % n) (e / 2) (by omega)
    have h1 : (a * a % n) ^ (e / 2) % n = a ^ (2 * (e / 2)) % n := by
      rw [← Nat.pow_mod, Nat.pow_mul, Nat.pow_two]
    show (if e % 2 = 1 then a * pmd n f (a * a % n) (e / 2) % n else pmd n f (a * a % n) (e / 2)) = a ^ e % n
    rw [ih, h1]
    by_cases ho : e % 2 = 1
    · rw [if_pos ho, Nat.mul_mod, Nat.mod_mod, ← Nat.mul_mod, ← Nat.pow_succ']
      congr 2
      omega
    · rw [if_neg ho]
      congr 2
      omega
theorem pow_gcd {r b : Nat} (hr : 1 < r) (m n : Nat) : b ^ m % r = 1 → b ^ n % r = 1 → b ^ Nat.gcd m n % r = 1 := by
  induction m, n using Nat.gcd.induction with
  | H0 n => intro _ h; rwa [Nat.gcd_zero_left]
  | H1 m n hm ih =>
    intro h1 h2
    rw [Nat.gcd_rec]
    refine ih ?_ h1
    have e : b ^ n = (b ^ m) ^ (n / m) * b ^ (n % m) := by rw [← Nat.pow_mul, ← Nat.pow_add, Nat.div_add_mod]
    rw [e, Nat.mul_mod, Nat.pow_mod, h1, Nat.one_pow, Nat.mod_eq_of_lt hr, Nat.one_mul, Nat.mod_mod] at h2
    exact h2
/-- a prime q of n - 1 divides r - 1 of each prime r of n. -/
theorem pock {n q k a r : Nat} (hq : Pri q) (hn : n = q * k + 1) (h1 : a ^ (q * k) % n = 1) (h2 : Nat.gcd (a ^ k % n + (n - 1)) n = 1) (hr : Pri r) (hd : r ∣ n) : q ∣ r - 1 := by
  have r2 := hr.1
  have n0 : 0 < n := by omega
  have a1 : a ^ (q * k) % r = 1 := by
    rw [← Nat.mod_mod_of_dvd _ hd, h1, Nat.mod_eq_of_lt (by omega)]
  have qk : q * k ≠ 0 := by
    intro e
    rw [e, Nat.pow_zero] at a1
    rw [e] at hn
    have := Nat.le_of_dvd n0 hd
    omega
  have ha : a ^ k % r ≠ 0 := fun e => by
    have e2 : a ^ (q * k) % r = 0 := by
      have q2 := hq.1
      rw [Nat.mul_comm q k, Nat.pow_mul, Nat.pow_mod, e, Nat.zero_pow (by omega), Nat.zero_mod]
    omega
  have b1 : (a ^ k) ^ q % r = 1 := by rw [← Nat.pow_mul, Nat.mul_comm]; exact a1
  have b2 : (a ^ k) ^ (r - 1) % r = 1 := hr.fermat1 ha
  have g := pow_gcd (by omega) q (r - 1) b1 b2
  rcases hq.2 (Nat.gcd q (r - 1)) (Nat.gcd_dvd_left _ _) with e | e
  · exfalso
    rw [e, Nat.pow_one] at g
    have d1 : r ∣ a ^ k % n + (n - 1) := by
      apply Nat.dvd_of_mod_eq_zero
      rw [Nat.add_mod, Nat.mod_mod_of_dvd _ hd, g]
      obtain ⟨c, hc⟩ := hd
      have c0 : c ≠ 0 := by rintro rfl; omega
      obtain ⟨c, rfl⟩ : ∃ t, c = t + 1 := ⟨c - 1, by omega⟩
      have : n - 1 = r * c + (r - 1) := by rw [hc, Nat.mul_add]; omega
      rw [this, Nat.mul_add_mod, Nat.mod_eq_of_lt (by omega : r - 1 < r), show 1 + (r - 1) = r by omega, Nat.mod_self]
    have d2 := Nat.dvd_gcd d1 hd
    rw [h2] at d2
    have := Nat.le_of_dvd (by omega) d2
    omega
  · exact e ▸ Nat.gcd_dvd_right q (r - 1)
/-- what divides r - 1 of each prime r is great enough. -/
theorem pock_all {n F : Nat} (hn : 2 ≤ n) (hF : n ≤ F * F) (h : ∀ r, Pri r → r ∣ n → F ∣ r - 1) : Pri n := by
  refine pri_of_root hn fun d h2 hdd hd => ?_
  obtain ⟨r, hr, hrd, _⟩ := least_factor d h2
  have h3 := h r hr (Nat.dvd_trans hrd hd)
  have r2 := hr.1
  have h4 := Nat.le_of_dvd (by omega) h3
  have h5 := Nat.le_of_dvd (by omega) hrd
  have h6 : F * F < d * d := Nat.mul_lt_mul_of_lt_of_le (by omega) (by omega) (by omega)
  omega
/-- no odd number from d on, of so many, 2 to the kth, divides n. -/
def nod (n : Nat) : Nat → Nat → Bool
  | 0, d => n % d != 0
  | k + 1, d => nod n k d && nod n k (d + 2 * 2 ^ k)
theorem nod_said (n : Nat) : ∀ k d, nod n k d = true → ∀ i, i < 2 ^ k → ¬ (d + 2 * i) ∣ n
  | 0, d, h, i, hi => by
    obtain rfl : i = 0 := by rw [Nat.pow_zero] at hi; omega
    intro hd
    have := Nat.mod_eq_zero_of_dvd hd
    rw [Nat.mul_zero, Nat.add_zero] at this
    have h' : (n % d != 0) = true := h
    rw [this] at h'
    cases h'
  | k + 1, d, h, i, hi => by
    have h' : (nod n k d && nod n k (d + 2 * 2 ^ k)) = true := h
    rw [Bool.and_eq_true] at h'
    rw [Nat.pow_succ] at hi
    by_cases hl : i < 2 ^ k
    · exact nod_said n k d h'.1 i hl
    · have := nod_said n k _ h'.2 (i - 2 ^ k) (by omega)
      rwa [show d + 2 * 2 ^ k + 2 * (i - 2 ^ k) = d + 2 * i by omega] at this
theorem pri_nod {n k : Nat} (h2 : 2 < n) (ho : n % 2 = 1) (h : nod n k 3 = true) (hk : n < (3 + 2 * 2 ^ k) * (3 + 2 * 2 ^ k)) : Pri n := by
  refine pri_of_root (by omega) fun d d2 hdd hd => ?_
  have od : d % 2 = 1 := by
    rcases Nat.mod_two_eq_zero_or_one d with e | e
    · exfalso
      obtain ⟨c, rfl⟩ := hd
      rw [Nat.mul_mod, e, Nat.zero_mul] at ho
      simp at ho
    · exact e
  have dl : d < 3 + 2 * 2 ^ k := by
    apply Nat.lt_of_not_le
    intro hle
    have := Nat.mul_le_mul hle hle
    omega
  have := nod_said n k 3 h ((d - 3) / 2) (by omega)
  rw [show 3 + 2 * ((d - 3) / 2) = d by omega] at this
  exact this hd
end Nmb
namespace Nmb

theorem pock_by {n q k a r : Nat} (f : Nat) (hf : q * k < 2 ^ f) (hf2 : k < 2 ^ f) (hq : Pri q) (hn : n = q * k + 1) (h1 : pmd n f a (q * k) = 1) (h2 : Nat.gcd (pmd n f a k + (n - 1)) n = 1) (hr : Pri r) (hd : r ∣ n) : q ∣ r - 1 := by
  rw [pmd_said n f a _ hf] at h1
  rw [pmd_said n f a _ hf2] at h2
  exact pock hq hn h1 h2 hr hd
theorem pri604916651 : Pri 604916651 := pri_nod (k := 14) (by decide) (by decide) (by decide +kernel) (by decide)
theorem pri261228707 : Pri 261228707 := pri_nod (k := 13) (by decide) (by decide) (by decide +kernel) (by decide)
theorem pri120494424961 : Pri 120494424961 := pri_nod (k := 18) (by decide) (by decide) (by decide +kernel) (by decide)
theorem pri127479609017 : Pri 127479609017 := pock_all (F := 261228707) (by decide) (by decide) fun _ hr hd => pock_by (k := 488) (a := 2) 40 (by decide) (by decide) pri261228707 (by decide) (by decide +kernel) (by decide +kernel) hr hd
theorem priP2 : Pri 9223372036818075649 := pock_all (F := 127479609017) (by decide) (by decide) fun _ hr hd => pock_by (k := 72351744) (a := 2) 63 (by decide) (by decide) pri127479609017 (by decide) (by decide +kernel) (by decide +kernel) hr hd
theorem priP3 : Pri 9223372036797104129 := pock_all (F := 120494424961) (by decide) (by decide) fun _ hr hd => pock_by (k := 76546048) (a := 2) 63 (by decide) (by decide) pri120494424961 (by decide) (by decide +kernel) (by decide +kernel) hr hd
theorem half_neg {n r a e : Nat} (hr : Pri r) (hd : r ∣ n) (hn : 2 ≤ n) (h : a ^ e % n = n - 1) : a ^ e % r = r - 1 := by
  have r2 := hr.1
  rw [← Nat.mod_mod_of_dvd _ hd, h]
  obtain ⟨c, hc⟩ := hd
  have c0 : c ≠ 0 := by rintro rfl; omega
  obtain ⟨c, rfl⟩ : ∃ t, c = t + 1 := ⟨c - 1, by omega⟩
  have : n - 1 = r * c + (r - 1) := by rw [hc, Nat.mul_add]; omega
  rw [this, Nat.mul_add_mod, Nat.mod_eq_of_lt (by omega : r - 1 < r)]
theorem deep_by {n r a e t : Nat} (f : Nat) (hf : e * 2 ^ t < 2 ^ f) (h : pmd n f a (e * 2 ^ t) = n - 1) (hn : 2 ≤ n) (ho : n % 2 = 1) (hr : Pri r) (hd : r ∣ n) : 2 ^ (t + 1) ∣ r - 1 := by
  rw [pmd_said n f a _ hf, Nat.pow_mul] at h
  have r2 : r ≠ 2 := by
    rintro rfl
    have := Nat.mod_eq_zero_of_dvd hd
    omega
  exact hr.deep r2 (half_neg hr hd hn h)
theorem priP1 : Pri 9223372036836950017 := by
  refine pock_all (F := 604916651 * 2 ^ 20) (by decide) (by decide) fun r hr hd => ?_
  have h1 := pock_by (k := 15247343616) (a := 2) 63 (by decide) (by decide) pri604916651 (by decide) (by decide +kernel) (by decide +kernel) hr hd
  have h2 := deep_by (a := 5) (e := 8796093022191) (t := 19) 63 (by decide) (by decide +kernel) (by decide) (by decide) hr hd
  exact Nat.Coprime.mul_dvd_of_dvd_of_dvd (by decide +kernel) h1 h2
end Nmb
namespace Go.Proofs.YtocfenjampmdlaaGreatDoor
open Go.RowKit Num
section
variable {P : Program} {Q : Exit → Act → World → Prop}

/-- the worlds in which what lay in w lies as it was. -/
def Beh (w : World) : Type := { w' : World // Below w.heap.size w w' }
theorem Beh.size {w : World} (x : Beh w) : w.heap.size ≤ x.1.heap.size := x.2.size
theorem Calls.beh_of {f : FuncId} {args : Array Value} {w : World} {x : Beh w} {v : Value} (h : Calls P f args x.1 fun e w' => e = .returned v ∧ Below x.1.heap.size x.1 w') :
    Calls P f args x.1 fun e w'' => e = .returned v ∧ ∃ y : Beh w, w'' = y.1 := h.mono fun _ w'' ⟨he, hb⟩ => ⟨he, ⟨w'', x.2.trans (hb.mono x.size)⟩, rfl⟩
theorem Calls.beh_same {f : FuncId} {args : Array Value} {w : World} {x : Beh w} {v : Value} (h : Calls P f args x.1 fun e w' => e = .returned v ∧ w' = x.1) :
    Calls P f args x.1 fun e w'' => e = .returned v ∧ ∃ y : Beh w, w'' = y.1 := h.mono fun _ _ ⟨he, hb⟩ => ⟨he, x, hb⟩
theorem Calls.beh_drew {f : FuncId} {args : Array Value} {w : World} {x : Beh w} {v : Value} (h : Calls P f args x.1 fun e w' => e = .returned v ∧ ∃ n, w' = x.1.drewN n) :
    Calls P f args x.1 fun e w'' => e = .returned v ∧ ∃ y : Beh w, w'' = y.1 := h.mono fun _ w'' ⟨he, n, hb⟩ => ⟨he, ⟨w'', by rw [hb]; exact below_drewN x.2 n⟩, rfl⟩
theorem Beh.some (w : World) : Nonempty (Beh w) := ⟨⟨w, Below.refl _ _⟩⟩
/-- a region whose operations, and callees, leave what lay in w as it was: one walk in the order of the text. -/
theorem wp_region_beh {id : Nat} {a : Act} {w : World} {l : List Oper} (hm : P.follows .mixedOrders = true) (hB : Region.lexB .any l.toArray = true)
    (h : wpQuiet P l.toArray (fun w' => ∃ x : Beh w, w' = x.1) (fun a' => ∀ w', (∃ x : Beh w, w' = x.1) → Q .normal a' w') l a) : (Code.region id l.toArray true).wp P Q a w :=
  wp_region_quiet (C := fun w' => ∃ x : Beh w, w' = x.1) hm hB ⟨⟨w.drewN 1, below_drewN (Below.refl _ _) 1⟩, rfl⟩ (by simpa using h)
end
end Go.Proofs.YtocfenjampmdlaaGreatDoor
namespace Go.Proofs.YtocfenjampmdlaaGreatDoor
open Go.RowKit Num
section
variable {P : Program} {Q : Exit → Act → World → Prop}

theorem wp_region_last_beh {id : Nat} {a : Act} {w : World} {L : List Oper} (hm : P.follows .mixedOrders = true) (hB : Region.lexB .any (stillLast L).toArray = true) (hb : backB 0 L = true) (hu : usedB L = true) (hne : 0 < L.length)
    (h : wpQuiet P (stillLast L).toArray (fun w' => ∃ x : Beh w, w' = x.1) (fun a' => ∀ w', (∃ x : Beh w, w' = x.1) → wpList P L.toArray Q (lastOf L) a' w') (stillLast L) a) : (Code.region id L.toArray true).wp P Q a w := by
  simp only [Region.lexB, Bool.and_eq_true] at hB
  refine wp_region_any hm (any_of_still (C := fun w' => ∃ x : Beh w, w' = x.1) hb hu (n := L.length - 1) (by omega) _ _ a _ ⟨⟨w.drewN 1, below_drewN (Below.refl _ _) 1⟩, rfl⟩ ?_ (by simp) ?_ ?_)
  · intro j o ho hl
    have hj := (List.getElem?_eq_some_iff.1 ho).1
    simp [Array.getD, hj] at hl
  · simp [Array.getD, show L.length - 1 < L.length by omega]
  · have := wpAnyQ_lex (P := P) (C := fun w' => ∃ x : Beh w, w' = x.1) (md := .any) hB.1 (stillLast L) 0 (Array.replicate (stillLast L).toArray.size false) a (by simp) (by simpa using hB.2) h
    simpa [stillLast_len] using this
end
end Go.Proofs.YtocfenjampmdlaaGreatDoor
namespace Go.Proofs.YtocfenjampmdlaaGreatDoor
open Go.RowKit Num Nmb

/-- the primes. -/
def prm : Nat → Nat
  | 0 => 9223372036836950017
  | 1 => 9223372036818075649
  | _ + 2 => 9223372036797104129
theorem prm_pri {i : Nat} (h : i < 3) : Pri (prm i) := by
  match i, h with
  | 0, _ => exact priP1
  | 1, _ => exact priP2
  | 2, _ => exact priP3
theorem prm_bd {i : Nat} (h : i < 3) : 9223372036797104129 ≤ prm i ∧ prm i ≤ 9223372036836950017 ∧ prm i % 2 = 1 := by
  match i, h with
  | 0, _ => decide
  | 1, _ => decide
  | 2, _ => decide
theorem prm_nz {i j : Nat} (h : i < 3) (hj : j < i) : prm j % prm i ≠ 0 := by
  match i, j, h, hj with
  | 1, 0, _, _ => decide
  | 2, 0, _, _ => decide
  | 2, 1, _, _ => decide
/-- the primes lie. -/
def PriA (w : World) : Prop := ∃ t fr, w.heap[0]? = some (.cells #[.int .u64 (prm 0 : Nat), .int .u64 (prm 1 : Nat), .int .u64 (prm 2 : Nat)] t fr)
theorem PriA.lt {w : World} (h : PriA w) : 0 < w.heap.size := by obtain ⟨t, fr, h⟩ := h; exact (Array.getElem?_eq_some_iff.1 h).1
theorem PriA.below {B : Nat} {w w' : World} (h : PriA w) (hb : Below B w w') (hB : 0 < B) : PriA w' := by
  obtain ⟨t, fr, h⟩ := h
  exact ⟨t, fr, by rw [hb.block _ hB]; exact h⟩
theorem PriA.cell {w : World} (h : PriA w) {i : Nat} (hi : i < 3) : w.cell? ⟨0, i, none⟩ = some (.int .u64 (prm i : Nat)) := by
  obtain ⟨t, fr, h⟩ := h
  match i, hi with
  | 0, _ => simp only [World.cell?, h]; rfl
  | 1, _ => simp only [World.cell?, h]; rfl
  | 2, _ => simp only [World.cell?, h]; rfl
theorem index_a3 (X : Nat → Int) {i : Nat} (hi : i < 3) (w : World) : (Instr.index 60 (.agg #[.int .u64 (X 0), .int .u64 (X 1), .int .u64 (X 2)]) (.int .i64 (i : Int))).run Tryz.prog w = .ok (.int .u64 (X i)) w := by
  match i, hi with
  | 0, _ => simp [Instr.index, run_underlying Tryz.underlying60, asIntOf, part, go_sem]
  | 1, _ => simp [Instr.index, run_underlying Tryz.underlying60, asIntOf, part, go_sem]
  | 2, _ => simp [Instr.index, run_underlying Tryz.underlying60, asIntOf, part, go_sem]
/-- block g holds the n values C. -/
def Rv (w : World) (g : Nat) (t : TypeId) (n : Nat) (C : Nat → Value) : Prop := ∃ cur : Array Value, w.heap[g]? = some (.cells cur t (0, 0)) ∧ cur.size = n ∧ ∀ j, j < n → cur[j]? = some (C j)
theorem Rv.lt {w : World} {g n : Nat} {t : TypeId} {C : Nat → Value} (h : Rv w g t n C) : g < w.heap.size := by obtain ⟨cur, hg, _⟩ := h; exact (Array.getElem?_eq_some_iff.1 hg).1
theorem Rv.cell {w : World} {g n : Nat} {t : TypeId} {C : Nat → Value} (h : Rv w g t n C) {i : Nat} (hi : i < n) : w.cell? ⟨g, i, none⟩ = some (C i) := by
  obtain ⟨cur, hg, _, hc⟩ := h
  simp [World.cell?, hg, hc i hi]
theorem Rv.frozen {w : World} {g n : Nat} {t : TypeId} {C : Nat → Value} (h : Rv w g t n C) (i : Nat) : w.frozen? ⟨g, i, none⟩ = false := by
  obtain ⟨cur, hg, _, hc⟩ := h
  simp [World.frozen?, hg]
theorem Rv.drew {w : World} {g n : Nat} {t : TypeId} {C : Nat → Value} (h : Rv w g t n C) (k : Nat) : Rv (w.drewN k) g t n C := by
  obtain ⟨cur, hg, hs, hc⟩ := h
  exact ⟨cur, by simpa using hg, hs, hc⟩
theorem Rv.below {B : Nat} {w w' : World} {g n : Nat} {t : TypeId} {C : Nat → Value} (h : Rv w g t n C) (hb : Below B w w') (hg : g < B) : Rv w' g t n C := by
  obtain ⟨cur, h1, h2, h3⟩ := h
  exact ⟨cur, by rw [hb.block g hg]; exact h1, h2, h3⟩
theorem Rv.other {w : World} {g n b : Nat} {t : TypeId} {C : Nat → Value} (h : Rv w g t n C) (hg : g ≠ b) (i : Nat) (v : Value) : Rv (w.setCell ⟨b, i, none⟩ v) g t n C := by
  obtain ⟨cur, h1, h2, h3⟩ := h
  exact ⟨cur, by rw [heap_setCell_other w ⟨b, i, none⟩ g v hg]; exact h1, h2, h3⟩
theorem Rv.set {w : World} {g n : Nat} {t : TypeId} {C D : Nat → Value} (h : Rv w g t n C) (i : Nat) (v : Value) (e : ∀ j, j < n → D j = if j = i then v else C j) : Rv (w.setCell ⟨g, i, none⟩ v) g t n D := by
  obtain ⟨cur, hg, hs, hc⟩ := h
  refine ⟨cur.setIfInBounds i v, ?_, by simpa using hs, fun j hj => ?_⟩
  · rw [heap_setCell_same w g i cur t _ hg]
  · rw [e j hj]
    by_cases e : j = i
    · subst e; rw [Array.getElem?_setIfInBounds]; simp [hs, hj]
    · rw [Array.getElem?_setIfInBounds]; simp [Ne.symm e, e, hc j hj]
theorem Rv.eq {w : World} {g n : Nat} {t : TypeId} {C D : Nat → Value} (h : Rv w g t n C) (e : ∀ j, j < n → C j = D j) : Rv w g t n D := by
  obtain ⟨cur, hg, hs, hc⟩ := h
  exact ⟨cur, hg, hs, fun j hj => by rw [← e j hj]; exact hc j hj⟩
theorem Rv.new (w : World) (t : TypeId) (cs : Array Value) (n : Nat) (C : Nat → Value) (hn : cs.size = n) (h : ∀ j, j < n → cs[j]? = some (C j)) : Rv (w.alloc (.cells cs t)) w.heap.size t n C := ⟨cs, heap_alloc_new w _, hn, h⟩
end Go.Proofs.YtocfenjampmdlaaGreatDoor
