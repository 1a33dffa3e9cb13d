/- A number of three words times a word, and a word more, in the landed conv. -/
import Derived.Test.YtocfenjampmdlaaGreatDoorDn
import Derived.Test.YtocfenjampmdlaaGreatDoorBBase
namespace Go.Proofs.YtocfenjampmdlaaGreatDoor
open Go.RowKit Num Nmb

theorem W3.store {w : World} {g : Nat} {t : TypeId} {X : Nat → Int} (h : W3 w g t X) (Y : Nat → Int) :
    W3 (((w.setCell ⟨g, 0, none⟩ (.int .u64 (Y 0))).setCell ⟨g, 1, none⟩ (.int .u64 (Y 1))).setCell ⟨g, 2, none⟩ (.int .u64 (Y 2))) g t Y :=
  (((h.set (i := 0) (by omega) (Y 0)).set (i := 1) (by omega) (Y 1)).set (i := 2) (by omega) (Y 2)).eq fun j hj => by
    match j, hj with
    | 0, _ => rfl
    | 1, _ => rfl
    | 2, _ => rfl
theorem ret_w3 {fn : Func} {tmps : Array Value} {w : World} {t : Tmp} {g : Nat} {X : Nat → Int} (h3 : W3 w g 61 X) (h : fn.results = #[.cell t 61]) (ht : tmps[t]?.getD undef = .pointer (some ⟨g, 0, none⟩)) :
    (results fn tmps).run Tryz.prog w = .ok (.agg #[.int .u64 (X 0), .int .u64 (X 1), .int .u64 (X 2)]) w := by
  have c0 := h3.cell (i := 0) (by omega)
  have c1 := h3.cell (i := 1) (by omega)
  have c2 := h3.cell (i := 2) (by omega)
  simp [results, h, go_sem, ht, c0, c1, c2]
theorem index_w3 (X : Nat → Int) {i : Nat} (hi : i < 3) (w : World) : (Instr.index 61 (.agg #[.int .u64 (X 0), .int .u64 (X 1), .int .u64 (X 2)]) (.int .i64 (i : Int))).run Tryz.prog w = .ok (.int .u64 (X i)) w := by
  match i, hi with
  | 0, _ => simp [Instr.index, run_underlying Tryz.underlying61, asIntOf, part, go_sem]
  | 1, _ => simp [Instr.index, run_underlying Tryz.underlying61, asIntOf, part, go_sem]
  | 2, _ => simp [Instr.index, run_underlying Tryz.underlying61, asIntOf, part, go_sem]
theorem lk_eq {X Y : Nat → Int} : ∀ k, (∀ j, j < k → X j = Y j) → lk X k = lk Y k
  | 0, _ => rfl
  | k + 1, h => by
    show lk X k + X k * _ = lk Y k + Y k * _
    rw [lk_eq k (fun j hj => h j (by omega)), h k (by omega)]
set_option maxHeartbeats 1600000 in
theorem wtimes_any (X : Nat → Int) (b c : Int) (w : World) (hX : ∀ j, j < 3 → 0 ≤ X j ∧ X j ≤ 18446744073709551615) (hb : 0 ≤ b ∧ b ≤ 18446744073709551615) (hc : 0 ≤ c ∧ c ≤ 18446744073709551615) (hs : hvw X * b + c < 6277101735386680763835789423207666416102355444464034512896) :
    Calls Tryz.prog 73 #[.agg #[.int .u64 (X 0), .int .u64 (X 1), .int .u64 (X 2)], .int .u64 b, .int .u64 c] w fun e w' => (∃ Y, e = .returned (.agg #[.int .u64 (Y 0), .int .u64 (Y 1), .int .u64 (Y 2)]) ∧ (∀ j, j < 3 → 0 ≤ Y j ∧ Y j ≤ 18446744073709551615) ∧ hvw Y = hvw X * b + c) ∧ Below w.heap.size w w' := by
  have HX := hid hX
  have HS := hid hs
  have N0 := hid ((W3.new w 61 X).below (below_new' _ (.cells #[.int .u64 0, .int .u64 0, .int .u64 0] 61)) (by simp))
  have N1 : Hid (W3 ((w.alloc (.cells #[.int .u64 (X 0), .int .u64 (X 1), .int .u64 (X 2)] 61)).alloc (.cells #[.int .u64 0, .int .u64 0, .int .u64 0] 61)) (w.heap.size + 1) 61 (fun _ => 0)) := by
    have := W3.new (w.alloc (.cells #[.int .u64 (X 0), .int .u64 (X 1), .int .u64 (X 2)] 61)) 61 (fun _ => 0)
    show W3 _ _ _ _
    simpa using this
  have B0 : Hid (Below w.heap.size w ((w.alloc (.cells #[.int .u64 (X 0), .int .u64 (X 1), .int .u64 (X 2)] 61)).alloc (.cells #[.int .u64 0, .int .u64 0, .int .u64 0] 61))) := (below_new' w _).trans ((below_new' _ _).mono (by simp))
  have IX : Hid (∀ i : Nat, i < 3 → ∀ W : World, (Instr.index 61 (.agg #[.int .u64 (X 0), .int .u64 (X 1), .int .u64 (X 2)]) (.int .i64 (i : Int))).run Tryz.prog W = .ok (.int .u64 (X i)) W) := fun i hi W => index_w3 X hi W
  clear hX hs
  go_enter Tryz.func73, Tryz.ntmps73
  go_wp2
  go_loopw [13, 2] (fun iv cv wr => ∃ (i : Nat) (d : Int) (Y : Nat → Int), iv = .int .i64 i ∧ cv = .int .u64 d ∧ i ≤ 3 ∧ 0 ≤ d ∧ d ≤ 18446744073709551615 ∧ Hid (∀ j, j < 3 → 0 ≤ Y j ∧ Y j ≤ 18446744073709551615) ∧ Hid (lk Y i + d * 18446744073709551616 ^ i = lk X i * b + c) ∧ Hid (W3 wr w.heap.size 61 Y) ∧ Hid (W3 wr (w.heap.size + 1) 61 (fun _ => 0)) ∧ Hid (Below w.heap.size w wr)) (fun iv _ _ => (3 - intOf iv).toNat)
  case atStart => exact ⟨0, c, X, rfl, rfl, by omega, hc.1, hc.2, HX.out, by show (0 : Int) + c * 18446744073709551616 ^ 0 = 0 * b + c; rw [Int.pow_zero]; omega, N0.out, N1.out, B0.out⟩
  case round =>
    obtain ⟨i, d, Y, rfl, rfl, hi, hd0, hd1, HY, HL, HW, HV, HB⟩ := hrel
    by_cases i3 : i = 3
    · subst i3
      have c0 := HW.out.cell (i := 0) (by omega)
      have c1 := HW.out.cell (i := 1) (by omega)
      have c2 := HW.out.cell (i := 2) (by omega)
      have f0 := HV.out.frozen 0
      have f1 := HV.out.frozen 1
      have f2 := HV.out.frozen 2
      have d0 := HV.out.cell (i := 0) (by omega)
      have d1 := HV.out.cell (i := 1) (by omega)
      have d2 := HV.out.cell (i := 2) (by omega)
      have S := hid (HV.out.store Y)
      have B2 : Hid (Below w.heap.size w (((wr.setCell ⟨w.heap.size + 1, 0, none⟩ (.int .u64 (Y 0))).setCell ⟨w.heap.size + 1, 1, none⟩ (.int .u64 (Y 1))).setCell ⟨w.heap.size + 1, 2, none⟩ (.int .u64 (Y 2)))) := below_set (below_set (below_set HB.out (by omega) _ _) (by omega) _ _) (by omega) _ _
      have E : Hid (hvw Y = hvw X * b + c) := by
        have h := HL.out
        rw [lk_three, lk_three, show (18446744073709551616 : Int) ^ 3 = 6277101735386680763835789423207666416102355444464034512896 from by decide] at h
        have := HS.out
        have y0 := HY.out 0 (by omega)
        have y1 := HY.out 1 (by omega)
        have y2 := HY.out 2 (by omega)
        show _ = _
        unfold hvw at h this ⊢
        omega
      clear HX HS N0 N1 B0 IX HL HW HV HB
      go_wp2
      refine bodyPost_ret (ret_w3 S.out rfl rfl) rfl ?_
      exact ⟨⟨Y, rfl, HY.out, E.out⟩, B2.out⟩
    · have hi' : i < 3 := by omega
      have hil : (i : Int) < 3 := by omega
      have ix := IX.out i hi'
      have vx := HX.out i hi'
      obtain ⟨s1, s2, s3, s4, s5, s6, s7, s8, s9, s10⟩ := step_said vx hb ⟨hd0, hd1⟩
      have cl := HW.out.cell (i := i) hi'
      have fl := HW.out.frozen i
      have M := hid (Tryz.bits_Mul64 (X i) b vx.1 vx.2 hb.1 hb.2 wr)
      have A := hid (B.add64_0 (X i * b % 18446744073709551616) d s7 hd0)
      have a1 : B.NumB.lo (X i * b % 18446744073709551616 + d) = (X i * b + d) % 18446744073709551616 := s9
      have a2 : IntKind.u64.wrap (X i * b / 18446744073709551616 + B.NumB.hi (X i * b % 18446744073709551616 + d)) = (X i * b + d) / 18446744073709551616 := by
        unfold B.NumB.hi
        rw [s10, IntKind.wrap_u64]
        omega
      have HL' : Hid (lk (fun j => if j = i then (X i * b + d) % 18446744073709551616 else Y j) (i + 1) + (X i * b + d) / 18446744073709551616 * 18446744073709551616 ^ (i + 1) = lk X (i + 1) * b + c) := by
        show lk (fun j => if j = i then (X i * b + d) % 18446744073709551616 else Y j) i + (if i = i then (X i * b + d) % 18446744073709551616 else Y i) * 18446744073709551616 ^ i + _ = (lk X i + X i * 18446744073709551616 ^ i) * b + c
        rw [if_pos rfl, lk_eq (Y := Y) i (fun j hj => if_neg (by omega)), Int.pow_succ]
        have h := HL.out
        have e := Int.emod_add_mul_ediv (X i * b + d) 18446744073709551616
        generalize (18446744073709551616 : Int) ^ i = K at *
        have e2 : (X i * b + d) % 18446744073709551616 * K + (X i * b + d) / 18446744073709551616 * (K * 18446744073709551616) = (X i * b + d) * K := by
          rw [Int.mul_comm K, ← Int.mul_assoc, ← Int.add_mul, Int.mul_comm ((X i * b + d) / 18446744073709551616), e]
        have e3 : X i * K * b = X i * b * K := Int.mul_right_comm _ _ _
        have e4 : (X i * b + d) * K = X i * b * K + d * K := Int.add_mul _ _ _
        have e5 : (lk X i + X i * K) * b = lk X i * b + X i * K * b := Int.add_mul _ _ _
        omega
      have HY' : Hid (∀ j, j < 3 → 0 ≤ (fun j => if j = i then (X i * b + d) % 18446744073709551616 else Y j) j ∧ (fun j => if j = i then (X i * b + d) % 18446744073709551616 else Y j) j ≤ 18446744073709551615) := fun j hj => by
        show 0 ≤ (if j = i then (X i * b + d) % 18446744073709551616 else Y j) ∧ (if j = i then (X i * b + d) % 18446744073709551616 else Y j) ≤ 18446744073709551615
        by_cases e : j = i
        · rw [if_pos e]; exact ⟨s3, s4⟩
        · rw [if_neg e]; exact HY.out j hj
      have HW' := hid (HW.out.set hi' ((X i * b + d) % 18446744073709551616))
      have HV' := hid (HV.out.other (b := w.heap.size) (by omega) i (.int .u64 ((X i * b + d) % 18446744073709551616)))
      have HB' := hid (below_set HB.out (Nat.le_refl _) i (.int .u64 ((X i * b + d) % 18446744073709551616)))
      rw [a1] at A
      have b1 : 0 ≤ (X i * b + d) / 18446744073709551616 := s1
      clear HX HS N0 N1 B0 IX HY HL HW HV HB s3 s4 s9 s10 a1 vx
      generalize B.NumB.hi (X i * b % 18446744073709551616 + d) = h1 at *
      generalize (X i * b + d) % 18446744073709551616 = v1 at *
      generalize (X i * b + d) / 18446744073709551616 = v2 at *
      generalize X i * b / 18446744073709551616 = v3 at *
      generalize X i * b % 18446744073709551616 = v4 at *
      generalize X i = xi at *
      go_wp2_with (first | (go_at_call 87; refine M.out.mono ?_; rintro e w3 ⟨rfl, rfl⟩) | simp only [A.out])
      exact ⟨⟨i + 1, v2, _, rfl, rfl, by omega, b1, s2, HY', HL', HW', HV', HB'⟩, by simp only [intOf]; omega⟩
/-- the three words of a number. -/
def dgt (N : Int) : Nat → Int
  | 0 => N % 18446744073709551616
  | 1 => N / 18446744073709551616 % 18446744073709551616
  | _ + 2 => N / 18446744073709551616 / 18446744073709551616
theorem hvw_dgt (N : Int) : hvw (dgt N) = N := by
  show N % 18446744073709551616 + 18446744073709551616 * (N / 18446744073709551616 % 18446744073709551616 + 18446744073709551616 * (N / 18446744073709551616 / 18446744073709551616)) = N
  omega
theorem dgt_bd {N : Int} (h0 : 0 ≤ N) (h : N < 6277101735386680763835789423207666416102355444464034512896) : ∀ j, j < 3 → 0 ≤ dgt N j ∧ dgt N j ≤ 18446744073709551615 := fun j hj => by
  match j, hj with
  | 0, _ => show 0 ≤ N % 18446744073709551616 ∧ N % 18446744073709551616 ≤ 18446744073709551615; omega
  | 1, _ => show 0 ≤ N / 18446744073709551616 % 18446744073709551616 ∧ N / 18446744073709551616 % 18446744073709551616 ≤ 18446744073709551615; omega
  | 2, _ => show 0 ≤ N / 18446744073709551616 / 18446744073709551616 ∧ N / 18446744073709551616 / 18446744073709551616 ≤ 18446744073709551615; omega
theorem dgt_hvw {Y : Nat → Int} (h : ∀ j, j < 3 → 0 ≤ Y j ∧ Y j ≤ 18446744073709551615) : ∀ j, j < 3 → Y j = dgt (hvw Y) j := fun j hj => by
  have h0 := h 0 (by omega)
  have h1 := h 1 (by omega)
  have h2 := h 2 (by omega)
  unfold hvw
  match j, hj with
  | 0, _ => show Y 0 = (Y 0 + 18446744073709551616 * (Y 1 + 18446744073709551616 * Y 2)) % 18446744073709551616; omega
  | 1, _ => show Y 1 = (Y 0 + 18446744073709551616 * (Y 1 + 18446744073709551616 * Y 2)) / 18446744073709551616 % 18446744073709551616; omega
  | 2, _ => show Y 2 = (Y 0 + 18446744073709551616 * (Y 1 + 18446744073709551616 * Y 2)) / 18446744073709551616 / 18446744073709551616; omega
theorem wtimes_dgt (N b c : Int) (w : World) (h0 : 0 ≤ N) (hN : N < 6277101735386680763835789423207666416102355444464034512896) (hb : 0 ≤ b ∧ b ≤ 18446744073709551615) (hc : 0 ≤ c ∧ c ≤ 18446744073709551615) (hs : N * b + c < 6277101735386680763835789423207666416102355444464034512896) :
    Calls Tryz.prog 73 #[.agg #[.int .u64 (dgt N 0), .int .u64 (dgt N 1), .int .u64 (dgt N 2)], .int .u64 b, .int .u64 c] w fun e w' => e = .returned (.agg #[.int .u64 (dgt (N * b + c) 0), .int .u64 (dgt (N * b + c) 1), .int .u64 (dgt (N * b + c) 2)]) ∧ Below w.heap.size w w' := by
  refine (wtimes_any (dgt N) b c w (dgt_bd h0 hN) hb hc (by rw [hvw_dgt]; exact hs)).mono ?_
  rintro e w' ⟨⟨Y, rfl, hY, hE⟩, B⟩
  rw [hvw_dgt] at hE
  rw [← hE]
  have y0 := dgt_hvw hY 0 (by omega)
  have y1 := dgt_hvw hY 1 (by omega)
  have y2 := dgt_hvw hY 2 (by omega)
  exact ⟨by rw [← y0, ← y1, ← y2], B⟩
theorem wleft_dgt (N m : Int) (w : World) (h0 : 0 ≤ N) (hN : N < 6277101735386680763835789423207666416102355444464034512896) (hm : 1 ≤ m ∧ m ≤ 18446744073709551615) :
    Calls Tryz.prog 32 #[.agg #[.int .u64 (dgt N 0), .int .u64 (dgt N 1), .int .u64 (dgt N 2)], .int .u64 m] w fun e w' => e = .returned (.int .u64 (N % m)) ∧ Below w.heap.size w w' := by
  have := wleft_any (dgt N) m w (dgt_bd h0 hN) hm
  rw [hvw_dgt] at this
  exact this
end Go.Proofs.YtocfenjampmdlaaGreatDoor
