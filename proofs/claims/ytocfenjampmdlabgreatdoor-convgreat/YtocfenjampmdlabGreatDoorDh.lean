/- The digits of a number that leaves this by the primes (after Garner), in the landed conv. -/
/- The number that leaves this by the primes, in the landed conv. -/
/- What is put together from what a number leaves by the three primes is the number. -/
/- What plansFor answers, in the landed conv; what is laid. -/
import Derived.Test.YtocfenjampmdlabGreatDoorZr
import Derived.Test.YtocfenjampmdlabGreatDoorTm
import Derived.Test.YtocfenjampmdlabGreatDoorBParse
namespace Go.Proofs.YtocfenjampmdlabGreatDoor
open Go.RowKit Num Nmb

/-- one step. -/
def gst (X : Nat → Int) (i j k : Nat) : Int := if k = i then (X i - X j) % (prm i : Nat) * (ivp (prm i) (prm j) : Nat) % (prm i : Nat) else X k
def gin (X : Nat → Int) (i : Nat) : Nat → Nat → Int
  | 0 => X
  | j + 1 => gst (gin X i j) i j
def gou (X : Nat → Int) : Nat → Nat → Int
  | 0 => X
  | i + 1 => gin (gou X i) i i
theorem gst_nn {X : Nat → Int} {i j : Nat} (hi : i < 3) (h : ∀ k, k < 3 → 0 ≤ X k) : ∀ k, k < 3 → 0 ≤ gst X i j k := fun k hk => by
  have := prm_bd hi
  unfold gst
  by_cases e : k = i
  · rw [if_pos e]; exact Int.emod_nonneg _ (by omega)
  · rw [if_neg e]; exact h k hk
theorem gin_nn {X : Nat → Int} {i : Nat} (hi : i < 3) (h : ∀ k, k < 3 → 0 ≤ X k) : ∀ j k, k < 3 → 0 ≤ gin X i j k
  | 0, k, hk => h k hk
  | j + 1, k, hk => gst_nn hi (gin_nn hi h j) k hk
theorem gou_nn {X : Nat → Int} (h : ∀ k, k < 3 → 0 ≤ X k) : ∀ i, i ≤ 3 → ∀ k, k < 3 → 0 ≤ gou X i k
  | 0, _, k, hk => h k hk
  | i + 1, hi, k, hk => gin_nn (by omega) (gou_nn h i (by omega)) i k hk
theorem index_p3 (F : Nat → Nat) {i : Nat} (hi : i < 3) (w : World) : (Instr.index 59 (.agg #[.pointer (some ⟨F 0, 0, none⟩), .pointer (some ⟨F 1, 0, none⟩), .pointer (some ⟨F 2, 0, none⟩)]) (.int .i64 (i : Int))).run Tryz.prog w = .ok (.pointer (some ⟨F i, 0, none⟩)) w := by
  match i, hi with
  | 0, _ => simp [Instr.index, run_underlying Tryz.underlying59, asIntOf, part, go_sem]
  | 1, _ => simp [Instr.index, run_underlying Tryz.underlying59, asIntOf, part, go_sem]
  | 2, _ => simp [Instr.index, run_underlying Tryz.underlying59, asIntOf, part, go_sem]
theorem ret_a3 {fn : Func} {tmps : Array Value} {w : World} {t : Tmp} {g : Nat} {X : Nat → Int} (h3 : W3 w g 47 X) (h : fn.results = #[.cell t 47]) (ht : tmps[t]?.getD undef = .pointer (some ⟨g, 0, none⟩)) :
    (results fn tmps).run Tryz.prog w = .ok (.agg #[.int .u64 (X 0), .int .u64 (X 1), .int .u64 (X 2)]) w := by
  have c0 := h3.cell (i := 0) (by omega)
  have c1 := h3.cell (i := 1) (by omega)
  have c2 := h3.cell (i := 2) (by omega)
  simp [results, h, go_sem, ht, c0, c1, c2]
set_option maxHeartbeats 1600000 in
theorem digits_any (gj : Nat) (F : Nat → Nat) (I X : Nat → Int) (w : World) (R : Rv w gj 62 12 (jc F 3 I)) (J : JF w 3 F) (HI : ∀ i j, j < i → i < 3 → I (3 * i + j) = fv i j) (hX : ∀ k, k < 3 → 0 ≤ X k) :
    Calls Tryz.prog 44 #[.pointer (some ⟨gj, 0, none⟩), .agg #[.int .u64 (X 0), .int .u64 (X 1), .int .u64 (X 2)]] w fun e w' => e = .returned (.agg #[.int .u64 (gou X 3 0), .int .u64 (gou X 3 1), .int .u64 (gou X 3 2)]) ∧ Below w.heap.size w w' := by
  have RR := hid R
  have JJ := hid J
  have II := hid HI
  have NN := hid (gou_nn hX)
  have gl := R.lt
  have Ba : Below w.heap.size w ((w.alloc (.cells #[.int .u64 (X 0), .int .u64 (X 1), .int .u64 (X 2)] 47)).alloc (.cells #[.int .u64 0, .int .u64 0, .int .u64 0] 47)) := (below_new' w _).trans ((below_new' _ _).mono (by simp))
  have BA := hid Ba
  have N0 := hid ((W3.new w 47 X).below (below_new' _ (.cells #[.int .u64 0, .int .u64 0, .int .u64 0] 47)) (by simp))
  have N1 : Hid (W3 ((w.alloc (.cells #[.int .u64 (X 0), .int .u64 (X 1), .int .u64 (X 2)] 47)).alloc (.cells #[.int .u64 0, .int .u64 0, .int .u64 0] 47)) (w.heap.size + 1) 47 (fun _ => 0)) := by
    have := W3.new (w.alloc (.cells #[.int .u64 (X 0), .int .u64 (X 1), .int .u64 (X 2)] 47)) 47 (fun _ => 0)
    show W3 _ _ _ _
    simpa using this
  have Ra := R.below Ba gl
  obtain ⟨c0, c1, c2, -⟩ := jc_cells Ra
  have IX : Hid (∀ i : Nat, i < 3 → ∀ W : World, (Instr.index 59 (.agg #[.pointer (some ⟨F 0, 0, none⟩), .pointer (some ⟨F 1, 0, none⟩), .pointer (some ⟨F 2, 0, none⟩)]) (.int .i64 (i : Int))).run Tryz.prog W = .ok (.pointer (some ⟨F i, 0, none⟩)) W) := fun i hi W => index_p3 F hi W
  clear Ba Ra R J HI hX
  go_enter Tryz.func44, Tryz.ntmps44
  go_wp2
  clear c0 c1 c2
  go_loopw [12] (fun iv wr => ∃ (i : Nat), iv = .int .i64 i ∧ i ≤ 3 ∧ Hid (W3 wr w.heap.size 47 (gou X i)) ∧ Hid (W3 wr (w.heap.size + 1) 47 (fun _ => 0)) ∧ Hid (Below w.heap.size w wr)) (fun iv _ => (3 - intOf iv).toNat)
  case atStart => exact ⟨0, rfl, by omega, N0.out, N1.out, BA.out⟩
  case round =>
    clear BA N0 N1
    obtain ⟨i, rfl, hi, HW, HV, HB⟩ := hrel
    by_cases i3 : i = 3
    · subst i3
      have c0 := HW.out.cell (i := 0) (by omega)
      have c1 := HW.out.cell (i := 1) (by omega)
      have c2 := HW.out.cell (i := 2) (by omega)
      have f0 := HV.out.frozen 0
      have f1 := HV.out.frozen 1
      have f2 := HV.out.frozen 2
      have d0 := HV.out.cell (i := 0) (by omega)
      have d1 := HV.out.cell (i := 1) (by omega)
      have d2 := HV.out.cell (i := 2) (by omega)
      have S := hid (HV.out.store (gou X 3))
      have B2 : Hid (Below w.heap.size w (((wr.setCell ⟨w.heap.size + 1, 0, none⟩ (.int .u64 (gou X 3 0))).setCell ⟨w.heap.size + 1, 1, none⟩ (.int .u64 (gou X 3 1))).setCell ⟨w.heap.size + 1, 2, none⟩ (.int .u64 (gou X 3 2)))) := below_set (below_set (below_set HB.out (by omega) _ _) (by omega) _ _) (by omega) _ _
      clear HW HV HB IX RR JJ II NN
      generalize hY : gou X 3 = Y at *
      have HY := hid hY
      clear hY
      go_wp2
      refine bodyPost_ret (ret_a3 S.out rfl rfl) rfl ?_
      exact ⟨by rw [HY.out], B2.out⟩
    · have hi' : i < 3 := by omega
      have hil : (i : Int) < 3 := by omega
      have ix := IX.out i hi'
      have NI := hid (gin_nn hi' (NN.out i hi))
      have GE : Hid (gin (gou X i) i i = gou X (i + 1)) := rfl
      have G0 : Hid (gin (gou X i) i 0 = gou X i) := rfl
      have GS : Hid (∀ j, gin (gou X i) i (j + 1) = gst (gin (gou X i) i j) i j) := fun _ => rfl
      clear NN IX
      rw [← G0.out] at HW
      clear G0
      generalize gin (gou X i) i = G at *
      go_wp2
      go_loopw [17] (fun jv wr => ∃ (j : Nat), jv = .int .i64 j ∧ j ≤ i ∧ Hid (W3 wr w.heap.size 47 (G j)) ∧ Hid (W3 wr (w.heap.size + 1) 47 (fun _ => 0)) ∧ Hid (Below w.heap.size w wr)) (fun jv _ => ((i : Int) - intOf jv).toNat)
      case atStart => exact ⟨0, rfl, Nat.zero_le _, HW, HV, HB⟩
      case round =>
        clear HW HV HB
        obtain ⟨j, rfl, hj, HW, HV, HB⟩ := hrel
        by_cases hji : j = i
        · have hji' : ¬ (j : Int) < (i : Int) := by omega
          subst hji
          rw [GE.out] at HW
          clear GE GS NI RR JJ II
          go_wp2
          exact ⟨⟨j + 1, rfl, by omega, HW, HV, HB⟩, by simp only [intOf]; omega⟩
        · have hji' : (j : Int) < (i : Int) := by omega
          have hjl : (j : Int) < 3 := by omega
          have rj := RR.out.below HB.out gl
          obtain ⟨f, s, FJ0, OJ⟩ := JJ.out i hi'
          have FJ := FJ0.below HB.out FJ0.lt
          have pb := prm_bd hi'
          have ci := HW.out.cell (i := i) hi'
          have cj := HW.out.cell (i := j) (by omega)
          have cv := rj.cell (i := 3 + i * 3 + j) (by omega)
          have ev : jc F 3 I (3 + i * 3 + j) = .int .u64 (fv i j) := by
            unfold jc
            rw [if_neg (by omega), show 3 + i * 3 + j - 3 = 3 * i + j by omega, II.out i j (by omega) hi']
          rw [ev] at cv
          have fl := HW.out.frozen i
          have n1 := NI.out j i hi'
          have n2 := NI.out j j (by omega)
          have v0 : 0 ≤ fv i j := Int.emod_nonneg _ (by omega)
          have d0 : 0 ≤ (G j i - G j j) % (prm i : Nat) := Int.emod_nonneg _ (by omega)
          have SU : Hid (∀ q, Calls Tryz.prog 69 #[.pointer (some ⟨F i, 0, none⟩), .int .u64 (G j i), .int .u64 (G j j)] (wr.drewN q) fun e w' => e = .returned (.int .u64 ((G j i - G j j) % (prm i : Nat))) ∧ ∃ k, w' = (wr.drewN q).drewN k) := fun q => (sub_any (F i) (prm i : Nat) f s (G j i) (G j j) (wr.drewN q) (FJ.drew q) OJ n1 n2).mono fun e w' h => ⟨h.1, 0, h.2⟩
          have TI : Hid (∀ q, Calls Tryz.prog 68 #[.pointer (some ⟨F i, 0, none⟩), .int .u64 ((G j i - G j j) % (prm i : Nat)), .int .u64 (fv i j)] (wr.drewN q) fun e w' => e = .returned (.tuple #[.int .u64 (G (j + 1) i), .int .i64 0]) ∧ ∃ k, w' = (wr.drewN q).drewN k) := fun q => by
            have := times_form (F i) (prm i : Nat) f s ((G j i - G j j) % (prm i : Nat)) (fv i j) (ivp (prm i) (prm j) : Nat) (wr.drewN q) (FJ.drew q) OJ d0 v0 (by omega) (by unfold fv; rw [Int.emod_emod_of_dvd _ (Int.dvd_refl _)])
            rw [GS.out j, show gst (G j) i j i = (G j i - G j j) % (prm i : Nat) * (ivp (prm i) (prm j) : Nat) % (prm i : Nat) from if_pos rfl]
            exact this
          have NX : Hid (∀ q, W3 ((wr.drewN q).setCell ⟨w.heap.size, i, none⟩ (.int .u64 (G (j + 1) i))) w.heap.size 47 (G (j + 1)) ∧ W3 ((wr.drewN q).setCell ⟨w.heap.size, i, none⟩ (.int .u64 (G (j + 1) i))) (w.heap.size + 1) 47 (fun _ => 0) ∧ Below w.heap.size w ((wr.drewN q).setCell ⟨w.heap.size, i, none⟩ (.int .u64 (G (j + 1) i)))) := fun q =>
            ⟨((HW.out.drew q).set hi' _).eq fun k hk => by
              by_cases e : k = i
              · rw [if_pos e, e]
              · rw [if_neg e, GS.out j]
                exact (if_neg e).symm, (HV.out.drew q).other (by omega) _ _, below_set (below_drewN HB.out q) (Nat.le_refl _) _ _⟩
          clear rj FJ0 FJ OJ ev n1 n2 v0 d0 GE GS NI RR JJ II HW HV HB pb
          generalize (G j i - G j j) % (prm i : Nat) = dd at *
          generalize hG : G (j + 1) = Gn at *
          have HG := hid hG
          clear hG
          generalize fv i j = vv at *
          go_wp2_with fail
          refine wp_region_last1 21 rfl rfl rfl (by kernel_rfl) (fun _ _ _ _ h => h) (by kernel_rfl) (by kernel_rfl) (by kernel_rfl) (by kernel_rfl) (by kernel_rfl) (by decide) ?_
          simp only [stillLast, still, lastOf]
          repeat (quiet_step (first | (go_at_call 69; exact Calls.quiet_of (SU.out _)) | (go_at_call 68; exact Calls.quiet_of (TI.out _))))
          refine wpQuiet_nil ?_
          intro _ hw'
          obtain ⟨nq, hw''⟩ := hw'
          subst hw''
          have N2 := hid (NX.out nq)
          have fl2 : (wr.drewN nq).frozen? ⟨w.heap.size, i, none⟩ = false := by simpa using fl
          have cl2 : (wr.drewN nq).cell? ⟨w.heap.size, i, none⟩ = some (.int .u64 (G j i)) := by simpa using ci
          clear SU TI fl ci cj cv NX
          generalize wr.drewN nq = w8 at *
          go_wp2
          exact ⟨⟨j + 1, rfl, by omega, by rw [HG.out]; exact N2.out.1, N2.out.2.1, N2.out.2.2⟩, by simp only [intOf]; omega⟩
end Go.Proofs.YtocfenjampmdlabGreatDoor
namespace Go.Proofs.YtocfenjampmdlabGreatDoor
open Go.RowKit Num Nmb

/-- the number of the k highest digits. -/
def hh (D : Nat → Int) : Nat → Int
  | 0 => 0
  | k + 1 => hh D k * (prm (2 - k) : Nat) + D (2 - k)
theorem hh_bd {D : Nat → Int} (h : ∀ k, k < 3 → 0 ≤ D k ∧ D k < (prm k : Nat)) : ∀ k, k ≤ 3 → 0 ≤ hh D k ∧ hh D k < 9223372036836950017 ^ k
  | 0, _ => by show (0 : Int) ≤ 0 ∧ (0 : Int) < 1; omega
  | k + 1, hk => by
    obtain ⟨h1, h2⟩ := hh_bd h k (by omega)
    have h3 := h (2 - k) (by omega)
    have h4 := prm_bd (show 2 - k < 3 by omega)
    show 0 ≤ hh D k * (prm (2 - k) : Nat) + D (2 - k) ∧ hh D k * (prm (2 - k) : Nat) + D (2 - k) < 9223372036836950017 ^ (k + 1)
    generalize prm (2 - k) = p at *
    generalize D (2 - k) = d at *
    generalize hh D k = x at *
    rw [Int.pow_succ]
    generalize (9223372036836950017 : Int) ^ k = K at *
    have a1 := Int.mul_nonneg h1 (show (0 : Int) ≤ (p : Int) by omega)
    have a2 : (x + 1) * (p : Int) ≤ K * (p : Int) := Int.mul_le_mul_of_nonneg_right (by omega) (by omega)
    have a3 : K * (p : Int) ≤ K * 9223372036836950017 := Int.mul_le_mul_of_nonneg_left (by omega) (by omega)
    rw [Int.add_mul, Int.one_mul] at a2
    omega
theorem hh_lt {D : Nat → Int} (h : ∀ k, k < 3 → 0 ≤ D k ∧ D k < (prm k : Nat)) (k : Nat) (hk : k ≤ 3) : 0 ≤ hh D k ∧ hh D k < 6277101735386680763835789423207666416102355444464034512896 := by
  obtain ⟨h1, h2⟩ := hh_bd h k hk
  refine ⟨h1, Int.lt_of_lt_of_le h2 ?_⟩
  rcases (show k = 0 ∨ k = 1 ∨ k = 2 ∨ k = 3 by omega) with rfl | rfl | rfl | rfl <;> decide
set_option maxHeartbeats 1600000 in
theorem number_any (gj : Nat) (F : Nat → Nat) (I X : Nat → Int) (w : World) (L : PriA w) (R : Rv w gj 62 12 (jc F 3 I)) (J : JF w 3 F) (HI : ∀ i j, j < i → i < 3 → I (3 * i + j) = fv i j) (hX : ∀ k, k < 3 → 0 ≤ X k) (hD : ∀ k, k < 3 → 0 ≤ gou X 3 k ∧ gou X 3 k < (prm k : Nat)) :
    Calls Tryz.prog 23 #[.pointer (some ⟨gj, 0, none⟩), .agg #[.int .u64 (X 0), .int .u64 (X 1), .int .u64 (X 2)]] w fun e w' => e = .returned (.agg #[.int .u64 (dgt (hh (gou X 3) 3) 0), .int .u64 (dgt (hh (gou X 3) 3) 1), .int .u64 (dgt (hh (gou X 3) 3) 2)]) ∧ Below w.heap.size w w' := by
  have LL := hid L
  have l0 := L.lt
  have Ba : Below w.heap.size w ((w.alloc (.cells #[.int .u64 (X 0), .int .u64 (X 1), .int .u64 (X 2)] 47)).alloc (.cells #[.int .u64 0, .int .u64 0, .int .u64 0] 48)) := (below_new' w _).trans ((below_new' _ _).mono (by simp))
  have BA := hid Ba
  have n0 := (W3.new w 47 X).below (below_new' _ (.cells #[.int .u64 0, .int .u64 0, .int .u64 0] 48)) (by simp)
  have N1 : Hid (W3 ((w.alloc (.cells #[.int .u64 (X 0), .int .u64 (X 1), .int .u64 (X 2)] 47)).alloc (.cells #[.int .u64 0, .int .u64 0, .int .u64 0] 48)) (w.heap.size + 1) 48 (fun _ => 0)) := by
    have := W3.new (w.alloc (.cells #[.int .u64 (X 0), .int .u64 (X 1), .int .u64 (X 2)] 47)) 48 (fun _ => 0)
    show W3 _ _ _ _
    simpa using this
  have DI := hid (digits_any gj F I X _ (R.below Ba R.lt) (J.below Ba) HI hX)
  have c0 := n0.cell (i := 0) (by omega)
  have c1 := n0.cell (i := 1) (by omega)
  have c2 := n0.cell (i := 2) (by omega)
  have HL := hid (hh_lt hD)
  have HD := hid hD
  have HH : Hid (∀ k, hh (gou X 3) (k + 1) = hh (gou X 3) k * (prm (2 - k) : Nat) + gou X 3 (2 - k)) := fun _ => rfl
  have H0 : Hid (hh (gou X 3) 0 = 0) := rfl
  clear Ba n0 L R J HI hX hD
  generalize gou X 3 = Y at *
  generalize hh Y = H at *
  go_enter Tryz.func23, Tryz.ntmps23
  go_wp2_with fail
  refine DI.out.mono ?_
  rintro e w3 ⟨rfl, B3⟩
  clear DI c0 c1 c2
  have Q5 : Hid (∀ W5, W5 = (w3.alloc (.cells #[.int .u64 (Y 0), .int .u64 (Y 1), .int .u64 (Y 2)] 47)).alloc (.cells #[.int .u64 0, .int .u64 0, .int .u64 0] 48) → W3 W5 w3.heap.size 47 Y ∧ W3 W5 (w3.heap.size + 1) 48 (dgt 0) ∧ W3 W5 (w.heap.size + 1) 48 (fun _ => 0) ∧ PriA W5 ∧ Below w.heap.size w W5) := by
    intro W5 hW5
    have q1 := W3.new w3 47 Y
    have b1 := (below_new' w3 (.cells #[.int .u64 (Y 0), .int .u64 (Y 1), .int .u64 (Y 2)] 47))
    have z2 : (w3.alloc (.cells #[.int .u64 (Y 0), .int .u64 (Y 1), .int .u64 (Y 2)] 47)).heap.size = w3.heap.size + 1 := by simp
    have q3 := W3.new (w3.alloc (.cells #[.int .u64 (Y 0), .int .u64 (Y 1), .int .u64 (Y 2)] 47)) 48 (dgt 0)
    rw [z2] at q3
    have b3 := b1.trans ((below_new' _ (.cells #[.int .u64 0, .int .u64 0, .int .u64 0] 48)).mono (by rw [z2]; omega))
    have b4 := BA.out.trans (B3.mono BA.out.size)
    have b5 := b4.trans (b3.mono b4.size)
    have s3 := B3.size
    subst hW5
    exact ⟨q1.below (below_new' _ _) (by rw [z2]; omega), q3, ((N1.out.below B3 N1.out.lt).below b3 (Nat.lt_of_lt_of_le N1.out.lt s3)), LL.out.below b5 l0, b5⟩
  go_wp2
  go_loopw [7] (fun iv wr => ∃ (k : Nat), iv = .int .i64 (2 - (k : Int)) ∧ k ≤ 3 ∧ Hid (W3 wr w3.heap.size 47 Y) ∧ Hid (W3 wr (w3.heap.size + 1) 48 (dgt (H k))) ∧ Hid (W3 wr (w.heap.size + 1) 48 (fun _ => 0)) ∧ Hid (PriA wr) ∧ Hid (Below w.heap.size w wr)) (fun iv _ => (intOf iv + 1).toNat)
  case atStart =>
    obtain ⟨a1, a2, a3, a4, a5⟩ := Q5.out _ rfl
    exact ⟨0, rfl, by omega, a1, by rw [H0.out]; exact a2, a3, a4, a5⟩
  case round =>
    have g1 : w.heap.size + 1 < w3.heap.size := by
      have := N1.out.lt
      have := B3.size
      omega
    clear Q5 BA N1 LL B3
    obtain ⟨k, rfl, hk, HY, HX, HV, HP, HB⟩ := hrel
    generalize w3.heap.size = gd at *
    by_cases k3 : k = 3
    · subst k3
      have c0 := HX.out.cell (i := 0) (by omega)
      have c1 := HX.out.cell (i := 1) (by omega)
      have c2 := HX.out.cell (i := 2) (by omega)
      have f0 := HV.out.frozen 0
      have f1 := HV.out.frozen 1
      have f2 := HV.out.frozen 2
      have d0 := HV.out.cell (i := 0) (by omega)
      have d1 := HV.out.cell (i := 1) (by omega)
      have d2 := HV.out.cell (i := 2) (by omega)
      have S := hid (HV.out.store (dgt (H 3)))
      have B2 : Hid (Below w.heap.size w (((wr.setCell ⟨w.heap.size + 1, 0, none⟩ (.int .u64 (dgt (H 3) 0))).setCell ⟨w.heap.size + 1, 1, none⟩ (.int .u64 (dgt (H 3) 1))).setCell ⟨w.heap.size + 1, 2, none⟩ (.int .u64 (dgt (H 3) 2)))) := below_set (below_set (below_set HB.out (by omega) _ _) (by omega) _ _) (by omega) _ _
      clear HY HX HV HP HB HL HD HH H0
      generalize hZ : dgt (H 3) = Z at *
      have HZ := hid hZ
      clear hZ
      go_wp2
      refine bodyPost_ret (ret_w3 S.out rfl rfl) rfl ?_
      exact ⟨by rw [HZ.out], B2.out⟩
    · obtain ⟨i, hi, hi3⟩ : ∃ i : Nat, 2 - (k : Int) = (i : Int) ∧ i = 2 - k := ⟨2 - k, by omega, rfl⟩
      have hil : (i : Int) < 3 := by omega
      have hk' : Hid (2 - ((k + 1 : Nat) : Int) = (i : Int) - 1) := by show _ = _; omega
      have hl := HL.out k (by omega)
      have hl2 := HL.out (k + 1) (by omega)
      have hd := HD.out i (by omega)
      have pb := prm_bd (show i < 3 by omega)
      have hs := HH.out k
      rw [← hi3] at hs
      rw [hs] at hl2
      have gl : gd + 1 < wr.heap.size := HX.out.lt
      have TA : Hid (∀ x : Beh wr, Calls Tryz.prog 45 #[.agg #[.int .u64 (dgt (H k) 0), .int .u64 (dgt (H k) 1), .int .u64 (dgt (H k) 2)], .int .u64 (prm i : Nat), .int .u64 (Y i)] x.1 fun e w' => e = .returned (.agg #[.int .u64 (dgt (H (k + 1)) 0), .int .u64 (dgt (H (k + 1)) 1), .int .u64 (dgt (H (k + 1)) 2)]) ∧ Below x.1.heap.size x.1 w') := fun x => by
        rw [hs]
        exact wtimes_dgt (H k) (prm i : Nat) (Y i) x.1 hl.1 hl.2 (by omega) (by omega) hl2.2
      have e0 : ∀ x : Beh wr, x.1.cell? ⟨gd + 1, 0, none⟩ = some (.int .u64 (dgt (H k) 0)) := fun x => (HX.out.below x.2 gl).cell (by omega)
      have e1 : ∀ x : Beh wr, x.1.cell? ⟨gd + 1, 1, none⟩ = some (.int .u64 (dgt (H k) 1)) := fun x => (HX.out.below x.2 gl).cell (by omega)
      have e2 : ∀ x : Beh wr, x.1.cell? ⟨gd + 1, 2, none⟩ = some (.int .u64 (dgt (H k) 2)) := fun x => (HX.out.below x.2 gl).cell (by omega)
      have f0 : ∀ x : Beh wr, x.1.frozen? ⟨gd + 1, 0, none⟩ = false := fun x => (HX.out.below x.2 gl).frozen _
      have f1 : ∀ x : Beh wr, x.1.frozen? ⟨gd + 1, 1, none⟩ = false := fun x => (HX.out.below x.2 gl).frozen _
      have f2 : ∀ x : Beh wr, x.1.frozen? ⟨gd + 1, 2, none⟩ = false := fun x => (HX.out.below x.2 gl).frozen _
      have cp : ∀ x : Beh wr, x.1.cell? ⟨0, i, none⟩ = some (.int .u64 (prm i : Nat)) := fun x => (HP.out.below x.2 HP.out.lt).cell (by omega)
      have cy : ∀ x : Beh wr, x.1.cell? ⟨gd, i, none⟩ = some (.int .u64 (Y i)) := fun x => (HY.out.below x.2 HY.out.lt).cell (by omega)
      have NX : Hid (∀ (x : Beh wr) W, W = ((x.1.setCell ⟨gd + 1, 0, none⟩ (.int .u64 (dgt (H (k + 1)) 0))).setCell ⟨gd + 1, 1, none⟩ (.int .u64 (dgt (H (k + 1)) 1))).setCell ⟨gd + 1, 2, none⟩ (.int .u64 (dgt (H (k + 1)) 2)) → W3 W gd 47 Y ∧ W3 W (gd + 1) 48 (dgt (H (k + 1))) ∧ W3 W (w.heap.size + 1) 48 (fun _ => 0) ∧ PriA W ∧ Below w.heap.size w W) := by
        intro x W hW
        have b1 : Below (gd + 1) wr W := by
          rw [hW]
          exact below_set (below_set (below_set (x.2.mono (Nat.le_of_lt gl)) (Nat.le_refl _) _ _) (Nat.le_refl _) _ _) (Nat.le_refl _) _ _
        refine ⟨HY.out.below b1 (by omega), ?_, HV.out.below b1 (by omega), HP.out.below b1 (by omega), HB.out.trans (b1.mono (by omega))⟩
        rw [hW]
        exact (HX.out.below x.2 gl).store _
      rw [hi]
      clear HY HX HV HP HB HL HD HH H0 hl hl2 hd pb hs hi3 hi
      generalize hA : dgt (H (k + 1)) = A at *
      have HA := hid hA
      clear hA
      generalize dgt (H k) = A0 at *
      have nb := Beh.some wr
      go_wp2_with fail
      refine wp_region_last_beh (by kernel_rfl) (by kernel_rfl) (by kernel_rfl) (by kernel_rfl) (by decide) ?_
      simp only [stillLast, still, lastOf]
      repeat (go_big_quiet_step ((go_at_call 45; rename_i x; exact Calls.beh_of (TA.out _))))
      refine wpQuiet_nil ?_
      intro _ hw'
      obtain ⟨x9, rfl⟩ := hw'
      have N6 := hid (NX.out x9 _ rfl)
      have g0 := e0 x9
      have g1' := e1 x9
      have g2 := e2 x9
      have h0 := f0 x9
      have h1 := f1 x9
      have h2 := f2 x9
      clear e0 e1 e2 f0 f1 f2 cp cy NX TA
      generalize x9.1 = w9 at *
      go_wp2
      exact ⟨⟨k + 1, by rw [hk'.out], by omega, N6.out.1, by rw [HA.out]; exact N6.out.2.1, N6.out.2.2.1, N6.out.2.2.2.1, N6.out.2.2.2.2⟩, by simp only [intOf]; omega⟩
end Go.Proofs.YtocfenjampmdlabGreatDoor
namespace Go.Proofs.YtocfenjampmdlabGreatDoor
open Go.RowKit Num Nmb

theorem ivp_cg {i j : Nat} (hi : i < 3) (hj : j < i) : Cg (prm i) (((ivp (prm i) (prm j) : Nat) : Int) * (prm j : Nat)) 1 := by
  have h := ivp_said (prm_pri hi) (prm_nz hi hj)
  have := prm_bd hi
  unfold Cg
  rw [Int.mul_comm, ← Int.natCast_mul, ← Int.natCast_emod, h, show ((1 : Nat) : Int) = 1 from rfl, Int.emod_eq_of_lt (by omega) (by omega)]
theorem mod_mul (a u m : Int) : a % m * u % m = a * u % m := by rw [Int.mul_emod, Int.emod_emod_of_dvd _ (Int.dvd_refl _), ← Int.mul_emod]
theorem gst_same (X : Nat → Int) (i j : Nat) : gst X i j i = (X i - X j) % (prm i : Nat) * (ivp (prm i) (prm j) : Nat) % (prm i : Nat) := if_pos rfl
theorem gst_other (X : Nat → Int) {i j k : Nat} (h : k ≠ i) : gst X i j k = X k := if_neg h
theorem gou_three (X : Nat → Int) : gou X 3 = gst (gst (gst X 1 0) 2 0) 2 1 := rfl
theorem gou_0 (X : Nat → Int) : gou X 3 0 = X 0 := by rw [gou_three, gst_other _ (by decide), gst_other _ (by decide), gst_other _ (by decide)]
theorem gou_1 (X : Nat → Int) : gou X 3 1 = (X 1 - X 0) * (ivp (prm 1) (prm 0) : Nat) % (prm 1 : Nat) := by rw [gou_three, gst_other _ (by decide), gst_other _ (by decide), gst_same, mod_mul]
theorem gou_2 (X : Nat → Int) : gou X 3 2 = ((X 2 - X 0) * (ivp (prm 2) (prm 0) : Nat) % (prm 2 : Nat) - gou X 3 1) * (ivp (prm 2) (prm 1) : Nat) % (prm 2 : Nat) := by
  have e : gou X 3 1 = gst (gst X 1 0) 2 0 1 := by rw [gou_three, gst_other _ (by decide)]
  rw [e, gou_three, gst_same, mod_mul, gst_same, mod_mul, gst_other (X := X) (i := 1) (j := 0) (k := 2) (by decide), gst_other (X := X) (i := 1) (j := 0) (k := 0) (by decide)]
theorem gou_in {A : Int} {X : Nat → Int} (hX : ∀ k, k < 3 → X k = A % (prm k : Nat)) : ∀ k, k < 3 → 0 ≤ gou X 3 k ∧ gou X 3 k < (prm k : Nat) := fun k hk => by
  have p0 := prm_bd (show 0 < 3 by omega)
  have p1 := prm_bd (show 1 < 3 by omega)
  have p2 := prm_bd (show 2 < 3 by omega)
  match k, hk with
  | 0, _ =>
    rw [gou_0, hX 0 (by omega)]
    exact ⟨Int.emod_nonneg _ (by omega), Int.emod_lt_of_pos _ (by omega)⟩
  | 1, _ =>
    rw [gou_1]
    exact ⟨Int.emod_nonneg _ (by omega), Int.emod_lt_of_pos _ (by omega)⟩
  | 2, _ =>
    rw [gou_2]
    exact ⟨Int.emod_nonneg _ (by omega), Int.emod_lt_of_pos _ (by omega)⟩
theorem garner {A : Int} {X : Nat → Int} (h0 : 0 ≤ A) (h : A < 374144419156711147060143317175368453031918731001856) (hX : ∀ k, k < 3 → X k = A % (prm k : Nat)) : hh (gou X 3) 3 = A := by
  have b0 := gou_in hX 0 (by omega)
  have b1 := gou_in hX 1 (by omega)
  have b2 := gou_in hX 2 (by omega)
  have e0 := gou_0 X
  have e1 := gou_1 X
  obtain ⟨t, ht⟩ : ∃ t, t = (X 2 - X 0) * (ivp (prm 2) (prm 0) : Nat) % (prm 2 : Nat) := ⟨_, rfl⟩
  have e2 := gou_2 X
  rw [← ht] at e2
  have s1 := garner_step (ivp_cg (i := 1) (j := 0) (by omega) (by omega)) e1
  have s2 := garner_step (ivp_cg (i := 2) (j := 1) (by omega) (by omega)) e2
  have s3 := garner_step (ivp_cg (i := 2) (j := 0) (by omega) (by omega)) ht
  have l1 := garner_lt b1 b2
  rw [e0] at b0
  have l2 := garner_lt b0 l1
  have eH : hh (gou X 3) 3 = X 0 + (prm 0 : Nat) * (gou X 3 1 + (prm 1 : Nat) * gou X 3 2) := by
    generalize gou X 3 = Y at *
    show ((0 * ((prm 2 : Nat) : Int) + Y 2) * (prm 1 : Nat) + Y 1) * (prm 0 : Nat) + Y 0 = _
    rw [e0, Int.zero_mul, Int.zero_add, Int.mul_comm (Y 2), Int.add_comm _ (Y 1), Int.mul_comm _ ((prm 0 : Nat) : Int), Int.add_comm]
  rw [eH]
  have q0 : Cg (prm 0) A (X 0) := by rw [hX 0 (by omega)]; exact Cg.mod.symm
  have q1 : Cg (prm 1) A (X 1) := by rw [hX 1 (by omega)]; exact Cg.mod.symm
  have q2 : Cg (prm 2) A (X 2) := by rw [hX 2 (by omega)]; exact Cg.mod.symm
  have r0 : Cg (prm 0) (X 0 + (prm 0 : Nat) * (gou X 3 1 + (prm 1 : Nat) * gou X 3 2)) A := by
    refine Cg.trans ?_ q0.symm
    unfold Cg
    rw [Int.add_mul_emod_self_left]
  have r1 : Cg (prm 1) (X 0 + (prm 0 : Nat) * (gou X 3 1 + (prm 1 : Nat) * gou X 3 2)) A :=
    (((Cg.rfl (p := prm 1) (a := X 0)).add ((Cg.rfl (p := prm 1) (a := ((prm 0 : Nat) : Int))).mul s2.1)).trans s1.2).trans q1.symm
  have r2 : Cg (prm 2) (X 0 + (prm 0 : Nat) * (gou X 3 1 + (prm 1 : Nat) * gou X 3 2)) A :=
    (((Cg.rfl (p := prm 2) (a := X 0)).add ((Cg.rfl (p := prm 2) (a := ((prm 0 : Nat) : Int))).mul s2.2)).trans s3.2).trans q2.symm
  have pp : prm 0 * (prm 1 * prm 2) = prm 0 * prm 1 * prm 2 := (Nat.mul_assoc _ _ _).symm
  rw [pp] at l2
  refine crt3 (prm_pri (i := 0) (by omega)) (prm_pri (i := 1) (by omega)) (prm_pri (i := 2) (by omega)) (by decide) (by decide) (by decide) r0 r1 r2 l2 ⟨h0, Int.lt_trans h ?_⟩
  have : 374144419156711147060143317175368453031918731001856 < prm 0 * prm 1 * prm 2 := by decide
  exact Int.ofNat_lt.2 this
end Go.Proofs.YtocfenjampmdlabGreatDoor
namespace Go.Proofs.YtocfenjampmdlabGreatDoor
open Go.RowKit Num Nmb

/-- what is laid: prime's tables, that by which numbers are printed, and the primes. -/
structure LayB (w : World) : Prop where
  lay : Lay w
  tab : B.Tab w
  pri : PriA w
theorem LayB.below {w w' : World} (h : LayB w) (hb : Below w.heap.size w w') : LayB w' := ⟨h.lay.below hb h.lay.size, h.tab.below hb h.tab.lt, h.pri.below hb h.pri.lt⟩
theorem prm_tw {i : Nat} (h : i < 3) : 20 ≤ tw (prm i) := by
  match i, h with
  | 0, _ => decide +kernel
  | 1, _ => decide +kernel
  | 2, _ => decide +kernel
/-- block b is no plan's. -/
theorem Pln.set {w : World} {g p k r b n : Nat} {t : TypeId} {C : Nat → Value} (h : Pln w g p k r) (R : Rv w b t n C) (h1 : t ≠ 87) (h2 : t ≠ 111) (h3 : t ≠ 22) (i : Nat) (v : Value) : Pln (w.setCell ⟨b, i, none⟩ v) g p k r := by
  obtain ⟨h0, gf, gm, hh, f, s, F, e, O⟩ := h
  obtain ⟨cur, hb, _⟩ := R
  refine ⟨h0, gf, gm, hh, f, s, F.only ((OnlyB.refl b w).set i v) ⟨?_, ?_, ?_⟩, e, O⟩
  · rintro rfl
    have := F.tc
    unfold PlnC at this
    rw [this] at hb
    injection hb with hb
    injection hb with _ hb
    exact h1 hb.symm
  · rintro rfl
    have := F.fld
    unfold Fld at this
    rw [this] at hb
    injection hb with hb
    injection hb with _ hb
    exact h2 hb.symm
  · rintro rfl
    obtain ⟨c2, hc, _⟩ := F.row
    rw [hc] at hb
    injection hb with hb
    injection hb with _ hb
    exact h3 hb.symm
/-- the cells of three plans, i of which are made. -/
def pc (G : Nat → Nat) (i j : Nat) : Value := if j < i then .pointer (some ⟨G j, 0, none⟩) else .pointer none
theorem pz_new (w : World) (t : TypeId) (G : Nat → Nat) : Rv (w.alloc (.cells #[.pointer none, .pointer none, .pointer none] t)) w.heap.size t 3 (pc G 0) := Rv.new w _ _ _ _ rfl fun j hj => by
  match j, hj with
  | 0, _ => rfl
  | 1, _ => rfl
  | 2, _ => rfl
theorem ret_p3 {fn : Func} {tmps : Array Value} {w : World} {t : Tmp} {g : Nat} {V : Nat → Value} (h3 : Rv w g 55 3 V) (h : fn.results = #[.cell t 55]) (ht : tmps[t]?.getD undef = .pointer (some ⟨g, 0, none⟩)) :
    (results fn tmps).run Tryz.prog w = .ok (.agg #[V 0, V 1, V 2]) w := by
  have c0 := h3.cell (i := 0) (by omega)
  have c1 := h3.cell (i := 1) (by omega)
  have c2 := h3.cell (i := 2) (by omega)
  simp [results, h, go_sem, ht, c0, c1, c2]
set_option maxHeartbeats 1600000 in
theorem plansFor_any (M k : Nat) (w : World) (L : LayB w) (h1 : 1 ≤ M) (h20 : M ≤ 1048576) (hk : k = Lib.bitLen (M - 1)) :
    Calls Tryz.prog 20 #[.int .i64 M] w fun e w' => (∃ G : Nat → Nat, e = .returned (.agg #[.pointer (some ⟨G 0, 0, none⟩), .pointer (some ⟨G 1, 0, none⟩), .pointer (some ⟨G 2, 0, none⟩)]) ∧ ∀ t, t < 3 → ∃ r, Pln w' (G t) (prm t) k r) ∧ Below w.heap.size w w' := by
  have k20 : k ≤ 20 := by
    rw [hk]
    exact (bl_said 20 (M - 1) (by omega) (by omega)).2
  have l0 := L.pri.lt
  have Ba : Below w.heap.size w ((w.alloc (.cells #[.pointer none, .pointer none, .pointer none] 55)).alloc (.cells #[.pointer none, .pointer none, .pointer none] 55)) := (below_new' w _).trans ((below_new' _ _).mono (by simp))
  have BA := hid Ba
  have La := L.below Ba
  have LA := hid La
  have c0 := La.pri.cell (i := 0) (by omega)
  have c1 := La.pri.cell (i := 1) (by omega)
  have c2 := La.pri.cell (i := 2) (by omega)
  have R0 := hid (fun G => (pz_new w 55 G).below (below_new' _ (.cells #[.pointer none, .pointer none, .pointer none] 55)) (by simp))
  have R1 : Hid (∀ G, Rv ((w.alloc (.cells #[.pointer none, .pointer none, .pointer none] 55)).alloc (.cells #[.pointer none, .pointer none, .pointer none] 55)) (w.heap.size + 1) 55 3 (pc G 0)) := fun G => by
    have := pz_new (w.alloc (.cells #[.pointer none, .pointer none, .pointer none] 55)) 55 G
    simpa using this
  have IX : Hid (∀ i : Nat, i < 3 → ∀ W : World, (Instr.index 47 (.agg #[.int .u64 (prm 0 : Nat), .int .u64 (prm 1 : Nat), .int .u64 (prm 2 : Nat)]) (.int .i64 (i : Int))).run Tryz.prog W = .ok (.int .u64 (prm i : Nat)) W) := fun i hi W => index_a3 (fun i => (prm i : Nat)) hi W
  have BL : Hid (∀ W, Calls Tryz.prog 35 #[.int .u64 ((M : Int) - 1)] W fun e w' => e = .returned (.int .i64 k) ∧ w' = W) := fun W => by
    have := blen_any (M - 1) W (by omega)
    rw [← hk, show ((M - 1 : Nat) : Int) = (M : Int) - 1 by omega] at this
    exact this
  have mw : IntKind.i64.wrap ((M : Int) - 1) = (M : Int) - 1 := by rw [IntKind.wrap_i64]; omega
  have mu : IntKind.u64.wrap ((M : Int) - 1) = (M : Int) - 1 := by rw [IntKind.wrap_u64]; omega
  have TN : Hid (∀ i, i < 3 → ∀ W, LayB W → Calls Tryz.prog 36 #[.int .u64 (prm i : Nat), .int .i64 k] W fun e w' => (∃ g r, e = .returned (.tuple #[.pointer (some ⟨g, 0, none⟩), .int .i64 0]) ∧ Pln w' g (prm i) k r) ∧ Below W.heap.size W w') := fun i hi W LW => by
    have := prm_bd hi
    exact tnew_yes (prm i) k W (prm_pri hi) (by omega) k20 (Nat.le_trans k20 (prm_tw hi)) LW.lay
  have LB : Hid (∀ W, Below w.heap.size w W → LayB W) := fun W B => L.below B
  clear Ba La L hk
  go_enter Tryz.func20, Tryz.ntmps20
  go_wp2_with fail
  refine (BL.out _).mono ?_
  rintro e w2 ⟨rfl, hw⟩
  obtain rfl := hw.symm
  clear BL
  go_wp2
  clear c0 c1 c2
  go_loopw [12] (fun iv wr => ∃ (i : Nat) (G : Nat → Nat), iv = .int .i64 i ∧ i ≤ 3 ∧ Hid (Rv wr (w.heap.size + 1) 55 3 (pc G i)) ∧ Hid (∀ t, t < i → ∃ r, Pln wr (G t) (prm t) k r) ∧ Hid (Rv wr w.heap.size 55 3 (pc G 0)) ∧ Hid (LayB wr) ∧ Hid (Below w.heap.size w wr)) (fun iv _ => (3 - intOf iv).toNat)
  case atStart => exact ⟨0, fun _ => 0, rfl, by omega, R1.out _, fun t ht => absurd ht (by omega), R0.out _, LA.out, BA.out⟩
  case round =>
    clear R0 R1 LA BA
    obtain ⟨i, G, rfl, hi, HG, HP, HZ, HL, HB⟩ := hrel
    by_cases i3 : i = 3
    · subst i3
      have c0 : wr.cell? ⟨w.heap.size + 1, 0, none⟩ = some (.pointer (some ⟨G 0, 0, none⟩)) := HG.out.cell (i := 0) (by omega)
      have c1 : wr.cell? ⟨w.heap.size + 1, 1, none⟩ = some (.pointer (some ⟨G 1, 0, none⟩)) := HG.out.cell (i := 1) (by omega)
      have c2 : wr.cell? ⟨w.heap.size + 1, 2, none⟩ = some (.pointer (some ⟨G 2, 0, none⟩)) := HG.out.cell (i := 2) (by omega)
      have f0 := HZ.out.frozen 0
      have f1 := HZ.out.frozen 1
      have f2 := HZ.out.frozen 2
      have d0 := HZ.out.cell (i := 0) (by omega)
      have d1 := HZ.out.cell (i := 1) (by omega)
      have d2 := HZ.out.cell (i := 2) (by omega)
      have s0 := HZ.out.set (D := fun j => if j = 0 then (.pointer (some ⟨G 0, 0, none⟩)) else pc G 0 j) 0 (.pointer (some ⟨G 0, 0, none⟩)) (fun _ _ => rfl)
      have s1 := s0.set (D := fun j => if j = 1 then (.pointer (some ⟨G 1, 0, none⟩)) else if j = 0 then (.pointer (some ⟨G 0, 0, none⟩)) else pc G 0 j) 1 (.pointer (some ⟨G 1, 0, none⟩)) (fun _ _ => rfl)
      have s2 := s1.set (D := pc G 3) 2 (.pointer (some ⟨G 2, 0, none⟩)) (fun j hj => by
        match j, hj with
        | 0, _ => rfl
        | 1, _ => rfl
        | 2, _ => rfl)
      have S := hid s2
      have B2 := hid (below_set (below_set (below_set HB.out (Nat.le_refl _) 0 (.pointer (some ⟨G 0, 0, none⟩))) (Nat.le_refl _) 1 (.pointer (some ⟨G 1, 0, none⟩))) (Nat.le_refl _) 2 (.pointer (some ⟨G 2, 0, none⟩)))
      have P2 : Hid (∀ t, t < 3 → ∃ r, Pln (((wr.setCell ⟨w.heap.size, 0, none⟩ (.pointer (some ⟨G 0, 0, none⟩))).setCell ⟨w.heap.size, 1, none⟩ (.pointer (some ⟨G 1, 0, none⟩))).setCell ⟨w.heap.size, 2, none⟩ (.pointer (some ⟨G 2, 0, none⟩))) (G t) (prm t) k r) := fun t ht => by
        obtain ⟨r, p⟩ := HP.out t ht
        exact ⟨r, ((p.set HZ.out (by decide) (by decide) (by decide) _ _).set s0 (by decide) (by decide) (by decide) _ _).set s1 (by decide) (by decide) (by decide) _ _⟩
      clear s0 s1 s2 HG HP HZ HL HB IX TN
      go_wp2
      refine bodyPost_ret (ret_p3 S.out rfl rfl) rfl ?_
      exact ⟨⟨G, rfl, P2.out⟩, B2.out⟩
    · have hi' : i < 3 := by omega
      have hil : (i : Int) < 3 := by omega
      have ix := IX.out i hi'
      have TW := hid (TN.out i hi' wr HL.out)
      have glt : w.heap.size + 1 < wr.heap.size := HG.out.lt
      have K : Hid (∀ w2 gn r, Below wr.heap.size wr w2 → Pln w2 gn (prm i) k r → ∃ G', Rv (w2.setCell ⟨w.heap.size + 1, i, none⟩ (.pointer (some ⟨gn, 0, none⟩))) (w.heap.size + 1) 55 3 (pc G' (i + 1)) ∧ (∀ t, t < i + 1 → ∃ r, Pln (w2.setCell ⟨w.heap.size + 1, i, none⟩ (.pointer (some ⟨gn, 0, none⟩))) (G' t) (prm t) k r) ∧ Rv (w2.setCell ⟨w.heap.size + 1, i, none⟩ (.pointer (some ⟨gn, 0, none⟩))) w.heap.size 55 3 (pc G' 0) ∧ LayB (w2.setCell ⟨w.heap.size + 1, i, none⟩ (.pointer (some ⟨gn, 0, none⟩))) ∧ Below w.heap.size w (w2.setCell ⟨w.heap.size + 1, i, none⟩ (.pointer (some ⟨gn, 0, none⟩))) ∧ w2.frozen? ⟨w.heap.size + 1, i, none⟩ = false ∧ ∃ v, w2.cell? ⟨w.heap.size + 1, i, none⟩ = some v) := by
        intro w2 gn r B2 P2
        have r2 := HG.out.below B2 glt
        have Bs : Below w.heap.size w (w2.setCell ⟨w.heap.size + 1, i, none⟩ (.pointer (some ⟨gn, 0, none⟩))) := below_set (HB.out.trans (B2.mono (by omega))) (by omega) _ _
        refine ⟨fun t => if t = i then gn else G t, r2.set i _ (fun j hj => ?_), fun t ht => ?_, ((HZ.out.below B2 (by omega)).other (by omega) _ _).eq (fun j hj => ?_), LB.out _ Bs, Bs, r2.frozen i, _, r2.cell (by omega)⟩
        · unfold pc
          dsimp only
          by_cases e : j = i
          · rw [if_pos e, if_pos e, if_pos (by omega)]
          · rw [if_neg e, if_neg e]
            by_cases e3 : j < i
            · rw [if_pos (by omega), if_pos e3]
            · rw [if_neg (by omega), if_neg e3]
        · dsimp only
          by_cases e : t = i
          · subst e
            rw [if_pos rfl]
            exact ⟨r, P2.set r2 (by decide) (by decide) (by decide) _ _⟩
          · rw [if_neg e]
            obtain ⟨r', p⟩ := HP.out t (by omega)
            exact ⟨r', (p.below B2).set r2 (by decide) (by decide) (by decide) _ _⟩
        · unfold pc
          rw [if_neg (by omega), if_neg (by omega)]
      clear HG HP HL HZ HB IX TN
      go_wp2_with fail
      refine TW.out.mono ?_
      rintro e w2 ⟨⟨gn, r, rfl, P2⟩, B2⟩
      obtain ⟨G', r3, p3, z3, l3, b3, fz, v, cz⟩ := K.out w2 gn r B2 P2
      have R3 := hid r3
      have P3 := hid p3
      have Z3 := hid z3
      have L3 := hid l3
      have B3 := hid b3
      clear r3 p3 z3 l3 b3 K TW B2 P2
      go_wp2
      exact ⟨⟨i + 1, G', rfl, by omega, R3, P3, Z3, L3, B3⟩, by simp only [intOf]; omega⟩
end Go.Proofs.YtocfenjampmdlabGreatDoor
