/- The law ConvExact, walked. -/
import Derived.Test.YtocfenjampmdlaaGreatDoorLcp
import Derived.Test.YtocfenjampmdlaaGreatDoorCf
namespace Go.Proofs.YtocfenjampmdlaaGreatDoor
open Go.RowKit Num Nmb

set_option maxHeartbeats 800000 in
theorem rexact_none (u v : Value) (n m : Nat) (a b : Nat → Int) (w : World) (U : Wl w u n a) (V : Wl w v m b) (h : n = 0 ∨ m = 0) :
    Calls Tryz.prog 15 #[u, v] w fun e w' => e = .returned (.slice none 0 0) ∧ w' = w := by
  obtain ⟨ao, cap, rfl, -⟩ := U
  obtain ⟨bo, bap, rfl, -⟩ := V
  by_cases n0 : n = 0
  · subst n0
    go_enter Tryz.func15, Tryz.ntmps15
    go_wp2
    go_ret
    exact ⟨rfl, rfl⟩
  · obtain rfl : m = 0 := by omega
    have n0' : ((n : Int) == 0) = false := beq_eq_false_iff_ne.2 (by omega)
    go_enter Tryz.func15, Tryz.ntmps15
    go_wp2
    go_ret
    exact ⟨rfl, rfl⟩
theorem print_nn (v : Value) (n : Nat) (A : Int) (w : World) (h : B.It w v n A) (hn : n ≤ 100000) (ht : B.Tab w) (h0 : 0 ≤ A) :
    Calls Tryz.prog 16 #[v] w fun e w' => e = .returned (.string (B.dt A.toNat)) ∧ Below w.heap.size w w' := by
  have := B.Print_any v n A w h hn ht
  unfold B.idt at this
  rw [if_neg (by omega), show A.natAbs = A.toNat by omega] at this
  exact this
theorem prd_nn {a b : Nat → Int} {n m : Nat} (ha : ∀ j, j < n → 0 ≤ a j ∧ a j ≤ 18446744073709551615) (hb : ∀ j, j < m → 0 ≤ b j ∧ b j ≤ 18446744073709551615) (j : Nat) : 0 ≤ prd a b n m j := by
  rw [← acc_prd]
  exact (acc_bd (la := n) ha hb (Or.inr ⟨rfl, rfl⟩) (Nat.zero_le _) j).1
set_option maxHeartbeats 1600000 in
set_option maxRecDepth 100000 in
theorem cexact_law (u v : Value) (n m : Nat) (a b : Nat → Int) (w : World) (U : Wl w u n a) (V : Wl w v m b) (L : LayB w) :
    Calls Tryz.prog 4 #[u, v] w fun e w' => e = .returned (.bool true) ∧ Below w.heap.size w w' := by
  have AWA : Hid (∀ w', Below w.heap.size w w' → Calls Tryz.prog 9 #[] w' fun e w'' => e = .returned (.bool true) ∧ Below w'.heap.size w' w'') := fun w' B => awake8 w' (L.below B)
  have UU := hid U
  have VV := hid V
  have LL := hid L
  have B0 := hid (Below.refl w.heap.size w)
  have NN : Hid (∀ j, 0 ≤ prd a b n m j) := prd_nn (fun j hj => U.val hj) (fun j hj => V.val hj)
  obtain ⟨ao, cap, rfl, -⟩ := U
  obtain ⟨bo, bap, rfl, -⟩ := V
  clear L
  by_cases h1 : 20 < n
  · have h1' : (20 : Int) < (n : Int) := by omega
    go_enter Tryz.func4, Tryz.ntmps4
    go_wp2_with fail
    refine (AWA.out _ B0.out).mono ?_
    rintro e w9 ⟨rfl, B9⟩
    have BB9 := hid (B0.out.trans (B9.mono B0.out.size))
    clear B9
    go_wp2
    go_ret
    exact ⟨rfl, BB9.out⟩
  have h1' : ¬ (20 : Int) < (n : Int) := by omega
  by_cases h2 : 20 < m
  · have h2' : (20 : Int) < (m : Int) := by omega
    go_enter Tryz.func4, Tryz.ntmps4
    go_wp2_with fail
    refine (AWA.out _ B0.out).mono ?_
    rintro e w9 ⟨rfl, B9⟩
    have BB9 := hid (B0.out.trans (B9.mono B0.out.size))
    clear B9
    go_wp2
    go_ret
    exact ⟨rfl, BB9.out⟩
  have h2' : ¬ (20 : Int) < (m : Int) := by omega
  obtain ⟨K, hK⟩ : ∃ K, K = if n = 0 ∨ m = 0 then 0 else n + m - 1 := ⟨_, rfl⟩
  have K40 : K ≤ 40 := by
    rw [hK]
    split <;> omega
  have CE : Hid (Calls Tryz.prog 14 #[.slice ao n cap, .slice bo m bap] w fun e w' => (∃ lo lc, e = .returned (.tuple #[.slice lo K lc, .int .i64 0]) ∧ Zl w' (.slice lo K lc) K (prd a b n m)) ∧ Below w.heap.size w w') := by
    by_cases z : n = 0 ∨ m = 0
    · rw [if_pos z] at hK
      subst hK
      refine (exact_none _ _ n m a b w UU.out VV.out z).mono ?_
      rintro e w' ⟨⟨lo, lc, rfl, hlc⟩, B⟩
      exact ⟨⟨lo, lc, rfl, _, lc, rfl, Nat.zero_le _, hlc, fun h => absurd h (by omega)⟩, B⟩
    · rw [if_neg z] at hK
      subst hK
      exact exact_yes _ _ n m a b w LL.out UU.out VV.out (by omega) (by omega) (by omega)
  have RE : Hid (∀ w1, Below w.heap.size w w1 → Calls Tryz.prog 15 #[.slice ao n cap, .slice bo m bap] w1 fun e w' => (∃ so, e = .returned (.slice so K K) ∧ (0 < K → ∃ g, so = some ⟨g, 0, none⟩ ∧ Rows_ w' g K (fun j => B.dt (prd a b n m j).toNat))) ∧ Below w1.heap.size w1 w') := by
    intro w1 B
    by_cases z : n = 0 ∨ m = 0
    · rw [if_pos z] at hK
      subst hK
      refine (rexact_none _ _ n m a b w1 (UU.out.below B) (VV.out.below B) z).mono ?_
      rintro e w' ⟨rfl, rfl⟩
      exact ⟨⟨none, rfl, fun h => absurd h (by omega)⟩, Below.refl _ _⟩
    · rw [if_neg z] at hK
      subst hK
      refine (rexact_any _ _ n m a b w1 (UU.out.below B) (VV.out.below B) (by omega) (by omega) (by omega) (by omega)).mono ?_
      rintro e w' ⟨rfl, R, B'⟩
      exact ⟨⟨_, rfl, fun _ => ⟨_, rfl, R⟩⟩, B'⟩
  clear hK UU VV
  go_enter Tryz.func4, Tryz.ntmps4
  go_wp2_with fail
  refine CE.out.mono ?_
  rintro e1 w1 ⟨⟨lo, lc, rfl, Z⟩, B1⟩
  have R1 := hid (RE.out w1 B1)
  have Z1 := hid Z
  have BB1 := hid B1
  clear Z B1 CE RE
  go_wp2_with fail
  refine R1.out.mono ?_
  rintro e2 w2 ⟨⟨so, rfl, S⟩, B2⟩
  have Z2 := hid (Z1.out.below B2)
  have S2 := hid S
  have BB2 := hid (BB1.out.trans (B2.mono BB1.out.size))
  clear R1 Z1 BB1 B2 S
  go_wp2
  go_loopw [8] (fun iv wr => ∃ (i : Nat), iv = .int .i64 i ∧ i ≤ K ∧ Hid (Below w2.heap.size w2 wr)) (fun iv _ => ((K : Int) - intOf iv).toNat)
  case atStart => exact ⟨0, rfl, Nat.zero_le _, Below.refl _ _⟩
  case round =>
    obtain ⟨i, rfl, hi, Bi⟩ := hrel
    have BBi := hid (BB2.out.trans (Bi.out.mono BB2.out.size))
    by_cases him : i = K
    · have him' : ¬ (i : Int) < (K : Int) := by omega
      obtain rfl := him
      clear Z2 S2 NN
      go_wp2_with fail
      refine (AWA.out _ BBi.out).mono ?_
      rintro e w9 ⟨rfl, B9⟩
      have BB9 := hid (BBi.out.trans (B9.mono BBi.out.size))
      clear B9
      go_wp2
      go_ret
      exact ⟨rfl, BB9.out⟩
    · have him' : (i : Int) < (K : Int) := by omega
      obtain ⟨lo', lc', hl, -, -, hz⟩ := Z2.out.below Bi.out
      injection hl with hl1 hl2 hl3
      subst hl1 hl3
      clear hl2
      obtain ⟨zb, zo, hzo, hzb, hzc⟩ := hz (by omega)
      subst hzo
      obtain ⟨p, za, zk, zc, c1, c2, I⟩ := hzc i (by omega)
      obtain ⟨g, hso, SR⟩ := S2.out (by omega)
      subst hso
      have SRi := SR.below Bi.out SR.lt
      have c3 := SRi.cell (i := i) (by omega)
      have gl := SRi.lt
      have k1 : ∀ x : Beh wr, x.1.cell? ⟨zb, zo + i * 2, none⟩ = some (.bool p) := fun x => by rw [x.2.cell (p := ⟨zb, zo + i * 2, none⟩) hzb]; exact c1
      have k2 : ∀ x : Beh wr, x.1.cell? ⟨zb, zo + i * 2 + 1, none⟩ = some (.slice za zk zc) := fun x => by rw [x.2.cell (p := ⟨zb, zo + i * 2 + 1, none⟩) hzb]; exact c2
      have k3 : ∀ x : Beh wr, x.1.cell? ⟨g, i, none⟩ = some (.string (B.dt (prd a b n m i).toNat)) := fun x => by rw [x.2.cell (p := ⟨g, i, none⟩) gl]; exact c3
      have PR : Hid (∀ x : Beh wr, Calls Tryz.prog 16 #[.agg #[.bool p, .slice za zk zc]] x.1 fun e w' => e = .returned (.string (B.dt (prd a b n m i).toNat)) ∧ Below x.1.heap.size x.1 w') := fun x => print_nn _ 100 _ _ (I.below x.2) (by omega) ((LL.out.below (BBi.out.trans (x.2.mono BBi.out.size))).tab) (NN.out i)
      have BX : Hid (∀ x : Beh wr, Below w2.heap.size w2 x.1) := fun x => Bi.out.trans (x.2.mono Bi.out.size)
      have nb := Beh.some wr
      clear I hz hzc SR SRi c1 c2 c3
      generalize (prd a b n m i).toNat = z at *
      go_wp2_with fail
      refine wp_region_beh (by kernel_rfl) (by kernel_rfl) ?_
      repeat (go_big_quiet_step ((go_at_call 16; rename_i x; exact Calls.beh_of (PR.out _))))
      refine wpQuiet_nil ?_
      intro _ hw'
      obtain ⟨x9, rfl⟩ := hw'
      have B9 := hid (BX.out x9)
      clear k1 k2 k3 PR BX
      generalize x9.1 = w9 at *
      go_wp2
      exact ⟨⟨i + 1, rfl, by omega, B9.out⟩, by simp only [intOf]; omega⟩
end Go.Proofs.YtocfenjampmdlaaGreatDoor
