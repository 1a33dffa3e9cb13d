/- How many coefficients a box has, and where each stands, in the landed conv. -/
import Derived.Test.YtocfenjampmdlaaGreatDoorDn
import Derived.Shelf.GgClosure.Gives
namespace Go.Proofs.YtocfenjampmdlaaGreatDoor
open Go.RowKit Num Nmb

set_option maxHeartbeats 800000 in
theorem small_any (d : Int) (w : World) : Calls Tryz.prog 39 #[.int .i64 d] w fun e w' => e = .returned (.bool (decide (d < 1))) ∧ w' = w := by
  by_cases h : d < 1
  · rw [decide_eq_true h]
    go_enter Tryz.func39, Tryz.ntmps39
    go_wp2
    go_ret
    exact ⟨rfl, rfl⟩
  · rw [decide_eq_false h]
    go_enter Tryz.func39, Tryz.ntmps39
    go_wp2
    go_ret
    exact ⟨rfl, rfl⟩
set_option maxHeartbeats 800000 in
theorem indexf_any (u : Value) (n : Nat) (d : Nat → Int) (w : World) (U : Wi w u n d) :
    Calls Tryz.prog 61 #[u, .func (.func 39) #[] #[]] w fun e w' => (∃ r, e = .returned (.int .i64 r) ∧ ((0 ≤ r ∧ ∃ i, i < n ∧ d i < 1) ∨ (r = -1 ∧ ∀ i, i < n → 1 ≤ d i))) ∧ w' = w := by
  obtain ⟨ao, cap, rfl, hcap, hcap2, hv, hcell⟩ := U
  have HC := hid hcell
  clear hv hcell
  go_enter Tryz.func61, Tryz.ntmps61
  go_wp2
  go_loopw [8] (fun iv wr => ∃ (i : Nat), iv = .int .i64 i ∧ i ≤ n ∧ Hid (∀ j, j < i → 1 ≤ d j) ∧ wr = w) (fun iv _ => ((n : Int) - intOf iv).toNat)
  case atStart => exact ⟨0, rfl, Nat.zero_le _, fun j hj => absurd hj (by omega), rfl⟩
  case round =>
    obtain ⟨i, rfl, hi, S, hw⟩ := hrel
    obtain rfl := hw.symm
    by_cases him : i = n
    · have him' : ¬ (i : Int) < (n : Int) := by omega
      subst him
      clear HC
      go_wp2
      go_ret
      exact ⟨⟨_, rfl, Or.inr ⟨rfl, S.out⟩⟩, by first | trivial | rfl⟩
    · have him' : (i : Int) < (n : Int) := by omega
      obtain ⟨b, off, rfl, hbs, hc⟩ := HC.out (by omega)
      have ct := hc i (by omega)
      have SM := hid (small_any (d i) w)
      by_cases hd : d i < 1
      · rw [decide_eq_true hd] at SM
        have E : Hid (∃ i, i < n ∧ d i < 1) := ⟨i, by omega, hd⟩
        clear HC S hc hd
        generalize d i = di at *
        go_wp2_with fail
        refine SM.out.mono ?_
        rintro e w2 ⟨rfl, hw⟩
        obtain rfl := hw.symm
        clear SM
        go_wp2
        go_ret
        exact ⟨⟨_, rfl, Or.inl ⟨by omega, E.out⟩⟩, by first | trivial | rfl⟩
      · rw [decide_eq_false hd] at SM
        have S' : Hid (∀ j, j < i + 1 → 1 ≤ d j) := fun j hj => by
          by_cases e : j = i
          · rw [e]; omega
          · exact S.out j (by omega)
        clear HC S hc hd
        generalize d i = di at *
        go_wp2_with fail
        refine SM.out.mono ?_
        rintro e w2 ⟨rfl, hw⟩
        obtain rfl := hw.symm
        clear SM
        go_wp2
        exact ⟨⟨i + 1, rfl, by omega, S', by first | trivial | rfl⟩, by simp only [intOf]; omega⟩
set_option maxHeartbeats 800000 in
theorem contains_any (u : Value) (n : Nat) (d : Nat → Int) (w : World) (U : Wi w u n d) :
    Calls Tryz.prog 38 #[u, .func (.func 39) #[] #[]] w fun e w' => (∃ b, e = .returned (.bool b) ∧ (b = true ∧ (∃ i, i < n ∧ d i < 1) ∨ b = false ∧ ∀ i, i < n → 1 ≤ d i)) ∧ w' = w := by
  have IF := hid (indexf_any u n d w U)
  obtain ⟨ao, cap, rfl, -⟩ := U
  go_enter Tryz.func38, Tryz.ntmps38
  go_wp2_with fail
  refine IF.out.mono ?_
  rintro e w2 ⟨⟨r, rfl, hr⟩, hw⟩
  obtain rfl := hw.symm
  clear IF
  rcases hr with ⟨h0, E⟩ | ⟨rfl, E⟩
  · have HE := hid E
    clear E
    go_wp2
    go_ret
    exact ⟨⟨_, rfl, Or.inl ⟨rfl, HE.out⟩⟩, by first | trivial | rfl⟩
  · have HE := hid E
    clear E
    go_wp2
    go_ret
    exact ⟨⟨_, rfl, Or.inr ⟨rfl, HE.out⟩⟩, by first | trivial | rfl⟩
set_option maxHeartbeats 1600000 in
theorem size_same (u : Value) (n : Nat) (d : Nat → Int) (w : World) (U : Wi w u n d) :
    Calls Tryz.prog 17 #[u] w fun e w' => (∃ r er, e = .returned (.tuple #[.int .i64 r, .int .i64 er]) ∧ SzIs d n r er) ∧ w' = w := by
  have CF := hid (contains_any u n d w U)
  obtain ⟨ao, cap, rfl, hcap, hcap2, hv, hcell⟩ := U
  have HV := hid hv
  have HC := hid hcell
  clear hv hcell
  by_cases n8 : 8 < n
  · have S : Hid (SzIs d n 0 1) := Or.inl ⟨Or.inl n8, rfl, rfl⟩
    have n8' : (8 : Int) < (n : Int) := by omega
    clear HV HC CF
    go_enter Tryz.func17, Tryz.ntmps17
    go_wp2
    go_ret2
    exact ⟨⟨_, _, rfl, S.out⟩, by first | trivial | rfl⟩
  have n8' : ¬ (8 : Int) < (n : Int) := by omega
  go_enter Tryz.func17, Tryz.ntmps17
  go_wp2_with fail
  refine CF.out.mono ?_
  rintro e w2 ⟨⟨b, rfl, hb⟩, hw⟩
  obtain rfl := hw.symm
  clear CF
  rcases hb with ⟨rfl, E⟩ | ⟨rfl, E⟩
  · have S : Hid (SzIs d n 0 1) := Or.inl ⟨Or.inr E, rfl, rfl⟩
    clear E HV HC
    go_wp2
    go_ret2
    exact ⟨⟨_, _, rfl, S.out⟩, by first | trivial | rfl⟩
  · have S := hid E
    clear E
    go_wp2
    go_loopw [16, 4] (fun iv sv wr => ∃ (t : Nat) (z : Int), iv = .int .i64 t ∧ sv = .int .i64 z ∧ t ≤ n ∧ 1 ≤ z ∧ z ≤ 65536 ∧ Hid (z = pd d t) ∧ wr = w) (fun iv _ _ => ((n : Int) - intOf iv).toNat)
    case atStart => exact ⟨0, 1, rfl, rfl, Nat.zero_le _, by omega, by omega, rfl, rfl⟩
    case round =>
      obtain ⟨t, z, rfl, rfl, ht, hz1, hz2, HZ, hw⟩ := hrel
      obtain rfl := hw.symm
      by_cases htm : t = n
      · have htm' : ¬ (t : Int) < (n : Int) := by omega
        subst htm
        have R : Hid (SzIs d t z 0) := Or.inr ⟨by omega, S.out, Or.inr ⟨by rw [← HZ.out]; exact hz2, HZ.out, rfl⟩⟩
        clear HV HC S HZ
        go_wp2
        go_ret2
        exact ⟨⟨_, _, rfl, R.out⟩, by first | trivial | rfl⟩
      · have htm' : (t : Int) < (n : Int) := by omega
        obtain ⟨b, off, rfl, hbs, hc⟩ := HC.out (by omega)
        have ct := hc t (by omega)
        have vt := HV.out t (by omega)
        have d1 := S.out t (by omega)
        have mn := pd_mono (d := d) (n := n) S.out (t + 1) (by omega)
        have pe : pd d (t + 1) = z * d t := by show pd d t * d t = _; rw [← HZ.out]
        have q0 : Int.tdiv 65536 z = 65536 / z := Int.tdiv_eq_ediv_of_nonneg (by omega)
        have q1 := Int.mul_ediv_self_le (x := 65536) (k := z) (by omega)
        have q2 := Int.lt_mul_ediv_self_add (x := 65536) (k := z) (by omega)
        have q3 : 0 ≤ 65536 / z := Int.ediv_nonneg (by omega) (by omega)
        have q4 : 65536 / z ≤ 65536 := Int.ediv_le_self _ (by omega)
        have zne : (z == 0) = false := beq_eq_false_iff_ne.2 (by omega)
        have w0 : IntKind.i64.wrap (65536 / z) = 65536 / z := by rw [IntKind.wrap_i64]; omega
        by_cases hbig : 65536 / z < d t
        · have m1 : z * (65536 / z + 1) ≤ z * d t := Int.mul_le_mul_of_nonneg_left (by omega) (by omega)
          rw [Int.mul_add, Int.mul_one] at m1
          have R : Hid (SzIs d n 0 13) := Or.inr ⟨by omega, S.out, Or.inl ⟨by omega, rfl, rfl⟩⟩
          clear HV HC S HZ hc mn pe m1 q1 q2
          generalize d t = dt at *
          generalize 65536 / z = qz at *
          go_wp2
          go_ret2
          exact ⟨⟨_, _, rfl, R.out⟩, by first | trivial | rfl⟩
        · have m1 : z * d t ≤ z * (65536 / z) := Int.mul_le_mul_of_nonneg_left (by omega) (by omega)
          have m2 : 1 ≤ z * d t := by
            have := Int.mul_le_mul hz1 d1 (by omega) (by omega)
            omega
          have R : Hid (z * d t = pd d (t + 1)) := pe.symm
          have z3 : z * d t ≤ 65536 := by omega
          clear HC hc mn pe m1 q1 q2
          generalize d t = dt at *
          generalize 65536 / z = qz at *
          obtain ⟨zz, hzz⟩ : ∃ zz, z * dt = zz := ⟨_, rfl⟩
          rw [hzz] at R z3 m2
          have ww : IntKind.i64.wrap zz = zz := by rw [IntKind.wrap_i64]; omega
          go_wp2
          exact ⟨⟨t + 1, zz, rfl, rfl, by omega, by omega, by omega, R, by first | trivial | rfl⟩, by simp only [intOf]; omega⟩
theorem csize_any (u : Value) (n : Nat) (d : Nat → Int) (w : World) (U : Wi w u n d) :
    Calls Tryz.prog 17 #[u] w fun e w' => (∃ r er, e = .returned (.tuple #[.int .i64 r, .int .i64 er]) ∧ SzIs d n r er) ∧ Below w.heap.size w w' :=
  (size_same u n d w U).mono fun _ w' h => ⟨h.1, by rw [h.2]; exact Below.refl _ _⟩
set_option maxHeartbeats 1600000 in
theorem place_same (u v : Value) (n m : Nat) (d e : Nat → Int) (w : World) (U : Wi w u n d) (V : Wi w v m e) :
    Calls Tryz.prog 19 #[u, v] w fun e' w' => (∃ r er, e' = .returned (.tuple #[.int .i64 r, .int .i64 er]) ∧ PlIs d n e m r er) ∧ w' = w := by
  have SZ := hid (size_same u n d w U)
  obtain ⟨ao, cap, rfl, -, -, hvd, hcd⟩ := U
  obtain ⟨bo, bap, rfl, -, -, hve, hce⟩ := V
  have HVD := hid hvd
  have HCD := hid hcd
  have HVE := hid hve
  have HCE := hid hce
  clear hvd hcd hve hce
  go_enter Tryz.func19, Tryz.ntmps19
  go_wp2_with fail
  refine SZ.out.mono ?_
  rintro e' w3 ⟨⟨s, er, rfl, S⟩, hw⟩
  obtain rfl := hw.symm
  clear SZ
  by_cases e0 : er = 0
  · subst e0
    by_cases hm : m = n
    · subst hm
      have SS := hid S
      obtain ⟨n8, hd, h65, -⟩ := S.ok rfl
      have HD := hid hd
      have H65 := hid h65
      clear S hd h65
      go_wp2
      go_loopw [26, 8] (fun iv sv wr => ∃ (t : Nat) (z : Int), iv = .int .i64 t ∧ sv = .int .i64 z ∧ t ≤ m ∧ 0 ≤ z ∧ z ≤ 65536 ∧ Hid (∀ i, i < t → 0 ≤ e i ∧ e i < d i) ∧ Hid (z = pl d e t) ∧ wr = w) (fun iv _ _ => ((m : Int) - intOf iv).toNat)
      case atStart => exact ⟨0, 0, rfl, rfl, Nat.zero_le _, by omega, by omega, fun i hi => absurd hi (by omega), rfl, rfl⟩
      case round =>
        obtain ⟨t, z, rfl, rfl, ht, hz1, hz2, HE, HZ, hw⟩ := hrel
        obtain rfl := hw.symm
        by_cases htm : t = m
        · have htm' : ¬ (t : Int) < (m : Int) := by omega
          obtain rfl := htm
          have R : Hid (PlIs d t e t z 0) := Or.inr ⟨⟨s, SS.out⟩, Or.inr ⟨rfl, HE.out, HZ.out, rfl⟩⟩
          clear HVD HCD HVE HCE SS HD H65 HE HZ
          go_wp2
          go_ret2
          exact ⟨⟨_, _, rfl, R.out⟩, by first | trivial | rfl⟩
        · have htm' : (t : Int) < (m : Int) := by omega
          obtain ⟨ub, uo, hao, -, hcd⟩ := HCD.out (by omega)
          subst hao
          obtain ⟨vb, vo, hbo, -, hce⟩ := HCE.out (by omega)
          subst hbo
          have cd := hcd t (by omega)
          have ce := hce t (by omega)
          have vd := HVD.out t (by omega)
          have ve := HVE.out t (by omega)
          by_cases hr : 0 ≤ e t ∧ e t < d t
          · have HE' : Hid (∀ i, i < t + 1 → 0 ≤ e i ∧ e i < d i) := fun i hi => by
              by_cases q : i = t
              · rw [q]; exact hr
              · exact HE.out i (by omega)
            have lt := pl_lt (d := d) (e := e) (n := t + 1) HE'.out
            have mn := pd_mono (d := d) (n := m) HD.out (t + 1) (by omega)
            have pe : pl d e (t + 1) = z * d t + e t := by show pl d e t * d t + e t = _; rw [← HZ.out]
            have zm : 0 ≤ z * d t := Int.mul_nonneg hz1 (by omega)
            have h65 := H65.out
            have R : Hid (z * d t + e t = pl d e (t + 1)) := pe.symm
            have b1 : z * d t + e t ≤ 65536 := by omega
            obtain ⟨hr1, hr2⟩ := hr
            clear HE HZ SS hcd hce lt mn pe h65
            generalize d t = dt at *
            generalize e t = et at *
            obtain ⟨zz, hzz⟩ : ∃ zz, z * dt = zz := ⟨_, rfl⟩
            rw [hzz] at R zm b1
            have w1 : IntKind.i64.wrap zz = zz := by rw [IntKind.wrap_i64]; omega
            have w2 : IntKind.i64.wrap (zz + et) = zz + et := by rw [IntKind.wrap_i64]; omega
            have g1 : ¬ et < 0 := by omega
            have g2 : ¬ dt ≤ et := by omega
            go_wp2
            exact ⟨⟨t + 1, zz + et, rfl, rfl, by omega, by omega, by omega, HE', R, by first | trivial | rfl⟩, by simp only [intOf]; omega⟩
          · have R : Hid (PlIs d m e m 0 1) := Or.inr ⟨⟨s, SS.out⟩, Or.inl ⟨Or.inr ⟨t, by omega, hr⟩, rfl, rfl⟩⟩
            clear HE HZ SS hcd hce HVD HCD HVE HCE HD H65
            generalize d t = dt at *
            generalize e t = et at *
            by_cases n0 : et < 0
            · go_wp2
              go_ret2
              exact ⟨⟨_, _, rfl, R.out⟩, by first | trivial | rfl⟩
            · have g2 : dt ≤ et := by omega
              go_wp2
              go_ret2
              exact ⟨⟨_, _, rfl, R.out⟩, by first | trivial | rfl⟩
    · have R : Hid (PlIs d n e m 0 1) := Or.inr ⟨⟨s, S⟩, Or.inl ⟨Or.inl hm, rfl, rfl⟩⟩
      have hm' : ((m : Int) != (n : Int)) = true := bne_iff_ne.2 (by omega)
      clear S HVD HCD HVE HCE
      go_wp2
      go_ret2
      exact ⟨⟨_, _, rfl, R.out⟩, by first | trivial | rfl⟩
  · have R : Hid (PlIs d n e m 0 er) := Or.inl ⟨s, S, e0, rfl⟩
    have e0' : (er != 0) = true := bne_iff_ne.2 e0
    clear S HVD HCD HVE HCE
    go_wp2
    go_ret2
    exact ⟨⟨_, _, rfl, R.out⟩, by first | trivial | rfl⟩
theorem cplace_any (u v : Value) (n m : Nat) (d e : Nat → Int) (w : World) (U : Wi w u n d) (V : Wi w v m e) :
    Calls Tryz.prog 19 #[u, v] w fun e' w' => (∃ r er, e' = .returned (.tuple #[.int .i64 r, .int .i64 er]) ∧ PlIs d n e m r er) ∧ Below w.heap.size w w' :=
  (place_same u v n m d e w U V).mono fun _ w' h => ⟨h.1, by rw [h.2]; exact Below.refl _ _⟩
end Go.Proofs.YtocfenjampmdlaaGreatDoor
