/- The law WordExponents, walked. -/
import Derived.Test.YtanlnmmeinmceabWw
import Derived.Deep.RegionHeld3
namespace Go.Proofs.Ytanlnmmeinmceab
open Go.RowKit Num

theorem pow_sum (x m : Int) (a b : Nat) : x ^ a % m * (x ^ b % m) % m = x ^ (a + b) % m := by rw [md_times, Int.pow_add]
theorem pow_pow (x m : Int) (a b : Nat) : (x ^ a % m) ^ b % m = x ^ (a * b) % m := by rw [md_pow, Int.pow_mul]
theorem pow_inv {x y m : Int} (h : x * y % m = 1) (a b : Nat) : x ^ (a + b) % m * (y ^ b % m) % m = x ^ a % m := by
  rw [md_times, Int.pow_add, Int.mul_assoc, ← Int.mul_pow, ← md_right, ← md_pow, h, Int.one_pow, md_right, Int.mul_one]
theorem pow_to {g : Nat} {m f s : Int} {w : World} (x c : Int) (n : Nat) (r : Int) (h : Fld w g m f s) (hm : Ok m f s) (hx : 0 ≤ x) (hn : n ≤ 1000000000000) (e : x ^ n % m = r) (ec : c = (n : Int)) :
    Calls Try.prog 7 #[.pointer (some ⟨g, 0, none⟩), .int .u64 x, .int .u64 c] w fun e w' => e = .returned (.int .u64 r) ∧ ∃ k, w' = w.drewN k := by
  subst e; subst ec; exact pow_any g m f s x n w h hm hx (by omega)
theorem mul_to {g : Nat} {m f s : Int} {w : World} (x y r : Int) (h : Fld w g m f s) (hm : Ok m f s) (hx : 0 ≤ x) (hy : 0 ≤ y) (e : x * y % m = r) :
    Calls Try.prog 8 #[.pointer (some ⟨g, 0, none⟩), .int .u64 x, .int .u64 y] w fun e w' => e = .returned (.int .u64 r) ∧ ∃ k, w' = w.drewN k := by
  subst e; exact mul_any g m f s x y w h hm hx hy
set_option maxHeartbeats 3200000 in
theorem exponents_law (m x c d : Int) (w : World) (bm_ : 0 ≤ m ∧ m ≤ 18446744073709551615) (bx_ : 0 ≤ x ∧ x ≤ 18446744073709551615) (bc : 0 ≤ c ∧ c ≤ 18446744073709551615) (bd : 0 ≤ d ∧ d ≤ 18446744073709551615) :
    Calls Try.prog 3 #[.int .u64 m, .int .u64 x, .agg #[.int .u64 c, .int .u64 d]] w fun e w' => e = .returned (.bool true) ∧ Below w.heap.size w w' := by
  obtain ⟨a, rfl⟩ := Int.eq_ofNat_of_zero_le bc.1
  obtain ⟨b, rfl⟩ := Int.eq_ofNat_of_zero_le bd.1
  have hx := bx_.1
  clear bx_ bc bd
  have B0 : Hid (Below w.heap.size w (w.alloc (.cells #[.int .u64 a, .int .u64 b] 23))) := (Below.refl _ _).alloc (Nat.le_refl _) _
  by_cases h : m < 2 ∨ 9223372036854775808 ≤ m
  · go_enter Try.func3, Try.ntmps3
    go_wp2_with fail
    refine (field_no m _ h).mono ?_
    rintro e w2 ⟨rfl, rfl⟩
    go_wp2_with fail
    refine (awake_any _).mono ?_
    rintro e w2 ⟨rfl, B⟩
    have B2 := B0.out.trans (B.mono (by simp))
    go_wp2
    go_ret
    exact ⟨rfl, B2⟩
  · have h2 : 2 ≤ m := by omega
    have h63 : m ≤ 9223372036854775807 := by omega
    clear h bm_
    go_enter Try.func3, Try.ntmps3
    go_wp2_with fail
    refine (field_any m _ h2 h63).mono ?_
    rintro e w1 ⟨rfl, B, f, s, F, O⟩
    have FF := hid F
    have OO := hid O
    have BB := hid (B0.out.trans (B.mono (by simp)))
    have hb : w1.heap[w.heap.size]? = some (.cells #[.int .u64 a, .int .u64 b] 23 (0, 0)) := by
      rw [B.block w.heap.size (by simp)]; exact heap_alloc_new w _
    have c0 : w1.cell? ⟨w.heap.size, 0, none⟩ = some (.int .u64 a) := by simp only [World.cell?, hb]; rfl
    have c1 : w1.cell? ⟨w.heap.size, 1, none⟩ = some (.int .u64 b) := by simp only [World.cell?, hb]; rfl
    rw [World.size_alloc] at FF
    clear hb F O B B0
    by_cases ha : 1000000 < a
    · have ha' : (1000000 : Int) < a := by omega
      go_wp2_with fail
      refine (awake_any _).mono ?_
      rintro e w9 ⟨rfl, B9⟩
      have B8 := fin BB.out BB.out.size (by first | rfl | simp) (by first | rfl | simp) (by first | rfl | simp) (by first | rfl | simp) B9
      clear B9
      go_wp2
      go_ret
      exact ⟨rfl, B8⟩
    · have ha' : ¬ (1000000 : Int) < a := by omega
      by_cases hb : 1000000 < b
      · have hb' : (1000000 : Int) < b := by omega
        go_wp2_with fail
        refine (awake_any _).mono ?_
        rintro e w9 ⟨rfl, B9⟩
        have B8 := fin BB.out BB.out.size (by first | rfl | simp) (by first | rfl | simp) (by first | rfl | simp) (by first | rfl | simp) B9
        clear B9
        go_wp2
        go_ret
        exact ⟨rfl, B8⟩
      · have hb' : ¬ (1000000 : Int) < b := by omega
        have hab : a * b ≤ 1000000000000 := by
          have := Nat.mul_le_mul (show a ≤ 1000000 by omega) (show b ≤ 1000000 by omega)
          omega
        have e1 := hid (pow_sum x m a b)
        have e2 := hid (pow_pow x m a b)
        have e3 : Hid (∀ y, x * y % m = 1 → x ^ (a + b) % m * (y ^ b % m) % m = x ^ a % m) := fun y hy => pow_inv hy a b
        have hp : 0 < m := by omega
        have gA := (md_lt (x ^ a) hp).1
        have gB := (md_lt (x ^ b) hp).1
        have gP := (md_lt (x ^ (a + b)) hp).1
        have rA : Hid (x ^ a % m = x ^ a % m) := rfl
        have rB : Hid (x ^ b % m = x ^ b % m) := rfl
        have rP : Hid (x ^ (a + b) % m = x ^ (a + b) % m) := rfl
        have rQ : Hid (x ^ (a * b) % m = x ^ (a * b) % m) := rfl
        have sab : (a : Int) + (b : Int) = ((a + b : Nat) : Int) := by omega
        have mab : (a : Int) * (b : Int) = ((a * b : Nat) : Int) := (Int.natCast_mul a b).symm
        have SAB := hid sab
        have MAB := hid mab
        have m0 : (a : Int) * (b : Int) ≤ 1000000000000 := by rw [mab]; omega
        have m1 : 0 ≤ (a : Int) * (b : Int) := by rw [mab]; omega
        clear sab mab
        generalize hA : x ^ a % m = A at gA e1 e2 e3
        generalize hB : x ^ b % m = Bq at gB e1
        generalize hP : x ^ (a + b) % m = P at gP e1 e3
        generalize hQ : x ^ (a * b) % m = Q at e2
        have HA := hid hA
        have HB := hid hB
        have HP := hid hP
        have HQ := hid hQ
        clear hA hB hP hQ rA rB rP rQ
        go_wp2_with fail
        refine (pow_to x _ (a + b) P (FF.out.heap (by first | rfl | simp)) OO.out hx (by omega) HP.out SAB.out).mono ?_
        rintro e w2 ⟨rfl, k1, rfl⟩
        have c0' : (w1.drewN k1).cell? ⟨w.heap.size, 0, none⟩ = some (.int .u64 a) := by simpa using c0
        have c1' : (w1.drewN k1).cell? ⟨w.heap.size, 1, none⟩ = some (.int .u64 b) := by simpa using c1
        have F2 := hid (FF.out.drew k1)
        have B2 := hid (below_drewN BB.out k1)
        clear c0 c1 FF BB
        generalize w1.drewN k1 = w2 at *
        go_wp2_with fail
        go_quiet (first
          | (go_at_call 8; exact Calls.quiet_of (mul_to A Bq P (F2.out.drew _) OO.out gA gB e1.out))
          | (go_at_call_of 7 (Value.int IntKind.u64 A); exact Calls.quiet_of (pow_to A _ b Q (F2.out.drew _) OO.out gA (by omega) e2.out rfl))
          | (go_at_call_of 7 (Value.int IntKind.u64 (a : Int)); exact Calls.quiet_of (pow_to x _ a A (F2.out.drew _) OO.out hx (by omega) HA.out rfl))
          | (go_at_call_of 7 (Value.int IntKind.u64 (b : Int)); exact Calls.quiet_of (pow_to x _ b Bq (F2.out.drew _) OO.out hx (by omega) HB.out rfl))
          | (go_at_call 7; exact Calls.quiet_of (pow_to x _ (a * b) Q (F2.out.drew _) OO.out hx hab HQ.out (by first | exact MAB.out | (rw [IntKind.wrap_u64, MAB.out]; omega)))))
        rename_i nq
        have c0 : (w2.drewN nq).cell? ⟨w.heap.size, 0, none⟩ = some (.int .u64 a) := by simpa using c0'
        have c1 : (w2.drewN nq).cell? ⟨w.heap.size, 1, none⟩ = some (.int .u64 b) := by simpa using c1'
        have FF := hid (F2.out.drew nq)
        have BB := hid (below_drewN B2.out nq)
        clear c0' c1' F2 B2
        generalize w2.drewN nq = w3 at *
        go_wp2_with fail
        refine (inv_any _ m f s x _ (FF.out.heap (by first | rfl | simp)) OO.out hx).mono ?_
        rintro e w2 ⟨⟨y, rfl, I⟩, rfl⟩
        have J := hid I
        clear I
        by_cases he : ec x m = 0
        · obtain ⟨y0, ym, yi⟩ := J.out.good he
          have EY := hid (e3.out y yi)
          have gY := (md_lt (y ^ b) hp).1
          rw [he]
          clear yi he J
          generalize hY : y ^ b % m = Yb at gY EY
          have HY := hid hY
          clear hY
          have hlt := BB.out.size
          have gl := FF.out.lt
          go_wp2_with fail
          go_region_held3 (fun W => W.cell? ⟨w.heap.size, 0, none⟩ = some (.int .u64 a) ∧ W.cell? ⟨w.heap.size, 1, none⟩ = some (.int .u64 b)) (first | (constructor <;> assumption) | (simp [*]; done)) (first
            | (go_at_call 8; go_must (refine (mul_to P Yb A (FF.out.heap (by first | rfl | simp)) OO.out gP gY EY.out).mono ?_; rintro e w4 ⟨rfl, k8, rfl⟩))
            | (go_at_call_of 7 (Value.int IntKind.u64 y); go_must (refine (pow_to y _ b Yb (FF.out.heap (by first | rfl | simp)) OO.out y0 (by omega) HY.out rfl).mono ?_; rintro e w4 ⟨rfl, k9, rfl⟩))
            | (go_at_call_of 7 (Value.int IntKind.u64 x); go_must (refine (pow_to x _ a A (FF.out.heap (by first | rfl | simp)) OO.out hx (by omega) HA.out rfl).mono ?_; rintro e w4 ⟨rfl, k10, rfl⟩))
            | (go_at_call 6; go_must (refine (awake_any _).mono ?_; rintro e w9 ⟨rfl, B9⟩; have d0 : w9.cell? ⟨w.heap.size, 0, none⟩ = some (.int .u64 a) := (B9.cell (p := ⟨w.heap.size, 0, none⟩) (by simp; omega)).trans (by simpa using c0); have d1 : w9.cell? ⟨w.heap.size, 1, none⟩ = some (.int .u64 b) := (B9.cell (p := ⟨w.heap.size, 1, none⟩) (by simp; omega)).trans (by simpa using c1))))
          all_goals
            have B8 := fin BB.out BB.out.size (by first | rfl | simp) (by first | rfl | simp) (by first | rfl | simp) (by first | rfl | simp) B9
            clear B9
            go_wp2
            go_ret
            exact ⟨rfl, B8⟩
        · have he' : (ec x m != 0) = true := by simp [he]
          clear J he
          generalize ec x m = E at *
          go_wp2_with fail
          refine wp_region_any (by kernel_rfl) ?_
          try (change wpAny _ _ _ _ _ _ _ (World.drew _))
          refine wpAny_take (i := 0) (oi := { dst := some 80, op := Op.move (Operand.tmp 11), type := 29, pos := "law.go:158", after := #[], guard := none }) (v := .int .i64 E) rfl (by kernel_rfl) (by kernel_rfl) (by kernel_rfl) (fun _ _ _ h => h) (Or.inl ⟨by rfl, fun w => by go_simp⟩) ?_
          simp only [Act.put, List.setIfInBounds_toArray, List.set_cons_zero, List.set_cons_succ]
          refine wpAny_take (i := 1) (oi := { dst := some 81, op := Op.binOp BinOp.neq 29 (Operand.tmp 80) (Operand.const (Value.int IntKind.i64 0)) 29, type := 4, pos := "law.go:158", after := #[{ on := 0, ground := Ground.data }], guard := none }) (v := .bool true) rfl (by kernel_rfl) (by kernel_rfl) (by kernel_rfl) (fun _ _ _ h => h) (Or.inl ⟨by rfl, fun w => by go_simp⟩) ?_
          simp only [Act.put, List.setIfInBounds_toArray, List.set_cons_zero, List.set_cons_succ]
          refine wpAny_take (i := 2) (oi := { dst := some 82, op := Op.move (Operand.tmp 81), type := 4, pos := "law.go:158", after := #[{ on := 1, ground := Ground.data }], guard := none }) (v := .bool true) rfl (by kernel_rfl) (by kernel_rfl) (by kernel_rfl) (fun _ _ _ h => h) (Or.inl ⟨by rfl, fun w => by go_simp⟩) ?_
          simp only [Act.put, List.setIfInBounds_toArray, List.set_cons_zero, List.set_cons_succ]
          refine wpAny_take (i := 3) (oi := { dst := some 83, op := Op.move (Operand.tmp 7), type := 24, pos := "law.go:158", after := #[{ on := 2, ground := Ground.guard }], guard := some (2, false) }) (v := undef) rfl (by kernel_rfl) (by kernel_rfl) (by kernel_rfl) (fun _ _ _ h => h) (Or.inr ⟨by rfl, rfl⟩) ?_
          simp only [Act.put, List.setIfInBounds_toArray, List.set_cons_zero, List.set_cons_succ]
          refine wpAny_take (i := 4) (oi := { dst := some 84, op := Op.move (Operand.tmp 9), type := 22, pos := "law.go:158", after := #[{ on := 2, ground := Ground.guard }], guard := some (2, false) }) (v := undef) rfl (by kernel_rfl) (by kernel_rfl) (by kernel_rfl) (fun _ _ _ h => h) (Or.inr ⟨by rfl, rfl⟩) ?_
          simp only [Act.put, List.setIfInBounds_toArray, List.set_cons_zero, List.set_cons_succ]
          refine wpAny_take (i := 5) (oi := { dst := some 85, op := Op.move (Operand.tmp 7), type := 24, pos := "law.go:158", after := #[{ on := 2, ground := Ground.guard }], guard := some (2, false) }) (v := undef) rfl (by kernel_rfl) (by kernel_rfl) (by kernel_rfl) (fun _ _ _ h => h) (Or.inr ⟨by rfl, rfl⟩) ?_
          simp only [Act.put, List.setIfInBounds_toArray, List.set_cons_zero, List.set_cons_succ]
          refine wpAny_take (i := 6) (oi := { dst := some 86, op := Op.move (Operand.tmp 10), type := 22, pos := "law.go:158", after := #[{ on := 2, ground := Ground.guard }], guard := some (2, false) }) (v := undef) rfl (by kernel_rfl) (by kernel_rfl) (by kernel_rfl) (fun _ _ _ h => h) (Or.inr ⟨by rfl, rfl⟩) ?_
          simp only [Act.put, List.setIfInBounds_toArray, List.set_cons_zero, List.set_cons_succ]
          refine wpAny_take (i := 7) (oi := { dst := some 87, op := Op.indexAddr 23 (Operand.tmp 5) (Operand.const (Value.int IntKind.i64 1)), type := 0, pos := "law.go:158", after := #[{ on := 2, ground := Ground.guard }], guard := some (2, false) }) (v := undef) rfl (by kernel_rfl) (by kernel_rfl) (by kernel_rfl) (fun _ _ _ h => h) (Or.inr ⟨by rfl, rfl⟩) ?_
          simp only [Act.put, List.setIfInBounds_toArray, List.set_cons_zero, List.set_cons_succ]
          refine wpAny_take (i := 8) (oi := { dst := some 88, op := Op.load 22 (Operand.tmp 87), type := 22, pos := "law.go:158", after := #[{ on := 7, ground := Ground.data }, { on := 2, ground := Ground.guard }], guard := some (2, false) }) (v := undef) rfl (by kernel_rfl) (by kernel_rfl) (by kernel_rfl) (fun _ _ _ h => h) (Or.inr ⟨by rfl, rfl⟩) ?_
          simp only [Act.put, List.setIfInBounds_toArray, List.set_cons_zero, List.set_cons_succ]
          refine wpAny_take (i := 9) (oi := { dst := some 89, op := Op.call { callee := Callee.value (Operand.func 7), args := #[Operand.tmp 85, Operand.tmp 86, Operand.tmp 88], argTypes := #[24, 22, 22] }, type := 22, pos := "law.go:158", after := #[{ on := 5, ground := Ground.data }, { on := 6, ground := Ground.data }, { on := 8, ground := Ground.data }, { on := 2, ground := Ground.chain }, { on := 2, ground := Ground.guard }], guard := some (2, false) }) (v := undef) rfl (by kernel_rfl) (by kernel_rfl) (by kernel_rfl) (fun _ _ _ h => h) (Or.inr ⟨by rfl, rfl⟩) ?_
          simp only [Act.put, List.setIfInBounds_toArray, List.set_cons_zero, List.set_cons_succ]
          refine wpAny_take (i := 10) (oi := { dst := some 90, op := Op.call { callee := Callee.value (Operand.func 8), args := #[Operand.tmp 83, Operand.tmp 84, Operand.tmp 89], argTypes := #[24, 22, 22] }, type := 22, pos := "law.go:158", after := #[{ on := 3, ground := Ground.data }, { on := 4, ground := Ground.data }, { on := 9, ground := Ground.data }, { on := 9, ground := Ground.chain }, { on := 2, ground := Ground.guard }], guard := some (2, false) }) (v := undef) rfl (by kernel_rfl) (by kernel_rfl) (by kernel_rfl) (fun _ _ _ h => h) (Or.inr ⟨by rfl, rfl⟩) ?_
          simp only [Act.put, List.setIfInBounds_toArray, List.set_cons_zero, List.set_cons_succ]
          refine wpAny_take (i := 11) (oi := { dst := some 91, op := Op.move (Operand.tmp 7), type := 24, pos := "law.go:158", after := #[{ on := 2, ground := Ground.guard }], guard := some (2, false) }) (v := undef) rfl (by kernel_rfl) (by kernel_rfl) (by kernel_rfl) (fun _ _ _ h => h) (Or.inr ⟨by rfl, rfl⟩) ?_
          simp only [Act.put, List.setIfInBounds_toArray, List.set_cons_zero, List.set_cons_succ]
          refine wpAny_take (i := 12) (oi := { dst := some 92, op := Op.move (Operand.tmp 1), type := 22, pos := "law.go:158", after := #[{ on := 2, ground := Ground.guard }], guard := some (2, false) }) (v := undef) rfl (by kernel_rfl) (by kernel_rfl) (by kernel_rfl) (fun _ _ _ h => h) (Or.inr ⟨by rfl, rfl⟩) ?_
          simp only [Act.put, List.setIfInBounds_toArray, List.set_cons_zero, List.set_cons_succ]
          refine wpAny_take (i := 13) (oi := { dst := some 93, op := Op.indexAddr 23 (Operand.tmp 5) (Operand.const (Value.int IntKind.i64 0)), type := 0, pos := "law.go:158", after := #[{ on := 2, ground := Ground.guard }], guard := some (2, false) }) (v := undef) rfl (by kernel_rfl) (by kernel_rfl) (by kernel_rfl) (fun _ _ _ h => h) (Or.inr ⟨by rfl, rfl⟩) ?_
          simp only [Act.put, List.setIfInBounds_toArray, List.set_cons_zero, List.set_cons_succ]
          refine wpAny_take (i := 14) (oi := { dst := some 94, op := Op.load 22 (Operand.tmp 93), type := 22, pos := "law.go:158", after := #[{ on := 13, ground := Ground.data }, { on := 2, ground := Ground.guard }], guard := some (2, false) }) (v := undef) rfl (by kernel_rfl) (by kernel_rfl) (by kernel_rfl) (fun _ _ _ h => h) (Or.inr ⟨by rfl, rfl⟩) ?_
          simp only [Act.put, List.setIfInBounds_toArray, List.set_cons_zero, List.set_cons_succ]
          refine wpAny_take (i := 15) (oi := { dst := some 95, op := Op.call { callee := Callee.value (Operand.func 7), args := #[Operand.tmp 91, Operand.tmp 92, Operand.tmp 94], argTypes := #[24, 22, 22] }, type := 22, pos := "law.go:158", after := #[{ on := 11, ground := Ground.data }, { on := 12, ground := Ground.data }, { on := 14, ground := Ground.data }, { on := 10, ground := Ground.chain }, { on := 2, ground := Ground.guard }], guard := some (2, false) }) (v := undef) rfl (by kernel_rfl) (by kernel_rfl) (by kernel_rfl) (fun _ _ _ h => h) (Or.inr ⟨by rfl, rfl⟩) ?_
          simp only [Act.put, List.setIfInBounds_toArray, List.set_cons_zero, List.set_cons_succ]
          refine wpAny_take (i := 16) (oi := { dst := some 96, op := Op.binOp BinOp.eql 22 (Operand.tmp 90) (Operand.tmp 95) 22, type := 4, pos := "law.go:158", after := #[{ on := 10, ground := Ground.data }, { on := 15, ground := Ground.data }, { on := 2, ground := Ground.guard }], guard := some (2, false) }) (v := undef) rfl (by kernel_rfl) (by kernel_rfl) (by kernel_rfl) (fun _ _ _ h => h) (Or.inr ⟨by rfl, rfl⟩) ?_
          simp only [Act.put, List.setIfInBounds_toArray, List.set_cons_zero, List.set_cons_succ]
          refine wpAny_take (i := 17) (oi := { dst := some 97, op := Op.pick (Operand.tmp 82) (Operand.const (Value.bool true)) (Operand.tmp 96), type := 4, pos := "law.go:158", after := #[{ on := 2, ground := Ground.data }, { on := 16, ground := Ground.data }], guard := none }) (v := .bool true) rfl (by kernel_rfl) (by kernel_rfl) (by kernel_rfl) (fun _ _ _ h => h) (Or.inl ⟨by rfl, fun w => by go_simp⟩) ?_
          simp only [Act.put, List.setIfInBounds_toArray, List.set_cons_zero, List.set_cons_succ]
          refine wpAny_take (i := 18) (oi := { dst := some 98, op := Op.move (Operand.tmp 97), type := 4, pos := "law.go:158", after := #[{ on := 17, ground := Ground.data }, { on := 15, ground := Ground.chain }], guard := none }) (v := .bool true) rfl (by kernel_rfl) (by kernel_rfl) (by kernel_rfl) (fun _ _ _ h => h) (Or.inl ⟨by rfl, fun w => by go_simp⟩) ?_
          simp only [Act.put, List.setIfInBounds_toArray, List.set_cons_zero, List.set_cons_succ]
          refine wpAny_ready (rs := [19]) (by kernel_rfl) (by simp) ?_
          refine AllReady.cons (o := { dst := some 99, op := Op.call { callee := Callee.value (Operand.func 6), args := #[], argTypes := #[] }, type := 4, pos := "law.go:158", after := #[{ on := 18, ground := Ground.chain }, { on := 18, ground := Ground.guard }], guard := some (18, true) }) rfl (fun K hK => ?_) AllReady.nil
          go_simp
          go_wp2_with (go_at_call 6; refine (awake_any _).mono ?_; rintro e w9 ⟨rfl, B9⟩)
          try (refine hK _ _ ?_)
          try clear hK K
          try simp only [Act.put, List.setIfInBounds_toArray, List.set_cons_zero, List.set_cons_succ]
          refine wpAny_take (i := 20) (oi := { dst := some 100, op := Op.pick (Operand.tmp 98) (Operand.tmp 99) (Operand.const (Value.bool false)), type := 4, pos := "law.go:158", after := #[{ on := 18, ground := Ground.data }, { on := 19, ground := Ground.data }], guard := none }) (v := .bool true) rfl (by kernel_rfl) (by kernel_rfl) (by kernel_rfl) (fun _ _ _ h => h) (Or.inl ⟨by rfl, fun w => by go_simp⟩) ?_
          simp only [Act.put, List.setIfInBounds_toArray, List.set_cons_zero, List.set_cons_succ]
          refine wpAny_take (i := 21) (oi := { dst := some 6, op := Op.assign (Operand.tmp 100), type := 4, pos := "law.go:158", after := #[{ on := 20, ground := Ground.data }, { on := 19, ground := Ground.chain }, { on := 0, ground := Ground.phase }, { on := 1, ground := Ground.phase }, { on := 2, ground := Ground.phase }, { on := 3, ground := Ground.phase }, { on := 4, ground := Ground.phase }, { on := 5, ground := Ground.phase }, { on := 6, ground := Ground.phase }, { on := 7, ground := Ground.phase }, { on := 8, ground := Ground.phase }, { on := 9, ground := Ground.phase }, { on := 10, ground := Ground.phase }, { on := 11, ground := Ground.phase }, { on := 12, ground := Ground.phase }, { on := 13, ground := Ground.phase }, { on := 14, ground := Ground.phase }, { on := 15, ground := Ground.phase }, { on := 16, ground := Ground.phase }, { on := 17, ground := Ground.phase }, { on := 18, ground := Ground.phase }, { on := 19, ground := Ground.phase }, { on := 20, ground := Ground.phase }], guard := none }) (v := .bool true) rfl (by kernel_rfl) (by kernel_rfl) (by kernel_rfl) (fun _ _ _ h => h) (Or.inl ⟨by rfl, fun w => by go_simp⟩) ?_
          simp only [Act.put, List.setIfInBounds_toArray, List.set_cons_zero, List.set_cons_succ]
          refine wpAny_done (by kernel_rfl) ?_ _
          have B8 := fin BB.out BB.out.size (by first | rfl | simp) (by first | rfl | simp) (by first | rfl | simp) (by first | rfl | simp) B9
          clear B9
          go_wp2
          go_ret
          exact ⟨rfl, B8⟩
end Go.Proofs.Ytanlnmmeinmceab
