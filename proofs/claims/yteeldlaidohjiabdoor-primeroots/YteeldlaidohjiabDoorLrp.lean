/- The law PrimeRoots, walked. -/
import Derived.Test.YteeldlaidohjiabDoorLro
namespace Go.Proofs.YteeldlaidohjiabDoor
open Go.RowKit Num Nmb

set_option maxHeartbeats 1600000 in
set_option maxRecDepth 100000 in
theorem roots_no (p x : Nat) (k : Int) (w : World) (hl : p ≤ 100000) (hp : isB p = false) (L : Lay w) :
    Calls Tryd.prog 4 #[.int .u64 p, .int .i64 k, .int .u64 x] w fun e w' => e = .returned (.bool true) ∧ Below w.heap.size w w' := by
  have h1 : decide ((100000 : Int) < (p : Int)) = false := by simp; omega
  have R := hid (root_no p k w (by omega) hp L)
  have O := hid (fun w L => order_no p x w (by omega) hp L)
  have IS := hid (fun w => ris_any p w (by omega))
  rw [hp] at IS
  have LL := hid L
  clear L hp hl
  go_enter Tryd.func4, Tryd.ntmps4
  go_wp2_with fail
  refine R.out.mono ?_
  rintro e w2 ⟨rfl, c, rfl⟩
  go_wp2_with fail
  refine (O.out _ (LL.out.drew c)).mono ?_
  rintro e w2 ⟨rfl, c2, rfl⟩
  go_wp2_with fail
  refine (IS.out _).mono ?_
  rintro e w2 ⟨rfl, rfl⟩
  have AW := hid (awake_any _ (LL.out.drew (c + c2)))
  clear R O IS
  go_wp2_with fail
  refine Calls.mono (by simpa using AW.out) ?_
  rintro e w2 ⟨rfl, B⟩
  have B9 := hid (Below.of_drew B)
  clear B
  go_wp2
  go_ret
  exact ⟨rfl, B9.out⟩
set_option maxHeartbeats 1600000 in
set_option maxRecDepth 100000 in
theorem roots_yes (p x : Nat) (k : Int) (w : World) (hl : p ≤ 100000) (hp : Pri p) (L : Lay w) :
    Calls Tryd.prog 4 #[.int .u64 p, .int .i64 k, .int .u64 x] w fun e w' => e = .returned (.bool true) ∧ Below w.heap.size w w' := by
  have h1 : decide ((100000 : Int) < (p : Int)) = false := by simp; omega
  have hb := isB_of_pri hp (by omega)
  have R := hid (root_all p k w hp hl L)
  have O := hid (fun w L => order_any p x w hb (by omega) L)
  have IS := hid (fun w => ris_any p w (by omega))
  have RR := hid (fun w => rroot_all p k w hp hl)
  have RX := hid (fun w => rorder_any p x w hp.1 hl)
  have SAME := hid (fun n er m => ord_same (x := x) (n := n) (er := er) (m := m) hp hl)
  have ZERO : Hid (∀ n er, OrdIs p x n er → x % p = 0 → er = 1 ∧ n = 0) := fun n er h h0 => by
    rcases h with ⟨_, h2, h3⟩ | ⟨h2, _⟩ | ⟨h2, _⟩
    · exact ⟨h3, h2⟩
    · exact absurd h0 h2
    · exact absurd h0 h2
  rw [hb] at IS
  have h2 := hp.1
  have p0 : ((p : Int) == 0) = false := beq_eq_false_iff_ne.2 (by omega)
  have p0' : ¬ (p : Int) = 0 := by omega
  have p0'' : ¬ p = 0 := by omega
  have em : (x : Int) % (p : Int) = ((x % p : Nat) : Int) := (Int.natCast_emod x p).symm
  have yl := Nat.mod_lt x (show 0 < p by omega)
  have LL := hid L
  clear L hp hb
  go_enter Tryd.func4, Tryd.ntmps4
  go_wp2_with fail
  refine R.out.mono ?_
  rintro e w1 ⟨⟨r, er, rfl, hr⟩, B⟩
  have HR := hid hr
  have B1 := hid B
  have L1 := hid (LL.out.below B LL.out.size)
  clear hr B R
  go_wp2_with fail
  refine (O.out _ L1.out).mono ?_
  rintro e w2 ⟨⟨n, f, rfl, ho⟩, B⟩
  have HO := hid ho
  have B2 := hid (B1.out.trans (B.mono B1.out.size))
  have L2 := hid (L1.out.below B L1.out.size)
  clear ho B O
  go_wp2_with fail
  refine (IS.out _).mono ?_
  rintro e w3 ⟨rfl, rfl⟩
  go_wp2_with fail
  refine (RR.out _).mono ?_
  rintro e w4 ⟨⟨r', er', rfl, hr'⟩, c, rfl⟩
  obtain ⟨rfl, rfl⟩ := HR.out.uniq hr'
  clear hr' HR RR IS
  have AW := hid (fun c => awake_any _ (L2.out.drew c))
  have fin2 : Hid (∀ c w', Below (w3.drewN c).heap.size (w3.drewN c) w' → Below w.heap.size w w') := fun c w' b => B2.out.trans ((Below.of_drew b).mono B2.out.size)
  by_cases hx : x % p = 0
  · obtain ⟨rfl, rfl⟩ := ZERO.out n f HO.out hx
    rw [hx] at em
    clear ZERO SAME HO RX hx yl
    have A0 := hid (AW.out c)
    have F9 := hid (fin2.out c)
    go_wp2_with fail
    refine A0.out.mono ?_
    rintro e w5 ⟨rfl, B⟩
    have B9 := hid (F9.out _ B)
    clear B
    go_wp2
    go_ret
    exact ⟨rfl, B9.out⟩
  · have hx' : (((x % p : Nat) : Int) == 0) = false := beq_eq_false_iff_ne.2 (by omega)
    have SM := hid (fun m => SAME.out n f m HO.out hx)
    clear SAME ZERO HO hx
    generalize x % p = y at *
    go_wp2_with fail
    refine (RX.out _).mono ?_
    rintro e w5 ⟨⟨m, rfl, hm⟩, c2, rfl⟩
    have A0 := hid (AW.out (c + c2))
    have F9 := hid (fin2.out (c + c2))
    rcases SM.out m hm with ⟨m0, rfl, rfl⟩ | ⟨m0, rfl, rfl⟩
    · clear hm SM RX AW fin2
      go_wp2_with fail
      refine Calls.mono (by simpa using A0.out) ?_
      rintro e w5 ⟨rfl, B⟩
      have B9 := hid (F9.out _ B)
      clear B
      go_wp2
      go_ret
      exact ⟨rfl, B9.out⟩
    · have m1 : ¬ (n : Int) < 0 := by omega
      clear hm SM RX AW fin2
      go_wp2_with fail
      refine Calls.mono (by simpa using A0.out) ?_
      rintro e w5 ⟨rfl, B⟩
      have B9 := hid (F9.out _ B)
      clear B
      go_wp2
      go_ret
      exact ⟨rfl, B9.out⟩
set_option maxHeartbeats 1600000 in
set_option maxRecDepth 100000 in
theorem roots_law (p x : Nat) (k : Int) (w : World) (L : Lay w) :
    Calls Tryd.prog 4 #[.int .u64 p, .int .i64 k, .int .u64 x] w fun e w' => e = .returned (.bool true) ∧ Below w.heap.size w w' := by
  by_cases hl : p ≤ 100000
  · cases hb : isB p
    · exact roots_no p x k w hl hb L
    · exact roots_yes p x k w hl (pri_of_isB hb (by omega)) L
  · have h1 : decide ((100000 : Int) < (p : Int)) = true := by simp; omega
    have AW := hid (awake_any w L)
    clear L hl
    go_enter Tryd.func4, Tryd.ntmps4
    go_wp2_with fail
    refine AW.out.mono ?_
    rintro e w2 ⟨rfl, B⟩
    go_wp2
    go_ret
    exact ⟨rfl, B⟩
end Go.Proofs.YteeldlaidohjiabDoor
