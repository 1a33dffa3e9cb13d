/- The law WordRing, walked. -/
import Derived.Test.YtanlnmmeinmceaaWw
namespace Go.Proofs.Ytanlnmmeinmceaa
open Go.RowKit Num

theorem add_to {g : Nat} {m f s : Int} {w : World} (x y r : Int) (h : Fld w g m f s) (hm : Ok m f s) (hx : 0 ≤ x) (hy : 0 ≤ y) (e : (x + y) % m = r) :
    Calls Try.prog 12 #[.pointer (some ⟨g, 0, none⟩), .int .u64 x, .int .u64 y] w fun e w' => e = .returned (.int .u64 r) ∧ w' = w := by
  subst e; exact add_any g m f s x y w h hm hx hy
theorem sub_to {g : Nat} {m f s : Int} {w : World} (x y r : Int) (h : Fld w g m f s) (hm : Ok m f s) (hx : 0 ≤ x) (hy : 0 ≤ y) (e : (x - y) % m = r) :
    Calls Try.prog 14 #[.pointer (some ⟨g, 0, none⟩), .int .u64 x, .int .u64 y] w fun e w' => e = .returned (.int .u64 r) ∧ w' = w := by
  subst e; exact sub_any g m f s x y w h hm hx hy
theorem mul_to {g : Nat} {m f s : Int} {w : World} (x y r : Int) (h : Fld w g m f s) (hm : Ok m f s) (hx : 0 ≤ x) (hy : 0 ≤ y) (e : x * y % m = r) :
    Calls Try.prog 16 #[.pointer (some ⟨g, 0, none⟩), .int .u64 x, .int .u64 y] w fun e w' => e = .returned (.int .u64 r) ∧ ∃ k, w' = w.drewN k := by
  subst e; exact mul_any g m f s x y w h hm hx hy
theorem of_to {g : Nat} {m f s : Int} {w : World} (x r : Int) (h : Fld w g m f s) (hm : Ok m f s) (hx : 0 ≤ x) (e : x % m = r) :
    Calls Try.prog 11 #[.pointer (some ⟨g, 0, none⟩), .int .u64 x] w fun e w' => e = .returned (.int .u64 r) ∧ w' = w := by
  subst e; exact of_any g m f s x w h (by have := hm.h2; omega) hx
/-- the ring's equations. -/
structure Rg (m x y z A B S3 P Q R E D O : Int) : Prop where
  a1 : (x + y) % m = A
  a2 : (y + x) % m = A
  p1 : x * y % m = P
  p2 : y * x % m = P
  s1 : (A + z) % m = S3
  b1 : (y + z) % m = B
  s2 : (x + B) % m = S3
  q1 : P * z % m = Q
  r1 : y * z % m = R
  q2 : x * R % m = Q
  d1 : x * B % m = D
  e1 : x * z % m = E
  d2 : (P + E) % m = D
  o1 : (A - y) % m = O
  o2 : x % m = O
  o3 : x * 1 % m = O
theorem rg_of (m x y z : Int) : Rg m x y z ((x + y) % m) ((y + z) % m) ((x + y + z) % m) (x * y % m) (x * y * z % m) (y * z % m) (x * z % m) (x * (y + z) % m) (x % m) where
  a1 := rfl
  a2 := by rw [Int.add_comm]
  p1 := rfl
  p2 := by rw [Int.mul_comm]
  s1 := by rw [Int.emod_add_emod]
  b1 := rfl
  s2 := by rw [Int.add_emod_emod, Int.add_assoc]
  q1 := md_left _ _ _
  r1 := rfl
  q2 := by rw [md_right, Int.mul_assoc]
  d1 := md_right _ _ _
  e1 := rfl
  d2 := by rw [← Int.add_emod, Int.mul_add]
  o1 := by rw [Int.emod_sub_emod]; congr 1; omega
  o2 := rfl
  o3 := by rw [Int.mul_one]
set_option maxHeartbeats 3200000 in
theorem ring_law (m x y z : Int) (w : World) (bm_ : 0 ≤ m ∧ m ≤ 18446744073709551615) (bx_ : 0 ≤ x ∧ x ≤ 18446744073709551615) (by_ : 0 ≤ y ∧ y ≤ 18446744073709551615) (bz_ : 0 ≤ z ∧ z ≤ 18446744073709551615) :
    Calls Try.prog 8 #[.int .u64 m, .agg #[.int .u64 x, .int .u64 y, .int .u64 z]] w fun e w' => e = .returned (.bool true) ∧ Below w.heap.size w w' := by
  have hx := bx_.1
  have hy := by_.1
  have hz := bz_.1
  clear bx_ by_ bz_
  have B0 : Hid (Below w.heap.size w (w.alloc (.cells #[.int .u64 x, .int .u64 y, .int .u64 z] 41))) := (Below.refl _ _).alloc (Nat.le_refl _) _
  by_cases h : m < 2 ∨ 9223372036854775808 ≤ m
  · go_enter Try.func8, Try.ntmps8
    go_wp2_with fail
    refine (field_no m _ h).mono ?_
    rintro e w2 ⟨rfl, rfl⟩
    go_wp2_with fail
    refine (awake_any _).mono ?_
    rintro e w2 ⟨rfl, B⟩
    have B2 := B0.out.trans (B.mono (by simp))
    go_wp2
    go_ret
    exact ⟨rfl, B2⟩
  · have h2 : 2 ≤ m := by omega
    have h63 : m ≤ 9223372036854775807 := by omega
    have G := hid (rg_of m x y z)
    have hp : 0 < m := by omega
    have gA := (md_lt (x + y) hp).1
    have gB := (md_lt (y + z) hp).1
    have gP := (md_lt (x * y) hp).1
    have gR := (md_lt (y * z) hp).1
    have gE := (md_lt (x * z) hp).1
    clear h bm_
    go_enter Try.func8, Try.ntmps8
    go_wp2_with fail
    refine (field_any m _ h2 h63).mono ?_
    rintro e w1 ⟨rfl, B, f, s, F, O⟩
    have FF := hid F
    have OO := hid O
    have BB := hid (B0.out.trans (B.mono (by simp)))
    have hb : w1.heap[w.heap.size]? = some (.cells #[.int .u64 x, .int .u64 y, .int .u64 z] 41 (0, 0)) := by
      rw [B.block w.heap.size (by simp)]; exact heap_alloc_new w _
    have c0 : w1.cell? ⟨w.heap.size, 0, none⟩ = some (.int .u64 x) := by simp only [World.cell?, hb]; rfl
    have c1 : w1.cell? ⟨w.heap.size, 1, none⟩ = some (.int .u64 y) := by simp only [World.cell?, hb]; rfl
    have c2 : w1.cell? ⟨w.heap.size, 2, none⟩ = some (.int .u64 z) := by simp only [World.cell?, hb]; rfl
    rw [World.size_alloc] at FF
    clear hb
    clear F O B B0
    generalize (x + y) % m = A at *
    generalize (y + z) % m = Bq at *
    generalize (x + y + z) % m = S3 at *
    generalize x * y % m = P at *
    generalize x * y * z % m = Q at *
    generalize y * z % m = R at *
    generalize x * z % m = E at *
    generalize x * (y + z) % m = D at *
    generalize x % m = Of at *
    go_wp2_with fail
    refine (add_to x y A (FF.out.heap (by first | rfl | simp)) OO.out hx hy G.out.a1).mono ?_
    rintro e w2 ⟨rfl, rfl⟩
    go_wp2_with fail
    refine (add_to y x A (FF.out.heap (by first | rfl | simp)) OO.out hy hx G.out.a2).mono ?_
    rintro e w2 ⟨rfl, rfl⟩
    go_wp2_with fail
    refine (mul_to x y P (FF.out.heap (by first | rfl | simp)) OO.out hx hy G.out.p1).mono ?_
    rintro e w2 ⟨rfl, k2, rfl⟩
    go_wp2_with fail
    refine (mul_to y x P (FF.out.heap (by first | rfl | simp)) OO.out hy hx G.out.p2).mono ?_
    rintro e w2 ⟨rfl, k3, rfl⟩
    go_wp2_with fail
    refine (add_to x y A (FF.out.heap (by first | rfl | simp)) OO.out hx hy G.out.a1).mono ?_
    rintro e w2 ⟨rfl, rfl⟩
    go_wp2_with fail
    refine (add_to A z S3 (FF.out.heap (by first | rfl | simp)) OO.out gA hz G.out.s1).mono ?_
    rintro e w2 ⟨rfl, rfl⟩
    go_wp2_with fail
    refine (add_to y z Bq (FF.out.heap (by first | rfl | simp)) OO.out hy hz G.out.b1).mono ?_
    rintro e w2 ⟨rfl, rfl⟩
    go_wp2_with fail
    refine (add_to x Bq S3 (FF.out.heap (by first | rfl | simp)) OO.out hx gB G.out.s2).mono ?_
    rintro e w2 ⟨rfl, rfl⟩
    go_wp2_with fail
    refine (mul_to x y P (FF.out.heap (by first | rfl | simp)) OO.out hx hy G.out.p1).mono ?_
    rintro e w2 ⟨rfl, k8, rfl⟩
    go_wp2_with fail
    refine (mul_to P z Q (FF.out.heap (by first | rfl | simp)) OO.out gP hz G.out.q1).mono ?_
    rintro e w2 ⟨rfl, k9, rfl⟩
    go_wp2_with fail
    refine (mul_to y z R (FF.out.heap (by first | rfl | simp)) OO.out hy hz G.out.r1).mono ?_
    rintro e w2 ⟨rfl, k10, rfl⟩
    go_wp2_with fail
    refine (mul_to x R Q (FF.out.heap (by first | rfl | simp)) OO.out hx gR G.out.q2).mono ?_
    rintro e w2 ⟨rfl, k11, rfl⟩
    go_wp2_with fail
    refine (add_to y z Bq (FF.out.heap (by first | rfl | simp)) OO.out hy hz G.out.b1).mono ?_
    rintro e w2 ⟨rfl, rfl⟩
    go_wp2_with fail
    refine (mul_to x Bq D (FF.out.heap (by first | rfl | simp)) OO.out hx gB G.out.d1).mono ?_
    rintro e w2 ⟨rfl, k13, rfl⟩
    go_wp2_with fail
    refine (mul_to x y P (FF.out.heap (by first | rfl | simp)) OO.out hx hy G.out.p1).mono ?_
    rintro e w2 ⟨rfl, k14, rfl⟩
    go_wp2_with fail
    refine (mul_to x z E (FF.out.heap (by first | rfl | simp)) OO.out hx hz G.out.e1).mono ?_
    rintro e w2 ⟨rfl, k15, rfl⟩
    go_wp2_with fail
    refine (add_to P E D (FF.out.heap (by first | rfl | simp)) OO.out gP gE G.out.d2).mono ?_
    rintro e w2 ⟨rfl, rfl⟩
    go_wp2_with fail
    refine (add_to x y A (FF.out.heap (by first | rfl | simp)) OO.out hx hy G.out.a1).mono ?_
    rintro e w2 ⟨rfl, rfl⟩
    go_wp2_with fail
    refine (sub_to A y Of (FF.out.heap (by first | rfl | simp)) OO.out gA hy G.out.o1).mono ?_
    rintro e w2 ⟨rfl, rfl⟩
    go_wp2_with fail
    refine (of_to x Of (FF.out.heap (by first | rfl | simp)) OO.out hx G.out.o2).mono ?_
    rintro e w2 ⟨rfl, rfl⟩
    go_wp2_with fail
    refine (mul_to x 1 Of (FF.out.heap (by first | rfl | simp)) OO.out hx (by decide) G.out.o3).mono ?_
    rintro e w2 ⟨rfl, k20, rfl⟩
    go_wp2_with fail
    refine (of_to x Of (FF.out.heap (by first | rfl | simp)) OO.out hx G.out.o2).mono ?_
    rintro e w2 ⟨rfl, rfl⟩
    go_wp2_with fail
    refine (mul_to x 0 0 (FF.out.heap (by first | rfl | simp)) OO.out hx (by decide) (by rw [Int.mul_zero, Int.zero_emod])).mono ?_
    rintro e w2 ⟨rfl, k22, rfl⟩
    go_wp2_with fail
    refine (awake_any _).mono ?_
    rintro e w9 ⟨rfl, B9⟩
    have B8 := fin BB.out BB.out.size (by first | rfl | simp) (by first | rfl | simp) (by first | rfl | simp) (by first | rfl | simp) B9
    clear B9
    go_wp2
    go_ret
    exact ⟨rfl, B8⟩
end Go.Proofs.Ytanlnmmeinmceaa
