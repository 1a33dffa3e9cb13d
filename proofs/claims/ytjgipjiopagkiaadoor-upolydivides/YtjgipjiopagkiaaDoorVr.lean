/- What a field is in memory. -/
/- What the reference of layer 3 answers: sums, products, powers. -/
import Derived.Test.YtjgipjiopagkiaaDoorRows
import Derived.Test.YtjgipjiopagkiaaDoorWn
import Derived.WalkKit
import Derived.WalkSpells
import Derived.WalkLawsBesides
namespace Go.Proofs.YtjgipjiopagkiaaDoor
open Go.RowKit Num

theorem hid {p : Prop} (h : p) : Hid p := h
theorem ret_int' {k : IntKind} {a b : Int} (h : a = b) : Ending.returned (.int k a) = .returned (.int k b) := by rw [h]

/-- block g holds the numbers modulo m. -/
def Fld (w : World) (g : Nat) (m f s : Int) : Prop :=
  w.heap[g]? = some (.cells #[.int .u64 m, .int .u64 f, .int .u64 s] 65 (0, 0))
theorem Fld.lt {w : World} {g : Nat} {m f s : Int} (h : Fld w g m f s) : g < w.heap.size := (Array.getElem?_eq_some_iff.1 h).1
theorem Fld.cell0 {w : World} {g : Nat} {m f s : Int} (h : Fld w g m f s) : w.cell? ⟨g, 0, none⟩ = some (.int .u64 m) := by
  unfold Fld at h; simp only [World.cell?, h]; rfl
theorem Fld.cell1 {w : World} {g : Nat} {m f s : Int} (h : Fld w g m f s) : w.cell? ⟨g, 1, none⟩ = some (.int .u64 f) := by
  unfold Fld at h; simp only [World.cell?, h]; rfl
theorem Fld.cell2 {w : World} {g : Nat} {m f s : Int} (h : Fld w g m f s) : w.cell? ⟨g, 2, none⟩ = some (.int .u64 s) := by
  unfold Fld at h; simp only [World.cell?, h]; rfl
theorem Fld.frozen {w : World} {g : Nat} {m f s : Int} (h : Fld w g m f s) (i : Nat) : w.frozen? ⟨g, i, none⟩ = false := by
  unfold Fld at h; simp only [World.frozen?, h]; rfl
theorem Fld.drew {w : World} {g : Nat} {m f s : Int} (h : Fld w g m f s) (k : Nat) : Fld (w.drewN k) g m f s := by
  unfold Fld at *; simpa using h
theorem Fld.below {B : Nat} {w w' : World} {g : Nat} {m f s : Int} (h : Fld w g m f s) (hb : Below B w w') (hg : g < B) : Fld w' g m f s := by
  unfold Fld; rw [hb.block g hg]; exact h
/-- what is known of a field's parts. -/
structure Ok (m f s : Int) : Prop where
  h2 : 2 ≤ m
  h63 : m ≤ 9223372036854775807
  odd : m % 2 = 1 → Mont m f ∧ s = 18446744073709551616 * 18446744073709551616 % m
theorem Fld.heap {w w' : World} {g : Nat} {m f s : Int} (h : Fld w g m f s) (e : w'.heap = w.heap) : Fld w' g m f s := by unfold Fld; rw [e]; exact h
/-- what was below a mark stays, through draws and through one more call. -/
theorem fin {B : Nat} {w w1 W w2 : World} (h : Below B w w1) (hB : B ≤ w1.heap.size) (e1 : W.heap = w1.heap) (e2 : W.os = w1.os) (e3 : W.tape = w1.tape) (e4 : W.output = w1.output) (b : Below W.heap.size W w2) : Below B w w2 :=
  ⟨b.os.trans (e2.trans h.os), b.tape.trans (e3.trans h.tape), b.output.trans (e4.trans h.output), Nat.le_trans h.size (Nat.le_trans (by rw [e1]; exact Nat.le_refl _) b.size),
    fun k hk => (b.block k (by rw [e1]; omega)).trans (by rw [e1]; exact h.block k hk)⟩
end Go.Proofs.YtjgipjiopagkiaaDoor
namespace Go.Proofs.YtjgipjiopagkiaaDoor
open Go.RowKit Num
set_option maxHeartbeats 400000 in
theorem radd_any (x y m : Int) (w : World) (hx : 0 ≤ x) (hy : 0 ≤ y) (hm : 2 ≤ m) (hm' : m ≤ 9223372036854775807) :
    Calls Tryd.prog 29 #[.int .u64 x, .int .u64 y, .int .u64 m] w fun e w' => e = .returned (.int .u64 ((x + y) % m)) ∧ ∃ k, w' = w.drewN k := by
  have h0 : (m == 0) = false := beq_eq_false_iff_ne.2 (by omega)
  have a := md_lt x (show 0 < m by omega)
  have b := md_lt y (show 0 < m by omega)
  have c := md_lt (x % m + y % m) (show 0 < m by omega)
  have E := hid (Int.add_emod x y m)
  go_enter Tryd.func29, Tryd.ntmps29
  go_wp2
  go_region
  go_wp2
  go_ret
  exact ⟨ret_int' E.out.symm, 1, rfl⟩
set_option maxHeartbeats 800000 in
theorem rmul_any (x y m : Int) (w : World) (hx : 0 ≤ x) (hy : 0 ≤ y) (hm : 2 ≤ m) (hm' : m ≤ 9223372036854775807) :
    Calls Tryd.prog 35 #[.int .u64 x, .int .u64 y, .int .u64 m] w fun e w' => e = .returned (.int .u64 (x * y % m)) ∧ ∃ k, w' = w.drewN k := by
  have h0 : (m == 0) = false := beq_eq_false_iff_ne.2 (by omega)
  have a := md_lt x (show 0 < m by omega)
  have b := md_lt y (show 0 < m by omega)
  have E0 : Hid ((0 + x % m * (y % m)) % m = x * y % m) := by show _ = _; rw [Int.zero_add, md_times]
  obtain ⟨T, hT⟩ : ∃ T, T = x * y % m := ⟨_, rfl⟩
  rw [← hT] at E0
  rw [← hT]
  clear hT
  go_enter Tryd.func35, Tryd.ntmps35
  go_wp2
  generalize x % m = u at *
  generalize y % m = v at *
  go_loopw [0, 1, 7] (fun xv yv ov wr => ∃ (p q r : Int), xv = .int .u64 p ∧ yv = .int .u64 q ∧ ov = .int .u64 r ∧ 0 ≤ p ∧ p < m ∧ 0 ≤ q ∧ q ≤ 9223372036854775807 ∧ 0 ≤ r ∧ r < m ∧ Hid ((r + p * q) % m = T) ∧ ∃ k, wr = w.drewN k) (fun _ yv _ _ => (intOf yv).toNat)
  case atStart => exact ⟨u, v, 0, rfl, rfl, rfl, a.1, a.2, b.1, by omega, by decide, by omega, E0, 0, rfl⟩
  case round =>
    obtain ⟨p, q, r, rfl, rfl, rfl, hp, hp', hq, hq', hr, hr', G, k, rfl⟩ := hrel
    by_cases hq0 : q = 0
    · subst hq0
      have e : r = T := by have := G.out; rw [Int.mul_zero, Int.add_zero, Int.emod_eq_of_lt hr hr'] at this; exact this
      subst e
      clear G
      go_wp2
      go_ret
      exact ⟨rfl, k, rfl⟩
    · have hq1 : 0 < q := by omega
      by_cases ho : q % 2 = 1
      · have N := hid (mul_odd r p q m T G.out ho)
        have ho' : (q % 2 == 1) = true := by simp [ho]
        clear G
        go_wp2_with fail
        refine (radd_any r p m _ hr hp hm hm').mono ?_
        rintro e w2 ⟨rfl, k2, rfl⟩
        go_wp2_with fail
        refine (radd_any p p m _ hp hp hm hm').mono ?_
        rintro e w3 ⟨rfl, k3, rfl⟩
        have b1 := md_lt (r + p) (show 0 < m by omega)
        have b2 := md_lt (p + p) (show 0 < m by omega)
        generalize (r + p) % m = r' at *
        generalize (p + p) % m = p' at *
        go_wp2
        exact ⟨⟨p', q / 2, r', rfl, rfl, rfl, b2.1, b2.2, by omega, by omega, b1.1, b1.2, N, k + k2 + k3, by simp⟩, by simp only [intOf]; omega⟩
      · have N := hid (mul_even r p q m T G.out (by omega))
        have ho' : (q % 2 == 1) = false := by simp; omega
        clear G
        go_wp2_with fail
        refine (radd_any p p m _ hp hp hm hm').mono ?_
        rintro e w2 ⟨rfl, k2, rfl⟩
        have b2 := md_lt (p + p) (show 0 < m by omega)
        generalize (p + p) % m = p' at *
        go_wp2
        exact ⟨⟨p', q / 2, r, rfl, rfl, rfl, b2.1, b2.2, by omega, by omega, hr, hr', N, k + k2, by simp⟩, by simp only [intOf]; omega⟩
set_option maxHeartbeats 800000 in
theorem rpow_any (x m : Int) (n : Nat) (w : World) (hx : 0 ≤ x) (hm : 2 ≤ m) (hm' : m ≤ 9223372036854775807) (hn : n ≤ 18446744073709551615) :
    Calls Tryd.prog 51 #[.int .u64 x, .int .u64 n, .int .u64 m] w fun e w' => e = .returned (.int .u64 (x ^ n % m)) ∧ ∃ k, w' = w.drewN k := by
  have h0 : (m == 0) = false := beq_eq_false_iff_ne.2 (by omega)
  have b1 := md_lt 1 (show 0 < m by omega)
  have E0 : Hid (1 % m * x ^ n % m = x ^ n % m) := by show _ = _; rw [md_left, Int.one_mul]
  obtain ⟨T, hT⟩ : ∃ T, T = x ^ n % m := ⟨_, rfl⟩
  rw [← hT] at E0
  rw [← hT]
  clear hT
  go_enter Tryd.func51, Tryd.ntmps51
  go_wp2
  go_loopw [0, 1, 7] (fun xv nv ov wr => ∃ (q p : Int) (j : Nat), xv = .int .u64 q ∧ nv = .int .u64 j ∧ ov = .int .u64 p ∧ j ≤ 18446744073709551615 ∧ 0 ≤ p ∧ p < m ∧ 0 ≤ q ∧ Hid (p * q ^ j % m = T) ∧ ∃ k, wr = w.drewN k) (fun _ nv _ _ => (intOf nv).toNat)
  case atStart => exact ⟨x, 1 % m, n, rfl, rfl, rfl, hn, b1.1, b1.2, hx, E0, 0, rfl⟩
  case round =>
    obtain ⟨q, p, j, rfl, rfl, rfl, hj, hp, hp', hq, G, k, rfl⟩ := hrel
    by_cases hj0 : j = 0
    · subst hj0
      have e : p = T := by have := G.out; rw [Int.pow_zero, Int.mul_one, Int.emod_eq_of_lt hp hp'] at this; exact this
      subst e
      clear G
      go_wp2
      go_ret
      exact ⟨rfl, k, rfl⟩
    · have hj1 : (0 : Int) < (j : Int) := by omega
      by_cases ho : j % 2 = 1
      · have N := hid (pow_odd p q m T j G.out ho)
        have ho' : ((j : Int) % 2 == 1) = true := by simp; omega
        clear G
        go_wp2_with fail
        refine (rmul_any p q m _ hp hq hm hm').mono ?_
        rintro e w2 ⟨rfl, k2, rfl⟩
        go_wp2_with fail
        refine (rmul_any q q m _ hq hq hm hm').mono ?_
        rintro e w3 ⟨rfl, k3, rfl⟩
        have b1 := md_lt (p * q) (show 0 < m by omega)
        have b2 := md_lt (q * q) (show 0 < m by omega)
        generalize p * q % m = p' at *
        generalize q * q % m = q' at *
        go_wp2
        exact ⟨⟨q', p', j / 2, rfl, by congr 1, rfl, by omega, b1.1, b1.2, b2.1, N, k + k2 + k3, by simp⟩, by simp only [intOf]; omega⟩
      · have N := hid (pow_even p q m T j G.out (by omega))
        have ho' : ((j : Int) % 2 == 1) = false := by simp; omega
        clear G
        go_wp2_with fail
        refine (rmul_any q q m _ hq hq hm hm').mono ?_
        rintro e w2 ⟨rfl, k2, rfl⟩
        have b2 := md_lt (q * q) (show 0 < m by omega)
        generalize q * q % m = q' at *
        go_wp2
        exact ⟨⟨q', p, j / 2, rfl, by congr 1, rfl, by omega, hp, hp', b2.1, N, k + k2, by simp⟩, by simp only [intOf]; omega⟩
end Go.Proofs.YtjgipjiopagkiaaDoor
