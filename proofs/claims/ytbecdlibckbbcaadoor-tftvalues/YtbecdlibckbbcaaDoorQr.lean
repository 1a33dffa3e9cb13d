/- The reference's values of polynomials, and whether two lists are the same. -/
import Derived.Test.YtbecdlibckbbcaaDoorQa
import Derived.Test.YtbecdlibckbbcaaDoorVq
namespace Go.Proofs.YtbecdlibckbbcaaDoor
open Go.RowKit Num Nmb

theorem ev_nonneg {a : Nat → Int} {x : Int} (hx : 0 ≤ x) : ∀ n, (∀ j, j < n → 0 ≤ a j) → 0 ≤ ev a n x
  | 0, _ => Int.le_refl _
  | n + 1, h => by
    have h1 := ev_nonneg hx n (fun j hj => h j (by omega))
    have h2 : 0 ≤ a n * x ^ n := Int.mul_nonneg (h n (by omega)) (Int.pow_nonneg hx)
    show 0 ≤ ev a n x + a n * x ^ n
    omega
/-- Horner's way: what stands when the coefficients from k on were taken. -/
def hor (a : Nat → Int) (n : Nat) (x : Int) (k : Nat) : Int := ev (fun i => a (k + i)) (n - k) x
theorem hor_top (a : Nat → Int) (n : Nat) (x : Int) : hor a n x n = 0 := by unfold hor; rw [Nat.sub_self]; rfl
theorem hor_zero (a : Nat → Int) (n : Nat) (x : Int) : hor a n x 0 = ev a n x := by
  unfold hor
  rw [Nat.sub_zero]
  congr 1
  funext i
  rw [Nat.zero_add]
theorem hor_step (a : Nat → Int) {n : Nat} (x : Int) {k : Nat} (h : k < n) : hor a n x k = hor a n x (k + 1) * x + a k := by
  unfold hor
  rw [show n - k = (n - (k + 1)) + 1 by omega, ev_front, Nat.add_zero, Int.mul_comm, Int.add_comm]
  congr 3
  funext i
  congr 1
  omega
set_option maxHeartbeats 1600000 in
theorem rvalue_any (v : Value) (n : Nat) (a : Nat → Int) (x p : Int) (w : World) (hl : Wl w v n a) (hx : 0 ≤ x) (hp : 2 ≤ p) (hp' : p ≤ 9223372036854775807) :
    Calls Tryd.prog 35 #[v, .int .u64 x, .int .u64 p] w fun e w' => e = .returned (.int .u64 (ev a n x % p)) ∧ ∃ c, w' = w.drewN c := by
  obtain ⟨ao, cap, rfl, h1, h2, h3, h5⟩ := hl
  have H3 := hid h3
  have H5 := hid h5
  clear h3 h5
  go_enter Tryd.func35, Tryd.ntmps35
  go_wp2
  go_loopw [7, 8] (fun ov iv wr => ∃ (k : Nat) (q : Int), k ≤ n ∧ iv = .int .i64 ((k : Int) - 1) ∧ ov = .int .u64 q ∧ 0 ≤ q ∧ q < p ∧ Hid (q = hor a n x k % p) ∧ ∃ c, wr = w.drewN c) (fun _ iv _ => (intOf iv + 1).toNat)
  case atStart => exact ⟨n, 0, Nat.le_refl _, rfl, rfl, Int.le_refl _, by omega, by show _ = _; rw [hor_top]; rfl, 0, rfl⟩
  case round =>
    obtain ⟨k, q, hk, rfl, rfl, q0, q1, Q, c, rfl⟩ := hrel
    cases k with
    | zero =>
      have QQ : Hid (q = ev a n x % p) := by show _ = _; rw [Q.out, hor_zero]
      clear Q
      go_wp2
      go_ret
      exact ⟨by rw [QQ.out]; rfl, c, rfl⟩
    | succ k =>
      obtain ⟨b, off, rfl, hbs, hc⟩ := H5.out (by omega)
      have ck : (w.drewN c).cell? ⟨b, off + k, none⟩ = some (.int .u64 (a k)) := by simpa using hc k (by omega)
      obtain ⟨x0, x1⟩ := H3.out k (by omega)
      have md0 := Int.emod_nonneg (q * x) (show p ≠ 0 by omega)
      have md1 := Int.emod_lt_of_pos (q * x) (show 0 < p by omega)
      have rd0 := Int.emod_nonneg (q * x % p + a k) (show p ≠ 0 by omega)
      have rd1 := Int.emod_lt_of_pos (q * x % p + a k) (show 0 < p by omega)
      have Q' : Hid ((q * x % p + a k) % p = hor a n x k % p) := by
        show _ = _
        rw [hor_step a x (show k < n by omega), Q.out]
        rw [Int.add_emod, Int.emod_emod_of_dvd _ (Int.dvd_refl p), Int.mul_emod, Int.emod_emod_of_dvd _ (Int.dvd_refl p), ← Int.mul_emod, ← Int.add_emod]
      have M := hid (fun w => rmul_any q x p w q0 hx hp hp')
      have A := hid (fun w => radd_any (q * x % p) (a k) p w md0 x0 hp hp')
      clear Q hc
      generalize q * x % p = q2 at *
      generalize (q2 + a k) % p = q3 at *
      generalize hw : w.drewN c = w3 at *
      have HE := hid hw
      clear hw
      go_wp2_with fail
      go_quiet (first
        | (go_at_call 39; exact Calls.quiet_of (M.out _))
        | (go_at_call 38; exact Calls.quiet_of (A.out _)))
      rename_i nq
      go_wp2
      exact ⟨⟨k, q3, by omega, by congr 1, rfl, rd0, rd1, Q', c + nq, by rw [← HE.out]; simp⟩, by simp only [intOf]; omega⟩
open Classical in
set_option maxHeartbeats 1600000 in
theorem rsame_any (u v : Value) (n m : Nat) (a b : Nat → Int) (w : World) (hu : Wl w u n a) (hv : Wl w v m b) (r : Bool) (hr : r = true ↔ n = m ∧ ∀ j, j < n → a j = b j) :
    Calls Tryd.prog 18 #[u, v] w fun e w' => e = .returned (.bool r) ∧ ∃ c, w' = w.drewN c := by
  obtain ⟨ao, cap, rfl, h1, h2, h3, h5⟩ := hu
  obtain ⟨bo, bap, rfl, g1, g2, g3, g5⟩ := hv
  have H5 := hid h5
  have G5 := hid g5
  clear h3 h5 g3 g5
  by_cases e : n = m
  · subst e
    have R1 : Hid ((∀ j, j < n → a j = b j) → r = true) := fun h => hr.2 ⟨rfl, h⟩
    have R2 : Hid (r = true → ∀ j, j < n → a j = b j) := fun h => (hr.1 h).2
    clear hr
    go_enter Tryd.func18, Tryd.ntmps18
    go_wp2
    go_loopw [5] (fun iv wr => ∃ k : Nat, k ≤ n ∧ iv = .int .i64 k ∧ Hid (∀ j, j < k → a j = b j) ∧ ∃ c, wr = w.drewN c) (fun iv _ => ((n : Int) - intOf iv).toNat)
    case atStart => exact ⟨0, Nat.zero_le _, rfl, fun j hj => absurd hj (by omega), 0, rfl⟩
    case round =>
      obtain ⟨k, hk, rfl, S, c, rfl⟩ := hrel
      by_cases hkn : k = n
      · subst hkn
        obtain rfl : r = true := R1.out S.out
        go_wp2
        go_ret
        exact ⟨rfl, c, rfl⟩
      · have hkn' : (k : Int) < n := by omega
        obtain ⟨b1, o1, rfl, hb1, hc1⟩ := H5.out (by omega)
        obtain ⟨b2, o2, rfl, hb2, hc2⟩ := G5.out (by omega)
        have c1 : (w.drewN c).cell? ⟨b1, o1 + k, none⟩ = some (.int .u64 (a k)) := by simpa using hc1 k (by omega)
        have c2 : (w.drewN c).cell? ⟨b2, o2 + k, none⟩ = some (.int .u64 (b k)) := by simpa using hc2 k (by omega)
        clear hc1 hc2
        by_cases hab : a k = b k
        · have S' : Hid (∀ j, j < k + 1 → a j = b j) := fun j hj => by
            by_cases ej : j = k
            · rw [ej]; exact hab
            · exact S.out j (by omega)
          have hab' : (a k != b k) = false := by simp [hab]
          clear S hab
          generalize a k = ak at *
          generalize b k = bk at *
          generalize hw : w.drewN c = w3 at *
          have HE := hid hw
          clear hw
          go_wp2_with fail
          go_region
          all_goals
            go_wp2
            exact ⟨⟨k + 1, by omega, rfl, S', c + 1, by rw [← HE.out]; simp⟩, by simp only [intOf]; omega⟩
        · obtain rfl : r = false := by
            cases r
            · rfl
            · exact absurd (R2.out rfl k (by omega)) hab
          have hab' : (a k != b k) = true := bne_iff_ne.2 hab
          clear S hab
          generalize a k = ak at *
          generalize b k = bk at *
          generalize hw : w.drewN c = w3 at *
          have HE := hid hw
          clear hw
          go_wp2_with fail
          go_region
          all_goals
            go_wp2
            go_ret
            exact ⟨rfl, c + 1, by rw [← HE.out]; simp⟩
  · obtain rfl : r = false := by
      cases r
      · rfl
      · exact absurd (hr.1 rfl).1 e
    have e' : ((n : Int) != (m : Int)) = true := bne_iff_ne.2 (by omega)
    clear hr
    go_enter Tryd.func18, Tryd.ntmps18
    go_wp2
    go_ret
    exact ⟨rfl, 0, rfl⟩
/-- block g holds the reference's table. -/
def RT (w : World) (g : Nat) (p : Nat) (k n : Nat) (r : Nat) : Prop :=
  w.heap[g]? = some (.cells #[.int .u64 p, .int .i64 k, .int .i64 n, .int .u64 r] 37 (0, 0))
theorem RT.lt {w : World} {g p k n r : Nat} (h : RT w g p k n r) : g < w.heap.size := (Array.getElem?_eq_some_iff.1 h).1
theorem RT.cell0 {w : World} {g p k n r : Nat} (h : RT w g p k n r) : w.cell? ⟨g, 0, none⟩ = some (.int .u64 p) := by unfold RT at h; simp only [World.cell?, h]; rfl
theorem RT.cell1 {w : World} {g p k n r : Nat} (h : RT w g p k n r) : w.cell? ⟨g, 1, none⟩ = some (.int .i64 k) := by unfold RT at h; simp only [World.cell?, h]; rfl
theorem RT.cell2 {w : World} {g p k n r : Nat} (h : RT w g p k n r) : w.cell? ⟨g, 2, none⟩ = some (.int .i64 n) := by unfold RT at h; simp only [World.cell?, h]; rfl
theorem RT.cell3 {w : World} {g p k n r : Nat} (h : RT w g p k n r) : w.cell? ⟨g, 3, none⟩ = some (.int .u64 r) := by unfold RT at h; simp only [World.cell?, h]; rfl
theorem RT.frozen {w : World} {g p k n r : Nat} (h : RT w g p k n r) (i : Nat) : w.frozen? ⟨g, i, none⟩ = false := by unfold RT at h; simp only [World.frozen?, h]; rfl
theorem RT.drew {w : World} {g p k n r : Nat} (h : RT w g p k n r) (c : Nat) : RT (w.drewN c) g p k n r := by unfold RT at *; simpa using h
theorem RT.heap {w w' : World} {g p k n r : Nat} (h : RT w g p k n r) (e : w'.heap = w.heap) : RT w' g p k n r := by unfold RT; rw [e]; exact h
theorem RT.below {B : Nat} {w w' : World} {g p k n r : Nat} (h : RT w g p k n r) (hb : Below B w w') (hg : g < B) : RT w' g p k n r := by unfold RT; rw [hb.block g hg]; exact h
theorem RT.new (w : World) (p k n r : Nat) : RT (w.alloc (.cells #[.int .u64 p, .int .i64 k, .int .i64 n, .int .u64 r] 37)) w.heap.size p k n r := heap_alloc_new w _
theorem RT.set2 {w : World} {g p k n r : Nat} (h : RT w g p k n r) (m : Nat) : RT (w.setCell ⟨g, 2, none⟩ (.int .i64 m)) g p k m r := by
  unfold RT at *; rw [heap_setCell_same w g 2 _ _ _ h]; rfl
set_option maxHeartbeats 1600000 in
theorem rgiven_any (p k r : Nat) (w : World) (hk : k ≤ 20) :
    Calls Tryd.prog 30 #[.int .u64 p, .int .i64 k, .int .u64 r] w fun e w' => e = .returned (.pointer (some ⟨w.heap.size, 0, none⟩)) ∧ RT w' w.heap.size p k (2 ^ k) r ∧ Below w.heap.size w w' := by
  have T0 := hid (RT.new w p k 1 r)
  have B0 : Hid (Below w.heap.size w (w.alloc (.cells #[.int .u64 p, .int .i64 k, .int .i64 (1 : Nat), .int .u64 r] 37))) := (Below.refl _ _).alloc (Nat.le_refl _) _
  go_enter Tryd.func30, Tryd.ntmps30
  go_wp2
  generalize hg : w.heap.size = g at *
  go_loopw [8] (fun iv wr => ∃ (i n : Nat), i ≤ k ∧ iv = .int .i64 i ∧ n ≤ 1048576 ∧ Hid (n = 2 ^ i) ∧ Hid (RT wr g p k n r ∧ Below g w wr)) (fun iv _ => ((k : Int) - intOf iv).toNat)
  case atStart => exact ⟨0, 1, Nat.zero_le _, rfl, by omega, rfl, T0.out, B0.out⟩
  case round =>
    obtain ⟨i, n, hi, rfl, hn, E, R⟩ := hrel
    clear T0 B0
    by_cases hik : i = k
    · subst hik
      have RR : Hid (RT wr g p i (2 ^ i) r ∧ Below g w wr) := by show _ ∧ _; rw [← E.out]; exact R.out
      clear E R
      go_wp2
      go_ret
      subst hg
      exact ⟨rfl, RR.out.1, RR.out.2⟩
    · have hik' : (i : Int) < k := by omega
      have c2 := R.out.1.cell2
      have f2 := R.out.1.frozen 2
      have E' : Hid (2 * n = 2 ^ (i + 1)) := by show _ = _; rw [E.out, Nat.pow_succ, Nat.mul_comm]
      have hl : 2 ^ (i + 1) ≤ 2 ^ 20 := Nat.pow_le_pow_right (by omega) (by omega)
      have hn2 : 2 * n ≤ 1048576 := by rw [E'.out]; exact hl
      have R' : Hid (RT (wr.setCell ⟨g, 2, none⟩ (.int .i64 (2 * n : Nat))) g p k (2 * n) r ∧ Below g w (wr.setCell ⟨g, 2, none⟩ (.int .i64 (2 * n : Nat)))) := ⟨R.out.1.set2 _, below_set R.out.2 (Nat.le_refl _) 2 _⟩
      rw [Int.natCast_mul] at R'
      clear E R hl
      go_wp2
      exact ⟨⟨i + 1, 2 * n, by omega, rfl, hn2, E', R'⟩, by simp only [intOf]; omega⟩
end Go.Proofs.YtbecdlibckbbcaaDoor
