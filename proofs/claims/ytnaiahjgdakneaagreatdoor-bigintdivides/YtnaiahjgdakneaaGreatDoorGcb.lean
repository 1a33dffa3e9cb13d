/- What 'heads' and 'leapOf' answer. -/
import Derived.Test.YtnaiahjgdakneaaGreatDoorGca
import Derived.Test.YtnaiahjgdakneaaGreatDoorLong
namespace Go.Proofs.YtnaiahjgdakneaaGreatDoor
open Go.RowKit Num

/-- block g holds a leap. -/
def Lb (w : World) (g : Nat) (a b c d : Int) (t : Bool) : Prop :=
  w.heap[g]? = some (.cells #[.int .u64 a, .int .u64 b, .int .u64 c, .int .u64 d, .bool t] 106 (0, 0))
theorem Lb.facts {w : World} {g : Nat} {a b c d : Int} {t : Bool} (h : Lb w g a b c d t) :
    w.cell? ⟨g, 0, none⟩ = some (.int .u64 a) ∧ w.cell? ⟨g, 1, none⟩ = some (.int .u64 b) ∧ w.cell? ⟨g, 2, none⟩ = some (.int .u64 c) ∧ w.cell? ⟨g, 3, none⟩ = some (.int .u64 d) ∧ w.cell? ⟨g, 4, none⟩ = some (.bool t) ∧ (∀ i, w.frozen? ⟨g, i, none⟩ = false) ∧ g < w.heap.size := by
  unfold Lb at h
  refine ⟨?_, ?_, ?_, ?_, ?_, fun i => ?_, (Array.getElem?_eq_some_iff.1 h).1⟩
  · simp only [World.cell?, h]; rfl
  · simp only [World.cell?, h]; rfl
  · simp only [World.cell?, h]; rfl
  · simp only [World.cell?, h]; rfl
  · simp only [World.cell?, h]; rfl
  · simp only [World.frozen?, h]; rfl
theorem head_or (t1 t0 : Int) (s : Nat) (hs : s ≤ 63) (h1 : 0 ≤ t1) (h2 : (t1 + 1) * 2 ^ s ≤ 18446744073709551616) (h3 : 0 ≤ t0) (h4 : t0 ≤ 18446744073709551615) :
    bits .or .u64 (IntKind.u64.wrap (t1 * 2 ^ s)) (t0 / 2 ^ (64 - s)) = t1 * 2 ^ s + t0 / 2 ^ (64 - s) := by
  obtain ⟨t1, rfl⟩ := Int.eq_ofNat_of_zero_le h1
  obtain ⟨t0, rfl⟩ := Int.eq_ofNat_of_zero_le h3
  have hMK : 2 ^ (64 - s) * 2 ^ s = 18446744073709551616 := by rw [← Nat.pow_add, show 64 - s + s = 64 by omega]
  have pK : (2 : Int) ^ s = ((2 ^ s : Nat) : Int) := by simp
  have pM : (2 : Int) ^ (64 - s) = ((2 ^ (64 - s) : Nat) : Int) := by simp
  have hKpos : 0 < 2 ^ s := Nat.two_pow_pos s
  have hMpos : 0 < 2 ^ (64 - s) := Nat.two_pow_pos _
  have hb : t0 / 2 ^ (64 - s) < 2 ^ s := by rw [Nat.div_lt_iff_lt_mul hMpos, Nat.mul_comm, hMK]; omega
  have hor := or_add t1 (t0 / 2 ^ (64 - s)) s hb
  rw [pK] at h2
  rw [pK, pM]
  generalize 2 ^ s = K at *
  generalize 2 ^ (64 - s) = M at *
  have h5 : t1 * K + K ≤ 18446744073709551616 := by
    have e : ((t1 : Int) + 1) * (K : Int) = ((t1 * K + K : Nat) : Int) := by rw [Int.natCast_add, Int.natCast_mul]; grind
    omega
  rw [← Int.natCast_mul, ← Int.natCast_ediv, IntKind.wrap_u64, show ((t1 * K : Nat) : Int) % 18446744073709551616 = ((t1 * K : Nat) : Int) by omega, bits_or_u64_nat _ _ (by omega) (by omega), hor]
  simp
theorem wy_bd {y : Nat → Int} {p m : Nat} (h : Wd y p m) (j : Nat) : 0 ≤ wy y p m j ∧ wy y p m j ≤ 18446744073709551615 := by
  unfold wy; split
  · exact h j (by assumption)
  · decide
set_option maxHeartbeats 1600000 in
set_option maxRecDepth 100000 in
theorem heads_any (vx vy : Value) (k m : Nat) (x y : Nat → Int) (o p : Nat) (w : World) (hx : Sl w vx (k + 2) x o) (hy : Sl w vy m y p) (ht : 0 < x (o + (k + 1))) (hxy : wy y p m (k + 1) ≤ x (o + (k + 1))) (hn : k ≤ 100000000) :
    Calls Tryz.prog 77 #[vx, vy] w fun e w' => (∃ A B K M : Int, e = .returned (.tuple #[.int .u64 A, .int .u64 B]) ∧ 0 < K ∧ 0 < M ∧ K * M = 18446744073709551616 ∧ (x (o + (k + 1)) + 1) * K ≤ 18446744073709551616 ∧ A = x (o + (k + 1)) * K + x (o + k) / M ∧ B = wy y p m (k + 1) * K + wy y p m k / M) ∧ ∃ q, w' = w.drewN q := by
  have SX := hid hx
  have SY := hid hy
  obtain ⟨xo, xc, rfl, x1, x2, x3, x4, x5⟩ := hx
  obtain ⟨b, off, rfl, hb, hc⟩ := x5 (by omega)
  have c1 := hc (k + 1) (by omega)
  have c0 := hc k (by omega)
  obtain ⟨u1, u2⟩ := x3 (k + 1) (by omega)
  obtain ⟨u3, u4⟩ := x3 k (by omega)
  obtain ⟨s, s63, es, l1, l2⟩ := lead (x (o + (k + 1))) ht u2
  have WY : Wd y p m := by obtain ⟨_, _, _, _, _, q, _⟩ := hy; exact q
  obtain ⟨v1, v2⟩ := wy_bd WY (k + 1)
  obtain ⟨v3, v4⟩ := wy_bd WY k
  clear x3 x4 x5 hc hy WY
  generalize x (o + (k + 1)) = t1 at *
  generalize x (o + k) = t0 at *
  have hK : (0 : Int) < 2 ^ s := Int.pow_pos (by decide)
  have hM : (0 : Int) < 2 ^ (64 - s) := Int.pow_pos (by decide)
  have hKM : (2 : Int) ^ s * 2 ^ (64 - s) = 18446744073709551616 := by rw [← Int.pow_add, show s + (64 - s) = 64 by omega]; rfl
  have o1 := head_or t1 t0 s s63 u1 l2 u3 u4
  have o2 := head_or (wy y p m (k + 1)) (wy y p m k) s s63 v1 (Int.le_trans (Int.mul_le_mul_of_nonneg_right (by omega) (by omega)) l2) v3 v4
  have KM := hid hKM
  have W1 := hid (wordAt_any vy m y p)
  have i1 : IntKind.i64.wrap ((k : Int) + 2 - 1) = (k : Int) + 1 := by rw [IntKind.wrap_i64]; omega
  have i2 : IntKind.i64.wrap ((k : Int) + 2 - 2) = (k : Int) := by rw [IntKind.wrap_i64]; omega
  have HO := hid o1
  have HP := hid o2
  clear o1 o2 hKM l1
  go_enter Tryz.func77, Tryz.ntmps77
  go_wp2_with (go_at_call 67; refine (Tryz.bits_LeadingZeros64 _ _ (by omega) u2).mono ?_; rintro e w1 ⟨rfl, rfl⟩; rw [es])
  go_quiet (first
    | (go_at_call 94; exact Calls.quiet_of_same (W1.out _ (k + 1) _ SY.out (by first | omega | (rw [i1]; omega))))
    | (go_at_call 94; exact Calls.quiet_of_same (W1.out _ k _ SY.out (by first | omega | (rw [i2])))))
  rename_i nq
  go_wp2
  go_ret2
  exact ⟨⟨_, _, 2 ^ s, 2 ^ (64 - s), rfl, hK, hM, KM.out, l2, HO.out, HP.out⟩, nq, rfl⟩
end Go.Proofs.YtnaiahjgdakneaaGreatDoor
