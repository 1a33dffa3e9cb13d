/- What 'halves' and 'apart' answer: the two parts of a number; how far two numbers are from each other. -/
import Derived.Test.YtnaiahjgdakneaaDoorSub
import Derived.Deep.QuietTactic
import Derived.BigQuiet
import Derived.Deep.RegionWith
namespace Go.Proofs.YtnaiahjgdakneaaDoor
open Go.RowKit Num

theorem trimmed_quiet (b off n cap : Nat) (x : Nat → Int) (o : Nat) (w : World) (hcap : n ≤ cap) (hbig : cap ≤ 9223372036854775807) (hc : ∀ j, j < n → w.cell? ⟨b, off + j, none⟩ = some (.int .u64 (x (o + j)))) (i : Nat) :
    Calls Tryd.prog 39 #[.slice (some ⟨b, off, none⟩) n cap] (w.drewN i) fun e w' => e = .returned (.slice (some ⟨b, off, none⟩) (tr x o n) (tr x o n)) ∧ w' = w.drewN i :=
  trimmed_pos b off n cap x o (w.drewN i) hcap hbig hc

set_option maxHeartbeats 1600000 in
set_option maxRecDepth 100000 in
theorem halves_pos (b off n cap h : Nat) (x : Nat → Int) (o : Nat) (w : World) (h0 : 0 < h) (hh : h < n) (hcap : n ≤ cap) (hbig : cap ≤ 9223372036854775807) (hc : ∀ j, j < n → w.cell? ⟨b, off + j, none⟩ = some (.int .u64 (x (o + j)))) :
    Calls Tryd.prog 80 #[.slice (some ⟨b, off, none⟩) n cap, .int .i64 h] w fun e w' => e = .returned (.tuple #[.slice (some ⟨b, off, none⟩) (tr x o h) (tr x o h), .slice (some ⟨b, off + h, none⟩) (tr x (o + h) (n - h)) (tr x (o + h) (n - h))]) ∧ ∃ k, w' = w.drewN k := by
  have q1 := hid (fun i => trimmed_quiet b off h h x o w (Nat.le_refl _) (by omega) (fun j hj => hc j (by omega)) i)
  have q2 := hid (fun i => trimmed_quiet b (off + h) (n - h) (n - h) x (o + h) w (Nat.le_refl _) (by omega) (fun j hj => by rw [Nat.add_assoc, Nat.add_assoc]; exact hc (h + j) (by omega)) i)
  have i1 : (h : Int) < (n : Int) := by omega
  have i2 : (n : Int) ≤ (cap : Int) := by omega
  clear hc
  go_enter Tryd.func80, Tryd.ntmps80
  go_wp2
  go_quiet ((first | (go_at_call_of 39 (Value.slice (some ⟨b, off, none⟩) h h); exact Calls.quiet_of_same (q1.out _)) | (go_at_call_of 39 (Value.slice (some ⟨b, off + h, none⟩) (n - h) (n - h)); exact Calls.quiet_of_same (q2.out _))))
  go_wp2
  go_ret2
  exact ⟨rfl, _, rfl⟩

/-- 'halves': the lowest h words, and the others. -/
theorem halves_any (v : Value) (n h : Nat) (a : Int) (w : World) (hv : Nt w v n a) (h0 : 0 < h) (hh : h < n) :
    Calls Tryd.prog 80 #[v, .int .i64 h] w fun e w' => (∃ v1 v2 k1 k2 a1 a2, e = .returned (.tuple #[v1, v2]) ∧ Nz w v1 k1 a1 ∧ Nz w v2 k2 a2 ∧ a = a1 + P h * a2 ∧ k1 ≤ h ∧ k2 ≤ n - h) ∧ Below w.heap.size w w' := by
  obtain ⟨x, o, ⟨ao, cap, rfl, h1, h2, h3, h4, h5⟩, rfl⟩ := hv
  obtain ⟨b, off, rfl, hb, hc⟩ := h5 (by omega)
  refine (halves_pos b off n cap h x o w h0 hh h1 h2 hc).mono ?_
  rintro e w' ⟨rfl, k, rfl⟩
  have l1 := tr_le x o h
  have l2 := tr_le x (o + h) (n - h)
  refine ⟨⟨_, _, _, _, _, _, rfl, ⟨x, o, ⟨_, _, rfl, Nat.le_refl _, by omega, h3.mono (by omega), (fun e => by cases e), fun _ => ⟨b, off, rfl, hb, fun j hj => hc j (by omega)⟩⟩, tr_nm x o h, rfl⟩,
    ⟨x, o + h, ⟨_, _, rfl, Nat.le_refl _, by omega, (fun j hj => by rw [Nat.add_assoc]; exact h3 (h + j) (by omega)), (fun e => by cases e), fun _ => ⟨b, off + h, rfl, hb, fun j hj => by rw [Nat.add_assoc, Nat.add_assoc]; exact hc (h + j) (by omega)⟩⟩, tr_nm x (o + h) (n - h), rfl⟩, ?_, l1, l2⟩, below_drewN (Below.refl _ _) k⟩
  rw [V_tr, V_tr]
  have := V_split x o h (n - h)
  rw [show h + (n - h) = n by omega] at this
  exact this

set_option maxHeartbeats 1600000 in
set_option maxRecDepth 100000 in
/-- 'apart': how far two numbers are from each other, and whether the first one is the greater. -/
theorem apart_any (vx vy : Value) (n m : Nat) (a b : Int) (w : World) (hx : Nz w vx n a) (hy : Nz w vy m b) (hn : n ≤ 100000000) (hm : m ≤ 100000000) :
    Calls Tryd.prog 81 #[vx, vy] w fun e w' => ∃ v k d f, e = .returned (.tuple #[v, .bool f]) ∧ Nz w' v k d ∧ (f = true → d = a - b ∧ b < a) ∧ (f = false → d = b - a ∧ a ≤ b) ∧ k ≤ max n m ∧ Below w.heap.size w w' := by
  have Hc := hid (cmp_nt vx vy n m a b w hx.nt hy.nt)
  have HX := hid hx
  have HY := hid hy
  clear hx hy
  by_cases hlt : b < a
  · have hc : cmpI a b = 1 := by unfold cmpI; rw [if_neg (by omega), if_pos hlt]
    go_enter Tryd.func81, Tryd.ntmps81
    go_wp2_with fail
    refine Hc.out.mono ?_
    rintro e w1 ⟨rfl, i, hw1⟩
    rw [hc]
    have B1 : Below w.heap.size w w1 := by rw [hw1]; exact below_drewN (Below.refl _ _) i
    have hs1 : w.heap.size ≤ w1.heap.size := B1.size
    clear hw1 Hc
    go_wp2_with fail
    refine (norm_any _ n a w1 (HX.out.nt.below B1) (by omega)).mono ?_
    rintro e w2 ⟨k, X, rfl, R2, W2, N2, V2, l2, B2, -⟩
    have HV2 := hid V2
    have B12 := B1.trans (B2.mono hs1)
    have hlen : m ≤ k := HY.out.le_len (Nt.of_row R2 W2 V2 (by omega)) (by omega)
    obtain ⟨y, p, sy, -, ey⟩ := HY.out
    have SY := hid (sy.apart B12 hs1)
    have EY := hid ey
    clear sy ey N2 V2
    go_wp2_with fail
    refine (takeFrom_any w1.heap.size 0 k k k X _ m y p w2 R2 (by omega) (Nat.le_refl _) (by omega) W2 SY.out hlen (by rw [HV2.out, EY.out]; omega)).mono ?_
    rintro e w4 ⟨rfl, X', R4, O4, V4, W4, -⟩
    have HV4 := hid V4
    clear V4 R2 W2
    go_wp2_with fail
    refine (trimmed_nt _ k (a - b) w4 (sum_nt R4 W4 HV4.out (by rw [HV2.out, EY.out]) (by omega))).mono ?_
    rintro e w5 ⟨⟨v', k', rfl, s5, l5⟩, rfl⟩
    go_wp2
    go_ret2
    exact ⟨v', k', a - b, true, rfl, s5, fun _ => ⟨rfl, hlt⟩, (fun h => by cases h), by omega, B12.trans (O4.below hs1)⟩
  · have hc : cmpI a b ≤ 0 := by unfold cmpI; rw [if_neg hlt]; split <;> decide
    have hcb : decide (0 < cmpI a b) = false := by simpa using hc
    go_enter Tryd.func81, Tryd.ntmps81
    go_wp2_with fail
    refine Hc.out.mono ?_
    rintro e w1 ⟨rfl, i, hw1⟩
    have B1 : Below w.heap.size w w1 := by rw [hw1]; exact below_drewN (Below.refl _ _) i
    have hs1 : w.heap.size ≤ w1.heap.size := B1.size
    clear hw1 Hc
    go_wp2_with fail
    refine (norm_any _ m b w1 (HY.out.nt.below B1) (by omega)).mono ?_
    rintro e w2 ⟨k, X, rfl, R2, W2, N2, V2, l2, B2, -⟩
    have HV2 := hid V2
    have B12 := B1.trans (B2.mono hs1)
    have hlen : n ≤ k := HX.out.le_len (Nt.of_row R2 W2 V2 (by omega)) (by omega)
    obtain ⟨y, p, sy, -, ey⟩ := HX.out
    have SY := hid (sy.apart B12 hs1)
    have EY := hid ey
    clear sy ey N2 V2
    go_wp2_with fail
    refine (takeFrom_any w1.heap.size 0 k k k X _ n y p w2 R2 (by omega) (Nat.le_refl _) (by omega) W2 SY.out hlen (by rw [HV2.out, EY.out]; omega)).mono ?_
    rintro e w4 ⟨rfl, X', R4, O4, V4, W4, -⟩
    have HV4 := hid V4
    clear V4 R2 W2
    go_wp2_with fail
    refine (trimmed_nt _ k (b - a) w4 (sum_nt R4 W4 HV4.out (by rw [HV2.out, EY.out]) (by omega))).mono ?_
    rintro e w5 ⟨⟨v', k', rfl, s5, l5⟩, rfl⟩
    go_wp2
    go_ret2
    exact ⟨v', k', b - a, false, rfl, s5, (fun h => by cases h), fun _ => ⟨rfl, by omega⟩, by omega, B12.trans (O4.below hs1)⟩
end Go.Proofs.YtnaiahjgdakneaaDoor
