/- What the field's Inv answers. -/
import Derived.Test.YtcclkahoonlieaaDoorVw
namespace Go.Proofs.YtcclkahoonlieaaDoor
open Go.RowKit Num
set_option maxHeartbeats 800000 in
theorem euclid_any (m x : Int) (w : World) (hx : 0 < x) (hm : x < m) (hm' : m ≤ 9223372036854775807) :
    Calls Tryd.prog 74 #[.int .u64 m, .int .u64 x] w fun e w' => (∃ t : Int, e = .returned (.tuple #[.int .u64 (Nat.gcd m.toNat x.toNat : Nat), .int .i64 t]) ∧ m ∣ t * x - (Nat.gcd m.toNat x.toNat : Nat) ∧ -m ≤ t ∧ t ≤ m) ∧ w' = w := by
  obtain ⟨G, hG⟩ : ∃ G, Nat.gcd m.toNat x.toNat = G := ⟨_, rfl⟩
  have S0 := Euc.start hx hm
  rw [hG] at S0
  have S := hid S0
  rw [hG]
  clear hG S0
  go_enter Tryd.func74, Tryd.ntmps74
  go_wp2
  go_loop [6, 7, 8, 9] (fun lv nv lt nt => ∃ (l n a b : Int), lv = .int .u64 l ∧ nv = .int .u64 n ∧ lt = .int .i64 a ∧ nt = .int .i64 b ∧ Hid (Euc m x l n a b G)) (fun _ nv _ _ => (intOf nv).toNat)
  case atStart => exact ⟨m, x, 0, 1, rfl, rfl, rfl, rfl, S⟩
  case round =>
    obtain ⟨l, n, a, b, rfl, rfl, rfl, rfl, E⟩ := hrel
    clear S
    by_cases h0 : n = 0
    · subst h0
      obtain ⟨rfl, hd⟩ := E.out.done
      obtain ⟨b1, b2, b3, b4⟩ := E.out.bds
      have D := hid hd
      clear hd E
      go_wp2
      go_ret2
      exact ⟨⟨a, rfl, D.out, b1, b2⟩, rfl⟩
    · have h0' : (n != 0) = true := by simp [h0]
      have h0'' : (n == 0) = false := beq_eq_false_iff_ne.2 h0
      obtain ⟨N, c1, c2, c3, c4, c5, c6, c7, c8, c9⟩ := E.out.step h0
      have NN := hid N
      have e1 := E.out.hl
      have e2 := E.out.hn
      have e3 := E.out.hlm
      have hr := md_lt l (show 0 < n by omega)
      rw [← c1] at hr
      clear N E c1
      have hq : 0 ≤ l / n := c4
      generalize hqe : l / n = q at *
      go_wp2
      exact ⟨⟨n, l - q * n, b, a - q * b, rfl, rfl, rfl, rfl, NN⟩, by simp only [intOf]; omega⟩
/-- why x has no inverse modulo m. -/
def ec (x m : Int) : Int := if x % m = 0 then 10 else if gc x m = 1 then 0 else 11
/-- what Inv answers. -/
structure Iv (m x y : Int) : Prop where
  bad : ec x m ≠ 0 → y = 0
  good : ec x m = 0 → 0 ≤ y ∧ y < m ∧ x * y % m = 1
theorem ec_pos (x : Int) {m : Int} (hm : 2 ≤ m) (h : gc x m = 1) : ec x m = 0 := by
  unfold ec
  rw [if_neg, if_pos h]
  intro h0
  unfold gc at h
  rw [h0] at h
  simp at h
  omega
theorem ec_zero {x m : Int} (h : ec x m = 0) : gc x m = 1 := by
  unfold ec at h
  split at h
  · exact absurd h (by decide)
  · split at h
    · assumption
    · exact absurd h (by decide)
set_option maxHeartbeats 800000 in
theorem inv_any (g : Nat) (m f s x : Int) (w : World) (h : Fld w g m f s) (hm : Ok m f s) (hx : 0 ≤ x) :
    Calls Tryd.prog 59 #[.pointer (some ⟨g, 0, none⟩), .int .u64 x] w fun e w' => (∃ y, e = .returned (.tuple #[.int .u64 y, .int .i64 (ec x m)]) ∧ Iv m x y) ∧ w' = w := by
  have H := hid h
  have c0 := h.cell0
  have h2 := hm.h2
  have h63 := hm.h63
  have a := md_lt x (show 0 < m by omega)
  have L := hid (left_any g m f s x w h (by omega) hx)
  have I : ∀ y, x % m * y % m = 1 → x * y % m = 1 := fun y hy => by rw [md_left] at hy; exact hy
  have II := hid I
  clear h hm I
  by_cases h1 : x % m = 0
  · have e1 : ec x m = 10 := by unfold ec; rw [if_pos h1]
    have e2 : Hid (Iv m x 0) := ⟨fun _ => rfl, fun h => absurd h (by rw [e1]; decide)⟩
    rw [e1]
    have h1' : (x % m == 0) = true := by simpa using h1
    generalize x % m = u at *
    clear e1 II h1
    go_enter Tryd.func59, Tryd.ntmps59
    go_wp2_with fail
    refine L.out.mono ?_
    rintro e w2 ⟨rfl, rfl⟩
    go_wp2
    go_ret2
    exact ⟨⟨0, rfl, e2.out⟩, rfl⟩
  · have h1' : (x % m == 0) = false := beq_eq_false_iff_ne.2 h1
    have EU := hid (euclid_any m (x % m) w (by omega) a.2 h63)
    have eg : Nat.gcd m.toNat (x % m).toNat = gc x m := rfl
    rw [eg] at EU
    by_cases h3 : gc x m = 1
    · have e1 : ec x m = 0 := ec_pos x h2 h3
      have e2 : Hid (∀ y, 0 ≤ y ∧ y < m ∧ x % m * y % m = 1 → Iv m x y) := fun y hy => ⟨fun h => absurd e1 h, fun _ => ⟨hy.1, hy.2.1, II.out y hy.2.2⟩⟩
      rw [e1]
      rw [h3] at EU
      clear eg h3 e1 II
      generalize x % m = u at *
      go_enter Tryd.func59, Tryd.ntmps59
      go_wp2_with fail
      refine L.out.mono ?_
      rintro e w2 ⟨rfl, rfl⟩
      go_wp2_with fail
      refine EU.out.mono ?_
      rintro e w2 ⟨⟨t, rfl, hd, t1, t2⟩, rfl⟩
      have D := hid hd
      clear hd EU L
      by_cases ht : t < 0
      · obtain ⟨i1, i2, i3⟩ := inv_neg h2 D.out t1 ht
        have i3' := hid i3
        clear i3
        go_wp2
        go_ret2
        exact ⟨⟨t + m, rfl, e2.out _ ⟨i1, i2, i3'.out⟩⟩, rfl⟩
      · obtain ⟨i1, i2, i3⟩ := inv_pos h2 D.out (by omega) t2
        have i3' := hid i3
        clear i3
        go_wp2
        go_ret2
        exact ⟨⟨t, rfl, e2.out _ ⟨i1, i2, i3'.out⟩⟩, rfl⟩
    · have e1 : ec x m = 11 := by unfold ec; rw [if_neg h1, if_neg h3]
      have e2 : Hid (Iv m x 0) := ⟨fun _ => rfl, fun h => absurd h (by rw [e1]; decide)⟩
      have hpos : 1 < (gc x m : Int) := by
        have : 0 < gc x m := Nat.gcd_pos_of_pos_left _ (by omega)
        omega
      rw [e1]
      clear eg h3 e1 II
      generalize (gc x m : Int) = G at *
      generalize x % m = u at *
      go_enter Tryd.func59, Tryd.ntmps59
      go_wp2_with fail
      refine L.out.mono ?_
      rintro e w2 ⟨rfl, rfl⟩
      go_wp2_with fail
      refine EU.out.mono ?_
      rintro e w2 ⟨⟨t, rfl, hd, t1, t2⟩, rfl⟩
      clear hd EU L
      go_wp2
      go_ret2
      exact ⟨⟨0, rfl, e2.out⟩, rfl⟩
end Go.Proofs.YtcclkahoonlieaaDoor
