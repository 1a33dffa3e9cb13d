/- What 'addTimes' and 'Mul' do: the product of two numbers, word by word. -/
import Derived.Test.YtnaiahjgdakneaaGreatDoorAdd
import Derived.Test.YtnaiahjgdakneaaGreatDoorShelf
namespace Go.Proofs.YtnaiahjgdakneaaGreatDoor
open Go.RowKit Num

theorem mul64 (x y : Int) (hx : 0 ≤ x) (hx' : x ≤ 18446744073709551615) (hy : 0 ≤ y) (hy' : y ≤ 18446744073709551615) (w : World) :
    Calls Tryz.prog 84 #[.int .u64 x, .int .u64 y] w fun e w' => e = .returned (.tuple #[.int .u64 (hi (x * y)), .int .u64 (lo (x * y))]) ∧ w' = w := by
  obtain ⟨x, rfl⟩ := Int.eq_ofNat_of_zero_le hx
  obtain ⟨y, rfl⟩ := Int.eq_ofNat_of_zero_le hy
  have h := Tryz.bits_Mul64 x y (by omega) (by omega) w
  have e1 : ((x * y / 18446744073709551616 : Nat) : Int) = hi ((x : Int) * y) := by unfold hi; rw [← Int.natCast_mul]; omega
  have e2 : ((x * y % 18446744073709551616 : Nat) : Int) = lo ((x : Int) * y) := by unfold lo; rw [← Int.natCast_mul]; omega
  rw [← e1, ← e2]
  exact h

set_option maxHeartbeats 800000 in
set_option maxRecDepth 100000 in
theorem addTimes_any (g oz nz cz N : Nat) (X : Nat → Int) (v : Value) (ny : Nat) (y : Nat → Int) (p : Nat) (f : Int) (w : World)
    (hz : Row w g N X) (hN : oz + nz ≤ N) (_hcz : nz ≤ cz) (_hbz : cz ≤ 9223372036854775807) (hX : Wd X oz nz)
    (hy : SlN g w v ny y p) (hny : ny ≤ nz) (hf0 : 0 ≤ f) (hf1 : f ≤ 18446744073709551615) :
    Calls Tryz.prog 95 #[.slice (some ⟨g, oz, none⟩) nz cz, v, .int .u64 f] w fun e w' => ∃ c X', e = .returned (.int .u64 c) ∧
      Row w' g N X' ∧ Only g w w' ∧ V X' oz ny + c * P ny = V X oz ny + V y p ny * f ∧ Wd X' oz nz ∧ (∀ j, j < oz ∨ oz + ny ≤ j → X' j = X j) ∧ 0 ≤ c ∧ c ≤ 18446744073709551615 := by
  obtain ⟨ao, cy, rfl, y1, y2, y3, y4, y5⟩ := hy
  go_enter Tryz.func95, Tryz.ntmps95
  go_wp2
  go_loopw [7, 15] (fun cs i wr => ∃ (k : Nat) (c : Int) (X' : Nat → Int), k ≤ ny ∧ cs = .int .u64 c ∧ i = .int .i64 k ∧
     Hid (Row wr g N X' ∧ Only g w wr ∧ V X' oz k + c * P k = V X oz k + V y p k * f ∧ Wd X' oz nz ∧ (∀ j, j < oz ∨ oz + k ≤ j → X' j = X j)) ∧ 0 ≤ c ∧ c ≤ 18446744073709551615) (fun _ i _ => ny - (intOf i).toNat)
  case atStart => exact ⟨0, 0, X, Nat.zero_le _, rfl, rfl, ⟨hz, Only.refl _ _, by simp [V], hX, fun _ _ => rfl⟩, by decide, by decide⟩
  case round =>
    obtain ⟨k, c, X', hk, rfl, rfl, hr, c0, c1⟩ := hrel
    by_cases hlt : k < ny
    · obtain ⟨b, off, rfl, hb, hbg, hc⟩ := y5 (by omega)
      obtain ⟨h1, h2, h3, h4, h5⟩ := hr.out
      have gy : wr.cell? ⟨b, off + k, none⟩ = some (.int .u64 (y (p + k))) := (h2.cell (p := ⟨b, off + k, none⟩) hbg).trans (hc k hlt)
      have gz : wr.cell? ⟨g, oz + k, none⟩ = some (.int .u64 (X' (oz + k))) := h1.cell (by omega)
      have gf := h1.frozen (oz + k)
      have qx := h4 k (by omega)
      have qy := y3 k hlt
      have mb := mul_bd qy ⟨hf0, hf1⟩ ⟨c0, c1⟩ qx
      obtain ⟨t1, t2, t3, t4, t5, t6, t7, t8⟩ := times_word (y (p + k) * f) c (X' (oz + k)) mb.1 ⟨c0, c1⟩ qx mb.2
      have T2 := hid t2
      have T3 := hid t3
      have H2 := hid h2
      have H3 := hid h3
      have H4 := hid h4
      have H5 := hid h5
      have bq := lo_nonneg (y (p + k) * f)
      have br := lo_nonneg (lo (y (p + k) * f) + c)
      obtain ⟨qx0, qx1⟩ := qx
      obtain ⟨qy0, qy1⟩ := qy
      have t9 : hi (y (p + k) * f) + hi (lo (y (p + k) * f) + c) + hi (X' (oz + k) + lo (lo (y (p + k) * f) + c)) ≤ 18446744073709551615 := by rw [t2]; exact t5
      clear h2 h3 h4 h5 t2 t3 hz hc y5 hX mb y3
      go_wp2_with (first
        | (go_at_call 84; refine (mul64 _ _ qy0 qy1 hf0 hf1 _).mono ?_; rintro e w1 ⟨rfl, rfl⟩)
        | simp only [add64_0 (lo (y (p + k) * f)) c bq c0]
        | simp only [add64_0 (X' (oz + k)) (lo (lo (y (p + k) * f) + c)) qx0 br])
      refine ⟨⟨k + 1, hi (y (p + k) * f + c + X' (oz + k)), upd X' (oz + k) (lo (X' (oz + k) + lo (lo (y (p + k) * f) + c))), by omega, by rw [T2.out], by go_num, ?_, t4, t5⟩, by simp [intOf]; omega⟩
      refine ⟨h1.set _ _, H2.out.set _ _, ?_, ?_, ?_⟩
      · rw [T3.out, times_step X' oz k _ c _ H3.out, H5.out (oz + k) (by omega)]
        simp only [V]
        grind
      · exact Wd_upd H4.out (lo_nonneg _) (lo_le _)
      · intro j hj
        rw [upd_other _ _ _ _ (by omega)]
        exact H5.out j (by omega)
    · have hkn : k = ny := by omega
      subst hkn
      go_wp2
      go_ret
      obtain ⟨h1, h2, h3, h4, h5⟩ := hr.out
      exact ⟨c, X', rfl, h1, h2, h3, h4, h5, c0, c1⟩

theorem nil_nz (w : World) : Nz w (.slice none 0 0) 0 0 :=
  ⟨fun _ => 0, 0, ⟨none, 0, rfl, Nat.le_refl _, by omega, (fun j hj => absurd hj (by omega)), (fun _ => rfl), (fun h => absurd h (by omega))⟩, Or.inl rfl, rfl⟩

/-- a number without words 0 at its end, in memory from block B on (or without words). -/
def NzF (B : Nat) (w : World) (v : Value) (k : Nat) (a : Int) : Prop :=
  Nz w v k a ∧ ∀ g, g < B → ∃ x o, SlN g w v k x o ∧ Nm x o k ∧ V x o k = a
theorem Own.nzf {B : Nat} {w : World} {v : Value} {k : Nat} {a : Int} (h : Own B w v k a) : NzF B w v k a := by
  refine ⟨h.nz, fun g' hg' => ?_⟩
  obtain ⟨g, N, X, rfl, h1, h2, h3, h4, h5, h6, h7⟩ := h
  exact ⟨X, 0, ⟨_, k, rfl, Nat.le_refl _, h7, h4, (fun e => by cases e), fun _ => ⟨g, 0, rfl, h1.lt, by omega, fun j hj => by rw [Nat.zero_add]; exact h1.cell (by omega)⟩⟩, h5, h6⟩
theorem nil_nzf (B : Nat) (w : World) : NzF B w (.slice none 0 0) 0 0 :=
  ⟨nil_nz w, fun g _ => ⟨fun _ => 0, 0, ⟨none, 0, rfl, Nat.le_refl _, by omega, (fun j hj => absurd hj (by omega)), (fun _ => rfl), (fun h => absurd h (by omega))⟩, Or.inl rfl, rfl⟩⟩
theorem NzF.mono {B B' : Nat} {w : World} {v : Value} {k : Nat} {a : Int} (h : NzF B w v k a) (hB : B' ≤ B) : NzF B' w v k a := ⟨h.1, fun g hg => h.2 g (by omega)⟩

end Go.Proofs.YtnaiahjgdakneaaGreatDoor
