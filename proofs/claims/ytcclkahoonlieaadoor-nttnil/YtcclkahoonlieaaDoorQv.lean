/- The reference's New, and the law's own Sized and great. -/
import Derived.Test.YtcclkahoonlieaaDoorQu
import Derived.Test.YtcclkahoonlieaaDoorPo
namespace Go.Proofs.YtcclkahoonlieaaDoor
open Go.RowKit Num Nmb

set_option maxHeartbeats 1600000 in
theorem rnew_limit (p : Nat) (k : Int) (w : World) (hk : 20 < k) :
    Calls Tryd.prog 11 #[.int .u64 p, .int .i64 k] w fun e w' => e = .returned (.tuple #[.pointer none, .int .i64 13]) ∧ w' = w := by
  go_enter Tryd.func11, Tryd.ntmps11
  go_wp2
  go_ret2
  exact ⟨rfl, rfl⟩
set_option maxHeartbeats 1600000 in
theorem rnew_prime (p : Nat) (k : Int) (w : World) (hk : k ≤ 20) (hp : p ≤ 100000) (hb : isB p = false) :
    Calls Tryd.prog 11 #[.int .u64 p, .int .i64 k] w fun e w' => e = .returned (.tuple #[.pointer none, .int .i64 14]) ∧ Below w.heap.size w w' := by
  have IS := hid (ris_any p w (by omega))
  rw [hb] at IS
  have hk' : ¬ (20 : Int) < k := by omega
  clear hb hk
  go_enter Tryd.func11, Tryd.ntmps11
  go_wp2_with fail
  refine IS.out.mono ?_
  rintro e w1 ⟨rfl, rfl⟩
  go_wp2
  go_ret2
  exact ⟨rfl, Below.refl _ _⟩
set_option maxHeartbeats 1600000 in
theorem rnew_arg (p : Nat) (k : Int) (w : World) (hk : k ≤ 20) (hp : p ≤ 100000) (hb : Pri p) (ha : k < 0 ∨ (tw p : Int) < k) :
    Calls Tryd.prog 11 #[.int .u64 p, .int .i64 k] w fun e w' => e = .returned (.tuple #[.pointer none, .int .i64 1]) ∧ Below w.heap.size w w' := by
  have IS := hid (ris_any p w (by omega))
  rw [isB_of_pri hb (by omega)] at IS
  have RR := hid (rroot_bad p k w hb.1 hp ha)
  have hk' : ¬ (20 : Int) < k := by omega
  clear hb hk ha
  go_enter Tryd.func11, Tryd.ntmps11
  go_wp2_with fail
  refine IS.out.mono ?_
  rintro e w1 ⟨rfl, rfl⟩
  go_wp2_with fail
  refine RR.out.mono ?_
  rintro e w1 ⟨rfl, rfl⟩
  go_wp2
  go_ret2
  exact ⟨rfl, Below.refl _ _⟩
set_option maxHeartbeats 1600000 in
theorem rnew_yes (p k : Nat) (w : World) (hk : k ≤ 20) (hp : p ≤ 100000) (hb : Pri p) (ha : k ≤ tw p) :
    Calls Tryd.prog 11 #[.int .u64 p, .int .i64 k] w fun e w' => (∃ r, e = .returned (.tuple #[.pointer (some ⟨w.heap.size, 0, none⟩), .int .i64 0]) ∧ RT w' w.heap.size p k (2 ^ k) r ∧ RootIs p k r) ∧ Below w.heap.size w w' := by
  have IS := hid (ris_any p w (by omega))
  rw [isB_of_pri hb (by omega)] at IS
  have RR := hid (rroot_any p k w hb hp ha)
  have hk' : ¬ (20 : Int) < (k : Int) := by omega
  clear hb ha
  go_enter Tryd.func11, Tryd.ntmps11
  go_wp2_with fail
  refine IS.out.mono ?_
  rintro e w1 ⟨rfl, hw1⟩
  obtain rfl := hw1.symm
  go_wp2_with fail
  refine RR.out.mono ?_
  rintro e w1 ⟨⟨y, rfl, Y⟩, c, rfl⟩
  have YY := hid Y
  clear Y
  have GV := hid (rgiven_any p k y (w.drewN c) hk)
  go_wp2_with fail
  refine GV.out.mono ?_
  rintro e w2 ⟨rfl, T, B⟩
  have TT := hid T
  have BB := hid (Below.of_drew B)
  have hh : (w.drewN c).heap.size = w.heap.size := by simp
  have HH := hid hh
  clear T B hh GV
  go_wp2
  go_ret2
  refine ⟨⟨y, rfl, ?_, YY.out⟩, BB.out⟩
  have := TT.out
  rw [HH.out] at this
  exact this
/-- numbers, cut or 0 behind them. -/
def szd (a : Nat → Int) (n : Nat) (j : Nat) : Int := if j < n then a j else 0
set_option maxHeartbeats 1600000 in
theorem sized_any (u : Value) (n m : Nat) (a : Nat → Int) (w : World) (hu : Wl w u n a) (hm : m ≤ 1048576) :
    Calls Tryd.prog 17 #[u, .int .i64 m] w fun e w' => (∃ v, e = .returned v ∧ Wl w' v m (szd a n)) ∧ Below w.heap.size w w' := by
  have U := hid hu
  obtain ⟨ao, cap, rfl, _⟩ := hu
  go_enter Tryd.func17, Tryd.ntmps17
  go_wp2_with (at_make; refine wp_make _ rfl _ _ rfl _ _ m rfl rfl (by omega) (by omega) (by omega) ?_; intro w1 R1 B1 Z1; have HR := hid R1; have HB := hid B1; have HZ := hid Z1; clear R1 B1 Z1)
  generalize hg : w.heap.size = g at *
  have HG := hid hg
  clear hg
  go_loopw [6] (fun iv wr => ∃ (i : Nat), iv = .int .i64 i ∧ i ≤ m ∧ i ≤ n ∧ Hid (Row wr g m (szd a i) ∧ Below g w wr)) (fun iv _ => ((m : Int) - intOf iv).toNat)
  case atStart => exact ⟨0, rfl, Nat.zero_le _, Nat.zero_le _, by
    have : szd a 0 = fun _ => 0 := funext fun j => if_neg (by omega)
    rw [this]
    exact HR.out, HB.out⟩
  case round =>
    obtain ⟨i, rfl, hi, hin, H⟩ := hrel
    clear HR HB HZ
    have done : Hid (i = m ∨ i = n → Wl wr (.slice (some ⟨g, 0, none⟩) m m) m (szd a n)) := fun h => by
      refine Wl.eq (H.out.1.wl (fun j hj => ?_) (by omega)) fun j hj => ?_
      · unfold szd
        by_cases e : j < i
        · rw [if_pos e]; exact U.out.val (by omega)
        · rw [if_neg e]; omega
      · unfold szd
        by_cases e : j < i
        · rw [if_pos e, if_pos (by omega)]
        · rw [if_neg e, if_neg (by omega)]
    have BB := hid H.out.2
    by_cases h1 : i = m
    · have D := hid (done.out (Or.inl h1))
      have h1' : decide ((i : Int) < (m : Int)) = false := decide_eq_false (by omega)
      have h1'' : ¬ (i : Int) < (m : Int) := by omega
      clear H done h1
      go_wp2
      go_ret
      rw [HG.out]
      exact ⟨⟨_, rfl, D.out⟩, BB.out⟩
    · have h1' : (i : Int) < (m : Int) := by omega
      by_cases h2 : i = n
      · have D := hid (done.out (Or.inr h2))
        have h2' : ¬ (i : Int) < (n : Int) := by omega
        clear H done h1 h2
        go_wp2
        go_ret
        rw [HG.out]
        exact ⟨⟨_, rfl, D.out⟩, BB.out⟩
      · have h2' : (i : Int) < (n : Int) := by omega
        obtain ⟨b1, o1, rfl, hb1, c1'⟩ := U.out.cell (j := i) (by omega)
        have c1 : wr.cell? ⟨b1, o1 + i, none⟩ = some (.int .u64 (a i)) := by rw [BB.out.cell (p := ⟨b1, o1 + i, none⟩) (by rw [HG.out] at hb1; exact hb1)]; exact c1'
        have fz := H.out.1.frozen i
        have c3 := H.out.1.cell (i := i) (by omega)
        have RS : Hid (Row (wr.setCell ⟨g, i, none⟩ (.int .u64 (a i))) g m (szd a (i + 1))) := H.out.1.set i _ fun j _ => by
          unfold szd
          by_cases e : j = i
          · rw [if_pos (by omega), if_pos e, e]
          · by_cases e' : j < i
            · rw [if_pos (by omega), if_neg e, if_pos e']
            · rw [if_neg (by omega), if_neg e, if_neg e']
        have BS : Hid (Below g w (wr.setCell ⟨g, i, none⟩ (.int .u64 (a i)))) := below_set BB.out (Nat.le_refl _) _ _
        clear H done c1'
        generalize a i = ai at *
        go_wp2
        exact ⟨⟨i + 1, rfl, by omega, by omega, RS.out, BS.out⟩, by simp only [intOf]; omega⟩
end Go.Proofs.YtcclkahoonlieaaDoor
