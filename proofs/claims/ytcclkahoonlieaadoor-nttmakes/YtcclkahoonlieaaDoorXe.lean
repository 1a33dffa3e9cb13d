/- The one loop of ntt: what each does with a function. -/
import Derived.Test.YtcclkahoonlieaaDoorQo
import Derived.Shelf.GgClosure.Gives
namespace Go.Proofs.YtcclkahoonlieaaDoor
open Go.RowKit Num Nmb

set_option maxHeartbeats 1600000 in
theorem each_any (n g : Nat) (lb : Array Value) (eg : ∀ args w, (callFunc g args).run Tryd.prog w = .ok (.enter g args) w) (I : Nat → World → Prop) (w : World) (hn : n ≤ 9223372036854775807) (h0 : I 0 w)
    (hs : ∀ i W, i < n → I i W → Calls Tryd.prog g (#[.int .i64 (i : Nat)] ++ lb) W fun e w' => e = .returned (.tuple #[]) ∧ I (i + 1) w') :
    Calls Tryd.prog 47 #[.int .i64 n, .func (.func g) #[] lb] w fun e w' => e = .returned (.tuple #[]) ∧ I n w' := by
  have H0 := hid h0
  have HS := hid hs
  clear h0 hs
  go_enter Tryd.func47, Tryd.ntmps47
  go_wp2
  go_loopw [6] (fun iv wr => ∃ (i : Nat), iv = .int .i64 i ∧ i ≤ n ∧ Hid (I i wr)) (fun iv _ => ((n : Int) - intOf iv).toNat)
  case atStart => exact ⟨0, rfl, Nat.zero_le _, H0⟩
  case round =>
    obtain ⟨i, rfl, hi, R⟩ := hrel
    by_cases hin : i = n
    · have hin' : ¬ (i : Int) < (n : Int) := by omega
      obtain rfl := hin
      clear HS
      go_wp2
      go_end0
      exact ⟨rfl, R.out⟩
    · have hin' : (i : Int) < (n : Int) := by omega
      have C := hid (HS.out i wr (by omega) R.out)
      clear R H0
      go_wp2_with (go_at_fn g; refine C.out.mono ?_; rintro e w2 ⟨rfl, R2⟩; have RR2 := hid R2; clear R2 C)
      exact ⟨⟨i + 1, rfl, by omega, RR2⟩, by simp only [intOf]; omega⟩
end Go.Proofs.YtcclkahoonlieaaDoor
