/- Products of boxes that are none, in the landed conv. -/
/- Products of boxes, in the landed conv. -/
import Derived.Test.YtocfenjampmdlabGreatDoorDr
import Derived.Test.YtocfenjampmdlabGreatDoorDl
import Derived.Test.YtocfenjampmdlabGreatDoorRgx
namespace Go.Proofs.YtocfenjampmdlabGreatDoor
open Go.RowKit Num Nmb

/-- no box, an error. -/
def noBox (er : Int) (e : Ending) : Prop := ∃ xo xc lo lc, e = .returned (.tuple #[.agg #[.slice xo 0 xc, .slice lo 0 lc], .int .i64 er])
end Go.Proofs.YtocfenjampmdlabGreatDoor
namespace Go.Proofs.YtocfenjampmdlabGreatDoor
open Go.RowKit Num Nmb

/-- what is known of the values of the region in which boxes are packed and multiplied. -/
def RpM (V0 V1 V3 : Value) (M na nb K : Nat) (A B X : Nat → Int) : Nat → Value → World → Prop
  | 0, v, _ => v = V0
  | 1, v, _ => v = V1
  | 2, v, W => ∃ ga, v = .slice (some ⟨ga, 0, none⟩) na na ∧ Row W ga na A
  | 3, v, _ => v = V3
  | 4, v, _ => v = V1
  | 5, v, W => ∃ gb, v = .slice (some ⟨gb, 0, none⟩) nb nb ∧ Row W gb nb B
  | 6, v, _ => v = .int .u64 M
  | 7, v, W => ∃ ao cap, v = .tuple #[.slice ao K cap, .int .i64 0] ∧ Wl W (.slice ao K cap) K X
  | 8, v, W => ∃ ao cap, v = .tuple #[.slice ao K cap, .int .i64 0] ∧ Wl W (.slice ao K cap) K X
  | 9, v, W => ∃ ao cap, v = .slice ao K cap ∧ Wl W (.slice ao K cap) K X
  | 10, _, _ => True
  | 11, v, W => ∃ ao cap, v = .slice ao K cap ∧ Wl W (.slice ao K cap) K X
  | _ + 12, _, _ => True
theorem RpM.mono {V0 V1 V3 : Value} {M na nb K : Nat} {A B X : Nat → Int} {v : Value} {w w' : World} (hb : Below w.heap.size w w') : ∀ j, RpM V0 V1 V3 M na nb K A B X j v w → RpM V0 V1 V3 M na nb K A B X j v w'
  | 0, h => h
  | 1, h => h
  | 2, ⟨ga, e, r⟩ => ⟨ga, e, r.below hb r.lt⟩
  | 3, h => h
  | 4, h => h
  | 5, ⟨ga, e, r⟩ => ⟨ga, e, r.below hb r.lt⟩
  | 6, h => h
  | 7, ⟨ao, cap, e, r⟩ => ⟨ao, cap, e, r.below hb⟩
  | 8, ⟨ao, cap, e, r⟩ => ⟨ao, cap, e, r.below hb⟩
  | 9, ⟨ao, cap, e, r⟩ => ⟨ao, cap, e, r.below hb⟩
  | 10, _ => trivial
  | 11, ⟨ao, cap, e, r⟩ => ⟨ao, cap, e, r.below hb⟩
  | _ + 12, _ => trivial
end Go.Proofs.YtocfenjampmdlabGreatDoor
