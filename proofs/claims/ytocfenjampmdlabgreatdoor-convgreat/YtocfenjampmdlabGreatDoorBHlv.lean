/- What 'halves' and 'apart' answer: the two parts of a number; how far two numbers are from each other. -/
import Derived.Test.YtocfenjampmdlabGreatDoorBSub
import Derived.Deep.QuietTactic
import Derived.BigQuiet
import Derived.Deep.RegionWith
namespace Go.Proofs.YtocfenjampmdlabGreatDoor.B
open Go.RowKit NumB

theorem trimmed_quiet (b off n cap : Nat) (x : Nat → Int) (o : Nat) (w : World) (hcap : n ≤ cap) (hbig : cap ≤ 9223372036854775807) (hc : ∀ j, j < n → w.cell? ⟨b, off + j, none⟩ = some (.int .u64 (x (o + j)))) (i : Nat) :
    Calls Tryz.prog 30 #[.slice (some ⟨b, off, none⟩) n cap] (w.drewN i) fun e w' => e = .returned (.slice (some ⟨b, off, none⟩) (tr x o n) (tr x o n)) ∧ w' = w.drewN i :=
  trimmed_pos b off n cap x o (w.drewN i) hcap hbig hc

end Go.Proofs.YtocfenjampmdlabGreatDoor.B
