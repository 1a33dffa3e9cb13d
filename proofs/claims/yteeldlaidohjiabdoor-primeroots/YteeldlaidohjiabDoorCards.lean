/-
  DERIVED. GIVEN WITH THE SEED: THE CARDS: each row of YteeldlaidohjiabDoorRows.lean that lists a variable, with what it lists TIED to the program's text (the seventh form; the later family's looks); each row that meets fmt, with fmt's text TOLD by the authors' own Lean function (tested against real Go, not proved from fmt's source: count such statements apart). THE CARD IS WHAT COUNTS. Prove the row's statement (the work); the ties are given (YteeldlaidohjiabDoorTie.lean); close each card by the builder's one call (the guide's Derived/Test/ToyasCard.lean, 'card_holds'). Laid BY PROGRAM, IN A SANDBOX (cutbox-door.mjs). By AI agents, Wed Nov 11 2026. No macro, syntax, notation, axiom, sorry.
-/
import Derived.Test.YteeldlaidohjiabDoorRows
import GoSem.ClaimSeven
namespace Go.Proofs.YteeldlaidohjiabDoor
namespace Rows

/-- THE TIED CARD OF 'vinculumlaw04.PrimeGreat'. -/
def primeGreatCard : Claim7 := { stood := { row := primeGreatRow, standIns := [], harness := (true, "17f94672148a47909892ea467787f44eb9bbd707982db0b6b1a8086502dca28e"), looks := false }, kinds := [], alts := [], laidByText := true, laidKinds := [.data, .data], laidTests := true, laidLooks := .later }
def PrimeGreatCardSaid : Prop := Claim7.holds Tryd.pinned (.plain (OpenSpec.ofChange primeGreatSpec)) primeGreatCard

/-- THE TIED CARD OF 'vinculumlaw04.PrimeRoots'. -/
def primeRootsCard : Claim7 := { stood := { row := primeRootsRow, standIns := [], harness := (true, "17f94672148a47909892ea467787f44eb9bbd707982db0b6b1a8086502dca28e"), looks := false }, kinds := [], alts := [], laidByText := true, laidKinds := [.data, .data], laidTests := true, laidLooks := .later }
def PrimeRootsCardSaid : Prop := Claim7.holds Tryd.pinned (.plain (OpenSpec.ofChange primeRootsSpec)) primeRootsCard

/-- THE TIED CARD OF 'vinculumlaw04.PrimeOrders'. -/
def primeOrdersCard : Claim7 := { stood := { row := primeOrdersRow, standIns := [], harness := (true, "17f94672148a47909892ea467787f44eb9bbd707982db0b6b1a8086502dca28e"), looks := false }, kinds := [], alts := [], laidByText := true, laidKinds := [.data, .data], laidTests := true, laidLooks := .later }
def PrimeOrdersCardSaid : Prop := Claim7.holds Tryd.pinned (.plain (OpenSpec.ofChange primeOrdersSpec)) primeOrdersCard

/-- THE SECOND FORM's CARD OF 'vinculumlaw04.PrimeGreat'. -/
def primeGreatUptoCard : Claim7 := { stood := { row := primeGreatUptoRow, standIns := [], harness := (true, "17f94672148a47909892ea467787f44eb9bbd707982db0b6b1a8086502dca28e"), looks := false }, kinds := [], alts := [], laidByText := true, laidKinds := [.data, .data], laidTests := true, laidLooks := .later }
def PrimeGreatUptoCardSaid : Prop := Claim7.holds Tryd.pinned (.plain (OpenSpec.upto primeGreatSpec)) primeGreatUptoCard

/-- THE SECOND FORM's CARD OF 'vinculumlaw04.PrimeRoots'. -/
def primeRootsUptoCard : Claim7 := { stood := { row := primeRootsUptoRow, standIns := [], harness := (true, "17f94672148a47909892ea467787f44eb9bbd707982db0b6b1a8086502dca28e"), looks := false }, kinds := [], alts := [], laidByText := true, laidKinds := [.data, .data], laidTests := true, laidLooks := .later }
def PrimeRootsUptoCardSaid : Prop := Claim7.holds Tryd.pinned (.plain (OpenSpec.upto primeRootsSpec)) primeRootsUptoCard

/-- THE SECOND FORM's CARD OF 'vinculumlaw04.PrimeOrders'. -/
def primeOrdersUptoCard : Claim7 := { stood := { row := primeOrdersUptoRow, standIns := [], harness := (true, "17f94672148a47909892ea467787f44eb9bbd707982db0b6b1a8086502dca28e"), looks := false }, kinds := [], alts := [], laidByText := true, laidKinds := [.data, .data], laidTests := true, laidLooks := .later }
def PrimeOrdersUptoCardSaid : Prop := Claim7.holds Tryd.pinned (.plain (OpenSpec.upto primeOrdersSpec)) primeOrdersUptoCard
end Rows
end Go.Proofs.YteeldlaidohjiabDoor
