/-
  DERIVED. GIVEN WITH THE SEED: THE CARDS: each row of YtocfenjampmdlabGreatDoorRows.lean that lists a variable, with what it lists TIED to the program's text (the seventh form; the later family's looks); each row that meets fmt, with fmt's text TOLD by the authors' own Lean function (tested against real Go, not proved from fmt's source: count such statements apart). THE CARD IS WHAT COUNTS. Prove the row's statement (the work); the ties are given (YtocfenjampmdlabGreatDoorTie.lean); close each card by the builder's one call (the guide's Derived/Test/ToyasCard.lean, 'card_holds'). Laid BY PROGRAM, IN A SANDBOX (cutbox-door.mjs). By AI agents, Wed Nov 11 2026. No macro, syntax, notation, axiom, sorry.
-/
import Derived.Test.YtocfenjampmdlabGreatDoorRows
import GoSem.ClaimSeven
namespace Go.Proofs.YtocfenjampmdlabGreatDoor
namespace Rows

/-- THE TIED CARD OF 'vinculumlaw08.ConvLong'. -/
def convLongCard : Claim7 := { stood := { row := convLongRow, standIns := [], harness := (true, "6aa3b1c70e9a1a019a7530f5b2cb6297c25dae3e60d8ec079a68f1f042bceb51"), looks := false }, kinds := [], alts := [], laidByText := true, laidKinds := [.data, .data, .data, .data, .data], laidTests := true, laidLooks := .later }
def ConvLongCardSaid : Prop := Claim7.holds Tryz.pinned (.plain (OpenSpec.ofChange convLongSpec)) convLongCard

/-- THE TIED CARD OF 'vinculumlaw08.ConvGreat'. -/
def convGreatCard : Claim7 := { stood := { row := convGreatRow, standIns := [], harness := (true, "6aa3b1c70e9a1a019a7530f5b2cb6297c25dae3e60d8ec079a68f1f042bceb51"), looks := false }, kinds := [], alts := [], laidByText := true, laidKinds := [.data, .data, .data, .data, .data], laidTests := true, laidLooks := .later }
def ConvGreatCardSaid : Prop := Claim7.holds Tryz.pinned (.plain (OpenSpec.ofChange convGreatSpec)) convGreatCard

/-- THE SECOND FORM's CARD OF 'vinculumlaw08.ConvLong'. -/
def convLongUptoCard : Claim7 := { stood := { row := convLongUptoRow, standIns := [], harness := (true, "6aa3b1c70e9a1a019a7530f5b2cb6297c25dae3e60d8ec079a68f1f042bceb51"), looks := false }, kinds := [], alts := [], laidByText := true, laidKinds := [.data, .data, .data, .data, .data], laidTests := true, laidLooks := .later }
def ConvLongUptoCardSaid : Prop := Claim7.holds Tryz.pinned (.plain (OpenSpec.upto convLongSpec)) convLongUptoCard

/-- THE SECOND FORM's CARD OF 'vinculumlaw08.ConvGreat'. -/
def convGreatUptoCard : Claim7 := { stood := { row := convGreatUptoRow, standIns := [], harness := (true, "6aa3b1c70e9a1a019a7530f5b2cb6297c25dae3e60d8ec079a68f1f042bceb51"), looks := false }, kinds := [], alts := [], laidByText := true, laidKinds := [.data, .data, .data, .data, .data], laidTests := true, laidLooks := .later }
def ConvGreatUptoCardSaid : Prop := Claim7.holds Tryz.pinned (.plain (OpenSpec.upto convGreatSpec)) convGreatUptoCard
end Rows
end Go.Proofs.YtocfenjampmdlabGreatDoor
