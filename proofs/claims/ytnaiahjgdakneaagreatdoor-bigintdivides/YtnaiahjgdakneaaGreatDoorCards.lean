/-
  DERIVED. GIVEN WITH THE SEED: THE CARDS: each row of YtnaiahjgdakneaaGreatDoorRows.lean that lists a variable, with what it lists TIED to the program's text (the seventh form; the later family's looks); each row that meets fmt, with fmt's text TOLD by the authors' own Lean function (tested against real Go, not proved from fmt's source: count such statements apart). THE CARD IS WHAT COUNTS. Prove the row's statement (the work); the ties are given (YtnaiahjgdakneaaGreatDoorTie.lean); close each card by the builder's one call (the guide's Derived/Test/ToyasCard.lean, 'card_holds'). Laid BY PROGRAM, IN A SANDBOX (cutbox-door.mjs). By AI agents, Wed Nov 11 2026. No macro, syntax, notation, axiom, sorry.
-/
import Derived.Test.YtnaiahjgdakneaaGreatDoorRows
import GoSem.ClaimSeven
namespace Go.Proofs.YtnaiahjgdakneaaGreatDoor
namespace Rows

/-- THE TIED CARD OF 'vinculumlaw02.BigintDivides'. -/
def bigintDividesCard : Claim7 := { stood := { row := bigintDividesRow, standIns := [], harness := (true, "0760fadf54fa4cf3254fce810e6fd86c900ecba9f083c52f3f99441951b60f4e"), looks := false }, kinds := [], alts := [], laidByText := true, laidKinds := [.data, .data, .data], laidTests := true, laidLooks := .later }
def BigintDividesCardSaid : Prop := Claim7.holds Tryz.pinned (.plain (OpenSpec.ofChange bigintDividesSpec)) bigintDividesCard

/-- THE TIED CARD OF 'vinculumlaw02.BigintGcds'. -/
def bigintGcdsCard : Claim7 := { stood := { row := bigintGcdsRow, standIns := [], harness := (true, "0760fadf54fa4cf3254fce810e6fd86c900ecba9f083c52f3f99441951b60f4e"), looks := false }, kinds := [], alts := [], laidByText := true, laidKinds := [.data, .data, .data], laidTests := true, laidLooks := .later }
def BigintGcdsCardSaid : Prop := Claim7.holds Tryz.pinned (.plain (OpenSpec.ofChange bigintGcdsSpec)) bigintGcdsCard

/-- THE SECOND FORM's CARD OF 'vinculumlaw02.BigintDivides'. -/
def bigintDividesUptoCard : Claim7 := { stood := { row := bigintDividesUptoRow, standIns := [], harness := (true, "0760fadf54fa4cf3254fce810e6fd86c900ecba9f083c52f3f99441951b60f4e"), looks := false }, kinds := [], alts := [], laidByText := true, laidKinds := [.data, .data, .data], laidTests := true, laidLooks := .later }
def BigintDividesUptoCardSaid : Prop := Claim7.holds Tryz.pinned (.plain (OpenSpec.upto bigintDividesSpec)) bigintDividesUptoCard

/-- THE SECOND FORM's CARD OF 'vinculumlaw02.BigintGcds'. -/
def bigintGcdsUptoCard : Claim7 := { stood := { row := bigintGcdsUptoRow, standIns := [], harness := (true, "0760fadf54fa4cf3254fce810e6fd86c900ecba9f083c52f3f99441951b60f4e"), looks := false }, kinds := [], alts := [], laidByText := true, laidKinds := [.data, .data, .data], laidTests := true, laidLooks := .later }
def BigintGcdsUptoCardSaid : Prop := Claim7.holds Tryz.pinned (.plain (OpenSpec.upto bigintGcdsSpec)) bigintGcdsUptoCard
end Rows
end Go.Proofs.YtnaiahjgdakneaaGreatDoor
