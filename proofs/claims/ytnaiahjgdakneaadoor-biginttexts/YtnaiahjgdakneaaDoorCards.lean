/-
  DERIVED. GIVEN WITH THE SEED: THE CARDS: each row of YtnaiahjgdakneaaDoorRows.lean that lists a variable, with what it lists TIED to the program's text (the seventh form; the later family's looks); each row that meets fmt, with fmt's text TOLD by the authors' own Lean function (tested against real Go, not proved from fmt's source: count such statements apart). THE CARD IS WHAT COUNTS. Prove the row's statement (the work); the ties are given (YtnaiahjgdakneaaDoorTie.lean); close each card by the builder's one call (the guide's Derived/Test/ToyasCard.lean, 'card_holds'). Laid BY PROGRAM, IN A SANDBOX (cutbox-door.mjs). By AI agents, Wed Nov 11 2026. No macro, syntax, notation, axiom, sorry.
-/
import Derived.Test.YtnaiahjgdakneaaDoorRows
import GoSem.ClaimSeven
namespace Go.Proofs.YtnaiahjgdakneaaDoor
namespace Rows

/-- THE TIED CARD OF 'vinculumlaw02.BigintTexts'. -/
def bigintTextsCard : Claim7 := { stood := { row := bigintTextsRow, standIns := [], harness := (true, "fc3397c0d4578bdf61eeec4562f4774d5cdd74b64fc71b6eb5b813cdf47692af"), looks := false }, kinds := [], alts := [], laidByText := true, laidKinds := [.data, .data, .data], laidTests := true, laidLooks := .later }
def BigintTextsCardSaid : Prop := Claim7.holds Tryd.pinned (.plain (OpenSpec.ofChange bigintTextsSpec)) bigintTextsCard

/-- THE TIED CARD OF 'vinculumlaw02.BigintOwn'. -/
def bigintOwnCard : Claim7 := { stood := { row := bigintOwnRow, standIns := [], harness := (true, "fc3397c0d4578bdf61eeec4562f4774d5cdd74b64fc71b6eb5b813cdf47692af"), looks := false }, kinds := [], alts := [], laidByText := true, laidKinds := [.data, .data, .data], laidTests := true, laidLooks := .later }
def BigintOwnCardSaid : Prop := Claim7.holds Tryd.pinned (.plain (OpenSpec.ofChange bigintOwnSpec)) bigintOwnCard

/-- THE SECOND FORM's CARD OF 'vinculumlaw02.BigintTexts'. -/
def bigintTextsUptoCard : Claim7 := { stood := { row := bigintTextsUptoRow, standIns := [], harness := (true, "fc3397c0d4578bdf61eeec4562f4774d5cdd74b64fc71b6eb5b813cdf47692af"), looks := false }, kinds := [], alts := [], laidByText := true, laidKinds := [.data, .data, .data], laidTests := true, laidLooks := .later }
def BigintTextsUptoCardSaid : Prop := Claim7.holds Tryd.pinned (.plain (OpenSpec.upto bigintTextsSpec)) bigintTextsUptoCard

/-- THE SECOND FORM's CARD OF 'vinculumlaw02.BigintOwn'. -/
def bigintOwnUptoCard : Claim7 := { stood := { row := bigintOwnUptoRow, standIns := [], harness := (true, "fc3397c0d4578bdf61eeec4562f4774d5cdd74b64fc71b6eb5b813cdf47692af"), looks := false }, kinds := [], alts := [], laidByText := true, laidKinds := [.data, .data, .data], laidTests := true, laidLooks := .later }
def BigintOwnUptoCardSaid : Prop := Claim7.holds Tryd.pinned (.plain (OpenSpec.upto bigintOwnSpec)) bigintOwnUptoCard
end Rows
end Go.Proofs.YtnaiahjgdakneaaDoor
