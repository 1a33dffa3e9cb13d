/-
  DERIVED. GIVEN WITH THE SEED: THE CARDS: each row of YtjgipjiopagkiaaDoorRows.lean that lists a variable, with what it lists TIED to the program's text (the seventh form; the later family's looks); each row that meets fmt, with fmt's text TOLD by the authors' own Lean function (tested against real Go, not proved from fmt's source: count such statements apart). THE CARD IS WHAT COUNTS. Prove the row's statement (the work); the ties are given (YtjgipjiopagkiaaDoorTie.lean); close each card by the builder's one call (the guide's Derived/Test/ToyasCard.lean, 'card_holds'). Laid BY PROGRAM, IN A SANDBOX (cutbox-door.mjs). By AI agents, Wed Nov 11 2026. No macro, syntax, notation, axiom, sorry.
-/
import Derived.Test.YtjgipjiopagkiaaDoorRows
import GoSem.ClaimSeven
namespace Go.Proofs.YtjgipjiopagkiaaDoor
namespace Rows

/-- THE TIED CARD OF 'vinculumlaw09.UpolyAdds'. -/
def upolyAddsCard : Claim7 := { stood := { row := upolyAddsRow, standIns := [], harness := (true, "59438cc549c70db0df168b753549623198f658939fbbab205ed34d948e9c9d45"), looks := false }, kinds := [], alts := [], laidByText := true, laidKinds := [.data, .data], laidTests := true, laidLooks := .later }
def UpolyAddsCardSaid : Prop := Claim7.holds Tryd.pinned (.plain (OpenSpec.ofChange upolyAddsSpec)) upolyAddsCard

/-- THE TIED CARD OF 'vinculumlaw09.UpolyDivides'. -/
def upolyDividesCard : Claim7 := { stood := { row := upolyDividesRow, standIns := [], harness := (true, "59438cc549c70db0df168b753549623198f658939fbbab205ed34d948e9c9d45"), looks := false }, kinds := [], alts := [], laidByText := true, laidKinds := [.data, .data], laidTests := true, laidLooks := .later }
def UpolyDividesCardSaid : Prop := Claim7.holds Tryd.pinned (.plain (OpenSpec.ofChange upolyDividesSpec)) upolyDividesCard

/-- THE SECOND FORM's CARD OF 'vinculumlaw09.UpolyAdds'. -/
def upolyAddsUptoCard : Claim7 := { stood := { row := upolyAddsUptoRow, standIns := [], harness := (true, "59438cc549c70db0df168b753549623198f658939fbbab205ed34d948e9c9d45"), looks := false }, kinds := [], alts := [], laidByText := true, laidKinds := [.data, .data], laidTests := true, laidLooks := .later }
def UpolyAddsUptoCardSaid : Prop := Claim7.holds Tryd.pinned (.plain (OpenSpec.upto upolyAddsSpec)) upolyAddsUptoCard

/-- THE SECOND FORM's CARD OF 'vinculumlaw09.UpolyDivides'. -/
def upolyDividesUptoCard : Claim7 := { stood := { row := upolyDividesUptoRow, standIns := [], harness := (true, "59438cc549c70db0df168b753549623198f658939fbbab205ed34d948e9c9d45"), looks := false }, kinds := [], alts := [], laidByText := true, laidKinds := [.data, .data], laidTests := true, laidLooks := .later }
def UpolyDividesUptoCardSaid : Prop := Claim7.holds Tryd.pinned (.plain (OpenSpec.upto upolyDividesSpec)) upolyDividesUptoCard
end Rows
end Go.Proofs.YtjgipjiopagkiaaDoor
