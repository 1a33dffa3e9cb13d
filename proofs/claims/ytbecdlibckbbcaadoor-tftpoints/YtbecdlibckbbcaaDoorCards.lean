/-
  DERIVED. GIVEN WITH THE SEED: THE CARDS: each row of YtbecdlibckbbcaaDoorRows.lean that lists a variable, with what it lists TIED to the program's text (the seventh form; the later family's looks); each row that meets fmt, with fmt's text TOLD by the authors' own Lean function (tested against real Go, not proved from fmt's source: count such statements apart). THE CARD IS WHAT COUNTS. Prove the row's statement (the work); the ties are given (YtbecdlibckbbcaaDoorTie.lean); close each card by the builder's one call (the guide's Derived/Test/ToyasCard.lean, 'card_holds'). Laid BY PROGRAM, IN A SANDBOX (cutbox-door.mjs). By AI agents, Wed Nov 11 2026. No macro, syntax, notation, axiom, sorry.
-/
import Derived.Test.YtbecdlibckbbcaaDoorRows
import GoSem.ClaimSeven
namespace Go.Proofs.YtbecdlibckbbcaaDoor
namespace Rows

/-- THE TIED CARD OF 'vinculumlaw07.TftTurns'. -/
def tftTurnsCard : Claim7 := { stood := { row := tftTurnsRow, standIns := [], harness := (true, "d6ec218078a820f134fc590ce2cc27afdb0790a8a2d248ca30435aa4750b3aa8"), looks := false }, kinds := [], alts := [], laidByText := true, laidKinds := [.data, .data], laidTests := true, laidLooks := .later }
def TftTurnsCardSaid : Prop := Claim7.holds Tryd.pinned (.plain (OpenSpec.ofChange tftTurnsSpec)) tftTurnsCard

/-- THE TIED CARD OF 'vinculumlaw07.TftPoints'. -/
def tftPointsCard : Claim7 := { stood := { row := tftPointsRow, standIns := [], harness := (true, "d6ec218078a820f134fc590ce2cc27afdb0790a8a2d248ca30435aa4750b3aa8"), looks := false }, kinds := [], alts := [], laidByText := true, laidKinds := [.data, .data], laidTests := true, laidLooks := .later }
def TftPointsCardSaid : Prop := Claim7.holds Tryd.pinned (.plain (OpenSpec.ofChange tftPointsSpec)) tftPointsCard

/-- THE TIED CARD OF 'vinculumlaw07.TftValues'. -/
def tftValuesCard : Claim7 := { stood := { row := tftValuesRow, standIns := [], harness := (true, "d6ec218078a820f134fc590ce2cc27afdb0790a8a2d248ca30435aa4750b3aa8"), looks := false }, kinds := [], alts := [], laidByText := true, laidKinds := [.data, .data], laidTests := true, laidLooks := .later }
def TftValuesCardSaid : Prop := Claim7.holds Tryd.pinned (.plain (OpenSpec.ofChange tftValuesSpec)) tftValuesCard

/-- THE TIED CARD OF 'vinculumlaw07.TftFinds'. -/
def tftFindsCard : Claim7 := { stood := { row := tftFindsRow, standIns := [], harness := (true, "d6ec218078a820f134fc590ce2cc27afdb0790a8a2d248ca30435aa4750b3aa8"), looks := false }, kinds := [], alts := [], laidByText := true, laidKinds := [.data, .data], laidTests := true, laidLooks := .later }
def TftFindsCardSaid : Prop := Claim7.holds Tryd.pinned (.plain (OpenSpec.ofChange tftFindsSpec)) tftFindsCard

/-- THE TIED CARD OF 'vinculumlaw07.TftMuls'. -/
def tftMulsCard : Claim7 := { stood := { row := tftMulsRow, standIns := [], harness := (true, "d6ec218078a820f134fc590ce2cc27afdb0790a8a2d248ca30435aa4750b3aa8"), looks := false }, kinds := [], alts := [], laidByText := true, laidKinds := [.data, .data], laidTests := true, laidLooks := .later }
def TftMulsCardSaid : Prop := Claim7.holds Tryd.pinned (.plain (OpenSpec.ofChange tftMulsSpec)) tftMulsCard

/-- THE TIED CARD OF 'vinculumlaw07.TftBack'. -/
def tftBackCard : Claim7 := { stood := { row := tftBackRow, standIns := [], harness := (true, "d6ec218078a820f134fc590ce2cc27afdb0790a8a2d248ca30435aa4750b3aa8"), looks := false }, kinds := [], alts := [], laidByText := true, laidKinds := [.data, .data], laidTests := true, laidLooks := .later }
def TftBackCardSaid : Prop := Claim7.holds Tryd.pinned (.plain (OpenSpec.ofChange tftBackSpec)) tftBackCard

/-- THE SECOND FORM's CARD OF 'vinculumlaw07.TftTurns'. -/
def tftTurnsUptoCard : Claim7 := { stood := { row := tftTurnsUptoRow, standIns := [], harness := (true, "d6ec218078a820f134fc590ce2cc27afdb0790a8a2d248ca30435aa4750b3aa8"), looks := false }, kinds := [], alts := [], laidByText := true, laidKinds := [.data, .data], laidTests := true, laidLooks := .later }
def TftTurnsUptoCardSaid : Prop := Claim7.holds Tryd.pinned (.plain (OpenSpec.upto tftTurnsSpec)) tftTurnsUptoCard

/-- THE SECOND FORM's CARD OF 'vinculumlaw07.TftPoints'. -/
def tftPointsUptoCard : Claim7 := { stood := { row := tftPointsUptoRow, standIns := [], harness := (true, "d6ec218078a820f134fc590ce2cc27afdb0790a8a2d248ca30435aa4750b3aa8"), looks := false }, kinds := [], alts := [], laidByText := true, laidKinds := [.data, .data], laidTests := true, laidLooks := .later }
def TftPointsUptoCardSaid : Prop := Claim7.holds Tryd.pinned (.plain (OpenSpec.upto tftPointsSpec)) tftPointsUptoCard

/-- THE SECOND FORM's CARD OF 'vinculumlaw07.TftValues'. -/
def tftValuesUptoCard : Claim7 := { stood := { row := tftValuesUptoRow, standIns := [], harness := (true, "d6ec218078a820f134fc590ce2cc27afdb0790a8a2d248ca30435aa4750b3aa8"), looks := false }, kinds := [], alts := [], laidByText := true, laidKinds := [.data, .data], laidTests := true, laidLooks := .later }
def TftValuesUptoCardSaid : Prop := Claim7.holds Tryd.pinned (.plain (OpenSpec.upto tftValuesSpec)) tftValuesUptoCard

/-- THE SECOND FORM's CARD OF 'vinculumlaw07.TftFinds'. -/
def tftFindsUptoCard : Claim7 := { stood := { row := tftFindsUptoRow, standIns := [], harness := (true, "d6ec218078a820f134fc590ce2cc27afdb0790a8a2d248ca30435aa4750b3aa8"), looks := false }, kinds := [], alts := [], laidByText := true, laidKinds := [.data, .data], laidTests := true, laidLooks := .later }
def TftFindsUptoCardSaid : Prop := Claim7.holds Tryd.pinned (.plain (OpenSpec.upto tftFindsSpec)) tftFindsUptoCard

/-- THE SECOND FORM's CARD OF 'vinculumlaw07.TftMuls'. -/
def tftMulsUptoCard : Claim7 := { stood := { row := tftMulsUptoRow, standIns := [], harness := (true, "d6ec218078a820f134fc590ce2cc27afdb0790a8a2d248ca30435aa4750b3aa8"), looks := false }, kinds := [], alts := [], laidByText := true, laidKinds := [.data, .data], laidTests := true, laidLooks := .later }
def TftMulsUptoCardSaid : Prop := Claim7.holds Tryd.pinned (.plain (OpenSpec.upto tftMulsSpec)) tftMulsUptoCard

/-- THE SECOND FORM's CARD OF 'vinculumlaw07.TftBack'. -/
def tftBackUptoCard : Claim7 := { stood := { row := tftBackUptoRow, standIns := [], harness := (true, "d6ec218078a820f134fc590ce2cc27afdb0790a8a2d248ca30435aa4750b3aa8"), looks := false }, kinds := [], alts := [], laidByText := true, laidKinds := [.data, .data], laidTests := true, laidLooks := .later }
def TftBackUptoCardSaid : Prop := Claim7.holds Tryd.pinned (.plain (OpenSpec.upto tftBackSpec)) tftBackUptoCard
end Rows
end Go.Proofs.YtbecdlibckbbcaaDoor
