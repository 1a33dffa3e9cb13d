/-
  DERIVED. GIVEN WITH THE SEED: THE CARDS: each row of YtbecdlibckbbcabDoorRows.lean that lists a variable, with what it lists TIED to the program's text (the seventh form; the later family's looks); each row that meets fmt, with fmt's text TOLD by the authors' own Lean function (tested against real Go, not proved from fmt's source: count such statements apart). THE CARD IS WHAT COUNTS. Prove the row's statement (the work); the ties are given (YtbecdlibckbbcabDoorTie.lean); close each card by the builder's one call (the guide's Derived/Test/ToyasCard.lean, 'card_holds'). Laid BY PROGRAM, IN A SANDBOX (cutbox-door.mjs). By AI agents, Wed Nov 11 2026. No macro, syntax, notation, axiom, sorry.
-/
import Derived.Test.YtbecdlibckbbcabDoorRows
import GoSem.ClaimSeven
namespace Go.Proofs.YtbecdlibckbbcabDoor
namespace Rows

/-- THE TIED CARD OF 'vinculumlaw07.TftApart'. -/
def tftApartCard : Claim7 := { stood := { row := tftApartRow, standIns := [], harness := (true, "3f4768fb1116ca1fef60a1bb09ef78f6eeebfdb46e9bccaddb17f00b11e4a3a2"), looks := false }, kinds := [], alts := [], laidByText := true, laidKinds := [.data, .data], laidTests := true, laidLooks := .later }
def TftApartCardSaid : Prop := Claim7.holds Tryd.pinned (.plain (OpenSpec.ofChange tftApartSpec)) tftApartCard

/-- THE TIED CARD OF 'vinculumlaw07.TftNil'. -/
def tftNilCard : Claim7 := { stood := { row := tftNilRow, standIns := [], harness := (true, "3f4768fb1116ca1fef60a1bb09ef78f6eeebfdb46e9bccaddb17f00b11e4a3a2"), looks := false }, kinds := [], alts := [], laidByText := true, laidKinds := [.data, .data], laidTests := true, laidLooks := .later }
def TftNilCardSaid : Prop := Claim7.holds Tryd.pinned (.plain (OpenSpec.ofChange tftNilSpec)) tftNilCard

/-- THE SECOND FORM's CARD OF 'vinculumlaw07.TftApart'. -/
def tftApartUptoCard : Claim7 := { stood := { row := tftApartUptoRow, standIns := [], harness := (true, "3f4768fb1116ca1fef60a1bb09ef78f6eeebfdb46e9bccaddb17f00b11e4a3a2"), looks := false }, kinds := [], alts := [], laidByText := true, laidKinds := [.data, .data], laidTests := true, laidLooks := .later }
def TftApartUptoCardSaid : Prop := Claim7.holds Tryd.pinned (.plain (OpenSpec.upto tftApartSpec)) tftApartUptoCard

/-- THE SECOND FORM's CARD OF 'vinculumlaw07.TftNil'. -/
def tftNilUptoCard : Claim7 := { stood := { row := tftNilUptoRow, standIns := [], harness := (true, "3f4768fb1116ca1fef60a1bb09ef78f6eeebfdb46e9bccaddb17f00b11e4a3a2"), looks := false }, kinds := [], alts := [], laidByText := true, laidKinds := [.data, .data], laidTests := true, laidLooks := .later }
def TftNilUptoCardSaid : Prop := Claim7.holds Tryd.pinned (.plain (OpenSpec.upto tftNilSpec)) tftNilUptoCard
end Rows
end Go.Proofs.YtbecdlibckbbcabDoor
