/-
  DERIVED. GIVEN WITH THE SEED: THE CARDS: each row of YtkahbhfbgdbnfaaGreatDoorRows.lean that lists a variable, with what it lists TIED to the program's text (the seventh form; the later family's looks); each row that meets fmt, with fmt's text TOLD by the authors' own Lean function (tested against real Go, not proved from fmt's source: count such statements apart). THE CARD IS WHAT COUNTS. Prove the row's statement (the work); the ties are given (YtkahbhfbgdbnfaaGreatDoorTie.lean); close each card by the builder's one call (the guide's Derived/Test/ToyasCard.lean, 'card_holds'). Laid BY PROGRAM, IN A SANDBOX (cutbox-door.mjs). By AI agents, Wed Nov 11 2026. No macro, syntax, notation, axiom, sorry.
-/
import Derived.Test.YtkahbhfbgdbnfaaGreatDoorRows
import GoSem.ClaimSeven
namespace Go.Proofs.YtkahbhfbgdbnfaaGreatDoor
namespace Rows

/-- THE TIED CARD OF 'truantlaw04.ParseExact'. -/
def parseExactCard : Claim7 := { stood := { row := parseExactRow, standIns := [], harness := (true, "49823a4d8b24bd3e280b4b8507c60ca7ee11961df6389929f09ebc1cb1ed3026"), looks := true }, kinds := [], alts := [], laidByText := true, laidKinds := [.data, .data, .data, .sentinel, .sentinel, .data, .data, .data], laidTests := true, laidLooks := .later }
def ParseExactCardSaid : Prop := Claim7.holds Tryz.pinned (.plain (OpenSpec.ofChange parseExactSpec)) parseExactCard

/-- THE TIED CARD OF 'truantlaw05.CheckExact'. -/
def checkExactCard : Claim7 := { stood := { row := checkExactRow, standIns := [], harness := (true, "49823a4d8b24bd3e280b4b8507c60ca7ee11961df6389929f09ebc1cb1ed3026"), looks := true }, kinds := [], alts := [], laidByText := true, laidKinds := [.data, .data, .data, .sentinel, .sentinel, .data, .data, .data], laidTests := true, laidLooks := .later }
def CheckExactCardSaid : Prop := Claim7.holds Tryz.pinned (.plain (OpenSpec.ofChange checkExactSpec)) checkExactCard

/-- THE TIED CARD OF 'truantlaw05.CheckShown'. -/
def checkShownCard : Claim7 := { stood := { row := checkShownRow, standIns := [], harness := (true, "49823a4d8b24bd3e280b4b8507c60ca7ee11961df6389929f09ebc1cb1ed3026"), looks := true }, kinds := [], alts := [], laidByText := true, laidKinds := [.data, .data, .data, .sentinel, .sentinel, .data, .data, .data], laidTests := true, laidLooks := .later }
def CheckShownCardSaid : Prop := Claim7.holds Tryz.pinned (.plain (OpenSpec.ofChange checkShownSpec)) checkShownCard

/-- THE TIED CARD OF 'truantlaw05.CheckMore'. -/
def checkMoreCard : Claim7 := { stood := { row := checkMoreRow, standIns := [], harness := (true, "49823a4d8b24bd3e280b4b8507c60ca7ee11961df6389929f09ebc1cb1ed3026"), looks := true }, kinds := [], alts := [], laidByText := true, laidKinds := [.data, .data, .data, .sentinel, .sentinel, .data, .data, .data], laidTests := true, laidLooks := .later }
def CheckMoreCardSaid : Prop := Claim7.holds Tryz.pinned (.plain (OpenSpec.ofChange checkMoreSpec)) checkMoreCard

/-- THE SECOND FORM's CARD OF 'truantlaw04.ParseExact'. -/
def parseExactUptoCard : Claim7 := { stood := { row := parseExactUptoRow, standIns := [], harness := (true, "49823a4d8b24bd3e280b4b8507c60ca7ee11961df6389929f09ebc1cb1ed3026"), looks := true }, kinds := [], alts := [], laidByText := true, laidKinds := [.data, .data, .data, .sentinel, .sentinel, .data, .data, .data], laidTests := true, laidLooks := .later }
def ParseExactUptoCardSaid : Prop := Claim7.holds Tryz.pinned (.plain (OpenSpec.upto parseExactSpec)) parseExactUptoCard

/-- THE SECOND FORM's CARD OF 'truantlaw05.CheckExact'. -/
def checkExactUptoCard : Claim7 := { stood := { row := checkExactUptoRow, standIns := [], harness := (true, "49823a4d8b24bd3e280b4b8507c60ca7ee11961df6389929f09ebc1cb1ed3026"), looks := true }, kinds := [], alts := [], laidByText := true, laidKinds := [.data, .data, .data, .sentinel, .sentinel, .data, .data, .data], laidTests := true, laidLooks := .later }
def CheckExactUptoCardSaid : Prop := Claim7.holds Tryz.pinned (.plain (OpenSpec.upto checkExactSpec)) checkExactUptoCard

/-- THE SECOND FORM's CARD OF 'truantlaw05.CheckShown'. -/
def checkShownUptoCard : Claim7 := { stood := { row := checkShownUptoRow, standIns := [], harness := (true, "49823a4d8b24bd3e280b4b8507c60ca7ee11961df6389929f09ebc1cb1ed3026"), looks := true }, kinds := [], alts := [], laidByText := true, laidKinds := [.data, .data, .data, .sentinel, .sentinel, .data, .data, .data], laidTests := true, laidLooks := .later }
def CheckShownUptoCardSaid : Prop := Claim7.holds Tryz.pinned (.plain (OpenSpec.upto checkShownSpec)) checkShownUptoCard

/-- THE SECOND FORM's CARD OF 'truantlaw05.CheckMore'. -/
def checkMoreUptoCard : Claim7 := { stood := { row := checkMoreUptoRow, standIns := [], harness := (true, "49823a4d8b24bd3e280b4b8507c60ca7ee11961df6389929f09ebc1cb1ed3026"), looks := true }, kinds := [], alts := [], laidByText := true, laidKinds := [.data, .data, .data, .sentinel, .sentinel, .data, .data, .data], laidTests := true, laidLooks := .later }
def CheckMoreUptoCardSaid : Prop := Claim7.holds Tryz.pinned (.plain (OpenSpec.upto checkMoreSpec)) checkMoreUptoCard
end Rows
end Go.Proofs.YtkahbhfbgdbnfaaGreatDoor
