/-
  DERIVED. GIVEN WITH THE SEED: THE CARDS: each row of YtpjfooghiclccaaDoorRows.lean that lists a variable, with what it lists TIED to the program's text (the seventh form; the later family's looks); each row that meets fmt, with fmt's text TOLD by the authors' own Lean function (tested against real Go, not proved from fmt's source: count such statements apart). THE CARD IS WHAT COUNTS. Prove the row's statement (the work); the ties are given (YtpjfooghiclccaaDoorTie.lean); close each card by the builder's one call (the guide's Derived/Test/ToyasCard.lean, 'card_holds'). Laid BY PROGRAM, IN A SANDBOX (cutbox-door.mjs). By AI agents, Wed Nov 11 2026. No macro, syntax, notation, axiom, sorry.
-/
import Derived.Test.YtpjfooghiclccaaDoorRows
import GoSem.ClaimSeven
namespace Go.Proofs.YtpjfooghiclccaaDoor
namespace Rows

/-- THE TIED CARD OF 'truantlaw03.KindExact'. -/
def kindExactCard : Claim7 := { stood := { row := kindExactRow, standIns := [], harness := (true, "574074af63e6520474dca36344d1fab4bb181c41a11d3430b1801cc908fd25af"), looks := false }, kinds := [], alts := [], laidByText := true, laidKinds := [.data], laidTests := true, laidLooks := .later }
def KindExactCardSaid : Prop := Claim7.holds Tryd.pinned (.plain (OpenSpec.ofChange kindExactSpec)) kindExactCard

/-- THE TIED CARD OF 'truantlaw03.KindFields'. -/
def kindFieldsCard : Claim7 := { stood := { row := kindFieldsRow, standIns := [], harness := (true, "574074af63e6520474dca36344d1fab4bb181c41a11d3430b1801cc908fd25af"), looks := false }, kinds := [], alts := [], laidByText := true, laidKinds := [.data], laidTests := true, laidLooks := .later }
def KindFieldsCardSaid : Prop := Claim7.holds Tryd.pinned (.plain (OpenSpec.ofChange kindFieldsSpec)) kindFieldsCard

/-- THE TIED CARD OF 'truantlaw03.KindReach'. -/
def kindReachCard : Claim7 := { stood := { row := kindReachRow, standIns := [], harness := (true, "574074af63e6520474dca36344d1fab4bb181c41a11d3430b1801cc908fd25af"), looks := false }, kinds := [], alts := [], laidByText := true, laidKinds := [.data], laidTests := true, laidLooks := .later }
def KindReachCardSaid : Prop := Claim7.holds Tryd.pinned (.plain (OpenSpec.ofChange kindReachSpec)) kindReachCard

/-- THE TIED CARD OF 'truantlaw03.KindMore'. -/
def kindMoreCard : Claim7 := { stood := { row := kindMoreRow, standIns := [], harness := (true, "574074af63e6520474dca36344d1fab4bb181c41a11d3430b1801cc908fd25af"), looks := false }, kinds := [], alts := [], laidByText := true, laidKinds := [.data], laidTests := true, laidLooks := .later }
def KindMoreCardSaid : Prop := Claim7.holds Tryd.pinned (.plain (OpenSpec.ofChange kindMoreSpec)) kindMoreCard

/-- THE SECOND FORM's CARD OF 'truantlaw03.KindExact'. -/
def kindExactUptoCard : Claim7 := { stood := { row := kindExactUptoRow, standIns := [], harness := (true, "574074af63e6520474dca36344d1fab4bb181c41a11d3430b1801cc908fd25af"), looks := false }, kinds := [], alts := [], laidByText := true, laidKinds := [.data], laidTests := true, laidLooks := .later }
def KindExactUptoCardSaid : Prop := Claim7.holds Tryd.pinned (.plain (OpenSpec.upto kindExactSpec)) kindExactUptoCard

/-- THE SECOND FORM's CARD OF 'truantlaw03.KindFields'. -/
def kindFieldsUptoCard : Claim7 := { stood := { row := kindFieldsUptoRow, standIns := [], harness := (true, "574074af63e6520474dca36344d1fab4bb181c41a11d3430b1801cc908fd25af"), looks := false }, kinds := [], alts := [], laidByText := true, laidKinds := [.data], laidTests := true, laidLooks := .later }
def KindFieldsUptoCardSaid : Prop := Claim7.holds Tryd.pinned (.plain (OpenSpec.upto kindFieldsSpec)) kindFieldsUptoCard

/-- THE SECOND FORM's CARD OF 'truantlaw03.KindReach'. -/
def kindReachUptoCard : Claim7 := { stood := { row := kindReachUptoRow, standIns := [], harness := (true, "574074af63e6520474dca36344d1fab4bb181c41a11d3430b1801cc908fd25af"), looks := false }, kinds := [], alts := [], laidByText := true, laidKinds := [.data], laidTests := true, laidLooks := .later }
def KindReachUptoCardSaid : Prop := Claim7.holds Tryd.pinned (.plain (OpenSpec.upto kindReachSpec)) kindReachUptoCard

/-- THE SECOND FORM's CARD OF 'truantlaw03.KindMore'. -/
def kindMoreUptoCard : Claim7 := { stood := { row := kindMoreUptoRow, standIns := [], harness := (true, "574074af63e6520474dca36344d1fab4bb181c41a11d3430b1801cc908fd25af"), looks := false }, kinds := [], alts := [], laidByText := true, laidKinds := [.data], laidTests := true, laidLooks := .later }
def KindMoreUptoCardSaid : Prop := Claim7.holds Tryd.pinned (.plain (OpenSpec.upto kindMoreSpec)) kindMoreUptoCard
end Rows
end Go.Proofs.YtpjfooghiclccaaDoor
