/-
  DERIVED. GIVEN WITH THE SEED: THE CARDS: each row of YtjgmhkplgenieaaDoorRows.lean that lists a variable, with what it lists TIED to the program's text (the seventh form; the later family's looks); each row that meets fmt, with fmt's text TOLD by the authors' own Lean function (tested against real Go, not proved from fmt's source: count such statements apart). THE CARD IS WHAT COUNTS. Prove the row's statement (the work); the ties are given (YtjgmhkplgenieaaDoorTie.lean); close each card by the builder's one call (the guide's Derived/Test/ToyasCard.lean, 'card_holds'). Laid BY PROGRAM, IN A SANDBOX (cutbox-door.mjs). By AI agents, Wed Nov 11 2026. No macro, syntax, notation, axiom, sorry.
-/
import Derived.Test.YtjgmhkplgenieaaDoorRows
import GoSem.ClaimSeven
namespace Go.Proofs.YtjgmhkplgenieaaDoor
namespace Rows

/-- THE TIED CARD OF 'truantlaw06.HeapExact'. -/
def heapExactCard : Claim7 := { stood := { row := heapExactRow, standIns := [], harness := (true, "9101c440a135f7bfecb0c38809580b65eced73fb45920e2e4a7e2c8cb0890573"), looks := false }, kinds := [], alts := [], laidByText := true, laidKinds := [.data], laidTests := true, laidLooks := .later }
def HeapExactCardSaid : Prop := Claim7.holds Tryd.pinned (.plain (OpenSpec.ofChange heapExactSpec)) heapExactCard

/-- THE TIED CARD OF 'truantlaw06.HeapReach'. -/
def heapReachCard : Claim7 := { stood := { row := heapReachRow, standIns := [], harness := (true, "9101c440a135f7bfecb0c38809580b65eced73fb45920e2e4a7e2c8cb0890573"), looks := false }, kinds := [], alts := [], laidByText := true, laidKinds := [.data], laidTests := true, laidLooks := .later }
def HeapReachCardSaid : Prop := Claim7.holds Tryd.pinned (.plain (OpenSpec.ofChange heapReachSpec)) heapReachCard

/-- THE TIED CARD OF 'truantlaw06.HeapKeeps'. -/
def heapKeepsCard : Claim7 := { stood := { row := heapKeepsRow, standIns := [], harness := (true, "9101c440a135f7bfecb0c38809580b65eced73fb45920e2e4a7e2c8cb0890573"), looks := false }, kinds := [], alts := [], laidByText := true, laidKinds := [.data], laidTests := true, laidLooks := .later }
def HeapKeepsCardSaid : Prop := Claim7.holds Tryd.pinned (.plain (OpenSpec.ofChange heapKeepsSpec)) heapKeepsCard

/-- THE SECOND FORM's CARD OF 'truantlaw06.HeapExact'. -/
def heapExactUptoCard : Claim7 := { stood := { row := heapExactUptoRow, standIns := [], harness := (true, "9101c440a135f7bfecb0c38809580b65eced73fb45920e2e4a7e2c8cb0890573"), looks := false }, kinds := [], alts := [], laidByText := true, laidKinds := [.data], laidTests := true, laidLooks := .later }
def HeapExactUptoCardSaid : Prop := Claim7.holds Tryd.pinned (.plain (OpenSpec.upto heapExactSpec)) heapExactUptoCard

/-- THE SECOND FORM's CARD OF 'truantlaw06.HeapReach'. -/
def heapReachUptoCard : Claim7 := { stood := { row := heapReachUptoRow, standIns := [], harness := (true, "9101c440a135f7bfecb0c38809580b65eced73fb45920e2e4a7e2c8cb0890573"), looks := false }, kinds := [], alts := [], laidByText := true, laidKinds := [.data], laidTests := true, laidLooks := .later }
def HeapReachUptoCardSaid : Prop := Claim7.holds Tryd.pinned (.plain (OpenSpec.upto heapReachSpec)) heapReachUptoCard

/-- THE SECOND FORM's CARD OF 'truantlaw06.HeapKeeps'. -/
def heapKeepsUptoCard : Claim7 := { stood := { row := heapKeepsUptoRow, standIns := [], harness := (true, "9101c440a135f7bfecb0c38809580b65eced73fb45920e2e4a7e2c8cb0890573"), looks := false }, kinds := [], alts := [], laidByText := true, laidKinds := [.data], laidTests := true, laidLooks := .later }
def HeapKeepsUptoCardSaid : Prop := Claim7.holds Tryd.pinned (.plain (OpenSpec.upto heapKeepsSpec)) heapKeepsUptoCard
end Rows
end Go.Proofs.YtjgmhkplgenieaaDoor
