/-
  NARROWER THAN 'FOR EVERY INPUT', by the rows' own cells (each row's printed sentence says how): HeapExact: laid · HeapReach: laid · HeapKeeps: laid.
  DERIVED. THE GIVEN ROWS OF THIS SEAT. 3 by the template 'for every input the law returns true; each argument reads behind the call as it read before'; 0 by the template 'total and deterministic' (their statements: YtjgmhkplgenieaaDoorTotals.lean).
  GIVEN WITH THE SEED: the statements are not yours to turn. If you find one false, say at which input.
  Laid BY PROGRAM, IN A SANDBOX (cutbox-rows.mjs): the forced cells as the released guide's own fill.sh prints them over the translation 82ad4336ad4f823f… (all of the seat's roots in one cut). By AI agents, Wed Nov 11 2026. No macro, syntax, notation, axiom, sorry.
-/
import Derived.Test.YtjgmhkplgenieaaDoorChecked
import GoSem.Claim
import GoSem.ClaimJoined
import GoSem.ClaimMapViews
import Derived.JoinedTies
import Derived.KernelRfl
namespace Go.Proofs.YtjgmhkplgenieaaDoor
/- THE CELL 'sum', in the pinned program and in every row, IS THE sha256 OF THE DUMP (.gsa) THAT YtjgmhkplgenieaaDoorProg.lean LOADS. Nothing in Lean hashes anything: it is a label: what it is worth is what the hold of that sum in a sandbox is worth. -/
noncomputable def Tryd.pinned : Pinned := { name := "ytjgmhkplgenieaadoor", sum := "82ad4336ad4f823f862293968200dd8b44b423090853509e28ad3213722f7eed", checked := Tryd.checked }
namespace Rows
def none {H : Type} : Left H := { results := [], args := [] }

/- WHAT THE LISTED PACKAGE-LEVEL VARIABLES READ AS WHEN THE CALL BEGINS. Each datum BY PROGRAM (the guide's laid-datum.mjs) off the statement by which the dump's own 'gosem.cut.vars' lays the variable. In a bare row this is a premise. The card (YtjgmhkplgenieaaDoorCards.lean) ties it to the program's text. -/
def laid_truant_lex_keys {H : Type} : DataW H := .agg [.lit (.string [116, 121, 112, 101]), .lit (.string [115, 116, 114, 117, 99, 116]), .lit (.string [102, 117, 110, 99]), .lit (.string [118, 97, 114]), .lit (.string [105, 102]), .lit (.string [101, 108, 115, 101]), .lit (.string [102, 111, 114]), .lit (.string [114, 101, 116, 117, 114, 110]), .lit (.string [112, 114, 105, 110, 116]), .lit (.string [110, 101, 119]), .lit (.string [110, 105, 108]), .lit (.string [116, 114, 117, 101]), .lit (.string [102, 97, 108, 115, 101]), .lit (.string [105, 110, 116]), .lit (.string [98, 111, 111, 108]), .lit (.string [114, 101, 97, 100])]

/-- 'truantlaw06.HeapExact': WHATEVER THE INPUT: true; the input reads as it did. -/
def heapExactSpec : ChangeSpec := { name := "heapExact", fn := fun _ => fun
  | [d1, d2, d3] => { results := [.lit (.bool true)], args := [d1, d2, d3] }
  | _ => none }
def heapExactRow : OpenClaim := { program := "ytjgmhkplgenieaadoor", sum := "82ad4336ad4f823f862293968200dd8b44b423090853509e28ad3213722f7eed", func := "truant/truantlaw06.HeapExact", spec := "heapExact", unfollowed := true, recurses := true, named := ["truant/lex.keys"], apart := false, laid := [("truant/lex.keys", laid_truant_lex_keys)] }
def HeapExactSaid : Prop := heapExactRow.holds Tryd.pinned (OpenSpec.ofChange heapExactSpec)

/-- ITS FALSE NEIGHBOUR: 'it returns false'. Refute it at one input. -/
def heapExactWrong : ChangeSpec := { name := "heapExact", fn := fun _ => fun
  | [d1, d2, d3] => { results := [.lit (.bool false)], args := [d1, d2, d3] }
  | _ => none }
def HeapExactWrongFalsely : Prop := heapExactRow.holds Tryd.pinned (OpenSpec.ofChange heapExactWrong)

/-- 'truantlaw06.HeapReach': WHATEVER THE INPUT: true; the input reads as it did. -/
def heapReachSpec : ChangeSpec := { name := "heapReach", fn := fun _ => fun
  | [d1, d2, d3, d4, d5] => { results := [.lit (.bool true)], args := [d1, d2, d3, d4, d5] }
  | _ => none }
def heapReachRow : OpenClaim := { program := "ytjgmhkplgenieaadoor", sum := "82ad4336ad4f823f862293968200dd8b44b423090853509e28ad3213722f7eed", func := "truant/truantlaw06.HeapReach", spec := "heapReach", unfollowed := true, recurses := true, named := ["truant/lex.keys"], apart := false, laid := [("truant/lex.keys", laid_truant_lex_keys)] }
def HeapReachSaid : Prop := heapReachRow.holds Tryd.pinned (OpenSpec.ofChange heapReachSpec)

/-- ITS FALSE NEIGHBOUR: 'it returns false'. Refute it at one input. -/
def heapReachWrong : ChangeSpec := { name := "heapReach", fn := fun _ => fun
  | [d1, d2, d3, d4, d5] => { results := [.lit (.bool false)], args := [d1, d2, d3, d4, d5] }
  | _ => none }
def HeapReachWrongFalsely : Prop := heapReachRow.holds Tryd.pinned (OpenSpec.ofChange heapReachWrong)

/-- 'truantlaw06.HeapKeeps': WHATEVER THE INPUT: true; the input reads as it did. -/
def heapKeepsSpec : ChangeSpec := { name := "heapKeeps", fn := fun _ => fun
  | [d1, d2, d3, d4, d5] => { results := [.lit (.bool true)], args := [d1, d2, d3, d4, d5] }
  | _ => none }
def heapKeepsRow : OpenClaim := { program := "ytjgmhkplgenieaadoor", sum := "82ad4336ad4f823f862293968200dd8b44b423090853509e28ad3213722f7eed", func := "truant/truantlaw06.HeapKeeps", spec := "heapKeeps", unfollowed := true, recurses := true, named := ["truant/lex.keys"], apart := false, laid := [("truant/lex.keys", laid_truant_lex_keys)] }
def HeapKeepsSaid : Prop := heapKeepsRow.holds Tryd.pinned (OpenSpec.ofChange heapKeepsSpec)

/-- ITS FALSE NEIGHBOUR: 'it returns false'. Refute it at one input. -/
def heapKeepsWrong : ChangeSpec := { name := "heapKeeps", fn := fun _ => fun
  | [d1, d2, d3, d4, d5] => { results := [.lit (.bool false)], args := [d1, d2, d3, d4, d5] }
  | _ => none }
def HeapKeepsWrongFalsely : Prop := heapKeepsRow.holds Tryd.pinned (OpenSpec.ofChange heapKeepsWrong)

/- THE SECOND FORM. 'bulk': how many values and letters a reading holds, each counted each time it is reached (what is shared counts as often as it is met; a slice's spare places count too). A statement '..UptoSaid' is the law's where the arguments, and the package variables that the reading takes, are together of bulk at most 1048576: NARROWER than '..Said'. Prove '..Said' where nothing that the law and all that it calls make is longer than what came in: it says more and counts as full. Else prove '..UptoSaid'. A law counts once. -/
mutual
def uptoBulk {H : Type} : DataW H → Nat
  | .lit (.string bytes) => bytes.length + 1
  | .lit _ => 1
  | .nil => 1
  | .ptr d => uptoBulk d + 1
  | .slice elems spare => uptoBulkAll elems + uptoBulkAll spare + 1
  | .agg parts => uptoBulkAll parts + 1
  | .iface _ d => uptoBulk d + 1
  | .map entries => uptoBulkEntries entries + 1
  | .held _ => 1
def uptoBulkAll {H : Type} : List (DataW H) → Nat
  | [] => 0
  | d :: r => uptoBulk d + uptoBulkAll r
def uptoBulkEntries {H : Type} : List (Lit × DataW H) → Nat
  | [] => 0
  | x :: r => uptoBulkEntry x + uptoBulkEntries r
def uptoBulkEntry {H : Type} : Lit × DataW H → Nat
  | (.string bytes, d) => bytes.length + uptoBulk d + 1
  | (_, d) => uptoBulk d + 1
 end
def uptoSmall : (H : Type) → List (DataW H) → Bool := fun _ ds => decide (uptoBulkAll ds ≤ 1048576)
def OpenSpec.upto (s : _root_.Go.ChangeSpec) : _root_.Go.OpenSpec := { _root_.Go.OpenSpec.ofChange s with cond := some uptoSmall }

/-- 'truantlaw06.HeapExact', WHERE WHAT IT READS IS OF BULK AT MOST 1048576: true; the input reads as it did. -/
def heapExactUptoRow : OpenClaim := { program := "ytjgmhkplgenieaadoor", sum := "82ad4336ad4f823f862293968200dd8b44b423090853509e28ad3213722f7eed", func := "truant/truantlaw06.HeapExact", spec := "heapExact", unfollowed := true, recurses := true, named := ["truant/lex.keys"], apart := false, laid := [("truant/lex.keys", laid_truant_lex_keys)], narrowed := true }
def HeapExactUptoSaid : Prop := heapExactUptoRow.holds Tryd.pinned (OpenSpec.upto heapExactSpec)

/-- 'truantlaw06.HeapReach', WHERE WHAT IT READS IS OF BULK AT MOST 1048576: true; the input reads as it did. -/
def heapReachUptoRow : OpenClaim := { program := "ytjgmhkplgenieaadoor", sum := "82ad4336ad4f823f862293968200dd8b44b423090853509e28ad3213722f7eed", func := "truant/truantlaw06.HeapReach", spec := "heapReach", unfollowed := true, recurses := true, named := ["truant/lex.keys"], apart := false, laid := [("truant/lex.keys", laid_truant_lex_keys)], narrowed := true }
def HeapReachUptoSaid : Prop := heapReachUptoRow.holds Tryd.pinned (OpenSpec.upto heapReachSpec)

/-- 'truantlaw06.HeapKeeps', WHERE WHAT IT READS IS OF BULK AT MOST 1048576: true; the input reads as it did. -/
def heapKeepsUptoRow : OpenClaim := { program := "ytjgmhkplgenieaadoor", sum := "82ad4336ad4f823f862293968200dd8b44b423090853509e28ad3213722f7eed", func := "truant/truantlaw06.HeapKeeps", spec := "heapKeeps", unfollowed := true, recurses := true, named := ["truant/lex.keys"], apart := false, laid := [("truant/lex.keys", laid_truant_lex_keys)], narrowed := true }
def HeapKeepsUptoSaid : Prop := heapKeepsUptoRow.holds Tryd.pinned (OpenSpec.upto heapKeepsSpec)

end Rows
end Go.Proofs.YtjgmhkplgenieaaDoor
