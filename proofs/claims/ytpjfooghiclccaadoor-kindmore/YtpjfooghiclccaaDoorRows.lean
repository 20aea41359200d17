/-
  NARROWER THAN 'FOR EVERY INPUT', by the rows' own cells (each row's printed sentence says how): KindExact: laid · KindFields: laid · KindReach: laid · KindMore: laid.
  DERIVED. THE GIVEN ROWS OF THIS SEAT. 4 by the template 'for every input the law returns true; each argument reads behind the call as it read before'; 0 by the template 'total and deterministic' (their statements: YtpjfooghiclccaaDoorTotals.lean).
  GIVEN WITH THE SEED: the statements are not yours to turn. If you find one false, say at which input.
  Laid BY PROGRAM, IN A SANDBOX (cutbox-rows.mjs): the forced cells as the released guide's own fill.sh prints them over the translation 42b063182dbd93d6… (all of the seat's roots in one cut). By AI agents, Wed Nov 11 2026. No macro, syntax, notation, axiom, sorry.
-/
import Derived.Test.YtpjfooghiclccaaDoorChecked
import GoSem.Claim
import GoSem.ClaimJoined
import GoSem.ClaimMapViews
import Derived.JoinedTies
import Derived.KernelRfl
namespace Go.Proofs.YtpjfooghiclccaaDoor
/- THE CELL 'sum', in the pinned program and in every row, IS THE sha256 OF THE DUMP (.gsa) THAT YtpjfooghiclccaaDoorProg.lean LOADS. Nothing in Lean hashes anything: it is a label: what it is worth is what the hold of that sum in a sandbox is worth. -/
noncomputable def Tryd.pinned : Pinned := { name := "ytpjfooghiclccaadoor", sum := "42b063182dbd93d6c8764d122c45b832ac5181649f0c016ff75e048080b3e6d3", checked := Tryd.checked }
namespace Rows
def none {H : Type} : Left H := { results := [], args := [] }

/- WHAT THE LISTED PACKAGE-LEVEL VARIABLES READ AS WHEN THE CALL BEGINS. Each datum BY PROGRAM (the guide's laid-datum.mjs) off the statement by which the dump's own 'gosem.cut.vars' lays the variable. In a bare row this is a premise. The card (YtpjfooghiclccaaDoorCards.lean) ties it to the program's text. -/
def laid_truant_lex_keys {H : Type} : DataW H := .agg [.lit (.string [116, 121, 112, 101]), .lit (.string [115, 116, 114, 117, 99, 116]), .lit (.string [102, 117, 110, 99]), .lit (.string [118, 97, 114]), .lit (.string [105, 102]), .lit (.string [101, 108, 115, 101]), .lit (.string [102, 111, 114]), .lit (.string [114, 101, 116, 117, 114, 110]), .lit (.string [112, 114, 105, 110, 116]), .lit (.string [110, 101, 119]), .lit (.string [110, 105, 108]), .lit (.string [116, 114, 117, 101]), .lit (.string [102, 97, 108, 115, 101]), .lit (.string [105, 110, 116]), .lit (.string [98, 111, 111, 108]), .lit (.string [114, 101, 97, 100])]

/-- 'truantlaw03.KindExact': WHATEVER THE INPUT: true; the input reads as it did. -/
def kindExactSpec : ChangeSpec := { name := "kindExact", fn := fun _ => fun
  | [d1, d2, d3] => { results := [.lit (.bool true)], args := [d1, d2, d3] }
  | _ => none }
def kindExactRow : OpenClaim := { program := "ytpjfooghiclccaadoor", sum := "42b063182dbd93d6c8764d122c45b832ac5181649f0c016ff75e048080b3e6d3", func := "truant/truantlaw03.KindExact", spec := "kindExact", unfollowed := true, recurses := true, named := ["truant/lex.keys"], apart := false, laid := [("truant/lex.keys", laid_truant_lex_keys)] }
def KindExactSaid : Prop := kindExactRow.holds Tryd.pinned (OpenSpec.ofChange kindExactSpec)

/-- ITS FALSE NEIGHBOUR: 'it returns false'. Refute it at one input. -/
def kindExactWrong : ChangeSpec := { name := "kindExact", fn := fun _ => fun
  | [d1, d2, d3] => { results := [.lit (.bool false)], args := [d1, d2, d3] }
  | _ => none }
def KindExactWrongFalsely : Prop := kindExactRow.holds Tryd.pinned (OpenSpec.ofChange kindExactWrong)

/-- 'truantlaw03.KindFields': WHATEVER THE INPUT: true; the input reads as it did. -/
def kindFieldsSpec : ChangeSpec := { name := "kindFields", fn := fun _ => fun
  | [d1, d2, d3] => { results := [.lit (.bool true)], args := [d1, d2, d3] }
  | _ => none }
def kindFieldsRow : OpenClaim := { program := "ytpjfooghiclccaadoor", sum := "42b063182dbd93d6c8764d122c45b832ac5181649f0c016ff75e048080b3e6d3", func := "truant/truantlaw03.KindFields", spec := "kindFields", unfollowed := true, recurses := true, named := ["truant/lex.keys"], apart := false, laid := [("truant/lex.keys", laid_truant_lex_keys)] }
def KindFieldsSaid : Prop := kindFieldsRow.holds Tryd.pinned (OpenSpec.ofChange kindFieldsSpec)

/-- ITS FALSE NEIGHBOUR: 'it returns false'. Refute it at one input. -/
def kindFieldsWrong : ChangeSpec := { name := "kindFields", fn := fun _ => fun
  | [d1, d2, d3] => { results := [.lit (.bool false)], args := [d1, d2, d3] }
  | _ => none }
def KindFieldsWrongFalsely : Prop := kindFieldsRow.holds Tryd.pinned (OpenSpec.ofChange kindFieldsWrong)

/-- 'truantlaw03.KindReach': WHATEVER THE INPUT: true; the input reads as it did. -/
def kindReachSpec : ChangeSpec := { name := "kindReach", fn := fun _ => fun
  | [d] => { results := [.lit (.bool true)], args := [d] }
  | _ => none }
def kindReachRow : OpenClaim := { program := "ytpjfooghiclccaadoor", sum := "42b063182dbd93d6c8764d122c45b832ac5181649f0c016ff75e048080b3e6d3", func := "truant/truantlaw03.KindReach", spec := "kindReach", unfollowed := true, recurses := true, named := ["truant/lex.keys"], apart := false, laid := [("truant/lex.keys", laid_truant_lex_keys)] }
def KindReachSaid : Prop := kindReachRow.holds Tryd.pinned (OpenSpec.ofChange kindReachSpec)

/-- ITS FALSE NEIGHBOUR: 'it returns false'. Refute it at one input. -/
def kindReachWrong : ChangeSpec := { name := "kindReach", fn := fun _ => fun
  | [d] => { results := [.lit (.bool false)], args := [d] }
  | _ => none }
def KindReachWrongFalsely : Prop := kindReachRow.holds Tryd.pinned (OpenSpec.ofChange kindReachWrong)

/-- 'truantlaw03.KindMore': WHATEVER THE INPUT: true; the input reads as it did. -/
def kindMoreSpec : ChangeSpec := { name := "kindMore", fn := fun _ => fun
  | [d1, d2, d3] => { results := [.lit (.bool true)], args := [d1, d2, d3] }
  | _ => none }
def kindMoreRow : OpenClaim := { program := "ytpjfooghiclccaadoor", sum := "42b063182dbd93d6c8764d122c45b832ac5181649f0c016ff75e048080b3e6d3", func := "truant/truantlaw03.KindMore", spec := "kindMore", unfollowed := true, recurses := true, named := ["truant/lex.keys"], apart := false, laid := [("truant/lex.keys", laid_truant_lex_keys)] }
def KindMoreSaid : Prop := kindMoreRow.holds Tryd.pinned (OpenSpec.ofChange kindMoreSpec)

/-- ITS FALSE NEIGHBOUR: 'it returns false'. Refute it at one input. -/
def kindMoreWrong : ChangeSpec := { name := "kindMore", fn := fun _ => fun
  | [d1, d2, d3] => { results := [.lit (.bool false)], args := [d1, d2, d3] }
  | _ => none }
def KindMoreWrongFalsely : Prop := kindMoreRow.holds Tryd.pinned (OpenSpec.ofChange kindMoreWrong)

/- THE SECOND FORM. 'bulk': how many values and letters a reading holds, each counted each time it is reached (what is shared counts as often as it is met; a slice's spare places count too). A statement '..UptoSaid' is the law's where the arguments, and the package variables that the reading takes, are together of bulk at most 1048576: NARROWER than '..Said'. Prove '..Said' where nothing that the law and all that it calls make is longer than what came in: it says more and counts as full. Else prove '..UptoSaid'. A law counts once. -/
mutual
def uptoBulk {H : Type} : DataW H → Nat
  | .lit (.string bytes) => bytes.length + 1
  | .lit _ => 1
  | .nil => 1
  | .ptr d => uptoBulk d + 1
  | .slice elems spare => uptoBulkAll elems + uptoBulkAll spare + 1
  | .agg parts => uptoBulkAll parts + 1
  | .iface _ d => uptoBulk d + 1
  | .map entries => uptoBulkEntries entries + 1
  | .held _ => 1
def uptoBulkAll {H : Type} : List (DataW H) → Nat
  | [] => 0
  | d :: r => uptoBulk d + uptoBulkAll r
def uptoBulkEntries {H : Type} : List (Lit × DataW H) → Nat
  | [] => 0
  | x :: r => uptoBulkEntry x + uptoBulkEntries r
def uptoBulkEntry {H : Type} : Lit × DataW H → Nat
  | (.string bytes, d) => bytes.length + uptoBulk d + 1
  | (_, d) => uptoBulk d + 1
 end
def uptoSmall : (H : Type) → List (DataW H) → Bool := fun _ ds => decide (uptoBulkAll ds ≤ 1048576)
def OpenSpec.upto (s : _root_.Go.ChangeSpec) : _root_.Go.OpenSpec := { _root_.Go.OpenSpec.ofChange s with cond := some uptoSmall }

/-- 'truantlaw03.KindExact', WHERE WHAT IT READS IS OF BULK AT MOST 1048576: true; the input reads as it did. -/
def kindExactUptoRow : OpenClaim := { program := "ytpjfooghiclccaadoor", sum := "42b063182dbd93d6c8764d122c45b832ac5181649f0c016ff75e048080b3e6d3", func := "truant/truantlaw03.KindExact", spec := "kindExact", unfollowed := true, recurses := true, named := ["truant/lex.keys"], apart := false, laid := [("truant/lex.keys", laid_truant_lex_keys)], narrowed := true }
def KindExactUptoSaid : Prop := kindExactUptoRow.holds Tryd.pinned (OpenSpec.upto kindExactSpec)

/-- 'truantlaw03.KindFields', WHERE WHAT IT READS IS OF BULK AT MOST 1048576: true; the input reads as it did. -/
def kindFieldsUptoRow : OpenClaim := { program := "ytpjfooghiclccaadoor", sum := "42b063182dbd93d6c8764d122c45b832ac5181649f0c016ff75e048080b3e6d3", func := "truant/truantlaw03.KindFields", spec := "kindFields", unfollowed := true, recurses := true, named := ["truant/lex.keys"], apart := false, laid := [("truant/lex.keys", laid_truant_lex_keys)], narrowed := true }
def KindFieldsUptoSaid : Prop := kindFieldsUptoRow.holds Tryd.pinned (OpenSpec.upto kindFieldsSpec)

/-- 'truantlaw03.KindReach', WHERE WHAT IT READS IS OF BULK AT MOST 1048576: true; the input reads as it did. -/
def kindReachUptoRow : OpenClaim := { program := "ytpjfooghiclccaadoor", sum := "42b063182dbd93d6c8764d122c45b832ac5181649f0c016ff75e048080b3e6d3", func := "truant/truantlaw03.KindReach", spec := "kindReach", unfollowed := true, recurses := true, named := ["truant/lex.keys"], apart := false, laid := [("truant/lex.keys", laid_truant_lex_keys)], narrowed := true }
def KindReachUptoSaid : Prop := kindReachUptoRow.holds Tryd.pinned (OpenSpec.upto kindReachSpec)

/-- 'truantlaw03.KindMore', WHERE WHAT IT READS IS OF BULK AT MOST 1048576: true; the input reads as it did. -/
def kindMoreUptoRow : OpenClaim := { program := "ytpjfooghiclccaadoor", sum := "42b063182dbd93d6c8764d122c45b832ac5181649f0c016ff75e048080b3e6d3", func := "truant/truantlaw03.KindMore", spec := "kindMore", unfollowed := true, recurses := true, named := ["truant/lex.keys"], apart := false, laid := [("truant/lex.keys", laid_truant_lex_keys)], narrowed := true }
def KindMoreUptoSaid : Prop := kindMoreUptoRow.holds Tryd.pinned (OpenSpec.upto kindMoreSpec)

end Rows
end Go.Proofs.YtpjfooghiclccaaDoor
