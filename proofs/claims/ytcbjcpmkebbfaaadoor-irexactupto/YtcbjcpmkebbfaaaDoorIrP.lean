/-
  PLAIN: what package ir answers, by the document's table and rules, over lists; nothing of the program stands here. No condition.
-/
import Derived.Test.YtcbjcpmkebbfaaaDoorSl
import Derived.Lib.ItoaNum
namespace Go.Proofs.YtcbjcpmkebbfaaaDoor
open Go.RowKit

def bs (l : List UInt8) : ByteArray := ⟨l.toArray⟩
def hasL (l : List Int) (n : Int) : Bool := l.any fun x => x == n
def listedB (f : Fn) (n : Int) : Bool := f.blocks.any fun b => hasL b.list n
def wordTab : List (List UInt8) := [[], [97, 100, 100], [115, 117, 98], [109, 117, 108], [113, 117, 111], [114, 101, 109], [97, 110, 100], [111, 114], [120, 111, 114], [115, 104, 108], [115, 104, 114], [101, 113], [110, 101], [108, 116], [108, 101], [103, 116], [103, 101], [110, 101, 103], [110, 111, 116], [], [112, 97, 114, 97, 109], [99, 111, 110, 115, 116], [102, 108, 97, 103], [110, 105, 108], [110, 101, 119], [108, 111, 97, 100], [115, 116, 111, 114, 101], [103, 101, 116], [112, 117, 116], [103, 108, 111, 97, 100], [103, 115, 116, 111, 114, 101], [99, 97, 108, 108], [112, 114, 105, 110, 116], [114, 101, 97, 100], [112, 104, 105]]
def wordL (op : Int) : List UInt8 := if op < 0 ∨ 34 < op then [] else wordTab.getD op.toNat []
def wordS (op : Int) : ByteArray := bs (wordL op)
def argsV (op : Int) : Int :=
  if op = 17 ∨ op = 18 ∨ op = 25 ∨ op = 28 ∨ op = 30 ∨ op = 32 then 1 else if op = 26 then 2
  else if op = 20 ∨ op = 21 ∨ op = 22 ∨ op = 23 ∨ op = 24 ∨ op = 27 ∨ op = 29 ∨ op = 33 then 0
  else if 1 ≤ op ∧ op ≤ 16 then 2 else -1
def quietTab : List Int := [1, 2, 3, 6, 7, 8, 11, 12, 13, 14, 15, 16, 17, 18, 20, 21, 22, 23, 27, 29, 34]
def quietB (op : Int) : Bool := hasL quietTab op
/-- Texts, one after the other. -/
def cat (l : List ByteArray) : ByteArray := bs (l.flatMap fun s => s.data.toList)
def num (n : Int) : ByteArray := bs (Lib.itoa n)
def sp : ByteArray := ⟨#[32]⟩

theorem hasL_cons (x : Int) (l : List Int) (n : Int) : hasL (x :: l) n = (x == n || hasL l n) := rfl
theorem has_drop {l : List Int} {n : Int} {k : Nat} {x : Int} (h : l[k]? = some x) : hasL (l.drop k) n = (x == n || hasL (l.drop (k + 1)) n) := by
  have hk := (List.getElem?_eq_some_iff.1 h).1
  rw [List.drop_eq_getElem_cons hk, hasL_cons, (List.getElem?_eq_some_iff.1 h).2]
theorem has_end {l : List Int} {n : Int} {k : Nat} (h : l.length ≤ k) : hasL (l.drop k) n = false := by rw [List.drop_eq_nil_of_le h]; rfl
theorem any_drop {α : Type} {l : List α} {p : α → Bool} {k : Nat} {x : α} (h : l[k]? = some x) : (l.drop k).any p = (p x || (l.drop (k + 1)).any p) := by
  have hk := (List.getElem?_eq_some_iff.1 h).1
  rw [List.drop_eq_getElem_cons hk, List.any_cons, (List.getElem?_eq_some_iff.1 h).2]
theorem any_end {α : Type} {l : List α} {p : α → Bool} {k : Nat} (h : l.length ≤ k) : (l.drop k).any p = false := by rw [List.drop_eq_nil_of_le h]; rfl

end Go.Proofs.YtcbjcpmkebbfaaaDoor
