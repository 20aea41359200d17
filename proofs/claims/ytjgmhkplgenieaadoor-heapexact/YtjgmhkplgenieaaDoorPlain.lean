/-
  PLAIN: functions over lists of bytes that say what a word is; and facts about them. Nothing of the program stands here. No condition.
-/
import Derived.WalkKit
import Derived.Lib.Strings
namespace Go.Proofs.YtjgmhkplgenieaaDoor
open Go.RowKit

def letB (b : UInt8) : Bool := (decide (97 ≤ b.toNat) && decide (b.toNat ≤ 122)) || (decide (65 ≤ b.toNat) && decide (b.toNat ≤ 90)) || decide (b.toNat = 95)
def digB (b : UInt8) : Bool := decide (48 ≤ b.toNat) && decide (b.toNat ≤ 57)
def wchB (b : UInt8) : Bool := letB b || digB b
/-- How many bytes at the head meet f. -/
def runN (f : UInt8 → Bool) : List UInt8 → Nat
  | [] => 0
  | c :: r => if f c then runN f r + 1 else 0
theorem runN_le (f : UInt8 → Bool) (l : List UInt8) : runN f l ≤ l.length := by
  induction l with
  | nil => exact Nat.le_refl _
  | cons c r ih => unfold runN; split <;> simp <;> omega
theorem runN_pos {f : UInt8 → Bool} {c : UInt8} (r : List UInt8) (h : f c = true) : runN f (c :: r) = runN f r + 1 := by rw [runN, if_pos h]
theorem runN_zero {f : UInt8 → Bool} {c : UInt8} (r : List UInt8) (h : f c = false) : runN f (c :: r) = 0 := by rw [runN, if_neg (by rw [h]; decide)]
/-- Where the run from p on ends. -/
def endAt (f : UInt8 → Bool) (l : List UInt8) (p : Nat) : Nat := p + runN f (l.drop p)
theorem endAt_step {f : UInt8 → Bool} {l : List UInt8} {p : Nat} (h : p < l.length) (hf : f l[p] = true) : endAt f l p = endAt f l (p + 1) := by
  unfold endAt
  rw [List.drop_eq_getElem_cons h, runN_pos _ hf]; omega
theorem endAt_stop {f : UInt8 → Bool} {l : List UInt8} {p : Nat} (h : p < l.length) (hf : f l[p] = false) : endAt f l p = p := by
  unfold endAt
  rw [List.drop_eq_getElem_cons h, runN_zero _ hf]; rfl
theorem endAt_end {f : UInt8 → Bool} {l : List UInt8} {p : Nat} (h : l.length ≤ p) : endAt f l p = p := by
  unfold endAt
  rw [List.drop_of_length_le h]; rfl
theorem endAt_le {f : UInt8 → Bool} {l : List UInt8} {p : Nat} (h : p ≤ l.length) : endAt f l p ≤ l.length := by
  unfold endAt
  have := runN_le f (l.drop p)
  rw [List.length_drop] at this
  omega
theorem le_endAt (f : UInt8 → Bool) (l : List UInt8) (p : Nat) : p ≤ endAt f l p := by unfold endAt; omega
def keyTab : List (List UInt8) := [[116, 121, 112, 101], [115, 116, 114, 117, 99, 116], [102, 117, 110, 99], [118, 97, 114], [105, 102], [101, 108, 115, 101], [102, 111, 114], [114, 101, 116, 117, 114, 110], [112, 114, 105, 110, 116], [110, 101, 119], [110, 105, 108], [116, 114, 117, 101], [102, 97, 108, 115, 101], [105, 110, 116], [98, 111, 111, 108], [114, 101, 97, 100]]
def keyB (l : List UInt8) : Bool := keyTab.contains l
def afterB (l : List UInt8) : Bool := match l with | [] => false | c :: _ => letB c

end Go.Proofs.YtjgmhkplgenieaaDoor
