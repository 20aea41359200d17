/-
  PLAIN: functions that say what the functions of package num answer; and facts about them. Nothing of the program stands here. No condition.
-/
import Derived.WalkKit
import Derived.Lib.Strings
import Derived.Lib.AtoiAll
namespace Go.Proofs.YtgdchlgepgbhhaaDoor
open Go.RowKit

def binB (op : Int) : Bool := decide (1 ≤ op) && decide (op ≤ 16)
def unB (op : Int) : Bool := (op == 17) || (op == 18)
def shlV (x y : Int) : Int := wrap64 (IntKind.u64.wrap (IntKind.u64.wrap x * 2 ^ min (IntKind.u64.wrap y).toNat 64))
def shrV (x y : Int) : Int := x / 2 ^ min (IntKind.u64.wrap y).toNat 64
def faultV (op y : Int) : Int :=
  if op = 4 ∨ op = 5 then (if y = 0 then 11 else 0) else if op = 9 ∨ op = 10 then (if y < 0 then 12 else 0) else 0
def doE (op y : Int) : Int := if op < 1 ∨ 18 < op then 9 else faultV op y
def coreV (op x y : Int) : Int :=
  if op = 1 then wrap64 (x + y) else if op = 2 then wrap64 (x - y) else if op = 3 then wrap64 (x * y)
  else if op = 4 then wrap64 (x.tdiv y) else if op = 5 then x.tmod y
  else if op = 6 then bits .and .i64 x y else if op = 7 then bits .or .i64 x y else if op = 8 then bits .xor .i64 x y
  else if op = 9 then shlV x y else if op = 10 then shrV x y
  else if op = 11 then (if x = y then 1 else 0) else if op = 12 then (if x = y then 0 else 1)
  else if op = 13 then (if x < y then 1 else 0) else if op = 14 then (if x ≤ y then 1 else 0)
  else if op = 15 then (if y < x then 1 else 0) else if op = 16 then (if y ≤ x then 1 else 0)
  else if op = 17 then wrap64 (-x) else if x = 0 then 1 else 0
def doV (op x y : Int) : Int := if doE op y = 0 then coreV op x y else 0
def levelV (op : Int) : Int :=
  if op = 3 ∨ op = 4 ∨ op = 5 ∨ op = 9 ∨ op = 10 ∨ op = 6 then 5 else if op = 1 ∨ op = 2 ∨ op = 7 ∨ op = 8 then 4
  else if op = 11 ∨ op = 12 ∨ op = 13 ∨ op = 14 ∨ op = 15 ∨ op = 16 then 3 else 0
def swapV (op : Int) : Int :=
  if op = 1 ∨ op = 3 ∨ op = 6 ∨ op = 7 ∨ op = 8 ∨ op = 11 ∨ op = 12 then op
  else if op = 13 then 15 else if op = 15 then 13 else if op = 14 then 16 else if op = 16 then 14 else 0


/-- How the ops are written, by number. -/
def signTab : List (List UInt8) := [[], [43], [45], [42], [47], [37], [38], [124], [94], [60, 60], [62, 62], [61, 61], [33, 61], [60], [60, 61], [62], [62, 61], [45], [33]]
def signL (op : Int) : List UInt8 := if op < 1 ∨ 18 < op then [] else signTab.getD op.toNat []
def signS (op : Int) : ByteArray := ⟨(signL op).toArray⟩
/-- The first place from k on, of n, whose sign is l; 0. -/
def findN (l : List UInt8) : Nat → Nat → Int
  | _, 0 => 0
  | k, n + 1 => if signTab.getD k [] = l then (k : Int) else findN l (k + 1) n
def signedV (s : ByteArray) (args : Int) : Int := if args = 1 then findN s.data.toList 17 2 else if args = 2 then findN s.data.toList 1 16 else 0

def digB (b : UInt8) : Bool := decide (48 ≤ b.toNat) && decide (b.toNat ≤ 57)
/-- Digits, at least one, no zero ahead. -/
def plainB (l : List UInt8) : Bool := !l.isEmpty && (l.headD 48 != 48) && l.all digB
def trimV (s : ByteArray) : ByteArray := ⟨(Lib.trimPrefix s.data.toList [45]).toArray⟩
def formB (s : ByteArray) : Bool := (s.data.toList == [48]) || plainB (trimV s).data.toList

end Go.Proofs.YtgdchlgepgbhhaaDoor
