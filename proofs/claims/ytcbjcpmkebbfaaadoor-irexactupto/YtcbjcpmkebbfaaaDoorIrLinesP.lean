/-
  PLAIN: the lines of a program; what they hold of room. A row of texts reads as texts.
-/
import Derived.Test.YtcbjcpmkebbfaaaDoorIrRow
import Derived.Test.YtcbjcpmkebbfaaaDoorIrEq
import Derived.Test.YtcbjcpmkebbfaaaDoorIrGreat
namespace Go.Proofs.YtcbjcpmkebbfaaaDoor
open Go.RowKit

def fldS (s : ByteArray) (f : Fd) : ByteArray := (((s ++ ⟨#[32]⟩) ++ f.name) ++ ⟨#[58]⟩) ++ f.typ
def structH (x : St) : ByteArray := (⟨#[115, 116, 114, 117, 99, 116, 32]⟩ : ByteArray) ++ x.name
def structS (x : St) : ByteArray := x.fields.foldl fldS (structH x)
def globS (f : Fd) : ByteArray := ((((⟨#[103, 108, 111, 98, 97, 108, 32]⟩ : ByteArray) ++ f.name) ++ ⟨#[32]⟩) ++ f.typ)
def spS (s p : ByteArray) : ByteArray := (s ++ ⟨#[32]⟩) ++ p
def funS (f : Fn) : ByteArray := addS ((f.params.foldl spS ((⟨#[102, 117, 110, 99, 32]⟩ : ByteArray) ++ f.name)) ++ ⟨#[32, 45, 62]⟩) f.res
def slotsS (f : Fn) : ByteArray := f.slots.foldl spS ⟨#[115, 108, 111, 116, 115]⟩
def slotsL (f : Fn) : List ByteArray := if f.slots.length = 0 then [] else [slotsS f]
def endS (b : Blk) : ByteArray :=
  if b.jump = 1 then (⟨#[103, 111, 116, 111, 32]⟩ : ByteArray) ++ num b.t0
  else if b.jump = 2 then (((((⟨#[105, 102, 32, 118]⟩ : ByteArray) ++ num b.arg) ++ ⟨#[32]⟩) ++ num b.t0) ++ ⟨#[32]⟩) ++ num b.t1
  else if b.jump = 3 then if b.arg = -1 then ⟨#[114, 101, 116]⟩ else (⟨#[114, 101, 116, 32, 118]⟩ : ByteArray) ++ num b.arg
  else (⟨#[106, 117, 109, 112, 32]⟩ : ByteArray) ++ num b.jump
def blockH (k : Nat) : ByteArray := (⟨#[98, 108, 111, 99, 107, 32]⟩ : ByteArray) ++ num k
def blockL (f : Fn) (k : Nat) (b : Blk) : List ByteArray := blockH k :: (b.list.map (lineS f) ++ [endS b])
/-- The lines of the first k blocks. -/
def blocksTo (f : Fn) : Nat → List ByteArray
  | 0 => []
  | k + 1 => blocksTo f k ++ ((f.blocks[k]?.map (blockL f k)).getD [])
def funL (f : Fn) : List ByteArray := funS f :: (slotsL f ++ blocksTo f f.blocks.length)
def funsTo (p : Pg) : Nat → List ByteArray
  | 0 => []
  | k + 1 => funsTo p k ++ ((p.funs[k]?.map funL).getD [])
def linesL (p : Pg) : List ByteArray := p.structs.map structS ++ p.globals.map globS ++ funsTo p p.funs.length

theorem foldf_up {l : List Fd} {k : Nat} {x : Fd} (h : ByteArray) (hx : l[k]? = some x) : (l.take (k + 1)).foldl fldS h = fldS ((l.take k).foldl fldS h) x := by
  obtain ⟨p, e⟩ := List.getElem?_eq_some_iff.1 hx
  rw [List.take_succ_eq_append_getElem p, List.foldl_append, e]; rfl
theorem folds_up {l : List ByteArray} {k : Nat} {x : ByteArray} (h : ByteArray) (hx : l[k]? = some x) : (l.take (k + 1)).foldl spS h = spS ((l.take k).foldl spS h) x := by
  obtain ⟨p, e⟩ := List.getElem?_eq_some_iff.1 hx
  rw [List.take_succ_eq_append_getElem p, List.foldl_append, e]; rfl
theorem map_up {α : Type} {l : List α} {k : Nat} {x : α} (g : α → ByteArray) (hx : l[k]? = some x) : (l.take (k + 1)).map g = (l.take k).map g ++ [g x] := by
  obtain ⟨p, e⟩ := List.getElem?_eq_some_iff.1 hx
  rw [List.take_succ_eq_append_getElem p, List.map_append, e]; rfl
theorem great_no {p : Pg} (h : greatB p = false) : p.structs.length ≤ 16 ∧ p.globals.length ≤ 20 ∧ p.funs.length ≤ 8 ∧ (∀ x ∈ p.structs, x.fields.length ≤ 12) ∧ ∀ f ∈ p.funs, wideB f = false := by
  unfold greatB at h
  simp only [Bool.or_eq_false_iff, decide_eq_false_iff_not, List.any_eq_false] at h
  refine ⟨by omega, by omega, by omega, fun x hx => ?_, fun f hf => ?_⟩
  · have := h.1.2 x hx; simpa using this
  · have := h.2 f hf; simpa using this
theorem OT.made (w : World) (base : Nat) (hb : base ≤ w.heap.size) : OT (w.alloc (.cells #[] 9)) base (.slice (some ⟨w.heap.size, 0, none⟩) 0 0) [] := World.ownsRow_made w #[] 0 hb (Nat.zero_le _) rfl
theorem OT.sl {w : World} {base : Nat} {v : Value} {l : List ByteArray} (h : OT w base v l) : ∃ A c, v = .slice A l.length c ∧ l.length ≤ c ∧ SL 1 txtR w A l := by
  rcases h.2 with ⟨rfl, h0⟩ | ⟨g, cap, cur, rfl, hb, hg, hn, hc, hs, ht⟩
  · rw [h0]; exact ⟨none, 0, rfl, Nat.le_refl _, fun h => by omega⟩
  · refine ⟨_, cap, rfl, hn, fun hp => ⟨g, 0, rfl, ?_, fun k x hk => ?_⟩⟩
    · rcases Nat.lt_or_ge g w.heap.size with h1 | h1
      · exact h1
      · rw [Array.getElem?_eq_none h1] at hg; cases hg
    · have hkl := (List.getElem?_eq_some_iff.1 hk).1
      refine ⟨[.string x], rfl, fun j v hj => ?_⟩
      cases j with
      | zero =>
        obtain rfl := Option.some.inj hj
        rw [Nat.zero_add, Nat.mul_one]
        exact (World.ownsRow.cellAt h k (by simpa [txsV] using hkl)).trans (by unfold txsV; rw [List.getElem?_map, hk]; rfl)
      | succ j => simp at hj
/-- A row of lines that grows while a number runs. -/
def LRel (w0 : World) (b0 : Nat) (Q : Nat → List ByteArray) (m : Nat) (v iv : Value) (wr : World) : Prop :=
  ∃ k : Nat, k ≤ m ∧ iv = .int .i64 k ∧ Hid (OT wr b0 v (Q k)) ∧ Below b0 w0 wr ∧ b0 ≤ wr.heap.size
/-- A line that grows: no more than c a round. -/
def GRel (w : World) (m : Nat) (Q : Nat → ByteArray) (b c : Nat) (s i : Value) (wr : World) : Prop :=
  ∃ k : Nat, k ≤ m ∧ i = .int .i64 k ∧ ∃ q : ByteArray, s = .string q ∧ Hid (q = Q k ∧ q.size ≤ b + c * k) ∧ Below w.heap.size w wr

end Go.Proofs.YtcbjcpmkebbfaaaDoor
