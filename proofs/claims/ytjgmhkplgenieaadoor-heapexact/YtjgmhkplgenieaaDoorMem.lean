/-
  WORDS FOR MEMORY: a slice that reads as a list of fields, of structs, of texts; what keeps it. No condition.
-/
import Derived.Test.YtjgmhkplgenieaaDoorKinds
import Derived.Below
import Derived.Laws.OwnMore
import Derived.Deep.AppendLies
import Derived.Deep.Draws
import Derived.Maps.AppendAt
import Derived.OwnWalk
import Derived.RegionTactic
import Derived.BigQuiet
import Derived.Deep.QuietTactic
import Derived.IntWalk
namespace Go.Proofs.YtjgmhkplgenieaaDoor
open Go.RowKit

def FldAt (w : World) (b o k : Nat) (f : Fld) : Prop := w.cell? ⟨b, o + k * 2, none⟩ = some (.string f.name) ∧ w.cell? ⟨b, o + k * 2 + 1, none⟩ = some (.string f.typ)
def FR (w : World) (A : Option Addr) (fs : List Fld) : Prop := 0 < fs.length → ∃ b o, A = some ⟨b, o, none⟩ ∧ b < w.heap.size ∧ ∀ k f, fs[k]? = some f → FldAt w b o k f
def StrAt (w : World) (b o i : Nat) (s : Str) : Prop := ∃ A c, w.cell? ⟨b, o + i * 2, none⟩ = some (.string s.name) ∧ w.cell? ⟨b, o + i * 2 + 1, none⟩ = some (.slice A s.fields.length c) ∧ s.fields.length ≤ c ∧ s.fields.length ≤ 281474976710656 ∧ FR w A s.fields
def SR (w : World) (A : Option Addr) (ss : List Str) : Prop := 0 < ss.length → ∃ b o, A = some ⟨b, o, none⟩ ∧ b < w.heap.size ∧ ∀ i s, ss[i]? = some s → StrAt w b o i s

theorem FR.below {w w' : World} {B : Nat} {A : Option Addr} {fs : List Fld} (h : FR w A fs) (hb : Below B w w') (hB : w.heap.size ≤ B) : FR w' A fs := by
  intro h0
  obtain ⟨b, o, hA, hg, hc⟩ := h h0
  refine ⟨b, o, hA, Nat.lt_of_lt_of_le hg hb.size, fun k f hf => ?_⟩
  obtain ⟨x, y⟩ := hc k f hf
  exact ⟨(hb.cell (p := ⟨b, o + k * 2, none⟩) (Nat.lt_of_lt_of_le hg hB)).trans x, (hb.cell (p := ⟨b, o + k * 2 + 1, none⟩) (Nat.lt_of_lt_of_le hg hB)).trans y⟩
theorem StrAt.below {w w' : World} {B b o i : Nat} {s : Str} (h : StrAt w b o i s) (hg : b < w.heap.size) (hb : Below B w w') (hB : w.heap.size ≤ B) : StrAt w' b o i s := by
  obtain ⟨A, c, x, y, z, z2, hf⟩ := h
  exact ⟨A, c, (hb.cell (p := ⟨b, o + i * 2, none⟩) (Nat.lt_of_lt_of_le hg hB)).trans x, (hb.cell (p := ⟨b, o + i * 2 + 1, none⟩) (Nat.lt_of_lt_of_le hg hB)).trans y, z, z2, hf.below hb hB⟩
theorem SR.below {w w' : World} {B : Nat} {A : Option Addr} {ss : List Str} (h : SR w A ss) (hb : Below B w w') (hB : w.heap.size ≤ B) : SR w' A ss := by
  intro h0
  obtain ⟨b, o, hA, hg, hc⟩ := h h0
  exact ⟨b, o, hA, Nat.lt_of_lt_of_le hg hb.size, fun k f hf => (hc k f hf).below hg hb hB⟩
theorem SR.take {w : World} {A : Option Addr} {ss : List Str} (h : SR w A ss) (n : Nat) : SR w A (ss.take n) := by
  intro h0
  obtain ⟨b, o, hA, hg, hc⟩ := h (by rw [List.length_take] at h0; omega)
  refine ⟨b, o, hA, hg, fun k f hf => hc k f ?_⟩
  rw [List.getElem?_take] at hf
  split at hf
  · exact hf
  · cases hf
theorem below_on {W w w1 : World} (h : Below W.heap.size W w) (b : Below w.heap.size w w1) : Below W.heap.size W w1 := h.trans (b.mono h.size)
theorem below_drewN {B : Nat} {a w : World} (h : Below B a w) (n : Nat) : Below B a (w.drewN n) := ⟨h.os, h.tape, h.output, h.size, h.block⟩

theorem cell_second (w : World) (A B : Array Value) (t e : TypeId) (j : Nat) : ((w.alloc (.cells A t)).alloc (.cells B e)).cell? ⟨w.heap.size + 1, j, none⟩ = B[j]? := by
  have h := heap_alloc_new (w.alloc (.cells A t)) (.cells B e)
  rw [show (w.alloc (.cells A t)).heap.size = w.heap.size + 1 by simp] at h
  exact cell_of_row _ (w.heap.size + 1) j B e (0, 0) h
theorem cell_new (w : World) (B : Array Value) (e : TypeId) (j : Nat) : (w.alloc (.cells B e)).cell? ⟨w.heap.size, j, none⟩ = B[j]? :=
  cell_of_row _ w.heap.size j B e (0, 0) (heap_alloc_new w (.cells B e))
theorem below2 (w : World) (o o' : Obj) : Below w.heap.size w ((w.alloc o).alloc o') := ((Below.refl _ _).alloc (Nat.le_refl _) _).alloc (by simp) _
theorem heap2 (w : World) (o o' : Obj) : ((w.alloc o).alloc o').heap.size = w.heap.size + 2 := by simp


end Go.Proofs.YtjgmhkplgenieaaDoor
