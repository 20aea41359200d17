/-
  ARRAYS BY VALUE: laws, for whatever program, by which a walk meets a variable that is an array: made, boxed, loaded and stored whole, the cells whatever they are. Conditions: as each states them.
-/
import Derived.WalkKit
import Derived.WalkSpells
import Derived.WalkLawsBesides
import Derived.Deep.WholeRow
namespace Go.Proofs.YtcbjcpmkebbfaaaDoor
open Go.RowKit

/-- Block g holds just these cells, of a variable of type t. -/
def At (w : World) (g : Nat) (t : TypeId) (cs : Array Value) : Prop := w.heap[g]? = some (.cells cs t (0, 0))

section
variable {P : Program} {ops : Array Oper} {rest : List Oper} {a : Act} {w : World} {Q : Exit → Act → World → Prop}

theorem At.lt {g : Nat} {t : TypeId} {cs : Array Value} (h : At w g t cs) : g < w.heap.size := (Array.getElem?_eq_some_iff.1 h).1
theorem At.cell {g : Nat} {t : TypeId} {cs : Array Value} (h : At w g t cs) (j : Nat) : w.cell? ⟨g, j, none⟩ = cs[j]? := cell_of_row w g j cs t (0, 0) h
theorem At.frozen {g : Nat} {t : TypeId} {cs : Array Value} (h : At w g t cs) (j : Nat) : w.frozen? ⟨g, j, none⟩ = false := by
  simp [World.frozen?, show w.heap[g]? = some (.cells cs t (0, 0)) from h]
theorem At.below {g B : Nat} {t : TypeId} {cs : Array Value} {w' : World} (h : At w g t cs) (hb : Below B w w') (hg : g < B) : At w' g t cs := (hb.block g hg).trans h
theorem At.drew {g : Nat} {t : TypeId} {cs : Array Value} (h : At w g t cs) : At w.drew g t cs := h
theorem At.setOther {g k : Nat} {t : TypeId} {cs cs' : Array Value} (h : At w g t cs) (hk : g ≠ k) : At (w.setRow k cs') g t cs := (setRow_other w k g cs' hk).trans h
theorem At.setSame {g : Nat} {t : TypeId} {cs cs' : Array Value} (h : At w g t cs) : At (w.setRow g cs') g t cs' := setRow_heap w g cs cs' t (0, 0) h
theorem At.setCell {g j : Nat} {t : TypeId} {cs : Array Value} (h : At w g t cs) (v : Value) : At (w.setCell ⟨g, j, none⟩ v) g t (cs.setIfInBounds j v) := by
  rw [setCell_eq_setRow w g j cs t (0, 0) v h]; exact h.setSame
theorem At.setCellOther {g k j : Nat} {t : TypeId} {cs : Array Value} (h : At w g t cs) (hk : g ≠ k) (v : Value) : At (w.setCell ⟨k, j, none⟩ v) g t cs :=
  (Below.heap_setCell w ⟨k, j, none⟩ v g hk).trans h
theorem At.alloc {g : Nat} {t : TypeId} {cs : Array Value} (h : At w g t cs) (o : Obj) : At (w.alloc o) g t cs := (Below.heap_alloc w o g h.lt).trans h
theorem at_new (w : World) (t : TypeId) (cs : Array Value) : At (w.alloc (.cells cs t)) w.heap.size t cs := heap_alloc_last w _
theorem below_setRow {B g : Nat} {w0 : World} (h : Below B w0 w) (hg : B ≤ g) (cs : Array Value) : Below B w0 (w.setRow g cs) :=
  h.trans ⟨rfl, rfl, rfl, by simp, fun k hk => setRow_other w g k cs (by omega)⟩

/-- 'var x T': a new variable of zeros. -/
theorem wpList_alloc_row {o : Oper} (hg : o.guard = none) (t : TypeId) (ho : o.op = .alloc t) (cs : Array Value) (hz : ∀ w : World, (zeroValue t).run P w = .ok (.agg cs) w)
    (h : wpList P ops Q rest (a.put o.dst (.pointer (some ⟨w.heap.size, 0, none⟩))) (w.alloc (.cells cs t))) : wpList P ops Q (o :: rest) a w :=
  wpList_plain hg fun _ hK => by
    unfold Oper.wp execOp
    simp only [ho, Instr.alloc, Sem.run_bind, hz, Result.andThen_ok, newVar, newRow, newObj, Value.cells]
    exact hK _ _ h
/-- A parameter that is an array is laid in a variable of its own. -/
theorem wpList_box_row {o : Oper} (hg : o.guard = none) (t : TypeId) (x : Operand) (ho : o.op = .box t x) (cs : Array Value) (hx : a.eval x = .agg cs)
    (h : wpList P ops Q rest (a.put o.dst (.pointer (some ⟨w.heap.size, 0, none⟩))) (w.alloc (.cells cs t))) : wpList P ops Q (o :: rest) a w :=
  wpList_plain hg fun _ hK => by
    unfold Oper.wp execOp
    simp only [ho, hx, Instr.box, Sem.run_bind, newVar, newRow, newObj, Value.cells]
    exact hK _ _ h
/-- A literal of an array. -/
theorem wpList_build_row {o : Oper} (hg : o.guard = none) (t : TypeId) (parts : Array (Nat × Operand)) (ho : o.op = .build t parts) (cs : Array Value)
    (hc : P.built t (parts.map fun (i, x) => (i, a.eval x)).toList = some cs)
    (h : wpList P ops Q rest (a.put o.dst (.agg cs)) w) : wpList P ops Q (o :: rest) a w :=
  wpList_plain hg fun _ hK => by
    unfold Oper.wp execOp
    simp only [ho, Sem.run_bind, run_build w t _ cs hc, Result.andThen_ok]
    exact hK _ _ h
end
end Go.Proofs.YtcbjcpmkebbfaaaDoor
