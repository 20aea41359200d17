/-
  LAWS FOR ONE STEP OF A REGION THAT DRAWS ITS ORDER AND READS ONLY, AHEAD OF ITS TAIL. Conditions: as each states them.
-/
import Derived.Test.YtgdchlgepgbhhaaDoorEqual
import Derived.StillTailTactics
import Derived.BigRegion
namespace Go.Proofs.YtgdchlgepgbhhaaDoor
open Go.RowKit

/-- What is read ahead of the tail: a shell, so that nobody looks inside. -/
structure Stl (ops : Array Oper) (w : World) (Q : Act → Prop) (l : List Oper) (a : Act) : Prop where
  ok : wpStill Tryd.prog ops w Q l a

section
variable {ops : Array Oper} {rest : List Oper} {a : Act} {w : World} {Q : Act → Prop} {o : Oper}
theorem still_nil (h : Q a) : Stl ops w Q [] a := ⟨h⟩
theorem still_value (hw : Region.wanted o (yielded ops a.tmps) = true) (d : Option Tmp) (hd : o.dst = d) (v : Value) (hr : (execOp a.eval o).run Tryd.prog w = .ok (.value v) w) (h : Stl ops w Q rest (a.put d v)) : Stl ops w Q (o :: rest) a := by
  subst hd
  refine ⟨wpStill_step fun K hK => ?_⟩
  rw [if_pos hw]
  unfold Oper.still
  rw [hr, Oper.stillUpon_value]
  exact hK _ h.ok
theorem still_skip (hw : Region.wanted o (yielded ops a.tmps) = false) (d : Option Tmp) (hd : o.dst = d) (h : Stl ops w Q rest (a.put d undef)) : Stl ops w Q (o :: rest) a := by
  subst hd
  refine ⟨wpStill_step fun K hK => ?_⟩
  rw [if_neg (by rw [hw]; exact Bool.false_ne_true)]
  exact hK _ h.ok
theorem still_move (hw : Region.wanted o (yielded ops a.tmps) = true) (d : Option Tmp) (hd : o.dst = d) (x : Operand) (ho : o.op = .move x) (v : Value) (hx : a.eval x = v) (h : Stl ops w Q rest (a.put d v)) : Stl ops w Q (o :: rest) a :=
  still_value hw d hd v (by rw [BigFrame.run_move x ho, hx]) h
theorem still_index (hw : Region.wanted o (yielded ops a.tmps) = true) (d : Option Tmp) (hd : o.dst = d) (x y : Operand) (ho : o.op = .indexAddr 44 x y) (g k : Nat) (hk : k < 64) (hx : a.eval x = .pointer (some ⟨g, 0, none⟩)) (hy : a.eval y = .int .i64 (k : Int))
    (h : Stl ops w Q rest (a.put d (.pointer (some ⟨g, k, none⟩)))) : Stl ops w Q (o :: rest) a :=
  still_value hw d hd _ (by
    have hk' : (k : Int) < 64 := by omega
    unfold execOp
    rw [ho]
    simp only [hx, hy]
    go_simp) h
theorem still_load (hw : Region.wanted o (yielded ops a.tmps) = true) (d : Option Tmp) (hd : o.dst = d) (x : Operand) (ho : o.op = .load 4 x) (g k : Nat) (b : Bool) (hc : w.cell? ⟨g, k, none⟩ = some (.bool b)) (hx : a.eval x = .pointer (some ⟨g, k, none⟩))
    (h : Stl ops w Q rest (a.put d (.bool b))) : Stl ops w Q (o :: rest) a :=
  still_value hw d hd _ (by
    unfold execOp
    rw [ho]
    simp only [hx]
    go_simp) h
theorem still_pick (hw : Region.wanted o (yielded ops a.tmps) = true) (d : Option Tmp) (hd : o.dst = d) (x y z : Operand) (ho : o.op = .pick x y z) (b : Bool) (v : Value) (hx : a.eval x = .bool b) (hv : a.eval (if b then y else z) = v)
    (h : Stl ops w Q rest (a.put d v)) : Stl ops w Q (o :: rest) a :=
  still_value hw d hd _ (by
    unfold execOp
    rw [ho]
    subst hv
    cases b <;> simp only [hx] <;> go_simp) h
end

end Go.Proofs.YtgdchlgepgbhhaaDoor
