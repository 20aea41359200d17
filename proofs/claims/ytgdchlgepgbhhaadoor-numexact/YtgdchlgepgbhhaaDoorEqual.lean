/-
  ARRAYS OF 64 BOOLS COMPARED: '==' and '!=' are those of the bit vectors. No condition.
-/
import Derived.Test.YtgdchlgepgbhhaaDoorDivide
import Derived.ChangeKeysEq
namespace Go.Proofs.YtgdchlgepgbhhaaDoor
open Go.RowKit

theorem part44 (f : Nat → Bool) (j : Nat) (h : j < 64) (w : World) : (Go.part 4 (encF f) j).run Tryd.prog w = Result.ok (.bool (f j)) w := by
  have hc : (encF f)[j]? = some (.bool (f j)) := encF_at f j h
  simp [Go.part, Sem.run_bind, hc]
theorem items44 (f g : Nat → Bool) (d : Nat) (is : List Nat) : ∀ w : World, (∀ j ∈ is, j < 64) → (Op.eqItems (d + 1) 4 1 (encF f) (encF g) is).run Tryd.prog w = Result.ok (is.all fun j => f j == g j) w := by
  induction is with
  | nil => intro w _; rfl
  | cons i is ih =>
    intro w h
    have hi := h i (by simp)
    simp only [Op.eqItems, Sem.run_bind, Nat.mul_one, part44 f i hi, part44 g i hi, Result.andThen_ok, run_equalIn_bool' w d 4 (f i) (g i) Tryd.underlying4]
    cases hb : (f i == g i)
    · simp [hb]
    · simp only [Bool.not_true, Bool.false_eq_true, if_false, List.all_cons, hb, Bool.true_and]
      exact ih w fun j hj => h j (by simp [hj])
theorem info4 : ∃ i, Tryd.prog.info? 4 = some i := by
  cases h : Tryd.prog.info? 4 with
  | none =>
    have : (Tryd.prog.info? 4).isSome = true := by kernel_rfl
    rw [h] at this
    exact absurd this (by decide)
  | some i => exact ⟨i, rfl⟩
theorem cellsOf4 : Tryd.prog.cellsOf 4 = 1 := by kernel_rfl
theorem guard44 : Tryd.prog.eqGuardType Tryd.prog.depth 44 = false := by kernel_rfl
theorem all_eq (a b : B64) : ((List.range 64).all fun j => a.getLsbD j == b.getLsbD j) = (a == b) := by
  by_cases h : a = b
  · subst h; simp
  · have h1 : (a == b) = false := by simpa using h
    rw [h1]
    cases hh : ((List.range 64).all fun j => a.getLsbD j == b.getLsbD j)
    · rfl
    · exfalso
      apply h
      refine BitVec.eq_of_getLsbD_eq fun j hj => ?_
      have := List.all_eq_true.1 hh j (List.mem_range.2 hj)
      simpa using this
theorem equal44 (a b : B64) (w : World) : (Op.equalIn 10000 44 (.agg (encF a.getLsbD)) (.agg (encF b.getLsbD))).run Tryd.prog w = Result.ok (a == b) w := by
  obtain ⟨i, hi⟩ := info4
  rw [run_equalIn_array w 9999 (encF a.getLsbD) (encF b.getLsbD) Tryd.underlying44 hi, cellsOf4, items44 _ _ 9998 _ w (fun j hj => List.mem_range.1 hj), all_eq]

section
variable {ops : Array Oper} {rest : List Oper} {a : Act} {w : World} {Q : Exit → Act → World → Prop}
theorem wpList_eql44 {o : Oper} (hg : o.guard = none) (x y : Operand) (ty : TypeId) (ho : o.op = .binOp .eql 44 x y ty) (u v : B64) (hx : a.eval x = .agg (encF u.getLsbD)) (hy : a.eval y = .agg (encF v.getLsbD)) (t : Bool) (ht : Hid ((u == v) = t))
    (h : wpList Tryd.prog ops Q rest (a.put o.dst (.bool t)) w) : wpList Tryd.prog ops Q (o :: rest) a w :=
  wpList_plain hg fun _ hK => by
    have e := ht.out
    subst e
    unfold Oper.wp execOp
    simp only [ho, hx, hy, Sem.run_bind, run_eqGuard_agg w .eql 44 x y _ _ guard44, Result.andThen_ok, run_eql_struct, equal44]
    exact hK _ _ h
theorem wpList_neq44 {o : Oper} (hg : o.guard = none) (x y : Operand) (ty : TypeId) (ho : o.op = .binOp .neq 44 x y ty) (u v : B64) (hx : a.eval x = .agg (encF u.getLsbD)) (hy : a.eval y = .agg (encF v.getLsbD)) (t : Bool) (ht : Hid ((u != v) = t))
    (h : wpList Tryd.prog ops Q rest (a.put o.dst (.bool t)) w) : wpList Tryd.prog ops Q (o :: rest) a w :=
  wpList_plain hg fun _ hK => by
    have e := ht.out
    subst e
    unfold Oper.wp execOp
    simp only [ho, hx, hy, Sem.run_bind, run_eqGuard_agg w .neq 44 x y _ _ guard44, Result.andThen_ok, run_neq_struct, equal44]
    exact hK _ _ h
end

set_option maxHeartbeats 400000 in
theorem truth_any (b : Bool) (w : World) : Calls Tryd.prog 37 #[.bool b] w fun e w' => e = .returned (.int .i64 (if b = true then 1 else 0)) ∧ w = w' := by
  cases b
  · go_enter Tryd.func37, Tryd.ntmps37
    go_wp2
    go_ret
    exact ⟨rfl, rfl⟩
  · go_enter Tryd.func37, Tryd.ntmps37
    go_wp2
    go_ret
    exact ⟨rfl, rfl⟩
theorem truth_to (b : Bool) (v : Int) (w : World) (h : Hid ((if b = true then 1 else 0) = v)) : Calls Tryd.prog 37 #[.bool b] w fun e w' => e = .returned (.int .i64 v) ∧ w = w' := by
  have h' := h.out
  subst h'
  exact truth_any b w

end Go.Proofs.YtgdchlgepgbhhaaDoor
