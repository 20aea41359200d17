/-
  LAWS FOR ONE STEP OF A REGION THAT DRAWS ITS ORDER, at variables of 64 bools and at calls; and for a guarded operation that is wanted. Conditions: as each states them.
-/
import Derived.Test.YtgdchlgepgbhhaaDoorBits
import Derived.Deep.RegionHeld3
namespace Go.Proofs.YtgdchlgepgbhhaaDoor
open Go.RowKit

section
variable {ops : Array Oper} {rest : List Oper} {a : Act} {w : World} {Q : Exit → Act → World → Prop} {K : Act → World → Prop} {E : Prop}

theorem wp_load44d {o : Oper} (d : Option Tmp) (hd : o.dst = d) (x : Operand) (ho : o.op = .load 44 x) (g : Nat) (hx : a.eval x = .pointer (some ⟨g, 0, none⟩)) (f : Nat → Bool) (hb : Bs w g f)
    (h : K (a.put d (.agg (encF f))) w) : o.wp Tryd.prog a w K Q :=
  wp_load_row 44 x ho g hx 44 (encF f) (0, 0) _ hb Tryd.underlying44 rfl (info44 f) (by rw [hd]; exact h)
theorem wp_load44 {o : Oper} (x : Operand) (ho : o.op = .load 44 x) (g : Nat) (hx : a.eval x = .pointer (some ⟨g, 0, none⟩)) (f : Nat → Bool) (hb : Bs w g f)
    (h : K (a.put o.dst (.agg (encF f))) w) : o.wp Tryd.prog a w K Q :=
  wp_load_row 44 x ho g hx 44 (encF f) (0, 0) _ hb Tryd.underlying44 rfl (info44 f) h
theorem wp_store44d {o : Oper} (hd : o.dst = none) (x y : Operand) (ho : o.op = .store 44 x y) (g : Nat) (f : Nat → Bool) (hx : a.eval x = .pointer (some ⟨g, 0, none⟩)) (hy : a.eval y = .agg (encF f)) (f0 : Nat → Bool) (hb : Bs w g f0)
    (h : ∀ w', Bs w' g f → But g w w' → K (a.put none undef) w') : o.wp Tryd.prog a w K Q :=
  wp_store_row 44 x y ho g (encF f) hx hy 44 (encF f0) hb (info44 f) (by rw [encF_size, encF_size]) (encF_one f)
    (by rw [hd]; exact h _ (At.setSame hb) ⟨rfl, rfl, rfl, by simp, fun k _ hk => setRow_other w g k (encF f) hk⟩)
theorem wp_store44 {o : Oper} (x y : Operand) (ho : o.op = .store 44 x y) (g : Nat) (f : Nat → Bool) (hx : a.eval x = .pointer (some ⟨g, 0, none⟩)) (hy : a.eval y = .agg (encF f)) (f0 : Nat → Bool) (hb : Bs w g f0)
    (h : ∀ w', Bs w' g f → But g w w' → K (a.put o.dst undef) w') : o.wp Tryd.prog a w K Q :=
  wp_store_row 44 x y ho g (encF f) hx hy 44 (encF f0) hb (info44 f) (by rw [encF_size, encF_size]) (encF_one f)
    (h _ (At.setSame hb) ⟨rfl, rfl, rfl, by simp, fun k _ hk => setRow_other w g k (encF f) hk⟩)
theorem wp_alloc44 {o : Oper} (d : Option Tmp) (hd : o.dst = d) (ho : o.op = .alloc 44)
    (h : ∀ g w', Hid (g = w.heap.size) → Bs w' g noF → Below w.heap.size w w' → K (a.put d (.pointer (some ⟨g, 0, none⟩))) w') : o.wp Tryd.prog a w K Q := by
  subst hd
  unfold Oper.wp execOp
  simp only [ho, Instr.alloc, Sem.run_bind, zero44, Result.andThen_ok, newVar, newRow, newObj, Value.cells]
  exact h _ _ rfl (at_new w 44 _) ((Below.refl _ w).alloc (Nat.le_refl _) _)
/-- A call of a function that the text names, by its contract. -/
theorem wp_callOf {dst : Option Tmp} {f : FuncId} {xs : Array Operand} {ats : Array TypeId} {ty : TypeId} {pos : String} {after : Array Edge} {guard : Option (Nat × Bool)} (vs : Array Value) (v : Value)
    (hrun : ∀ w : World, (callFunc f vs).run Tryd.prog w = .ok (.enter f vs) w) (hv : xs.toList.map a.eval = vs.toList)
    (hc : Calls Tryd.prog f vs w fun e w' => e = .returned v ∧ Below w.heap.size w w') (h : ∀ w', Below w.heap.size w w' → K (a.put dst v) w') :
    Oper.wp Tryd.prog { dst, op := .call { callee := .value (.func f), args := xs, argTypes := ats }, type := ty, pos, after, guard } a w K Q := by
  have hv' : #[] ++ xs.map a.eval ++ #[] = vs := by
    rw [Array.empty_append, Array.append_empty]
    exact Array.toList_inj.1 (by rw [Array.toList_map]; exact hv)
  unfold Oper.wp
  rw [execOp_call_go, hv', hrun, Oper.upon_enter]
  refine hc.mono ?_
  rintro e w' ⟨rfl, hb⟩
  exact h w' hb
/-- In every world in which the variable holds f a load of it yields f: it may be taken first. -/
theorem yields44 {S : World → Prop} {o : Oper} (hw : Region.wanted o (yielded ops a.tmps) = true) (x : Operand) (ho : o.op = .load 44 x) (g : Nat) (hx : a.eval x = .pointer (some ⟨g, 0, none⟩)) (f : Nat → Bool) (hS : ∀ w, S w → Bs w g f) :
    YieldsIf Tryd.prog ops S o (.agg (encF f)) a :=
  .inl ⟨hw, fun w hw' => by
    unfold execOp
    simp only [ho, hx, Instr.loadAt, Instr.sureAddr, Sem.run_bind, Sem.run_pure, Result.andThen_ok, run_loadVar_row w g 44 44 (encF f) (0, 0) _ (hS w hw') Tryd.underlying44 rfl (info44 f)]⟩
/-- Such a load, taken first. -/
theorem take44 {S : World → Prop} {fuel : Nat} {listed : Array Bool} (i : Nat) {oi : Oper} (d : Option Tmp) (x : Operand) (g : Nat) (f : Nat → Bool) (hi : ops[i]? = some oi) (hd : oi.dst = d) (ho : oi.op = .load 44 x) (hx : a.eval x = .pointer (some ⟨g, 0, none⟩))
    (hw : Region.wanted oi (yielded ops a.tmps) = true) (hs : Region.noSelect ops = true) (hf : Region.free .any ops listed i = true) (hr : (Region.ready .any ops listed).contains i = true)
    (hQ : ∀ c a w, Q (.panic c) (a.put d (.agg (encF f))) w → Q (.panic c) a w) (hS : ∀ w, S w → Bs w g f) (hw0 : S w)
    (h : wpAnyH Tryd.prog .any ops Q S fuel (listed.setIfInBounds i true) (a.put d (.agg (encF f))) w) : wpAnyH Tryd.prog .any ops Q S (fuel + 1) listed a w := by
  subst hd
  exact wpAnyH_take hi hs hf hr hQ (yields44 hw x ho g hx f hS) hw0 h
/-- An operation of a plain region that is wanted. -/
theorem wpList_wanted {o : Oper} (hw : Region.wanted o (yielded ops a.tmps) = true) (h : ∀ K : Act → World → Prop, (∀ a w, wpList Tryd.prog ops Q rest a w → K a w) → o.wp Tryd.prog a w K Q) : wpList Tryd.prog ops Q (o :: rest) a w :=
  wpList_step fun K hK => by rw [if_pos hw]; exact h K hK
theorem wpList_loadW {o : Oper} (hw : Region.wanted o (yielded ops a.tmps) = true) (x : Operand) (ho : o.op = .load 44 x) (g : Nat) (hx : a.eval x = .pointer (some ⟨g, 0, none⟩)) (f : Nat → Bool) (hb : Bs w g f)
    (h : wpList Tryd.prog ops Q rest (a.put o.dst (.agg (encF f))) w) : wpList Tryd.prog ops Q (o :: rest) a w :=
  wpList_wanted hw fun _ hK => wp_load44 x ho g hx f hb (hK _ _ h)
end
/-- Operation i, which comes up next, is carried out; behind it S holds, and the rest goes in whatever order. -/
structure StepOK (ops : Array Oper) (Q : Exit → Act → World → Prop) (S : World → Prop) (fuel : Nat) (listed : Array Bool) (a : Act) (w : World) (i : Nat) : Prop where
  ok : wpOp Tryd.prog ops Q i (fun a' w' => S w' ∧ wpAnyH Tryd.prog .any ops Q S fuel (listed.setIfInBounds i true) a' w') a w
section
variable {ops : Array Oper} {a : Act} {w : World} {Q : Exit → Act → World → Prop} {S : World → Prop} {fuel : Nat} {listed : Array Bool}
theorem stepOK {i : Nat} {o : Oper} (ho : ops[i]? = some o) (hg : o.guard = none)
    (h : ∀ K : Act → World → Prop, (∀ a w, S w → wpAnyH Tryd.prog .any ops Q S fuel (listed.setIfInBounds i true) a w → K a w) → o.wp Tryd.prog a w K Q) : StepOK ops Q S fuel listed a w i :=
  ⟨wpOp_step ho (fun K hK => by rw [if_pos (by simp [Region.wanted, hg])]; exact h K (fun a w h1 h2 => hK a w ⟨h1, h2⟩))⟩
theorem one_ready {i : Nat} (hr : Region.ready .any ops listed = [i]) (h : StepOK ops Q S fuel listed a w i) : wpAnyH Tryd.prog .any ops Q S (fuel + 1) listed a w :=
  wpAnyH_all hr (by simp) (fun j hj => by rw [List.mem_singleton.1 hj]; exact h.ok)
theorem two_ready {i j : Nat} (hr : Region.ready .any ops listed = [i, j]) (h : StepOK ops Q S fuel listed a w i) (h' : StepOK ops Q S fuel listed a w j) : wpAnyH Tryd.prog .any ops Q S (fuel + 1) listed a w :=
  wpAnyH_all hr (by simp) (fun k hk => by
    rcases List.mem_cons.1 hk with e | hk
    · rw [e]; exact h.ok
    · rw [List.mem_singleton.1 hk]; exact h'.ok)
theorem step_load44 {i : Nat} {o : Oper} (ho : ops[i]? = some o) (hg : o.guard = none) (d : Option Tmp) (hd : o.dst = d) (x : Operand) (hop : o.op = .load 44 x) (g : Nat) (hx : a.eval x = .pointer (some ⟨g, 0, none⟩)) (f : Nat → Bool) (hb : Bs w g f) (hS : S w)
    (h : wpAnyH Tryd.prog .any ops Q S fuel (listed.setIfInBounds i true) (a.put d (.agg (encF f))) w) : StepOK ops Q S fuel listed a w i :=
  stepOK ho hg fun _ hK => wp_load44d d hd x hop g hx f hb (hK _ _ hS h)
theorem step_store44 {i : Nat} {o : Oper} (ho : ops[i]? = some o) (hg : o.guard = none) (hd : o.dst = none) (x y : Operand) (hop : o.op = .store 44 x y) (g : Nat) (f : Nat → Bool) (hx : a.eval x = .pointer (some ⟨g, 0, none⟩)) (hy : a.eval y = .agg (encF f)) (f0 : Nat → Bool) (hb : Bs w g f0)
    (h : ∀ w', Bs w' g f → But g w w' → S w' ∧ wpAnyH Tryd.prog .any ops Q S fuel (listed.setIfInBounds i true) (a.put none undef) w') : StepOK ops Q S fuel listed a w i :=
  stepOK ho hg fun _ hK => wp_store44d hd x y hop g f hx hy f0 hb (fun w' h1 h2 => hK _ _ (h w' h1 h2).1 (h w' h1 h2).2)
theorem step_alloc44 {i : Nat} {o : Oper} (ho : ops[i]? = some o) (hg : o.guard = none) (d : Option Tmp) (hd : o.dst = d) (hop : o.op = .alloc 44)
    (h : ∀ g w', Hid (g = w.heap.size) → Bs w' g noF → Below w.heap.size w w' → S w' ∧ wpAnyH Tryd.prog .any ops Q S fuel (listed.setIfInBounds i true) (a.put d (.pointer (some ⟨g, 0, none⟩))) w') : StepOK ops Q S fuel listed a w i :=
  stepOK ho hg fun _ hK => wp_alloc44 d hd hop (fun g w' h1 h2 h3 => hK _ _ (h g w' h1 h2 h3).1 (h g w' h1 h2 h3).2)
theorem step_call {i : Nat} {dst : Option Tmp} {f : FuncId} {xs : Array Operand} {ats : Array TypeId} {ty : TypeId} {pos : String} {after : Array Edge}
    (ho : ops[i]? = some { dst, op := .call { callee := .value (.func f), args := xs, argTypes := ats }, type := ty, pos, after, guard := none }) (vs : Array Value) (v : Value)
    (hrun : ∀ w : World, (callFunc f vs).run Tryd.prog w = .ok (.enter f vs) w) (hv : xs.toList.map a.eval = vs.toList)
    (hc : Calls Tryd.prog f vs w fun e w' => e = .returned v ∧ Below w.heap.size w w')
    (h : ∀ w', Below w.heap.size w w' → S w' ∧ wpAnyH Tryd.prog .any ops Q S fuel (listed.setIfInBounds i true) (a.put dst v) w') : StepOK ops Q S fuel listed a w i :=
  stepOK ho rfl fun _ hK => wp_callOf vs v hrun hv hc (fun w' h1 => hK _ _ (h w' h1).1 (h w' h1).2)
end
theorem enter31 (vs : Array Value) (w : World) : (callFunc 31 vs).run Tryd.prog w = .ok (.enter 31 vs) w := by kernel_rfl
theorem enter32 (vs : Array Value) (w : World) : (callFunc 32 vs).run Tryd.prog w = .ok (.enter 32 vs) w := by kernel_rfl
theorem enter33 (vs : Array Value) (w : World) : (callFunc 33 vs).run Tryd.prog w = .ok (.enter 33 vs) w := by kernel_rfl
theorem enter34 (vs : Array Value) (w : World) : (callFunc 34 vs).run Tryd.prog w = .ok (.enter 34 vs) w := by kernel_rfl
theorem enter35 (vs : Array Value) (w : World) : (callFunc 35 vs).run Tryd.prog w = .ok (.enter 35 vs) w := by kernel_rfl

end Go.Proofs.YtgdchlgepgbhhaaDoor
