/-
  ARRAYS OF 64 BOOLS BY VALUE: their cells as functions of the place; laws by which a walk meets such a variable, over a world of which only what each block holds is known. Conditions: as each states them.
-/
import Derived.Test.YtgdchlgepgbhhaaDoorArr
import Derived.Test.YtgdchlgepgbhhaaDoorProg
import Derived.Lib.Hide
namespace Go.Proofs.YtgdchlgepgbhhaaDoor
open Go.RowKit

/-- The cells of 64 bools. -/
def encF (f : Nat → Bool) : Array Value := Array.ofFn (n := 64) fun i => Value.bool (f i)
theorem encF_size (f : Nat → Bool) : (encF f).size = 64 := Array.size_ofFn
theorem encF_at (f : Nat → Bool) (k : Nat) (h : k < 64) : (encF f)[k]? = some (.bool (f k)) := by
  unfold encF; rw [Array.getElem?_ofFn, dif_pos h]
theorem encF_congr {f g : Nat → Bool} (h : ∀ j, j < 64 → f j = g j) : encF f = encF g := by
  apply Array.ext
  · rw [encF_size, encF_size]
  · intro i h1 h2
    simp only [encF, Array.getElem_ofFn]
    rw [h i (by rw [encF_size] at h1; exact h1)]
theorem encF_inj {f g : Nat → Bool} (h : encF f = encF g) (j : Nat) (hj : j < 64) : f j = g j := by
  have := encF_at f j hj
  rw [h, encF_at g j hj] at this
  simpa using this.symm
theorem encF_set (f : Nat → Bool) (k : Nat) (b : Bool) : (encF f).setIfInBounds k (.bool b) = encF (fun j => if j = k then b else f j) := by
  apply Array.ext
  · rw [Array.size_setIfInBounds, encF_size, encF_size]
  · intro i h1 h2
    rw [Array.getElem_setIfInBounds (by rw [encF_size]; rw [encF_size] at h2; exact h2)]
    simp only [encF, Array.getElem_ofFn]
    by_cases e : k = i
    · subst e; simp
    · rw [if_neg e, if_neg (fun c => e c.symm)]
theorem encF_one (f : Nat → Bool) : (encF f).all (·.oneCell') = true := by
  rw [Array.all_eq_true]
  intro i h
  simp [encF, Value.oneCell']
abbrev noF : Nat → Bool := fun _ => false

theorem zero44 (w : World) : (zeroValue 44).run Tryd.prog w = .ok (.agg (encF noF)) w := by kernel_rfl
theorem built44 : Tryd.prog.built 44 [] = some (encF noF) := by kernel_rfl
theorem info44 (f : Nat → Bool) : (Tryd.prog.info? 44).map (·.size) = some (encF f).size := by
  rw [encF_size]; kernel_rfl

/-- Block g is a variable of 64 bools that hold f. -/
def Bs (w : World) (g : Nat) (f : Nat → Bool) : Prop := At w g 44 (encF f)

theorem Bs.lt {w : World} {g : Nat} {f : Nat → Bool} (h : Bs w g f) : g < w.heap.size := At.lt h
theorem Bs.cell {w : World} {g : Nat} {f : Nat → Bool} (h : Bs w g f) (k : Nat) (hk : k < 64) : w.cell? ⟨g, k, none⟩ = some (.bool (f k)) := (At.cell h k).trans (encF_at f k hk)
theorem Bs.frozen {w : World} {g : Nat} {f : Nat → Bool} (h : Bs w g f) (k : Nat) : w.frozen? ⟨g, k, none⟩ = false := At.frozen h k
theorem Bs.congr {w : World} {g : Nat} {f f' : Nat → Bool} (h : Bs w g f) (e : ∀ j, j < 64 → f j = f' j) : Bs w g f' := by
  unfold Bs; rw [← encF_congr e]; exact h
/-- All but block g is as it was; nothing has gone. -/
structure But (g : Nat) (w w' : World) : Prop where
  os : w'.os = w.os
  tape : w'.tape = w.tape
  output : w'.output = w.output
  size : w.heap.size ≤ w'.heap.size
  block : ∀ k, k < w.heap.size → k ≠ g → w'.heap[k]? = w.heap[k]?
theorem Bs.but {w w' : World} {g k : Nat} {f : Nat → Bool} (h : Bs w k f) (hb : But g w w') (hk : k ≠ g) : Bs w' k f := (hb.block k h.lt hk).trans h
theorem Bs.below {w w' : World} {k : Nat} {f : Nat → Bool} (h : Bs w k f) (hb : Below w.heap.size w w') : Bs w' k f := (hb.block k h.lt).trans h
theorem But.under {B g : Nat} {w0 w w' : World} (h : Below B w0 w) (hb : But g w w') (hB : B ≤ w.heap.size) (hg : B ≤ g) : Below B w0 w' :=
  h.trans ⟨hb.os, hb.tape, hb.output, hb.size, fun k hk => hb.block k (by omega) (by omega)⟩
theorem Bs.set {w : World} {g k : Nat} {f : Nat → Bool} (h : Bs w g f) (b : Bool) : Bs (w.setCell ⟨g, k, none⟩ (.bool b)) g (fun j => if j = k then b else f j) := by
  have := At.setCell (j := k) h (.bool b)
  rw [encF_set] at this
  exact this
theorem but_setCell (w : World) (g k : Nat) (v : Value) : But g w (w.setCell ⟨g, k, none⟩ v) :=
  ⟨rfl, rfl, rfl, by simp [World.setCell], fun j _ hj => Below.heap_setCell w ⟨g, k, none⟩ v j hj⟩
theorem but_drewN (w : World) (g n : Nat) : But g w (w.drewN n) := ⟨rfl, rfl, rfl, Nat.le_refl _, fun _ _ _ => rfl⟩
theorem Bs.drewN {w : World} {k : Nat} {f : Nat → Bool} (h : Bs w k f) (n : Nat) : Bs (w.drewN n) k f := h

section
variable {ops : Array Oper} {rest : List Oper} {a : Act} {w : World} {Q : Exit → Act → World → Prop}

/-- A parameter. -/
theorem wpList_box44 {o : Oper} (hg : o.guard = none) (x : Operand) (ho : o.op = .box 44 x) (f : Nat → Bool) (hx : a.eval x = .agg (encF f))
    (h : ∀ g w', Hid (g = w.heap.size) → Bs w' g f → Below w.heap.size w w' → wpList Tryd.prog ops Q rest (a.put o.dst (.pointer (some ⟨g, 0, none⟩))) w') : wpList Tryd.prog ops Q (o :: rest) a w :=
  wpList_box_row hg 44 x ho (encF f) hx (h _ _ rfl (at_new w 44 _) ((Below.refl _ w).alloc (Nat.le_refl _) _))
/-- A variable of zeros. -/
theorem wpList_alloc44 {o : Oper} (hg : o.guard = none) (ho : o.op = .alloc 44)
    (h : ∀ g w', Hid (g = w.heap.size) → Bs w' g noF → Below w.heap.size w w' → wpList Tryd.prog ops Q rest (a.put o.dst (.pointer (some ⟨g, 0, none⟩))) w') : wpList Tryd.prog ops Q (o :: rest) a w :=
  wpList_alloc_row hg 44 ho (encF noF) zero44 (h _ _ rfl (at_new w 44 _) ((Below.refl _ w).alloc (Nat.le_refl _) _))
/-- 'Bits{}'. -/
theorem wpList_build44 {o : Oper} (hg : o.guard = none) (ho : o.op = .build 44 #[])
    (h : wpList Tryd.prog ops Q rest (a.put o.dst (.agg (encF noF))) w) : wpList Tryd.prog ops Q (o :: rest) a w :=
  wpList_build_row hg 44 #[] ho (encF noF) (by rw [Array.map_empty]; exact built44) h
/-- A variable read whole. -/
theorem wpList_load44 {o : Oper} (hgd : o.guard = none) (x : Operand) (ho : o.op = .load 44 x) (g : Nat) (hx : a.eval x = .pointer (some ⟨g, 0, none⟩)) (f : Nat → Bool) (hb : Bs w g f)
    (h : wpList Tryd.prog ops Q rest (a.put o.dst (.agg (encF f))) w) : wpList Tryd.prog ops Q (o :: rest) a w :=
  wpList_load_row hgd 44 x ho g hx 44 (encF f) (0, 0) _ hb Tryd.underlying44 rfl (info44 f) h
/-- A variable written whole. -/
theorem wpList_store44 {o : Oper} (hgd : o.guard = none) (x y : Operand) (ho : o.op = .store 44 x y) (g : Nat) (f : Nat → Bool) (hx : a.eval x = .pointer (some ⟨g, 0, none⟩)) (hy : a.eval y = .agg (encF f)) (f0 : Nat → Bool) (hb : Bs w g f0)
    (h : ∀ w', Bs w' g f → But g w w' → wpList Tryd.prog ops Q rest (a.put o.dst undef) w') : wpList Tryd.prog ops Q (o :: rest) a w :=
  wpList_store_row hgd 44 x y ho g (encF f) hx hy 44 (encF f0) hb (info44 f) (by rw [encF_size, encF_size]) (encF_one f)
    (h _ (At.setSame hb) ⟨rfl, rfl, rfl, by simp, fun k _ hk => setRow_other w g k (encF f) hk⟩)
end

/-- A result that is a variable of 64 bools. -/
theorem results44 {fn : Func} {p : Tmp} (h : fn.results = #[.cell p 44]) (tmps : Array Value) (w : World) (g : Nat) (f : Nat → Bool) (hp : tmps.getD p undef = .pointer (some ⟨g, 0, none⟩)) (hb : Bs w g f) :
    (results fn tmps).run Tryd.prog w = .ok (.agg (encF f)) w :=
  results_cell_row h tmps w g 44 (encF f) (0, 0) _ hp hb Tryd.underlying44 rfl (info44 f)

end Go.Proofs.YtgdchlgepgbhhaaDoor
