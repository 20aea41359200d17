/-
  PLAIN: a graph by its rows of next ones; who is reached from 0; what sweeps over a row of flags keep, and what they have in the end. Nothing of the program stands here. No condition.
-/
import Derived.Test.YtpaddigjjlidcaaFlNext
namespace Go.Proofs.Ytpaddigjjlidcaa
open Go.RowKit

/-- Who is reached from 0. -/
inductive Rc (N : Nat → List Nat) : Nat → Prop
  | base : Rc N 0
  | step {i j : Nat} : Rc N i → j ∈ N i → Rc N j
/-- The graph of a row of blocks. -/
def gr (l : List Blk) (i : Nat) : List Nat := (nextL l i).map Int.toNat
theorem next_in {l : List Blk} {i x : Int} (h : x ∈ nextL l i) : 0 ≤ x ∧ x < l.length := by
  unfold nextL at h
  split at h
  · cases h
  · split at h
    · cases h
    · rename_i b _
      unfold nextB at h
      rcases List.mem_append.1 h with h | h
      · split at h
        · rename_i q
          obtain rfl := List.mem_singleton.1 h
          simp [to0] at q
          omega
        · cases h
      · split at h
        · rename_i q
          obtain rfl := List.mem_singleton.1 h
          simp [to1] at q
          omega
        · cases h
theorem next_i64 {l : List Blk} {i : Int} (hl : l.length ≤ 140737488351232) : ∀ x ∈ nextL l i, I64 x := fun x hx => by
  have := next_in hx
  exact ⟨by omega, by omega⟩
theorem gr_lt {l : List Blk} {i j : Nat} (h : j ∈ gr l i) : j < l.length := by
  obtain ⟨x, hx, rfl⟩ := List.mem_map.1 h
  have := next_in hx
  omega
theorem gr_out {l : List Blk} {i : Nat} (h : l.length ≤ i) : gr l i = [] := by
  unfold gr nextL
  rw [if_neg (by omega), Int.toNat_natCast, List.getElem?_eq_none h]; rfl
theorem set_true {fl : List Bool} {q i : Nat} (h : fl[i]? = some true) : (fl.set q true)[i]? = some true := by
  rw [List.getElem?_set]
  have := (List.getElem?_eq_some_iff.1 h).1
  split
  · subst_vars; simp [this]
  · exact h
theorem set_at {fl : List Bool} {q : Nat} (h : q < fl.length) : (fl.set q true)[q]? = some true := by simp [h]
theorem of_set {fl : List Bool} {q i : Nat} (h : (fl.set q true)[i]? = some true) : i = q ∨ fl[i]? = some true := by
  rw [List.getElem?_set] at h
  split at h
  · subst_vars; exact .inl rfl
  · exact .inr h

def ClosedP (N : Nat → List Nat) (fl : List Bool) : Prop := ∀ i j : Nat, fl[i]? = some true → j ∈ N i → fl[j]? = some true
def SoundP (N : Nat → List Nat) (fl : List Bool) : Prop := ∀ i : Nat, fl[i]? = some true → Rc N i
def MonoP (fl fl' : List Bool) : Prop := ∀ i : Nat, fl[i]? = some true → fl'[i]? = some true
theorem count_mono : ∀ {l l' : List Bool}, l.length = l'.length → MonoP l l' → l.count true ≤ l'.count true := by
  intro l
  induction l with
  | nil => intro l' _ _; simp
  | cons a r ih =>
    intro l' hl hm
    cases l' with
    | nil => simp at hl
    | cons b r' =>
      have h1 := ih (l' := r') (by simpa using hl) (fun i hi => by simpa using hm (i + 1) (by simpa using hi))
      have h0 := hm 0
      cases a <;> cases b <;> simp_all <;> omega
theorem count_more : ∀ {l l' : List Bool} {j : Nat}, l.length = l'.length → MonoP l l' → l[j]? = some false → l'[j]? = some true → l.count true + 1 ≤ l'.count true := by
  intro l
  induction l with
  | nil => intro l' j _ _ h; simp at h
  | cons a r ih =>
    intro l' j hl hm h1 h2
    cases l' with
    | nil => simp at hl
    | cons b r' =>
      have hl' : r.length = r'.length := by simpa using hl
      have hm' : MonoP r r' := fun i hi => by simpa using hm (i + 1) (by simpa using hi)
      cases j with
      | zero =>
        have := count_mono hl' hm'
        simp at h1 h2
        subst h1
        subst h2
        simp; omega
      | succ j =>
        have := ih hl' hm' (j := j) (by simpa using h1) (by simpa using h2)
        have h0 := hm 0
        cases a <;> cases b <;> simp_all <;> omega
theorem set_same {fl : List Bool} {j : Nat} (h : fl[j]? = some true) : fl.set j true = fl := by
  apply List.ext_getElem?
  intro i
  rw [List.getElem?_set]
  split
  · rename_i e
    subst e
    rw [h, if_pos (List.getElem?_eq_some_iff.1 h).1]
  · rfl
theorem count_le (fl : List Bool) : fl.count true ≤ fl.length := List.count_le_length
/-- What a sweep keeps, fl0 at its head. -/
structure Swp (N : Nat → List Nat) (fl0 fl : List Bool) : Prop where
  len : fl.length = fl0.length
  mono : MonoP fl0 fl
  sound : SoundP N fl
  closed : ClosedP N fl0 → fl = fl0
theorem Swp.refl {N : Nat → List Nat} {fl : List Bool} (h : SoundP N fl) : Swp N fl fl := ⟨rfl, fun _ h => h, h, fun _ => rfl⟩
theorem Swp.set {N : Nat → List Nat} {fl0 fl : List Bool} (h : Swp N fl0 fl) {i j : Nat} (hi : fl[i]? = some true) (hj : j ∈ N i) : Swp N fl0 (fl.set j true) where
  len := by rw [List.length_set]; exact h.len
  mono := fun k hk => set_true (h.mono k hk)
  sound := fun k hk => by
    rcases of_set hk with rfl | h1
    · exact .step (h.sound i hi) hj
    · exact h.sound k h1
  closed := fun hc => by
    have e := h.closed hc
    subst e
    exact set_same (hc i j hi hj)
/-- The first k of a row are flagged. -/
def DoneF (l : List Nat) (k : Nat) (fl : List Bool) : Prop := ∀ (q j : Nat), q < k → l[q]? = some j → fl[j]? = some true
/-- Those that were flagged at the sweep's head, up to i, lead to flagged ones. -/
def DoneS (N : Nat → List Nat) (fl0 : List Bool) (i : Nat) (fl : List Bool) : Prop := ∀ (q j : Nat), q < i → fl0[q]? = some true → j ∈ N q → fl[j]? = some true
theorem DoneS.set {N : Nat → List Nat} {fl0 fl : List Bool} {i : Nat} (h : DoneS N fl0 i fl) (j : Nat) : DoneS N fl0 i (fl.set j true) := fun q k a b c => set_true (h q k a b c)
theorem DoneF.set {l : List Nat} {fl : List Bool} {k : Nat} (h : DoneF l k fl) (j : Nat) : DoneF l k (fl.set j true) := fun q i a b => set_true (h q i a b)
theorem DoneF.next {l : List Nat} {fl : List Bool} {k j : Nat} (h : DoneF l k fl) (hf : l[k]? = some j) (hj : j < fl.length) : DoneF l (k + 1) (fl.set j true) := fun q i a b => by
  rcases Nat.lt_or_ge q k with h1 | h1
  · exact set_true (h q i h1 b)
  · obtain rfl : q = k := by omega
    rw [hf] at b
    obtain rfl := Option.some.inj b
    exact set_at hj
theorem DoneS.next {N : Nat → List Nat} {fl0 fl : List Bool} {i : Nat} (h : DoneS N fl0 i fl) (hd : fl0[i]? = some true → DoneF (N i) (N i).length fl) : DoneS N fl0 (i + 1) fl := fun q j a b c => by
  rcases Nat.lt_or_ge q i with h1 | h1
  · exact h q j h1 b c
  · obtain rfl : q = i := by omega
    obtain ⟨k, hk, rfl⟩ := List.mem_iff_getElem.1 c
    exact hd b k _ hk (List.getElem?_eq_getElem hk)
/-- Closed, or so many. -/
def FarP (N : Nat → List Nat) (fl : List Bool) (n : Nat) : Prop := ClosedP N fl ∨ n + 1 ≤ fl.count true
theorem far_next {N : Nat → List Nat} {fl0 fl : List Bool} {n m : Nat} (hlen : fl0.length = m) (hN : ∀ i j, j ∈ N i → j < m) (h0 : FarP N fl0 n) (h : Swp N fl0 fl) (hd : DoneS N fl0 m fl) : FarP N fl (n + 1) := by
  by_cases hc : ClosedP N fl0
  · rw [h.closed hc]; exact .inl hc
  · refine .inr ?_
    have h1 : n + 1 ≤ fl0.count true := h0.resolve_left hc
    unfold ClosedP at hc
    simp only [Classical.not_forall] at hc
    obtain ⟨i, j, a, b, e⟩ := hc
    have hj := hN i j b
    have hf : fl0[j]? = some false := by
      cases hx : fl0[j]? with
      | none => rw [List.getElem?_eq_none_iff] at hx; omega
      | some v => cases v with
        | false => rfl
        | true => exact absurd hx e
    have hi : i < m := by rw [← hlen]; exact (List.getElem?_eq_some_iff.1 a).1
    have := count_more h.len.symm h.mono hf (hd i j hi a b)
    omega
/-- Who is reached is flagged, and nobody else. -/
def Flags (N : Nat → List Nat) (m : Nat) (fl : List Bool) : Prop := fl.length = m ∧ ∀ i, fl[i]? = some true ↔ (Rc N i ∧ i < m)
theorem closed_rc {N : Nat → List Nat} {fl : List Bool} (c : fl[0]? = some true) (d : ClosedP N fl) {i : Nat} (h : Rc N i) : fl[i]? = some true := by
  induction h with
  | base => exact c
  | step _ h3 ih => exact d _ _ ih h3
theorem far_done {N : Nat → List Nat} {fl : List Bool} {m : Nat} (hlen : fl.length = m) (h : FarP N fl m) (hs : SoundP N fl) (h0 : fl[0]? = some true) : Flags N m fl := by
  have hc : ClosedP N fl := by
    rcases h with h | h
    · exact h
    · have := count_le fl; omega
  exact ⟨hlen, fun i => ⟨fun hi => ⟨hs i hi, by rw [← hlen]; exact (List.getElem?_eq_some_iff.1 hi).1⟩, fun hi => closed_rc h0 hc hi.1⟩⟩
theorem Flags.uniq {N : Nat → List Nat} {m : Nat} {fl fl' : List Bool} (h : Flags N m fl) (h' : Flags N m fl') : fl = fl' := by
  apply List.ext_getElem?
  intro i
  by_cases hi : i < m
  · have e1 := List.getElem?_eq_getElem (l := fl) (i := i) (by rw [h.1]; exact hi)
    have e2 := List.getElem?_eq_getElem (l := fl') (i := i) (by rw [h'.1]; exact hi)
    have k := (h.2 i).trans (h'.2 i).symm
    rw [e1, e2] at k ⊢
    cases h1 : fl[i]'(by rw [h.1]; exact hi) <;> cases h2 : fl'[i]'(by rw [h'.1]; exact hi) <;> simp_all
  · rw [List.getElem?_eq_none (by rw [h.1]; omega), List.getElem?_eq_none (by rw [h'.1]; omega)]
theorem flags_nil {N : Nat → List Nat} : Flags N 0 [] := ⟨rfl, fun i => ⟨fun h => by simp at h, fun h => by omega⟩⟩

def boolsOf (l : List Bool) : List Value := l.map fun b => .bool b
theorem bool_info : (Try.prog.info? 4).map (fun i => (i.zero, i.size, i.bytes)) = some (some (.bool false), 1, 1) := by kernel_rfl
def Fl (w : World) (g m : Nat) (fl : List Bool) : Prop := fl.length = m ∧ w.ownsRow g 4 1 (.slice (some ⟨g, 0, none⟩) m m) m (boolsOf fl)
theorem Fl.cell {w : World} {g m : Nat} {fl : List Bool} (h : Fl w g m fl) {i : Nat} {b : Bool} (hb : fl[i]? = some b) : w.cell? ⟨g, i, none⟩ = some (.bool b) := by
  have hi : i < m := by rw [← h.1]; exact (List.getElem?_eq_some_iff.1 hb).1
  rw [h.2.cellAt i (by omega)]
  unfold boolsOf
  rw [List.getElem?_map, hb]; rfl
theorem Fl.lt {w : World} {g m : Nat} {fl : List Bool} (h : Fl w g m fl) : g < w.heap.size := (h.2.lt g rfl).2

theorem own_below {w w' : World} {base : Nat} {e : TypeId} {size : Nat} {v : Value} {n : Nat} {xs : List Value} (h : w.ownsRow base e size v n xs) (hb : Below w.heap.size w w') : w'.ownsRow base e size v n xs :=
  h.kept (row := none) ⟨hb.os, hb.tape, hb.output, hb.size, fun i hi _ => hb.block i hi⟩ (by cases v.ownBlock <;> simp)
theorem Fl.below {w w' : World} {g m : Nat} {fl : List Bool} (h : Fl w g m fl) (hb : Below w.heap.size w w') : Fl w' g m fl := ⟨h.1, own_below h.2 hb⟩
theorem Fl.grown {w w' : World} {g m : Nat} {fl : List Bool} {row : Option Nat} (h : Fl w g m fl) (hg : w.grownBy w' row) (hne : row ≠ some g) : Fl w' g m fl :=
  ⟨h.1, h.2.kept hg (Or.inr (fun e => hne e.symm))⟩
theorem Fl.set {w : World} {g m : Nat} {fl : List Bool} (h : Fl w g m fl) (j : Nat) : Fl (w.setCell ⟨g, j, none⟩ (.bool true)) g m (fl.set j true) := by
  refine ⟨by rw [List.length_set]; exact h.1, ?_⟩
  have := (h.2.stored j (.bool true)).1
  unfold boolsOf at this ⊢
  rw [List.map_set]; exact this

end Go.Proofs.Ytpaddigjjlidcaa
