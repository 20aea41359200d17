/-
  MEMORY: a row of texts of one's own (OT), one text more at its end (app_txt); what a stretch of memory is as it was but for what meets P (Sv).
-/
import Derived.Test.YtcbjcpmkebbfaaaDoorIrLine
import Derived.Deep.AppendLies
namespace Go.Proofs.YtcbjcpmkebbfaaaDoor
open Go.RowKit

def txsV (l : List ByteArray) : List Value := l.map Value.string
theorem txt_info : (Tryd.prog.info? 9).map (fun i => (i.zero, i.size, i.bytes)) = some (some (.string ⟨#[]⟩), 1, 16) := by kernel_rfl
/-- A row of texts of one's own: base on. -/
def OT (w : World) (base : Nat) (v : Value) (l : List ByteArray) : Prop := w.ownsRow base 9 1 v l.length (txsV l)
theorem OT.keep {w w' : World} {base : Nat} {v : Value} {l : List ByteArray} (h : OT w base v l) (hb : Below w.heap.size w w') : OT w' base v l :=
  World.ownsRow.kept h (row := none) ⟨hb.os, hb.tape, hb.output, hb.size, fun i hi _ => hb.block i hi⟩ (by cases v.ownBlock <;> simp)
theorem OT.nil (w : World) (base : Nat) : OT w base (.slice none 0 0) [] := World.ownsRow_nil _ _ _ _

/-- What a stretch of memory is as it was: all but what meets P. -/
structure Sv (P : Nat → Prop) (w w' : World) : Prop where
  os : w'.os = w.os
  tape : w'.tape = w.tape
  output : w'.output = w.output
  size : w.heap.size ≤ w'.heap.size
  block : ∀ k, k < w.heap.size → ¬ P k → w'.heap[k]? = w.heap[k]?
theorem Sv.refl (P : Nat → Prop) (w : World) : Sv P w w := ⟨rfl, rfl, rfl, Nat.le_refl _, fun _ _ _ => rfl⟩
theorem Sv.trans {P Q : Nat → Prop} {a b c : World} (h : Sv P a b) (k : Sv Q b c) (hq : ∀ i, Q i → P i ∨ a.heap.size ≤ i) : Sv P a c :=
  ⟨k.os.trans h.os, k.tape.trans h.tape, k.output.trans h.output, Nat.le_trans h.size k.size, fun i hi hp => (k.block i (Nat.lt_of_lt_of_le hi h.size) (fun q => by rcases hq i q with x | x; exact hp x; omega)).trans (h.block i hi hp)⟩
theorem Sv.of {P : Nat → Prop} {w w' : World} (h : Below w.heap.size w w') : Sv P w w' := ⟨h.os, h.tape, h.output, h.size, fun k hk _ => h.block k hk⟩
theorem Sv.mono {P Q : Nat → Prop} {w w' : World} (h : Sv P w w') (hp : ∀ i, P i → Q i) : Sv Q w w' := ⟨h.os, h.tape, h.output, h.size, fun k hk hq => h.block k hk (fun p => hq (hp k p))⟩
theorem Sv.below {P : Nat → Prop} {w w' : World} {B : Nat} (h : Sv P w w') (hp : ∀ i, P i → B ≤ i) (hB : B ≤ w.heap.size) : Below B w w' := ⟨h.os, h.tape, h.output, h.size, fun k hk => h.block k (by omega) (fun p => by have := hp k p; omega)⟩
theorem Sv.setCell {P : Nat → Prop} {a w : World} (h : Sv P a w) {p : Addr} (hp : P p.block ∨ a.heap.size ≤ p.block) (u : Value) : Sv P a (w.setCell p u) :=
  h.trans (Q := fun k => k = p.block) ⟨rfl, rfl, rfl, by simp [World.setCell], fun k _ hk => Below.heap_setCell _ _ _ _ hk⟩ (fun i hi => hi ▸ hp)
theorem Sv.alloc {P : Nat → Prop} {a w : World} (h : Sv P a w) (o : Obj) : Sv P a (w.alloc o) :=
  h.trans (Q := fun _ => False) ⟨rfl, rfl, rfl, by simp, fun k hk _ => Below.heap_alloc _ _ _ hk⟩ (fun i hi => hi.elim)
theorem Sv.grown {P : Nat → Prop} {a w w' : World} {row : Option Nat} (h : Sv P a w) (hg : w.grownBy w' row) (hr : ∀ k, row = some k → P k ∨ a.heap.size ≤ k) : Sv P a w' :=
  h.trans (Q := fun k => row = some k) ⟨hg.os, hg.tape, hg.output, hg.size, fun k hk hq => hg.block k hk (fun e => hq e.symm)⟩ (fun i hi => hr i hi)
theorem Sv.on {P : Nat → Prop} {a w w' : World} (h : Sv P a w) (b : Below w.heap.size w w') : Sv P a w' := h.trans (Sv.of (P := fun _ => False) b) (fun i hi => hi.elim)

theorem own_sv {w w' : World} {P : Nat → Prop} {base : Nat} {e : TypeId} {size : Nat} {v : Value} {n : Nat} {xs : List Value} (h : w.ownsRow base e size v n xs) (hs : Sv P w w') (hp : ∀ g, v.ownBlock = some g → ¬ P g) : w'.ownsRow base e size v n xs := by
  refine ⟨h.1, ?_⟩
  rcases h.2 with h2 | ⟨g, cap, cur, rfl, h3, h4, h5⟩
  · exact .inl h2
  · exact .inr ⟨g, cap, cur, rfl, h3, (hs.block g (Array.getElem?_eq_some_iff.1 h4).1 (hp g rfl)).trans h4, h5⟩

theorem Sv.cell {P : Nat → Prop} {w w' : World} (h : Sv P w w') {p : Addr} {v : Value} (hc : w.cell? p = some v) (hp : ¬ P p.block) : w'.cell? p = some v := (World.cell?_of_block (h.block _ (cell_lt hc) hp)).trans hc
/-- What a row owns. -/
def Ow (v : Value) (k : Nat) : Prop := v.ownBlock = some k
theorem OT.sv {w w' : World} {P : Nat → Prop} {base : Nat} {v : Value} {l : List ByteArray} (h : OT w base v l) (hs : Sv P w w') (hp : ∀ g, Ow v g → ¬ P g) : OT w' base v l := own_sv h hs hp
theorem OT.lo {w : World} {base : Nat} {v : Value} {l : List ByteArray} (h : OT w base v l) {k : Nat} (hk : Ow v k) : base ≤ k ∧ k < w.heap.size := World.ownsRow.lt h k hk
/-- One text more at the end of a row of one's own. -/
theorem app_txt {ops : Array Oper} {rest : List Oper} {o : Oper} {a : Act} {Q : Exit → Act → World → Prop} (hgd : o.guard = none) (s x : Operand) (t : TypeId)
    (ho : o.op = .call { callee := .builtin .append, args := #[s, x], argTypes := #[t, t] }) (ht : Tryd.prog.underlying t = some (.slice 9)) (w : World) (base : Nat) (v : Value) (l : List ByteArray) (y : ByteArray) (hs : a.eval s = v) (hO : OT w base v l)
    (hx : a.eval x = .slice (some ⟨w.heap.size, 0, none⟩) 1 1) (hl : l.length ≤ 1099511627776) (hb : base ≤ w.heap.size)
    (h : ∀ v' w', OT w' base v' (l ++ [y]) → Sv (Ow v) w w' → w.heap.size ≤ w'.heap.size → (∀ k, Ow v' k → Ow v k ∨ w.heap.size ≤ k) → wpList Tryd.prog ops Q rest (a.put o.dst v') w') :
    wpList Tryd.prog ops Q (o :: rest) a (w.alloc (.cells #[.string y] 9)) := by
  obtain ⟨i0, hi0, hz0, hz1, hz2⟩ := info_parts txt_info
  refine wpList_append_lies _ hgd s x t ho base 9 i0 _ 1 16 ht hi0 hz0 hz1 hz2 rfl (by omega) v l.length (txsV l) hs (hO.keep (below_alloc w _)) ⟨w.heap.size, 0, none⟩ 1 1 [.string y] hx rfl (World.news_of_block (heap_alloc_new w _)) (by simp [Value.oneCell']) (by omega) (by simp only [maxLen]; omega) (by omega) (by simp; omega) _ rfl ?_
  intro g cap w2 hown hg hat hlt
  refine h _ _ ?_ ((Sv.of (below_alloc w _)).grown hg (fun k hk => .inl hk)) ?_ ?_
  · show World.ownsRow _ _ _ _ _ _ _
    rw [List.length_append, txsV, List.map_append]; exact hown
  · have := hg.size; simp at this; omega
  · intro k hk
    have e : some g = some k := hk
    obtain rfl := Option.some.inj e
    rcases hat with h1 | h1
    · exact .inl h1
    · exact .inr (by rw [h1]; simp)


/-- As app_txt, at a step of a region that draws. -/
theorem step_app_txt {ops : Array Oper} {o : Oper} {a : Act} {K : Act → World → Prop} {Q : Exit → Act → World → Prop} {E0 : Prop} (hgd : o.guard = none) (s x : Operand) (t : TypeId)
    (ho : o.op = .call { callee := .builtin .append, args := #[s, x], argTypes := #[t, t] }) (ht : Tryd.prog.underlying t = some (.slice 9)) (w : World) (base : Nat) (v : Value) (l : List ByteArray) (y : ByteArray) (hs : a.eval s = v) (hO : OT w base v l)
    (hx : a.eval x = .slice (some ⟨w.heap.size, 0, none⟩) 1 1) (hl : l.length ≤ 1099511627776) (hb : base ≤ w.heap.size)
    (h : ∀ v' w', OT w' base v' (l ++ [y]) → Sv (Ow v) w w' → w.heap.size ≤ w'.heap.size → (∀ k, Ow v' k → Ow v k ∨ w.heap.size ≤ k) → K (a.put o.dst v') w') :
    if Region.wanted o (yielded ops a.tmps) = true then Oper.wp Tryd.prog o a (w.alloc (.cells #[.string y] 9)) K Q else E0 := by
  obtain ⟨i0, hi0, hz0, hz1, hz2⟩ := info_parts txt_info
  refine step_append_lies _ hgd s x t ho base 9 i0 _ 1 16 ht hi0 hz0 hz1 hz2 rfl (by omega) v l.length (txsV l) hs (hO.keep (below_alloc w _)) ⟨w.heap.size, 0, none⟩ 1 1 [.string y] hx rfl (World.news_of_block (heap_alloc_new w _)) (by simp [Value.oneCell']) (by omega) (by simp only [maxLen]; omega) (by omega) (by simp; omega) _ rfl ?_
  intro g cap w2 hown hg hat hlt
  refine h _ _ ?_ ((Sv.of (below_alloc w _)).grown hg (fun k hk => .inl hk)) ?_ ?_
  · show World.ownsRow _ _ _ _ _ _ _
    rw [List.length_append, txsV, List.map_append]; exact hown
  · have := hg.size; simp at this; omega
  · intro k hk
    have e : some g = some k := hk
    obtain rfl := Option.some.inj e
    rcases hat with h1 | h1
    · exact .inl h1
    · exact .inr (by rw [h1]; simp)


end Go.Proofs.YtcbjcpmkebbfaaaDoor
