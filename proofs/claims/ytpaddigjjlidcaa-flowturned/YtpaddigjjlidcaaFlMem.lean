/-
  WORDS FOR MEMORY: a function of a program and where its rows lie; what keeps them; loops' relations. No condition.
-/
import Derived.Test.YtpaddigjjlidcaaProg
import Derived.Test.YtpaddigjjlidcaaSl
import Derived.Lib.Hide
import Derived.Deep.QuietTactic
import Derived.BigQuiet
import Derived.IntWalk
import Derived.Deep.WholeRow
import Derived.Deep.AppendLies
import Derived.Laws.OwnMore
import Derived.OwnWalk
import Derived.Deep.RegionHeld3
import Derived.Deep.CutRange
namespace Go.Proofs.Ytpaddigjjlidcaa
open Go.RowKit

def KRel (w : World) (m : Nat) (Q : Nat → Prop) (i : Value) (wr : World) : Prop := ∃ k : Nat, k ≤ m ∧ i = .int .i64 k ∧ Hid (Q k) ∧ w = wr

/-- A function of a program, and where its rows lie. -/
structure FE where
  f : Fn
  pA : Option Addr
  pc : Nat
  sA : Option Addr
  sc : Nat
  iA : Option Addr
  ic : Nat
  bA : Option Addr
  bc : Nat
def FE.row (E : FE) : Array Value := #[.string E.f.name, .slice E.pA E.f.params.length E.pc, .string E.f.res, .slice E.sA E.f.slots.length E.sc, .slice E.iA E.f.ins.length E.ic, .slice E.bA E.f.blocks.length E.bc]
def FE.v (E : FE) : Value := .agg E.row
structure FM (E : FE) (w : World) : Prop where
  P : SL 1 strR w E.pA E.f.params
  S : SL 1 strR w E.sA E.f.slots
  I : SL 5 insR w E.iA E.f.ins
  B : SL 5 blkR w E.bA E.f.blocks
  pl : E.f.params.length ≤ 140737488351232
  sl : E.f.slots.length ≤ 140737488351232
  il : E.f.ins.length ≤ 140737488351232
  bl : E.f.blocks.length ≤ 140737488351232
  ple : E.f.params.length ≤ E.pc
  sle : E.f.slots.length ≤ E.sc
  ile : E.f.ins.length ≤ E.ic
  ble : E.f.blocks.length ≤ E.bc
  nl : E.f.name.size ≤ 140737488351232
  rl : E.f.res.size ≤ 140737488351232
theorem FM.below {E : FE} {w w' : World} {B : Nat} (h : FM E w) (hb : Below B w w') (hB : w.heap.size ≤ B) : FM E w' :=
  { h with P := h.P.below kp_str hb hB, S := h.S.below kp_str hb hB, I := h.I.below kp_ins hb hB, B := h.B.below kp_blk hb hB }
theorem fe_of {w : World} {cs : List Value} {f : Fn} (h : fnR w cs f) : ∃ E : FE, E.f = f ∧ cs = E.row.toList ∧ FM E w := by
  obtain ⟨p, s, i, b, rfl, hn, hr, ⟨pA, pc, rfl, p1, p2, p3⟩, ⟨sA, sc, rfl, s1, s2, s3⟩, ⟨iA, ic, rfl, i1, i2, i3⟩, ⟨bA, bc, rfl, b1, b2, b3⟩⟩ := h
  exact ⟨⟨f, pA, pc, sA, sc, iA, ic, bA, bc⟩, rfl, rfl, ⟨p3, s3, i3, b3, p2, s2, i2, b2, p1, s1, i1, b1, hn, hr⟩⟩
/-- A variable that holds that function. -/
structure FV (E : FE) (w : World) (g : Nat) : Prop where
  lt : g < w.heap.size
  row : ∃ t fr, w.heap[g]? = some (.cells E.row t fr)
theorem FV.new (E : FE) (w : World) (t : TypeId) : FV E (w.alloc (.cells E.row t)) w.heap.size := ⟨by simp, ⟨t, _, heap_alloc_last w _⟩⟩
theorem FV.below {E : FE} {w w' : World} {g B : Nat} (h : FV E w g) (hb : Below B w w') (hB : w.heap.size ≤ B) : FV E w' g := by
  obtain ⟨t, fr, h1⟩ := h.row
  exact ⟨Nat.lt_of_lt_of_le h.lt hb.size, t, fr, (hb.block g (Nat.lt_of_lt_of_le h.lt hB)).trans h1⟩
theorem FV.cell {E : FE} {w : World} {g : Nat} (h : FV E w g) (k : Nat) (v : Value) (hk : E.row[k]? = some v) : w.cell? ⟨g, k, none⟩ = some v := by
  obtain ⟨t, fr, h1⟩ := h.row
  exact (cell_of_row w g k _ t fr h1).trans hk
theorem below_alloc (w : World) (o : Obj) : Below w.heap.size w (w.alloc o) := (Below.refl _ _).alloc (Nat.le_refl _) o

theorem cell_lt {w : World} {p : Addr} {v : Value} (h : w.cell? p = some v) : p.block < w.heap.size := by
  obtain ⟨b, o, s⟩ := p
  unfold World.cell? at h
  rcases Nat.lt_or_ge b w.heap.size with hb | hb
  · exact hb
  · have : w.heap[b]? = none := Array.getElem?_eq_none hb
    simp [this] at h
theorem keepB {w w' : World} {p : Addr} {v : Value} (h : w.cell? p = some v) (hb : Below w.heap.size w w') : w'.cell? p = some v := (hb.cell (cell_lt h)).trans h
theorem cell_new (w : World) (cs : Array Value) (t : TypeId) (k : Nat) : (w.alloc (.cells cs t)).cell? ⟨w.heap.size, k, none⟩ = cs[k]? := cell_of_row _ w.heap.size k cs t (0, 0) (heap_alloc_last w _)
theorem one_step {w w' w2 : World} {p : Addr} {v : Value} (h : Below w.heap.size w w' ∧ w'.cell? p = some v) (b : Below w'.heap.size w' w2) : Below w.heap.size w w2 ∧ w2.cell? p = some v := ⟨h.1.trans (b.mono h.1.size), keepB h.2 b⟩
theorem below_drewN {B : Nat} {a w : World} (h : Below B a w) (n : Nat) : Below B a (w.drewN n) := h.trans ⟨rfl, rfl, rfl, Nat.le_refl _, fun _ _ => rfl⟩
def BRel (w : World) (m : Nat) (Q : Nat → Prop) (i : Value) (wr : World) : Prop := ∃ k : Nat, k ≤ m ∧ i = .int .i64 k ∧ Hid (Q k) ∧ Below w.heap.size w wr


def intsV (l : List Int) : List Value := l.map fun n => .int .i64 n
theorem int_info : (Try.prog.info? 3).map (fun i => (i.zero, i.size, i.bytes)) = some (some (.int .i64 0), 1, 8) := by kernel_rfl
/-- A row of numbers of one's own: base on. -/
def OI (w : World) (base : Nat) (v : Value) (l : List Int) : Prop := w.ownsRow base 3 1 v l.length (intsV l)
theorem OI.keep {w w' : World} {base : Nat} {v : Value} {l : List Int} (h : OI w base v l) (hb : Below w.heap.size w w') : OI w' base v l :=
  World.ownsRow.kept h (row := none) ⟨hb.os, hb.tape, hb.output, hb.size, fun i hi _ => hb.block i hi⟩ (by cases v.ownBlock <;> simp)
theorem OI.nil (w : World) (base : Nat) : OI w base (.slice none 0 0) [] := World.ownsRow_nil _ _ _ _
theorem OI.sl {w : World} {base : Nat} {v : Value} {l : List Int} (h : OI w base v l) (hi : ∀ x ∈ l, I64 x) : ∃ A c, v = .slice A l.length c ∧ l.length ≤ c ∧ SL 1 intR w A l := by
  rcases h.2 with ⟨rfl, h0⟩ | ⟨g, cap, cur, rfl, hb, hg, hn, hc, hs, ht⟩
  · rw [h0]; exact ⟨none, 0, rfl, Nat.le_refl _, fun h => by omega⟩
  · refine ⟨_, cap, rfl, hn, fun hp => ⟨g, 0, rfl, ?_, fun k x hk => ?_⟩⟩
    · rcases Nat.lt_or_ge g w.heap.size with h1 | h1
      · exact h1
      · rw [Array.getElem?_eq_none h1] at hg; cases hg
    · have hkl := (List.getElem?_eq_some_iff.1 hk).1
      refine ⟨[.int .i64 x], ⟨rfl, hi x (List.mem_of_getElem? hk)⟩, fun j v hj => ?_⟩
      cases j with
      | zero =>
        obtain rfl := Option.some.inj hj
        rw [Nat.zero_add, Nat.mul_one]
        exact (World.ownsRow.cellAt h k (by simpa [intsV] using hkl)).trans (by unfold intsV; rw [List.getElem?_map, hk]; rfl)
      | succ j => simp at hj

/-- What a stretch of memory is as it was: all but what meets P. -/
structure Sv (P : Nat → Prop) (w w' : World) : Prop where
  os : w'.os = w.os
  tape : w'.tape = w.tape
  output : w'.output = w.output
  size : w.heap.size ≤ w'.heap.size
  block : ∀ k, k < w.heap.size → ¬ P k → w'.heap[k]? = w.heap[k]?
theorem Sv.refl (P : Nat → Prop) (w : World) : Sv P w w := ⟨rfl, rfl, rfl, Nat.le_refl _, fun _ _ _ => rfl⟩
theorem Sv.trans {P Q : Nat → Prop} {a b c : World} (h : Sv P a b) (k : Sv Q b c) (hq : ∀ i, Q i → P i ∨ a.heap.size ≤ i) : Sv P a c :=
  ⟨k.os.trans h.os, k.tape.trans h.tape, k.output.trans h.output, Nat.le_trans h.size k.size, fun i hi hp => (k.block i (Nat.lt_of_lt_of_le hi h.size) (fun q => by rcases hq i q with x | x; exact hp x; omega)).trans (h.block i hi hp)⟩
theorem Sv.of {P : Nat → Prop} {w w' : World} (h : Below w.heap.size w w') : Sv P w w' := ⟨h.os, h.tape, h.output, h.size, fun k hk _ => h.block k hk⟩
theorem Sv.mono {P Q : Nat → Prop} {w w' : World} (h : Sv P w w') (hp : ∀ i, P i → Q i) : Sv Q w w' := ⟨h.os, h.tape, h.output, h.size, fun k hk hq => h.block k hk (fun p => hq (hp k p))⟩
theorem Sv.below {P : Nat → Prop} {w w' : World} {B : Nat} (h : Sv P w w') (hp : ∀ i, P i → B ≤ i) (hB : B ≤ w.heap.size) : Below B w w' := ⟨h.os, h.tape, h.output, h.size, fun k hk => h.block k (by omega) (fun p => by have := hp k p; omega)⟩
theorem Sv.setCell {P : Nat → Prop} {a w : World} (h : Sv P a w) {p : Addr} (hp : P p.block ∨ a.heap.size ≤ p.block) (u : Value) : Sv P a (w.setCell p u) :=
  h.trans (Q := fun k => k = p.block) ⟨rfl, rfl, rfl, by simp [World.setCell], fun k _ hk => Below.heap_setCell _ _ _ _ hk⟩ (fun i hi => hi ▸ hp)
theorem Sv.alloc {P : Nat → Prop} {a w : World} (h : Sv P a w) (o : Obj) : Sv P a (w.alloc o) :=
  h.trans (Q := fun _ => False) ⟨rfl, rfl, rfl, by simp, fun k hk _ => Below.heap_alloc _ _ _ hk⟩ (fun i hi => hi.elim)
theorem Sv.grown {P : Nat → Prop} {a w w' : World} {row : Option Nat} (h : Sv P a w) (hg : w.grownBy w' row) (hr : ∀ k, row = some k → P k ∨ a.heap.size ≤ k) : Sv P a w' :=
  h.trans (Q := fun k => row = some k) ⟨hg.os, hg.tape, hg.output, hg.size, fun k hk hq => hg.block k hk (fun e => hq e.symm)⟩ (fun i hi => hr i hi)
theorem Sv.on {P : Nat → Prop} {a w w' : World} (h : Sv P a w) (b : Below w.heap.size w w') : Sv P a w' := h.trans (Sv.of (P := fun _ => False) b) (fun i hi => hi.elim)

theorem own_sv {w w' : World} {P : Nat → Prop} {base : Nat} {e : TypeId} {size : Nat} {v : Value} {n : Nat} {xs : List Value} (h : w.ownsRow base e size v n xs) (hs : Sv P w w') (hp : ∀ g, v.ownBlock = some g → ¬ P g) : w'.ownsRow base e size v n xs := by
  refine ⟨h.1, ?_⟩
  rcases h.2 with h2 | ⟨g, cap, cur, rfl, h3, h4, h5⟩
  · exact .inl h2
  · exact .inr ⟨g, cap, cur, rfl, h3, (hs.block g (Array.getElem?_eq_some_iff.1 h4).1 (hp g rfl)).trans h4, h5⟩

theorem Sv.cell {P : Nat → Prop} {w w' : World} (h : Sv P w w') {p : Addr} {v : Value} (hc : w.cell? p = some v) (hp : ¬ P p.block) : w'.cell? p = some v := (World.cell?_of_block (h.block _ (cell_lt hc) hp)).trans hc
/-- What a row owns. -/
def Ow (v : Value) (k : Nat) : Prop := v.ownBlock = some k
theorem OI.sv {w w' : World} {P : Nat → Prop} {base : Nat} {v : Value} {l : List Int} (h : OI w base v l) (hs : Sv P w w') (hp : ∀ g, Ow v g → ¬ P g) : OI w' base v l := own_sv h hs hp
theorem OI.lo {w : World} {base : Nat} {v : Value} {l : List Int} (h : OI w base v l) {k : Nat} (hk : Ow v k) : base ≤ k ∧ k < w.heap.size := World.ownsRow.lt h k hk
/-- One number more at the end of a row of one's own. -/
theorem app_one {ops : Array Oper} {rest : List Oper} {o : Oper} {a : Act} {Q : Exit → Act → World → Prop} (hgd : o.guard = none) (s x : Operand) (t : TypeId)
    (ho : o.op = .call { callee := .builtin .append, args := #[s, x], argTypes := #[t, t] }) (ht : Try.prog.underlying t = some (.slice 3)) (w : World) (base : Nat) (v : Value) (l : List Int) (y : Int) (hs : a.eval s = v) (hO : OI w base v l)
    (hx : a.eval x = .slice (some ⟨w.heap.size, 0, none⟩) 1 1) (hl : l.length ≤ 1099511627776) (hb : base ≤ w.heap.size)
    (h : ∀ v' w', OI w' base v' (l ++ [y]) → Sv (Ow v) w w' → w.heap.size ≤ w'.heap.size → (∀ k, Ow v' k → Ow v k ∨ w.heap.size ≤ k) → wpList Try.prog ops Q rest (a.put o.dst v') w') :
    wpList Try.prog ops Q (o :: rest) a (w.alloc (.cells #[.int .i64 y] 3)) := by
  obtain ⟨i0, hi0, hz0, hz1, hz2⟩ := info_parts int_info
  refine wpList_append_lies _ hgd s x t ho base 3 i0 _ 1 8 ht hi0 hz0 hz1 hz2 rfl (by omega) v l.length (intsV l) hs (hO.keep (below_alloc w _)) ⟨w.heap.size, 0, none⟩ 1 1 [.int .i64 y] hx rfl (World.news_of_block (heap_alloc_new w _)) (by simp [Value.oneCell']) (by omega) (by simp only [maxLen]; omega) (by omega) (by simp; omega) _ rfl ?_
  intro g cap w2 hown hg hat hlt
  refine h _ _ ?_ ((Sv.of (below_alloc w _)).grown hg (fun k hk => .inl hk)) ?_ ?_
  · show World.ownsRow _ _ _ _ _ _ _
    rw [List.length_append, intsV, List.map_append]; exact hown
  · have := hg.size; simp at this; omega
  · intro k hk
    have e : some g = some k := hk
    obtain rfl := Option.some.inj e
    rcases hat with h1 | h1
    · exact .inl h1
    · exact .inr (by rw [h1]; simp)

end Go.Proofs.Ytpaddigjjlidcaa
