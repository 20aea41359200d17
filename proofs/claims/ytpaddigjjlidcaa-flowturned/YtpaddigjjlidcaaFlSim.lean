/-
  PLAIN AND MEMORY: the search in depth whose way bears, of each block on it, those of its next ones that haven't been looked at: each of its steps is one of the search's, or none. No condition.
-/
import Derived.Test.YtpaddigjjlidcaaFlP4
namespace Go.Proofs.Ytpaddigjjlidcaa
open Go.RowKit

/-- One on the way: a block, what is left of its next ones, and the value that lies there. -/
structure En where
  b : Int
  l : List Int
  v : Value
theorem firstU_pre {fl : List Bool} {l : List Int} : ∀ {pre : List Int}, (∀ x ∈ pre, fl[x.toNat]? = some true) → firstU fl (pre ++ l) = firstU fl l
  | [], _ => rfl
  | y :: r, h => by
    show (if fl.getD y.toNat false = false then y else firstU fl (r ++ l)) = _
    rw [List.getD_eq_getElem?_getD, h y List.mem_cons_self, if_neg (by simp)]
    exact firstU_pre (fun x hx => h x (List.mem_cons_of_mem _ hx))
/-- What holds all the way. -/
structure WyI (bl : List Blk) (m : Nat) (fl : List Bool) (way : List En) (out : List Int) : Prop where
  stps : Stps bl (mc0 m) ⟨fl, way.map En.b, out.reverse⟩
  mci : McI m ⟨fl, way.map En.b, out.reverse⟩
  left : ∀ e ∈ way, ∃ pre, nextL bl e.b = pre ++ e.l ∧ ∀ x ∈ pre, fl[x.toNat]? = some true
def mu (fl : List Bool) (way : List En) : Nat := (way.map fun e => e.l.length + 1).sum + 4 * fl.count false
theorem mu_end (fl : List Bool) (w0 : List En) (e : En) : mu fl (w0 ++ [e]) = mu fl w0 + (e.l.length + 1) := by
  unfold mu
  rw [List.map_append, List.sum_append]
  simp; omega
theorem WyI.start {bl : List Blk} {m : Nat} (h : 0 < m) (v : Value) : WyI bl m ((List.replicate m false).set 0 true) [⟨0, nextL bl 0, v⟩] [] :=
  ⟨.refl _, McI.start h, fun e he => by
    obtain rfl := List.mem_singleton.1 he
    exact ⟨[], rfl, fun x hx => by cases hx⟩⟩
theorem WyI.pop {bl : List Blk} {m : Nat} {fl : List Bool} {w0 : List En} {b : Int} {v : Value} {out : List Int} (h : WyI bl m fl (w0 ++ [⟨b, [], v⟩]) out) : WyI bl m fl w0 (out ++ [b]) := by
  obtain ⟨pre, e1, e2⟩ := h.left _ (List.mem_append_right _ (List.mem_singleton.2 rfl))
  have hf : firstU fl (nextL bl b) < 0 := by
    rw [show nextL bl b = pre ++ [] from e1, firstU_pre e2]; show (-1 : Int) < 0; decide
  have hs := h.stps
  have hi := h.mci
  rw [List.map_append, List.map_singleton] at hs hi
  refine ⟨?_, ?_, fun e he => h.left e (List.mem_append_left _ he)⟩
  · rw [List.reverse_append, List.reverse_singleton]
    exact hs.step (.up hf)
  · rw [List.reverse_append, List.reverse_singleton]
    exact hi.up
theorem WyI.skip {bl : List Blk} {m : Nat} {fl : List Bool} {w0 : List En} {b x : Int} {r : List Int} {v v' : Value} {out : List Int} (h : WyI bl m fl (w0 ++ [⟨b, x :: r, v⟩]) out) (hx : fl[x.toNat]? = some true) : WyI bl m fl (w0 ++ [⟨b, r, v'⟩]) out := by
  obtain ⟨pre, e1, e2⟩ := h.left _ (List.mem_append_right _ (List.mem_singleton.2 rfl))
  have hs := h.stps
  have hi := h.mci
  rw [List.map_append, List.map_singleton] at hs hi
  refine ⟨by rw [List.map_append, List.map_singleton]; exact hs, by rw [List.map_append, List.map_singleton]; exact hi, fun e he => ?_⟩
  rcases List.mem_append.1 he with h1 | h1
  · exact h.left e (List.mem_append_left _ h1)
  · obtain rfl := List.mem_singleton.1 h1
    refine ⟨pre ++ [x], by rw [List.append_assoc]; exact e1, fun y hy => ?_⟩
    rcases List.mem_append.1 hy with h2 | h2
    · exact e2 y h2
    · obtain rfl := List.mem_singleton.1 h2
      exact hx
theorem WyI.push {bl : List Blk} {m : Nat} (hm : bl.length = m) {fl : List Bool} {w0 : List En} {b : Int} {j : Nat} {r : List Int} {v v' u : Value} {out : List Int} (h : WyI bl m fl (w0 ++ [⟨b, (j : Int) :: r, v⟩]) out) (hx : fl[j]? = some false) : WyI bl m (fl.set j true) (w0 ++ [⟨b, r, v'⟩] ++ [⟨j, nextL bl j, u⟩]) out := by
  obtain ⟨pre, e1, e2⟩ := h.left _ (List.mem_append_right _ (List.mem_singleton.2 rfl))
  have hs := h.stps
  have hi := h.mci
  rw [List.map_append, List.map_singleton] at hs hi
  have hf : firstU fl (nextL bl b) = j := by
    rw [show nextL bl b = pre ++ (j : Int) :: r from e1, firstU_pre e2]
    show (if fl.getD (j : Int).toNat false = false then (j : Int) else _) = _
    rw [Int.toNat_natCast, List.getD_eq_getElem?_getD, hx]
    exact if_pos rfl
  have h0 : 0 ≤ firstU fl (nextL bl b) := by rw [hf]; omega
  have hs2 := hs.step (.down h0)
  obtain ⟨j2, hj2, -, -, hi2⟩ := hi.down hm h0
  have : j2 = j := by have h3 : firstU fl (nextL bl b) = j := hf; rw [h3] at hj2; omega
  subst this
  have hf' : firstU fl (nextL bl (En.b ⟨b, (j2 : Int) :: r, v⟩)) = j2 := hf
  rw [hf', Int.toNat_natCast] at hs2
  refine ⟨by simpa [List.map_append] using hs2, by simpa [List.map_append] using hi2, fun e he => ?_⟩
  rcases List.mem_append.1 he with h1 | h1
  · rcases List.mem_append.1 h1 with h1 | h1
    · obtain ⟨p, q1, q2⟩ := h.left e (List.mem_append_left _ h1)
      exact ⟨p, q1, fun y hy => set_true (q2 y hy)⟩
    · obtain rfl := List.mem_singleton.1 h1
      refine ⟨pre ++ [(j2 : Int)], by rw [List.append_assoc]; exact e1, fun y hy => ?_⟩
      rcases List.mem_append.1 hy with h2 | h2
      · exact set_true (e2 y h2)
      · obtain rfl := List.mem_singleton.1 h2
        rw [Int.toNat_natCast]
        exact set_at (List.getElem?_eq_some_iff.1 hx).1
  · obtain rfl := List.mem_singleton.1 h1
    exact ⟨[], rfl, fun x hx => by cases hx⟩
theorem WyI.done {bl : List Blk} {m : Nat} (hm : bl.length = m) (h0 : 0 < m) {fl : List Bool} {out : List Int} (h : WyI bl m fl [] out) : OrdR bl out.reverse := by
  unfold OrdR
  rw [if_neg (by omega), hm]
  exact ⟨_, h.stps, rfl, rfl⟩
theorem WyI.len {bl : List Blk} {m : Nat} {fl : List Bool} {way : List En} {out : List Int} (h : WyI bl m fl way out) : way.length ≤ m ∧ out.length ≤ m := by
  have h1 := h.mci.cnt
  have h2 := count_le fl
  have h3 := h.mci.len
  simp only [List.length_map, List.length_reverse] at h1 h3
  omega
theorem WyI.nums {bl : List Blk} {m : Nat} (hm : m ≤ 1000000) {fl : List Bool} {way : List En} {out : List Int} (h : WyI bl m fl way out) : (∀ e ∈ way, I64 e.b) ∧ ∀ x ∈ out, I64 x :=
  ⟨fun e he => by have := h.mci.st e.b (List.mem_map.2 ⟨e, he, rfl⟩); exact ⟨by omega, by omega⟩, fun x hx => by have := h.mci.out x (List.mem_reverse.2 hx); exact ⟨by omega, by omega⟩⟩

/-! Memory. -/
def enC (e : En) : List Value := [.int .i64 e.b, e.v]
def enCs (l : List En) : List Value := l.flatMap enC
theorem enCs_len (l : List En) : (enCs l).length = l.length * 2 := by
  unfold enCs
  induction l with
  | nil => rfl
  | cons a r ih => rw [List.flatMap_cons, List.length_append, ih]; simp [enC]; omega
theorem enCs_app (l r : List En) : enCs (l ++ r) = enCs l ++ enCs r := by unfold enCs; rw [List.flatMap_append]
/-- A way of one's own. -/
def OW (w : World) (base : Nat) (s : Value) (way : List En) : Prop := w.ownsRow base 47 2 s way.length (enCs way)
theorem OW.sv {w w' : World} {P : Nat → Prop} {base : Nat} {v : Value} {l : List En} (h : OW w base v l) (hs : Sv P w w') (hp : ∀ g, Ow v g → ¬ P g) : OW w' base v l := own_sv h hs hp
theorem OW.lo {w : World} {base : Nat} {v : Value} {l : List En} (h : OW w base v l) {k : Nat} (hk : Ow v k) : base ≤ k ∧ k < w.heap.size := World.ownsRow.lt h k hk
theorem OW.keep {w w' : World} {base : Nat} {v : Value} {l : List En} (h : OW w base v l) (hb : Below w.heap.size w w') : OW w' base v l := own_below h hb
theorem OW.init {w : World} {base : Nat} {A : Option Addr} {c : Nat} {l : List En} {x : En} (h : OW w base (.slice A (l ++ [x]).length c) (l ++ [x])) : OW w base (.slice A l.length c) l := by
  refine ⟨enCs_len l, ?_⟩
  rcases h.2 with ⟨h0, h1⟩ | ⟨g, cap, cur, hv, hb, hg, hn, hc, hs, ht⟩
  · simp at h1
  · injection hv with e1 e2 e3
    subst e1 e3
    refine .inr ⟨g, c, cur, rfl, hb, hg, by simp at hn; omega, hc, hs, ?_⟩
    have := congrArg (List.take (l.length * 2)) ht
    rw [List.take_take, enCs_app, List.take_left' (enCs_len l)] at this
    rw [show min (l.length * 2) ((l ++ [x]).length * 2) = l.length * 2 by simp] at this
    exact this
theorem OW.form {w : World} {base : Nat} {s : Value} {way : List En} (h : OW w base s way) (h0 : 0 < way.length) : ∃ g c, s = .slice (some ⟨g, 0, none⟩) way.length c ∧ way.length ≤ c := by
  rcases h.2 with ⟨-, h1⟩ | ⟨g, cap, cur, hv, hb, hg, hn, -⟩
  · omega
  · exact ⟨g, cap, hv, hn⟩
theorem OW.last {w : World} {base g c n q : Nat} {l : List En} {x : En} (h : OW w base (.slice (some ⟨g, 0, none⟩) n c) (l ++ [x])) (hq : l.length = q) : w.cell? ⟨g, q * 2, none⟩ = some (.int .i64 x.b) ∧ w.cell? ⟨g, q * 2 + 1, none⟩ = some x.v := by
  have hn : n = (l ++ [x]).length := by
    rcases h.2 with ⟨h', _⟩ | ⟨g', cap', cur, h', _⟩
    · cases h'
    · injection h' with _ e _
  subst hn
  have h1 : (l ++ [x]).length = q + 1 := by simp [hq]
  have hl : (enCs l).length = q * 2 := by rw [enCs_len, hq]
  have e := World.ownsRow.cellAt h
  constructor
  · rw [e (q * 2) (by rw [h1]; omega), enCs_app, List.getElem?_append_right (by omega), hl, Nat.sub_self]; rfl
  · rw [e (q * 2 + 1) (by rw [h1]; omega), enCs_app, List.getElem?_append_right (by omega), hl, show q * 2 + 1 - q * 2 = 1 by omega]; rfl
theorem OW.put {w : World} {base g c n q : Nat} {l : List En} {x : En} (h : OW w base (.slice (some ⟨g, 0, none⟩) n c) (l ++ [x])) (hq : l.length = q) (r : List Int) (u : Value) : OW (w.setCell ⟨g, q * 2 + 1, none⟩ u) base (.slice (some ⟨g, 0, none⟩) n c) (l ++ [⟨x.b, r, u⟩]) := by
  have hn : n = (l ++ [x]).length := by
    rcases h.2 with ⟨h', _⟩ | ⟨g', cap', cur, h', _⟩
    · cases h'
    · injection h' with _ e _
  subst hn
  have hl : (enCs l).length = q * 2 := by rw [enCs_len, hq]
  have h2 := (World.ownsRow.stored h (q * 2 + 1) u).1
  rw [enCs_app, List.set_append_right _ _ (by omega), hl, show q * 2 + 1 - q * 2 = 1 by omega] at h2
  unfold OW
  rw [enCs_app, show (l ++ [(⟨x.b, r, u⟩ : En)]).length = (l ++ [x]).length by simp]
  exact h2
theorem en_info : (Try.prog.info? 47).map (fun i => (i.zero, i.size, i.bytes)) = some (some (.agg #[.int .i64 0, .slice none 0 0]), 2, 32) := by kernel_rfl
/-- One more at the way's end. -/
theorem app_en {ops : Array Oper} {rest : List Oper} {o : Oper} {a : Act} {Q : Exit → Act → World → Prop} (hgd : o.guard = none) (s x : Operand) (t : TypeId)
    (ho : o.op = .call { callee := .builtin .append, args := #[s, x], argTypes := #[t, t] }) (ht : Try.prog.underlying t = some (.slice 47)) (w : World) (base : Nat) (v : Value) (l : List En) (y : En) (hs : a.eval s = v) (hO : OW w base v l)
    (hx : a.eval x = .slice (some ⟨w.heap.size, 0, none⟩) 1 1) (hc : y.v.oneCell' = true) (hl : l.length ≤ 1099511627776) (hb : base ≤ w.heap.size)
    (h : ∀ v' w', OW w' base v' (l ++ [y]) → Sv (Ow v) w w' → w.heap.size ≤ w'.heap.size → (∀ k, Ow v' k → Ow v k ∨ w.heap.size ≤ k) → wpList Try.prog ops Q rest (a.put o.dst v') w') :
    wpList Try.prog ops Q (o :: rest) a (w.alloc (.cells #[.int .i64 y.b, y.v] 47)) := by
  obtain ⟨i0, hi0, hz0, hz1, hz2⟩ := info_parts en_info
  refine wpList_append_lies _ hgd s x t ho base 47 i0 _ 2 32 ht hi0 hz0 hz1 hz2 rfl (by omega) v l.length (enCs l) hs (hO.keep (below_alloc w _)) ⟨w.heap.size, 0, none⟩ 1 1 [.int .i64 y.b, y.v] hx rfl (World.news_of_block (heap_alloc_new w _)) (by
    intro u hu
    rcases List.mem_cons.1 hu with rfl | hu
    · rfl
    · obtain rfl := List.mem_singleton.1 hu
      exact hc) (by omega) (by simp only [maxLen]; omega) (by omega) (by simp; omega) _ rfl ?_
  intro g cap w2 hown hg hat hlt
  refine h _ _ ?_ ((Sv.of (below_alloc w _)).grown hg (fun k hk => .inl hk)) ?_ ?_
  · show World.ownsRow _ _ _ _ _ _ _
    rw [List.length_append, enCs_app]; exact hown
  · have := hg.size; simp at this; omega
  · intro k hk
    have e : some g = some k := hk
    obtain rfl := Option.some.inj e
    rcases hat with h1 | h1
    · exact .inl h1
    · exact .inr (by rw [h1]; simp)
/-- A row of numbers that is read only, and lies where N doesn't hold. -/
def LV (N : Nat → Prop) (w : World) (v : Value) (l : List Int) : Prop := ∃ A k, v = .slice A l.length k ∧ l.length ≤ k ∧ (0 < l.length → ∃ b o, A = some ⟨b, o, none⟩ ∧ b < w.heap.size ∧ ¬ N b ∧ ∀ i x, l[i]? = some x → w.cell? ⟨b, o + i, none⟩ = some (.int .i64 x))
theorem LV.sv {N N' P : Nat → Prop} {w w' : World} {v : Value} {l : List Int} (h : LV N w v l) (hs : Sv P w w') (hP : ∀ b, P b → N b) (hN : ∀ b, b < w.heap.size → N' b → N b) : LV N' w' v l := by
  obtain ⟨A, k, e, hk, h1⟩ := h
  refine ⟨A, k, e, hk, fun h0 => ?_⟩
  obtain ⟨b, o, e2, hb, hn, hc⟩ := h1 h0
  exact ⟨b, o, e2, Nat.lt_of_lt_of_le hb hs.size, fun q => hn (hN b hb q), fun i x hi => hs.cell (hc i x hi) (fun q => hn (hP b q))⟩
theorem LV.one {N : Nat → Prop} {w : World} {v : Value} {l : List Int} (h : LV N w v l) : v.oneCell' = true := by
  obtain ⟨A, k, rfl, -⟩ := h
  rfl
theorem LV.of {N : Nat → Prop} {w : World} {base : Nat} {v : Value} {l : List Int} (h : OI w base v l) (hN : ∀ b, base ≤ b → ¬ N b) : LV N w v l := by
  rcases h.2 with ⟨rfl, h0⟩ | ⟨g, cap, cur, rfl, hb, hg, hn, hc, hs, ht⟩
  · exact ⟨none, 0, by rw [h0], by omega, fun h => by omega⟩
  · refine ⟨_, cap, rfl, hn, fun hp => ⟨g, 0, rfl, ?_, hN g hb, fun i x hi => ?_⟩⟩
    · rcases Nat.lt_or_ge g w.heap.size with h1 | h1
      · exact h1
      · rw [Array.getElem?_eq_none h1] at hg; cases hg
    · have hkl := (List.getElem?_eq_some_iff.1 hi).1
      rw [Nat.zero_add]
      exact (World.ownsRow.cellAt h i (by simpa [intsV] using hkl)).trans (by unfold intsV; rw [List.getElem?_map, hi]; rfl)
end Go.Proofs.Ytpaddigjjlidcaa
