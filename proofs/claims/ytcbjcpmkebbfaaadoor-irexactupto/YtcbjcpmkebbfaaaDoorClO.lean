/-
  MEMORY: what reads as a program in memory of its own: each row in a block of its own, between lo and hi; what keeps it. The law of 'copy' onto a row just made, whatever the element's size.
-/
import Derived.Test.YtcbjcpmkebbfaaaDoorSmFn
import Derived.Laws.CopyOwn
import Derived.OwnWalk
namespace Go.Proofs.YtcbjcpmkebbfaaaDoor
open Go.RowKit

abbrev ORdr (α : Type) : Type := World → Nat → Nat → List Value → α → Prop
/-- These cells stand in a row from a place on. -/
def Sg (cur : Array Value) (o : Nat) (cs : List Value) : Prop := ∀ k v, cs[k]? = some v → cur[o + k]? = some v
/-- Two worlds are the same between two blocks. -/
def Bt (lo hi : Nat) (w w' : World) : Prop := w.heap.size ≤ w'.heap.size ∧ ∀ k, lo ≤ k → k < hi → w'.heap[k]? = w.heap[k]?
theorem Bt.sub {lo hi lo' hi' : Nat} {w w' : World} (h : Bt lo hi w w') (h1 : lo ≤ lo') (h2 : hi' ≤ hi) : Bt lo' hi' w w' := ⟨h.1, fun k a b => h.2 k (by omega) (by omega)⟩
structure Kpo {α : Type} (R : ORdr α) : Prop where
  len : ∀ {w w' : World} {lo hi lo' hi' : Nat} {cs ds : List Value} {x y : α}, R w lo hi cs x → R w' lo' hi' ds y → cs.length = ds.length
  on : ∀ {w w' : World} {lo hi : Nat} {cs : List Value} {x : α}, R w lo hi cs x → Bt lo hi w w' → R w' lo hi cs x
def OSL {α : Type} (c : Nat) (R : ORdr α) (w : World) (lo hi : Nat) (A : Option Addr) (l : List α) : Prop :=
  0 < l.length → ∃ (g : Nat) (t : TypeId) (cur : Array Value) (b : Nat → Nat), A = some ⟨g, 0, none⟩ ∧ w.heap[g]? = some (.cells cur t (0, 0)) ∧ lo ≤ g ∧ g < b 0 ∧ (∀ i, i < l.length → b i ≤ b (i + 1)) ∧ b l.length ≤ hi ∧
    ∀ i x, l[i]? = some x → ∃ cs, R w (b i) (b (i + 1)) cs x ∧ Sg cur (i * c) cs
theorem mono_upto {b : Nat → Nat} {n : Nat} (h : ∀ i, i < n → b i ≤ b (i + 1)) : ∀ {i j : Nat}, i ≤ j → j ≤ n → b i ≤ b j := by
  intro i j hij
  induction hij with
  | refl => intro _; exact Nat.le_refl _
  | step hij ih => intro hj; exact Nat.le_trans (ih (by omega)) (h _ (by omega))
theorem OSL.on {α : Type} {c : Nat} {R : ORdr α} (hR : Kpo R) {w w' : World} {lo hi : Nat} {A : Option Addr} {l : List α} (h : OSL c R w lo hi A l) (hb : Bt lo hi w w') : OSL c R w' lo hi A l := fun h0 => by
  obtain ⟨g, t, cur, b, hA, hg, h1, h2, h3, h4, h5⟩ := h h0
  have m0 := mono_upto h3 (Nat.zero_le l.length) (Nat.le_refl _)
  refine ⟨g, t, cur, b, hA, (hb.2 g h1 (by omega)).trans hg, h1, h2, h3, h4, fun i x hx => ?_⟩
  obtain ⟨cs, r, s⟩ := h5 i x hx
  have hi := (List.getElem?_eq_some_iff.1 hx).1
  have m1 := mono_upto h3 (Nat.zero_le i) (by omega)
  have m2 := mono_upto h3 (show i + 1 ≤ l.length from hi) (Nat.le_refl _)
  exact ⟨cs, hR.on r (hb.sub (by omega) (by omega)), s⟩
theorem OSL.wide {α : Type} {c : Nat} {R : ORdr α} {w : World} {lo hi lo' hi' : Nat} {A : Option Addr} {l : List α} (h : OSL c R w lo hi A l) (h1 : lo' ≤ lo) (h2 : hi ≤ hi') : OSL c R w lo' hi' A l := fun h0 => by
  obtain ⟨g, t, cur, b, hA, hg, a1, a2, a3, a4, a5⟩ := h h0
  exact ⟨g, t, cur, b, hA, hg, by omega, a2, a3, by omega, a5⟩
def oR {α : Type} (c : Nat) (R : ORdr α) (w : World) (lo hi : Nat) (v : Value) (l : List α) : Prop := ∃ A k, v = .slice A l.length k ∧ l.length ≤ k ∧ l.length ≤ 140737488351232 ∧ OSL c R w lo hi A l
theorem oR.on {α : Type} {c : Nat} {R : ORdr α} (hR : Kpo R) {w w' : World} {lo hi : Nat} {v : Value} {l : List α} (h : oR c R w lo hi v l) (hb : Bt lo hi w w') : oR c R w' lo hi v l := by
  obtain ⟨A, k, h0, h1, h2, h3⟩ := h
  exact ⟨A, k, h0, h1, h2, h3.on hR hb⟩
theorem oR.wide {α : Type} {c : Nat} {R : ORdr α} {w : World} {lo hi lo' hi' : Nat} {v : Value} {l : List α} (h : oR c R w lo hi v l) (h1 : lo' ≤ lo) (h2 : hi ≤ hi') : oR c R w lo' hi' v l := by
  obtain ⟨A, k, e0, e1, e2, e3⟩ := h
  exact ⟨A, k, e0, e1, e2, e3.wide h1 h2⟩
/-- One that leads nowhere. -/
def lf {α : Type} (R : Rdr α) : ORdr α := fun w _ _ cs x => R w cs x
theorem kpo_int : Kpo (lf intR) := ⟨fun h h' => by rw [h.1, h'.1]; rfl, fun h _ => h⟩
theorem kpo_str : Kpo (lf strR) := ⟨fun h h' => by rw [h.1, h'.1]; rfl, fun h _ => h⟩
theorem kpo_fd : Kpo (lf fdR) := ⟨fun h h' => by rw [h.1, h'.1]; rfl, fun h _ => h⟩
def stO : ORdr St := fun w lo hi cs s => ∃ v, cs = [.string s.name, v] ∧ s.name.size ≤ 140737488351232 ∧ oR 2 (lf fdR) w lo hi v s.fields
def insO : ORdr Ins := fun w lo hi cs x => ∃ v, cs = [.int .i64 x.op, .string x.typ, v, .int .i64 x.n, .string x.name] ∧ I64 x.op ∧ I64 x.n ∧ x.typ.size ≤ 140737488351232 ∧ x.name.size ≤ 140737488351232 ∧ oR 1 (lf intR) w lo hi v x.args
def blkO : ORdr Blk := fun w lo hi cs x => ∃ v, cs = [v, .int .i64 x.jump, .int .i64 x.arg, .int .i64 x.t0, .int .i64 x.t1] ∧ I64 x.jump ∧ I64 x.arg ∧ I64 x.t0 ∧ I64 x.t1 ∧ oR 1 (lf intR) w lo hi v x.list
def fnO : ORdr Fn := fun w lo hi cs f => ∃ p s i b m1 m2 m3, cs = [.string f.name, p, .string f.res, s, i, b] ∧ f.name.size ≤ 140737488351232 ∧ f.res.size ≤ 140737488351232 ∧ lo ≤ m1 ∧ m1 ≤ m2 ∧ m2 ≤ m3 ∧ m3 ≤ hi ∧
  oR 1 (lf strR) w lo m1 p f.params ∧ oR 1 (lf strR) w m1 m2 s f.slots ∧ oR 5 insO w m2 m3 i f.ins ∧ oR 5 blkO w m3 hi b f.blocks
def pgO : ORdr Pg := fun w lo hi cs p => ∃ s g f m1 m2, cs = [s, g, f] ∧ lo ≤ m1 ∧ m1 ≤ m2 ∧ m2 ≤ hi ∧ oR 2 stO w lo m1 s p.structs ∧ oR 2 (lf fdR) w m1 m2 g p.globals ∧ oR 6 fnO w m2 hi f p.funs
theorem kpo_st : Kpo stO := ⟨fun ⟨_, h, _⟩ ⟨_, h', _⟩ => by rw [h, h']; rfl, fun ⟨v, h0, h1, h2⟩ hb => ⟨v, h0, h1, h2.on kpo_fd hb⟩⟩
theorem kpo_ins : Kpo insO := ⟨fun ⟨_, h, _⟩ ⟨_, h', _⟩ => by rw [h, h']; rfl, fun ⟨v, h0, h1, h2, h3, h4, h5⟩ hb => ⟨v, h0, h1, h2, h3, h4, h5.on kpo_int hb⟩⟩
theorem kpo_blk : Kpo blkO := ⟨fun ⟨_, h, _⟩ ⟨_, h', _⟩ => by rw [h, h']; rfl, fun ⟨v, h0, h1, h2, h3, h4, h5⟩ hb => ⟨v, h0, h1, h2, h3, h4, h5.on kpo_int hb⟩⟩
theorem kpo_fn : Kpo fnO := ⟨fun ⟨_, _, _, _, _, _, _, h, _⟩ ⟨_, _, _, _, _, _, _, h', _⟩ => by rw [h, h']; rfl, fun ⟨p, s, i, b, m1, m2, m3, h0, h1, h2, h3, h4, h5, h6, q1, q2, q3, q4⟩ hb => ⟨p, s, i, b, m1, m2, m3, h0, h1, h2, h3, h4, h5, h6,
  q1.on kpo_str (hb.sub (by omega) (by omega)), q2.on kpo_str (hb.sub (by omega) (by omega)), q3.on kpo_ins (hb.sub (by omega) (by omega)), q4.on kpo_blk (hb.sub (by omega) (by omega))⟩⟩
/-- What is owned is read. -/
structure Rd {α : Type} (O : ORdr α) (R : Rdr α) : Prop where
  rd : ∀ {w : World} {lo hi : Nat} {cs : List Value} {x : α}, O w lo hi cs x → R w cs x
theorem oR.sl {α : Type} {c : Nat} {O : ORdr α} {R : Rdr α} (hR : Rd O R) {w : World} {lo hi : Nat} {v : Value} {l : List α} (h : oR c O w lo hi v l) : slR c R w v l := by
  obtain ⟨A, k, h0, h1, h2, h3⟩ := h
  refine ⟨A, k, h0, h1, h2, fun hp => ?_⟩
  obtain ⟨g, t, cur, b, hA, hg, -, -, -, -, h5⟩ := h3 hp
  refine ⟨g, 0, hA, (Array.getElem?_eq_some_iff.1 hg).1, fun i x hx => ?_⟩
  obtain ⟨cs, r, s⟩ := h5 i x hx
  refine ⟨cs, hR.rd r, fun k v hv => ?_⟩
  rw [cell_of_row w g _ cur t _ hg, Nat.zero_add]
  exact s k v hv
theorem rd_lf {α : Type} (R : Rdr α) : Rd (lf R) R := ⟨fun h => h⟩
theorem rd_st : Rd stO stR := ⟨fun ⟨v, h0, h1, h2⟩ => ⟨v, h0, h1, h2.sl (rd_lf _)⟩⟩
theorem rd_ins : Rd insO insR := ⟨fun ⟨v, h0, h1, h2, h3, h4, h5⟩ => ⟨v, h0, h1, h2, h3, h4, h5.sl (rd_lf _)⟩⟩
theorem rd_blk : Rd blkO blkR := ⟨fun ⟨v, h0, h1, h2, h3, h4, h5⟩ => ⟨v, h0, h1, h2, h3, h4, h5.sl (rd_lf _)⟩⟩
theorem rd_fn : Rd fnO fnR := ⟨fun ⟨p, s, i, b, _, _, _, h0, h1, h2, _, _, _, _, q1, q2, q3, q4⟩ => ⟨p, s, i, b, h0, h1, h2, q1.sl (rd_lf _), q2.sl (rd_lf _), q3.sl rd_ins, q4.sl rd_blk⟩⟩
theorem rd_pg : Rd pgO pgR := ⟨fun ⟨s, g, f, _, _, h0, _, _, _, q1, q2, q3⟩ => ⟨s, g, f, h0, q1.sl rd_st, q2.sl (rd_lf _), q3.sl rd_fn⟩⟩

/-- An element's cells: how many, each of one cell. -/
structure Cz {α : Type} (R : Rdr α) (c : Nat) : Prop where
  len : ∀ {w cs x}, R w cs x → cs.length = c
  one : ∀ {w cs x}, R w cs x → ∀ v ∈ cs, v.oneCell' = true
theorem cz_int : Cz intR 1 := ⟨fun h => by rw [h.1]; rfl, fun h v hv => by rw [h.1] at hv; simp at hv; rw [hv]; rfl⟩
theorem cz_str : Cz strR 1 := ⟨fun h => by rw [h.1]; rfl, fun h v hv => by rw [h.1] at hv; simp at hv; rw [hv]; rfl⟩
theorem cz_fd : Cz fdR 2 := ⟨fun h => by rw [h.1]; rfl, fun h v hv => by rw [h.1] at hv; simp at hv; rcases hv with e | e <;> rw [e] <;> rfl⟩
theorem cz_st : Cz stR 2 := ⟨fun ⟨v, h, _⟩ => by rw [h]; rfl, fun ⟨u, h, _, ⟨A, k, e1, _⟩⟩ v hv => by rw [h] at hv; simp at hv; rcases hv with e | e <;> rw [e]; rfl; rw [e1]; rfl⟩
theorem cz_ins : Cz insR 5 := ⟨fun ⟨v, h, _⟩ => by rw [h]; rfl, fun ⟨u, h, _, _, _, _, ⟨A, k, e1, _⟩⟩ v hv => by rw [h] at hv; simp at hv; rcases hv with e | e | e | e | e <;> rw [e] <;> first | rfl | (rw [e1]; rfl)⟩
theorem cz_blk : Cz blkR 5 := ⟨fun ⟨v, h, _⟩ => by rw [h]; rfl, fun ⟨u, h, _, _, _, _, ⟨A, k, e1, _⟩⟩ v hv => by rw [h] at hv; simp at hv; rcases hv with e | e | e | e | e <;> rw [e] <;> first | rfl | (rw [e1]; rfl)⟩
theorem cz_fn : Cz fnR 6 := ⟨fun ⟨p, s, i, b, h, _⟩ => by rw [h]; rfl, fun ⟨p, s, i, b, h, _, _, ⟨_, _, e1, _⟩, ⟨_, _, e2, _⟩, ⟨_, _, e3, _⟩, ⟨_, _, e4, _⟩⟩ v hv => by rw [h] at hv; simp at hv; rcases hv with e | e | e | e | e | e <;> rw [e] <;> first | rfl | (rw [e1]; rfl) | (rw [e2]; rfl) | (rw [e3]; rfl) | (rw [e4]; rfl)⟩
/-- A row's cells, one after the other. -/
def Flat {α : Type} (c : Nat) (R : Rdr α) (w : World) (l : List α) (FL : List Value) : Prop :=
  FL.length = l.length * c ∧ (∀ v ∈ FL, v.oneCell' = true) ∧ ∀ i x, l[i]? = some x → ∃ cs, R w cs x ∧ Sg FL.toArray (i * c) cs
theorem flat_of {α : Type} {c : Nat} {R : Rdr α} (hz : Cz R c) {w : World} {A : Option Addr} {l : List α} (h : SL c R w A l) : ∃ FL, Flat c R w l FL ∧ (0 < l.length → ∃ b o, A = some ⟨b, o, none⟩ ∧ b < w.heap.size ∧ ∀ j v, FL[j]? = some v → w.cell? ⟨b, o + j, none⟩ = some v) := by
  rcases Nat.eq_zero_or_pos l.length with h0 | h0
  · refine ⟨[], ⟨by rw [h0, Nat.zero_mul]; rfl, ?_, fun i x hx => by rw [List.length_eq_zero_iff.1 h0] at hx; simp at hx⟩, fun h => by omega⟩
    intro v hv; simp at hv
  · obtain ⟨b, o, hA, hb, hc⟩ := h h0
    have key : ∀ j, j < l.length * c → ∃ v, v.oneCell' = true ∧ w.cell? ⟨b, o + j, none⟩ = some v := by
      intro j hj
      have hcp : 0 < c := by rcases Nat.eq_zero_or_pos c with h | h; (rw [h] at hj; simp at hj); exact h
      have hil : j / c < l.length := Nat.div_lt_of_lt_mul (by rw [Nat.mul_comm]; exact hj)
      obtain ⟨cs, hr, hcs⟩ := hc (j / c) _ (List.getElem?_eq_getElem hil)
      have hkl : j % c < cs.length := by rw [hz.len hr]; exact Nat.mod_lt _ hcp
      have hj' : o + j / c * c + j % c = o + j := by have := Nat.div_add_mod j c; rw [Nat.mul_comm] at this; omega
      refine ⟨cs[j % c], hz.one hr _ (List.getElem_mem hkl), ?_⟩
      rw [← hj']
      exact hcs _ _ (List.getElem?_eq_getElem hkl)
    refine ⟨(List.range (l.length * c)).map fun j => (w.cell? ⟨b, o + j, none⟩).getD undef, ⟨by simp, ?_, ?_⟩, fun _ => ⟨b, o, hA, hb, ?_⟩⟩
    · intro v hv
      obtain ⟨j, hj, rfl⟩ := List.mem_map.1 hv
      obtain ⟨v, h1, h2⟩ := key j (List.mem_range.1 hj)
      rw [h2]; exact h1
    · intro i x hx
      obtain ⟨cs, hr, hcs⟩ := hc i x hx
      refine ⟨cs, hr, fun k v hv => ?_⟩
      have hil := (List.getElem?_eq_some_iff.1 hx).1
      have hkc : k < c := by rw [← hz.len hr]; exact (List.getElem?_eq_some_iff.1 hv).1
      have hlt : i * c + k < l.length * c := Nat.lt_of_lt_of_le (show i * c + k < (i + 1) * c by rw [Nat.succ_mul]; omega) (Nat.mul_le_mul_right c hil)
      rw [List.getElem?_toArray, List.getElem?_map, List.getElem?_range hlt, Option.map_some, ← Nat.add_assoc, hcs k v hv]; rfl
    · intro j v hv
      rw [List.getElem?_map] at hv
      have hj : j < l.length * c := by
        rcases Nat.lt_or_ge j (l.length * c) with h | h
        · exact h
        · rw [List.getElem?_eq_none (by simpa using h)] at hv; cases hv
      rw [List.getElem?_range hj, Option.map_some] at hv
      obtain ⟨u, -, h2⟩ := key j hj
      rw [h2] at hv ⊢
      exact hv

/-- copy onto a row just made, of as many elements. -/
theorem wpList_copy_made {P : Program} {w : World} {ops : Array Oper} {rest : List Oper} {o : Oper} {a : Act} {Q : Exit → Act → World → Prop} (hgd : o.guard = none) (d s : Operand) (dT sT : TypeId)
    (ho : o.op = .call { callee := .builtin .copy, args := #[d, s], argTypes := #[dT, sT] }) (elem : TypeId) (c : Nat) (hu : P.underlying dT = some (.slice elem)) (hsz : (P.info? elem).map (·.size) = some c)
    (g n dCap : Nat) (sp : Option Addr) (sCap : Nat) (hd : a.eval d = .slice (some ⟨g, 0, none⟩) n dCap) (hs : a.eval s = .slice sp n sCap)
    (cur : Array Value) (t : TypeId) (hg : w.heap[g]? = some (.cells cur t (0, 0))) (hcur : cur.size = n * c) (cs : List Value) (hn : cs.length = n * c)
    (hsrc : 0 < n → ∃ ad, sp = some ad ∧ ∀ j v, cs[j]? = some v → w.cell? (ad.add j) = some v) (h1 : ∀ v ∈ cs, v.oneCell' = true)
    (h : wpList P ops Q rest (a.put o.dst (goInt n)) (w.setRow g cs.toArray)) : wpList P ops Q (o :: rest) a w := by
  refine wpList_plain hgd fun K hK => ?_
  have hrun : (Builtin.copy_ #[dT, sT] o.type #[.slice (some ⟨g, 0, none⟩) n dCap, .slice sp n sCap]).run P w = .ok (goInt n) (w.setRow g cs.toArray) := by
    have hst := run_storeCells_at P g 0 t cs 0 cur w hg (by omega) h1
    have e1 : (cur.toList.take (0 + 0) ++ cs ++ cur.toList.drop (0 + 0 + cs.length)).toArray = cs.toArray := by
      rw [List.drop_eq_nil_of_le (by rw [Array.length_toList]; omega)]; simp
    rw [e1] at hst
    cases hq : P.info? elem with
    | none => simp [hq] at hsz
    | some i =>
      have hi : i.size = c := by simpa [hq] using hsz
      have hm : Nat.min n n = n := Nat.min_self n
      rcases Nat.eq_zero_or_pos n with h0 | h0
      · subst h0
        obtain rfl : cs = [] := List.eq_nil_of_length_eq_zero (by omega)
        have hl : ∀ (x : Addr), (loadCells x 0).run P w = .ok #[] w := fun x => by simpa using run_loadCells_list (P := P) w x [] (by simp)
        cases sp with
        | none => simp [Builtin.copy_, run_underlying hu, Builtin.lenOf, Builtin.firstCells, sizeOf, typeInfo, hq, hst]
        | some x => simp [Builtin.copy_, run_underlying hu, Builtin.lenOf, Builtin.firstCells, sizeOf, typeInfo, hq, hl, hst]
      · obtain ⟨ad, rfl, hc⟩ := hsrc h0
        have hl := run_loadCells_list (P := P) w ad cs hc
        rw [hn] at hl
        simp [Builtin.copy_, run_underlying hu, Builtin.lenOf, Builtin.firstCells, sizeOf, typeInfo, hq, hi, hm, hl, hst]
  unfold Oper.wp
  simp [execOp, ho, resolve, invoke, builtin, hd, hs, hrun, Result.andThen]
  exact hK _ _ h

end Go.Proofs.YtcbjcpmkebbfaaaDoor
