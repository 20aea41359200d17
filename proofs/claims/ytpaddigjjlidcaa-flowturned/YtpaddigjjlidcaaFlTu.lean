/-
  PLAIN AND MEMORY: a function with another end of one block; its rows copied. No condition.
-/
import Derived.Test.YtpaddigjjlidcaaFlAwk
import Derived.Laws.Tables
namespace Go.Proofs.Ytpaddigjjlidcaa
open Go.RowKit

theorem turn_k (n : Int) (m : Nat) (h0 : 0 < m) (hm : m ≤ 1000000) : ∃ k : Nat, k < m ∧ wrap64 ((IntKind.u64.wrap n).tmod (m : Int)) = (k : Int) := by
  have hu : IntKind.u64.wrap n = n % 18446744073709551616 := by simp [IntKind.wrap, IntKind.bits, IntKind.signed]
  rw [hu, Int.tmod_eq_emod_of_nonneg (by omega)]
  have h1 := Int.emod_nonneg (n % 18446744073709551616) (show (m : Int) ≠ 0 by omega)
  have h2 := Int.emod_lt_of_pos (n % 18446744073709551616) (show 0 < (m : Int) by omega)
  exact ⟨(n % 18446744073709551616 % (m : Int)).toNat, by omega, by unfold wrap64; omega⟩
def turnB (x : Blk) : Blk := { x with jump := 3 }
theorem turn_other {bl : List Blk} {k i : Nat} {x : Blk} (h : i ≠ k) : nextL (bl.set k (turnB x)) i = nextL bl i := by
  unfold nextL
  rw [if_neg (show ¬ (i : Int) < 0 by omega), if_neg (show ¬ (i : Int) < 0 by omega), Int.toNat_natCast, List.getElem?_set, if_neg (show ¬ k = i from fun e => h e.symm), List.length_set]
theorem turn_self {bl : List Blk} {k : Nat} {x : Blk} (h : k < bl.length) : nextL (bl.set k (turnB x)) k = [] := by
  unfold nextL
  rw [if_neg (by omega), Int.toNat_natCast, List.getElem?_set, if_pos rfl, if_pos h]
  simp [nextB, to0, to1, turnB]
theorem ahead_turn {bl : List Blk} {i : Nat} (h : i < bl.length) (x : Int) : hasJ (aheadL bl x) i = hasJ (nextL bl i) x := by
  rw [Bool.eq_iff_iff, hasJ_iff]
  unfold aheadL
  rw [ahead_mem]
  constructor
  · rintro ⟨j, -, e, h2⟩
    have : j = i := by omega
    rw [this] at h2; exact h2
  · intro h2; exact ⟨i, h, rfl, h2⟩
/-- How many of the first x a row has. -/
def cntTo (l : List Int) (x : Nat) : Nat := ((List.range x).filter fun (y : Nat) => hasJ l (y : Int)).length
theorem cnt_up (l : List Int) (x : Nat) : cntTo l (x + 1) = cntTo l x + cond (hasJ l (x : Int)) 1 0 := by
  unfold cntTo
  rw [List.range_succ, List.filter_append, List.length_append, List.filter_cons]
  cases hasJ l (x : Int) <;> simp
theorem cnt_le (l : List Int) (x : Nat) : cntTo l x ≤ x := by
  unfold cntTo
  exact Nat.le_trans (List.length_filter_le _ _) (by simp)
theorem cnt_all {l : List Int} {m : Nat} (hn : l.Nodup) (hi : ∀ x ∈ l, 0 ≤ x ∧ x < m) : cntTo l m = l.length := by
  have e : srt l = ((List.range m).filter fun (y : Nat) => hasJ l (y : Int)).map (fun (k : Nat) => (k : Int)) := by
    apply srt_eq
    · exact srt_lt hn
    · rw [List.pairwise_map]
      exact (List.pairwise_lt_range.filter _).imp (fun h => by omega)
    · intro x
      rw [srt_mem, List.mem_map]
      constructor
      · intro h1
        have h3 := hi x h1
        refine ⟨x.toNat, List.mem_filter.2 ⟨List.mem_range.2 (by omega), ?_⟩, by omega⟩
        rw [Int.toNat_of_nonneg h3.1]
        exact hasJ_iff.2 h1
      · rintro ⟨k, h1, rfl⟩
        exact hasJ_iff.1 (List.mem_filter.1 h1).2
  have h := congrArg List.length e
  rw [List.length_map] at h
  unfold cntTo
  rw [← h]
  unfold srt
  rw [List.length_mergeSort]

/-! Memory. -/
def blkCells (w : World) (g o n : Nat) : List Value := (List.range (n * 5)).map fun j => (w.cell? ⟨g, o + j, none⟩).getD undef
theorem blkCells_len (w : World) (g o n : Nat) : (blkCells w g o n).length = n * 5 := by unfold blkCells; rw [List.length_map, List.length_range]
theorem blkCells_get {w : World} {g o n j : Nat} {u : Value} (hj : j < n * 5) (h : w.cell? ⟨g, o + j, none⟩ = some u) : (blkCells w g o n)[j]? = some u := by
  unfold blkCells
  rw [List.getElem?_map, List.getElem?_range hj, Option.map_some, h]; rfl
theorem blk_cells {w : World} {g o m : Nat} {bl : List Blk} (h : SL 5 blkR w (some ⟨g, o, none⟩) bl) (hm : bl.length = m) : ∀ j, j < m * 5 → ∃ u, w.cell? ⟨g, o + j, none⟩ = some u ∧ u.oneCell' = true := fun j hj => by
  obtain ⟨x, hx⟩ : ∃ x, bl[j / 5]? = some x := ⟨_, List.getElem?_eq_getElem (by omega)⟩
  obtain ⟨cs, ⟨v, rfl, i1, i2, i3, i4, ⟨lA, lc, rfl, -⟩⟩, h0⟩ := h.at hx
  have e : o + j = o + j / 5 * 5 + j % 5 := by omega
  rw [e]
  have h5 : j % 5 < 5 := by omega
  generalize j % 5 = r at *
  match r, h5 with
  | 0, _ => exact ⟨_, h0 0 _ rfl, rfl⟩
  | 1, _ => exact ⟨_, h0 1 _ rfl, rfl⟩
  | 2, _ => exact ⟨_, h0 2 _ rfl, rfl⟩
  | 3, _ => exact ⟨_, h0 3 _ rfl, rfl⟩
  | 4, _ => exact ⟨_, h0 4 _ rfl, rfl⟩
theorem blk_of {w : World} {base gb cap m : Nat} {xs : List Value} {bl : List Blk} (h : w.ownsRow base 40 5 (.slice (some ⟨gb, 0, none⟩) m cap) m xs) (hm : bl.length = m)
    (hc : ∀ i x, bl[i]? = some x → ∃ cs, cs.length = 5 ∧ blkR w cs x ∧ ∀ j v, cs[j]? = some v → xs[i * 5 + j]? = some v) : SL 5 blkR w (some ⟨gb, 0, none⟩) bl := fun _ => by
  refine ⟨gb, 0, rfl, (h.lt gb rfl).2, fun i x hx => ?_⟩
  obtain ⟨cs, hl, hr, hv⟩ := hc i x hx
  refine ⟨cs, hr, fun j v hj => ?_⟩
  have hi := (List.getElem?_eq_some_iff.1 hx).1
  have hj5 := (List.getElem?_eq_some_iff.1 hj).1
  rw [Nat.zero_add, World.ownsRow.cellAt h (i * 5 + j) (by omega)]
  exact hv j v hj
/-- The copied row with another end of block k. -/
theorem blk_turned {w wd : World} {g o base gb cap m k : Nat} {bl : List Blk} {x : Blk} (hS : SL 5 blkR w (some ⟨g, o, none⟩) bl) (hm : bl.length = m) (hx : bl[k]? = some x) (hb : Below w.heap.size w wd) (hg : w.heap.size ≤ gb)
    (h : wd.ownsRow base 40 5 (.slice (some ⟨gb, 0, none⟩) m cap) m (blkCells w g o m)) : SL 5 blkR (wd.setCell ⟨gb, k * 5 + 1, none⟩ (.int .i64 3)) (some ⟨gb, 0, none⟩) (bl.set k (turnB x)) := by
  have h2 := (h.stored (k * 5 + 1) (.int .i64 3)).1
  have hb2 : Below w.heap.size w (wd.setCell ⟨gb, k * 5 + 1, none⟩ (.int .i64 3)) := hb.setCell (p := ⟨gb, k * 5 + 1, none⟩) hg _
  refine blk_of h2 (by rw [List.length_set]; exact hm) (fun i y hy => ?_)
  have hkl := (List.getElem?_eq_some_iff.1 hx).1
  have hil : i < bl.length := by have := (List.getElem?_eq_some_iff.1 hy).1; rwa [List.length_set] at this
  rw [List.getElem?_set] at hy
  by_cases e : k = i
  · subst e
    rw [if_pos rfl, if_pos hkl] at hy
    obtain rfl := Option.some.inj hy
    obtain ⟨cs, ⟨v, rfl, i1, i2, i3, i4, hs⟩, h0⟩ := hS.at hx
    refine ⟨[v, .int .i64 3, .int .i64 x.arg, .int .i64 x.t0, .int .i64 x.t1], rfl, ⟨v, rfl, ⟨by show (-9223372036854775808 : Int) ≤ 3; decide, by show (3 : Int) ≤ 9223372036854775807; decide⟩, i2, i3, i4, hs.below kp_int hb2 (Nat.le_refl _)⟩, fun j u hj => ?_⟩
    have hj5 : j < 5 := by have := (List.getElem?_eq_some_iff.1 hj).1; simpa using this
    rw [List.getElem?_set]
    by_cases e1 : k * 5 + 1 = k * 5 + j
    · have e1 : j = 1 := by omega
      subst e1
      rw [if_pos rfl, if_pos (by rw [blkCells_len]; omega)]
      exact hj
    · rw [if_neg e1]
      refine blkCells_get (by omega) ?_
      have hj1 : j ≠ 1 := by omega
      rw [← Nat.add_assoc]
      match j, hj, hj1, hj5 with
      | 0, hj, _, _ => obtain rfl := Option.some.inj hj; exact h0 0 _ rfl
      | 2, hj, _, _ => obtain rfl := Option.some.inj hj; exact h0 2 _ rfl
      | 3, hj, _, _ => obtain rfl := Option.some.inj hj; exact h0 3 _ rfl
      | 4, hj, _, _ => obtain rfl := Option.some.inj hj; exact h0 4 _ rfl
      | 1, _, h, _ => exact absurd rfl h
  · rw [if_neg e] at hy
    obtain ⟨cs, hr, h0⟩ := hS.at hy
    have hr2 := kp_blk.on hr hb2 (Nat.le_refl _)
    obtain ⟨v, rfl, -⟩ := hr
    refine ⟨_, rfl, hr2, fun j u hj => ?_⟩
    have hj5 : j < 5 := by have := (List.getElem?_eq_some_iff.1 hj).1; simpa using this
    rw [List.getElem?_set, if_neg (by omega)]
    refine blkCells_get (by omega) ?_
    rw [← Nat.add_assoc]
    exact h0 j u hj
theorem blk_info : (Try.prog.info? 40).map (fun i => (i.zero, i.size, i.bytes)) = some (some (.agg #[.slice none 0 0, .int .i64 0, .int .i64 0, .int .i64 0, .int .i64 0]), 5, 56) := by kernel_rfl
/-- A row of blocks behind an empty one. -/
theorem wp_app_blk {o : Oper} {a : Act} {K : Act → World → Prop} {Q : Exit → Act → World → Prop} (s x : Operand)
    (ho : o.op = .call { callee := .builtin .append, args := #[s, x], argTypes := #[24, 24] }) (w0 w : World) (base : Nat) (v : Value) (hs : a.eval s = v) (hO : w.ownsRow base 40 5 v 0 []) (g o' n c : Nat) (hx : a.eval x = .slice (some ⟨g, o', none⟩) n c)
    (hc : ∀ j, j < n * 5 → ∃ u, w0.cell? ⟨g, o' + j, none⟩ = some u ∧ u.oneCell' = true) (hb0 : Below w0.heap.size w0 w) (hn : 0 < n) (hn2 : n ≤ 1000000) (hb : base ≤ w.heap.size)
    (h : ∀ g3 cap w', w'.ownsRow base 40 5 (.slice (some ⟨g3, 0, none⟩) n cap) n (blkCells w0 g o' n) → Sv (Ow v) w w' → (Ow v g3 ∨ g3 = w.heap.size) → K (a.put o.dst (.slice (some ⟨g3, 0, none⟩) n cap)) w') :
    Oper.wp Try.prog o a w K Q := by
  obtain ⟨i0, hi0, hz0, hz1, hz2⟩ := info_parts blk_info
  refine wp_append_lies w s x 24 ho base 40 i0 _ 5 56 Try.underlying24 hi0 hz0 hz1 hz2 rfl (by omega) v 0 [] hs hO ⟨g, o', none⟩ n c (blkCells w0 g o' n) hx (blkCells_len _ _ _ _) (fun j u hu => ?_) (fun u hu => ?_) hn (by simp only [maxLen]; omega) (by omega) hb _ rfl ?_
  · have hj : j < n * 5 := by have := (List.getElem?_eq_some_iff.1 hu).1; rwa [blkCells_len] at this
    obtain ⟨u2, h2, -⟩ := hc j hj
    rw [blkCells_get hj h2] at hu
    obtain rfl := Option.some.inj hu
    rw [show (⟨g, o', none⟩ : Addr).add j = ⟨g, o' + j, none⟩ from by unfold Addr.add; split <;> simp_all]
    exact keepB h2 hb0
  · obtain ⟨j, hj, rfl⟩ := List.mem_iff_getElem.1 hu
    rw [blkCells_len] at hj
    obtain ⟨u2, h2, h3⟩ := hc j hj
    have h4 := blkCells_get hj h2
    obtain ⟨p, e⟩ := List.getElem?_eq_some_iff.1 h4
    rw [e]; exact h3
  · intro g3 cap w' hown hg hat hlt
    have := h g3 cap w' (by rw [List.nil_append, Nat.zero_add] at hown; exact hown) ((Sv.refl (Ow v) w).grown hg (fun k hk => .inl hk)) hat
    rw [Nat.zero_add]
    exact this
/-- The same world. -/
def Sm (a b : World) : Prop := a = b
def funZ : Array Value := #[.string ⟨#[]⟩, .slice none 0 0, .string ⟨#[]⟩, .slice none 0 0, .slice none 0 0, .slice none 0 0]
theorem Sv.setRow {P : Nat → Prop} {a w : World} (h : Sv P a w) {g : Nat} (hp : P g ∨ a.heap.size ≤ g) (cs : Array Value) : Sv P a (w.setRow g cs) :=
  h.trans (Q := fun k => k = g) ⟨rfl, rfl, rfl, by simp, fun k _ hk => setRow_other w g k cs hk⟩ (fun i hi => hi ▸ hp)
/-- What is there behind the copy. -/
structure TF (w4 wd : World) (m : Nat) (xs : List Value) (ic : Value) (vb gb cap : Nat) : Prop where
  bel : Below w4.heap.size w4 wd
  vlo : w4.heap.size ≤ vb
  glo : w4.heap.size ≤ gb
  ne : vb ≠ gb
  var : wd.heap[vb]? = some (.cells #[.string ⟨#[]⟩, .slice none 0 0, .string ⟨#[]⟩, .slice none 0 0, ic, .slice (some ⟨gb, 0, none⟩) m cap] 26 (0, 0))
  row : wd.ownsRow w4.heap.size 40 5 (.slice (some ⟨gb, 0, none⟩) m cap) m xs
theorem tf_of {w4 w' : World} {m vb gb cap : Nat} {xs : List Value} {ic : Value} (hb : Below w4.heap.size w4 w') (hv : w'.heap[vb]? = some (.cells funZ 26 (0, 0))) (hown : w'.ownsRow w4.heap.size 40 5 (.slice (some ⟨gb, 0, none⟩) m cap) m xs) (hvb : w4.heap.size ≤ vb) (hne : vb ≠ gb) :
    TF w4 (w'.setRow vb #[.string ⟨#[]⟩, .slice none 0 0, .string ⟨#[]⟩, .slice none 0 0, ic, .slice (some ⟨gb, 0, none⟩) m cap]) m xs ic vb gb cap := by
  have hS := (Sv.refl (fun k => k = vb) w').setRow (.inl rfl) #[.string ⟨#[]⟩, .slice none 0 0, .string ⟨#[]⟩, .slice none 0 0, ic, .slice (some ⟨gb, 0, none⟩) m cap]
  refine ⟨hb.trans (hS.below (fun i hi => by omega) hb.size), hvb, (hown.lt gb rfl).1, hne, setRow_heap w' vb _ _ 26 _ hv, own_sv hown hS (fun k hk e => ?_)⟩
  have e2 : some gb = some k := hk
  obtain rfl := Option.some.inj e2
  exact hne e.symm
end Go.Proofs.Ytpaddigjjlidcaa
