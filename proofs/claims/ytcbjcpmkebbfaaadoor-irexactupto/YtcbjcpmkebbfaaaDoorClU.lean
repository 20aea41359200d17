/-
  MEMORY: one number set in a program that lies in memory of its own: in an instruction, a block, a row of arguments, a block's list. No condition.
-/
import Derived.Test.YtcbjcpmkebbfaaaDoorClPg
namespace Go.Proofs.YtcbjcpmkebbfaaaDoor
open Go.RowKit

/-- All blocks from lo to hi but those from a to b are as they were. -/
def Bx (lo hi a b : Nat) (w w' : World) : Prop := w.heap.size ≤ w'.heap.size ∧ ∀ k, lo ≤ k → k < hi → ¬ (a ≤ k ∧ k < b) → w'.heap[k]? = w.heap[k]?
theorem Bx.sub {lo hi a b lo' hi' : Nat} {w w' : World} (h : Bx lo hi a b w w') (h1 : lo ≤ lo') (h2 : hi' ≤ hi) : Bx lo' hi' a b w w' := ⟨h.1, fun k q1 q2 q3 => h.2 k (by omega) (by omega) q3⟩
theorem Bx.grow {lo hi a b a' b' : Nat} {w w' : World} (h : Bx lo hi a b w w') (h1 : a' ≤ a) (h2 : b ≤ b') : Bx lo hi a' b' w w' := ⟨h.1, fun k q1 q2 q3 => h.2 k q1 q2 (fun q => q3 (by omega))⟩
theorem Bx.bt {lo hi a b lo' hi' : Nat} {w w' : World} (h : Bx lo hi a b w w') (h1 : lo ≤ lo') (h2 : hi' ≤ hi) (h3 : hi' ≤ a ∨ b ≤ lo') : Bt lo' hi' w w' := ⟨h.1, fun k q1 q2 => h.2 k (by omega) (by omega) (by omega)⟩
theorem bx_set {lo hi a b : Nat} {w : World} {p : Addr} {v : Value} (h : a ≤ p.block ∧ p.block < b) : Bx lo hi a b w (w.setCell p v) := ⟨by simp [World.setCell], fun k _ _ q => heap_setCell_other w p k v (fun e => q (e ▸ h))⟩
theorem Bx.refl (lo hi a b : Nat) (w : World) : Bx lo hi a b w w := ⟨Nat.le_refl _, fun _ _ _ _ => rfl⟩

structure Elt {α : Type} (c : Nat) (O : ORdr α) (w : World) (lo hi : Nat) (v : Value) (l : List α) (i : Nat) (x : α) (g K b0 b1 : Nat) (cs : List Value) : Prop where
  val : v = .slice (some ⟨g, 0, none⟩) l.length K
  le : l.length ≤ K
  glo : lo ≤ g
  gb : g < b0
  ab : b0 ≤ b1
  bh : b1 ≤ hi
  cell : ∀ j u, cs[j]? = some u → w.cell? ⟨g, i * c + j, none⟩ = some u
  free : ∀ j, w.frozen? ⟨g, j, none⟩ = false
  gl : g < w.heap.size
  own : O w b0 b1 cs x
  inn : ∀ w' x', Bx lo hi b0 b1 w w' → O w' b0 b1 cs x' → oR c O w' lo hi v (l.set i x')
  put : ∀ j u x', j < c → O w b0 b1 (cs.set j u) x' → oR c O (w.setCell ⟨g, i * c + j, none⟩ u) lo hi v (l.set i x')
theorem oR_at {α : Type} {c : Nat} {O : ORdr α} (hO : Kpo O) (hlen : ∀ {w lo hi cs x}, O w lo hi cs x → cs.length = c) {w : World} {lo hi : Nat} {v : Value} {l : List α} {i : Nat} {x : α} (h : oR c O w lo hi v l) (hx : l[i]? = some x) :
    ∃ g K b0 b1 cs, Elt c O w lo hi v l i x g K b0 b1 cs := by
  obtain ⟨A, K, rfl, hK, hl, hs⟩ := h
  have hi' := (List.getElem?_eq_some_iff.1 hx).1
  obtain ⟨g, t, cur, b, rfl, hg, h1, h2, h3, h4, h5⟩ := hs (Nat.lt_of_le_of_lt (Nat.zero_le _) hi')
  obtain ⟨cs, r, s⟩ := h5 i x hx
  have m0 := mono_upto h3 (Nat.zero_le i) (by omega)
  have m1 := mono_upto h3 (show i + 1 ≤ l.length from hi') (Nat.le_refl _)
  have mi := h3 i hi'
  refine ⟨g, K, b i, b (i + 1), cs, ⟨rfl, hK, h1, by omega, mi, by omega, fun j u hu => (cell_of_row w g _ cur t _ hg).trans (s j u hu), fun j => by simp [World.frozen?, hg], (Array.getElem?_eq_some_iff.1 hg).1, r, ?_, ?_⟩⟩
  · intro w' x' hb hr
    refine ⟨_, K, by rw [List.length_set], by rw [List.length_set]; exact hK, by rw [List.length_set]; exact hl, fun _ => ⟨g, t, cur, b, rfl, (hb.2 g h1 (by omega) (by omega)).trans hg, h1, h2, by rw [List.length_set]; exact h3, by rw [List.length_set]; exact h4, fun j y hy => ?_⟩⟩
    by_cases e : i = j
    · subst e
      rw [List.getElem?_set_self hi'] at hy
      obtain rfl := Option.some.inj hy
      exact ⟨cs, hr, s⟩
    · rw [List.getElem?_set_ne e] at hy
      obtain ⟨ds, r', s'⟩ := h5 j y hy
      have hj := (List.getElem?_eq_some_iff.1 hy).1
      have q0 := mono_upto h3 (Nat.zero_le j) (by omega)
      have q1 := mono_upto h3 (show j + 1 ≤ l.length from hj) (Nat.le_refl _)
      refine ⟨ds, hO.on r' (hb.bt (by omega) (by omega) ?_), s'⟩
      rcases Nat.lt_or_gt_of_ne e with z | z
      · right; exact mono_upto h3 (show i + 1 ≤ j from z) (by omega)
      · left; exact mono_upto h3 (show j + 1 ≤ i from z) (by omega)
  · intro j u x' hj hr
    have hcl := hlen r
    have hb : Bt (b 0) (b l.length) w (w.setCell ⟨g, i * c + j, none⟩ u) := ⟨by simp [World.setCell], fun k q1 q2 => heap_setCell_other w _ k u (show k ≠ g by omega)⟩
    refine ⟨_, K, by rw [List.length_set], by rw [List.length_set]; exact hK, by rw [List.length_set]; exact hl, fun _ => ⟨g, t, cur.setIfInBounds (i * c + j) u, b, rfl, heap_setCell_same w g _ cur t u hg, h1, h2, by rw [List.length_set]; exact h3, by rw [List.length_set]; exact h4, fun q y hy => ?_⟩⟩
    have sub : ∀ n, n < l.length → Bt (b n) (b (n + 1)) w (w.setCell ⟨g, i * c + j, none⟩ u) := fun n hn => hb.sub (mono_upto h3 (Nat.zero_le n) (by omega)) (mono_upto h3 (show n + 1 ≤ l.length from hn) (Nat.le_refl _))
    by_cases e : i = q
    · subst e
      rw [List.getElem?_set_self hi'] at hy
      obtain rfl := Option.some.inj hy
      refine ⟨cs.set j u, hO.on hr (sub i hi'), fun k z hz => ?_⟩
      rw [Array.getElem?_setIfInBounds]
      by_cases ek : j = k
      · subst ek
        rw [List.getElem?_set_self (by omega)] at hz
        obtain rfl := Option.some.inj hz
        rw [if_pos rfl, if_pos]
        have := s j _ (List.getElem?_eq_getElem (by omega : j < cs.length))
        exact (Array.getElem?_eq_some_iff.1 this).1
      · rw [List.getElem?_set_ne ek] at hz
        rw [if_neg (by omega)]
        exact s k z hz
    · rw [List.getElem?_set_ne e] at hy
      obtain ⟨ds, r', s'⟩ := h5 q y hy
      have hq := (List.getElem?_eq_some_iff.1 hy).1
      refine ⟨ds, hO.on r' (sub q hq), fun k z hz => ?_⟩
      have hkc : k < c := by rw [← hlen r']; exact (List.getElem?_eq_some_iff.1 hz).1
      rw [Array.getElem?_setIfInBounds, if_neg]
      · exact s' k z hz
      · rcases Nat.lt_or_gt_of_ne e with z | z
        · have := Nat.mul_le_mul_right c (show i + 1 ≤ q from z)
          rw [Nat.succ_mul] at this; omega
        · have := Nat.mul_le_mul_right c (show q + 1 ≤ i from z)
          rw [Nat.succ_mul] at this; omega

/-! The parts of a program, and how they are put back. -/
theorem pg_funs {w : World} {lo hi : Nat} {cs : List Value} {p : Pg} (h : pgO w lo hi cs p) : ∃ s g v a b, cs = [s, g, v] ∧ oR 6 fnO w a b v p.funs ∧ lo ≤ a ∧ b ≤ hi ∧ ∀ w' l', Bx lo hi a b w w' → oR 6 fnO w' a b v l' → pgO w' lo hi cs { p with funs := l' } := by
  obtain ⟨s, g, f, m1, m2, rfl, h1, h2, h3, q1, q2, q3⟩ := h
  exact ⟨s, g, f, m2, hi, rfl, q3, by omega, Nat.le_refl _, fun w' l' hb hr => ⟨s, g, f, m1, m2, rfl, h1, h2, h3, q1.on kpo_st (hb.bt (by omega) (by omega) (by omega)), q2.on kpo_fd (hb.bt (by omega) (by omega) (by omega)), hr⟩⟩
theorem fn_ins {w : World} {lo hi : Nat} {cs : List Value} {f : Fn} (h : fnO w lo hi cs f) : ∃ v a b, cs[4]? = some v ∧ oR 5 insO w a b v f.ins ∧ lo ≤ a ∧ b ≤ hi ∧ ∀ w' l', Bx lo hi a b w w' → oR 5 insO w' a b v l' → fnO w' lo hi cs { f with ins := l' } := by
  obtain ⟨p, s, i, b, m1, m2, m3, rfl, h1, h2, h3, h4, h5, h6, q1, q2, q3, q4⟩ := h
  exact ⟨i, m2, m3, rfl, q3, by omega, by omega, fun w' l' hb hr => ⟨p, s, i, b, m1, m2, m3, rfl, h1, h2, h3, h4, h5, h6, q1.on kpo_str (hb.bt (by omega) (by omega) (by omega)), q2.on kpo_str (hb.bt (by omega) (by omega) (by omega)), hr, q4.on kpo_blk (hb.bt (by omega) (by omega) (by omega))⟩⟩
theorem fn_blk {w : World} {lo hi : Nat} {cs : List Value} {f : Fn} (h : fnO w lo hi cs f) : ∃ v a b, cs[5]? = some v ∧ oR 5 blkO w a b v f.blocks ∧ lo ≤ a ∧ b ≤ hi ∧ ∀ w' l', Bx lo hi a b w w' → oR 5 blkO w' a b v l' → fnO w' lo hi cs { f with blocks := l' } := by
  obtain ⟨p, s, i, b, m1, m2, m3, rfl, h1, h2, h3, h4, h5, h6, q1, q2, q3, q4⟩ := h
  exact ⟨b, m3, hi, rfl, q4, by omega, Nat.le_refl _, fun w' l' hb hr => ⟨p, s, i, b, m1, m2, m3, rfl, h1, h2, h3, h4, h5, h6, q1.on kpo_str (hb.bt (by omega) (by omega) (by omega)), q2.on kpo_str (hb.bt (by omega) (by omega) (by omega)), q3.on kpo_ins (hb.bt (by omega) (by omega) (by omega)), hr⟩⟩
theorem ins_args {w : World} {lo hi : Nat} {cs : List Value} {x : Ins} (h : insO w lo hi cs x) : ∃ v, cs[2]? = some v ∧ oR 1 (lf intR) w lo hi v x.args ∧ ∀ w' l', oR 1 (lf intR) w' lo hi v l' → insO w' lo hi cs { x with args := l' } := by
  obtain ⟨v, rfl, h1, h2, h3, h4, h5⟩ := h
  exact ⟨v, rfl, h5, fun w' l' hr => ⟨v, rfl, h1, h2, h3, h4, hr⟩⟩
theorem blk_list {w : World} {lo hi : Nat} {cs : List Value} {x : Blk} (h : blkO w lo hi cs x) : ∃ v, cs[0]? = some v ∧ oR 1 (lf intR) w lo hi v x.list ∧ ∀ w' l', oR 1 (lf intR) w' lo hi v l' → blkO w' lo hi cs { x with list := l' } := by
  obtain ⟨v, rfl, h1, h2, h3, h4, h5⟩ := h
  exact ⟨v, rfl, h5, fun w' l' hr => ⟨v, rfl, h1, h2, h3, h4, hr⟩⟩
theorem fn_len {w : World} {lo hi : Nat} {cs : List Value} {x : Fn} (h : fnO w lo hi cs x) : cs.length = 6 := by obtain ⟨_, _, _, _, _, _, _, rfl, _⟩ := h; rfl
theorem ins_len {w : World} {lo hi : Nat} {cs : List Value} {x : Ins} (h : insO w lo hi cs x) : cs.length = 5 := by obtain ⟨_, rfl, _⟩ := h; rfl
theorem blk_len {w : World} {lo hi : Nat} {cs : List Value} {x : Blk} (h : blkO w lo hi cs x) : cs.length = 5 := by obtain ⟨_, rfl, _⟩ := h; rfl
theorem int_len {w : World} {lo hi : Nat} {cs : List Value} {x : Int} (h : lf intR w lo hi cs x) : cs.length = 1 := by rw [h.1]; rfl

def Pg.setIns (p : Pg) (k i : Nat) (f : Fn) (x : Ins) : Pg := { p with funs := p.funs.set k { f with ins := f.ins.set i x } }
def Pg.setBlk (p : Pg) (k i : Nat) (f : Fn) (x : Blk) : Pg := { p with funs := p.funs.set k { f with blocks := f.blocks.set i x } }
/-- Where an instruction of a clone lies. -/
structure InsAt (w : World) (lo hi : Nat) (cs : List Value) (p : Pg) (k i : Nat) (f : Fn) (x : Ins) (gF KF gI KI : Nat) (vA : Value) : Prop where
  c2 : cs[2]? = some (.slice (some ⟨gF, 0, none⟩) p.funs.length KF)
  lf : p.funs.length ≤ KF
  ci : w.cell? ⟨gF, k * 6 + 4, none⟩ = some (.slice (some ⟨gI, 0, none⟩) f.ins.length KI)
  li : f.ins.length ≤ KI
  ca : w.cell? ⟨gI, i * 5 + 2, none⟩ = some vA
  cn : w.cell? ⟨gI, i * 5 + 3, none⟩ = some (.int .i64 x.n)
  fr : ∀ j, w.frozen? ⟨gI, j, none⟩ = false
  glo : lo ≤ gI ∧ gI < hi
  al : ∃ A K, vA = .slice A x.args.length K ∧ x.args.length ≤ K ∧ x.args.length ≤ 140737488351232
  inn : I64 x.n
  setN : ∀ u, I64 u → pgO (w.setCell ⟨gI, i * 5 + 3, none⟩ (.int .i64 u)) lo hi cs (p.setIns k i f { x with n := u })
  arg : ∀ m a, x.args[m]? = some a → I64 a ∧ ∃ gA KA, vA = .slice (some ⟨gA, 0, none⟩) x.args.length KA ∧ gA ≠ gI ∧ gA ≠ gF ∧ lo ≤ gA ∧ gA < hi ∧ gA < w.heap.size ∧ w.cell? ⟨gA, m, none⟩ = some (.int .i64 a) ∧ (∀ j, w.frozen? ⟨gA, j, none⟩ = false) ∧ ∀ u, I64 u → pgO (w.setCell ⟨gA, m, none⟩ (.int .i64 u)) lo hi cs (p.setIns k i f { x with args := x.args.set m u })
theorem ins_at {w : World} {lo hi : Nat} {cs : List Value} {p : Pg} {k i : Nat} {f : Fn} {x : Ins} (h : pgO w lo hi cs p) (hk : p.funs[k]? = some f) (hi' : f.ins[i]? = some x) : ∃ gF KF gI KI vA, InsAt w lo hi cs p k i f x gF KF gI KI vA := by
  obtain ⟨s, g, vF, a, b, rfl, hF, ha, hb, backP⟩ := pg_funs h
  obtain ⟨gF, KF, f0, f1, cf, hAF⟩ := oR_at kpo_fn fn_len hF hk
  obtain ⟨vI, a2, b2, hv4, hI, ha2, hb2, backF⟩ := fn_ins hAF.own
  obtain ⟨gI, KI, i0, i1, ci, hAI⟩ := oR_at kpo_ins ins_len hI hi'
  obtain ⟨vA, hv2, hA, backI⟩ := ins_args hAI.own
  have hv := hAF.val
  have hvI := hAI.val
  subst hv
  subst hvI
  have e1 := hAF.glo; have e2 := hAF.gb; have e3 := hAF.bh; have e4 := hAI.glo; have e5 := hAI.gb; have e6 := hAI.bh; have e7 := hAF.ab; have e8 := hAI.ab
  have hin := hAI.own
  obtain ⟨v', rfl, q1, q2, q3, q4, q5⟩ := hin
  obtain rfl : vA = v' := (Option.some.inj hv2).symm
  have up : ∀ w' x', Bx lo hi a2 b2 w w' → oR 5 insO w' a2 b2 (.slice (some ⟨gI, 0, none⟩) f.ins.length KI) (f.ins.set i x') → pgO w' lo hi [s, g, .slice (some ⟨gF, 0, none⟩) p.funs.length KF] (p.setIns k i f x') := fun w' x' hbx hr =>
    backP w' _ (hbx.grow (by omega) (by omega)) (hAF.inn w' _ ((hbx.grow (a' := f0) (b' := f1) (by omega) (by omega)).sub (by omega) (by omega)) (backF w' _ (hbx.sub (by omega) (by omega)) hr))
  have hAl : ∃ A K, vA = .slice A x.args.length K ∧ x.args.length ≤ K ∧ x.args.length ≤ 140737488351232 := by obtain ⟨A, K, z1, z2, z3, -⟩ := q5; exact ⟨A, K, z1, z2, z3⟩
  refine ⟨gF, KF, gI, KI, vA, ⟨rfl, hAF.le, hAF.cell 4 _ hv4, hAI.le, hAI.cell 2 _ rfl, hAI.cell 3 _ rfl, hAI.free, ⟨by omega, by omega⟩, hAl, q2, fun u hu => ?_, fun m y hm => ?_⟩⟩
  · refine up _ _ (bx_set (p := ⟨gI, i * 5 + 3, none⟩) (show a2 ≤ gI ∧ gI < b2 by omega)) (hAI.put 3 (.int .i64 u) _ (by omega) ?_)
    exact ⟨vA, rfl, q1, hu, q3, q4, q5⟩
  · obtain ⟨gA, KA, a0, a1, ca, hAA⟩ := oR_at kpo_int int_len hA hm
    have z1 := hAA.glo; have z2 := hAA.gb; have z3 := hAA.bh; have z4 := hAA.own; have z5 := hAA.ab
    have hcell := hAA.cell 0 (.int .i64 y) (by rw [z4.1]; rfl)
    rw [Nat.mul_one, Nat.add_zero] at hcell
    -- the row of arguments lies between i0 and i1
    have hne : gA < i1 := by
      rcases hA with ⟨A, K, h1, h2, h3, h4⟩
      obtain ⟨g', t', cur', b', hA', hg', l1, l2, l3, l4, -⟩ := h4 (Nat.lt_of_le_of_lt (Nat.zero_le _) (List.getElem?_eq_some_iff.1 hm).1)
      have m0 := mono_upto l3 (Nat.zero_le x.args.length) (Nat.le_refl _)
      have hv := hAA.val
      rw [hv] at h1
      injection h1 with h1
      rw [hA'] at h1
      injection h1 with h1
      injection h1 with h1
      omega
    refine ⟨z4.2, gA, KA, hAA.val, by omega, by omega, by omega, by omega, hAA.gl, hcell, hAA.free, fun u hu => ?_⟩
    refine up _ _ (bx_set (p := ⟨gA, m, none⟩) (show a2 ≤ gA ∧ gA < b2 by omega)) (hAI.inn _ _ (bx_set (p := ⟨gA, m, none⟩) (show i0 ≤ gA ∧ gA < i1 by omega)) (backI _ _ ?_))
    have := hAA.put 0 (.int .i64 u) u (by omega) (by rw [z4.1]; exact ⟨rfl, hu⟩)
    rw [Nat.mul_one, Nat.add_zero] at this
    exact this

/-- Where a block of a clone lies. -/
structure BlkAt (w : World) (lo hi : Nat) (cs : List Value) (p : Pg) (k i : Nat) (f : Fn) (x : Blk) (gF KF gI KI : Nat) (vA : Value) : Prop where
  c2 : cs[2]? = some (.slice (some ⟨gF, 0, none⟩) p.funs.length KF)
  lf : p.funs.length ≤ KF
  ci : w.cell? ⟨gF, k * 6 + 5, none⟩ = some (.slice (some ⟨gI, 0, none⟩) f.blocks.length KI)
  li : f.blocks.length ≤ KI
  ca : w.cell? ⟨gI, i * 5 + 0, none⟩ = some vA
  cn : w.cell? ⟨gI, i * 5 + 4, none⟩ = some (.int .i64 x.t1)
  fr : ∀ j, w.frozen? ⟨gI, j, none⟩ = false
  glo : lo ≤ gI ∧ gI < hi
  al : ∃ A K, vA = .slice A x.list.length K ∧ x.list.length ≤ K ∧ x.list.length ≤ 140737488351232
  inn : I64 x.t1
  setN : ∀ u, I64 u → pgO (w.setCell ⟨gI, i * 5 + 4, none⟩ (.int .i64 u)) lo hi cs (p.setBlk k i f { x with t1 := u })
  arg : ∀ m a, x.list[m]? = some a → I64 a ∧ ∃ gA KA, vA = .slice (some ⟨gA, 0, none⟩) x.list.length KA ∧ gA ≠ gI ∧ gA ≠ gF ∧ lo ≤ gA ∧ gA < hi ∧ gA < w.heap.size ∧ w.cell? ⟨gA, m, none⟩ = some (.int .i64 a) ∧ (∀ j, w.frozen? ⟨gA, j, none⟩ = false) ∧ ∀ u, I64 u → pgO (w.setCell ⟨gA, m, none⟩ (.int .i64 u)) lo hi cs (p.setBlk k i f { x with list := x.list.set m u })
theorem blk_at {w : World} {lo hi : Nat} {cs : List Value} {p : Pg} {k i : Nat} {f : Fn} {x : Blk} (h : pgO w lo hi cs p) (hk : p.funs[k]? = some f) (hi' : f.blocks[i]? = some x) : ∃ gF KF gI KI vA, BlkAt w lo hi cs p k i f x gF KF gI KI vA := by
  obtain ⟨s, g, vF, a, b, rfl, hF, ha, hb, backP⟩ := pg_funs h
  obtain ⟨gF, KF, f0, f1, cf, hAF⟩ := oR_at kpo_fn fn_len hF hk
  obtain ⟨vI, a2, b2, hv4, hI, ha2, hb2, backF⟩ := fn_blk hAF.own
  obtain ⟨gI, KI, i0, i1, ci, hAI⟩ := oR_at kpo_blk blk_len hI hi'
  obtain ⟨vA, hv2, hA, backI⟩ := blk_list hAI.own
  have hv := hAF.val
  have hvI := hAI.val
  subst hv
  subst hvI
  have e1 := hAF.glo; have e2 := hAF.gb; have e3 := hAF.bh; have e4 := hAI.glo; have e5 := hAI.gb; have e6 := hAI.bh; have e7 := hAF.ab; have e8 := hAI.ab
  have hin := hAI.own
  obtain ⟨v', rfl, q1, q2, q3, q4, q5⟩ := hin
  obtain rfl : vA = v' := (Option.some.inj hv2).symm
  have up : ∀ w' x', Bx lo hi a2 b2 w w' → oR 5 blkO w' a2 b2 (.slice (some ⟨gI, 0, none⟩) f.blocks.length KI) (f.blocks.set i x') → pgO w' lo hi [s, g, .slice (some ⟨gF, 0, none⟩) p.funs.length KF] (p.setBlk k i f x') := fun w' x' hbx hr =>
    backP w' _ (hbx.grow (by omega) (by omega)) (hAF.inn w' _ ((hbx.grow (a' := f0) (b' := f1) (by omega) (by omega)).sub (by omega) (by omega)) (backF w' _ (hbx.sub (by omega) (by omega)) hr))
  have hAl : ∃ A K, vA = .slice A x.list.length K ∧ x.list.length ≤ K ∧ x.list.length ≤ 140737488351232 := by obtain ⟨A, K, z1, z2, z3, -⟩ := q5; exact ⟨A, K, z1, z2, z3⟩
  refine ⟨gF, KF, gI, KI, vA, ⟨rfl, hAF.le, hAF.cell 5 _ hv4, hAI.le, hAI.cell 0 _ rfl, hAI.cell 4 _ rfl, hAI.free, ⟨by omega, by omega⟩, hAl, q4, fun u hu => ?_, fun m y hm => ?_⟩⟩
  · refine up _ _ (bx_set (p := ⟨gI, i * 5 + 4, none⟩) (show a2 ≤ gI ∧ gI < b2 by omega)) (hAI.put 4 (.int .i64 u) _ (by omega) ?_)
    exact ⟨vA, rfl, q1, q2, q3, hu, q5⟩
  · obtain ⟨gA, KA, a0, a1, ca, hAA⟩ := oR_at kpo_int int_len hA hm
    have z1 := hAA.glo; have z2 := hAA.gb; have z3 := hAA.bh; have z4 := hAA.own; have z5 := hAA.ab
    have hcell := hAA.cell 0 (.int .i64 y) (by rw [z4.1]; rfl)
    rw [Nat.mul_one, Nat.add_zero] at hcell
    -- the row of arguments lies between i0 and i1
    have hne : gA < i1 := by
      rcases hA with ⟨A, K, h1, h2, h3, h4⟩
      obtain ⟨g', t', cur', b', hA', hg', l1, l2, l3, l4, -⟩ := h4 (Nat.lt_of_le_of_lt (Nat.zero_le _) (List.getElem?_eq_some_iff.1 hm).1)
      have m0 := mono_upto l3 (Nat.zero_le x.list.length) (Nat.le_refl _)
      have hv := hAA.val
      rw [hv] at h1
      injection h1 with h1
      rw [hA'] at h1
      injection h1 with h1
      injection h1 with h1
      omega
    refine ⟨z4.2, gA, KA, hAA.val, by omega, by omega, by omega, by omega, hAA.gl, hcell, hAA.free, fun u hu => ?_⟩
    refine up _ _ (bx_set (p := ⟨gA, m, none⟩) (show a2 ≤ gA ∧ gA < b2 by omega)) (hAI.inn _ _ (bx_set (p := ⟨gA, m, none⟩) (show i0 ≤ gA ∧ gA < i1 by omega)) (backI _ _ ?_))
    have := hAA.put 0 (.int .i64 u) u (by omega) (by rw [z4.1]; exact ⟨rfl, hu⟩)
    rw [Nat.mul_one, Nat.add_zero] at this
    exact this

end Go.Proofs.YtcbjcpmkebbfaaaDoor
