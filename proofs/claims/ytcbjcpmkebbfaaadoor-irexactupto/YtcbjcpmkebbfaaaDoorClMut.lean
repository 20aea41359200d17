/-
  MEMORY: a program in memory of its own whose numbers are set one after the other, its slices where they were. No condition.
-/
import Derived.Test.YtcbjcpmkebbfaaaDoorAwk
namespace Go.Proofs.YtcbjcpmkebbfaaaDoor
open Go.RowKit

/-- What lies outside of lo .. hi is as it was; a slice that is there was there. -/
structure Out (lo hi : Nat) (w w' : World) : Prop where
  sz : w.heap.size ≤ w'.heap.size
  blk : ∀ k, k < w.heap.size → ¬ (lo ≤ k ∧ k < hi) → w'.heap[k]? = w.heap[k]?
  bk : ∀ (q : Addr) A n c, w'.cell? q = some (.slice A n c) → w.cell? q = some (.slice A n c)
theorem Out.refl (lo hi : Nat) (w : World) : Out lo hi w w := ⟨Nat.le_refl _, fun _ _ _ => rfl, fun _ _ _ _ h => h⟩
theorem Out.cell {lo hi : Nat} {w w' : World} (h : Out lo hi w w') {a : Addr} {v : Value} (hc : w.cell? a = some v) (hn : a.block < lo ∨ hi ≤ a.block) : w'.cell? a = some v :=
  (World.cell?_of_block (w := w) (h.blk a.block (cell_lt hc) (by omega))).trans hc
theorem Out.drew {lo hi : Nat} {w w' : World} (h : Out lo hi w w') : Out lo hi w w'.drew := ⟨h.sz, h.blk, h.bk⟩
theorem Out.set {lo hi : Nat} {w w' : World} (h : Out lo hi w w') {g k : Nat} {u y : Int} (hg : lo ≤ g ∧ g < hi) (hc : w'.cell? ⟨g, k, none⟩ = some (.int .i64 y)) : Out lo hi w (w'.setCell ⟨g, k, none⟩ (.int .i64 u)) := by
  refine ⟨by have := h.sz; simpa [World.setCell] using this, fun j hj hn => ?_, fun q A n c hq => h.bk q A n c ?_⟩
  · rw [heap_setCell_other w' ⟨g, k, none⟩ j _ (fun e => hn (by subst e; exact hg))]
    exact h.blk j hj hn
  · by_cases e : (⟨g, k, none⟩ : Addr) = q
    · subst e
      rw [World.cell?_setCell_same _ _ _ hc] at hq
      cases hq
    · rw [World.cell?_setCell_other] at hq
      · exact hq
      · exact e
/-- Where the row of instructions, the row of blocks and the two rows of numbers lie. -/
structure Fix (w0 w1 : World) (lo hi : Nat) (cs : List Value) (k i j il bl gF gI KI : Nat) (vA : Value) (gB KB : Nat) (vL : Value) : Prop where
  hw : w0.heap.size ≤ lo
  c2 : ∃ n KF, cs[2]? = some (.slice (some ⟨gF, 0, none⟩) n KF)
  ci : w1.cell? ⟨gF, k * 6 + 4, none⟩ = some (.slice (some ⟨gI, 0, none⟩) il KI)
  ca : w1.cell? ⟨gI, i * 5 + 2, none⟩ = some vA
  cb : w1.cell? ⟨gF, k * 6 + 5, none⟩ = some (.slice (some ⟨gB, 0, none⟩) bl KB)
  cl : w1.cell? ⟨gB, j * 5 + 0, none⟩ = some vL
def Mut (w0 w1 : World) (lo hi : Nat) (cs : List Value) (k i j il bl al ll : Nat) (N : Int) (w' : World) : Prop :=
  ∃ P f x y, pgO w' lo hi cs P ∧ P.funs[k]? = some f ∧ f.ins[i]? = some x ∧ f.blocks[j]? = some y ∧ f.ins.length = il ∧ f.blocks.length = bl ∧ x.args.length = al ∧ y.list.length = ll ∧ x.n = N ∧ Out lo hi w1 w' ∧ Below w0.heap.size w0 w'
section
variable {w0 w1 w' : World} {lo hi : Nat} {cs : List Value} {k i j il bl al ll gF gI KI gB KB : Nat} {vA vL : Value} {N : Int}
theorem mut_ins (F : Fix w0 w1 lo hi cs k i j il bl gF gI KI vA gB KB vL) (h : Mut w0 w1 lo hi cs k i j il bl al ll N w') : ∃ P f x KF, InsAt w' lo hi cs P k i f x gF KF gI KI vA ∧ x.n = N ∧ x.args.length = al ∧ Out lo hi w1 w' ∧ Below w0.heap.size w0 w' ∧
    ∀ w'' x', pgO w'' lo hi cs (P.setIns k i f x') → x'.args.length = al → Out lo hi w1 w'' → Below w0.heap.size w0 w'' → Mut w0 w1 lo hi cs k i j il bl al ll x'.n w'' := by
  obtain ⟨P, f, x, y, hp, hk, hi', hj, l1, l2, l3, l4, l5, hO, hB⟩ := h
  obtain ⟨gF', KF', gI', KI', vA', hI⟩ := ins_at hp hk hi'
  obtain ⟨n, KF, hc2⟩ := F.c2
  have z0 := hc2.symm.trans hI.c2
  injection z0 with z0
  injection z0 with z0
  injection z0 with z0
  injection z0 with z0
  subst z0
  have z1 := F.ci.symm.trans (hO.bk _ _ _ _ hI.ci)
  injection z1 with z1
  injection z1 with z1 _ z2
  injection z1 with z1
  injection z1 with z1
  subst z1
  subst z2
  obtain ⟨A, K, q1, q2, q3⟩ := hI.al
  have z3 := F.ca.symm.trans (hO.bk _ _ _ _ (q1 ▸ hI.ca))
  injection z3 with z3
  rw [← q1] at z3
  subst z3
  have hkl := (List.getElem?_eq_some_iff.1 hk).1
  have hil := (List.getElem?_eq_some_iff.1 hi').1
  exact ⟨P, f, x, KF', hI, l5, l3, hO, hB, fun w'' x' hp' ha hO' hB' => ⟨_, { f with ins := f.ins.set i x' }, x', y, hp', by unfold Pg.setIns; rw [List.getElem?_set_self hkl], by rw [List.getElem?_set_self hil], hj, by rw [List.length_set]; exact l1, l2, ha, l4, rfl, hO', hB'⟩⟩
theorem mut_blk (F : Fix w0 w1 lo hi cs k i j il bl gF gI KI vA gB KB vL) (h : Mut w0 w1 lo hi cs k i j il bl al ll N w') : ∃ P f x KF, BlkAt w' lo hi cs P k j f x gF KF gB KB vL ∧ x.list.length = ll ∧ Out lo hi w1 w' ∧ Below w0.heap.size w0 w' ∧
    ∀ w'' x', pgO w'' lo hi cs (P.setBlk k j f x') → x'.list.length = ll → Out lo hi w1 w'' → Below w0.heap.size w0 w'' → Mut w0 w1 lo hi cs k i j il bl al ll N w'' := by
  obtain ⟨P, f, y, x, hp, hk, hj, hi', l1, l2, l3, l4, l5, hO, hB⟩ := h
  obtain ⟨gF', KF', gI', KI', vA', hI⟩ := blk_at hp hk hi'
  obtain ⟨n, KF, hc2⟩ := F.c2
  have z0 := hc2.symm.trans hI.c2
  injection z0 with z0
  injection z0 with z0
  injection z0 with z0
  injection z0 with z0
  subst z0
  have z1 := F.cb.symm.trans (hO.bk _ _ _ _ hI.ci)
  injection z1 with z1
  injection z1 with z1 _ z2
  injection z1 with z1
  injection z1 with z1
  subst z1
  subst z2
  obtain ⟨A, K, q1, q2, q3⟩ := hI.al
  have z3 := F.cl.symm.trans (hO.bk _ _ _ _ (q1 ▸ hI.ca))
  injection z3 with z3
  rw [← q1] at z3
  subst z3
  have hkl := (List.getElem?_eq_some_iff.1 hk).1
  have hil := (List.getElem?_eq_some_iff.1 hi').1
  exact ⟨P, f, x, KF', hI, l4, hO, hB, fun w'' x' hp' ha hO' hB' => ⟨_, { f with blocks := f.blocks.set j x' }, y, x', hp', by unfold Pg.setBlk; rw [List.getElem?_set_self hkl], hj, by rw [List.getElem?_set_self hil], l1, by rw [List.length_set]; exact l2, l3, ha, l5, hO', hB'⟩⟩
/-- The instruction's number. -/
theorem Mut.n (F : Fix w0 w1 lo hi cs k i j il bl gF gI KI vA gB KB vL) (h : Mut w0 w1 lo hi cs k i j il bl al ll N w') :
    w'.cell? ⟨gI, i * 5 + 3, none⟩ = some (.int .i64 N) ∧ I64 N ∧ w'.frozen? ⟨gI, i * 5 + 3, none⟩ = false ∧ ∀ u, I64 u → Mut w0 w1 lo hi cs k i j il bl al ll u (w'.setCell ⟨gI, i * 5 + 3, none⟩ (.int .i64 u)) := by
  obtain ⟨P, f, x, KF, hI, rfl, l3, hO, hB, up⟩ := mut_ins F h
  refine ⟨hI.cn, hI.inn, hI.fr _, fun u hu => up _ { x with n := u } (hI.setN u hu) l3 (hO.set hI.glo hI.cn) (hB.setCell (p := ⟨gI, i * 5 + 3, none⟩) (Nat.le_trans F.hw hI.glo.1) _)⟩
theorem Mut.row (F : Fix w0 w1 lo hi cs k i j il bl gF gI KI vA gB KB vL) (h : Mut w0 w1 lo hi cs k i j il bl al ll N w') :
    w'.cell? ⟨gI, i * 5 + 2, none⟩ = some vA ∧ ∃ A K, vA = .slice A al K ∧ al ≤ K ∧ al ≤ 140737488351232 := by
  obtain ⟨P, f, x, KF, hI, rfl, rfl, hO, hB, up⟩ := mut_ins F h
  exact ⟨hI.ca, hI.al⟩
theorem Mut.arg (F : Fix w0 w1 lo hi cs k i j il bl gF gI KI vA gB KB vL) (h : Mut w0 w1 lo hi cs k i j il bl al ll N w') (m : Nat) (hm : m < al) :
    ∃ gA KA y, vA = .slice (some ⟨gA, 0, none⟩) al KA ∧ w'.cell? ⟨gA, m, none⟩ = some (.int .i64 y) ∧ I64 y ∧ w'.frozen? ⟨gA, m, none⟩ = false ∧ ∀ u, I64 u → Mut w0 w1 lo hi cs k i j il bl al ll N (w'.setCell ⟨gA, m, none⟩ (.int .i64 u)) := by
  obtain ⟨P, f, x, KF, hI, rfl, rfl, hO, hB, up⟩ := mut_ins F h
  obtain ⟨hy, gA, KA, e, -, -, q1, q2, q3, q4, q5, q6⟩ := hI.arg m _ (List.getElem?_eq_getElem hm)
  refine ⟨gA, KA, _, e, q4, hy, q5 _, fun u hu => up _ { x with args := x.args.set m u } (q6 u hu) (by simp) (hO.set ⟨q1, q2⟩ q4) (hB.setCell (p := ⟨gA, m, none⟩) (Nat.le_trans F.hw q1) _)⟩
theorem Mut.t (F : Fix w0 w1 lo hi cs k i j il bl gF gI KI vA gB KB vL) (h : Mut w0 w1 lo hi cs k i j il bl al ll N w') :
    ∃ y, w'.cell? ⟨gB, j * 5 + 4, none⟩ = some (.int .i64 y) ∧ I64 y ∧ w'.frozen? ⟨gB, j * 5 + 4, none⟩ = false ∧ ∀ u, I64 u → Mut w0 w1 lo hi cs k i j il bl al ll N (w'.setCell ⟨gB, j * 5 + 4, none⟩ (.int .i64 u)) := by
  obtain ⟨P, f, x, KF, hI, l3, hO, hB, up⟩ := mut_blk F h
  refine ⟨_, hI.cn, hI.inn, hI.fr _, fun u hu => up _ { x with t1 := u } (hI.setN u hu) l3 (hO.set hI.glo hI.cn) (hB.setCell (p := ⟨gB, j * 5 + 4, none⟩) (Nat.le_trans F.hw hI.glo.1) _)⟩
theorem Mut.row2 (F : Fix w0 w1 lo hi cs k i j il bl gF gI KI vA gB KB vL) (h : Mut w0 w1 lo hi cs k i j il bl al ll N w') :
    w'.cell? ⟨gB, j * 5 + 0, none⟩ = some vL ∧ ∃ A K, vL = .slice A ll K ∧ ll ≤ K ∧ ll ≤ 140737488351232 := by
  obtain ⟨P, f, x, KF, hI, rfl, hO, hB, up⟩ := mut_blk F h
  exact ⟨hI.ca, hI.al⟩
theorem Mut.list (F : Fix w0 w1 lo hi cs k i j il bl gF gI KI vA gB KB vL) (h : Mut w0 w1 lo hi cs k i j il bl al ll N w') (m : Nat) (hm : m < ll) :
    ∃ gA KA y, vL = .slice (some ⟨gA, 0, none⟩) ll KA ∧ w'.cell? ⟨gA, m, none⟩ = some (.int .i64 y) ∧ I64 y ∧ w'.frozen? ⟨gA, m, none⟩ = false ∧ ∀ u, I64 u → Mut w0 w1 lo hi cs k i j il bl al ll N (w'.setCell ⟨gA, m, none⟩ (.int .i64 u)) := by
  obtain ⟨P, f, x, KF, hI, rfl, hO, hB, up⟩ := mut_blk F h
  obtain ⟨hy, gA, KA, e, -, -, q1, q2, q3, q4, q5, q6⟩ := hI.arg m _ (List.getElem?_eq_getElem hm)
  refine ⟨gA, KA, _, e, q4, hy, q5 _, fun u hu => up _ { x with list := x.list.set m u } (q6 u hu) (by simp) (hO.set ⟨q1, q2⟩ q4) (hB.setCell (p := ⟨gA, m, none⟩) (Nat.le_trans F.hw q1) _)⟩
theorem Mut.drew (h : Mut w0 w1 lo hi cs k i j il bl al ll N w') : Mut w0 w1 lo hi cs k i j il bl al ll N w'.drew := by
  obtain ⟨P, f, x, y, hp, h1, h2, h3, h4, h5, h6, h7, h8, hO, hB⟩ := h
  exact ⟨P, f, x, y, kpo_pg.on hp ⟨Nat.le_refl _, fun _ _ _ => rfl⟩, h1, h2, h3, h4, h5, h6, h7, h8, hO.drew, hB.drew⟩
/-- At the beginning. -/
theorem mut_of {P : Pg} {f : Fn} {x : Ins} {y : Blk} (hw : w0.heap.size ≤ lo) (hp : pgO w1 lo hi cs P) (hk : P.funs[k]? = some f) (hi' : f.ins[i]? = some x) (hj : f.blocks[j]? = some y) (hB : Below w0.heap.size w0 w1) :
    ∃ gF KF gI KI vA gB KB vL, cs[2]? = some (.slice (some ⟨gF, 0, none⟩) P.funs.length KF) ∧ P.funs.length ≤ KF ∧ f.ins.length ≤ KI ∧ f.blocks.length ≤ KB ∧ w1.cell? ⟨gF, k * 6 + 4, none⟩ = some (.slice (some ⟨gI, 0, none⟩) f.ins.length KI) ∧ w1.cell? ⟨gF, k * 6 + 5, none⟩ = some (.slice (some ⟨gB, 0, none⟩) f.blocks.length KB) ∧
      Fix w0 w1 lo hi cs k i j f.ins.length f.blocks.length gF gI KI vA gB KB vL ∧ Mut w0 w1 lo hi cs k i j f.ins.length f.blocks.length x.args.length y.list.length x.n w1 := by
  obtain ⟨gF, KF, gI, KI, vA, hI⟩ := ins_at hp hk hi'
  obtain ⟨gF', KF', gB, KB, vL, hL⟩ := blk_at hp hk hj
  have z0 := hI.c2.symm.trans hL.c2
  injection z0 with z0
  injection z0 with z0
  injection z0 with z0
  injection z0 with z0
  subst z0
  exact ⟨gF, KF, gI, KI, vA, gB, KB, vL, hI.c2, hI.lf, hI.li, hL.li, hI.ci, hL.ci, ⟨hw, ⟨_, _, hI.c2⟩, hI.ci, hI.ca, hL.ci, hL.ca⟩, ⟨P, f, x, y, hp, hk, hi', hj, rfl, rfl, rfl, rfl, rfl, Out.refl _ _ _, hB⟩⟩
end
/-- The row of lines, made behind the clone, is as it was. -/
theorem OT.out {w w' : World} {base lo hi : Nat} {v : Value} {l : List ByteArray} (h : OT w base v l) (hO : Out lo hi w w') (hh : hi ≤ base) : ∃ A c, v = .slice A l.length c ∧ l.length ≤ c ∧ SL 1 txtR w' A l := by
  rcases h.2 with ⟨rfl, h0⟩ | ⟨g, cap, cur, rfl, hb, hg, hn, hc, hs, ht⟩
  · rw [h0]; exact ⟨none, 0, rfl, Nat.le_refl _, fun h => by omega⟩
  · have hgs : g < w.heap.size := (Array.getElem?_eq_some_iff.1 hg).1
    obtain ⟨A, c, e, hc', hS⟩ := OT.sl (w := w) (base := base) h
    injection e with e1 e2 e3
    subst e1
    refine ⟨_, _, rfl, hn, fun hp => ?_⟩
    obtain ⟨b, o, e4, hb', hcs⟩ := hS hp
    injection e4 with e4
    injection e4 with e4 e5
    subst e4
    subst e5
    refine ⟨g, 0, rfl, Nat.lt_of_lt_of_le hgs hO.sz, fun m x hx => ?_⟩
    obtain ⟨cs, r, s⟩ := hcs m x hx
    exact ⟨cs, r, fun q u hu => hO.cell (s q u hu) (.inr (Nat.le_trans hh hb))⟩
theorem Mut.out {w0 w1 w' : World} {lo hi : Nat} {cs : List Value} {k i j il bl al ll : Nat} {N : Int} (h : Mut w0 w1 lo hi cs k i j il bl al ll N w') : Out lo hi w1 w' ∧ Below w0.heap.size w0 w' := by
  obtain ⟨Q, f', x', y', hp, h1, h2, h3, h4, h5, h6, h7, h8, hO, hB⟩ := h
  exact ⟨hO, hB⟩
/-- The row of a clone's functions: one of them. -/
theorem fun_at {w : World} {lo hi n c k : Nat} {s g : Value} {A : Option Addr} {p : Pg} {f : Fn} (h : pgO w lo hi [s, g, .slice A n c] p) (hk : p.funs[k]? = some f) : ∃ gF pA pc sA sc iA ic bA bc, A = some ⟨gF, 0, none⟩ ∧ n ≤ c ∧ f.ins.length ≤ ic ∧ f.blocks.length ≤ bc ∧
    w.cell? ⟨gF, k * 6, none⟩ = some (.string f.name) ∧ w.cell? ⟨gF, k * 6 + 1, none⟩ = some (.slice pA f.params.length pc) ∧ w.cell? ⟨gF, k * 6 + 2, none⟩ = some (.string f.res) ∧ w.cell? ⟨gF, k * 6 + 3, none⟩ = some (.slice sA f.slots.length sc) ∧ w.cell? ⟨gF, k * 6 + 4, none⟩ = some (.slice iA f.ins.length ic) ∧ w.cell? ⟨gF, k * 6 + 5, none⟩ = some (.slice bA f.blocks.length bc) := by
  obtain ⟨s', g', v, a, b, ecs, hF, -⟩ := pg_funs h
  injection ecs with _ ecs
  injection ecs with _ ecs
  injection ecs with ecs
  subst ecs
  obtain ⟨gF, KF, f0, f1, cf, hAF⟩ := oR_at kpo_fn fn_len hF hk
  obtain ⟨vp, vs, vi, vb, m1, m2, m3, rfl, -, -, -, -, -, -, ⟨pA, pc, rfl, -⟩, ⟨sA, sc, rfl, -⟩, ⟨iA, ic, rfl, h1, -⟩, ⟨bA, bc, rfl, h2, -⟩⟩ := hAF.own
  have hv := hAF.val
  injection hv with e1 e2 e3
  subst e1
  subst e3
  exact ⟨gF, pA, pc, sA, sc, iA, ic, bA, bc, rfl, by rw [e2]; exact hAF.le, h1, h2, hAF.cell 0 _ rfl, hAF.cell 1 _ rfl, hAF.cell 2 _ rfl, hAF.cell 3 _ rfl, hAF.cell 4 _ rfl, hAF.cell 5 _ rfl⟩
theorem OT.out_of {w w' : World} {base lo hi n c : Nat} {A : Option Addr} {l : List ByteArray} (h : OT w base (.slice A n c) l) (hO : Out lo hi w w') (hh : hi ≤ base) : SL 1 txtR w' A l := by
  obtain ⟨A', c', e, -, hS⟩ := OT.out h hO hh
  injection e with e1
  subst e1
  exact hS
def ARel (w0 w1 : World) (lo hi : Nat) (cs : List Value) (k i j il bl al ll : Nat) (N : Int) (lim : Nat) (iv : Value) (wr : World) : Prop := ∃ m : Nat, m ≤ lim ∧ iv = .int .i64 m ∧ Hid (Mut w0 w1 lo hi cs k i j il bl al ll N wr)
theorem mut_ne {w0 w1 w' : World} {lo hi : Nat} {cs : List Value} {k i j il bl al ll : Nat} {N : Int} {P : Pg} {f : Fn} {x : Ins} (h : Mut w0 w1 lo hi cs k i j il bl al ll N w') (hk : P.funs[k]? = some f) (hi' : f.ins[i]? = some x) (hN : x.n ≠ N) : ∃ Q, pgO w' lo hi cs Q ∧ P ≠ Q := by
  obtain ⟨Q, f', x', y', hp, h1, h2, h3, h4, h5, h6, h7, h8, hO, hB⟩ := h
  refine ⟨Q, hp, fun e => hN ?_⟩
  subst e
  obtain rfl := Option.some.inj (hk.symm.trans h1)
  obtain rfl := Option.some.inj (hi'.symm.trans h2)
  exact h8

end Go.Proofs.YtcbjcpmkebbfaaaDoor
