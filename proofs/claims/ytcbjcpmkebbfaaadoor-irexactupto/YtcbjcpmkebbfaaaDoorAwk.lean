/-
  CONTRACT: the anchor 'awake' answers true where the listed tables lie as they are laid. Of what was there nothing has turned.
-/
import Derived.Test.YtcbjcpmkebbfaaaDoorClReg
namespace Go.Proofs.YtcbjcpmkebbfaaaDoor
open Go.RowKit

/-- A clone's value is a program that reads the same. -/
theorem clone_pe {w w' : World} {p : Pg} {e : Ending} (h : ElQ pgO p w e w') : ∃ E : PE, e = .returned E.v ∧ E.p = p ∧ PM E w' ∧ pgO w' w.heap.size w'.heap.size E.row.toList p ∧ Below w.heap.size w w' := by
  obtain ⟨cs, rfl, ho, hb⟩ := h
  obtain ⟨E, h1, rfl, h2⟩ := pe_of (rd_pg.rd ho)
  exact ⟨E, by unfold PE.v; rw [Array.toArray_toList], h1, h2, ho, hb⟩
theorem one_sm : SmP onePg := by
  refine ⟨by decide, by decide, by decide, by decide, fun x hx => ?_⟩
  obtain rfl : x = oneF := by simpa [onePg] using hx
  exact ⟨by decide, by decide, by decide, by decide, by decide, by decide⟩
theorem one_bd : BdP onePg := by
  refine ⟨by decide, by decide, by decide, fun x hx => by simp [onePg] at hx, fun x hx => by simp [onePg] at hx, fun x hx => ?_⟩
  obtain rfl : x = oneF := by simpa [onePg] using hx
  refine ⟨⟨by decide, by decide, by decide, fun y hy => ?_⟩, by decide, fun y hy => by simp [oneF] at hy, fun y hy => ?_, by decide, by decide⟩
  · simp [oneF] at hy; subst hy; decide
  · simp [oneF] at hy
    rcases hy with rfl | rfl | rfl <;> exact ⟨by decide, by decide, by decide⟩
def x2 : Ins := ⟨1, intT, [0, 1], 0, ⟨#[]⟩⟩
def oneQ : Pg := onePg.setIns 0 2 oneF { x2 with args := x2.args.set 0 1 }
theorem one_ne : onePg ≠ oneQ := fun e => by
  have h := congrArg (fun p : Pg => (p.funs[0]?.bind fun f => f.ins[2]?).map Ins.args) e
  exact absurd h (by decide)

theorem kpo_pg : Kpo pgO := ⟨fun ⟨_, _, _, _, _, h, _⟩ ⟨_, _, _, _, _, h', _⟩ => by rw [h, h']; rfl, fun ⟨s, g, f, m1, m2, h0, h1, h2, h3, q1, q2, q3⟩ hb => ⟨s, g, f, m1, m2, h0, h1, h2, h3, q1.on kpo_st (hb.sub (by omega) (by omega)), q2.on kpo_fd (hb.sub (by omega) (by omega)), q3.on kpo_fn (hb.sub (by omega) (by omega))⟩⟩
theorem keepAw {u w w' : World} {a0 a1 a2 a3 a4 a5 a6 a7 a8 a9 a10 a11 a12 a13 a14 : Addr} {v0 v1 v2 v3 v4 v5 v6 v7 v8 v9 v10 v11 v12 v13 v14 : Value} (h : Below u.heap.size u w ∧ w.cell? a0 = some v0 ∧ w.cell? a1 = some v1 ∧ w.cell? a2 = some v2 ∧ w.cell? a3 = some v3 ∧ w.cell? a4 = some v4 ∧ w.cell? a5 = some v5 ∧ w.cell? a6 = some v6 ∧ w.cell? a7 = some v7 ∧ w.cell? a8 = some v8 ∧ w.cell? a9 = some v9 ∧ w.cell? a10 = some v10 ∧ w.cell? a11 = some v11 ∧ w.cell? a12 = some v12 ∧ w.cell? a13 = some v13 ∧ w.cell? a14 = some v14) (b : Below w.heap.size w w') :
    Below u.heap.size u w' ∧ w'.cell? a0 = some v0 ∧ w'.cell? a1 = some v1 ∧ w'.cell? a2 = some v2 ∧ w'.cell? a3 = some v3 ∧ w'.cell? a4 = some v4 ∧ w'.cell? a5 = some v5 ∧ w'.cell? a6 = some v6 ∧ w'.cell? a7 = some v7 ∧ w'.cell? a8 = some v8 ∧ w'.cell? a9 = some v9 ∧ w'.cell? a10 = some v10 ∧ w'.cell? a11 = some v11 ∧ w'.cell? a12 = some v12 ∧ w'.cell? a13 = some v13 ∧ w'.cell? a14 = some v14 := by
  obtain ⟨h, h0, h1, h2, h3, h4, h5, h6, h7, h8, h9, h10, h11, h12, h13, h14⟩ := h
  exact ⟨h.trans (b.mono h.size), keepB h0 b, keepB h1 b, keepB h2 b, keepB h3 b, keepB h4 b, keepB h5 b, keepB h6 b, keepB h7 b, keepB h8 b, keepB h9 b, keepB h10 b, keepB h11 b, keepB h12 b, keepB h13 b, keepB h14 b⟩
theorem pm_row {w : World} {p : Pg} {sA gA fA : Option Addr} {n1 n2 n3 sc gc fc : Nat} (h : pgR w [.slice sA n1 sc, .slice gA n2 gc, .slice fA n3 fc] p) : n1 = p.structs.length ∧ n2 = p.globals.length ∧ n3 = p.funs.length ∧ PM ⟨p, sA, sc, gA, gc, fA, fc⟩ w := by
  obtain ⟨s, g, f, h0, ⟨A, k, rfl, a1, a2, a3⟩, ⟨B, l, rfl, b1, b2, b3⟩, ⟨C, m, rfl, c1, c2, c3⟩⟩ := h
  injection h0 with e1 h0
  injection h0 with e2 h0
  injection h0 with e3 h0
  injection e1 with x1 x2 x3
  injection e2 with y1 y2 y3
  injection e3 with z1 z2 z3
  subst x1 x2 x3 y1 y2 y3 z1 z2 z3
  exact ⟨rfl, rfl, rfl, ⟨a3, b3, c3, a2, b2, c2, a1, b1, c1⟩⟩
theorem isop34 (w : World) (hG : Gd w) : Calls Tryd.prog 16 #[.int .i64 34] w fun e w' => e = .returned (.bool true) ∧ w = w' := by
  have h := isOp_any 34 w hG.words
  rwa [show (!(wordS 34).toList.isEmpty) = true from by kernel_rfl] at h
theorem isop19 (w : World) (hG : Gd w) : Calls Tryd.prog 16 #[.int .i64 19] w fun e w' => e = .returned (.bool false) ∧ w = w' := by
  have h := isOp_any 19 w hG.words
  rwa [show (!(wordS 19).toList.isEmpty) = false from by kernel_rfl] at h
theorem args26 (w : World) : Calls Tryd.prog 17 #[.int .i64 26] w fun e w' => e = .returned (.int .i64 2) ∧ w = w' := args_any 26 w
theorem quiet1 (w : World) : Calls Tryd.prog 19 #[.int .i64 1] w fun e w' => e = .returned (.bool true) ∧ w = w' := quiet_any 1 w
theorem quiet25 (w : World) : Calls Tryd.prog 19 #[.int .i64 25] w fun e w' => e = .returned (.bool false) ∧ w = w' := quiet_any 25 w
theorem word24 (w : World) (hG : Gd w) : Calls Tryd.prog 15 #[.int .i64 24] w fun e w' => e = .returned (.string ⟨#[110, 101, 119]⟩) ∧ w = w' := word_any 24 w hG.words
theorem fe_fnR {E : FE} {w : World} (h : FM E w) : fnR w E.row.toList E.f :=
  ⟨_, _, _, _, rfl, h.nl, h.rl, ⟨_, _, rfl, h.ple, h.pl, h.P⟩, ⟨_, _, rfl, h.sle, h.sl, h.S⟩, ⟨_, _, rfl, h.ile, h.il, h.I⟩, ⟨_, _, rfl, h.ble, h.bl, h.B⟩⟩
set_option maxRecDepth 100000 in
set_option maxHeartbeats 4000000 in
theorem awake_true (w : World) (hG : Gd w) : Calls Tryd.prog 7 #[] w fun e w' => e = .returned (.bool true) ∧ Below w.heap.size w w' := by
  have HG := Lib.hid hG
  have HB1 : Hid (Below w.heap.size w (oneW w)) := alloc_below _ (Below.refl _ _) (Nat.le_refl _)
  have HM1 := Lib.hid (one_fm w)
  clear hG
  go_enter Tryd.func7, Tryd.ntmps7
  go_wp2_with fail
  refine (one_any w).mono ?_
  rintro e w1 ⟨rfl, rfl⟩
  have he : (oneE w.heap.size).v = .agg #[.string (oneE w.heap.size).f.name, .slice (oneE w.heap.size).pA (oneE w.heap.size).f.params.length (oneE w.heap.size).pc, .string (oneE w.heap.size).f.res, .slice (oneE w.heap.size).sA (oneE w.heap.size).f.slots.length (oneE w.heap.size).sc, .slice (oneE w.heap.size).iA (oneE w.heap.size).f.ins.length (oneE w.heap.size).ic, .slice (oneE w.heap.size).bA (oneE w.heap.size).f.blocks.length (oneE w.heap.size).bc] := rfl
  rw [he]
  have hEf : (oneE w.heap.size).f = oneF := rfl
  have HEf := Lib.hid hEf
  generalize oneE w.heap.size = E at *
  generalize oneW w = w1 at *
  clear he hEf
  have HB2 : Hid (Below w1.heap.size w1 (((w1.alloc (.cells #[.string E.f.name, .slice E.pA E.f.params.length E.pc, .string E.f.res, .slice E.sA E.f.slots.length E.sc, .slice E.iA E.f.ins.length E.ic, .slice E.bA E.f.blocks.length E.bc] 40)).alloc (.cells #[.string E.f.name, .slice E.pA E.f.params.length E.pc, .string E.f.res, .slice E.sA E.f.slots.length E.sc, .slice E.iA E.f.ins.length E.ic, .slice E.bA E.f.blocks.length E.bc] 40)).alloc (.cells #[.slice none 0 0, .slice none 0 0, .slice (some ⟨w1.heap.size + 1, 0, none⟩) 1 1] 26))) := alloc_below [.cells #[.string E.f.name, .slice E.pA E.f.params.length E.pc, .string E.f.res, .slice E.sA E.f.slots.length E.sc, .slice E.iA E.f.ins.length E.ic, .slice E.bA E.f.blocks.length E.bc] 40, .cells #[.string E.f.name, .slice E.pA E.f.params.length E.pc, .string E.f.res, .slice E.sA E.f.slots.length E.sc, .slice E.iA E.f.ins.length E.ic, .slice E.bA E.f.blocks.length E.bc] 40, .cells #[.slice none 0 0, .slice none 0 0, .slice (some ⟨w1.heap.size + 1, 0, none⟩) 1 1] 26] (Below.refl _ _) (Nat.le_refl _)
  have h0 : (((w1.alloc (.cells #[.string E.f.name, .slice E.pA E.f.params.length E.pc, .string E.f.res, .slice E.sA E.f.slots.length E.sc, .slice E.iA E.f.ins.length E.ic, .slice E.bA E.f.blocks.length E.bc] 40)).alloc (.cells #[.string E.f.name, .slice E.pA E.f.params.length E.pc, .string E.f.res, .slice E.sA E.f.slots.length E.sc, .slice E.iA E.f.ins.length E.ic, .slice E.bA E.f.blocks.length E.bc] 40)).alloc (.cells #[.slice none 0 0, .slice none 0 0, .slice (some ⟨w1.heap.size + 1, 0, none⟩) 1 1] 26)).heap[w1.heap.size]? = some (.cells #[.string E.f.name, .slice E.pA E.f.params.length E.pc, .string E.f.res, .slice E.sA E.f.slots.length E.sc, .slice E.iA E.f.ins.length E.ic, .slice E.bA E.f.blocks.length E.bc] 40 (0, 0)) := alloc_at [.cells #[.string E.f.name, .slice E.pA E.f.params.length E.pc, .string E.f.res, .slice E.sA E.f.slots.length E.sc, .slice E.iA E.f.ins.length E.ic, .slice E.bA E.f.blocks.length E.bc] 40, .cells #[.string E.f.name, .slice E.pA E.f.params.length E.pc, .string E.f.res, .slice E.sA E.f.slots.length E.sc, .slice E.iA E.f.ins.length E.ic, .slice E.bA E.f.blocks.length E.bc] 40, .cells #[.slice none 0 0, .slice none 0 0, .slice (some ⟨w1.heap.size + 1, 0, none⟩) 1 1] 26] w1 0 _ rfl
  have h1 : (((w1.alloc (.cells #[.string E.f.name, .slice E.pA E.f.params.length E.pc, .string E.f.res, .slice E.sA E.f.slots.length E.sc, .slice E.iA E.f.ins.length E.ic, .slice E.bA E.f.blocks.length E.bc] 40)).alloc (.cells #[.string E.f.name, .slice E.pA E.f.params.length E.pc, .string E.f.res, .slice E.sA E.f.slots.length E.sc, .slice E.iA E.f.ins.length E.ic, .slice E.bA E.f.blocks.length E.bc] 40)).alloc (.cells #[.slice none 0 0, .slice none 0 0, .slice (some ⟨w1.heap.size + 1, 0, none⟩) 1 1] 26)).heap[w1.heap.size + 1]? = some (.cells #[.string E.f.name, .slice E.pA E.f.params.length E.pc, .string E.f.res, .slice E.sA E.f.slots.length E.sc, .slice E.iA E.f.ins.length E.ic, .slice E.bA E.f.blocks.length E.bc] 40 (0, 0)) := alloc_at [.cells #[.string E.f.name, .slice E.pA E.f.params.length E.pc, .string E.f.res, .slice E.sA E.f.slots.length E.sc, .slice E.iA E.f.ins.length E.ic, .slice E.bA E.f.blocks.length E.bc] 40, .cells #[.string E.f.name, .slice E.pA E.f.params.length E.pc, .string E.f.res, .slice E.sA E.f.slots.length E.sc, .slice E.iA E.f.ins.length E.ic, .slice E.bA E.f.blocks.length E.bc] 40, .cells #[.slice none 0 0, .slice none 0 0, .slice (some ⟨w1.heap.size + 1, 0, none⟩) 1 1] 26] w1 1 _ rfl
  have h2 : (((w1.alloc (.cells #[.string E.f.name, .slice E.pA E.f.params.length E.pc, .string E.f.res, .slice E.sA E.f.slots.length E.sc, .slice E.iA E.f.ins.length E.ic, .slice E.bA E.f.blocks.length E.bc] 40)).alloc (.cells #[.string E.f.name, .slice E.pA E.f.params.length E.pc, .string E.f.res, .slice E.sA E.f.slots.length E.sc, .slice E.iA E.f.ins.length E.ic, .slice E.bA E.f.blocks.length E.bc] 40)).alloc (.cells #[.slice none 0 0, .slice none 0 0, .slice (some ⟨w1.heap.size + 1, 0, none⟩) 1 1] 26)).heap[w1.heap.size + 1 + 1]? = some (.cells #[.slice none 0 0, .slice none 0 0, .slice (some ⟨w1.heap.size + 1, 0, none⟩) 1 1] 26 (0, 0)) := alloc_at [.cells #[.string E.f.name, .slice E.pA E.f.params.length E.pc, .string E.f.res, .slice E.sA E.f.slots.length E.sc, .slice E.iA E.f.ins.length E.ic, .slice E.bA E.f.blocks.length E.bc] 40, .cells #[.string E.f.name, .slice E.pA E.f.params.length E.pc, .string E.f.res, .slice E.sA E.f.slots.length E.sc, .slice E.iA E.f.ins.length E.ic, .slice E.bA E.f.blocks.length E.bc] 40, .cells #[.slice none 0 0, .slice none 0 0, .slice (some ⟨w1.heap.size + 1, 0, none⟩) 1 1] 26] w1 2 _ rfl
  go_wp2_with fail
  generalize ((w1.alloc (.cells #[.string E.f.name, .slice E.pA E.f.params.length E.pc, .string E.f.res, .slice E.sA E.f.slots.length E.sc, .slice E.iA E.f.ins.length E.ic, .slice E.bA E.f.blocks.length E.bc] 40)).alloc (.cells #[.string E.f.name, .slice E.pA E.f.params.length E.pc, .string E.f.res, .slice E.sA E.f.slots.length E.sc, .slice E.iA E.f.ins.length E.ic, .slice E.bA E.f.blocks.length E.bc] 40)).alloc (.cells #[.slice none 0 0, .slice none 0 0, .slice (some ⟨w1.heap.size + 1, 0, none⟩) 1 1] 26) = u0 at *
  obtain ⟨s1, hs1⟩ : ∃ s, w1.heap.size = s := ⟨_, rfl⟩
  rw [hs1] at h0 h1 h2 ⊢
  have HS1 := Lib.hid hs1
  clear hs1
  have HM2 := Lib.hid (HM1.out.drop (by rw [← HS1.out] at *; exact HB2.out))
  have HP : Hid (PM ⟨onePg, none, 0, none, 0, some ⟨s1 + 1, 0, none⟩, 1⟩ u0) := ⟨fun h => absurd h (Nat.lt_irrefl 0), fun h => absurd h (Nat.lt_irrefl 0), sl_blk h1 (fun i x hx => by
    match i, hx with
    | 0, hx =>
      obtain rfl := Option.some.inj hx
      exact ⟨E.row.toList, by rw [← HEf.out]; exact fe_fnR HM2.out, sg_at rfl⟩
    | n + 1, hx => simp [onePg] at hx), Nat.le_of_ble_eq_true rfl, Nat.le_of_ble_eq_true rfl, Nat.le_of_ble_eq_true rfl, Nat.le_of_ble_eq_true rfl, Nat.le_of_ble_eq_true rfl, Nat.le_of_ble_eq_true rfl⟩
  have f0 : u0.cell? ⟨s1, 0, none⟩ = some (.string E.f.name) := cell_of_row _ _ 0 _ _ _ h0
  have f1 : u0.cell? ⟨s1, 1, none⟩ = some (.slice E.pA E.f.params.length E.pc) := cell_of_row _ _ 1 _ _ _ h0
  have f2 : u0.cell? ⟨s1, 2, none⟩ = some (.string E.f.res) := cell_of_row _ _ 2 _ _ _ h0
  have f3 : u0.cell? ⟨s1, 3, none⟩ = some (.slice E.sA E.f.slots.length E.sc) := cell_of_row _ _ 3 _ _ _ h0
  have f4 : u0.cell? ⟨s1, 4, none⟩ = some (.slice E.iA E.f.ins.length E.ic) := cell_of_row _ _ 4 _ _ _ h0
  have f5 : u0.cell? ⟨s1, 5, none⟩ = some (.slice E.bA E.f.blocks.length E.bc) := cell_of_row _ _ 5 _ _ _ h0
  have p0 : u0.cell? ⟨s1 + 1 + 1, 0, none⟩ = some (.slice none 0 0) := cell_of_row _ _ 0 _ _ _ h2
  have p1 : u0.cell? ⟨s1 + 1 + 1, 1, none⟩ = some (.slice none 0 0) := cell_of_row _ _ 1 _ _ _ h2
  have p2 : u0.cell? ⟨s1 + 1 + 1, 2, none⟩ = some (.slice (some ⟨s1 + 1, 0, none⟩) 1 1) := cell_of_row _ _ 2 _ _ _ h2
  have HSU0 : Hid (s1 + 3 ≤ u0.heap.size) := (Array.getElem?_eq_some_iff.1 h2).1
  have HG2 := Lib.hid (HG.out.below (HB1.out.trans (HB2.out.mono HB1.out.size)) HG.out.size)
  have HBW2 := Lib.hid (HB1.out.trans (HB2.out.mono HB1.out.size))
  clear h0 h1 h2 HM1 HB2 HB1
  refine (lines_any ⟨onePg, none, 0, none, 0, some ⟨s1 + 1, 0, none⟩, 1⟩ u0 HP.out HG2.out one_bd).mono ?_
  rintro e u1 ⟨v1, rfl, hO1, b1⟩
  obtain ⟨A1, c1, rfl, hc1, hS1⟩ := hO1.sl
  rw [one_len] at hc1 ⊢
  have HS := Lib.hid hS1
  have HC1 := Lib.hid hc1
  have HB1 := Lib.hid b1
  have HBW1 := Lib.hid (HBW2.out.trans (b1.mono HBW2.out.size))
  replace f0 := keepB f0 b1
  replace f1 := keepB f1 b1
  replace f2 := keepB f2 b1
  replace f3 := keepB f3 b1
  replace f4 := keepB f4 b1
  replace f5 := keepB f5 b1
  replace p0 := keepB p0 b1
  replace p1 := keepB p1 b1
  replace p2 := keepB p2 b1
  clear b1 hO1 hS1 hc1
  go_wp2_with fail
  refine (uses_any E 0 u1 (HM2.out.drop HB1.out) ⟨by decide, by decide⟩ (by rw [HEf.out]; decide)).mono ?_
  rintro e u2 ⟨A2, c2, he, hc2, hS2, b2⟩
  rw [HEf.out, one_uses] at he hc2 hS2
  have he : e = .returned (.slice A2 1 c2) := he
  subst he
  have HS2 := Lib.hid hS2
  have HC2 := Lib.hid hc2
  have HB2 := Lib.hid (HB1.out.trans (b2.mono HB1.out.size))
  have HB12 := Lib.hid b2
  have HBW3 := Lib.hid (HBW1.out.trans (b2.mono HBW1.out.size))
  replace f0 := keepB f0 b2
  replace f1 := keepB f1 b2
  replace f2 := keepB f2 b2
  replace f3 := keepB f3 b2
  replace f4 := keepB f4 b2
  replace f5 := keepB f5 b2
  replace p0 := keepB p0 b2
  replace p1 := keepB p1 b2
  replace p2 := keepB p2 b2
  clear b2 hS2 hc2
  go_wp2_with fail
  refine (clone_any ⟨onePg, none, 0, none, 0, some ⟨s1 + 1, 0, none⟩, 1⟩ u2 (HP.out.drop HB2.out) one_sm).mono ?_
  rintro e u3 hq
  obtain ⟨Q, rfl, hQp, hQM, hQo, b3⟩ := clone_pe hq
  obtain ⟨Qp, qsA, qsc, qgA, qgc, qfA, qfc⟩ := Q
  have hQp : Qp = onePg := hQp
  subst hQp
  have hx2 : onePg.funs[0]? = some oneF := rfl
  have hx3 : oneF.ins[2]? = some x2 := rfl
  obtain ⟨gF, KF, gI, KI, vA, hI⟩ := ins_at hQo hx2 hx3
  obtain ⟨-, gA, KA, hvA, hAI, hAF, hAlo, hAhi, hAl, hAc, hAf, hAset⟩ := hI.arg 0 0 rfl
  subst hvA
  have hc2' : some (Value.slice qfA 1 qfc) = some (.slice (some ⟨gF, 0, none⟩) 1 KF) := hI.c2
  injection hc2' with hc2'
  injection hc2' with e1 _ e2
  subst e1
  subst e2
  have hv : (PE.mk onePg qsA qsc qgA qgc (some ⟨gF, 0, none⟩) qfc).v = .agg #[.slice qsA 0 qsc, .slice qgA 0 qgc, .slice (some ⟨gF, 0, none⟩) 1 qfc] := rfl
  rw [hv]
  have hb4 := below_alloc u3 (.cells #[.slice qsA 0 qsc, .slice qgA 0 qgc, .slice (some ⟨gF, 0, none⟩) 1 qfc] 26)
  have hO4 : pgO (u3.alloc (.cells #[.slice qsA 0 qsc, .slice qgA 0 qgc, .slice (some ⟨gF, 0, none⟩) 1 qfc] 26)) u2.heap.size u3.heap.size (PE.mk onePg qsA qsc qgA qgc (some ⟨gF, 0, none⟩) qfc).row.toList onePg := kpo_pg.on hQo ⟨hb4.size, fun k _ h => hb4.block k h⟩
  replace f0 := keepB (keepB f0 b3) hb4
  replace f1 := keepB (keepB f1 b3) hb4
  replace f2 := keepB (keepB f2 b3) hb4
  replace f3 := keepB (keepB f3 b3) hb4
  replace f4 := keepB (keepB f4 b3) hb4
  replace f5 := keepB (keepB f5 b3) hb4
  replace p0 := keepB (keepB p0 b3) hb4
  replace p1 := keepB (keepB p1 b3) hb4
  replace p2 := keepB (keepB p2 b3) hb4
  have q0 : (u3.alloc (.cells #[.slice qsA 0 qsc, .slice qgA 0 qgc, .slice (some ⟨gF, 0, none⟩) 1 qfc] 26)).cell? ⟨u3.heap.size, 0, none⟩ = some (.slice qsA 0 qsc) := cell_new u3 _ 26 0
  have q1 : (u3.alloc (.cells #[.slice qsA 0 qsc, .slice qgA 0 qgc, .slice (some ⟨gF, 0, none⟩) 1 qfc] 26)).cell? ⟨u3.heap.size, 1, none⟩ = some (.slice qgA 0 qgc) := cell_new u3 _ 26 1
  have q2 : (u3.alloc (.cells #[.slice qsA 0 qsc, .slice qgA 0 qgc, .slice (some ⟨gF, 0, none⟩) 1 qfc] 26)).cell? ⟨u3.heap.size, 2, none⟩ = some (.slice (some ⟨gF, 0, none⟩) 1 qfc) := cell_new u3 _ 26 2
  have i1 : (u3.alloc (.cells #[.slice qsA 0 qsc, .slice qgA 0 qgc, .slice (some ⟨gF, 0, none⟩) 1 qfc] 26)).cell? ⟨gF, 4, none⟩ = some (.slice (some ⟨gI, 0, none⟩) 3 KI) := by have := keepB hI.ci hb4; rwa [Nat.zero_mul, Nat.zero_add] at this
  have i2 : (u3.alloc (.cells #[.slice qsA 0 qsc, .slice qgA 0 qgc, .slice (some ⟨gF, 0, none⟩) 1 qfc] 26)).cell? ⟨gI, 12, none⟩ = some (.slice (some ⟨gA, 0, none⟩) 2 KA) := keepB hI.ca hb4
  have i3 : (u3.alloc (.cells #[.slice qsA 0 qsc, .slice qgA 0 qgc, .slice (some ⟨gF, 0, none⟩) 1 qfc] 26)).cell? ⟨gA, 0, none⟩ = some (.int .i64 0) := keepB hAc hb4
  have i4 : (u3.alloc (.cells #[.slice qsA 0 qsc, .slice qgA 0 qgc, .slice (some ⟨gF, 0, none⟩) 1 qfc] 26)).frozen? ⟨gA, 0, none⟩ = false := (hb4.frozen (p := ⟨gA, 0, none⟩) hAl).trans (hAf 0)
  obtain ⟨gF', KF', gI', KI', vA', hI'⟩ := ins_at hO4 hx2 hx3
  have hSET : pgO ((u3.alloc (.cells #[.slice qsA 0 qsc, .slice qgA 0 qgc, .slice (some ⟨gF, 0, none⟩) 1 qfc] 26)).setCell ⟨gA, 0, none⟩ (.int .i64 1)) u2.heap.size u3.heap.size (PE.mk onePg qsA qsc qgA qgc (some ⟨gF, 0, none⟩) qfc).row.toList oneQ := by
    obtain ⟨-, gA', KA', hvA', -, -, -, -, -, -, -, hs⟩ := hI'.arg 0 0 rfl
    have z0 : some (Value.slice (some ⟨gF, 0, none⟩) 1 qfc) = some (.slice (some ⟨gF', 0, none⟩) 1 KF') := hI'.c2
    injection z0 with z0
    injection z0 with z0
    injection z0 with z0
    injection z0 with z0
    subst z0
    have z1 := (keepB hI.ci hb4).symm.trans hI'.ci
    injection z1 with z1
    injection z1 with z1
    injection z1 with z1
    injection z1 with z1
    subst z1
    have z2 := (keepB hI.ca hb4).symm.trans hI'.ca
    rw [hvA'] at z2
    injection z2 with z2
    injection z2 with z2
    injection z2 with z2
    injection z2 with z2
    subst z2
    exact hs 1 (i64_small 1 (by decide) (by decide))
  have HSET := Lib.hid hSET
  have HB4 := Lib.hid (b3.trans (hb4.mono b3.size))
  have HBW4 := Lib.hid (HBW3.out.trans ((b3.trans (hb4.mono b3.size)).mono HBW3.out.size))
  have HLO : Hid (u2.heap.size ≤ gA) := hAlo
  have HHI : Hid (gA < u3.heap.size) := hAhi
  have HKF : Hid (1 ≤ qfc) := hI.lf
  have HNE : Hid (s1 < gA ∧ s1 + 2 < gA) := by
    have h1 := HSU0.out
    have h2 := HB2.out.size
    have h3 := HLO.out
    exact ⟨by omega, by omega⟩
  have HKI : Hid (3 ≤ KI) := hI.li
  clear hq hQo hI hAset hAc hAf hb4 hQM hx2 hx3 hAlo hAhi hAI hAF hAl hv hI' hSET hO4
  go_wp2_with fail
  have hbw : Below u2.heap.size u2 ((u3.alloc (.cells #[.slice qsA 0 qsc, .slice qgA 0 qgc, .slice (some ⟨gF, 0, none⟩) 1 qfc] 26)).setCell ⟨gA, 0, none⟩ (.int .i64 1)) := HB4.out.setCell (p := ⟨gA, 0, none⟩) HLO.out _
  replace f0 := cell_set_ne (k' := 0) (v := .int .i64 1) f0 (show s1 ≠ gA by have := HNE.out.1; omega)
  replace f1 := cell_set_ne (k' := 0) (v := .int .i64 1) f1 (show s1 ≠ gA by have := HNE.out.1; omega)
  replace f2 := cell_set_ne (k' := 0) (v := .int .i64 1) f2 (show s1 ≠ gA by have := HNE.out.1; omega)
  replace f3 := cell_set_ne (k' := 0) (v := .int .i64 1) f3 (show s1 ≠ gA by have := HNE.out.1; omega)
  replace f4 := cell_set_ne (k' := 0) (v := .int .i64 1) f4 (show s1 ≠ gA by have := HNE.out.1; omega)
  replace f5 := cell_set_ne (k' := 0) (v := .int .i64 1) f5 (show s1 ≠ gA by have := HNE.out.1; omega)
  replace p0 := cell_set_ne (k' := 0) (v := .int .i64 1) p0 (show s1 + 1 + 1 ≠ gA by have := HNE.out.2; omega)
  replace p1 := cell_set_ne (k' := 0) (v := .int .i64 1) p1 (show s1 + 1 + 1 ≠ gA by have := HNE.out.2; omega)
  replace p2 := cell_set_ne (k' := 0) (v := .int .i64 1) p2 (show s1 + 1 + 1 ≠ gA by have := HNE.out.2; omega)
  replace q0 := cell_set_ne (k' := 0) (v := .int .i64 1) q0 (show u3.heap.size ≠ gA by have := HHI.out; omega)
  replace q1 := cell_set_ne (k' := 0) (v := .int .i64 1) q1 (show u3.heap.size ≠ gA by have := HHI.out; omega)
  replace q2 := cell_set_ne (k' := 0) (v := .int .i64 1) q2 (show u3.heap.size ≠ gA by have := HHI.out; omega)
  clear i1 i2 i3 i4
  have HBF := Lib.hid (HBW3.out.trans (hbw.mono HBW3.out.size))
  have HB24 := Lib.hid hbw
  clear hbw HB4 HBW4
  generalize (u3.alloc (.cells #[.slice qsA 0 qsc, .slice qgA 0 qgc, .slice (some ⟨gF, 0, none⟩) 1 qfc] 26)).setCell ⟨gA, 0, none⟩ (.int .i64 1) = W4 at *
  obtain ⟨qb, hqb⟩ : ∃ b, u3.heap.size = b := ⟨_, rfl⟩
  rw [hqb] at q0 q1 q2 HSET HHI ⊢
  have HL1 := Lib.hid (HB12.out.trans (HB24.out.mono HB12.out.size))
  obtain ⟨lb, lo, rfl, hlb, hlc⟩ := HS.out (by rw [one_len]; decide)
  obtain ⟨cs0, rfl, hl0⟩ := hlc 0 _ one_l0
  obtain ⟨cs5, rfl, hl5⟩ := hlc 5 _ one_l5
  have l0 := keepB (hl0 0 _ rfl) HL1.out
  have l5 := keepB (hl5 0 _ rfl) HL1.out
  simp only [Nat.zero_mul, Nat.add_zero, Nat.mul_one] at l0 l5
  obtain ⟨ub, uo, rfl, hub, huc⟩ := HS2.out (by decide)
  obtain ⟨csu, ⟨rfl, -⟩, hu0⟩ := huc 0 2 rfl
  have n0 := keepB (hu0 0 _ rfl) HB24.out
  simp only [Nat.zero_mul, Nat.add_zero] at n0
  have HME := Lib.hid (HM2.out.drop ((HB2.out.trans (HB24.out.mono HB2.out.size))))
  have HPE := Lib.hid (HP.out.drop ((HB2.out.trans (HB24.out.mono HB2.out.size))))
  have HGE := Lib.hid (HG2.out.drop ((HB2.out.trans (HB24.out.mono HB2.out.size))))
  have HQE := Lib.hid (pm_row (rd_pg.rd HSET.out)).2.2.2
  have hc1 := HC1.out
  have hc2 := HC2.out
  have KL : Hid (∀ w', Below W4.heap.size W4 w' → Calls Tryd.prog 25 #[E.v, .int .i64 2] w' fun e w2 => e = .returned (.string ⟨#[118, 50, 32, 61, 32, 97, 100, 100, 32, 105, 110, 116, 32, 48, 32, 118, 48, 32, 118, 49]⟩) ∧ Below w'.heap.size w' w2) := fun w' hb => by
    have h := lineOf_any E 2 w' (HME.out.drop hb) ⟨by decide, by decide⟩ (HGE.out.drop hb) (by rw [HEf.out]; exact (one_bd.f oneF (by simp [onePg])).i)
    rw [HEf.out, one_line] at h
    exact h
  have KS : Hid (∀ w', Below W4.heap.size W4 w' → Calls Tryd.prog 13 #[(PE.mk onePg none 0 none 0 (some ⟨s1 + 1, 0, none⟩) 1).v, (PE.mk oneQ qsA qsc qgA qgc (some ⟨gF, 0, none⟩) qfc).v] w' fun e w2 => e = .returned (.bool false) ∧ Below w'.heap.size w' w2) := fun w' hb =>
    same_any _ _ false w' (HPE.out.drop hb) (HQE.out.drop hb) (Lib.hid ⟨fun h => Bool.noConfusion h, fun h => absurd h one_ne⟩)
  have KC : Hid (∀ w', Below W4.heap.size W4 w' → Calls Tryd.prog 27 #[(PE.mk onePg none 0 none 0 (some ⟨s1 + 1, 0, none⟩) 1).v] w' fun e w2 => ∃ Q2 : PE, e = .returned Q2.v ∧ Q2.p = onePg ∧ PM Q2 w2 ∧ Below w'.heap.size w' w2) := fun w' hb =>
    (clone_any _ w' (HPE.out.drop hb) one_sm).mono fun e w2 h => by
      obtain ⟨Q2, z1, z2, z3, -, z4⟩ := clone_pe h
      exact ⟨Q2, z1, z2, z3, z4⟩
  have K16a := Lib.hid isop34
  have K16b := Lib.hid isop19
  have K17 := Lib.hid args26
  have K19a := Lib.hid quiet1
  have K19b := Lib.hid quiet25
  have K15 := Lib.hid word24
  clear hlb hlc hl0 hl5 hub huc hu0 hqb
  refine rgS (fun w' => Below W4.heap.size W4 w' ∧ w'.cell? ⟨s1, 0, none⟩ = some (.string E.f.name) ∧ w'.cell? ⟨s1, 1, none⟩ = some (.slice E.pA E.f.params.length E.pc) ∧ w'.cell? ⟨s1, 2, none⟩ = some (.string E.f.res) ∧ w'.cell? ⟨s1, 3, none⟩ = some (.slice E.sA E.f.slots.length E.sc) ∧ w'.cell? ⟨s1, 4, none⟩ = some (.slice E.iA E.f.ins.length E.ic) ∧ w'.cell? ⟨s1, 5, none⟩ = some (.slice E.bA E.f.blocks.length E.bc) ∧ w'.cell? ⟨s1 + 1 + 1, 0, none⟩ = some (.slice none 0 0) ∧ w'.cell? ⟨s1 + 1 + 1, 1, none⟩ = some (.slice none 0 0) ∧ w'.cell? ⟨s1 + 1 + 1, 2, none⟩ = some (.slice (some ⟨s1 + 1, 0, none⟩) 1 1) ∧ w'.cell? ⟨qb, 0, none⟩ = some (.slice qsA 0 qsc) ∧ w'.cell? ⟨qb, 1, none⟩ = some (.slice qgA 0 qgc) ∧ w'.cell? ⟨qb, 2, none⟩ = some (.slice (some ⟨gF, 0, none⟩) 1 qfc) ∧ w'.cell? ⟨lb, lo, none⟩ = some (.string ⟨#[102, 117, 110, 99, 32, 102, 32, 105, 110, 116, 32, 105, 110, 116, 32, 45, 62, 32, 105, 110, 116]⟩) ∧ w'.cell? ⟨lb, lo + 5, none⟩ = some (.string ⟨#[114, 101, 116, 32, 118, 50]⟩) ∧ w'.cell? ⟨ub, uo, none⟩ = some (.int .i64 2)) (by kernel_rfl) (⟨(Below.refl _ _).drew, f0, f1, f2, f3, f4, f5, p0, p1, p2, q0, q1, q2, l0, l5, n0⟩) (fun _ a d v _ h => And.intro ((put_df a d v).symm.trans (And.left h)) (And.right h)) fun hHeld hq => ?_
  refine tkS 0 { dst := some 50, op := .load 40 (.tmp 1), type := 40, pos := "law.go:26", after := #[], guard := none } (v := ?v1_0) hq hHeld rfl (by kernel_rfl) ?y1_0 ?_
  case y1_0 => (intro w h; try dsimp only at h); go_simp <;> with_reducible rfl
  try simp only [Act.put, List.setIfInBounds_toArray, List.set_cons_zero, List.set_cons_succ]
  refine clS 1 { dst := some 51, op := .call { callee := .value (.func 25), args := #[.tmp 50, .const (.int .i64 2)], argTypes := #[40, 3] }, type := 9, pos := "law.go:26", after := #[{ on := 0, ground := .data }], guard := none } rfl (by kernel_rfl) (by kernel_rfl) fun Kc hK => ?_
  go_simp
  refine (KL.out _ hHeld.1).mono ?_
  rintro e w4 ⟨rfl, b4⟩
  refine hK.out _ _ (keepAw hHeld b4) fun hHeld => ?_
  clear b4
  clear hK Kc
  try simp only [Act.put, List.setIfInBounds_toArray, List.set_cons_zero, List.set_cons_succ]
  refine tkS 2 { dst := some 52, op := .binOp .eql 9 (.tmp 51) (.const (.string { data := #[118, 50, 32, 61, 32, 97, 100, 100, 32, 105, 110, 116, 32, 48, 32, 118, 48, 32, 118, 49] })) 9, type := 4, pos := "law.go:26", after := #[{ on := 1, ground := .data }], guard := none } (v := ?v1_2) hq hHeld rfl (by kernel_rfl) ?y1_2 ?_
  case y1_2 => (intro w h; try dsimp only at h); go_simp <;> with_reducible rfl
  try simp only [Act.put, List.setIfInBounds_toArray, List.set_cons_zero, List.set_cons_succ]
  refine tkS 3 { dst := some 53, op := .move (.tmp 52), type := 4, pos := "law.go:26", after := #[{ on := 2, ground := .data }, { on := 1, ground := .chain }], guard := none } (v := ?v1_3) hq hHeld rfl (by kernel_rfl) ?y1_3 ?_
  case y1_3 => (intro w h; try dsimp only at h); go_simp <;> with_reducible rfl
  try simp only [Act.put, List.setIfInBounds_toArray, List.set_cons_zero, List.set_cons_succ]
  refine tkS 4 { dst := some 54, op := .move (.tmp 3), type := 31, pos := "law.go:26", after := #[{ on := 3, ground := .guard }], guard := some (3, true) } (v := ?v1_4) hq hHeld rfl (by kernel_rfl) ?y1_4 ?_
  case y1_4 => (intro w h; try dsimp only at h); go_simp <;> with_reducible rfl
  try simp only [Act.put, List.setIfInBounds_toArray, List.set_cons_zero, List.set_cons_succ]
  refine tkS 5 { dst := some 55, op := .call { callee := .builtin .len, args := #[.tmp 54], argTypes := #[31] }, type := 3, pos := "law.go:26", after := #[{ on := 4, ground := .data }, { on := 3, ground := .guard }], guard := some (3, true) } (v := ?v1_5) hq hHeld rfl (by kernel_rfl) ?y1_5 ?_
  case y1_5 => (intro w h; try dsimp only at h); go_simp <;> with_reducible rfl
  try simp only [Act.put, List.setIfInBounds_toArray, List.set_cons_zero, List.set_cons_succ]
  refine tkS 6 { dst := some 56, op := .binOp .eql 3 (.tmp 55) (.const (.int .i64 6)) 3, type := 4, pos := "law.go:26", after := #[{ on := 5, ground := .data }, { on := 3, ground := .guard }], guard := some (3, true) } (v := ?v1_6) hq hHeld rfl (by kernel_rfl) ?y1_6 ?_
  case y1_6 => (intro w h; try dsimp only at h); go_simp <;> with_reducible rfl
  try simp only [Act.put, List.setIfInBounds_toArray, List.set_cons_zero, List.set_cons_succ]
  refine tkS 7 { dst := some 57, op := .pick (.tmp 53) (.tmp 56) (.const (.bool false)), type := 4, pos := "law.go:26", after := #[{ on := 3, ground := .data }, { on := 6, ground := .data }], guard := none } (v := ?v1_7) hq hHeld rfl (by kernel_rfl) ?y1_7 ?_
  case y1_7 => (intro w h; try dsimp only at h); go_simp <;> with_reducible rfl
  try simp only [Act.put, List.setIfInBounds_toArray, List.set_cons_zero, List.set_cons_succ]
  refine tkS 8 { dst := some 58, op := .move (.tmp 57), type := 4, pos := "law.go:26", after := #[{ on := 7, ground := .data }, { on := 3, ground := .chain }], guard := none } (v := ?v1_8) hq hHeld rfl (by kernel_rfl) ?y1_8 ?_
  case y1_8 => (intro w h; try dsimp only at h); go_simp <;> with_reducible rfl
  try simp only [Act.put, List.setIfInBounds_toArray, List.set_cons_zero, List.set_cons_succ]
  refine tkS 9 { dst := some 59, op := .move (.tmp 3), type := 31, pos := "law.go:26", after := #[{ on := 8, ground := .guard }], guard := some (8, true) } (v := ?v1_9) hq hHeld rfl (by kernel_rfl) ?y1_9 ?_
  case y1_9 => (intro w h; try dsimp only at h); go_simp <;> with_reducible rfl
  try simp only [Act.put, List.setIfInBounds_toArray, List.set_cons_zero, List.set_cons_succ]
  refine tkS 10 { dst := some 60, op := .indexAddr 31 (.tmp 59) (.const (.int .i64 0)), type := 0, pos := "law.go:26", after := #[{ on := 9, ground := .data }, { on := 8, ground := .guard }], guard := some (8, true) } (v := ?v1_10) hq hHeld rfl (by kernel_rfl) ?y1_10 ?_
  case y1_10 => (intro w h; try dsimp only at h); go_simp <;> with_reducible rfl
  try simp only [Act.put, List.setIfInBounds_toArray, List.set_cons_zero, List.set_cons_succ]
  refine tkS 11 { dst := some 61, op := .load 9 (.tmp 60), type := 9, pos := "law.go:26", after := #[{ on := 10, ground := .data }, { on := 8, ground := .guard }], guard := some (8, true) } (v := ?v1_11) hq hHeld rfl (by kernel_rfl) ?y1_11 ?_
  case y1_11 => (intro w h; try dsimp only at h); go_simp <;> with_reducible rfl
  try simp only [Act.put, List.setIfInBounds_toArray, List.set_cons_zero, List.set_cons_succ]
  refine tkS 12 { dst := some 62, op := .binOp .eql 9 (.tmp 61) (.const (.string { data := #[102, 117, 110, 99, 32, 102, 32, 105, 110, 116, 32, 105, 110, 116, 32, 45, 62, 32, 105, 110, 116] })) 9, type := 4, pos := "law.go:26", after := #[{ on := 11, ground := .data }, { on := 8, ground := .guard }], guard := some (8, true) } (v := ?v1_12) hq hHeld rfl (by kernel_rfl) ?y1_12 ?_
  case y1_12 => (intro w h; try dsimp only at h); go_simp <;> with_reducible rfl
  try simp only [Act.put, List.setIfInBounds_toArray, List.set_cons_zero, List.set_cons_succ]
  refine tkS 13 { dst := some 63, op := .pick (.tmp 58) (.tmp 62) (.const (.bool false)), type := 4, pos := "law.go:26", after := #[{ on := 8, ground := .data }, { on := 12, ground := .data }], guard := none } (v := ?v1_13) hq hHeld rfl (by kernel_rfl) ?y1_13 ?_
  case y1_13 => (intro w h; try dsimp only at h); go_simp <;> with_reducible rfl
  try simp only [Act.put, List.setIfInBounds_toArray, List.set_cons_zero, List.set_cons_succ]
  refine tkS 14 { dst := some 64, op := .move (.tmp 63), type := 4, pos := "law.go:26", after := #[{ on := 13, ground := .data }, { on := 8, ground := .chain }], guard := none } (v := ?v1_14) hq hHeld rfl (by kernel_rfl) ?y1_14 ?_
  case y1_14 => (intro w h; try dsimp only at h); go_simp <;> with_reducible rfl
  try simp only [Act.put, List.setIfInBounds_toArray, List.set_cons_zero, List.set_cons_succ]
  refine tkS 15 { dst := some 65, op := .move (.tmp 3), type := 31, pos := "law.go:26", after := #[{ on := 14, ground := .guard }], guard := some (14, true) } (v := ?v1_15) hq hHeld rfl (by kernel_rfl) ?y1_15 ?_
  case y1_15 => (intro w h; try dsimp only at h); go_simp <;> with_reducible rfl
  try simp only [Act.put, List.setIfInBounds_toArray, List.set_cons_zero, List.set_cons_succ]
  refine tkS 16 { dst := some 66, op := .indexAddr 31 (.tmp 65) (.const (.int .i64 5)), type := 0, pos := "law.go:26", after := #[{ on := 15, ground := .data }, { on := 14, ground := .guard }], guard := some (14, true) } (v := ?v1_16) hq hHeld rfl (by kernel_rfl) ?y1_16 ?_
  case y1_16 => (intro w h; try dsimp only at h); go_simp <;> with_reducible rfl
  try simp only [Act.put, List.setIfInBounds_toArray, List.set_cons_zero, List.set_cons_succ]
  refine tkS 17 { dst := some 67, op := .load 9 (.tmp 66), type := 9, pos := "law.go:26", after := #[{ on := 16, ground := .data }, { on := 14, ground := .guard }], guard := some (14, true) } (v := ?v1_17) hq hHeld rfl (by kernel_rfl) ?y1_17 ?_
  case y1_17 => (intro w h; try dsimp only at h); go_simp <;> with_reducible rfl
  try simp only [Act.put, List.setIfInBounds_toArray, List.set_cons_zero, List.set_cons_succ]
  refine tkS 18 { dst := some 68, op := .binOp .eql 9 (.tmp 67) (.const (.string { data := #[114, 101, 116, 32, 118, 50] })) 9, type := 4, pos := "law.go:26", after := #[{ on := 17, ground := .data }, { on := 14, ground := .guard }], guard := some (14, true) } (v := ?v1_18) hq hHeld rfl (by kernel_rfl) ?y1_18 ?_
  case y1_18 => (intro w h; try dsimp only at h); go_simp <;> with_reducible rfl
  try simp only [Act.put, List.setIfInBounds_toArray, List.set_cons_zero, List.set_cons_succ]
  refine tkS 19 { dst := some 69, op := .pick (.tmp 64) (.tmp 68) (.const (.bool false)), type := 4, pos := "law.go:26", after := #[{ on := 14, ground := .data }, { on := 18, ground := .data }], guard := none } (v := ?v1_19) hq hHeld rfl (by kernel_rfl) ?y1_19 ?_
  case y1_19 => (intro w h; try dsimp only at h); go_simp <;> with_reducible rfl
  try simp only [Act.put, List.setIfInBounds_toArray, List.set_cons_zero, List.set_cons_succ]
  refine tkS 20 { dst := some 70, op := .move (.tmp 69), type := 4, pos := "law.go:26", after := #[{ on := 19, ground := .data }, { on := 14, ground := .chain }], guard := none } (v := ?v1_20) hq hHeld rfl (by kernel_rfl) ?y1_20 ?_
  case y1_20 => (intro w h; try dsimp only at h); go_simp <;> with_reducible rfl
  try simp only [Act.put, List.setIfInBounds_toArray, List.set_cons_zero, List.set_cons_succ]
  refine tkS 21 { dst := some 71, op := .move (.tmp 4), type := 42, pos := "law.go:26", after := #[{ on := 20, ground := .guard }], guard := some (20, true) } (v := ?v1_21) hq hHeld rfl (by kernel_rfl) ?y1_21 ?_
  case y1_21 => (intro w h; try dsimp only at h); go_simp <;> with_reducible rfl
  try simp only [Act.put, List.setIfInBounds_toArray, List.set_cons_zero, List.set_cons_succ]
  refine tkS 22 { dst := some 72, op := .call { callee := .builtin .len, args := #[.tmp 71], argTypes := #[42] }, type := 3, pos := "law.go:26", after := #[{ on := 21, ground := .data }, { on := 20, ground := .guard }], guard := some (20, true) } (v := ?v1_22) hq hHeld rfl (by kernel_rfl) ?y1_22 ?_
  case y1_22 => (intro w h; try dsimp only at h); go_simp <;> with_reducible rfl
  try simp only [Act.put, List.setIfInBounds_toArray, List.set_cons_zero, List.set_cons_succ]
  refine tkS 23 { dst := some 73, op := .binOp .eql 3 (.tmp 72) (.const (.int .i64 1)) 3, type := 4, pos := "law.go:26", after := #[{ on := 22, ground := .data }, { on := 20, ground := .guard }], guard := some (20, true) } (v := ?v1_23) hq hHeld rfl (by kernel_rfl) ?y1_23 ?_
  case y1_23 => (intro w h; try dsimp only at h); go_simp <;> with_reducible rfl
  try simp only [Act.put, List.setIfInBounds_toArray, List.set_cons_zero, List.set_cons_succ]
  refine tkS 24 { dst := some 74, op := .pick (.tmp 70) (.tmp 73) (.const (.bool false)), type := 4, pos := "law.go:26", after := #[{ on := 20, ground := .data }, { on := 23, ground := .data }], guard := none } (v := ?v1_24) hq hHeld rfl (by kernel_rfl) ?y1_24 ?_
  case y1_24 => (intro w h; try dsimp only at h); go_simp <;> with_reducible rfl
  try simp only [Act.put, List.setIfInBounds_toArray, List.set_cons_zero, List.set_cons_succ]
  refine tkS 25 { dst := some 75, op := .move (.tmp 74), type := 4, pos := "law.go:26", after := #[{ on := 24, ground := .data }, { on := 20, ground := .chain }], guard := none } (v := ?v1_25) hq hHeld rfl (by kernel_rfl) ?y1_25 ?_
  case y1_25 => (intro w h; try dsimp only at h); go_simp <;> with_reducible rfl
  try simp only [Act.put, List.setIfInBounds_toArray, List.set_cons_zero, List.set_cons_succ]
  refine tkS 26 { dst := some 76, op := .move (.tmp 4), type := 42, pos := "law.go:26", after := #[{ on := 25, ground := .guard }], guard := some (25, true) } (v := ?v1_26) hq hHeld rfl (by kernel_rfl) ?y1_26 ?_
  case y1_26 => (intro w h; try dsimp only at h); go_simp <;> with_reducible rfl
  try simp only [Act.put, List.setIfInBounds_toArray, List.set_cons_zero, List.set_cons_succ]
  refine tkS 27 { dst := some 77, op := .indexAddr 42 (.tmp 76) (.const (.int .i64 0)), type := 0, pos := "law.go:26", after := #[{ on := 26, ground := .data }, { on := 25, ground := .guard }], guard := some (25, true) } (v := ?v1_27) hq hHeld rfl (by kernel_rfl) ?y1_27 ?_
  case y1_27 => (intro w h; try dsimp only at h); go_simp <;> with_reducible rfl
  try simp only [Act.put, List.setIfInBounds_toArray, List.set_cons_zero, List.set_cons_succ]
  refine tkS 28 { dst := some 78, op := .load 3 (.tmp 77), type := 3, pos := "law.go:26", after := #[{ on := 27, ground := .data }, { on := 25, ground := .guard }], guard := some (25, true) } (v := ?v1_28) hq hHeld rfl (by kernel_rfl) ?y1_28 ?_
  case y1_28 => (intro w h; try dsimp only at h); go_simp <;> with_reducible rfl
  try simp only [Act.put, List.setIfInBounds_toArray, List.set_cons_zero, List.set_cons_succ]
  refine tkS 29 { dst := some 79, op := .binOp .eql 3 (.tmp 78) (.const (.int .i64 2)) 3, type := 4, pos := "law.go:26", after := #[{ on := 28, ground := .data }, { on := 25, ground := .guard }], guard := some (25, true) } (v := ?v1_29) hq hHeld rfl (by kernel_rfl) ?y1_29 ?_
  case y1_29 => (intro w h; try dsimp only at h); go_simp <;> with_reducible rfl
  try simp only [Act.put, List.setIfInBounds_toArray, List.set_cons_zero, List.set_cons_succ]
  refine tkS 30 { dst := some 80, op := .pick (.tmp 75) (.tmp 79) (.const (.bool false)), type := 4, pos := "law.go:26", after := #[{ on := 25, ground := .data }, { on := 29, ground := .data }], guard := none } (v := ?v1_30) hq hHeld rfl (by kernel_rfl) ?y1_30 ?_
  case y1_30 => (intro w h; try dsimp only at h); go_simp <;> with_reducible rfl
  try simp only [Act.put, List.setIfInBounds_toArray, List.set_cons_zero, List.set_cons_succ]
  refine tkS 31 { dst := some 81, op := .move (.tmp 80), type := 4, pos := "law.go:26", after := #[{ on := 30, ground := .data }, { on := 25, ground := .chain }], guard := none } (v := ?v1_31) hq hHeld rfl (by kernel_rfl) ?y1_31 ?_
  case y1_31 => (intro w h; try dsimp only at h); go_simp <;> with_reducible rfl
  try simp only [Act.put, List.setIfInBounds_toArray, List.set_cons_zero, List.set_cons_succ]
  refine tkS 32 { dst := some 82, op := .load 26 (.tmp 2), type := 26, pos := "law.go:26", after := #[{ on := 31, ground := .guard }], guard := some (31, true) } (v := ?v1_32) hq hHeld rfl (by kernel_rfl) ?y1_32 ?_
  case y1_32 => (intro w h; try dsimp only at h); go_simp <;> with_reducible rfl
  try simp only [Act.put, List.setIfInBounds_toArray, List.set_cons_zero, List.set_cons_succ]
  refine tkS 33 { dst := some 83, op := .load 26 (.tmp 5), type := 26, pos := "law.go:26", after := #[{ on := 31, ground := .guard }], guard := some (31, true) } (v := ?v1_33) hq hHeld rfl (by kernel_rfl) ?y1_33 ?_
  case y1_33 => (intro w h; try dsimp only at h); go_simp <;> with_reducible rfl
  try simp only [Act.put, List.setIfInBounds_toArray, List.set_cons_zero, List.set_cons_succ]
  refine clS 34 { dst := some 84, op := .call { callee := .value (.func 13), args := #[.tmp 82, .tmp 83], argTypes := #[26, 26] }, type := 4, pos := "law.go:26", after := #[{ on := 32, ground := .data }, { on := 33, ground := .data }, { on := 31, ground := .chain }, { on := 31, ground := .guard }], guard := some (31, true) } rfl (by kernel_rfl) (by kernel_rfl) fun Kc hK => ?_
  go_simp
  refine (KS.out _ hHeld.1).mono ?_
  rintro e w4 ⟨rfl, b4⟩
  refine hK.out _ _ (keepAw hHeld b4) fun hHeld => ?_
  clear b4
  clear hK Kc
  try simp only [Act.put, List.setIfInBounds_toArray, List.set_cons_zero, List.set_cons_succ]
  refine tkS 35 { dst := some 85, op := .unOp .not 4 (.tmp 84), type := 4, pos := "law.go:26", after := #[{ on := 34, ground := .data }, { on := 31, ground := .guard }], guard := some (31, true) } (v := ?v1_35) hq hHeld rfl (by kernel_rfl) ?y1_35 ?_
  case y1_35 => (intro w h; try dsimp only at h); go_simp <;> with_reducible rfl
  try simp only [Act.put, List.setIfInBounds_toArray, List.set_cons_zero, List.set_cons_succ]
  refine tkS 36 { dst := some 86, op := .pick (.tmp 81) (.tmp 85) (.const (.bool false)), type := 4, pos := "law.go:26", after := #[{ on := 31, ground := .data }, { on := 35, ground := .data }], guard := none } (v := ?v1_36) hq hHeld rfl (by kernel_rfl) ?y1_36 ?_
  case y1_36 => (intro w h; try dsimp only at h); go_simp <;> with_reducible rfl
  try simp only [Act.put, List.setIfInBounds_toArray, List.set_cons_zero, List.set_cons_succ]
  refine tkS 37 { dst := some 87, op := .move (.tmp 86), type := 4, pos := "law.go:26", after := #[{ on := 36, ground := .data }, { on := 34, ground := .chain }], guard := none } (v := ?v1_37) hq hHeld rfl (by kernel_rfl) ?y1_37 ?_
  case y1_37 => (intro w h; try dsimp only at h); go_simp <;> with_reducible rfl
  try simp only [Act.put, List.setIfInBounds_toArray, List.set_cons_zero, List.set_cons_succ]
  refine tkS 38 { dst := some 88, op := .load 26 (.tmp 2), type := 26, pos := "law.go:26", after := #[{ on := 37, ground := .guard }], guard := some (37, true) } (v := ?v1_38) hq hHeld rfl (by kernel_rfl) ?y1_38 ?_
  case y1_38 => (intro w h; try dsimp only at h); go_simp <;> with_reducible rfl
  try simp only [Act.put, List.setIfInBounds_toArray, List.set_cons_zero, List.set_cons_succ]
  refine tkS 39 { dst := some 89, op := .load 26 (.tmp 2), type := 26, pos := "law.go:26", after := #[{ on := 37, ground := .guard }], guard := some (37, true) } (v := ?v1_39) hq hHeld rfl (by kernel_rfl) ?y1_39 ?_
  case y1_39 => (intro w h; try dsimp only at h); go_simp <;> with_reducible rfl
  try simp only [Act.put, List.setIfInBounds_toArray, List.set_cons_zero, List.set_cons_succ]
  refine clS 40 { dst := some 90, op := .call { callee := .value (.func 27), args := #[.tmp 89], argTypes := #[26] }, type := 26, pos := "law.go:26", after := #[{ on := 39, ground := .data }, { on := 37, ground := .chain }, { on := 37, ground := .guard }], guard := some (37, true) } rfl (by kernel_rfl) (by kernel_rfl) fun Kc hK => ?_
  go_simp
  refine (KC.out _ hHeld.1).mono ?_
  rintro e w4 ⟨Q2, rfl, hq2, hm2, b4⟩
  have HQ2 := Lib.hid hq2
  have HM4 := Lib.hid hm2
  unfold PE.v PE.row
  refine hK.out _ _ (keepAw hHeld b4) fun hHeld => ?_
  clear b4 hq2 hm2
  clear hK Kc
  try simp only [Act.put, List.setIfInBounds_toArray, List.set_cons_zero, List.set_cons_succ]
  refine clS 41 { dst := some 91, op := .call { callee := .value (.func 13), args := #[.tmp 88, .tmp 90], argTypes := #[26, 26] }, type := 4, pos := "law.go:26", after := #[{ on := 38, ground := .data }, { on := 40, ground := .data }, { on := 40, ground := .chain }, { on := 37, ground := .guard }], guard := some (37, true) } rfl (by kernel_rfl) (by kernel_rfl) fun Kc hK => ?_
  go_simp
  refine (same_any (PE.mk onePg none 0 none 0 (some ⟨s1 + 1, 0, none⟩) 1) Q2 true _ (HPE.out.drop hHeld.1) HM4.out (Lib.hid ⟨fun _ => HQ2.out.symm, fun _ => rfl⟩)).mono ?_
  rintro e w4 ⟨rfl, b4⟩
  refine hK.out _ _ (keepAw hHeld b4) fun hHeld => ?_
  clear b4
  clear hK Kc
  try simp only [Act.put, List.setIfInBounds_toArray, List.set_cons_zero, List.set_cons_succ]
  refine tkS 42 { dst := some 92, op := .pick (.tmp 87) (.tmp 91) (.const (.bool false)), type := 4, pos := "law.go:26", after := #[{ on := 37, ground := .data }, { on := 41, ground := .data }], guard := none } (v := ?v1_42) hq hHeld rfl (by kernel_rfl) ?y1_42 ?_
  case y1_42 => (intro w h; try dsimp only at h); go_simp <;> with_reducible rfl
  try simp only [Act.put, List.setIfInBounds_toArray, List.set_cons_zero, List.set_cons_succ]
  refine tkS 43 { dst := some 93, op := .move (.tmp 92), type := 4, pos := "law.go:26", after := #[{ on := 42, ground := .data }, { on := 41, ground := .chain }], guard := none } (v := ?v1_43) hq hHeld rfl (by kernel_rfl) ?y1_43 ?_
  case y1_43 => (intro w h; try dsimp only at h); go_simp <;> with_reducible rfl
  try simp only [Act.put, List.setIfInBounds_toArray, List.set_cons_zero, List.set_cons_succ]
  refine clS 44 { dst := some 94, op := .call { callee := .value (.func 16), args := #[.const (.int .i64 34)], argTypes := #[3] }, type := 4, pos := "law.go:26", after := #[{ on := 43, ground := .chain }, { on := 43, ground := .guard }], guard := some (43, true) } rfl (by kernel_rfl) (by kernel_rfl) fun Kc hK => ?_
  go_simp
  refine (K16a.out _ (HGE.out.drop hHeld.1)).mono ?_
  rintro e w4 ⟨rfl, rfl⟩
  refine hK.out _ _ hHeld fun hHeld => ?_
  skip
  clear hK Kc
  try simp only [Act.put, List.setIfInBounds_toArray, List.set_cons_zero, List.set_cons_succ]
  refine tkS 45 { dst := some 95, op := .pick (.tmp 93) (.tmp 94) (.const (.bool false)), type := 4, pos := "law.go:26", after := #[{ on := 43, ground := .data }, { on := 44, ground := .data }], guard := none } (v := ?v1_45) hq hHeld rfl (by kernel_rfl) ?y1_45 ?_
  case y1_45 => (intro w h; try dsimp only at h); go_simp <;> with_reducible rfl
  try simp only [Act.put, List.setIfInBounds_toArray, List.set_cons_zero, List.set_cons_succ]
  refine tkS 46 { dst := some 96, op := .move (.tmp 95), type := 4, pos := "law.go:26", after := #[{ on := 45, ground := .data }, { on := 44, ground := .chain }], guard := none } (v := ?v1_46) hq hHeld rfl (by kernel_rfl) ?y1_46 ?_
  case y1_46 => (intro w h; try dsimp only at h); go_simp <;> with_reducible rfl
  try simp only [Act.put, List.setIfInBounds_toArray, List.set_cons_zero, List.set_cons_succ]
  refine clS 47 { dst := some 97, op := .call { callee := .value (.func 16), args := #[.const (.int .i64 19)], argTypes := #[3] }, type := 4, pos := "law.go:26", after := #[{ on := 46, ground := .chain }, { on := 46, ground := .guard }], guard := some (46, true) } rfl (by kernel_rfl) (by kernel_rfl) fun Kc hK => ?_
  go_simp
  refine (K16b.out _ (HGE.out.drop hHeld.1)).mono ?_
  rintro e w4 ⟨rfl, rfl⟩
  refine hK.out _ _ hHeld fun hHeld => ?_
  skip
  clear hK Kc
  try simp only [Act.put, List.setIfInBounds_toArray, List.set_cons_zero, List.set_cons_succ]
  refine tkS 48 { dst := some 98, op := .unOp .not 4 (.tmp 97), type := 4, pos := "law.go:26", after := #[{ on := 47, ground := .data }, { on := 46, ground := .guard }], guard := some (46, true) } (v := ?v1_48) hq hHeld rfl (by kernel_rfl) ?y1_48 ?_
  case y1_48 => (intro w h; try dsimp only at h); go_simp <;> with_reducible rfl
  try simp only [Act.put, List.setIfInBounds_toArray, List.set_cons_zero, List.set_cons_succ]
  refine tkS 49 { dst := some 99, op := .pick (.tmp 96) (.tmp 98) (.const (.bool false)), type := 4, pos := "law.go:26", after := #[{ on := 46, ground := .data }, { on := 48, ground := .data }], guard := none } (v := ?v1_49) hq hHeld rfl (by kernel_rfl) ?y1_49 ?_
  case y1_49 => (intro w h; try dsimp only at h); go_simp <;> with_reducible rfl
  try simp only [Act.put, List.setIfInBounds_toArray, List.set_cons_zero, List.set_cons_succ]
  refine tkS 50 { dst := some 100, op := .move (.tmp 99), type := 4, pos := "law.go:26", after := #[{ on := 49, ground := .data }, { on := 47, ground := .chain }], guard := none } (v := ?v1_50) hq hHeld rfl (by kernel_rfl) ?y1_50 ?_
  case y1_50 => (intro w h; try dsimp only at h); go_simp <;> with_reducible rfl
  try simp only [Act.put, List.setIfInBounds_toArray, List.set_cons_zero, List.set_cons_succ]
  refine clS 51 { dst := some 101, op := .call { callee := .value (.func 17), args := #[.const (.int .i64 26)], argTypes := #[3] }, type := 3, pos := "law.go:26", after := #[{ on := 50, ground := .chain }, { on := 50, ground := .guard }], guard := some (50, true) } rfl (by kernel_rfl) (by kernel_rfl) fun Kc hK => ?_
  go_simp
  refine (K17.out _).mono ?_
  rintro e w4 ⟨rfl, rfl⟩
  refine hK.out _ _ hHeld fun hHeld => ?_
  skip
  clear hK Kc
  try simp only [Act.put, List.setIfInBounds_toArray, List.set_cons_zero, List.set_cons_succ]
  refine tkS 52 { dst := some 102, op := .binOp .eql 3 (.tmp 101) (.const (.int .i64 2)) 3, type := 4, pos := "law.go:26", after := #[{ on := 51, ground := .data }, { on := 50, ground := .guard }], guard := some (50, true) } (v := ?v1_52) hq hHeld rfl (by kernel_rfl) ?y1_52 ?_
  case y1_52 => (intro w h; try dsimp only at h); go_simp <;> with_reducible rfl
  try simp only [Act.put, List.setIfInBounds_toArray, List.set_cons_zero, List.set_cons_succ]
  refine tkS 53 { dst := some 103, op := .pick (.tmp 100) (.tmp 102) (.const (.bool false)), type := 4, pos := "law.go:26", after := #[{ on := 50, ground := .data }, { on := 52, ground := .data }], guard := none } (v := ?v1_53) hq hHeld rfl (by kernel_rfl) ?y1_53 ?_
  case y1_53 => (intro w h; try dsimp only at h); go_simp <;> with_reducible rfl
  try simp only [Act.put, List.setIfInBounds_toArray, List.set_cons_zero, List.set_cons_succ]
  refine tkS 54 { dst := some 104, op := .move (.tmp 103), type := 4, pos := "law.go:26", after := #[{ on := 53, ground := .data }, { on := 51, ground := .chain }], guard := none } (v := ?v1_54) hq hHeld rfl (by kernel_rfl) ?y1_54 ?_
  case y1_54 => (intro w h; try dsimp only at h); go_simp <;> with_reducible rfl
  try simp only [Act.put, List.setIfInBounds_toArray, List.set_cons_zero, List.set_cons_succ]
  refine clS 55 { dst := some 105, op := .call { callee := .value (.func 19), args := #[.const (.int .i64 1)], argTypes := #[3] }, type := 4, pos := "law.go:26", after := #[{ on := 54, ground := .chain }, { on := 54, ground := .guard }], guard := some (54, true) } rfl (by kernel_rfl) (by kernel_rfl) fun Kc hK => ?_
  go_simp
  refine (K19a.out _).mono ?_
  rintro e w4 ⟨rfl, rfl⟩
  refine hK.out _ _ hHeld fun hHeld => ?_
  skip
  clear hK Kc
  try simp only [Act.put, List.setIfInBounds_toArray, List.set_cons_zero, List.set_cons_succ]
  refine tkS 56 { dst := some 106, op := .pick (.tmp 104) (.tmp 105) (.const (.bool false)), type := 4, pos := "law.go:26", after := #[{ on := 54, ground := .data }, { on := 55, ground := .data }], guard := none } (v := ?v1_56) hq hHeld rfl (by kernel_rfl) ?y1_56 ?_
  case y1_56 => (intro w h; try dsimp only at h); go_simp <;> with_reducible rfl
  try simp only [Act.put, List.setIfInBounds_toArray, List.set_cons_zero, List.set_cons_succ]
  refine tkS 57 { dst := some 107, op := .move (.tmp 106), type := 4, pos := "law.go:26", after := #[{ on := 56, ground := .data }, { on := 55, ground := .chain }], guard := none } (v := ?v1_57) hq hHeld rfl (by kernel_rfl) ?y1_57 ?_
  case y1_57 => (intro w h; try dsimp only at h); go_simp <;> with_reducible rfl
  try simp only [Act.put, List.setIfInBounds_toArray, List.set_cons_zero, List.set_cons_succ]
  refine clS 58 { dst := some 108, op := .call { callee := .value (.func 19), args := #[.const (.int .i64 25)], argTypes := #[3] }, type := 4, pos := "law.go:26", after := #[{ on := 57, ground := .chain }, { on := 57, ground := .guard }], guard := some (57, true) } rfl (by kernel_rfl) (by kernel_rfl) fun Kc hK => ?_
  go_simp
  refine (K19b.out _).mono ?_
  rintro e w4 ⟨rfl, rfl⟩
  refine hK.out _ _ hHeld fun hHeld => ?_
  skip
  clear hK Kc
  try simp only [Act.put, List.setIfInBounds_toArray, List.set_cons_zero, List.set_cons_succ]
  refine tkS 59 { dst := some 109, op := .unOp .not 4 (.tmp 108), type := 4, pos := "law.go:26", after := #[{ on := 58, ground := .data }, { on := 57, ground := .guard }], guard := some (57, true) } (v := ?v1_59) hq hHeld rfl (by kernel_rfl) ?y1_59 ?_
  case y1_59 => (intro w h; try dsimp only at h); go_simp <;> with_reducible rfl
  try simp only [Act.put, List.setIfInBounds_toArray, List.set_cons_zero, List.set_cons_succ]
  refine tkS 60 { dst := some 110, op := .pick (.tmp 107) (.tmp 109) (.const (.bool false)), type := 4, pos := "law.go:26", after := #[{ on := 57, ground := .data }, { on := 59, ground := .data }], guard := none } (v := ?v1_60) hq hHeld rfl (by kernel_rfl) ?y1_60 ?_
  case y1_60 => (intro w h; try dsimp only at h); go_simp <;> with_reducible rfl
  try simp only [Act.put, List.setIfInBounds_toArray, List.set_cons_zero, List.set_cons_succ]
  refine tkS 61 { dst := some 111, op := .move (.tmp 110), type := 4, pos := "law.go:26", after := #[{ on := 60, ground := .data }, { on := 58, ground := .chain }], guard := none } (v := ?v1_61) hq hHeld rfl (by kernel_rfl) ?y1_61 ?_
  case y1_61 => (intro w h; try dsimp only at h); go_simp <;> with_reducible rfl
  try simp only [Act.put, List.setIfInBounds_toArray, List.set_cons_zero, List.set_cons_succ]
  refine clS 62 { dst := some 112, op := .call { callee := .value (.func 15), args := #[.const (.int .i64 24)], argTypes := #[3] }, type := 9, pos := "law.go:26", after := #[{ on := 61, ground := .chain }, { on := 61, ground := .guard }], guard := some (61, true) } rfl (by kernel_rfl) (by kernel_rfl) fun Kc hK => ?_
  go_simp
  refine (K15.out _ (HGE.out.drop hHeld.1)).mono ?_
  rintro e w4 ⟨rfl, rfl⟩
  refine hK.out _ _ hHeld fun hHeld => ?_
  skip
  clear hK Kc
  try simp only [Act.put, List.setIfInBounds_toArray, List.set_cons_zero, List.set_cons_succ]
  refine tkS 63 { dst := some 113, op := .binOp .eql 9 (.tmp 112) (.const (.string { data := #[110, 101, 119] })) 9, type := 4, pos := "law.go:26", after := #[{ on := 62, ground := .data }, { on := 61, ground := .guard }], guard := some (61, true) } (v := ?v1_63) hq hHeld rfl (by kernel_rfl) ?y1_63 ?_
  case y1_63 => (intro w h; try dsimp only at h); go_simp <;> with_reducible rfl
  try simp only [Act.put, List.setIfInBounds_toArray, List.set_cons_zero, List.set_cons_succ]
  refine tkS 64 { dst := some 114, op := .pick (.tmp 111) (.tmp 113) (.const (.bool false)), type := 4, pos := "law.go:26", after := #[{ on := 61, ground := .data }, { on := 63, ground := .data }], guard := none } (v := ?v1_64) hq hHeld rfl (by kernel_rfl) ?y1_64 ?_
  case y1_64 => (intro w h; try dsimp only at h); go_simp <;> with_reducible rfl
  try simp only [Act.put, List.setIfInBounds_toArray, List.set_cons_zero, List.set_cons_succ]
  refine tkS 65 { dst := some 0, op := .assign (.tmp 114), type := 4, pos := "law.go:26", after := ([{ on := 64, ground := .data }, { on := 62, ground := .chain }, { on := 0, ground := .phase }, { on := 1, ground := .phase }, { on := 2, ground := .phase }, { on := 3, ground := .phase }, { on := 4, ground := .phase }, { on := 5, ground := .phase }, { on := 6, ground := .phase }, { on := 7, ground := .phase }, { on := 8, ground := .phase }, { on := 9, ground := .phase }, { on := 10, ground := .phase }, { on := 11, ground := .phase }, { on := 12, ground := .phase }, { on := 13, ground := .phase }, { on := 14, ground := .phase }, { on := 15, ground := .phase }, { on := 16, ground := .phase }, { on := 17, ground := .phase }, { on := 18, ground := .phase }, { on := 19, ground := .phase }, { on := 20, ground := .phase }, { on := 21, ground := .phase }, { on := 22, ground := .phase }, { on := 23, ground := .phase }, { on := 24, ground := .phase }, { on := 25, ground := .phase }, { on := 26, ground := .phase }, { on := 27, ground := .phase }, { on := 28, ground := .phase }, { on := 29, ground := .phase }, { on := 30, ground := .phase }].append [{ on := 31, ground := .phase }, { on := 32, ground := .phase }, { on := 33, ground := .phase }, { on := 34, ground := .phase }, { on := 35, ground := .phase }, { on := 36, ground := .phase }, { on := 37, ground := .phase }, { on := 38, ground := .phase }, { on := 39, ground := .phase }, { on := 40, ground := .phase }, { on := 41, ground := .phase }, { on := 42, ground := .phase }, { on := 43, ground := .phase }, { on := 44, ground := .phase }, { on := 45, ground := .phase }, { on := 46, ground := .phase }, { on := 47, ground := .phase }, { on := 48, ground := .phase }, { on := 49, ground := .phase }, { on := 50, ground := .phase }, { on := 51, ground := .phase }, { on := 52, ground := .phase }, { on := 53, ground := .phase }, { on := 54, ground := .phase }, { on := 55, ground := .phase }, { on := 56, ground := .phase }, { on := 57, ground := .phase }, { on := 58, ground := .phase }, { on := 59, ground := .phase }, { on := 60, ground := .phase }, { on := 61, ground := .phase }, { on := 62, ground := .phase }, { on := 63, ground := .phase }, { on := 64, ground := .phase }]).toArray, guard := none } (v := ?v1_65) hq hHeld rfl (by kernel_rfl) ?y1_65 ?_
  case y1_65 => (intro w h; try dsimp only at h); go_simp <;> with_reducible rfl
  try simp only [Act.put, List.setIfInBounds_toArray, List.set_cons_zero, List.set_cons_succ]
  refine wpAnyH_done (by kernel_rfl) ?_ _
  have HEND := Lib.hid (HBF.out.trans (hHeld.1.mono HBF.out.size))
  clear hHeld
  go_wp2_with fail
  go_ret
  exact ⟨rfl, HEND.out⟩

end Go.Proofs.YtcbjcpmkebbfaaaDoor
