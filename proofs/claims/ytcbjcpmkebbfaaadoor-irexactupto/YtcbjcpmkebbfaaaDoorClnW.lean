/-
  WALK: IrClones answers true at every program and places. Of what was there nothing has turned.
-/
import Derived.Test.YtcbjcpmkebbfaaaDoorClMut
import Derived.Test.YtcbjcpmkebbfaaaDoorOpen
namespace Go.Proofs.YtcbjcpmkebbfaaaDoor
open Go.RowKit

theorem lines_le {p : Pg} (h : BdP p) : (linesL p).length ≤ 140737488351232 := by
  have h1 := funs_len h p.funs.length (Nat.le_refl _)
  have h2 := h.sl
  have h3 := h.gl
  have h4 := h.fl
  unfold linesL
  rw [List.length_append, List.length_append, List.length_map, List.length_map]
  omega

theorem OT.sl_of {w : World} {base n c : Nat} {A : Option Addr} {l : List ByteArray} (h : OT w base (.slice A n c) l) : SL 1 txtR w A l := by
  obtain ⟨A', c', e, -, hS⟩ := OT.sl h
  injection e with e1
  subst e1
  exact hS

/-- A place out of a number, by the length. -/
theorem rem_at (x : Int) (m : Nat) (h : 0 < m) (hm : m ≤ 1000000) : ∃ k : Nat, k < m ∧ (k : Int) < (m : Int) ∧ wrap64 ((IntKind.u64.wrap x).tmod (m : Int)) = (k : Int) := by
  have h0 : 0 ≤ IntKind.u64.wrap x := by rw [IntKind.wrap_u64]; omega
  rw [Int.tmod_eq_emod_of_nonneg h0]
  have h1 := Int.emod_nonneg (IntKind.u64.wrap x) (show (m : Int) ≠ 0 by omega)
  have h2 := Int.emod_lt_of_pos (IntKind.u64.wrap x) (show (0 : Int) < m by omega)
  generalize IntKind.u64.wrap x % (m : Int) = y at *
  refine ⟨y.toNat, by omega, by omega, ?_⟩
  simp only [wrap64]
  omega
theorem wrap64_in (x : Int) : I64 (wrap64 x) := by
  unfold I64
  simp only [wrap64]
  omega
theorem wrap64_ne (x : Int) (_ : I64 x) : x ≠ wrap64 (x + 1) := by
  simp only [wrap64]
  omega

set_option maxRecDepth 100000 in
set_option maxHeartbeats 2000000 in
theorem irClones_true (E : PE) (k0 n0 : Int) (w : World) (hM : PM E w) (hG : Gd w) (hT : TxP E.p) (hk0 : I64 k0) (hn0 : I64 n0) :
    Calls Tryd.prog 5 #[E.v, .int .i64 k0, .int .i64 n0] w fun e w' => e = .returned (.bool true) ∧ Below w.heap.size w w' := by
  have HB := Lib.hid (below_alloc w (.cells E.row 26))
  have HM := Lib.hid (hM.drop HB.out)
  have HG := Lib.hid (hG.drop HB.out)
  have HT := Lib.hid hT
  have p0 : (w.alloc (.cells E.row 26)).cell? ⟨w.heap.size, 0, none⟩ = some (.slice E.sA E.p.structs.length E.sc) := cell_new w E.row 26 0
  have p1 : (w.alloc (.cells E.row 26)).cell? ⟨w.heap.size, 1, none⟩ = some (.slice E.gA E.p.globals.length E.gc) := cell_new w E.row 26 1
  have p2 : (w.alloc (.cells E.row 26)).cell? ⟨w.heap.size, 2, none⟩ = some (.slice E.fA E.p.funs.length E.fc) := cell_new w E.row 26 2
  have HWZ : Hid ((w.alloc (.cells E.row 26)).heap.size = w.heap.size + 1) := by show _ = _; simp
  have hEv : E.v = .agg #[.slice E.sA E.p.structs.length E.sc, .slice E.gA E.p.globals.length E.gc, .slice E.fA E.p.funs.length E.fc] := rfl
  have HM0 := Lib.hid hM
  have HG0 := Lib.hid hG
  clear hM hG hT
  unfold PE.v PE.row
  go_enter Tryd.func5, Tryd.ntmps5
  have hEr : E.row = #[.slice E.sA E.p.structs.length E.sc, .slice E.gA E.p.globals.length E.gc, .slice E.fA E.p.funs.length E.fc] := rfl
  rw [hEr] at HB HM HG p0 p1 p2 HWZ
  clear hEr
  go_wp2_with fail
  generalize w.alloc (.cells #[.slice E.sA E.p.structs.length E.sc, .slice E.gA E.p.globals.length E.gc, .slice E.fA E.p.funs.length E.fc] 26) = w1 at *
  refine (awake_true w1 HG.out).mono ?_
  rintro e w2 ⟨rfl, b2⟩
  replace p0 := keepB p0 b2
  replace p1 := keepB p1 b2
  replace p2 := keepB p2 b2
  have HB2 := Lib.hid (HB.out.trans (b2.mono HB.out.size))
  have HM2 := Lib.hid (HM.out.drop b2)
  have HG2 := Lib.hid (HG.out.drop b2)
  have HZ2 : Hid (w.heap.size + 1 ≤ w2.heap.size) := Nat.le_trans (Nat.le_of_eq HWZ.out.symm) b2.size
  clear b2 HB HM HG HWZ
  go_wp2_with fail
  obtain ⟨gr, hgr⟩ : ∃ b, greatB E.p = b := ⟨_, rfl⟩
  rw [← hEv]
  refine (lawGreat_any E gr w2 HM2.out (Lib.hid hgr)).mono ?_
  rintro e w3 ⟨rfl, b3⟩
  replace p0 := keepB p0 b3
  replace p1 := keepB p1 b3
  replace p2 := keepB p2 b3
  have HB3 := Lib.hid (HB2.out.trans (b3.mono HB2.out.size))
  have HM3 := Lib.hid (HM2.out.drop b3)
  have HG3 := Lib.hid (HG2.out.drop b3)
  have HZ3 : Hid (w.heap.size + 1 ≤ w3.heap.size) := Nat.le_trans HZ2.out b3.size
  clear b3 HB2 HM2 HG2 HZ2
  cases gr with
  | true =>
    go_wp2_with fail
    go_ret
    exact ⟨rfl, HB3.out⟩
  | false =>
  have HGR := Lib.hid hgr
  have HSM := Lib.hid (smp_of hgr)
  have HBD := Lib.hid (bdp_of HT.out hgr)
  clear hgr
  go_wp2_with fail
  rw [← hEv]
  refine (clone_any E w3 HM3.out HSM.out).mono ?_
  rintro e w4 hq
  obtain ⟨Q, rfl, hQp, hQM, hQo, b4⟩ := clone_pe hq
  obtain ⟨Qp, qsA, qsc, qgA, qgc, qfA, qfc⟩ := Q
  have hQp : Qp = E.p := hQp
  subst hQp
  have hQv : (PE.mk E.p qsA qsc qgA qgc qfA qfc).v = .agg #[.slice qsA E.p.structs.length qsc, .slice qgA E.p.globals.length qgc, .slice qfA E.p.funs.length qfc] := rfl
  have hQr : (PE.mk E.p qsA qsc qgA qgc qfA qfc).row.toList = [.slice qsA E.p.structs.length qsc, .slice qgA E.p.globals.length qgc, .slice qfA E.p.funs.length qfc] := rfl
  rw [hQr] at hQo
  rw [hQv]
  have hb5 := below_alloc w4 (.cells #[.slice qsA E.p.structs.length qsc, .slice qgA E.p.globals.length qgc, .slice qfA E.p.funs.length qfc] 26)
  have q0 : (w4.alloc (.cells #[.slice qsA E.p.structs.length qsc, .slice qgA E.p.globals.length qgc, .slice qfA E.p.funs.length qfc] 26)).cell? ⟨w4.heap.size, 0, none⟩ = some (.slice qsA E.p.structs.length qsc) := cell_new w4 _ 26 0
  have q1 : (w4.alloc (.cells #[.slice qsA E.p.structs.length qsc, .slice qgA E.p.globals.length qgc, .slice qfA E.p.funs.length qfc] 26)).cell? ⟨w4.heap.size, 1, none⟩ = some (.slice qgA E.p.globals.length qgc) := cell_new w4 _ 26 1
  have q2 : (w4.alloc (.cells #[.slice qsA E.p.structs.length qsc, .slice qgA E.p.globals.length qgc, .slice qfA E.p.funs.length qfc] 26)).cell? ⟨w4.heap.size, 2, none⟩ = some (.slice qfA E.p.funs.length qfc) := cell_new w4 _ 26 2
  have HOQ : Hid (pgO (w4.alloc (.cells #[.slice qsA E.p.structs.length qsc, .slice qgA E.p.globals.length qgc, .slice qfA E.p.funs.length qfc] 26)) w3.heap.size w4.heap.size [.slice qsA E.p.structs.length qsc, .slice qgA E.p.globals.length qgc, .slice qfA E.p.funs.length qfc] E.p) := kpo_pg.on hQo ⟨hb5.size, fun k _ h => hb5.block k h⟩
  have HMQ := Lib.hid (hQM.drop hb5)
  have hb35 := b4.trans (hb5.mono b4.size)
  replace p0 := keepB p0 hb35
  replace p1 := keepB p1 hb35
  replace p2 := keepB p2 hb35
  have HB5 := Lib.hid (HB3.out.trans (hb35.mono HB3.out.size))
  have HM5 := Lib.hid (HM3.out.drop hb35)
  have HG5 := Lib.hid (HG3.out.drop hb35)
  have HLH : Hid (w3.heap.size ≤ w4.heap.size) := b4.size
  have HZ5 : Hid (w4.heap.size + 1 ≤ (w4.alloc (.cells #[.slice qsA E.p.structs.length qsc, .slice qgA E.p.globals.length qgc, .slice qfA E.p.funs.length qfc] 26)).heap.size) := by show _ ≤ _; simp
  clear hq hQo hQM b4 hb5 hb35 HB3 HM3 HG3 hQr
  go_wp2_with fail
  generalize w4.alloc (.cells #[.slice qsA E.p.structs.length qsc, .slice qgA E.p.globals.length qgc, .slice qfA E.p.funs.length qfc] 26) = w5 at *
  generalize w3.heap.size = lo at *
  generalize w4.heap.size = hi at *
  rw [← hEv]
  refine (lines_any E w5 HM5.out HG5.out HBD.out).mono ?_
  rintro e w6 ⟨v1, rfl, hO1, b6⟩
  obtain ⟨A1, c1, rfl, hc1, -⟩ := OT.sl hO1
  have HL1 := Lib.hid (lines_le HBD.out)
  have HOT := Lib.hid hO1
  obtain ⟨ln, hln⟩ : ∃ n, (linesL E.p).length = n := ⟨_, rfl⟩
  rw [hln] at hc1 HL1 HOT ⊢
  have HLN := Lib.hid hln
  replace p0 := keepB p0 b6
  replace p1 := keepB p1 b6
  replace p2 := keepB p2 b6
  replace q0 := keepB q0 b6
  replace q1 := keepB q1 b6
  replace q2 := keepB q2 b6
  have HB6 := Lib.hid (HB5.out.trans (b6.mono HB5.out.size))
  have HM6 := Lib.hid (HM5.out.drop b6)
  have HG6 := Lib.hid (HG5.out.drop b6)
  have HMQ6 := Lib.hid (HMQ.out.drop b6)
  have HOQ6 : Hid (pgO w6 lo hi [.slice qsA E.p.structs.length qsc, .slice qgA E.p.globals.length qgc, .slice qfA E.p.funs.length qfc] E.p) := kpo_pg.on HOQ.out ⟨b6.size, fun k _ h => b6.block k (Nat.lt_of_lt_of_le h (by have := HZ5.out; omega))⟩
  have HZ6 : Hid (hi + 1 ≤ w6.heap.size) := Nat.le_trans HZ5.out b6.size
  clear b6 hO1 hln HB5 HM5 HG5 HMQ HOQ
  go_wp2_with fail
  rw [← hEv, ← hQv]
  refine (same_any E ⟨E.p, qsA, qsc, qgA, qgc, qfA, qfc⟩ true w6 HM6.out HMQ6.out (Lib.hid ⟨fun _ => rfl, fun _ => rfl⟩)).mono ?_
  rintro e w7 ⟨rfl, b7⟩
  replace p0 := keepB p0 b7
  replace p1 := keepB p1 b7
  replace p2 := keepB p2 b7
  replace q0 := keepB q0 b7
  replace q1 := keepB q1 b7
  replace q2 := keepB q2 b7
  go_wp2_with fail
  rw [← hEv, ← hQv]
  refine (same_any ⟨E.p, qsA, qsc, qgA, qgc, qfA, qfc⟩ E true w7 (HMQ6.out.drop b7) (HM6.out.drop b7) (Lib.hid ⟨fun _ => rfl, fun _ => rfl⟩)).mono ?_
  rintro e w8 ⟨rfl, b8⟩
  replace p0 := keepB p0 b8
  replace p1 := keepB p1 b8
  replace p2 := keepB p2 b8
  replace q0 := keepB q0 b8
  replace q1 := keepB q1 b8
  replace q2 := keepB q2 b8
  have b68 := b7.trans (b8.mono b7.size)
  go_wp2_with fail
  rw [← hQv]
  refine (lines_any ⟨E.p, qsA, qsc, qgA, qgc, qfA, qfc⟩ w8 (HMQ6.out.drop b68) (HG6.out.drop b68) HBD.out).mono ?_
  rintro e w9 ⟨v2, rfl, hO2, b9⟩
  obtain ⟨A2, c2, rfl, hc2, hS2⟩ := OT.sl hO2
  replace p0 := keepB p0 b9
  replace p1 := keepB p1 b9
  replace p2 := keepB p2 b9
  replace q0 := keepB q0 b9
  replace q1 := keepB q1 b9
  replace q2 := keepB q2 b9
  have b69 := b68.trans (b9.mono b68.size)
  have hO19 := OT.keep HOT.out b69
  have hS1 := OT.sl_of hO19
  have hS2' : SL 1 txtR w9 A2 (linesL E.p) := hS2
  have hl2 : (linesL (PE.mk E.p qsA qsc qgA qgc qfA qfc).p).length = ln := HLN.out
  rw [hl2]
  clear hS2 hl2 hO2 hc2
  have HS1 := Lib.hid hS1
  have HS2 := Lib.hid hS2'
  have HB69 := Lib.hid b69
  have HO19 := Lib.hid hO19
  clear hS1 hS2' b69 hO19 b9 b68 b8 b7
  go_wp2_with fail
  with_reducible refine (lawLines_any A2 A1 _ _ ln ln (linesL E.p) (linesL E.p) true w9 HS2.out HS1.out HLN HLN HL1.out HL1.out (Lib.hid ⟨fun _ => rfl, fun _ => rfl⟩)).mono ?_
  rintro e w10 ⟨rfl, b10⟩
  replace p0 := keepB p0 b10
  replace p1 := keepB p1 b10
  replace p2 := keepB p2 b10
  replace q0 := keepB q0 b10
  replace q1 := keepB q1 b10
  replace q2 := keepB q2 b10
  have HB610 := Lib.hid (HB69.out.trans (b10.mono HB69.out.size))
  have HB10 := Lib.hid (HB6.out.trans (HB610.out.mono HB6.out.size))
  have HM10 := Lib.hid (HM6.out.drop HB610.out)
  have HG10 := Lib.hid (HG6.out.drop HB610.out)
  have HO10 := Lib.hid (OT.keep HO19.out b10)
  have HOQ10 : Hid (pgO w10 lo hi [.slice qsA E.p.structs.length qsc, .slice qgA E.p.globals.length qgc, .slice qfA E.p.funs.length qfc] E.p) := kpo_pg.on HOQ6.out ⟨HB610.out.size, fun k _ h => HB610.out.block k (Nat.lt_of_lt_of_le h (by have := HZ6.out; omega))⟩
  have HZ10 : Hid (hi + 1 ≤ w10.heap.size) := Nat.le_trans HZ6.out HB610.out.size
  clear b10 HB69 HS1 HS2 HO19 HB610 HOQ6 HMQ6 HG6 HM6 HB6 HZ6
  obtain ⟨fl, hfl⟩ : ∃ n, E.p.funs.length = n := ⟨_, rfl⟩
  rw [hfl] at p2 q2 HOQ10 hEv hQv
  have hflb : fl ≤ 8 := by rw [← hfl]; exact (great_no HGR.out).2.2.1
  by_cases hf0 : fl = 0
  · subst hf0
    go_wp2_with fail
    go_ret
    exact ⟨rfl, HB10.out⟩
  have hf1 : ¬ (fl : Int) = 0 := by omega
  obtain ⟨ki, hki, hki2, eki⟩ := rem_at k0 fl (by omega) (by omega)
  obtain ⟨f, hf⟩ : ∃ f, E.p.funs[ki]? = some f := ⟨_, List.getElem?_eq_getElem (by rw [hfl]; exact hki)⟩
  obtain ⟨gF, pA, pc, sA, sc, iA, ic, bA, bc, rfl, hfc, hic, hbc, g0, g1, g2, g3, g4, g5⟩ := fun_at HOQ10.out hf
  have hwf : wideB f = false := (great_no HGR.out).2.2.2.2 f (List.mem_of_getElem? hf)
  obtain ⟨-, -, hil, hbl, -⟩ := wide_lens hwf
  obtain ⟨il, eil⟩ : ∃ n, f.ins.length = n := ⟨_, rfl⟩
  obtain ⟨bl, ebl⟩ : ∃ n, f.blocks.length = n := ⟨_, rfl⟩
  rw [eil] at g4 hic hil
  rw [ebl] at g5 hbc hbl
  have HB11 := Lib.hid (HB10.out.trans ((below_alloc w10 (.cells #[.string f.name, .slice pA f.params.length pc, .string f.res, .slice sA f.slots.length sc, .slice iA il ic, .slice bA bl bc] 40)).mono HB10.out.size))
  have hb11 := below_alloc w10 (.cells #[.string f.name, .slice pA f.params.length pc, .string f.res, .slice sA f.slots.length sc, .slice iA il ic, .slice bA bl bc] 40)
  have HO11 := Lib.hid (OT.keep HO10.out hb11)
  have HOQ11 : Hid (pgO (w10.alloc (.cells #[.string f.name, .slice pA f.params.length pc, .string f.res, .slice sA f.slots.length sc, .slice iA il ic, .slice bA bl bc] 40)) lo hi [.slice qsA E.p.structs.length qsc, .slice qgA E.p.globals.length qgc, .slice (some ⟨gF, 0, none⟩) fl qfc] E.p) := kpo_pg.on HOQ10.out ⟨hb11.size, fun k _ h => hb11.block k (Nat.lt_of_lt_of_le h (by have := HZ10.out; omega))⟩
  have x0 := keepB p0 hb11
  have x1 := keepB p1 hb11
  have x2 := keepB p2 hb11
  have y0 := keepB q0 hb11
  have y1 := keepB q1 hb11
  have y2 := keepB q2 hb11
  have f4 : (w10.alloc (.cells #[.string f.name, .slice pA f.params.length pc, .string f.res, .slice sA f.slots.length sc, .slice iA il ic, .slice bA bl bc] 40)).cell? ⟨w10.heap.size, 4, none⟩ = some (.slice iA il ic) := cell_new w10 _ 40 4
  have f5 : (w10.alloc (.cells #[.string f.name, .slice pA f.params.length pc, .string f.res, .slice sA f.slots.length sc, .slice iA il ic, .slice bA bl bc] 40)).cell? ⟨w10.heap.size, 5, none⟩ = some (.slice bA bl bc) := cell_new w10 _ 40 5
  have z4 := keepB g4 hb11
  have z5 := keepB g5 hb11
  clear hb11
  by_cases hi0 : il = 0
  · subst hi0
    go_wp2_with fail
    go_ret
    exact ⟨rfl, HB11.out⟩
  have hi1 : ¬ (il : Int) = 0 := by omega
  by_cases hb0 : bl = 0
  · subst hb0
    go_wp2_with fail
    go_ret
    exact ⟨rfl, HB11.out⟩
  have hb1 : ¬ (bl : Int) = 0 := by omega
  obtain ⟨ii, hii, hii2, eii⟩ := rem_at n0 il (by omega) (by omega)
  obtain ⟨jj, hjj, hjj2, ejj⟩ := rem_at n0 bl (by omega) (by omega)
  clear hi0 hb0
  obtain ⟨x, hx⟩ : ∃ x, f.ins[ii]? = some x := ⟨_, List.getElem?_eq_getElem (by rw [eil]; exact hii)⟩
  obtain ⟨y, hy⟩ : ∃ y, f.blocks[jj]? = some y := ⟨_, List.getElem?_eq_getElem (by rw [ebl]; exact hjj)⟩
  have HLO : Hid (w.heap.size ≤ lo) := by have := HZ3.out; show _ ≤ _; omega
  obtain ⟨gF', KF', gI, KI, vA, gB, KB, vL, j1, -, j3, j4, j5, j6, F, HMU⟩ := mut_of (w0 := w) HLO.out HOQ11.out hf hx hy HB11.out
  have HFX := Lib.hid F
  have HMU0 := Lib.hid HMU
  rw [eil] at j3 j5 HFX HMU0
  rw [ebl] at j4 j6 HFX HMU0
  injection j1 with j1
  injection j1 with j1 u1 u2
  injection j1 with j1
  injection j1 with j1 u3 u4
  clear u1 u2 u3 u4
  subst j1
  have j7 := z4.symm.trans j5
  injection j7 with j7
  injection j7 with j7 u1 j8
  subst j7
  subst j8
  have j7 := z5.symm.trans j6
  injection j7 with j7
  injection j7 with j7 u2 j8
  subst j7
  subst j8
  clear u1 u2
  obtain ⟨c3, hN, r3, sN⟩ := Mut.n HFX.out HMU0.out
  have HSN := Lib.hid sN
  have HX := Lib.hid hx
  have HF := Lib.hid hf
  have HN := Lib.hid hN
  have HFL := Lib.hid hfl
  clear F HMU sN z4 z5 HOQ10 HOQ11 HO10 HM10 HG10 HB10 HMU0 j5 j6 hx hy hf hN hfl eil ebl hwf
  go_wp2_with fail
  · exfalso
    rename_i hz
    rcases hz with hz | hz
    · exact hi1 (by simpa using hz)
    · exact hb1 (by simpa using hz)
  try rw [eii]
  rw [ejj]
  clear eki eii ejj g0 g1 g2 g3 g4 g5 p0 p1 p2 q0 q1 q2
  generalize hfb : w10.heap.size = fb at *
  generalize w10.alloc (.cells #[.string f.name, .slice pA f.params.length pc, .string f.res, .slice sA f.slots.length sc, .slice (some ⟨gI, 0, none⟩) il ic, .slice (some ⟨gB, 0, none⟩) bl bc] 40) = w11 at *
  generalize hw12 : w11.setCell ⟨gI, ii * 5 + 3, none⟩ (.int .i64 (wrap64 (x.n + 1))) = w12 at *
  have HM2 := Lib.hid (HSN.out (wrap64 (x.n + 1)) (wrap64_in _))
  rw [hw12] at HM2
  clear hw12
  have HHF : Hid (hi ≤ fb) := by have := HZ10.out; show _ ≤ _; omega
  have HPL : Hid (w.heap.size < lo) := by have := HZ3.out; show _ < _; omega
  have ff4 := (Mut.out HM2.out).1.cell f4 (.inr HHF.out)
  have ff5 := (Mut.out HM2.out).1.cell f5 (.inr HHF.out)
  obtain ⟨t3, ct, -, rt, sT⟩ := Mut.t HFX.out HM2.out
  have HST := Lib.hid sT
  clear c3 r3 sT
  have ct' : w12.drew.cell? ⟨gB, jj * 5 + 4, none⟩ = some (.int .i64 t3) := ct
  have rt' : w12.drew.frozen? ⟨gB, jj * 5 + 4, none⟩ = false := rt
  have ff5' : w12.drew.cell? ⟨fb, 5, none⟩ = some (.slice (some ⟨gB, 0, none⟩) bl bc) := ff5
  go_region
  have HM3 : Hid (Mut w w11 lo hi [.slice qsA E.p.structs.length qsc, .slice qgA E.p.globals.length qgc, .slice (some ⟨gF, 0, none⟩) fl qfc] ki ii jj il bl x.args.length y.list.length (wrap64 (x.n + 1)) ((w12.setCell ⟨gB, jj * 5 + 3 + 1, none⟩ (.int .i64 (wrap64 (t3 - 1)))).drew)) := Mut.drew (HST.out (wrap64 (t3 - 1)) (wrap64_in _))
  clear HST HM2 HSN ct rt ct' rt' ff4 ff5 ff5'
  generalize (w12.setCell ⟨gB, jj * 5 + 3 + 1, none⟩ (.int .i64 (wrap64 (t3 - 1)))).drew = w13 at *
  obtain ⟨-, aA, aK, rfl, haK, hal⟩ := Mut.row HFX.out HM3.out
  obtain ⟨-, lA, lK, rfl, hlK, hll⟩ := Mut.row2 HFX.out HM3.out
  generalize x.args.length = al at *
  generalize y.list.length = ll at *
  obtain ⟨N, hN2⟩ : ∃ n, wrap64 (x.n + 1) = n := ⟨_, rfl⟩
  rw [hN2] at HM3
  have HN2 := Lib.hid hN2
  clear hN2
  go_wp2_with fail
  go_loopw [13] (fun iv wr => ARel w w11 lo hi [.slice qsA E.p.structs.length qsc, .slice qgA E.p.globals.length qgc, .slice (some ⟨gF, 0, none⟩) fl qfc] ki ii jj il bl al ll N al iv wr) (fun iv _ => al - (intOf iv).toNat)
  case atStart => exact ⟨0, Nat.zero_le _, rfl, HM3⟩
  case round =>
    obtain ⟨m, hm, rfl, HMm⟩ := hrel
    have ff4 := (Mut.out HMm.out).1.cell f4 (.inr HHF.out)
    obtain ⟨crow, -⟩ := Mut.row HFX.out HMm.out
    by_cases hlt : m < al
    · have hlt2 : (m : Int) < (al : Int) := by omega
      obtain ⟨gA, KA, a, ev, ca, -, ra, sA⟩ := Mut.arg HFX.out HMm.out m hlt
      injection ev with ev ev2 ev3
      clear ev2 ev3
      subst ev
      have HSA := Lib.hid sA
      clear sA
      go_wp2_with fail
      go_roundw
      case rel => exact ⟨m + 1, by omega, by go_num, Lib.hid (HSA.out _ (wrap64_in _))⟩
      case measure => simp [intOf]; omega
    · have hlt2 : ¬ (m : Int) < (al : Int) := by omega
      go_wp2_with fail
      go_loopw [14] (fun iv wr => ARel w w11 lo hi [.slice qsA E.p.structs.length qsc, .slice qgA E.p.globals.length qgc, .slice (some ⟨gF, 0, none⟩) fl qfc] ki ii jj il bl al ll N ll iv wr) (fun iv _ => ll - (intOf iv).toNat)
      case atStart => exact ⟨0, Nat.zero_le _, rfl, HMm⟩
      case round =>
        obtain ⟨q, hq, rfl, HMq⟩ := hrel
        have ff5 := (Mut.out HMq.out).1.cell f5 (.inr HHF.out)
        obtain ⟨crow2, -⟩ := Mut.row2 HFX.out HMq.out
        rw [Nat.add_zero] at crow2
        by_cases hlq : q < ll
        · have hlq2 : (q : Int) < (ll : Int) := by omega
          obtain ⟨gA, KA, a, ev, ca, -, ra, sA⟩ := Mut.list HFX.out HMq.out q hlq
          injection ev with ev ev2 ev3
          clear ev2 ev3
          subst ev
          have HSA := Lib.hid sA
          clear sA
          go_wp2_with fail
          go_roundw
          case rel => exact ⟨q + 1, by omega, by go_num, Lib.hid (HSA.out _ (wrap64_in _))⟩
          case measure => simp [intOf]; omega
        · have hlq2 : ¬ (q : Int) < (ll : Int) := by omega
          have HS1 := Lib.hid (OT.out_of HO11.out (Mut.out HMq.out).1 (show hi ≤ w5.heap.size by have := HZ5.out; omega))
          have HBq := Lib.hid (Mut.out HMq.out).2
          have HMq0 := Lib.hid (HM0.out.drop HBq.out)
          have HGq0 := Lib.hid (HG0.out.drop HBq.out)
          have x0 := (Mut.out HMq.out).1.cell x0 (.inl HPL.out)
          have x1 := (Mut.out HMq.out).1.cell x1 (.inl HPL.out)
          have x2 := (Mut.out HMq.out).1.cell x2 (.inl HPL.out)
          have y0 := (Mut.out HMq.out).1.cell y0 (.inr (Nat.le_refl _))
          have y1 := (Mut.out HMq.out).1.cell y1 (.inr (Nat.le_refl _))
          have y2 := (Mut.out HMq.out).1.cell y2 (.inr (Nat.le_refl _))
          obtain ⟨Z, hZ, hZne⟩ := mut_ne HMq.out HF.out HX.out (by rw [← HN2.out]; exact wrap64_ne _ HN.out)
          obtain ⟨z1, z2, z3, hZM⟩ := pm_row (rd_pg.rd hZ)
          have HZM := Lib.hid hZM
          have HZN := Lib.hid hZne
          have hZv : (PE.mk Z qsA qsc qgA qgc (some ⟨gF, 0, none⟩) qfc).v = .agg #[.slice qsA E.p.structs.length qsc, .slice qgA E.p.globals.length qgc, .slice (some ⟨gF, 0, none⟩) fl qfc] := by
            rw [z1, z2, z3]; rfl
          have HZV := Lib.hid hZv
          clear hZ hZne hZM hZv z1 z2 z3 HMq HMm HM3 ff4 crow
          go_wp2_with fail
          rw [← hEv]
          refine (lines_any E _ HMq0.out HGq0.out HBD.out).mono ?_
          rintro e w14 ⟨v3, rfl, hO3, b14⟩
          obtain ⟨A3, c3, rfl, hc3, hS3⟩ := OT.sl hO3
          rw [HLN.out]
          have HS3 := Lib.hid hS3
          have HS1' := Lib.hid (HS1.out.below kp_txt b14 (Nat.le_refl _))
          have x0 := keepB x0 b14
          have x1 := keepB x1 b14
          have x2 := keepB x2 b14
          have y0 := keepB y0 b14
          have y1 := keepB y1 b14
          have y2 := keepB y2 b14
          have HB14 := Lib.hid b14
          clear hO3 hc3 hS3 b14
          go_wp2_with fail
          with_reducible refine (lawLines_any A3 A1 _ _ ln ln (linesL E.p) (linesL E.p) true w14 HS3.out HS1'.out HLN HLN HL1.out HL1.out (Lib.hid ⟨fun _ => rfl, fun _ => rfl⟩)).mono ?_
          rintro e w15 ⟨rfl, b15⟩
          have x0 := keepB x0 b15
          have x1 := keepB x1 b15
          have x2 := keepB x2 b15
          have y0 := keepB y0 b15
          have y1 := keepB y1 b15
          have y2 := keepB y2 b15
          have HB15 := Lib.hid (HB14.out.trans (b15.mono HB14.out.size))
          clear b15
          go_wp2_with fail
          rw [← hEv, ← HZV.out]
          refine (same_any E ⟨Z, qsA, qsc, qgA, qgc, some ⟨gF, 0, none⟩, qfc⟩ false w15 (HMq0.out.drop HB15.out) (HZM.out.drop HB15.out) (Lib.hid ⟨fun h => Bool.noConfusion h, fun h => absurd h HZN.out⟩)).mono ?_
          rintro e w16 ⟨rfl, b16⟩
          have HB16 := Lib.hid (HB15.out.trans (b16.mono HB15.out.size))
          clear b16
          go_wp2_with fail
          go_ret
          exact ⟨rfl, HBq.out.trans (HB16.out.mono HBq.out.size)⟩

end Go.Proofs.YtcbjcpmkebbfaaaDoor
