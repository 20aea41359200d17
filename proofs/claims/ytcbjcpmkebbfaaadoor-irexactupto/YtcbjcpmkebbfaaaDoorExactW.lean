/-
  WALK: IrExact answers true at every two programs and every number. Of what was there nothing has turned.
-/
import Derived.Test.YtcbjcpmkebbfaaaDoorIrLines
import Derived.Test.YtcbjcpmkebbfaaaDoorClnW
import Derived.Test.YtcbjcpmkebbfaaaDoorWordsW
namespace Go.Proofs.YtcbjcpmkebbfaaaDoor
open Go.RowKit

set_option maxRecDepth 100000 in
set_option maxHeartbeats 4000000 in
theorem irExact_true (E E' : PE) (op : Int) (w : World) (hM : PM E w) (hM' : PM E' w) (hG : Gd w) (hT : TxP E.p) :
    Calls Tryd.prog 3 #[E.v, E'.v, .int .i64 op] w fun e w' => e = .returned (.bool true) ∧ Below w.heap.size w w' := by
  have HB := Lib.hid (below_two w (.cells E.row 26) (.cells E'.row 26))
  have HM := Lib.hid (hM.drop HB.out)
  have HM' := Lib.hid (hM'.drop HB.out)
  have HG := Lib.hid (hG.drop HB.out)
  have HT := Lib.hid hT
  have ba := below_alloc (w.alloc (.cells E.row 26)) (.cells E'.row 26)
  have p0 := keepB (show (w.alloc (.cells E.row 26)).cell? ⟨w.heap.size, 0, none⟩ = some (.slice E.sA E.p.structs.length E.sc) from cell_new w E.row 26 0) ba
  have p1 := keepB (show (w.alloc (.cells E.row 26)).cell? ⟨w.heap.size, 1, none⟩ = some (.slice E.gA E.p.globals.length E.gc) from cell_new w E.row 26 1) ba
  have p2 := keepB (show (w.alloc (.cells E.row 26)).cell? ⟨w.heap.size, 2, none⟩ = some (.slice E.fA E.p.funs.length E.fc) from cell_new w E.row 26 2) ba
  have q0 : ((w.alloc (.cells E.row 26)).alloc (.cells E'.row 26)).cell? ⟨w.heap.size + 1, 0, none⟩ = some (.slice E'.sA E'.p.structs.length E'.sc) := by
    have h : ((w.alloc (.cells E.row 26)).alloc (.cells E'.row 26)).cell? ⟨(w.alloc (.cells E.row 26)).heap.size, 0, none⟩ = some (.slice E'.sA E'.p.structs.length E'.sc) := cell_new _ E'.row 26 0
    rwa [show (w.alloc (.cells E.row 26)).heap.size = w.heap.size + 1 by simp] at h
  have q1 : ((w.alloc (.cells E.row 26)).alloc (.cells E'.row 26)).cell? ⟨w.heap.size + 1, 1, none⟩ = some (.slice E'.gA E'.p.globals.length E'.gc) := by
    have h : ((w.alloc (.cells E.row 26)).alloc (.cells E'.row 26)).cell? ⟨(w.alloc (.cells E.row 26)).heap.size, 1, none⟩ = some (.slice E'.gA E'.p.globals.length E'.gc) := cell_new _ E'.row 26 1
    rwa [show (w.alloc (.cells E.row 26)).heap.size = w.heap.size + 1 by simp] at h
  have q2 : ((w.alloc (.cells E.row 26)).alloc (.cells E'.row 26)).cell? ⟨w.heap.size + 1, 2, none⟩ = some (.slice E'.fA E'.p.funs.length E'.fc) := by
    have h : ((w.alloc (.cells E.row 26)).alloc (.cells E'.row 26)).cell? ⟨(w.alloc (.cells E.row 26)).heap.size, 2, none⟩ = some (.slice E'.fA E'.p.funs.length E'.fc) := cell_new _ E'.row 26 2
    rwa [show (w.alloc (.cells E.row 26)).heap.size = w.heap.size + 1 by simp] at h
  have hEv : E.v = .agg #[.slice E.sA E.p.structs.length E.sc, .slice E.gA E.p.globals.length E.gc, .slice E.fA E.p.funs.length E.fc] := rfl
  have hEv' : E'.v = .agg #[.slice E'.sA E'.p.structs.length E'.sc, .slice E'.gA E'.p.globals.length E'.gc, .slice E'.fA E'.p.funs.length E'.fc] := rfl
  have hEr : E.row = #[.slice E.sA E.p.structs.length E.sc, .slice E.gA E.p.globals.length E.gc, .slice E.fA E.p.funs.length E.fc] := rfl
  have hEr' : E'.row = #[.slice E'.sA E'.p.structs.length E'.sc, .slice E'.gA E'.p.globals.length E'.gc, .slice E'.fA E'.p.funs.length E'.fc] := rfl
  clear hM hM' hG hT ba
  rw [hEr, hEr'] at HB HM HM' HG p0 p1 p2 q0 q1 q2
  clear hEr hEr'
  rw [hEv, hEv']
  go_enter Tryd.func3, Tryd.ntmps3
  go_wp2_with fail
  generalize (w.alloc (.cells #[.slice E.sA E.p.structs.length E.sc, .slice E.gA E.p.globals.length E.gc, .slice E.fA E.p.funs.length E.fc] 26)).alloc (.cells #[.slice E'.sA E'.p.structs.length E'.sc, .slice E'.gA E'.p.globals.length E'.gc, .slice E'.fA E'.p.funs.length E'.fc] 26) = w1 at *
  refine (awake_true w1 HG.out).mono ?_
  rintro e w2 ⟨rfl, b2⟩
  replace p0 := keepB p0 b2
  replace p1 := keepB p1 b2
  replace p2 := keepB p2 b2
  replace q0 := keepB q0 b2
  replace q1 := keepB q1 b2
  replace q2 := keepB q2 b2
  replace HB := Lib.hid (HB.out.trans (b2.mono HB.out.size))
  replace HM := Lib.hid (HM.out.drop b2)
  replace HM' := Lib.hid (HM'.out.drop b2)
  replace HG := Lib.hid (HG.out.drop b2)
  clear b2
  go_wp2_with fail
  obtain ⟨gr, hgr⟩ : ∃ b, greatB E.p = b := ⟨_, rfl⟩
  rw [← hEv]
  refine (lawGreat_any E gr w2 HM.out (Lib.hid hgr)).mono ?_
  rintro e w3 ⟨rfl, b3⟩
  replace p0 := keepB p0 b3
  replace p1 := keepB p1 b3
  replace p2 := keepB p2 b3
  replace q0 := keepB q0 b3
  replace q1 := keepB q1 b3
  replace q2 := keepB q2 b3
  replace HB := Lib.hid (HB.out.trans (b3.mono HB.out.size))
  replace HM := Lib.hid (HM.out.drop b3)
  replace HM' := Lib.hid (HM'.out.drop b3)
  replace HG := Lib.hid (HG.out.drop b3)
  clear b3
  cases gr with
  | true =>
    go_wp2_with fail
    go_ret
    exact ⟨rfl, HB.out⟩
  | false =>
  have HGR := Lib.hid hgr
  have HBD := Lib.hid (bdp_of HT.out hgr)
  clear hgr
  go_wp2_with fail
  obtain ⟨gr, hgr⟩ : ∃ b, greatB E'.p = b := ⟨_, rfl⟩
  rw [← hEv']
  refine (lawGreat_any E' gr w3 HM'.out (Lib.hid hgr)).mono ?_
  rintro e w4 ⟨rfl, b4⟩
  replace p0 := keepB p0 b4
  replace p1 := keepB p1 b4
  replace p2 := keepB p2 b4
  replace q0 := keepB q0 b4
  replace q1 := keepB q1 b4
  replace q2 := keepB q2 b4
  replace HB := Lib.hid (HB.out.trans (b4.mono HB.out.size))
  replace HM := Lib.hid (HM.out.drop b4)
  replace HM' := Lib.hid (HM'.out.drop b4)
  replace HG := Lib.hid (HG.out.drop b4)
  clear b4 hgr
  cases gr with
  | true =>
    go_wp2_with fail
    go_ret
    exact ⟨rfl, HB.out⟩
  | false =>
  go_wp2_with fail
  refine (refWord_any op w4).mono ?_
  rintro e w5 ⟨rfl, b5⟩
  have P0 := Lib.hid (keepB p0 b5)
  have P1 := Lib.hid (keepB p1 b5)
  have P2 := Lib.hid (keepB p2 b5)
  have Q0 := Lib.hid (keepB q0 b5)
  have Q1 := Lib.hid (keepB q1 b5)
  have Q2 := Lib.hid (keepB q2 b5)
  replace HB := Lib.hid (HB.out.trans (b5.mono HB.out.size))
  replace HM := Lib.hid (HM.out.drop b5)
  replace HM' := Lib.hid (HM'.out.drop b5)
  replace HG := Lib.hid (HG.out.drop b5)
  clear b5 p0 p1 p2 q0 q1 q2
  obtain ⟨ob, hob⟩ : ∃ x, (!(wordS op).toList.isEmpty) = x := ⟨_, rfl⟩
  obtain ⟨qb, hqb⟩ : ∃ x, quietB op = x := ⟨_, rfl⟩
  obtain ⟨na, hna⟩ : ∃ x, argsV op = x := ⟨_, rfl⟩
  obtain ⟨wo, hwo⟩ : ∃ x, wordS op = x := ⟨_, rfl⟩
  obtain ⟨sb, hsb⟩ : ∃ b : Bool, b = true ↔ E.p = E'.p := by
    rcases Classical.em (E.p = E'.p) with h | h
    · exact ⟨true, fun _ => h, fun _ => rfl⟩
    · exact ⟨false, fun e => Bool.noConfusion e, fun k => absurd k h⟩
  have HSB := Lib.hid hsb
  have K15 : Hid (∀ w', Gd w' → Calls Tryd.prog 15 #[.int .i64 op] w' fun e w2 => e = .returned (.string wo) ∧ w' = w2) := fun w' g => by rw [← hwo]; exact word_any op w' g.words
  have K16 : Hid (∀ w', Gd w' → Calls Tryd.prog 16 #[.int .i64 op] w' fun e w2 => e = .returned (.bool ob) ∧ w' = w2) := fun w' g => by rw [← hob]; exact isOp_any op w' g.words
  have K17 : Hid (∀ w', Calls Tryd.prog 17 #[.int .i64 op] w' fun e w2 => e = .returned (.int .i64 na) ∧ w' = w2) := fun w' => by rw [← hna]; exact args_any op w'
  have K18 : Hid (∀ w', Calls Tryd.prog 18 #[.int .i64 op] w' fun e w2 => e = .returned (.int .i64 na) ∧ w' = w2) := fun w' => by rw [← hna]; exact refArgs_any op w'
  have K19 : Hid (∀ w', Calls Tryd.prog 19 #[.int .i64 op] w' fun e w2 => e = .returned (.bool qb) ∧ w' = w2) := fun w' => by rw [← hqb]; exact quiet_any op w'
  have K20 : Hid (∀ w', Calls Tryd.prog 20 #[.int .i64 op] w' fun e w2 => e = .returned (.bool qb) ∧ w' = w2) := fun w' => by rw [← hqb]; exact refQuiet_any op w'
  rw [hwo] at hob ⊢
  have hwe : (wo.toList == ([] : List UInt8)) = !ob := by rw [← hob]; cases wo.toList <;> rfl
  have HL1 := Lib.hid (lines_le HBD.out)
  obtain ⟨ln, hln⟩ : ∃ n, (linesL E.p).length = n := ⟨_, rfl⟩
  rw [hln] at HL1
  have HLN := Lib.hid hln
  clear hob hqb hna hwo hsb hln
  go_wp2_with fail
  refine rgS (fun w' => Below w5.heap.size w5 w') (by kernel_rfl) ((Below.refl _ _).drew) (fun _ a d v _ h => And.intro ((put_df a d v).symm.trans (And.left h)) (And.right h)) fun hHeld hq => ?_
  refine tkS 0 { dst := some 18, op := .load 26 (.tmp 3), type := 26, pos := "law.go:84", after := #[], guard := none } (v := ?v1_0) hq hHeld rfl (by kernel_rfl) ?y1_0 ?_
  case y1_0 => (intro w h; have p0 := keepB P0.out h; have p1 := keepB P1.out h; have p2 := keepB P2.out h; have q0 := keepB Q0.out h; have q1 := keepB Q1.out h; have q2 := keepB Q2.out h; clear h; go_simp <;> with_reducible rfl)
  try simp only [Act.put, List.setIfInBounds_toArray, List.set_cons_zero, List.set_cons_succ]
  refine tkS 2 { dst := some 20, op := .load 26 (.tmp 3), type := 26, pos := "law.go:84", after := #[], guard := none } (v := ?v1_2) hq hHeld rfl (by kernel_rfl) ?y1_2 ?_
  case y1_2 => (intro w h; have p0 := keepB P0.out h; have p1 := keepB P1.out h; have p2 := keepB P2.out h; have q0 := keepB Q0.out h; have q1 := keepB Q1.out h; have q2 := keepB Q2.out h; clear h; go_simp <;> with_reducible rfl)
  try simp only [Act.put, List.setIfInBounds_toArray, List.set_cons_zero, List.set_cons_succ]
  refine clS 1 { dst := some 19, op := .call { callee := .value (.func 11), args := #[.tmp 18], argTypes := #[26] }, type := 31, pos := "law.go:84", after := #[{ on := 0, ground := .data }], guard := none } rfl (by kernel_rfl) (by kernel_rfl) fun Kc hK => ?_
  go_simp
  rw [← hEv]
  refine (lines_any E _ (HM.out.drop hHeld) (HG.out.drop hHeld) HBD.out).mono ?_
  rintro e w4 ⟨v1, rfl, hO1, b4⟩
  obtain ⟨A1, c1, rfl, hc1, hS1⟩ := OT.sl hO1
  have HS1 := Lib.hid hS1
  have HB4 := Lib.hid (hHeld.trans (b4.mono hHeld.size))
  clear hHeld
  rw [HLN.out]
  refine hK.out _ _ HB4.out fun hHeld => ?_
  clear b4 hO1 hc1 hS1
  clear hK Kc
  try simp only [Act.put, List.setIfInBounds_toArray, List.set_cons_zero, List.set_cons_succ]
  refine clS 3 { dst := some 21, op := .call { callee := .value (.func 12), args := #[.tmp 20], argTypes := #[26] }, type := 31, pos := "law.go:84", after := #[{ on := 2, ground := .data }, { on := 1, ground := .chain }], guard := none } rfl (by kernel_rfl) (by kernel_rfl) fun Kc hK => ?_
  go_simp
  rw [← hEv]
  refine (refLines_any E _ (HM.out.drop hHeld) HGR).mono ?_
  rintro e w4 ⟨v2, rfl, hO2, b5⟩
  have hO2' := own_mono hO2 (Nat.zero_le _)
  obtain ⟨A2, c2, rfl, hc2, hS2⟩ := OT.sl (base := 0) hO2'
  have HS2 := Lib.hid hS2
  have HS3 := Lib.hid (HS1.out.below kp_txt b5 (Nat.le_refl _))
  have HB5 := Lib.hid (hHeld.trans (b5.mono hHeld.size))
  clear hHeld
  rw [HLN.out]
  refine hK.out _ _ HB5.out fun hHeld => ?_
  clear b5 hO2 hO2' hc2 hS2
  clear hK Kc
  try simp only [Act.put, List.setIfInBounds_toArray, List.set_cons_zero, List.set_cons_succ]
  refine clS 4 { dst := some 22, op := .call { callee := .value (.func 10), args := #[.tmp 19, .tmp 21], argTypes := #[31, 31] }, type := 4, pos := "law.go:84", after := #[{ on := 1, ground := .data }, { on := 3, ground := .data }, { on := 3, ground := .chain }], guard := none } rfl (by kernel_rfl) (by kernel_rfl) fun Kc hK => ?_
  go_simp
  refine (lawLines_any A1 A2 _ _ ln ln (linesL E.p) (linesL E.p) true _ HS3.out HS2.out HLN HLN HL1.out HL1.out (Lib.hid ⟨fun _ => rfl, fun _ => rfl⟩)).mono ?_
  rintro e w4 ⟨rfl, b4⟩
  refine hK.out _ _ (hHeld.trans (b4.mono hHeld.size)) fun hHeld => ?_
  clear b4
  clear hK Kc
  try simp only [Act.put, List.setIfInBounds_toArray, List.set_cons_zero, List.set_cons_succ]
  refine tkS 5 { dst := some 23, op := .move (.tmp 22), type := 4, pos := "law.go:84", after := #[{ on := 4, ground := .data }, { on := 4, ground := .chain }], guard := none } (v := ?v1_5) hq hHeld rfl (by kernel_rfl) ?y1_5 ?_
  case y1_5 => (intro w h; clear h; go_simp <;> with_reducible rfl)
  try simp only [Act.put, List.setIfInBounds_toArray, List.set_cons_zero, List.set_cons_succ]
  refine tkS 6 { dst := some 24, op := .load 26 (.tmp 3), type := 26, pos := "law.go:84", after := #[{ on := 5, ground := .guard }], guard := some (5, true) } (v := ?v1_6) hq hHeld rfl (by kernel_rfl) ?y1_6 ?_
  case y1_6 => (intro w h; have p0 := keepB P0.out h; have p1 := keepB P1.out h; have p2 := keepB P2.out h; have q0 := keepB Q0.out h; have q1 := keepB Q1.out h; have q2 := keepB Q2.out h; clear h; go_simp <;> with_reducible rfl)
  try simp only [Act.put, List.setIfInBounds_toArray, List.set_cons_zero, List.set_cons_succ]
  refine tkS 7 { dst := some 25, op := .load 26 (.tmp 4), type := 26, pos := "law.go:84", after := #[{ on := 5, ground := .guard }], guard := some (5, true) } (v := ?v1_7) hq hHeld rfl (by kernel_rfl) ?y1_7 ?_
  case y1_7 => (intro w h; have p0 := keepB P0.out h; have p1 := keepB P1.out h; have p2 := keepB P2.out h; have q0 := keepB Q0.out h; have q1 := keepB Q1.out h; have q2 := keepB Q2.out h; clear h; go_simp <;> with_reducible rfl)
  try simp only [Act.put, List.setIfInBounds_toArray, List.set_cons_zero, List.set_cons_succ]
  refine tkS 9 { dst := some 27, op := .load 26 (.tmp 3), type := 26, pos := "law.go:84", after := #[{ on := 5, ground := .guard }], guard := some (5, true) } (v := ?v1_9) hq hHeld rfl (by kernel_rfl) ?y1_9 ?_
  case y1_9 => (intro w h; have p0 := keepB P0.out h; have p1 := keepB P1.out h; have p2 := keepB P2.out h; have q0 := keepB Q0.out h; have q1 := keepB Q1.out h; have q2 := keepB Q2.out h; clear h; go_simp <;> with_reducible rfl)
  try simp only [Act.put, List.setIfInBounds_toArray, List.set_cons_zero, List.set_cons_succ]
  refine tkS 10 { dst := some 28, op := .load 26 (.tmp 4), type := 26, pos := "law.go:84", after := #[{ on := 5, ground := .guard }], guard := some (5, true) } (v := ?v1_10) hq hHeld rfl (by kernel_rfl) ?y1_10 ?_
  case y1_10 => (intro w h; have p0 := keepB P0.out h; have p1 := keepB P1.out h; have p2 := keepB P2.out h; have q0 := keepB Q0.out h; have q1 := keepB Q1.out h; have q2 := keepB Q2.out h; clear h; go_simp <;> with_reducible rfl)
  try simp only [Act.put, List.setIfInBounds_toArray, List.set_cons_zero, List.set_cons_succ]
  refine clS 8 { dst := some 26, op := .call { callee := .value (.func 13), args := #[.tmp 24, .tmp 25], argTypes := #[26, 26] }, type := 4, pos := "law.go:84", after := #[{ on := 6, ground := .data }, { on := 7, ground := .data }, { on := 5, ground := .chain }, { on := 5, ground := .guard }], guard := some (5, true) } rfl (by kernel_rfl) (by kernel_rfl) fun Kc hK => ?_
  go_simp
  rw [← hEv, ← hEv']
  refine (same_any E E' sb _ (HM.out.drop hHeld) (HM'.out.drop hHeld) HSB).mono ?_
  rintro e w4 ⟨rfl, b4⟩
  refine hK.out _ _ (hHeld.trans (b4.mono hHeld.size)) fun hHeld => ?_
  clear b4
  clear hK Kc
  try simp only [Act.put, List.setIfInBounds_toArray, List.set_cons_zero, List.set_cons_succ]
  refine clS 11 { dst := some 29, op := .call { callee := .value (.func 14), args := #[.tmp 27, .tmp 28], argTypes := #[26, 26] }, type := 4, pos := "law.go:84", after := #[{ on := 9, ground := .data }, { on := 10, ground := .data }, { on := 8, ground := .chain }, { on := 5, ground := .guard }], guard := some (5, true) } rfl (by kernel_rfl) (by kernel_rfl) fun Kc hK => ?_
  go_simp
  rw [← hEv, ← hEv']
  refine (refSame_any E E' sb _ (HM.out.drop hHeld) (HM'.out.drop hHeld) HSB).mono ?_
  rintro e w4 ⟨rfl, b4⟩
  refine hK.out _ _ (hHeld.trans (b4.mono hHeld.size)) fun hHeld => ?_
  clear b4
  clear hK Kc
  try simp only [Act.put, List.setIfInBounds_toArray, List.set_cons_zero, List.set_cons_succ]
  refine tkS 12 { dst := some 30, op := .binOp .eql 4 (.tmp 26) (.tmp 29) 4, type := 4, pos := "law.go:84", after := #[{ on := 8, ground := .data }, { on := 11, ground := .data }, { on := 5, ground := .guard }], guard := some (5, true) } (v := ?v1_12) hq hHeld rfl (by kernel_rfl) ?y1_12 ?_
  case y1_12 => (intro w h; clear h; go_simp <;> with_reducible rfl)
  try simp only [Act.put, List.setIfInBounds_toArray, List.set_cons_zero, List.set_cons_succ]
  refine tkS 13 { dst := some 31, op := .pick (.tmp 23) (.tmp 30) (.const (.bool false)), type := 4, pos := "law.go:84", after := #[{ on := 5, ground := .data }, { on := 12, ground := .data }], guard := none } (v := ?v1_13) hq hHeld rfl (by kernel_rfl) ?y1_13 ?_
  case y1_13 => (intro w h; clear h; go_simp <;> with_reducible rfl)
  try simp only [Act.put, List.setIfInBounds_toArray, List.set_cons_zero, List.set_cons_succ]
  refine tkS 14 { dst := some 32, op := .move (.tmp 31), type := 4, pos := "law.go:84", after := #[{ on := 13, ground := .data }, { on := 11, ground := .chain }], guard := none } (v := ?v1_14) hq hHeld rfl (by kernel_rfl) ?y1_14 ?_
  case y1_14 => (intro w h; clear h; go_simp <;> with_reducible rfl)
  try simp only [Act.put, List.setIfInBounds_toArray, List.set_cons_zero, List.set_cons_succ]
  refine tkS 15 { dst := some 33, op := .move (.tmp 2), type := 3, pos := "law.go:84", after := #[{ on := 14, ground := .guard }], guard := some (14, true) } (v := ?v1_15) hq hHeld rfl (by kernel_rfl) ?y1_15 ?_
  case y1_15 => (intro w h; clear h; go_simp <;> with_reducible rfl)
  try simp only [Act.put, List.setIfInBounds_toArray, List.set_cons_zero, List.set_cons_succ]
  refine tkS 17 { dst := some 35, op := .move (.tmp 7), type := 9, pos := "law.go:84", after := #[{ on := 14, ground := .guard }], guard := some (14, true) } (v := ?v1_17) hq hHeld rfl (by kernel_rfl) ?y1_17 ?_
  case y1_17 => (intro w h; clear h; go_simp <;> with_reducible rfl)
  try simp only [Act.put, List.setIfInBounds_toArray, List.set_cons_zero, List.set_cons_succ]
  refine clS 16 { dst := some 34, op := .call { callee := .value (.func 15), args := #[.tmp 33], argTypes := #[3] }, type := 9, pos := "law.go:84", after := #[{ on := 15, ground := .data }, { on := 14, ground := .chain }, { on := 14, ground := .guard }], guard := some (14, true) } rfl (by kernel_rfl) (by kernel_rfl) fun Kc hK => ?_
  go_simp
  refine (K15.out _ (HG.out.drop hHeld)).mono ?_
  rintro e w4 ⟨rfl, rfl⟩
  refine hK.out _ _ hHeld fun hHeld => ?_
  skip
  clear hK Kc
  try simp only [Act.put, List.setIfInBounds_toArray, List.set_cons_zero, List.set_cons_succ]
  refine tkS 18 { dst := some 36, op := .binOp .eql 9 (.tmp 34) (.tmp 35) 9, type := 4, pos := "law.go:84", after := #[{ on := 16, ground := .data }, { on := 17, ground := .data }, { on := 14, ground := .guard }], guard := some (14, true) } (v := ?v1_18) hq hHeld rfl (by kernel_rfl) ?y1_18 ?_
  case y1_18 => (intro w h; clear h; go_simp <;> with_reducible rfl)
  try simp only [Act.put, List.setIfInBounds_toArray, List.set_cons_zero, List.set_cons_succ]
  refine tkS 19 { dst := some 37, op := .pick (.tmp 32) (.tmp 36) (.const (.bool false)), type := 4, pos := "law.go:84", after := #[{ on := 14, ground := .data }, { on := 18, ground := .data }], guard := none } (v := ?v1_19) hq hHeld rfl (by kernel_rfl) ?y1_19 ?_
  case y1_19 => (intro w h; clear h; go_simp <;> with_reducible rfl)
  try simp only [Act.put, List.setIfInBounds_toArray, List.set_cons_zero, List.set_cons_succ]
  refine tkS 20 { dst := some 38, op := .move (.tmp 37), type := 4, pos := "law.go:84", after := #[{ on := 19, ground := .data }, { on := 16, ground := .chain }], guard := none } (v := ?v1_20) hq hHeld rfl (by kernel_rfl) ?y1_20 ?_
  case y1_20 => (intro w h; clear h; go_simp <;> with_reducible rfl)
  try simp only [Act.put, List.setIfInBounds_toArray, List.set_cons_zero, List.set_cons_succ]
  refine tkS 21 { dst := some 39, op := .move (.tmp 2), type := 3, pos := "law.go:84", after := #[{ on := 20, ground := .guard }], guard := some (20, true) } (v := ?v1_21) hq hHeld rfl (by kernel_rfl) ?y1_21 ?_
  case y1_21 => (intro w h; clear h; go_simp <;> with_reducible rfl)
  try simp only [Act.put, List.setIfInBounds_toArray, List.set_cons_zero, List.set_cons_succ]
  refine tkS 23 { dst := some 41, op := .move (.tmp 7), type := 9, pos := "law.go:84", after := #[{ on := 20, ground := .guard }], guard := some (20, true) } (v := ?v1_23) hq hHeld rfl (by kernel_rfl) ?y1_23 ?_
  case y1_23 => (intro w h; clear h; go_simp <;> with_reducible rfl)
  try simp only [Act.put, List.setIfInBounds_toArray, List.set_cons_zero, List.set_cons_succ]
  refine tkS 24 { dst := some 42, op := .binOp .neq 9 (.tmp 41) (.const (.string { data := #[] })) 9, type := 4, pos := "law.go:84", after := #[{ on := 23, ground := .data }, { on := 20, ground := .guard }], guard := some (20, true) } (v := ?v1_24) hq hHeld rfl (by kernel_rfl) ?y1_24 ?_
  case y1_24 => (intro w h; clear h; go_simp <;> with_reducible rfl)
  try simp only [Act.put, List.setIfInBounds_toArray, List.set_cons_zero, List.set_cons_succ]
  refine clS 22 { dst := some 40, op := .call { callee := .value (.func 16), args := #[.tmp 39], argTypes := #[3] }, type := 4, pos := "law.go:84", after := #[{ on := 21, ground := .data }, { on := 20, ground := .chain }, { on := 20, ground := .guard }], guard := some (20, true) } rfl (by kernel_rfl) (by kernel_rfl) fun Kc hK => ?_
  go_simp
  refine (K16.out _ (HG.out.drop hHeld)).mono ?_
  rintro e w4 ⟨rfl, rfl⟩
  refine hK.out _ _ hHeld fun hHeld => ?_
  skip
  clear hK Kc
  try simp only [Act.put, List.setIfInBounds_toArray, List.set_cons_zero, List.set_cons_succ]
  refine tkS 25 { dst := some 43, op := .binOp .eql 4 (.tmp 40) (.tmp 42) 4, type := 4, pos := "law.go:84", after := #[{ on := 22, ground := .data }, { on := 24, ground := .data }, { on := 20, ground := .guard }], guard := some (20, true) } (v := ?v1_25) hq hHeld rfl (by kernel_rfl) ?y1_25 ?_
  case y1_25 => (intro w h; clear h; go_simp <;> with_reducible rfl)
  try simp only [Act.put, List.setIfInBounds_toArray, List.set_cons_zero, List.set_cons_succ]
  refine tkS 26 { dst := some 44, op := .pick (.tmp 38) (.tmp 43) (.const (.bool false)), type := 4, pos := "law.go:84", after := #[{ on := 20, ground := .data }, { on := 25, ground := .data }], guard := none } (v := ?v1_26) hq hHeld rfl (by kernel_rfl) ?y1_26 ?_
  case y1_26 => (intro w h; clear h; go_simp <;> with_reducible rfl)
  try simp only [Act.put, List.setIfInBounds_toArray, List.set_cons_zero, List.set_cons_succ]
  refine tkS 27 { dst := some 45, op := .move (.tmp 44), type := 4, pos := "law.go:84", after := #[{ on := 26, ground := .data }, { on := 22, ground := .chain }], guard := none } (v := ?v1_27) hq hHeld rfl (by kernel_rfl) ?y1_27 ?_
  case y1_27 => (intro w h; clear h; go_simp <;> with_reducible rfl)
  try simp only [Act.put, List.setIfInBounds_toArray, List.set_cons_zero, List.set_cons_succ]
  refine tkS 28 { dst := some 46, op := .move (.tmp 2), type := 3, pos := "law.go:84", after := #[{ on := 27, ground := .guard }], guard := some (27, true) } (v := ?v1_28) hq hHeld rfl (by kernel_rfl) ?y1_28 ?_
  case y1_28 => (intro w h; clear h; go_simp <;> with_reducible rfl)
  try simp only [Act.put, List.setIfInBounds_toArray, List.set_cons_zero, List.set_cons_succ]
  refine tkS 30 { dst := some 48, op := .move (.tmp 2), type := 3, pos := "law.go:84", after := #[{ on := 27, ground := .guard }], guard := some (27, true) } (v := ?v1_30) hq hHeld rfl (by kernel_rfl) ?y1_30 ?_
  case y1_30 => (intro w h; clear h; go_simp <;> with_reducible rfl)
  try simp only [Act.put, List.setIfInBounds_toArray, List.set_cons_zero, List.set_cons_succ]
  refine clS 29 { dst := some 47, op := .call { callee := .value (.func 17), args := #[.tmp 46], argTypes := #[3] }, type := 3, pos := "law.go:84", after := #[{ on := 28, ground := .data }, { on := 27, ground := .chain }, { on := 27, ground := .guard }], guard := some (27, true) } rfl (by kernel_rfl) (by kernel_rfl) fun Kc hK => ?_
  go_simp
  refine (K17.out _).mono ?_
  rintro e w4 ⟨rfl, rfl⟩
  refine hK.out _ _ hHeld fun hHeld => ?_
  skip
  clear hK Kc
  try simp only [Act.put, List.setIfInBounds_toArray, List.set_cons_zero, List.set_cons_succ]
  refine clS 31 { dst := some 49, op := .call { callee := .value (.func 18), args := #[.tmp 48], argTypes := #[3] }, type := 3, pos := "law.go:84", after := #[{ on := 30, ground := .data }, { on := 29, ground := .chain }, { on := 27, ground := .guard }], guard := some (27, true) } rfl (by kernel_rfl) (by kernel_rfl) fun Kc hK => ?_
  go_simp
  refine (K18.out _).mono ?_
  rintro e w4 ⟨rfl, rfl⟩
  refine hK.out _ _ hHeld fun hHeld => ?_
  skip
  clear hK Kc
  try simp only [Act.put, List.setIfInBounds_toArray, List.set_cons_zero, List.set_cons_succ]
  refine tkS 32 { dst := some 50, op := .binOp .eql 3 (.tmp 47) (.tmp 49) 3, type := 4, pos := "law.go:84", after := #[{ on := 29, ground := .data }, { on := 31, ground := .data }, { on := 27, ground := .guard }], guard := some (27, true) } (v := ?v1_32) hq hHeld rfl (by kernel_rfl) ?y1_32 ?_
  case y1_32 => (intro w h; clear h; go_simp <;> with_reducible rfl)
  try simp only [Act.put, List.setIfInBounds_toArray, List.set_cons_zero, List.set_cons_succ]
  refine tkS 33 { dst := some 51, op := .pick (.tmp 45) (.tmp 50) (.const (.bool false)), type := 4, pos := "law.go:84", after := #[{ on := 27, ground := .data }, { on := 32, ground := .data }], guard := none } (v := ?v1_33) hq hHeld rfl (by kernel_rfl) ?y1_33 ?_
  case y1_33 => (intro w h; clear h; go_simp <;> with_reducible rfl)
  try simp only [Act.put, List.setIfInBounds_toArray, List.set_cons_zero, List.set_cons_succ]
  refine tkS 34 { dst := some 52, op := .move (.tmp 51), type := 4, pos := "law.go:84", after := #[{ on := 33, ground := .data }, { on := 31, ground := .chain }], guard := none } (v := ?v1_34) hq hHeld rfl (by kernel_rfl) ?y1_34 ?_
  case y1_34 => (intro w h; clear h; go_simp <;> with_reducible rfl)
  try simp only [Act.put, List.setIfInBounds_toArray, List.set_cons_zero, List.set_cons_succ]
  refine tkS 35 { dst := some 53, op := .move (.tmp 2), type := 3, pos := "law.go:84", after := #[{ on := 34, ground := .guard }], guard := some (34, true) } (v := ?v1_35) hq hHeld rfl (by kernel_rfl) ?y1_35 ?_
  case y1_35 => (intro w h; clear h; go_simp <;> with_reducible rfl)
  try simp only [Act.put, List.setIfInBounds_toArray, List.set_cons_zero, List.set_cons_succ]
  refine tkS 37 { dst := some 55, op := .move (.tmp 2), type := 3, pos := "law.go:84", after := #[{ on := 34, ground := .guard }], guard := some (34, true) } (v := ?v1_37) hq hHeld rfl (by kernel_rfl) ?y1_37 ?_
  case y1_37 => (intro w h; clear h; go_simp <;> with_reducible rfl)
  try simp only [Act.put, List.setIfInBounds_toArray, List.set_cons_zero, List.set_cons_succ]
  refine clS 36 { dst := some 54, op := .call { callee := .value (.func 19), args := #[.tmp 53], argTypes := #[3] }, type := 4, pos := "law.go:84", after := #[{ on := 35, ground := .data }, { on := 34, ground := .chain }, { on := 34, ground := .guard }], guard := some (34, true) } rfl (by kernel_rfl) (by kernel_rfl) fun Kc hK => ?_
  go_simp
  refine (K19.out _).mono ?_
  rintro e w4 ⟨rfl, rfl⟩
  refine hK.out _ _ hHeld fun hHeld => ?_
  skip
  clear hK Kc
  try simp only [Act.put, List.setIfInBounds_toArray, List.set_cons_zero, List.set_cons_succ]
  refine clS 38 { dst := some 56, op := .call { callee := .value (.func 20), args := #[.tmp 55], argTypes := #[3] }, type := 4, pos := "law.go:84", after := #[{ on := 37, ground := .data }, { on := 36, ground := .chain }, { on := 34, ground := .guard }], guard := some (34, true) } rfl (by kernel_rfl) (by kernel_rfl) fun Kc hK => ?_
  go_simp
  refine (K20.out _).mono ?_
  rintro e w4 ⟨rfl, rfl⟩
  refine hK.out _ _ hHeld fun hHeld => ?_
  skip
  clear hK Kc
  try simp only [Act.put, List.setIfInBounds_toArray, List.set_cons_zero, List.set_cons_succ]
  refine tkS 39 { dst := some 57, op := .binOp .eql 4 (.tmp 54) (.tmp 56) 4, type := 4, pos := "law.go:84", after := #[{ on := 36, ground := .data }, { on := 38, ground := .data }, { on := 34, ground := .guard }], guard := some (34, true) } (v := ?v1_39) hq hHeld rfl (by kernel_rfl) ?y1_39 ?_
  case y1_39 => (intro w h; clear h; go_simp <;> with_reducible rfl)
  try simp only [Act.put, List.setIfInBounds_toArray, List.set_cons_zero, List.set_cons_succ]
  refine tkS 40 { dst := some 58, op := .pick (.tmp 52) (.tmp 57) (.const (.bool false)), type := 4, pos := "law.go:84", after := #[{ on := 34, ground := .data }, { on := 39, ground := .data }], guard := none } (v := ?v1_40) hq hHeld rfl (by kernel_rfl) ?y1_40 ?_
  case y1_40 => (intro w h; clear h; go_simp <;> with_reducible rfl)
  try simp only [Act.put, List.setIfInBounds_toArray, List.set_cons_zero, List.set_cons_succ]
  refine tkS 41 { dst := some 6, op := .assign (.tmp 58), type := 4, pos := "law.go:84", after := #[{ on := 40, ground := .data }, { on := 38, ground := .chain }, { on := 0, ground := .phase }, { on := 1, ground := .phase }, { on := 2, ground := .phase }, { on := 3, ground := .phase }, { on := 4, ground := .phase }, { on := 5, ground := .phase }, { on := 6, ground := .phase }, { on := 7, ground := .phase }, { on := 8, ground := .phase }, { on := 9, ground := .phase }, { on := 10, ground := .phase }, { on := 11, ground := .phase }, { on := 12, ground := .phase }, { on := 13, ground := .phase }, { on := 14, ground := .phase }, { on := 15, ground := .phase }, { on := 16, ground := .phase }, { on := 17, ground := .phase }, { on := 18, ground := .phase }, { on := 19, ground := .phase }, { on := 20, ground := .phase }, { on := 21, ground := .phase }, { on := 22, ground := .phase }, { on := 23, ground := .phase }, { on := 24, ground := .phase }, { on := 25, ground := .phase }, { on := 26, ground := .phase }, { on := 27, ground := .phase }, { on := 28, ground := .phase }, { on := 29, ground := .phase }, { on := 30, ground := .phase }, { on := 31, ground := .phase }, { on := 32, ground := .phase }, { on := 33, ground := .phase }, { on := 34, ground := .phase }, { on := 35, ground := .phase }, { on := 36, ground := .phase }, { on := 37, ground := .phase }, { on := 38, ground := .phase }, { on := 39, ground := .phase }, { on := 40, ground := .phase }], guard := none } (v := ?v1_41) hq hHeld rfl (by kernel_rfl) ?y1_41 ?_
  case y1_41 => (intro w h; clear h; go_simp <;> with_reducible rfl)
  try simp only [Act.put, List.setIfInBounds_toArray, List.set_cons_zero, List.set_cons_succ]
  refine wpAnyH_done (by kernel_rfl) ?_ _
  have HEND := Lib.hid (HB.out.trans (hHeld.mono HB.out.size))
  clear hHeld hq
  go_wp2_with fail
  go_ret
  exact ⟨rfl, HEND.out⟩

end Go.Proofs.YtcbjcpmkebbfaaaDoor
