/-
  WALK: FlowExact answers true at every function and place, given what the program's functions answer. Of what was there nothing has turned.
-/
import Derived.Test.YtpaddigjjlidcaaFlC
namespace Go.Proofs.Ytpaddigjjlidcaa
open Go.RowKit

set_option maxRecDepth 100000 in
set_option maxHeartbeats 4000000 in
theorem flowExact_true (C : FlC) (E : FE) (n : Int) (w : World) (hM : FM E w) (hn : I64 n) :
    Calls Try.prog 3 #[E.v, .int .i64 n] w fun e w' => e = .returned (.bool true) ∧ Below w.heap.size w w' := by
  have HC := Lib.hid C
  have HN := Lib.hid hn
  have HB := Lib.hid (below_alloc w (.cells E.row 26))
  have HM := Lib.hid (hM.drop HB.out)
  obtain ⟨m, hm⟩ : ∃ m, E.f.blocks.length = m := ⟨_, rfl⟩
  have HMB := Lib.hid hm
  have f0 : (w.alloc (.cells E.row 26)).cell? ⟨w.heap.size, 0, none⟩ = some (.string E.f.name) := cell_new w E.row 26 0
  have f1 : (w.alloc (.cells E.row 26)).cell? ⟨w.heap.size, 1, none⟩ = some (.slice E.pA E.f.params.length E.pc) := cell_new w E.row 26 1
  have f2 : (w.alloc (.cells E.row 26)).cell? ⟨w.heap.size, 2, none⟩ = some (.string E.f.res) := cell_new w E.row 26 2
  have f3 : (w.alloc (.cells E.row 26)).cell? ⟨w.heap.size, 3, none⟩ = some (.slice E.sA E.f.slots.length E.sc) := cell_new w E.row 26 3
  have f4 : (w.alloc (.cells E.row 26)).cell? ⟨w.heap.size, 4, none⟩ = some (.slice E.iA E.f.ins.length E.ic) := cell_new w E.row 26 4
  have f5 : (w.alloc (.cells E.row 26)).cell? ⟨w.heap.size, 5, none⟩ = some (.slice E.bA E.f.blocks.length E.bc) := cell_new w E.row 26 5
  rw [hm] at f5
  have hEv : E.v = .agg #[.string E.f.name, .slice E.pA E.f.params.length E.pc, .string E.f.res, .slice E.sA E.f.slots.length E.sc, .slice E.iA E.f.ins.length E.ic, .slice E.bA m E.bc] := by rw [← hm]; rfl
  clear hM C hn hm
  go_enter Try.func3, Try.ntmps3
  have hEr : E.row = #[.string E.f.name, .slice E.pA E.f.params.length E.pc, .string E.f.res, .slice E.sA E.f.slots.length E.sc, .slice E.iA E.f.ins.length E.ic, .slice E.bA m E.bc] := by rw [← HMB.out]; rfl
  rw [hEr] at HB HM f0 f1 f2 f3 f4 f5
  clear hEr
  go_wp2_with fail
  generalize w.alloc (.cells #[.string E.f.name, .slice E.pA E.f.params.length E.pc, .string E.f.res, .slice E.sA E.f.slots.length E.sc, .slice E.iA E.f.ins.length E.ic, .slice E.bA m E.bc] 26) = w1 at *
  refine (HC.out.awake w1).mono ?_
  rintro e w2 ⟨rfl, b2⟩
  replace f0 := keepB f0 b2
  replace f1 := keepB f1 b2
  replace f2 := keepB f2 b2
  replace f3 := keepB f3 b2
  replace f4 := keepB f4 b2
  replace f5 := keepB f5 b2
  replace HB := Lib.hid (HB.out.trans (b2.mono HB.out.size))
  replace HM := Lib.hid (HM.out.drop b2)
  clear b2
  go_wp2_with fail
  rw [← hEv]
  obtain ⟨gr0, hgr⟩ : ∃ b, wideB E.f = b := ⟨_, rfl⟩
  refine (lawWide_any E gr0 w2 HM.out (Lib.hid hgr)).mono ?_
  rintro e w3 ⟨rfl, b3⟩
  replace f0 := keepB f0 b3
  replace f1 := keepB f1 b3
  replace f2 := keepB f2 b3
  replace f3 := keepB f3 b3
  replace f4 := keepB f4 b3
  replace f5 := keepB f5 b3
  replace HB := Lib.hid (HB.out.trans (b3.mono HB.out.size))
  replace HM := Lib.hid (HM.out.drop b3)
  clear b3
  cases gr0 with
  | true =>
    go_wp2_with fail
    go_ret
    exact ⟨rfl, HB.out⟩
  | false =>
  have HW := Lib.hid hgr
  have hm60 : m ≤ 60 := by have := (wide_le hgr).2.1; rwa [HMB.out] at this
  have HM60 := Lib.hid hm60
  clear hgr
  go_wp2_with fail
  rw [← hEv]
  refine (HC.out.ahead E w3 HM.out HW.out).mono ?_
  rintro e w4 ⟨aA, ak, rfl, hak, haS, b4⟩
  have hlA : (ahL E.f.blocks).length = m := by unfold ahL; rw [List.length_map, List.length_range, HMB.out]
  rw [hlA] at hak ⊢
  replace f0 := keepB f0 b4
  replace f1 := keepB f1 b4
  replace f2 := keepB f2 b4
  replace f3 := keepB f3 b4
  replace f4 := keepB f4 b4
  replace f5 := keepB f5 b4
  replace HB := Lib.hid (HB.out.trans (b4.mono HB.out.size))
  replace HM := Lib.hid (HM.out.drop b4)
  have HAS := Lib.hid haS
  clear b4 haS
  go_wp2_with fail
  rw [← hEv]
  refine (HC.out.reached E w4 HM.out HW.out).mono ?_
  rintro e w5 ⟨fl, hFl, rA, rk, rfl, hrk, hrS, b5⟩
  have hlF : fl.length = m := hFl.1.trans HMB.out
  rw [hlF] at hrk ⊢
  replace f0 := keepB f0 b5
  replace f1 := keepB f1 b5
  replace f2 := keepB f2 b5
  replace f3 := keepB f3 b5
  replace f4 := keepB f4 b5
  replace f5 := keepB f5 b5
  replace HB := Lib.hid (HB.out.trans (b5.mono HB.out.size))
  replace HM := Lib.hid (HM.out.drop b5)
  replace HAS := Lib.hid (HAS.out.drop (kp_slC kp_int) b5)
  have HRS := Lib.hid hrS
  have HFL := Lib.hid hFl
  have HLF := Lib.hid hlF
  clear b5 hrS hFl
  go_wp2_with fail
  rw [← hEv]
  refine (refReached_any E m w5 HM.out HMB).mono ?_
  rintro e w6 ⟨fl2, g, hFl2, rfl, hFS, b6, hg⟩
  obtain rfl : fl2 = fl := Flags.uniq (by rw [← HMB.out] at hFl2; exact hFl2) HFL.out
  replace f0 := keepB f0 b6
  replace f1 := keepB f1 b6
  replace f2 := keepB f2 b6
  replace f3 := keepB f3 b6
  replace f4 := keepB f4 b6
  replace f5 := keepB f5 b6
  replace HB := Lib.hid (HB.out.trans (b6.mono HB.out.size))
  replace HM := Lib.hid (HM.out.drop b6)
  replace HAS := Lib.hid (HAS.out.drop (kp_slC kp_int) b6)
  replace HRS := Lib.hid (HRS.out.drop kp_bool b6)
  have HFS := Lib.hid hFS
  clear b6 hFl2 hFS hg
  generalize hw5 : w6 = w5 at *
  clear hw5
  obtain ⟨ln, hln⟩ : ∃ k, (nextL E.f.blocks n).length = k := ⟨_, rfl⟩
  have HLN := Lib.hid hln
  have HLB : Hid (ln ≤ 2) := by show _ ≤ _; rw [← hln]; exact next_two _ _
  have F0 := Lib.hid f0
  have F1 := Lib.hid f1
  have F2 := Lib.hid f2
  have F3 := Lib.hid f3
  have F4 := Lib.hid f4
  have F5 := Lib.hid f5
  clear hln f0 f1 f2 f3 f4 f5
  go_wp2_with fail
  refine rgS (fun w' => Below w5.heap.size w5 w') (by kernel_rfl) ((Below.refl _ _).drew) (fun _ a d v _ h => And.intro ((put_df a d v).symm.trans (And.left h)) (And.right h)) fun hHeld hq => ?_
  refine tkS 0 { dst := some 19, op := .move (.tmp 5), type := 29, pos := "law.go:62", after := #[], guard := none } (v := ?v1_0) hq hHeld rfl (by kernel_rfl) ?y1_0 ?_
  case y1_0 => (intro w h; clear h; go_simp <;> with_reducible rfl)
  try simp only [Act.put, List.setIfInBounds_toArray, List.set_cons_zero, List.set_cons_succ]
  refine tkS 1 { dst := some 20, op := .call { callee := .builtin .len, args := #[.tmp 19], argTypes := #[29] }, type := 3, pos := "law.go:62", after := #[{ on := 0, ground := .data }], guard := none } (v := ?v1_1) hq hHeld rfl (by kernel_rfl) ?y1_1 ?_
  case y1_1 => (intro w h; clear h; go_simp <;> with_reducible rfl)
  try simp only [Act.put, List.setIfInBounds_toArray, List.set_cons_zero, List.set_cons_succ]
  refine tkS 2 { dst := some 21, op := .fieldAddr 26 (.tmp 2) 5, type := 0, pos := "law.go:62", after := #[], guard := none } (v := ?v1_2) hq hHeld rfl (by kernel_rfl) ?y1_2 ?_
  case y1_2 => (intro w h; clear h; go_simp <;> with_reducible rfl)
  try simp only [Act.put, List.setIfInBounds_toArray, List.set_cons_zero, List.set_cons_succ]
  refine tkS 3 { dst := some 22, op := .load 24 (.tmp 21), type := 24, pos := "law.go:62", after := #[{ on := 2, ground := .data }], guard := none } (v := ?v1_3) hq hHeld rfl (by kernel_rfl) ?y1_3 ?_
  case y1_3 => (intro w h; have f0 := keepB F0.out h; have f1 := keepB F1.out h; have f2 := keepB F2.out h; have f3 := keepB F3.out h; have f4 := keepB F4.out h; have f5 := keepB F5.out h; clear h; go_simp <;> with_reducible rfl)
  try simp only [Act.put, List.setIfInBounds_toArray, List.set_cons_zero, List.set_cons_succ]
  refine tkS 4 { dst := some 23, op := .call { callee := .builtin .len, args := #[.tmp 22], argTypes := #[24] }, type := 3, pos := "law.go:62", after := #[{ on := 3, ground := .data }], guard := none } (v := ?v1_4) hq hHeld rfl (by kernel_rfl) ?y1_4 ?_
  case y1_4 => (intro w h; clear h; go_simp <;> with_reducible rfl)
  try simp only [Act.put, List.setIfInBounds_toArray, List.set_cons_zero, List.set_cons_succ]
  refine tkS 5 { dst := some 24, op := .binOp .neq 3 (.tmp 20) (.tmp 23) 3, type := 4, pos := "law.go:62", after := #[{ on := 1, ground := .data }, { on := 4, ground := .data }], guard := none } (v := ?v1_5) hq hHeld rfl (by kernel_rfl) ?y1_5 ?_
  case y1_5 => (intro w h; clear h; go_simp <;> with_reducible rfl)
  try simp only [Act.put, List.setIfInBounds_toArray, List.set_cons_zero, List.set_cons_succ]
  refine tkS 6 { dst := some 25, op := .move (.tmp 24), type := 4, pos := "law.go:62", after := #[{ on := 5, ground := .data }], guard := none } (v := ?v1_6) hq hHeld rfl (by kernel_rfl) ?y1_6 ?_
  case y1_6 => (intro w h; clear h; go_simp <;> with_reducible rfl)
  try simp only [Act.put, List.setIfInBounds_toArray, List.set_cons_zero, List.set_cons_succ]
  refine tkS 7 { dst := some 26, op := .move (.tmp 6), type := 31, pos := "law.go:62", after := #[{ on := 6, ground := .guard }], guard := some (6, false) } (v := ?v1_7) hq hHeld rfl (by kernel_rfl) ?y1_7 ?_
  case y1_7 => (intro w h; clear h; go_simp <;> with_reducible rfl)
  try simp only [Act.put, List.setIfInBounds_toArray, List.set_cons_zero, List.set_cons_succ]
  refine tkS 8 { dst := some 27, op := .call { callee := .builtin .len, args := #[.tmp 26], argTypes := #[31] }, type := 3, pos := "law.go:62", after := #[{ on := 7, ground := .data }, { on := 6, ground := .guard }], guard := some (6, false) } (v := ?v1_8) hq hHeld rfl (by kernel_rfl) ?y1_8 ?_
  case y1_8 => (intro w h; clear h; go_simp <;> with_reducible rfl)
  try simp only [Act.put, List.setIfInBounds_toArray, List.set_cons_zero, List.set_cons_succ]
  refine tkS 9 { dst := some 28, op := .move (.tmp 7), type := 31, pos := "law.go:62", after := #[{ on := 6, ground := .guard }], guard := some (6, false) } (v := ?v1_9) hq hHeld rfl (by kernel_rfl) ?y1_9 ?_
  case y1_9 => (intro w h; clear h; go_simp <;> with_reducible rfl)
  try simp only [Act.put, List.setIfInBounds_toArray, List.set_cons_zero, List.set_cons_succ]
  refine tkS 10 { dst := some 29, op := .call { callee := .builtin .len, args := #[.tmp 28], argTypes := #[31] }, type := 3, pos := "law.go:62", after := #[{ on := 9, ground := .data }, { on := 6, ground := .guard }], guard := some (6, false) } (v := ?v1_10) hq hHeld rfl (by kernel_rfl) ?y1_10 ?_
  case y1_10 => (intro w h; clear h; go_simp <;> with_reducible rfl)
  try simp only [Act.put, List.setIfInBounds_toArray, List.set_cons_zero, List.set_cons_succ]
  refine tkS 11 { dst := some 30, op := .binOp .neq 3 (.tmp 27) (.tmp 29) 3, type := 4, pos := "law.go:62", after := #[{ on := 8, ground := .data }, { on := 10, ground := .data }, { on := 6, ground := .guard }], guard := some (6, false) } (v := ?v1_11) hq hHeld rfl (by kernel_rfl) ?y1_11 ?_
  case y1_11 => (intro w h; clear h; go_simp <;> with_reducible rfl)
  try simp only [Act.put, List.setIfInBounds_toArray, List.set_cons_zero, List.set_cons_succ]
  refine tkS 12 { dst := some 31, op := .pick (.tmp 25) (.const (.bool true)) (.tmp 30), type := 4, pos := "law.go:62", after := #[{ on := 6, ground := .data }, { on := 11, ground := .data }], guard := none } (v := ?v1_12) hq hHeld rfl (by kernel_rfl) ?y1_12 ?_
  case y1_12 => (intro w h; clear h; go_simp <;> with_reducible rfl)
  try simp only [Act.put, List.setIfInBounds_toArray, List.set_cons_zero, List.set_cons_succ]
  refine tkS 13 { dst := some 32, op := .move (.tmp 31), type := 4, pos := "law.go:62", after := #[{ on := 12, ground := .data }, { on := 6, ground := .chain }], guard := none } (v := ?v1_13) hq hHeld rfl (by kernel_rfl) ?y1_13 ?_
  case y1_13 => (intro w h; clear h; go_simp <;> with_reducible rfl)
  try simp only [Act.put, List.setIfInBounds_toArray, List.set_cons_zero, List.set_cons_succ]
  refine tkS 14 { dst := some 33, op := .load 26 (.tmp 2), type := 26, pos := "law.go:62", after := #[{ on := 13, ground := .guard }], guard := some (13, false) } (v := ?v1_14) hq hHeld rfl (by kernel_rfl) ?y1_14 ?_
  case y1_14 => (intro w h; have f0 := keepB F0.out h; have f1 := keepB F1.out h; have f2 := keepB F2.out h; have f3 := keepB F3.out h; have f4 := keepB F4.out h; have f5 := keepB F5.out h; clear h; go_simp <;> with_reducible rfl)
  try simp only [Act.put, List.setIfInBounds_toArray, List.set_cons_zero, List.set_cons_succ]
  refine tkS 15 { dst := some 34, op := .move (.tmp 1), type := 3, pos := "law.go:62", after := #[{ on := 13, ground := .guard }], guard := some (13, false) } (v := ?v1_15) hq hHeld rfl (by kernel_rfl) ?y1_15 ?_
  case y1_15 => (intro w h; clear h; go_simp <;> with_reducible rfl)
  try simp only [Act.put, List.setIfInBounds_toArray, List.set_cons_zero, List.set_cons_succ]
  refine tkS 17 { dst := some 36, op := .load 26 (.tmp 2), type := 26, pos := "law.go:62", after := #[{ on := 13, ground := .guard }], guard := some (13, false) } (v := ?v1_17) hq hHeld rfl (by kernel_rfl) ?y1_17 ?_
  case y1_17 => (intro w h; have f0 := keepB F0.out h; have f1 := keepB F1.out h; have f2 := keepB F2.out h; have f3 := keepB F3.out h; have f4 := keepB F4.out h; have f5 := keepB F5.out h; clear h; go_simp <;> with_reducible rfl)
  try simp only [Act.put, List.setIfInBounds_toArray, List.set_cons_zero, List.set_cons_succ]
  refine tkS 18 { dst := some 37, op := .move (.tmp 1), type := 3, pos := "law.go:62", after := #[{ on := 13, ground := .guard }], guard := some (13, false) } (v := ?v1_18) hq hHeld rfl (by kernel_rfl) ?y1_18 ?_
  case y1_18 => (intro w h; clear h; go_simp <;> with_reducible rfl)
  try simp only [Act.put, List.setIfInBounds_toArray, List.set_cons_zero, List.set_cons_succ]
  refine clS 16 { dst := some 35, op := .call { callee := .value (.func 13), args := #[.tmp 33, .tmp 34], argTypes := #[26, 3] }, type := 34, pos := "law.go:62", after := #[{ on := 14, ground := .data }, { on := 15, ground := .data }, { on := 13, ground := .chain }, { on := 13, ground := .guard }], guard := some (13, false) } rfl (by kernel_rfl) (by kernel_rfl) fun Kc hK => ?_
  go_simp
  rw [← hEv]
  refine (HC.out.next E n _ (HM.out.drop hHeld) HN.out HW.out).mono ?_
  rintro e w4 ⟨A1, k1, rfl, hk1, hS1, b4⟩
  have HS1 := Lib.hid hS1
  rw [HLN.out]
  have HB4 := Lib.hid (hHeld.trans (b4.mono hHeld.size))
  clear hHeld
  refine hK.out _ _ HB4.out fun hHeld => ?_
  clear b4 hS1 hk1
  clear hK Kc
  try simp only [Act.put, List.setIfInBounds_toArray, List.set_cons_zero, List.set_cons_succ]
  refine clS 19 { dst := some 38, op := .call { callee := .value (.func 14), args := #[.tmp 36, .tmp 37], argTypes := #[26, 3] }, type := 34, pos := "law.go:62", after := #[{ on := 17, ground := .data }, { on := 18, ground := .data }, { on := 16, ground := .chain }, { on := 13, ground := .guard }], guard := some (13, false) } rfl (by kernel_rfl) (by kernel_rfl) fun Kc hK => ?_
  go_simp
  rw [← hEv]
  refine (refNext_any E n _ (HM.out.drop hHeld) HN.out).mono ?_
  rintro e w4 ⟨v2, rfl, hO2, b4⟩
  obtain ⟨A2, c2, rfl, hc2, hS2⟩ := hO2.sl (next_i64 (by have := HM.out.bl; omega))
  have HS1b := Lib.hid (HS1.out.drop kp_int b4)
  have HS2 := Lib.hid hS2
  rw [HLN.out]
  have HB4 := Lib.hid (hHeld.trans (b4.mono hHeld.size))
  clear hHeld
  refine hK.out _ _ HB4.out fun hHeld => ?_
  clear b4 hS2 hc2 hO2
  clear hK Kc
  try simp only [Act.put, List.setIfInBounds_toArray, List.set_cons_zero, List.set_cons_succ]
  refine clS 20 { dst := some 39, op := .call { callee := .value (.func 12), args := #[.tmp 35, .tmp 38], argTypes := #[34, 34] }, type := 4, pos := "law.go:62", after := #[{ on := 16, ground := .data }, { on := 19, ground := .data }, { on := 19, ground := .chain }, { on := 13, ground := .guard }], guard := some (13, false) } rfl (by kernel_rfl) (by kernel_rfl) fun Kc hK => ?_
  go_simp
  refine (lawSame_any A1 A2 _ _ ln ln (nextL E.f.blocks n) (nextL E.f.blocks n) true _ HS1b.out HS2.out HLN HLN (by have := HLB.out; omega) (by have := HLB.out; omega) (Lib.hid ⟨fun _ => rfl, fun _ => rfl⟩)).mono ?_
  rintro e w4 ⟨rfl, b4⟩
  have HB4 := Lib.hid (hHeld.trans (b4.mono hHeld.size))
  clear hHeld
  refine hK.out _ _ HB4.out fun hHeld => ?_
  clear b4
  clear hK Kc
  try simp only [Act.put, List.setIfInBounds_toArray, List.set_cons_zero, List.set_cons_succ]
  refine tkS 21 { dst := some 40, op := .unOp .not 4 (.tmp 39), type := 4, pos := "law.go:62", after := #[{ on := 20, ground := .data }, { on := 13, ground := .guard }], guard := some (13, false) } (v := ?v1_21) hq hHeld rfl (by kernel_rfl) ?y1_21 ?_
  case y1_21 => (intro w h; clear h; go_simp <;> with_reducible rfl)
  try simp only [Act.put, List.setIfInBounds_toArray, List.set_cons_zero, List.set_cons_succ]
  refine tkS 22 { dst := some 41, op := .pick (.tmp 32) (.const (.bool true)) (.tmp 40), type := 4, pos := "law.go:62", after := #[{ on := 13, ground := .data }, { on := 21, ground := .data }], guard := none } (v := ?v1_22) hq hHeld rfl (by kernel_rfl) ?y1_22 ?_
  case y1_22 => (intro w h; clear h; go_simp <;> with_reducible rfl)
  try simp only [Act.put, List.setIfInBounds_toArray, List.set_cons_zero, List.set_cons_succ]
  refine tkS 23 { dst := some 42, op := .move (.tmp 41), type := 4, pos := "law.go:62", after := #[{ on := 22, ground := .data }, { on := 20, ground := .chain }], guard := none } (v := ?v1_23) hq hHeld rfl (by kernel_rfl) ?y1_23 ?_
  case y1_23 => (intro w h; clear h; go_simp <;> with_reducible rfl)
  try simp only [Act.put, List.setIfInBounds_toArray, List.set_cons_zero, List.set_cons_succ]
  refine tkS 24 { dst := some 43, op := .load 26 (.tmp 2), type := 26, pos := "law.go:62", after := #[{ on := 23, ground := .guard }], guard := some (23, false) } (v := ?v1_24) hq hHeld rfl (by kernel_rfl) ?y1_24 ?_
  case y1_24 => (intro w h; have f0 := keepB F0.out h; have f1 := keepB F1.out h; have f2 := keepB F2.out h; have f3 := keepB F3.out h; have f4 := keepB F4.out h; have f5 := keepB F5.out h; clear h; go_simp <;> with_reducible rfl)
  try simp only [Act.put, List.setIfInBounds_toArray, List.set_cons_zero, List.set_cons_succ]
  refine tkS 26 { dst := some 45, op := .load 26 (.tmp 2), type := 26, pos := "law.go:62", after := #[{ on := 23, ground := .guard }], guard := some (23, false) } (v := ?v1_26) hq hHeld rfl (by kernel_rfl) ?y1_26 ?_
  case y1_26 => (intro w h; have f0 := keepB F0.out h; have f1 := keepB F1.out h; have f2 := keepB F2.out h; have f3 := keepB F3.out h; have f4 := keepB F4.out h; have f5 := keepB F5.out h; clear h; go_simp <;> with_reducible rfl)
  try simp only [Act.put, List.setIfInBounds_toArray, List.set_cons_zero, List.set_cons_succ]
  refine clS 25 { dst := some 44, op := .call { callee := .value (.func 15), args := #[.tmp 43], argTypes := #[26] }, type := 34, pos := "law.go:62", after := #[{ on := 24, ground := .data }, { on := 23, ground := .chain }, { on := 23, ground := .guard }], guard := some (23, false) } rfl (by kernel_rfl) (by kernel_rfl) fun Kc hK => ?_
  go_simp
  rw [← hEv]
  refine (HC.out.order E _ (HM.out.drop hHeld) HW.out).mono ?_
  rintro e w4 ⟨o, hor, A3, k3, rfl, hk3, hS3, b4⟩
  have HOR := Lib.hid hor
  obtain ⟨lo, hlo⟩ : ∃ n, o.length = n := ⟨_, rfl⟩
  have HLO := Lib.hid hlo
  have HLOB : Hid (lo ≤ 60) := by have := ord_len hor; show _ ≤ _; rw [← hlo]; rw [HMB.out] at this; omega
  have HS3 := Lib.hid hS3
  rw [HLO.out]
  have HB4 := Lib.hid (hHeld.trans (b4.mono hHeld.size))
  clear hHeld
  refine hK.out _ _ HB4.out fun hHeld => ?_
  clear b4 hS3 hk3 hor hlo
  clear hK Kc
  try simp only [Act.put, List.setIfInBounds_toArray, List.set_cons_zero, List.set_cons_succ]
  refine clS 27 { dst := some 46, op := .call { callee := .value (.func 16), args := #[.tmp 45], argTypes := #[26] }, type := 34, pos := "law.go:62", after := #[{ on := 26, ground := .data }, { on := 25, ground := .chain }, { on := 23, ground := .guard }], guard := some (23, false) } rfl (by kernel_rfl) (by kernel_rfl) fun Kc hK => ?_
  go_simp
  rw [← hEv]
  refine (refOrder_any E m _ (HM.out.drop hHeld) HMB (Lib.hid (by have := HM60.out; omega))).mono ?_
  rintro e w4 ⟨v4, o4, rfl, hR4, hO4, b4⟩
  obtain rfl := ord_uniq HOR.out hR4
  obtain ⟨A4, c4, rfl, hc4, hS4⟩ := hO4.sl (ord_i64 HOR.out (by have := HMB.out; have := HM60.out; omega))
  have HS3b := Lib.hid (HS3.out.drop kp_int b4)
  have HS4 := Lib.hid hS4
  rw [HLO.out]
  have HB4 := Lib.hid (hHeld.trans (b4.mono hHeld.size))
  clear hHeld
  refine hK.out _ _ HB4.out fun hHeld => ?_
  clear b4 hS4 hc4 hR4 hO4
  clear hK Kc
  try simp only [Act.put, List.setIfInBounds_toArray, List.set_cons_zero, List.set_cons_succ]
  refine clS 28 { dst := some 47, op := .call { callee := .value (.func 12), args := #[.tmp 44, .tmp 46], argTypes := #[34, 34] }, type := 4, pos := "law.go:62", after := #[{ on := 25, ground := .data }, { on := 27, ground := .data }, { on := 27, ground := .chain }, { on := 23, ground := .guard }], guard := some (23, false) } rfl (by kernel_rfl) (by kernel_rfl) fun Kc hK => ?_
  go_simp
  refine (lawSame_any A3 A4 _ _ lo lo o o true _ HS3b.out HS4.out HLO HLO (by have := HLOB.out; omega) (by have := HLOB.out; omega) (Lib.hid ⟨fun _ => rfl, fun _ => rfl⟩)).mono ?_
  rintro e w4 ⟨rfl, b4⟩
  have HB4 := Lib.hid (hHeld.trans (b4.mono hHeld.size))
  clear hHeld
  refine hK.out _ _ HB4.out fun hHeld => ?_
  clear b4
  clear hK Kc
  try simp only [Act.put, List.setIfInBounds_toArray, List.set_cons_zero, List.set_cons_succ]
  refine tkS 29 { dst := some 48, op := .unOp .not 4 (.tmp 47), type := 4, pos := "law.go:62", after := #[{ on := 28, ground := .data }, { on := 23, ground := .guard }], guard := some (23, false) } (v := ?v1_29) hq hHeld rfl (by kernel_rfl) ?y1_29 ?_
  case y1_29 => (intro w h; clear h; go_simp <;> with_reducible rfl)
  try simp only [Act.put, List.setIfInBounds_toArray, List.set_cons_zero, List.set_cons_succ]
  refine tkS 30 { dst := some 49, op := .pick (.tmp 42) (.const (.bool true)) (.tmp 48), type := 4, pos := "law.go:62", after := #[{ on := 23, ground := .data }, { on := 29, ground := .data }], guard := none } (v := ?v1_30) hq hHeld rfl (by kernel_rfl) ?y1_30 ?_
  case y1_30 => (intro w h; clear h; go_simp <;> with_reducible rfl)
  try simp only [Act.put, List.setIfInBounds_toArray, List.set_cons_zero, List.set_cons_succ]
  refine wpAnyH_done (by kernel_rfl) ?_ _
  have HB6 := Lib.hid (HB.out.trans (hHeld.mono HB.out.size))
  have HX := Lib.hid hHeld
  clear hHeld hq
  go_wp2_with fail
  replace HM := Lib.hid (HM.out.drop HX.out)
  replace HAS := Lib.hid (HAS.out.drop (kp_slC kp_int) HX.out)
  replace HRS := Lib.hid (HRS.out.drop kp_bool HX.out)
  replace HFS := Lib.hid (HFS.out.below HX.out)
  have f0 := keepB F0.out HX.out
  have f1 := keepB F1.out HX.out
  have f2 := keepB F2.out HX.out
  have f3 := keepB F3.out HX.out
  have f4 := keepB F4.out HX.out
  have f5 := keepB F5.out HX.out
  have H60 := HM60.out
  clear F0 F1 F2 F3 F4 F5 HX
  by_cases h0 : m = 0
  · have hc0 : ¬ (0 : Int) < (m : Int) := by omega
    go_loopw [8] (fun i wr => i = .int .i64 0 ∧ w4 = wr) (fun i _ => 0)
    case atStart => exact ⟨rfl, rfl⟩
    case round =>
      obtain ⟨rfl, rfl⟩ := hrel
      go_wp2_with fail
      go_ret
      exact ⟨rfl, HB6.out⟩
  · have hlen : 0 < (ahL E.f.blocks).length := by rw [hlA]; omega
    have hlen2 : 0 < fl2.length := by rw [hlF]; omega
    obtain ⟨ag, ao, rfl⟩ := HAS.out.some hlen
    obtain ⟨rg, ro, rfl⟩ := HRS.out.some hlen2
    have HLA0 := Lib.hid hlA
    have HLF0 := Lib.hid hlF
    have C := Lib.hid (And.intro f0 (And.intro f1 (And.intro f2 (And.intro f3 (And.intro f4 f5)))))
    have HLIM : Hid (E.f.blocks.length ≤ 1000000) := by show _ ≤ _; rw [HMB.out]; omega
    clear hlen hlen2 hlA hlF f0 f1 f2 f3 f4 f5
    go_loopw [8] (fun i wr => BRel w4 m (fun _ => True) i wr) (fun i _ => m - (intOf i).toNat)
    case atStart => exact ⟨0, Nat.zero_le _, rfl, trivial, Below.refl _ _⟩
    case round =>
      obtain ⟨i, hi, rfl, -, hb⟩ := hrel
      have HBI := Lib.hid hb
      clear hb
      by_cases hlt : i < m
      · have hlt2 : (i : Int) < (m : Int) := by omega
        have Z0 := C.out
        obtain ⟨f0, f1, f2, f3, f4, f5⟩ := C.out
        have F0 := Lib.hid (keepB f0 HBI.out)
        have F1 := Lib.hid (keepB f1 HBI.out)
        have F2 := Lib.hid (keepB f2 HBI.out)
        have F3 := Lib.hid (keepB f3 HBI.out)
        have F4 := Lib.hid (keepB f4 HBI.out)
        have F5 := Lib.hid (keepB f5 HBI.out)
        have HM6 := Lib.hid (HM.out.drop HBI.out)
        obtain ⟨b, hbf⟩ : ∃ b, fl2[i]? = some b := ⟨_, List.getElem?_eq_getElem (by have := HLF0.out; omega)⟩
        obtain ⟨cs, rfl, hz1⟩ := (HRS.out.drop kp_bool HBI.out).at hbf
        have z1 := hz1 0 _ rfl
        have z2 := (HFS.out.below HBI.out).cell hbf
        have hai : (ahL E.f.blocks)[i]? = some (aheadL E.f.blocks i) := by
          unfold ahL
          rw [List.getElem?_map, List.getElem?_range (by have := HMB.out; omega)]; rfl
        obtain ⟨cs, ⟨v, rfl, iA, ik, rfl, i1, i2, hI⟩, hz3⟩ := (HAS.out.drop (kp_slC kp_int) HBI.out).at hai
        have z3 := hz3 0 _ rfl
        simp only [Nat.mul_one, Nat.add_zero] at z1 z3
        obtain ⟨la, hla⟩ : ∃ n, (aheadL E.f.blocks i).length = n := ⟨_, rfl⟩
        rw [hla] at z3 i1
        have HLA := Lib.hid hla
        have HLAB : Hid (la ≤ 60) := by show _ ≤ _; rw [← hla]; have := ahead_len E.f.blocks i E.f.blocks.length; unfold aheadL; have := HMB.out; omega
        have HI := Lib.hid hI
        have Z1 := Lib.hid z1
        have Z2 := Lib.hid z2
        have Z3 := Lib.hid z3
        clear hbf hz1 z1 z2 hai hz3 z3 hI hla Z0 f0 f1 f2 f3 f4 f5
        go_wp2_with fail
        refine rgS (fun w' => Below wr.heap.size wr w') (by kernel_rfl) ((Below.refl _ _).drew) (fun _ a d v _ h => And.intro ((put_df a d v).symm.trans (And.left h)) (And.right h)) fun hHeld hq => ?_
        refine tkS 0 { dst := some 56, op := .move (.tmp 6), type := 31, pos := "law.go:66", after := #[], guard := none } (v := ?v2_0) hq hHeld rfl (by kernel_rfl) ?y2_0 ?_
        case y2_0 => (intro w h; clear h; go_simp <;> with_reducible rfl)
        try simp only [Act.put, List.setIfInBounds_toArray, List.set_cons_zero, List.set_cons_succ]
        refine tkS 1 { dst := some 57, op := .move (.tmp 8), type := 3, pos := "law.go:66", after := #[], guard := none } (v := ?v2_1) hq hHeld rfl (by kernel_rfl) ?y2_1 ?_
        case y2_1 => (intro w h; clear h; go_simp <;> with_reducible rfl)
        try simp only [Act.put, List.setIfInBounds_toArray, List.set_cons_zero, List.set_cons_succ]
        refine tkS 2 { dst := some 58, op := .indexAddr 31 (.tmp 56) (.tmp 57), type := 0, pos := "law.go:66", after := #[{ on := 0, ground := .data }, { on := 1, ground := .data }], guard := none } (v := ?v2_2) hq hHeld rfl (by kernel_rfl) ?y2_2 ?_
        case y2_2 => (intro w h; clear h; go_simp <;> with_reducible rfl)
        try simp only [Act.put, List.setIfInBounds_toArray, List.set_cons_zero, List.set_cons_succ]
        refine tkS 3 { dst := some 59, op := .load 4 (.tmp 58), type := 4, pos := "law.go:66", after := #[{ on := 2, ground := .data }], guard := none } (v := ?v2_3) hq hHeld rfl (by kernel_rfl) ?y2_3 ?_
        case y2_3 => (intro w h; have z1 := keepB Z1.out h; have z2 := keepB Z2.out h; have z3 := keepB Z3.out h; have f0 := keepB F0.out h; have f1 := keepB F1.out h; have f2 := keepB F2.out h; have f3 := keepB F3.out h; have f4 := keepB F4.out h; have f5 := keepB F5.out h; clear h; go_simp <;> with_reducible rfl)
        try simp only [Act.put, List.setIfInBounds_toArray, List.set_cons_zero, List.set_cons_succ]
        refine tkS 4 { dst := some 60, op := .move (.tmp 7), type := 31, pos := "law.go:66", after := #[], guard := none } (v := ?v2_4) hq hHeld rfl (by kernel_rfl) ?y2_4 ?_
        case y2_4 => (intro w h; clear h; go_simp <;> with_reducible rfl)
        try simp only [Act.put, List.setIfInBounds_toArray, List.set_cons_zero, List.set_cons_succ]
        refine tkS 5 { dst := some 61, op := .move (.tmp 8), type := 3, pos := "law.go:66", after := #[], guard := none } (v := ?v2_5) hq hHeld rfl (by kernel_rfl) ?y2_5 ?_
        case y2_5 => (intro w h; clear h; go_simp <;> with_reducible rfl)
        try simp only [Act.put, List.setIfInBounds_toArray, List.set_cons_zero, List.set_cons_succ]
        refine tkS 6 { dst := some 62, op := .indexAddr 31 (.tmp 60) (.tmp 61), type := 0, pos := "law.go:66", after := #[{ on := 4, ground := .data }, { on := 5, ground := .data }], guard := none } (v := ?v2_6) hq hHeld rfl (by kernel_rfl) ?y2_6 ?_
        case y2_6 => (intro w h; clear h; go_simp <;> with_reducible rfl)
        try simp only [Act.put, List.setIfInBounds_toArray, List.set_cons_zero, List.set_cons_succ]
        refine tkS 7 { dst := some 63, op := .load 4 (.tmp 62), type := 4, pos := "law.go:66", after := #[{ on := 6, ground := .data }], guard := none } (v := ?v2_7) hq hHeld rfl (by kernel_rfl) ?y2_7 ?_
        case y2_7 => (intro w h; have z1 := keepB Z1.out h; have z2 := keepB Z2.out h; have z3 := keepB Z3.out h; have f0 := keepB F0.out h; have f1 := keepB F1.out h; have f2 := keepB F2.out h; have f3 := keepB F3.out h; have f4 := keepB F4.out h; have f5 := keepB F5.out h; clear h; go_simp <;> with_reducible rfl)
        try simp only [Act.put, List.setIfInBounds_toArray, List.set_cons_zero, List.set_cons_succ]
        refine tkS 8 { dst := some 64, op := .binOp .neq 4 (.tmp 59) (.tmp 63) 4, type := 4, pos := "law.go:66", after := #[{ on := 3, ground := .data }, { on := 7, ground := .data }], guard := none } (v := ?v2_8) hq hHeld rfl (by kernel_rfl) ?y2_8 ?_
        case y2_8 => (intro w h; clear h; go_simp <;> with_reducible rfl)
        try simp only [Act.put, List.setIfInBounds_toArray, List.set_cons_zero, List.set_cons_succ]
        refine tkS 9 { dst := some 65, op := .move (.tmp 64), type := 4, pos := "law.go:66", after := #[{ on := 8, ground := .data }], guard := none } (v := ?v2_9) hq hHeld rfl (by kernel_rfl) ?y2_9 ?_
        case y2_9 => (intro w h; clear h; go_simp <;> with_reducible rfl)
        try simp only [Act.put, List.setIfInBounds_toArray, List.set_cons_zero, List.set_cons_succ]
        refine tkS 10 { dst := some 66, op := .move (.tmp 5), type := 29, pos := "law.go:66", after := #[{ on := 9, ground := .guard }], guard := some (9, false) } (v := ?v2_10) hq hHeld rfl (by kernel_rfl) ?y2_10 ?_
        case y2_10 => (intro w h; clear h; go_simp <;> with_reducible rfl)
        try simp only [Act.put, List.setIfInBounds_toArray, List.set_cons_zero, List.set_cons_succ]
        refine tkS 11 { dst := some 67, op := .move (.tmp 8), type := 3, pos := "law.go:66", after := #[{ on := 9, ground := .guard }], guard := some (9, false) } (v := ?v2_11) hq hHeld rfl (by kernel_rfl) ?y2_11 ?_
        case y2_11 => (intro w h; clear h; go_simp <;> with_reducible rfl)
        try simp only [Act.put, List.setIfInBounds_toArray, List.set_cons_zero, List.set_cons_succ]
        refine tkS 12 { dst := some 68, op := .indexAddr 29 (.tmp 66) (.tmp 67), type := 0, pos := "law.go:66", after := #[{ on := 10, ground := .data }, { on := 11, ground := .data }, { on := 9, ground := .guard }], guard := some (9, false) } (v := ?v2_12) hq hHeld rfl (by kernel_rfl) ?y2_12 ?_
        case y2_12 => (intro w h; clear h; go_simp <;> with_reducible rfl)
        try simp only [Act.put, List.setIfInBounds_toArray, List.set_cons_zero, List.set_cons_succ]
        refine tkS 13 { dst := some 69, op := .load 34 (.tmp 68), type := 34, pos := "law.go:66", after := #[{ on := 12, ground := .data }, { on := 9, ground := .guard }], guard := some (9, false) } (v := ?v2_13) hq hHeld rfl (by kernel_rfl) ?y2_13 ?_
        case y2_13 => (intro w h; have z1 := keepB Z1.out h; have z2 := keepB Z2.out h; have z3 := keepB Z3.out h; have f0 := keepB F0.out h; have f1 := keepB F1.out h; have f2 := keepB F2.out h; have f3 := keepB F3.out h; have f4 := keepB F4.out h; have f5 := keepB F5.out h; clear h; go_simp <;> with_reducible rfl)
        try simp only [Act.put, List.setIfInBounds_toArray, List.set_cons_zero, List.set_cons_succ]
        refine tkS 14 { dst := some 70, op := .load 26 (.tmp 2), type := 26, pos := "law.go:66", after := #[{ on := 9, ground := .guard }], guard := some (9, false) } (v := ?v2_14) hq hHeld rfl (by kernel_rfl) ?y2_14 ?_
        case y2_14 => (intro w h; have z1 := keepB Z1.out h; have z2 := keepB Z2.out h; have z3 := keepB Z3.out h; have f0 := keepB F0.out h; have f1 := keepB F1.out h; have f2 := keepB F2.out h; have f3 := keepB F3.out h; have f4 := keepB F4.out h; have f5 := keepB F5.out h; clear h; go_simp <;> with_reducible rfl)
        try simp only [Act.put, List.setIfInBounds_toArray, List.set_cons_zero, List.set_cons_succ]
        refine tkS 15 { dst := some 71, op := .move (.tmp 8), type := 3, pos := "law.go:66", after := #[{ on := 9, ground := .guard }], guard := some (9, false) } (v := ?v2_15) hq hHeld rfl (by kernel_rfl) ?y2_15 ?_
        case y2_15 => (intro w h; clear h; go_simp <;> with_reducible rfl)
        try simp only [Act.put, List.setIfInBounds_toArray, List.set_cons_zero, List.set_cons_succ]
        refine clS 16 { dst := some 72, op := .call { callee := .value (.func 17), args := #[.tmp 70, .tmp 71], argTypes := #[26, 3] }, type := 34, pos := "law.go:66", after := #[{ on := 14, ground := .data }, { on := 15, ground := .data }, { on := 9, ground := .chain }, { on := 9, ground := .guard }], guard := some (9, false) } rfl (by kernel_rfl) (by kernel_rfl) fun Kc hK => ?_
        go_simp
        rw [← hEv]
        refine (refAhead_any E i _ (HM6.out.drop hHeld) HLIM).mono ?_
        rintro e w4 ⟨v2, rfl, hO2, b4⟩
        obtain ⟨A2, c2, rfl, hc2, hS2⟩ := hO2.sl (ahead_i64 HLIM.out)
        have HS1b := Lib.hid (HI.out.drop kp_int (hHeld.trans (b4.mono hHeld.size)))
        have HS2 := Lib.hid hS2
        rw [HLA.out]
        have HB4 := Lib.hid (hHeld.trans (b4.mono hHeld.size))
        clear hHeld
        refine hK.out _ _ HB4.out fun hHeld => ?_
        clear b4 hS2 hc2 hO2
        clear hK Kc
        try simp only [Act.put, List.setIfInBounds_toArray, List.set_cons_zero, List.set_cons_succ]
        refine clS 17 { dst := some 73, op := .call { callee := .value (.func 12), args := #[.tmp 69, .tmp 72], argTypes := #[34, 34] }, type := 4, pos := "law.go:66", after := #[{ on := 13, ground := .data }, { on := 16, ground := .data }, { on := 16, ground := .chain }, { on := 9, ground := .guard }], guard := some (9, false) } rfl (by kernel_rfl) (by kernel_rfl) fun Kc hK => ?_
        go_simp
        refine (lawSame_any iA A2 _ _ la la (aheadL E.f.blocks i) (aheadL E.f.blocks i) true _ HS1b.out HS2.out HLA HLA (by have := HLAB.out; omega) (by have := HLAB.out; omega) (Lib.hid ⟨fun _ => rfl, fun _ => rfl⟩)).mono ?_
        rintro e w4 ⟨rfl, b4⟩
        have HB4 := Lib.hid (hHeld.trans (b4.mono hHeld.size))
        clear hHeld
        refine hK.out _ _ HB4.out fun hHeld => ?_
        clear b4
        clear hK Kc
        try simp only [Act.put, List.setIfInBounds_toArray, List.set_cons_zero, List.set_cons_succ]
        refine tkS 18 { dst := some 74, op := .unOp .not 4 (.tmp 73), type := 4, pos := "law.go:66", after := #[{ on := 17, ground := .data }, { on := 9, ground := .guard }], guard := some (9, false) } (v := ?v2_18) hq hHeld rfl (by kernel_rfl) ?y2_18 ?_
        case y2_18 => (intro w h; clear h; go_simp <;> with_reducible rfl)
        try simp only [Act.put, List.setIfInBounds_toArray, List.set_cons_zero, List.set_cons_succ]
        refine tkS 19 { dst := some 75, op := .pick (.tmp 65) (.const (.bool true)) (.tmp 74), type := 4, pos := "law.go:66", after := #[{ on := 9, ground := .data }, { on := 18, ground := .data }], guard := none } (v := ?v2_19) hq hHeld rfl (by kernel_rfl) ?y2_19 ?_
        case y2_19 => (intro w h; clear h; go_simp <;> with_reducible rfl)
        try simp only [Act.put, List.setIfInBounds_toArray, List.set_cons_zero, List.set_cons_succ]
        refine wpAnyH_done (by kernel_rfl) ?_ _
        have HB7 := Lib.hid (HBI.out.trans (hHeld.mono HBI.out.size))
        clear hHeld hq
        go_wp2_with fail
        go_roundw
        case rel => exact ⟨i + 1, by omega, by go_num, trivial, HB7.out⟩
        case measure => simp [intOf] <;> omega
      · obtain rfl : i = m := by omega
        have hnl : ¬ (i : Int) < (i : Int) := by omega
        have HE := Lib.hid (HB6.out.trans (HBI.out.mono HB6.out.size))
        go_wp2_with fail
        go_ret
        exact ⟨rfl, HE.out⟩

end Go.Proofs.Ytpaddigjjlidcaa
