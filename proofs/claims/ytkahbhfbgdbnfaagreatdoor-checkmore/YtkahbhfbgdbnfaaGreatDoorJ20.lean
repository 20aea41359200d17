/-
  CONTRACT: checkTypes of package check. Of what was there nothing has turned.
-/
import Derived.Test.YtkahbhfbgdbnfaaGreatDoorJ19
import Derived.Deep.CutRange
namespace Go.Proofs.YtkahbhfbgdbnfaaGreatDoor
open Go.RowKit

theorem tp_at {ks : List Tree} {k : Nat} {u : Tree} (h : ks[k]? = some u) : ks.getD k Tree.zero = u := by rw [List.getD_eq_getElem?_getD, h]; rfl
set_option maxRecDepth 100000 in
set_option maxHeartbeats 1000000 in
theorem ctypes_any (E : CE) (b : Nat) (t : Tree) (w : World) (N : Nd E b t) (hB : Below E.w0.heap.size E.w0 w) (ss : List Str) (A : Option Addr) (c : Nat) (hS : SR w A ss) (hsl : ss.length ≤ 100000) (hk : t.op = 4 → 1 ≤ t.kids.length) :
    Calls Tryz.prog 109 #[.slice A ss.length c, .agg #[.pointer (some ⟨b, 0, none⟩)]] w (UQ E w (typesC ss t)) := by
  have B0 := Lib.hid (b1 w (.cells #[.pointer (some ⟨b, 0, none⟩)] 25))
  have HB0 := Lib.hid (hB.trans ((b1 w (.cells #[.pointer (some ⟨b, 0, none⟩)] 25)).mono hB.size))
  have U0 := Lib.hid (PtrAt.new w (some ⟨b, 0, none⟩))
  have NN := Lib.hid N
  have HKK := Lib.hid hk
  have HSR := Lib.hid (hS.below (b1 w (.cells #[.pointer (some ⟨b, 0, none⟩)] 25)) (Nat.le_refl _))
  have hm6 : t.kids.length ≤ 6000 := by obtain ⟨-, -, -, -, h, -⟩ := N.kid; omega
  clear N hk hS
  by_cases ho : t.op = 3
  · obtain ⟨d, hd⟩ : ∃ d, isT ss (tp t) = d := ⟨_, rfl⟩
    have HD := Lib.hid hd
    rw [show typesC ss t = nd t.pos d 5 (.ok ()) by unfold typesC; rw [if_pos ho, hd]]
    clear hd
    go_enter Tryz.func109, Tryz.ntmps109
    go_wp2_with fail
    generalize w.alloc (.cells #[.pointer (some ⟨b, 0, none⟩)] 25) = wa at *
    have u0 := U0.out.c0
    have ul := U0.out.lt
    refine (cop_at NN.out HB0.out _ (Below.refl _ _)).mono ?_
    rintro e w1 ⟨rfl, hb⟩
    have u0 := keepC (Below.refl _ _) u0 ul hb
    have hh := Lib.hid hb
    rw [ho]
    clear hb
    go_wp2_with fail
    refine rgS (fun w' => Below wa.heap.size wa w' ∧ w'.cell? ⟨w.heap.size, 0, none⟩ = some (.pointer (some ⟨b, 0, none⟩))) (by kernel_rfl) (⟨hh.out.drew, u0⟩) (fun _ a d v _ h => And.intro ((put_df a d v).symm.trans (And.left h)) (And.right h)) fun hHeld hq => ?_
    refine tkS 0 { dst := some 9, op := .load 25 (.tmp 3), type := 25, pos := "declare.go:119", after := #[], guard := none } (v := ?v1_0) hq hHeld rfl (by kernel_rfl) ?y1_0 ?_
    case y1_0 => (intro w h; try dsimp only at h); go_simp <;> with_reducible rfl
    try simp only [Act.put, List.setIfInBounds_toArray, List.set_cons_zero, List.set_cons_succ]
    refine tkS 1 { dst := some 10, op := .move (.tmp 0), type := 40, pos := "declare.go:119", after := #[], guard := none } (v := ?v1_1) hq hHeld rfl (by kernel_rfl) ?y1_1 ?_
    case y1_1 => (intro w h; try dsimp only at h); go_simp <;> with_reducible rfl
    try simp only [Act.put, List.setIfInBounds_toArray, List.set_cons_zero, List.set_cons_succ]
    refine tkS 2 { dst := some 11, op := .load 25 (.tmp 3), type := 25, pos := "declare.go:119", after := #[], guard := none } (v := ?v1_2) hq hHeld rfl (by kernel_rfl) ?y1_2 ?_
    case y1_2 => (intro w h; try dsimp only at h); go_simp <;> with_reducible rfl
    try simp only [Act.put, List.setIfInBounds_toArray, List.set_cons_zero, List.set_cons_succ]
    refine clS 3 { dst := some 12, op := .call { callee := .value (.func 43), args := #[.tmp 11], argTypes := #[25] }, type := 9, pos := "declare.go:119", after := #[{ on := 2, ground := .data }], guard := none } rfl (by kernel_rfl) (by kernel_rfl) fun Kc hK => ?_
    go_simp
    refine (ctyp_at NN.out HB0.out _ hHeld.1).mono ?_
    rintro e w1 ⟨rfl, hb⟩
    refine hK.out _ _ ⟨hHeld.1.trans (hb.mono hHeld.1.size), keepC hHeld.1 hHeld.2 ul hb⟩ fun hHeld => ?_
    clear hb
    clear hK Kc
    try simp only [Act.put, List.setIfInBounds_toArray, List.set_cons_zero, List.set_cons_succ]
    refine clS 4 { dst := some 13, op := .call { callee := .value (.func 118), args := #[.tmp 10, .tmp 12], argTypes := #[40, 9] }, type := 4, pos := "declare.go:119", after := #[{ on := 1, ground := .data }, { on := 3, ground := .data }, { on := 3, ground := .chain }], guard := none } rfl (by kernel_rfl) (by kernel_rfl) fun Kc hK => ?_
    go_simp
    refine (is_any A c ss.length ss (tp t) d _ (Lib.hid (HSR.out.below hHeld.1 (Nat.le_refl _))) (Lib.hid rfl) (by omega) HD).mono ?_
    rintro e w1 ⟨rfl, hb⟩
    refine hK.out _ _ ⟨hHeld.1.trans (hb.mono hHeld.1.size), keepC hHeld.1 hHeld.2 ul hb⟩ fun hHeld => ?_
    clear hb
    clear hK Kc
    try simp only [Act.put, List.setIfInBounds_toArray, List.set_cons_zero, List.set_cons_succ]
    refine clS 5 { dst := some 14, op := .call { callee := .value (.func 148), args := #[.tmp 9, .tmp 13, .const (.int .i64 5)], argTypes := #[25, 4, 26] }, type := 0, pos := "declare.go:119", after := #[{ on := 0, ground := .data }, { on := 4, ground := .data }, { on := 4, ground := .chain }], guard := none } rfl (by kernel_rfl) (by kernel_rfl) fun Kc hK => ?_
    go_simp
    refine (cneed_at NN.out HB0.out d 5 _ hHeld.1).mono ?_
    rintro e w1 ⟨hb, he⟩
    cases d with
    | false => obtain rfl := he; exact ⟨rfl, uq_bad (onB B0.out hHeld.1 hb) (er := 5) rfl rfl⟩
    | true =>
    obtain rfl := he
    refine hK.out _ _ ⟨hHeld.1.trans (hb.mono hHeld.1.size), keepC hHeld.1 hHeld.2 ul hb⟩ fun hHeld => ?_
    clear hb
    clear hK Kc
    try simp only [Act.put, List.setIfInBounds_toArray, List.set_cons_zero, List.set_cons_succ]
    refine wpAnyH_done (by kernel_rfl) ?_ _
    go_wp2_with fail
    refine bodyPost_ret (v := .tuple #[]) (by simp [results, Tryz.results109, go_sem]) rfl ?_
    exact ⟨B0.out.trans (hHeld.1.mono B0.out.size), rfl⟩
  · obtain ⟨m, hm⟩ : ∃ m, cntP t = m := ⟨_, rfl⟩
    have HM := Lib.hid hm
    have hcl := cntP_le t
    obtain ⟨r, hr⟩ : ∃ r, fir (partE ss t) m 0 = r := ⟨_, rfl⟩
    have HR := Lib.hid hr
    obtain ⟨e1, he1⟩ : ∃ d, (tp t).toList.isEmpty = d := ⟨_, rfl⟩
    have HE1 : Hid (eqB (tp t) tNone = e1) := eqB_nil he1
    obtain ⟨e2, he2⟩ : ∃ d, isT ss (tp t) = d := ⟨_, rfl⟩
    have HE2 := Lib.hid he2
    have HTC : Hid (typesC ss t = (firR t.kids r).bind fun _ => nd t.pos (e1 || e2) 5 (.ok ())) := by show _ = _; unfold typesC; rw [if_neg ho, firC_eq, hm, hr, HE1.out, he2]
    have f3 : ((t.op : Int) == 3) = false := by rw [beq_eq_false_iff_ne]; omega
    rw [hm] at hcl
    clear hr he2 hm ho
    go_enter Tryz.func109, Tryz.ntmps109
    go_wp2_with fail
    generalize w.alloc (.cells #[.pointer (some ⟨b, 0, none⟩)] 25) = wa at *
    have u0 := U0.out.c0
    have ul := U0.out.lt
    refine (cop_at NN.out HB0.out _ (Below.refl _ _)).mono ?_
    rintro e w1 ⟨rfl, hb⟩
    have u1 := keepC (Below.refl _ _) u0 ul hb
    have hh := Lib.hid hb
    clear hb
    go_wp2_with fail
    refine (ccount_any E b t w1 NN.out (HB0.out.trans (hh.out.mono HB0.out.size)) HKK.out).mono ?_
    rintro e wc ⟨rfl, hb⟩
    have H0 := Lib.hid (hh.out.trans (hb.mono hh.out.size))
    rw [HM.out]
    clear hb u1
    go_wp2_with fail
    go_loopw [17] (fun i wr => NRel wa (partE ss t) m r i wr) (fun i _ => m - (intOf i).toNat)
    case atStart => exact ⟨0, Nat.zero_le _, rfl, HR, H0.out⟩
    case round =>
      obtain ⟨k, hk, rfl, HK, hb0⟩ := hrel
      have HB := Lib.hid hb0
      by_cases hlt : k < m
      · obtain ⟨u, hu⟩ : ∃ u, t.kids[k]? = some u := ⟨_, List.getElem?_eq_getElem (by omega)⟩
        obtain ⟨nb, hn, hkd⟩ := ckid_at NN.out HB0.out k u hu
        have HU := Lib.hid hu
        have N1 := Lib.hid hn
        have KD := Lib.hid hkd
        have ur := keepC (Below.refl _ _) u0 ul hb0
        have HGP := Lib.hid (tp_at hu)
        clear hu hn hkd hb0
        go_wp2_with fail
        refine (KD.out _ HB.out).mono ?_
        rintro e w2 ⟨rfl, hb⟩
        have H2 := Lib.hid (HB.out.trans (hb.mono HB.out.size))
        have KC := Lib.hid (PtrAt.new w2 (some ⟨nb, 0, none⟩))
        have H4 := Lib.hid (H2.out.trans ((b1 w2 (.cells #[.pointer (some ⟨nb, 0, none⟩)] 25)).mono H2.out.size))
        clear hb KD ur
        have k0 := KC.out.c0
        have kl := KC.out.lt
        go_wp2_with fail
        generalize w2.alloc (.cells #[.pointer (some ⟨nb, 0, none⟩)] 25) = w4 at *
        have u4 := keepC (Below.refl _ _) u0 ul H4.out
        have ul4 := Nat.lt_of_lt_of_le ul H4.out.size
        obtain ⟨d, hd⟩ : ∃ d, newB t.kids k = d := ⟨_, rfl⟩
        have HD := Lib.hid hd
        obtain ⟨mo, hmo⟩ : ∃ d, mostPt t.op = d := ⟨_, rfl⟩
        obtain ⟨d2, hd2⟩ : ∃ d, decide (k < mo) = d := ⟨_, rfl⟩
        have HMO := Lib.hid hmo
        obtain ⟨d3, hd3⟩ : ∃ d, isT ss (tp u) = d := ⟨_, rfl⟩
        have HD3 := Lib.hid hd3
        have HE : Hid (partE ss t k = if d2 then (if d then (if d3 then 0 else 5) else 6) else 4) := by
          show _ = _
          unfold partE
          rw [hd, hmo, HGP.out, hd3, ← hd2]
          by_cases h : k < mo
          · simp [h]
          · simp [h]
        have HF4 : Hid ((firR t.kids (k, 4)).bind (fun _ => nd t.pos (e1 || e2) 5 (.ok ())) = .bad u.pos 4) := by show CR.bad (t.kids.getD k Tree.zero).pos 4 = _; rw [HGP.out]
        have HF6 : Hid ((firR t.kids (k, 6)).bind (fun _ => nd t.pos (e1 || e2) 5 (.ok ())) = .bad u.pos 6) := by show CR.bad (t.kids.getD k Tree.zero).pos 6 = _; rw [HGP.out]
        have HF5 : Hid ((firR t.kids (k, 5)).bind (fun _ => nd t.pos (e1 || e2) 5 (.ok ())) = .bad u.pos 5) := by show CR.bad (t.kids.getD k Tree.zero).pos 5 = _; rw [HGP.out]
        have BA : Hid (∀ w', Below w4.heap.size w4 w' → Below w.heap.size w w') := fun w' h => B0.out.trans ((H4.out.trans (h.mono H4.out.size)).mono B0.out.size)
        have BEW := Lib.hid (HB0.out.trans (H4.out.mono HB0.out.size))
        have HSR4 := Lib.hid (HSR.out.below H4.out (Nat.le_refl _))
        clear hd hmo hd3
        refine rgS (fun w' => Below w4.heap.size w4 w' ∧ w'.cell? ⟨w2.heap.size, 0, none⟩ = some (.pointer (some ⟨nb, 0, none⟩)) ∧ w'.cell? ⟨w.heap.size, 0, none⟩ = some (.pointer (some ⟨b, 0, none⟩))) (by kernel_rfl) (⟨(Below.refl _ _).drew, k0, u4⟩) (fun _ a d v _ h => And.intro ((put_df a d v).symm.trans (And.left h)) (And.right h)) fun hHeld hq => ?_
        refine tkS 0 { dst := some 23, op := .load 25 (.tmp 5), type := 25, pos := "declare.go:124", after := #[], guard := none } (v := ?v2_0) hq hHeld rfl (by kernel_rfl) ?y2_0 ?_
        case y2_0 => (intro w h; try dsimp only at h); go_simp <;> with_reducible rfl
        try simp only [Act.put, List.setIfInBounds_toArray, List.set_cons_zero, List.set_cons_succ]
        refine tkS 1 { dst := some 24, op := .move (.tmp 4), type := 3, pos := "declare.go:124", after := #[], guard := none } (v := ?v2_1) hq hHeld rfl (by kernel_rfl) ?y2_1 ?_
        case y2_1 => (intro w h; try dsimp only at h); go_simp <;> with_reducible rfl
        try simp only [Act.put, List.setIfInBounds_toArray, List.set_cons_zero, List.set_cons_succ]
        refine tkS 2 { dst := some 25, op := .load 25 (.tmp 3), type := 25, pos := "declare.go:124", after := #[], guard := none } (v := ?v2_2) hq hHeld rfl (by kernel_rfl) ?y2_2 ?_
        case y2_2 => (intro w h; try dsimp only at h); go_simp <;> with_reducible rfl
        try simp only [Act.put, List.setIfInBounds_toArray, List.set_cons_zero, List.set_cons_succ]
        refine clS 3 { dst := some 26, op := .call { callee := .value (.func 10), args := #[.tmp 25], argTypes := #[25] }, type := 3, pos := "declare.go:124", after := #[{ on := 2, ground := .data }], guard := none } rfl (by kernel_rfl) (by kernel_rfl) fun Kc hK => ?_
        go_simp
        refine (cop_at NN.out BEW.out _ hHeld.1).mono ?_
        rintro e w1 ⟨rfl, hb⟩
        refine hK.out _ _ ⟨hHeld.1.trans (hb.mono hHeld.1.size), keepC hHeld.1 hHeld.2.1 kl hb, keepC hHeld.1 hHeld.2.2 ul4 hb⟩ fun hHeld => ?_
        clear hb
        clear hK Kc
        try simp only [Act.put, List.setIfInBounds_toArray, List.set_cons_zero, List.set_cons_succ]
        refine clS 4 { dst := some 27, op := .call { callee := .value (.func 153), args := #[.tmp 26], argTypes := #[3] }, type := 3, pos := "declare.go:124", after := #[{ on := 3, ground := .data }, { on := 3, ground := .chain }], guard := none } rfl (by kernel_rfl) (by kernel_rfl) fun Kc hK => ?_
        go_simp
        refine (sameB (cmostParts_any t.op _)).mono ?_
        rintro e w1 ⟨rfl, hb⟩
        rw [HMO.out]
        refine hK.out _ _ ⟨hHeld.1.trans (hb.mono hHeld.1.size), keepC hHeld.1 hHeld.2.1 kl hb, keepC hHeld.1 hHeld.2.2 ul4 hb⟩ fun hHeld => ?_
        clear hb
        clear hK Kc
        try simp only [Act.put, List.setIfInBounds_toArray, List.set_cons_zero, List.set_cons_succ]
        refine tkS 5 { dst := some 28, op := .binOp .lss 3 (.tmp 24) (.tmp 27) 3, type := 4, pos := "declare.go:124", after := #[{ on := 1, ground := .data }, { on := 4, ground := .data }], guard := none } (v := ?v2_5) hq hHeld rfl (by kernel_rfl) ?y2_5 ?_
        case y2_5 => (intro w h; try dsimp only at h); go_simp <;> with_reducible rfl
        try simp only [Act.put, List.setIfInBounds_toArray, List.set_cons_zero, List.set_cons_succ]
        refine clS 6 { dst := some 29, op := .call { callee := .value (.func 148), args := #[.tmp 23, .tmp 28, .const (.int .i64 4)], argTypes := #[25, 4, 26] }, type := 0, pos := "declare.go:124", after := #[{ on := 0, ground := .data }, { on := 5, ground := .data }, { on := 4, ground := .chain }], guard := none } rfl (by kernel_rfl) (by kernel_rfl) fun Kc hK => ?_
        go_simp
        refine (cneed_at N1.out BEW.out d2 4 _ hHeld.1).mono ?_
        rintro e w1 ⟨hb, he⟩
        cases d2 with
        | false => obtain rfl := he; exact ⟨rfl, uq_bad (BA.out _ (hHeld.1.trans (hb.mono hHeld.1.size))) (er := 4) (by rw [HTC.out, ← HK.out, fir_hit hlt (by rw [HE.out]; exact (by decide : (4 : Nat) ≠ 0)), HE.out]; exact HF4.out) rfl⟩
        | true =>
        obtain rfl := he
        refine hK.out _ _ ⟨hHeld.1.trans (hb.mono hHeld.1.size), keepC hHeld.1 hHeld.2.1 kl hb, keepC hHeld.1 hHeld.2.2 ul4 hb⟩ fun hHeld => ?_
        clear hb
        clear hK Kc
        try simp only [Act.put, List.setIfInBounds_toArray, List.set_cons_zero, List.set_cons_succ]
        refine wpAnyH_done (by kernel_rfl) ?_ _
        go_wp2_with fail
        have k0 := hHeld.2.1
        have u4 := hHeld.2.2
        refine rgS (fun w' => Below w4.heap.size w4 w' ∧ w'.cell? ⟨w2.heap.size, 0, none⟩ = some (.pointer (some ⟨nb, 0, none⟩)) ∧ w'.cell? ⟨w.heap.size, 0, none⟩ = some (.pointer (some ⟨b, 0, none⟩))) (by kernel_rfl) (⟨hHeld.1.drew, k0, u4⟩) (fun _ a d v _ h => And.intro ((put_df a d v).symm.trans (And.left h)) (And.right h)) fun hHeld hq => ?_
        refine tkS 0 { dst := some 30, op := .load 25 (.tmp 5), type := 25, pos := "declare.go:125", after := #[], guard := none } (v := ?v3_0) hq hHeld rfl (by kernel_rfl) ?y3_0 ?_
        case y3_0 => (intro w h; try dsimp only at h); go_simp <;> with_reducible rfl
        try simp only [Act.put, List.setIfInBounds_toArray, List.set_cons_zero, List.set_cons_succ]
        refine tkS 1 { dst := some 31, op := .load 25 (.tmp 3), type := 25, pos := "declare.go:125", after := #[], guard := none } (v := ?v3_1) hq hHeld rfl (by kernel_rfl) ?y3_1 ?_
        case y3_1 => (intro w h; try dsimp only at h); go_simp <;> with_reducible rfl
        try simp only [Act.put, List.setIfInBounds_toArray, List.set_cons_zero, List.set_cons_succ]
        refine tkS 2 { dst := some 32, op := .move (.tmp 4), type := 3, pos := "declare.go:125", after := #[], guard := none } (v := ?v3_2) hq hHeld rfl (by kernel_rfl) ?y3_2 ?_
        case y3_2 => (intro w h; try dsimp only at h); go_simp <;> with_reducible rfl
        try simp only [Act.put, List.setIfInBounds_toArray, List.set_cons_zero, List.set_cons_succ]
        refine clS 3 { dst := some 33, op := .call { callee := .value (.func 149), args := #[.tmp 31, .tmp 32], argTypes := #[25, 3] }, type := 4, pos := "declare.go:125", after := #[{ on := 1, ground := .data }, { on := 2, ground := .data }], guard := none } rfl (by kernel_rfl) (by kernel_rfl) fun Kc hK => ?_
        go_simp
        refine (cnew_any E b t _ NN.out (BEW.out.trans (hHeld.1.mono BEW.out.size)) k u HU.out).mono ?_
        rintro e w1 ⟨rfl, hb⟩
        rw [HD.out]
        refine hK.out _ _ ⟨hHeld.1.trans (hb.mono hHeld.1.size), keepC hHeld.1 hHeld.2.1 kl hb, keepC hHeld.1 hHeld.2.2 ul4 hb⟩ fun hHeld => ?_
        clear hb
        clear hK Kc
        try simp only [Act.put, List.setIfInBounds_toArray, List.set_cons_zero, List.set_cons_succ]
        refine clS 4 { dst := some 34, op := .call { callee := .value (.func 148), args := #[.tmp 30, .tmp 33, .const (.int .i64 6)], argTypes := #[25, 4, 26] }, type := 0, pos := "declare.go:125", after := #[{ on := 0, ground := .data }, { on := 3, ground := .data }, { on := 3, ground := .chain }], guard := none } rfl (by kernel_rfl) (by kernel_rfl) fun Kc hK => ?_
        go_simp
        refine (cneed_at N1.out BEW.out d 6 _ hHeld.1).mono ?_
        rintro e w1 ⟨hb, he⟩
        cases d with
        | false => obtain rfl := he; exact ⟨rfl, uq_bad (BA.out _ (hHeld.1.trans (hb.mono hHeld.1.size))) (er := 6) (by rw [HTC.out, ← HK.out, fir_hit hlt (by rw [HE.out]; exact (by decide : (6 : Nat) ≠ 0)), HE.out]; exact HF6.out) rfl⟩
        | true =>
        obtain rfl := he
        refine hK.out _ _ ⟨hHeld.1.trans (hb.mono hHeld.1.size), keepC hHeld.1 hHeld.2.1 kl hb, keepC hHeld.1 hHeld.2.2 ul4 hb⟩ fun hHeld => ?_
        clear hb
        clear hK Kc
        try simp only [Act.put, List.setIfInBounds_toArray, List.set_cons_zero, List.set_cons_succ]
        refine wpAnyH_done (by kernel_rfl) ?_ _
        go_wp2_with fail
        have k0 := hHeld.2.1
        refine rgS (fun w' => Below w4.heap.size w4 w' ∧ w'.cell? ⟨w2.heap.size, 0, none⟩ = some (.pointer (some ⟨nb, 0, none⟩))) (by kernel_rfl) (⟨hHeld.1.drew, k0⟩) (fun _ a d v _ h => And.intro ((put_df a d v).symm.trans (And.left h)) (And.right h)) fun hHeld hq => ?_
        refine tkS 0 { dst := some 35, op := .load 25 (.tmp 5), type := 25, pos := "declare.go:126", after := #[], guard := none } (v := ?v4_0) hq hHeld rfl (by kernel_rfl) ?y4_0 ?_
        case y4_0 => (intro w h; try dsimp only at h); go_simp <;> with_reducible rfl
        try simp only [Act.put, List.setIfInBounds_toArray, List.set_cons_zero, List.set_cons_succ]
        refine tkS 1 { dst := some 36, op := .move (.tmp 0), type := 40, pos := "declare.go:126", after := #[], guard := none } (v := ?v4_1) hq hHeld rfl (by kernel_rfl) ?y4_1 ?_
        case y4_1 => (intro w h; try dsimp only at h); go_simp <;> with_reducible rfl
        try simp only [Act.put, List.setIfInBounds_toArray, List.set_cons_zero, List.set_cons_succ]
        refine tkS 2 { dst := some 37, op := .load 25 (.tmp 5), type := 25, pos := "declare.go:126", after := #[], guard := none } (v := ?v4_2) hq hHeld rfl (by kernel_rfl) ?y4_2 ?_
        case y4_2 => (intro w h; try dsimp only at h); go_simp <;> with_reducible rfl
        try simp only [Act.put, List.setIfInBounds_toArray, List.set_cons_zero, List.set_cons_succ]
        refine clS 3 { dst := some 38, op := .call { callee := .value (.func 43), args := #[.tmp 37], argTypes := #[25] }, type := 9, pos := "declare.go:126", after := #[{ on := 2, ground := .data }], guard := none } rfl (by kernel_rfl) (by kernel_rfl) fun Kc hK => ?_
        go_simp
        refine (ctyp_at N1.out BEW.out _ hHeld.1).mono ?_
        rintro e w1 ⟨rfl, hb⟩
        refine hK.out _ _ ⟨hHeld.1.trans (hb.mono hHeld.1.size), keepC hHeld.1 hHeld.2 kl hb⟩ fun hHeld => ?_
        clear hb
        clear hK Kc
        try simp only [Act.put, List.setIfInBounds_toArray, List.set_cons_zero, List.set_cons_succ]
        refine clS 4 { dst := some 39, op := .call { callee := .value (.func 118), args := #[.tmp 36, .tmp 38], argTypes := #[40, 9] }, type := 4, pos := "declare.go:126", after := #[{ on := 1, ground := .data }, { on := 3, ground := .data }, { on := 3, ground := .chain }], guard := none } rfl (by kernel_rfl) (by kernel_rfl) fun Kc hK => ?_
        go_simp
        refine (is_any A c ss.length ss (tp u) d3 _ (Lib.hid (HSR4.out.below hHeld.1 (Nat.le_refl _))) (Lib.hid rfl) (by omega) HD3).mono ?_
        rintro e w1 ⟨rfl, hb⟩
        refine hK.out _ _ ⟨hHeld.1.trans (hb.mono hHeld.1.size), keepC hHeld.1 hHeld.2 kl hb⟩ fun hHeld => ?_
        clear hb
        clear hK Kc
        try simp only [Act.put, List.setIfInBounds_toArray, List.set_cons_zero, List.set_cons_succ]
        refine clS 5 { dst := some 40, op := .call { callee := .value (.func 148), args := #[.tmp 35, .tmp 39, .const (.int .i64 5)], argTypes := #[25, 4, 26] }, type := 0, pos := "declare.go:126", after := #[{ on := 0, ground := .data }, { on := 4, ground := .data }, { on := 4, ground := .chain }], guard := none } rfl (by kernel_rfl) (by kernel_rfl) fun Kc hK => ?_
        go_simp
        refine (cneed_at N1.out BEW.out d3 5 _ hHeld.1).mono ?_
        rintro e w1 ⟨hb, he⟩
        cases d3 with
        | false => obtain rfl := he; exact ⟨rfl, uq_bad (BA.out _ (hHeld.1.trans (hb.mono hHeld.1.size))) (er := 5) (by rw [HTC.out, ← HK.out, fir_hit hlt (by rw [HE.out]; exact (by decide : (5 : Nat) ≠ 0)), HE.out]; exact HF5.out) rfl⟩
        | true =>
        obtain rfl := he
        refine hK.out _ _ ⟨hHeld.1.trans (hb.mono hHeld.1.size), keepC hHeld.1 hHeld.2 kl hb⟩ fun hHeld => ?_
        clear hb
        clear hK Kc
        try simp only [Act.put, List.setIfInBounds_toArray, List.set_cons_zero, List.set_cons_succ]
        refine wpAnyH_done (by kernel_rfl) ?_ _
        have hh := Lib.hid (H4.out.trans (hHeld.1.mono H4.out.size))
        clear hHeld
        have hq := Lib.hid ((fir_next hlt (by rw [HE.out]; rfl)).symm.trans HK.out)
        go_wp2_with fail
        go_roundw
        case rel => exact ⟨k + 1, by omega, by go_num, hq, hh.out⟩
        case measure => simp [intOf]; omega
      · have hq : r = (0, 0) := HK.out.symm.trans (fir_end (by omega))
        subst hq
        have u0 := keepC (Below.refl _ _) u0 ul HB.out
        go_wp2_with fail
        refine (ctyp_at NN.out HB0.out _ HB.out).mono ?_
        rintro e w8 ⟨rfl, hb⟩
        have u0 := keepC HB.out u0 ul hb
        have hh := Lib.hid (HB.out.trans (hb.mono HB.out.size))
        clear hb
        cases e1 with
        | true =>
          go_wp2_with fail
          refine bodyPost_end (v := .tuple #[]) (by simp [results, Tryz.results109, go_sem]) rfl ?_
          exact ⟨B0.out.trans (hh.out.mono B0.out.size), by rw [HTC.out]; rfl⟩
        | false =>
          go_wp2_with fail
          refine rgS (fun w' => Below wa.heap.size wa w' ∧ w'.cell? ⟨w.heap.size, 0, none⟩ = some (.pointer (some ⟨b, 0, none⟩))) (by kernel_rfl) (⟨hh.out.drew, u0⟩) (fun _ a d v _ h => And.intro ((put_df a d v).symm.trans (And.left h)) (And.right h)) fun hHeld hq => ?_
          refine tkS 0 { dst := some 45, op := .load 25 (.tmp 3), type := 25, pos := "declare.go:129", after := #[], guard := none } (v := ?v5_0) hq hHeld rfl (by kernel_rfl) ?y5_0 ?_
          case y5_0 => (intro w h; try dsimp only at h); go_simp <;> with_reducible rfl
          try simp only [Act.put, List.setIfInBounds_toArray, List.set_cons_zero, List.set_cons_succ]
          refine tkS 1 { dst := some 46, op := .move (.tmp 0), type := 40, pos := "declare.go:129", after := #[], guard := none } (v := ?v5_1) hq hHeld rfl (by kernel_rfl) ?y5_1 ?_
          case y5_1 => (intro w h; try dsimp only at h); go_simp <;> with_reducible rfl
          try simp only [Act.put, List.setIfInBounds_toArray, List.set_cons_zero, List.set_cons_succ]
          refine tkS 2 { dst := some 47, op := .load 25 (.tmp 3), type := 25, pos := "declare.go:129", after := #[], guard := none } (v := ?v5_2) hq hHeld rfl (by kernel_rfl) ?y5_2 ?_
          case y5_2 => (intro w h; try dsimp only at h); go_simp <;> with_reducible rfl
          try simp only [Act.put, List.setIfInBounds_toArray, List.set_cons_zero, List.set_cons_succ]
          refine clS 3 { dst := some 48, op := .call { callee := .value (.func 43), args := #[.tmp 47], argTypes := #[25] }, type := 9, pos := "declare.go:129", after := #[{ on := 2, ground := .data }], guard := none } rfl (by kernel_rfl) (by kernel_rfl) fun Kc hK => ?_
          go_simp
          refine (ctyp_at NN.out HB0.out _ hHeld.1).mono ?_
          rintro e w1 ⟨rfl, hb⟩
          refine hK.out _ _ ⟨hHeld.1.trans (hb.mono hHeld.1.size), keepC hHeld.1 hHeld.2 ul hb⟩ fun hHeld => ?_
          clear hb
          clear hK Kc
          try simp only [Act.put, List.setIfInBounds_toArray, List.set_cons_zero, List.set_cons_succ]
          refine clS 4 { dst := some 49, op := .call { callee := .value (.func 118), args := #[.tmp 46, .tmp 48], argTypes := #[40, 9] }, type := 4, pos := "declare.go:129", after := #[{ on := 1, ground := .data }, { on := 3, ground := .data }, { on := 3, ground := .chain }], guard := none } rfl (by kernel_rfl) (by kernel_rfl) fun Kc hK => ?_
          go_simp
          refine (is_any A c ss.length ss (tp t) e2 _ (Lib.hid (HSR.out.below hHeld.1 (Nat.le_refl _))) (Lib.hid rfl) (by omega) HE2).mono ?_
          rintro e w1 ⟨rfl, hb⟩
          refine hK.out _ _ ⟨hHeld.1.trans (hb.mono hHeld.1.size), keepC hHeld.1 hHeld.2 ul hb⟩ fun hHeld => ?_
          clear hb
          clear hK Kc
          try simp only [Act.put, List.setIfInBounds_toArray, List.set_cons_zero, List.set_cons_succ]
          refine clS 5 { dst := some 50, op := .call { callee := .value (.func 148), args := #[.tmp 45, .tmp 49, .const (.int .i64 5)], argTypes := #[25, 4, 26] }, type := 0, pos := "declare.go:129", after := #[{ on := 0, ground := .data }, { on := 4, ground := .data }, { on := 4, ground := .chain }], guard := none } rfl (by kernel_rfl) (by kernel_rfl) fun Kc hK => ?_
          go_simp
          refine (cneed_at NN.out HB0.out e2 5 _ hHeld.1).mono ?_
          rintro e w1 ⟨hb, he⟩
          cases e2 with
          | false => obtain rfl := he; exact ⟨rfl, uq_bad (onB B0.out hHeld.1 hb) (er := 5) HTC.out rfl⟩
          | true =>
          obtain rfl := he
          refine hK.out _ _ ⟨hHeld.1.trans (hb.mono hHeld.1.size), keepC hHeld.1 hHeld.2 ul hb⟩ fun hHeld => ?_
          clear hb
          clear hK Kc
          try simp only [Act.put, List.setIfInBounds_toArray, List.set_cons_zero, List.set_cons_succ]
          refine wpAnyH_done (by kernel_rfl) ?_ _
          go_wp2_with fail
          refine bodyPost_end (v := .tuple #[]) (by simp [results, Tryz.results109, go_sem]) rfl ?_
          exact ⟨B0.out.trans (hHeld.1.mono B0.out.size), by rw [HTC.out]; rfl⟩

end Go.Proofs.YtkahbhfbgdbnfaaGreatDoor

/-
  CONTRACT: checkBody of package check. Of what was there nothing has turned.
-/
namespace Go.Proofs.YtkahbhfbgdbnfaaGreatDoor
open Go.RowKit

/-- Six cells that are there. -/
structure Six6 (sb : Nat) (w : World) : Prop where
  lt : sb < w.heap.size
  c : ∀ k, k < 6 → ∃ z, w.cell? ⟨sb, k, none⟩ = some z
  f : ∀ k, w.frozen? ⟨sb, k, none⟩ = false
theorem Six6.below {sb : Nat} {w w' : World} (h : Six6 sb w) (hb : Below w.heap.size w w') : Six6 sb w' :=
  ⟨Nat.lt_of_lt_of_le h.lt hb.size, fun k hk => (h.c k hk).imp fun _ hz => (hb.cell (p := ⟨sb, k, none⟩) h.lt).trans hz, fun k => (hb.frozen (p := ⟨sb, k, none⟩) h.lt).trans (h.f k)⟩
theorem Six6.new (w : World) (a b c d e g : Value) (t : TypeId) : Six6 w.heap.size (w.alloc (.cells #[a, b, c, d, e, g] t)) := by
  refine ⟨by simp, fun k hk => ?_, fun k => by simp [go_sem]⟩
  have h := cell_new w #[a, b, c, d, e, g] t k
  match k, hk with
  | 0, _ => exact ⟨_, h⟩
  | 1, _ => exact ⟨_, h⟩
  | 2, _ => exact ⟨_, h⟩
  | 3, _ => exact ⟨_, h⟩
  | 4, _ => exact ⟨_, h⟩
  | 5, _ => exact ⟨_, h⟩
def put6 (w : World) (sb : Nat) (a b c d e g : Value) : World := (((((w.setCell ⟨sb, 0, none⟩ a).setCell ⟨sb, 1, none⟩ b).setCell ⟨sb, 2, none⟩ c).setCell ⟨sb, 3, none⟩ d).setCell ⟨sb, 4, none⟩ e).setCell ⟨sb, 5, none⟩ g
theorem put6_cells {w : World} {sb : Nat} (h : Six6 sb w) (a b c d e g : Value) : (put6 w sb a b c d e g).cell? ⟨sb, 0, none⟩ = some a ∧ (put6 w sb a b c d e g).cell? ⟨sb, 1, none⟩ = some b ∧ (put6 w sb a b c d e g).cell? ⟨sb, 2, none⟩ = some c ∧ (put6 w sb a b c d e g).cell? ⟨sb, 3, none⟩ = some d ∧ (put6 w sb a b c d e g).cell? ⟨sb, 4, none⟩ = some e ∧ (put6 w sb a b c d e g).cell? ⟨sb, 5, none⟩ = some g := by
  obtain ⟨z0, h0⟩ := h.c 0 (by decide)
  obtain ⟨z1, h1⟩ := h.c 1 (by decide)
  obtain ⟨z2, h2⟩ := h.c 2 (by decide)
  obtain ⟨z3, h3⟩ := h.c 3 (by decide)
  obtain ⟨z4, h4⟩ := h.c 4 (by decide)
  obtain ⟨z5, h5⟩ := h.c 5 (by decide)
  have s : ∀ (i j : Nat) (x : Value) (w : World), i ≠ j → (w.setCell ⟨sb, i, none⟩ x).cell? ⟨sb, j, none⟩ = w.cell? ⟨sb, j, none⟩ := fun i j x w hh => set_other hh
  have m : ∀ (i : Nat) (x z : Value) (w : World), w.cell? ⟨sb, i, none⟩ = some z → (w.setCell ⟨sb, i, none⟩ x).cell? ⟨sb, i, none⟩ = some x := fun i x z w hh => World.cell?_setCell_same _ _ _ hh
  unfold put6
  refine ⟨?_, ?_, ?_, ?_, ?_, ?_⟩
  · rw [s 5 0 _ _ (by decide), s 4 0 _ _ (by decide), s 3 0 _ _ (by decide), s 2 0 _ _ (by decide), s 1 0 _ _ (by decide)]; exact m 0 _ _ _ h0
  · rw [s 5 1 _ _ (by decide), s 4 1 _ _ (by decide), s 3 1 _ _ (by decide), s 2 1 _ _ (by decide)]; exact m 1 _ z1 _ (by rw [s 0 1 _ _ (by decide)]; exact h1)
  · rw [s 5 2 _ _ (by decide), s 4 2 _ _ (by decide), s 3 2 _ _ (by decide)]; exact m 2 _ z2 _ (by rw [s 1 2 _ _ (by decide), s 0 2 _ _ (by decide)]; exact h2)
  · rw [s 5 3 _ _ (by decide), s 4 3 _ _ (by decide)]; exact m 3 _ z3 _ (by rw [s 2 3 _ _ (by decide), s 1 3 _ _ (by decide), s 0 3 _ _ (by decide)]; exact h3)
  · rw [s 5 4 _ _ (by decide)]; exact m 4 _ z4 _ (by rw [s 3 4 _ _ (by decide), s 2 4 _ _ (by decide), s 1 4 _ _ (by decide), s 0 4 _ _ (by decide)]; exact h4)
  · exact m 5 _ z5 _ (by rw [s 4 5 _ _ (by decide), s 3 5 _ _ (by decide), s 2 5 _ _ (by decide), s 1 5 _ _ (by decide), s 0 5 _ _ (by decide)]; exact h5)
theorem put6_grown (w : World) (sb : Nat) (a b c d e g : Value) : w.grownBy (put6 w sb a b c d e g) (some sb) :=
  ((((kb_set w ⟨sb, 0, none⟩ a).trans (kb_set _ ⟨sb, 1, none⟩ b)).trans (kb_set _ ⟨sb, 2, none⟩ c)).trans (kb_set _ ⟨sb, 3, none⟩ d)).trans (kb_set _ ⟨sb, 4, none⟩ e) |>.trans (kb_set _ ⟨sb, 5, none⟩ g)
theorem put6_frozen (w : World) (sb : Nat) (a b c d e g : Value) (k : Nat) : (put6 w sb a b c d e g).frozen? ⟨sb, k, none⟩ = w.frozen? ⟨sb, k, none⟩ := by
  unfold put6; simp only [World.frozen?_setCell]
theorem keepC2 {w' w'' : World} {p : Addr} {x : Value} (hc : w'.cell? p = some x) (hb : Below w'.heap.size w' w'') : w''.cell? p = some x := (hb.cell (World.block_lt_of_cell? w' p hc)).trans hc
/-- The scope of a function's block. -/
def cE (E : CE) (w : World) (res : ByteArray) (sb : Nat) : CE := { E with w0 := w, res := res, sb := sb }
theorem cE_im {E : CE} {w : World} {res : ByteArray} {sb : Nat} (I : IM E w) : IM (cE E w res sb) w := ⟨I.good, I.S, I.G, I.F, I.sl, I.gl, I.fl, I.sle, I.gle, I.fle⟩
theorem sc_made {E : CE} {w w' : World} {res : ByteArray} {sb : Nat} {v : Value} {K : List Fld} (I : IM E w) (hB : Below w.heap.size w w') (h0 : w.heap.size ≤ sb) (hx : Six6 sb w') (ho : w'.ownsRow w.heap.size 97 2 v K.length (cellsF K)) (hne : v.ownBlock ≠ some sb) (hl : K.length ≤ 100000) :
    SC (cE E w res sb) (put6 w' sb (.slice E.sA E.x.structs.length E.sc) (.slice E.gA E.x.globals.length E.gc) (.slice E.fA E.x.funs.length E.fc) (.string res) v (.int .i64 0)) v K 0 := by
  have hg := put6_grown w' sb (.slice E.sA E.x.structs.length E.sc) (.slice E.gA E.x.globals.length E.gc) (.slice E.fA E.x.funs.length E.fc) (.string res) v (.int .i64 0)
  obtain ⟨c0, c1, c2, c3, c4, c5⟩ := put6_cells hx (.slice E.sA E.x.structs.length E.sc) (.slice E.gA E.x.globals.length E.gc) (.slice E.fA E.x.funs.length E.fc) (.string res) v (.int .i64 0)
  exact { B := ⟨hg.os.trans hB.os, hg.tape.trans hB.tape, hg.output.trans hB.output, Nat.le_trans hB.size hg.size, fun k hk => (hg.block k (Nat.lt_of_lt_of_le hk hB.size) (fun e => by have h9 : k = sb := Option.some.inj e; have h8 : k < w.heap.size := hk; omega)).trans (hB.block k hk)⟩, sb0 := h0, lt := Nat.lt_of_lt_of_le hx.lt hg.size, c0 := c0, c1 := c1, c2 := c2, c3 := c3, c4 := c4, c5 := c5, fr := fun k => (put6_frozen _ _ _ _ _ _ _ _ k).trans (hx.f k), own := ho.kept hg (.inr hne), ne := hne, im := cE_im I, kl := hl, fle := Nat.zero_le _ }
set_option maxRecDepth 100000 in
set_option maxHeartbeats 1000000 in
theorem cbody_any (E : CE) (b : Nat) (t : Tree) (w : World) (N : Nd E b t) (hB : Below E.w0.heap.size E.w0 w) (I : IM E w) (hx : Hid (InfOk E.x)) (d : Tree) (hd : t.kids[t.kids.length - 1]? = some d) (hk : t.op = 4 → 1 ≤ t.kids.length) (hKo : KOk E.x (partsL t)) (hz : (partsL t).length + sizeL d.kids ≤ 100000) (W : ∀ u ∈ d.kids, Wt u) :
    Calls Tryz.prog 110 #[infV E, .agg #[.pointer (some ⟨b, 0, none⟩)]] w (UQ E w ((stmtsC E.x (tp t) d.kids (partsL t) 0).bind fun _ => .ok ())) := by
  have B0 := Lib.hid (b2 w (.cells #[.slice E.sA E.x.structs.length E.sc, .slice E.gA E.x.globals.length E.gc, .slice E.fA E.x.funs.length E.fc] 44) (.cells #[.pointer (some ⟨b, 0, none⟩)] 25))
  have hB0 := Lib.hid hB
  have HB0 := Lib.hid (hB.trans ((b2 w (.cells #[.slice E.sA E.x.structs.length E.sc, .slice E.gA E.x.globals.length E.gc, .slice E.fA E.x.funs.length E.fc] 44) (.cells #[.pointer (some ⟨b, 0, none⟩)] 25)).mono hB.size))
  have NN := Lib.hid N
  have IW := Lib.hid I
  have HKK := Lib.hid hk
  have HKO := Lib.hid hKo
  have hK6 : (partsL t).length ≤ 100000 := by omega
  have hm6 : t.kids.length ≤ 6000 := by obtain ⟨-, -, -, -, h, -⟩ := N.kid; omega
  have hm1 : 1 ≤ t.kids.length := by have := (List.getElem?_eq_some_iff.1 hd).1; omega
  obtain ⟨nb, hn, hkd⟩ := ckid_at N hB (t.kids.length - 1) d hd
  have KD0 := Lib.hid hkd
  have hN1 := Lib.hid hn
  have i0 : ((w.alloc (.cells #[.slice E.sA E.x.structs.length E.sc, .slice E.gA E.x.globals.length E.gc, .slice E.fA E.x.funs.length E.fc] 44)).alloc (.cells #[.pointer (some ⟨b, 0, none⟩)] 25)).cell? ⟨w.heap.size, 0, none⟩ = some (.slice E.sA E.x.structs.length E.sc) := (World.cell?_alloc_lt _ _ _ (by simp)).trans (cell_new w _ 44 0)
  have i1 : ((w.alloc (.cells #[.slice E.sA E.x.structs.length E.sc, .slice E.gA E.x.globals.length E.gc, .slice E.fA E.x.funs.length E.fc] 44)).alloc (.cells #[.pointer (some ⟨b, 0, none⟩)] 25)).cell? ⟨w.heap.size, 1, none⟩ = some (.slice E.gA E.x.globals.length E.gc) := (World.cell?_alloc_lt _ _ _ (by simp)).trans (cell_new w _ 44 1)
  have i2 : ((w.alloc (.cells #[.slice E.sA E.x.structs.length E.sc, .slice E.gA E.x.globals.length E.gc, .slice E.fA E.x.funs.length E.fc] 44)).alloc (.cells #[.pointer (some ⟨b, 0, none⟩)] 25)).cell? ⟨w.heap.size, 2, none⟩ = some (.slice E.fA E.x.funs.length E.fc) := (World.cell?_alloc_lt _ _ _ (by simp)).trans (cell_new w _ 44 2)
  have u0 : ((w.alloc (.cells #[.slice E.sA E.x.structs.length E.sc, .slice E.gA E.x.globals.length E.gc, .slice E.fA E.x.funs.length E.fc] 44)).alloc (.cells #[.pointer (some ⟨b, 0, none⟩)] 25)).cell? ⟨w.heap.size + 1, 0, none⟩ = some (.pointer (some ⟨b, 0, none⟩)) := cell_second w _ _ _ _ 0
  have il : w.heap.size < ((w.alloc (.cells #[.slice E.sA E.x.structs.length E.sc, .slice E.gA E.x.globals.length E.gc, .slice E.fA E.x.funs.length E.fc] 44)).alloc (.cells #[.pointer (some ⟨b, 0, none⟩)] 25)).heap.size := by simp; omega
  have ul : w.heap.size + 1 < ((w.alloc (.cells #[.slice E.sA E.x.structs.length E.sc, .slice E.gA E.x.globals.length E.gc, .slice E.fA E.x.funs.length E.fc] 44)).alloc (.cells #[.pointer (some ⟨b, 0, none⟩)] 25)).heap.size := by simp
  have B0s : w.heap.size + 2 ≤ ((w.alloc (.cells #[.slice E.sA E.x.structs.length E.sc, .slice E.gA E.x.globals.length E.gc, .slice E.fA E.x.funs.length E.fc] 44)).alloc (.cells #[.pointer (some ⟨b, 0, none⟩)] 25)).heap.size := by simp
  obtain ⟨r, hr⟩ : ∃ r, stmtsC E.x (tp t) d.kids (partsL t) 0 = r := ⟨_, rfl⟩
  have HR := Lib.hid hr
  have IH : Hid (∀ sb (k : Nat) (u : Tree), d.kids[k]? = some u → YH (cE E w (tp t) sb) u) := fun sb k u hu => cstmt_any (cE E w (tp t) sb) hx.out (sizeT u) u (Nat.le_refl _) (W u (List.mem_of_getElem? hu))
  unfold infV
  rw [hr]
  clear N I hk hKo hn hkd hr W
  go_enter Tryz.func110, Tryz.ntmps110
  go_upto_region 1 with fail
  generalize (w.alloc (.cells #[.slice E.sA E.x.structs.length E.sc, .slice E.gA E.x.globals.length E.gc, .slice E.fA E.x.funs.length E.fc] 44)).alloc (.cells #[.pointer (some ⟨b, 0, none⟩)] 25) = wa at *
  go_cut [4] from 5 (fun s wc => ∃ sb v, s = .pointer (some ⟨sb, 0, none⟩) ∧ SC (cE E w (tp t) sb) wc v (partsL t) 0 ∧ w.heap.size + 2 ≤ sb ∧ v.ownBlock ≠ some (w.heap.size + 1) ∧ wc.cell? ⟨w.heap.size + 1, 0, none⟩ = some (.pointer (some ⟨b, 0, none⟩)))
  case first =>
    refine rgX (fun w' => Below wa.heap.size wa w' ∧ w'.cell? ⟨w.heap.size, 0, none⟩ = some (.slice E.sA E.x.structs.length E.sc) ∧ w'.cell? ⟨w.heap.size, 1, none⟩ = some (.slice E.gA E.x.globals.length E.gc) ∧ w'.cell? ⟨w.heap.size, 2, none⟩ = some (.slice E.fA E.x.funs.length E.fc) ∧ w'.cell? ⟨w.heap.size + 1, 0, none⟩ = some (.pointer (some ⟨b, 0, none⟩))) [7] (by kernel_rfl) ⟨(Below.refl _ _).drew, i0, i1, i2, u0⟩ (fun _ a d v _ h => And.intro ((put_df a d v).symm.trans (And.left h)) (And.right h)) fun hHeld hq => ?_
    generalize wa.drew = wd at *
    refine tkX 0 { dst := some 5, op := .load 44 (.tmp 2), type := 44, pos := "body.go:19", after := #[], guard := none } (v := ?vb1) hq hHeld rfl (by kernel_rfl) ?yb1 ?_
    case yb1 => (intro w h; try dsimp only at h); go_simp <;> with_reducible rfl
    try simp only [Act.put, List.setIfInBounds_toArray, List.set_cons_zero, List.set_cons_succ]
    refine tkX 1 { dst := some 6, op := .load 25 (.tmp 3), type := 25, pos := "body.go:19", after := #[], guard := none } (v := ?vb2) hq hHeld rfl (by kernel_rfl) ?yb2 ?_
    case yb2 => (intro w h; try dsimp only at h); go_simp <;> with_reducible rfl
    try simp only [Act.put, List.setIfInBounds_toArray, List.set_cons_zero, List.set_cons_succ]
    refine tkX 3 { dst := some 8, op := .load 25 (.tmp 3), type := 25, pos := "body.go:19", after := #[], guard := none } (v := ?vb3) hq hHeld rfl (by kernel_rfl) ?yb3 ?_
    case yb3 => (intro w h; try dsimp only at h); go_simp <;> with_reducible rfl
    try simp only [Act.put, List.setIfInBounds_toArray, List.set_cons_zero, List.set_cons_succ]
    refine clX2 2 6 { dst := some 7, op := .call { callee := .value (.func 43), args := #[.tmp 6], argTypes := #[25] }, type := 9, pos := "body.go:19", after := #[{ on := 1, ground := .data }], guard := none } { dst := some 4, op := .alloc 179, type := 0, pos := "body.go:19", after := #[], guard := none } rfl rfl (by kernel_rfl) (by kernel_rfl) (by kernel_rfl) (fun Kc hK => ?_) (fun Kc hK => ?_)
    · go_simp
      refine (ctyp_at NN.out HB0.out _ hHeld.1).mono ?_
      rintro e w5 ⟨rfl, hb⟩
      have hHeld : (fun w' => Below wa.heap.size wa w' ∧ w'.cell? ⟨w.heap.size, 0, none⟩ = some (.slice E.sA E.x.structs.length E.sc) ∧ w'.cell? ⟨w.heap.size, 1, none⟩ = some (.slice E.gA E.x.globals.length E.gc) ∧ w'.cell? ⟨w.heap.size, 2, none⟩ = some (.slice E.fA E.x.funs.length E.fc) ∧ w'.cell? ⟨w.heap.size + 1, 0, none⟩ = some (.pointer (some ⟨b, 0, none⟩))) _ := ⟨hHeld.1.trans (hb.mono hHeld.1.size), keepC hHeld.1 hHeld.2.1 il hb, keepC hHeld.1 hHeld.2.2.1 il hb, keepC hHeld.1 hHeld.2.2.2.1 il hb, keepC hHeld.1 hHeld.2.2.2.2 ul hb⟩
      refine hK.out _ _ (fun _ _ => hHeld) ?_
      clear hK Kc
      try simp only [Act.put, List.setIfInBounds_toArray, List.set_cons_zero, List.set_cons_succ]
      clear hb
      refine clX2 4 6 { dst := some 9, op := .call { callee := .value (.func 145), args := #[.tmp 8], argTypes := #[25] }, type := 41, pos := "body.go:19", after := #[{ on := 3, ground := .data }, { on := 2, ground := .chain }], guard := none } { dst := some 4, op := .alloc 179, type := 0, pos := "body.go:19", after := #[], guard := none } rfl rfl (by kernel_rfl) (by kernel_rfl) (by kernel_rfl) (fun Kc hK => ?_) (fun Kc hK => ?_)
      · go_simp
        refine (cparts_any E b t _ NN.out (HB0.out.trans (hHeld.1.mono HB0.out.size)) HKK.out).mono ?_
        rintro e w6 ⟨pv, rfl, hpo, hb⟩
        obtain ⟨PA, pc, rfl, -⟩ := fr_own hpo
        have OP := Lib.hid hpo
        have hsz := hHeld.1.size
        have OP := Lib.hid (own_mono OP.out hsz)
        have hHeld : (fun w' => Below wa.heap.size wa w' ∧ w'.cell? ⟨w.heap.size, 0, none⟩ = some (.slice E.sA E.x.structs.length E.sc) ∧ w'.cell? ⟨w.heap.size, 1, none⟩ = some (.slice E.gA E.x.globals.length E.gc) ∧ w'.cell? ⟨w.heap.size, 2, none⟩ = some (.slice E.fA E.x.funs.length E.fc) ∧ w'.cell? ⟨w.heap.size + 1, 0, none⟩ = some (.pointer (some ⟨b, 0, none⟩))) _ := ⟨hHeld.1.trans (hb.mono hHeld.1.size), keepC hHeld.1 hHeld.2.1 il hb, keepC hHeld.1 hHeld.2.2.1 il hb, keepC hHeld.1 hHeld.2.2.2.1 il hb, keepC hHeld.1 hHeld.2.2.2.2 ul hb⟩
        refine hK.out _ _ (fun _ _ => hHeld) ?_
        clear hK Kc
        try simp only [Act.put, List.setIfInBounds_toArray, List.set_cons_zero, List.set_cons_succ]
        clear hb hpo hsz
        refine twX 5 { dst := some 10, op := .build 179 #[(0, .tmp 5), (1, .tmp 7), (2, .tmp 9)], type := 179, pos := "body.go:19", after := #[{ on := 0, ground := .data }, { on := 2, ground := .data }, { on := 4, ground := .data }], guard := none } (v := ?vb4) hq rfl (by kernel_rfl) ?yb4 ?_
        case yb4 => intro w; go_simp <;> with_reducible rfl
        try simp only [Act.put, List.setIfInBounds_toArray, List.set_cons_zero, List.set_cons_succ]
        refine clX 6 { dst := some 4, op := .alloc 179, type := 0, pos := "body.go:19", after := #[], guard := none } rfl (by kernel_rfl) (by kernel_rfl) fun Kc hK => ?_
        go_simp
        obtain ⟨sbk, hsbk⟩ : ∃ k, w6.heap.size = k := ⟨_, rfl⟩
        have SX := Lib.hid (Six6.new w6 (.slice none 0 0) (.slice none 0 0) (.slice none 0 0) (.string ⟨#[]⟩) (.slice none 0 0) (.int .i64 0) 179)
        have hb := b1 w6 (.cells #[.slice none 0 0, .slice none 0 0, .slice none 0 0, .string ⟨#[]⟩, .slice none 0 0, .int .i64 0] 179)
        have hsb0 : wa.heap.size ≤ sbk := by have := hHeld.1.size; omega
        have hne : (Value.slice PA (partsL t).length pc).ownBlock ≠ some sbk := fun e => by have h1 := (OP.out.lt _ e).2; omega
        have OP := Lib.hid (own_below2 OP.out hb)
        rw [hsbk] at SX
        try rw [hsbk]
        have hHeld : (fun w' => Below wa.heap.size wa w' ∧ w'.cell? ⟨w.heap.size, 0, none⟩ = some (.slice E.sA E.x.structs.length E.sc) ∧ w'.cell? ⟨w.heap.size, 1, none⟩ = some (.slice E.gA E.x.globals.length E.gc) ∧ w'.cell? ⟨w.heap.size, 2, none⟩ = some (.slice E.fA E.x.funs.length E.fc) ∧ w'.cell? ⟨w.heap.size + 1, 0, none⟩ = some (.pointer (some ⟨b, 0, none⟩))) _ := ⟨hHeld.1.trans (hb.mono hHeld.1.size), keepC hHeld.1 hHeld.2.1 il hb, keepC hHeld.1 hHeld.2.2.1 il hb, keepC hHeld.1 hHeld.2.2.2.1 il hb, keepC hHeld.1 hHeld.2.2.2.2 ul hb⟩
        refine hK.out _ _ (fun _ _ => hHeld) ?_
        clear hK Kc
        try simp only [Act.put, List.setIfInBounds_toArray, List.set_cons_zero, List.set_cons_succ]
        generalize w6.alloc (.cells #[.slice none 0 0, .slice none 0 0, .slice none 0 0, .string ⟨#[]⟩, .slice none 0 0, .int .i64 0] 179) = w7 at *
        clear hb hsbk
        refine clX 7 { dst := none, op := .store 179 (.tmp 4) (.tmp 10), type := 0, pos := "body.go:19", after := #[{ on := 6, ground := .data }, { on := 5, ground := .data }, { on := 4, ground := .chain }, { on := 0, ground := .phase }, { on := 1, ground := .phase }, { on := 2, ground := .phase }, { on := 3, ground := .phase }, { on := 4, ground := .phase }, { on := 5, ground := .phase }, { on := 6, ground := .phase }], guard := none } rfl (by kernel_rfl) (by kernel_rfl) fun Kc hK => ?_
        have z0 := SX.out.c 0 (by decide)
        have z1 := SX.out.c 1 (by decide)
        have z2 := SX.out.c 2 (by decide)
        have z3 := SX.out.c 3 (by decide)
        have z4 := SX.out.c 4 (by decide)
        have z5 := SX.out.c 5 (by decide)
        obtain ⟨y0, z0⟩ := z0
        obtain ⟨y1, z1⟩ := z1
        obtain ⟨y2, z2⟩ := z2
        obtain ⟨y3, z3⟩ := z3
        obtain ⟨y4, z4⟩ := z4
        obtain ⟨y5, z5⟩ := z5
        have g0 := SX.out.f 0
        have g1 := SX.out.f 1
        have g2 := SX.out.f 2
        have g3 := SX.out.f 3
        have g4 := SX.out.f 4
        have g5 := SX.out.f 5
        go_simp
        refine hK.out _ _ (fun h => absurd h (by decide)) ?_
        clear hK Kc
        try simp only [Act.put, List.setIfInBounds_toArray, List.set_cons_zero, List.set_cons_succ]
        refine dnX (by kernel_rfl) ?_ _
        have HSC := Lib.hid (sc_made (res := tp t) IW.out (B0.out.trans (hHeld.1.mono B0.out.size)) (Nat.le_trans B0.out.size hsb0) SX.out (own_mono OP.out B0.out.size) hne hK6)
        have hU := (put6_grown w7 sbk (.slice E.sA E.x.structs.length E.sc) (.slice E.gA E.x.globals.length E.gc) (.slice E.fA E.x.funs.length E.fc) (.string (tp t)) (.slice PA (partsL t).length pc) (.int .i64 0)).cell_far ⟨w.heap.size + 1, 0, none⟩ (Nat.lt_of_lt_of_le ul hHeld.1.size) (fun e => by have h9 : w.heap.size + 1 = sbk := Option.some.inj e; omega)
        have HU := Lib.hid (hU.trans hHeld.2.2.2.2)
        clear hU z0 z1 z2 z3 z4 z5
        go_wp2_with fail
        go_meet
        case rel => exact ⟨sbk, _, rfl, HSC.out, Nat.le_trans B0s hsb0, fun e => (by have h1 := (OP.out.lt _ e).1; omega), HU.out⟩
      · go_simp
        obtain ⟨sbk, hsbk⟩ : ∃ k, w5.heap.size = k := ⟨_, rfl⟩
        have SX := Lib.hid (Six6.new w5 (.slice none 0 0) (.slice none 0 0) (.slice none 0 0) (.string ⟨#[]⟩) (.slice none 0 0) (.int .i64 0) 179)
        have hb := b1 w5 (.cells #[.slice none 0 0, .slice none 0 0, .slice none 0 0, .string ⟨#[]⟩, .slice none 0 0, .int .i64 0] 179)
        have hsb0 : wa.heap.size ≤ sbk := by have := hHeld.1.size; omega
        rw [hsbk] at SX
        try rw [hsbk]
        have hHeld : (fun w' => Below wa.heap.size wa w' ∧ w'.cell? ⟨w.heap.size, 0, none⟩ = some (.slice E.sA E.x.structs.length E.sc) ∧ w'.cell? ⟨w.heap.size, 1, none⟩ = some (.slice E.gA E.x.globals.length E.gc) ∧ w'.cell? ⟨w.heap.size, 2, none⟩ = some (.slice E.fA E.x.funs.length E.fc) ∧ w'.cell? ⟨w.heap.size + 1, 0, none⟩ = some (.pointer (some ⟨b, 0, none⟩))) _ := ⟨hHeld.1.trans (hb.mono hHeld.1.size), keepC hHeld.1 hHeld.2.1 il hb, keepC hHeld.1 hHeld.2.2.1 il hb, keepC hHeld.1 hHeld.2.2.2.1 il hb, keepC hHeld.1 hHeld.2.2.2.2 ul hb⟩
        refine hK.out _ _ (fun _ _ => hHeld) ?_
        clear hK Kc
        try simp only [Act.put, List.setIfInBounds_toArray, List.set_cons_zero, List.set_cons_succ]
        generalize w5.alloc (.cells #[.slice none 0 0, .slice none 0 0, .slice none 0 0, .string ⟨#[]⟩, .slice none 0 0, .int .i64 0] 179) = w7 at *
        clear hb hsbk
        refine clX 4 { dst := some 9, op := .call { callee := .value (.func 145), args := #[.tmp 8], argTypes := #[25] }, type := 41, pos := "body.go:19", after := #[{ on := 3, ground := .data }, { on := 2, ground := .chain }], guard := none } rfl (by kernel_rfl) (by kernel_rfl) fun Kc hK => ?_
        go_simp
        refine (cparts_any E b t _ NN.out (HB0.out.trans (hHeld.1.mono HB0.out.size)) HKK.out).mono ?_
        rintro e w6 ⟨pv, rfl, hpo, hb⟩
        obtain ⟨PA, pc, rfl, -⟩ := fr_own hpo
        have OP := Lib.hid hpo
        have hsz := hHeld.1.size
        have hne : (Value.slice PA (partsL t).length pc).ownBlock ≠ some sbk := fun e => by have h1 := (OP.out.lt _ e).1; have h2 := SX.out.lt; omega
        have SX := Lib.hid (SX.out.below hb)
        have OP := Lib.hid (own_mono OP.out hsz)
        have hHeld : (fun w' => Below wa.heap.size wa w' ∧ w'.cell? ⟨w.heap.size, 0, none⟩ = some (.slice E.sA E.x.structs.length E.sc) ∧ w'.cell? ⟨w.heap.size, 1, none⟩ = some (.slice E.gA E.x.globals.length E.gc) ∧ w'.cell? ⟨w.heap.size, 2, none⟩ = some (.slice E.fA E.x.funs.length E.fc) ∧ w'.cell? ⟨w.heap.size + 1, 0, none⟩ = some (.pointer (some ⟨b, 0, none⟩))) _ := ⟨hHeld.1.trans (hb.mono hHeld.1.size), keepC hHeld.1 hHeld.2.1 il hb, keepC hHeld.1 hHeld.2.2.1 il hb, keepC hHeld.1 hHeld.2.2.2.1 il hb, keepC hHeld.1 hHeld.2.2.2.2 ul hb⟩
        refine hK.out _ _ (fun _ _ => hHeld) ?_
        clear hK Kc
        try simp only [Act.put, List.setIfInBounds_toArray, List.set_cons_zero, List.set_cons_succ]
        clear hb hpo hsz
        refine twX 5 { dst := some 10, op := .build 179 #[(0, .tmp 5), (1, .tmp 7), (2, .tmp 9)], type := 179, pos := "body.go:19", after := #[{ on := 0, ground := .data }, { on := 2, ground := .data }, { on := 4, ground := .data }], guard := none } (v := ?vb5) hq rfl (by kernel_rfl) ?yb5 ?_
        case yb5 => intro w; go_simp <;> with_reducible rfl
        try simp only [Act.put, List.setIfInBounds_toArray, List.set_cons_zero, List.set_cons_succ]
        refine clX 7 { dst := none, op := .store 179 (.tmp 4) (.tmp 10), type := 0, pos := "body.go:19", after := #[{ on := 6, ground := .data }, { on := 5, ground := .data }, { on := 4, ground := .chain }, { on := 0, ground := .phase }, { on := 1, ground := .phase }, { on := 2, ground := .phase }, { on := 3, ground := .phase }, { on := 4, ground := .phase }, { on := 5, ground := .phase }, { on := 6, ground := .phase }], guard := none } rfl (by kernel_rfl) (by kernel_rfl) fun Kc hK => ?_
        have z0 := SX.out.c 0 (by decide)
        have z1 := SX.out.c 1 (by decide)
        have z2 := SX.out.c 2 (by decide)
        have z3 := SX.out.c 3 (by decide)
        have z4 := SX.out.c 4 (by decide)
        have z5 := SX.out.c 5 (by decide)
        obtain ⟨y0, z0⟩ := z0
        obtain ⟨y1, z1⟩ := z1
        obtain ⟨y2, z2⟩ := z2
        obtain ⟨y3, z3⟩ := z3
        obtain ⟨y4, z4⟩ := z4
        obtain ⟨y5, z5⟩ := z5
        have g0 := SX.out.f 0
        have g1 := SX.out.f 1
        have g2 := SX.out.f 2
        have g3 := SX.out.f 3
        have g4 := SX.out.f 4
        have g5 := SX.out.f 5
        go_simp
        refine hK.out _ _ (fun h => absurd h (by decide)) ?_
        clear hK Kc
        try simp only [Act.put, List.setIfInBounds_toArray, List.set_cons_zero, List.set_cons_succ]
        refine dnX (by kernel_rfl) ?_ _
        have HSC := Lib.hid (sc_made (res := tp t) IW.out (B0.out.trans (hHeld.1.mono B0.out.size)) (Nat.le_trans B0.out.size hsb0) SX.out (own_mono OP.out B0.out.size) hne hK6)
        have hU := (put6_grown w6 sbk (.slice E.sA E.x.structs.length E.sc) (.slice E.gA E.x.globals.length E.gc) (.slice E.fA E.x.funs.length E.fc) (.string (tp t)) (.slice PA (partsL t).length pc) (.int .i64 0)).cell_far ⟨w.heap.size + 1, 0, none⟩ (Nat.lt_of_lt_of_le ul hHeld.1.size) (fun e => by have h9 : w.heap.size + 1 = sbk := Option.some.inj e; omega)
        have HU := Lib.hid (hU.trans hHeld.2.2.2.2)
        clear hU z0 z1 z2 z3 z4 z5
        go_wp2_with fail
        go_meet
        case rel => exact ⟨sbk, _, rfl, HSC.out, Nat.le_trans B0s hsb0, fun e => (by have h1 := (OP.out.lt _ e).1; omega), HU.out⟩
    · go_simp
      obtain ⟨sbk, hsbk⟩ : ∃ k, wd.heap.size = k := ⟨_, rfl⟩
      have SX := Lib.hid (Six6.new wd (.slice none 0 0) (.slice none 0 0) (.slice none 0 0) (.string ⟨#[]⟩) (.slice none 0 0) (.int .i64 0) 179)
      have hb := b1 wd (.cells #[.slice none 0 0, .slice none 0 0, .slice none 0 0, .string ⟨#[]⟩, .slice none 0 0, .int .i64 0] 179)
      have hsb0 : wa.heap.size ≤ sbk := by have := hHeld.1.size; omega
      rw [hsbk] at SX
      try rw [hsbk]
      have hHeld : (fun w' => Below wa.heap.size wa w' ∧ w'.cell? ⟨w.heap.size, 0, none⟩ = some (.slice E.sA E.x.structs.length E.sc) ∧ w'.cell? ⟨w.heap.size, 1, none⟩ = some (.slice E.gA E.x.globals.length E.gc) ∧ w'.cell? ⟨w.heap.size, 2, none⟩ = some (.slice E.fA E.x.funs.length E.fc) ∧ w'.cell? ⟨w.heap.size + 1, 0, none⟩ = some (.pointer (some ⟨b, 0, none⟩))) _ := ⟨hHeld.1.trans (hb.mono hHeld.1.size), keepC hHeld.1 hHeld.2.1 il hb, keepC hHeld.1 hHeld.2.2.1 il hb, keepC hHeld.1 hHeld.2.2.2.1 il hb, keepC hHeld.1 hHeld.2.2.2.2 ul hb⟩
      refine hK.out _ _ (fun _ _ => hHeld) ?_
      clear hK Kc
      try simp only [Act.put, List.setIfInBounds_toArray, List.set_cons_zero, List.set_cons_succ]
      generalize wd.alloc (.cells #[.slice none 0 0, .slice none 0 0, .slice none 0 0, .string ⟨#[]⟩, .slice none 0 0, .int .i64 0] 179) = w7 at *
      clear hb hsbk
      refine clX 2 { dst := some 7, op := .call { callee := .value (.func 43), args := #[.tmp 6], argTypes := #[25] }, type := 9, pos := "body.go:19", after := #[{ on := 1, ground := .data }], guard := none } rfl (by kernel_rfl) (by kernel_rfl) fun Kc hK => ?_
      go_simp
      refine (ctyp_at NN.out HB0.out _ hHeld.1).mono ?_
      rintro e w5 ⟨rfl, hb⟩
      have SX := Lib.hid (SX.out.below hb)
      have hHeld : (fun w' => Below wa.heap.size wa w' ∧ w'.cell? ⟨w.heap.size, 0, none⟩ = some (.slice E.sA E.x.structs.length E.sc) ∧ w'.cell? ⟨w.heap.size, 1, none⟩ = some (.slice E.gA E.x.globals.length E.gc) ∧ w'.cell? ⟨w.heap.size, 2, none⟩ = some (.slice E.fA E.x.funs.length E.fc) ∧ w'.cell? ⟨w.heap.size + 1, 0, none⟩ = some (.pointer (some ⟨b, 0, none⟩))) _ := ⟨hHeld.1.trans (hb.mono hHeld.1.size), keepC hHeld.1 hHeld.2.1 il hb, keepC hHeld.1 hHeld.2.2.1 il hb, keepC hHeld.1 hHeld.2.2.2.1 il hb, keepC hHeld.1 hHeld.2.2.2.2 ul hb⟩
      refine hK.out _ _ (fun _ _ => hHeld) ?_
      clear hK Kc
      try simp only [Act.put, List.setIfInBounds_toArray, List.set_cons_zero, List.set_cons_succ]
      clear hb
      refine clX 4 { dst := some 9, op := .call { callee := .value (.func 145), args := #[.tmp 8], argTypes := #[25] }, type := 41, pos := "body.go:19", after := #[{ on := 3, ground := .data }, { on := 2, ground := .chain }], guard := none } rfl (by kernel_rfl) (by kernel_rfl) fun Kc hK => ?_
      go_simp
      refine (cparts_any E b t _ NN.out (HB0.out.trans (hHeld.1.mono HB0.out.size)) HKK.out).mono ?_
      rintro e w6 ⟨pv, rfl, hpo, hb⟩
      obtain ⟨PA, pc, rfl, -⟩ := fr_own hpo
      have OP := Lib.hid hpo
      have hsz := hHeld.1.size
      have hne : (Value.slice PA (partsL t).length pc).ownBlock ≠ some sbk := fun e => by have h1 := (OP.out.lt _ e).1; have h2 := SX.out.lt; omega
      have SX := Lib.hid (SX.out.below hb)
      have OP := Lib.hid (own_mono OP.out hsz)
      have hHeld : (fun w' => Below wa.heap.size wa w' ∧ w'.cell? ⟨w.heap.size, 0, none⟩ = some (.slice E.sA E.x.structs.length E.sc) ∧ w'.cell? ⟨w.heap.size, 1, none⟩ = some (.slice E.gA E.x.globals.length E.gc) ∧ w'.cell? ⟨w.heap.size, 2, none⟩ = some (.slice E.fA E.x.funs.length E.fc) ∧ w'.cell? ⟨w.heap.size + 1, 0, none⟩ = some (.pointer (some ⟨b, 0, none⟩))) _ := ⟨hHeld.1.trans (hb.mono hHeld.1.size), keepC hHeld.1 hHeld.2.1 il hb, keepC hHeld.1 hHeld.2.2.1 il hb, keepC hHeld.1 hHeld.2.2.2.1 il hb, keepC hHeld.1 hHeld.2.2.2.2 ul hb⟩
      refine hK.out _ _ (fun _ _ => hHeld) ?_
      clear hK Kc
      try simp only [Act.put, List.setIfInBounds_toArray, List.set_cons_zero, List.set_cons_succ]
      clear hb hpo hsz
      refine twX 5 { dst := some 10, op := .build 179 #[(0, .tmp 5), (1, .tmp 7), (2, .tmp 9)], type := 179, pos := "body.go:19", after := #[{ on := 0, ground := .data }, { on := 2, ground := .data }, { on := 4, ground := .data }], guard := none } (v := ?vb6) hq rfl (by kernel_rfl) ?yb6 ?_
      case yb6 => intro w; go_simp <;> with_reducible rfl
      try simp only [Act.put, List.setIfInBounds_toArray, List.set_cons_zero, List.set_cons_succ]
      refine clX 7 { dst := none, op := .store 179 (.tmp 4) (.tmp 10), type := 0, pos := "body.go:19", after := #[{ on := 6, ground := .data }, { on := 5, ground := .data }, { on := 4, ground := .chain }, { on := 0, ground := .phase }, { on := 1, ground := .phase }, { on := 2, ground := .phase }, { on := 3, ground := .phase }, { on := 4, ground := .phase }, { on := 5, ground := .phase }, { on := 6, ground := .phase }], guard := none } rfl (by kernel_rfl) (by kernel_rfl) fun Kc hK => ?_
      have z0 := SX.out.c 0 (by decide)
      have z1 := SX.out.c 1 (by decide)
      have z2 := SX.out.c 2 (by decide)
      have z3 := SX.out.c 3 (by decide)
      have z4 := SX.out.c 4 (by decide)
      have z5 := SX.out.c 5 (by decide)
      obtain ⟨y0, z0⟩ := z0
      obtain ⟨y1, z1⟩ := z1
      obtain ⟨y2, z2⟩ := z2
      obtain ⟨y3, z3⟩ := z3
      obtain ⟨y4, z4⟩ := z4
      obtain ⟨y5, z5⟩ := z5
      have g0 := SX.out.f 0
      have g1 := SX.out.f 1
      have g2 := SX.out.f 2
      have g3 := SX.out.f 3
      have g4 := SX.out.f 4
      have g5 := SX.out.f 5
      go_simp
      refine hK.out _ _ (fun h => absurd h (by decide)) ?_
      clear hK Kc
      try simp only [Act.put, List.setIfInBounds_toArray, List.set_cons_zero, List.set_cons_succ]
      refine dnX (by kernel_rfl) ?_ _
      have HSC := Lib.hid (sc_made (res := tp t) IW.out (B0.out.trans (hHeld.1.mono B0.out.size)) (Nat.le_trans B0.out.size hsb0) SX.out (own_mono OP.out B0.out.size) hne hK6)
      have hU := (put6_grown w6 sbk (.slice E.sA E.x.structs.length E.sc) (.slice E.gA E.x.globals.length E.gc) (.slice E.fA E.x.funs.length E.fc) (.string (tp t)) (.slice PA (partsL t).length pc) (.int .i64 0)).cell_far ⟨w.heap.size + 1, 0, none⟩ (Nat.lt_of_lt_of_le ul hHeld.1.size) (fun e => by have h9 : w.heap.size + 1 = sbk := Option.some.inj e; omega)
      have HU := Lib.hid (hU.trans hHeld.2.2.2.2)
      clear hU z0 z1 z2 z3 z4 z5
      go_wp2_with fail
      go_meet
      case rel => exact ⟨sbk, _, rfl, HSC.out, Nat.le_trans B0s hsb0, fun e => (by have h1 := (OP.out.lt _ e).1; omega), HU.out⟩
  case rest =>
    obtain ⟨sb, v, rfl, hsc, hsb, hvn, uc⟩ := hcut
    have hvn := Lib.hid hvn
    have HSC := Lib.hid hsc
    have N1 : Hid (Nd (cE E w (tp t) sb) nb d) := hN1.out.bl hB0.out
    have ulc : w.heap.size + 1 < wc.heap.size := World.block_lt_of_cell? wc ⟨w.heap.size + 1, 0, none⟩ uc
    have KD : Hid (∀ w', Below w.heap.size w w' → Calls Tryz.prog 29 #[.agg #[.pointer (some ⟨b, 0, none⟩)], .int .i64 ((t.kids.length : Int) - 1)] w' fun e w2 => e = .returned (.agg #[.pointer (some ⟨nb, 0, none⟩)]) ∧ Below w'.heap.size w' w2) := fun w' h => by
      have := KD0.out w' h
      rw [show ((t.kids.length - 1 : Nat) : Int) = (t.kids.length : Int) - 1 by omega] at this
      exact this
    have hwr : IntKind.i64.wrap ((t.kids.length : Int) - 1) = (t.kids.length : Int) - 1 := IntWalk.i64_in _ (by omega)
    have HRc : Hid (stmtsC (cE E w (tp t) sb).x (cE E w (tp t) sb).res d.kids (partsL t) 0 = r) := HR
    clear hsc i0 i1 i2 u0
    go_wp2_with fail
    refine rgS (fun w' => Below w.heap.size w w' ∧ w'.cell? ⟨w.heap.size + 1, 0, none⟩ = some (.pointer (some ⟨b, 0, none⟩))) (by kernel_rfl) (⟨HSC.out.B.drew, uc⟩) (fun _ a d v _ h => And.intro ((put_df a d v).symm.trans (And.left h)) (And.right h)) fun hHeld hq => ?_
    refine tkS 0 { dst := some 11, op := .load 25 (.tmp 3), type := 25, pos := "body.go:20", after := #[], guard := none } (v := ?v1_0) hq hHeld rfl (by kernel_rfl) ?y1_0 ?_
    case y1_0 => (intro w h; try dsimp only at h); go_simp <;> with_reducible rfl
    try simp only [Act.put, List.setIfInBounds_toArray, List.set_cons_zero, List.set_cons_succ]
    refine tkS 1 { dst := some 12, op := .load 25 (.tmp 3), type := 25, pos := "body.go:20", after := #[], guard := none } (v := ?v1_1) hq hHeld rfl (by kernel_rfl) ?y1_1 ?_
    case y1_1 => (intro w h; try dsimp only at h); go_simp <;> with_reducible rfl
    try simp only [Act.put, List.setIfInBounds_toArray, List.set_cons_zero, List.set_cons_succ]
    refine clS 2 { dst := some 13, op := .call { callee := .value (.func 11), args := #[.tmp 12], argTypes := #[25] }, type := 3, pos := "body.go:20", after := #[{ on := 1, ground := .data }], guard := none } rfl (by kernel_rfl) (by kernel_rfl) fun Kc hK => ?_
    go_simp
    refine (ckids_at NN.out hB0.out _ (HSC.out.B.drew)).mono ?_
    rintro e w8 ⟨rfl, hb⟩
    have hh8 := Lib.hid ((Below.refl wc.heap.size wc).drew.trans (hb.mono (Below.refl wc.heap.size wc).drew.size))
    refine hK.out _ _ ⟨hHeld.1.trans (hb.mono hHeld.1.size), keepC2 hHeld.2 hb⟩ fun hHeld => ?_
    clear hb
    clear hK Kc
    try simp only [Act.put, List.setIfInBounds_toArray, List.set_cons_zero, List.set_cons_succ]
    refine tkS 3 { dst := some 14, op := .binOp .sub 3 (.tmp 13) (.const (.int .i64 1)) 3, type := 3, pos := "body.go:20", after := #[{ on := 2, ground := .data }], guard := none } (v := ?v1_3) hq hHeld rfl (by kernel_rfl) ?y1_3 ?_
    case y1_3 => (intro w h; try dsimp only at h); go_simp <;> with_reducible rfl
    try simp only [Act.put, List.setIfInBounds_toArray, List.set_cons_zero, List.set_cons_succ]
    refine clS 4 { dst := some 15, op := .call { callee := .value (.func 29), args := #[.tmp 11, .tmp 14], argTypes := #[25, 3] }, type := 25, pos := "body.go:20", after := #[{ on := 0, ground := .data }, { on := 3, ground := .data }, { on := 2, ground := .chain }], guard := none } rfl (by kernel_rfl) (by kernel_rfl) fun Kc hK => ?_
    go_simp
    refine (KD.out _ hHeld.1).mono ?_
    rintro e w9 ⟨rfl, hb⟩
    have hh9 := Lib.hid (hh8.out.trans (hb.mono hh8.out.size))
    refine hK.out _ _ ⟨hHeld.1.trans (hb.mono hHeld.1.size), keepC2 hHeld.2 hb⟩ fun hHeld => ?_
    clear hb
    clear hK Kc
    try simp only [Act.put, List.setIfInBounds_toArray, List.set_cons_zero, List.set_cons_succ]
    refine clS 5 { dst := some 16, op := .call { callee := .value (.func 154), args := #[.tmp 4, .tmp 15], argTypes := #[179, 25] }, type := 0, pos := "body.go:20", after := #[{ on := 4, ground := .data }, { on := 4, ground := .chain }], guard := none } rfl (by kernel_rfl) (by kernel_rfl) fun Kc hK => ?_
    go_simp
    refine (cstatements_any (cE E w (tp t) sb) hx v (partsL t) 0 nb d w9 (HSC.out.below hh9.out) HKO.out N1.out hz (IH.out sb)).mono ?_
    rw [HRc.out]
    intro e w10 he
    cases r with
    | bad p er => obtain ⟨rfl, hb⟩ := he; exact ⟨rfl, hb, rfl⟩
    | ok K2 =>
    obtain ⟨v2, rfl, hs⟩ := he
    have HSS := Lib.hid hs
    refine hK.out _ _ ⟨HSS.out.sc.B, (World.cell?_of_block (w := w9) (HSS.out.sg.blk (w.heap.size + 1) (Nat.lt_of_lt_of_le ulc hh9.out.size) (fun e => by have h9 : w.heap.size + 1 = sb := e; omega) hvn.out)).trans hHeld.2⟩ fun hHeld => ?_
    clear hs
    clear hK Kc
    try simp only [Act.put, List.setIfInBounds_toArray, List.set_cons_zero, List.set_cons_succ]
    refine wpAnyH_done (by kernel_rfl) ?_ _
    go_wp2_with fail
    refine bodyPost_end (v := .tuple #[]) (by simp [results, Tryz.results110, go_sem]) rfl ?_
    exact ⟨hHeld.1, rfl⟩

end Go.Proofs.YtkahbhfbgdbnfaaGreatDoor

/-
  PLAIN: where the types of all declarations are right they lead to structs that are declared. Nothing of the program stands here. No condition.
-/
namespace Go.Proofs.YtkahbhfbgdbnfaaGreatDoor
open Go.RowKit

theorem isT_ty {x : Inf} {a : ByteArray} (h : isT x.structs a = true) : TyOk x a := by
  intro s hs
  unfold isT at h
  simp only [Bool.or_eq_true, Bool.and_eq_true] at h
  rcases h with (h | h) | h
  · obtain rfl := eqB_iff.1 h; revert hs; rw [show elemO tInt = none by decide]; intro hs; cases hs
  · obtain rfl := eqB_iff.1 h; revert hs; rw [show elemO tBool = none by decide]; intro hs; cases hs
  · unfold elemO at hs
    split at hs
    · obtain rfl := Option.some.inj hs
      exact Option.isSome_iff_exists.1 h.2
    · cases hs
theorem each_ok {f : Tree → CR Unit} : ∀ {l : List Tree} {u : Unit}, eachC f l = .ok u → ∀ d ∈ l, f d = .ok ()
  | [], _, _, d, hd => by cases hd
  | a :: r, u, h, d, hd => by
    unfold eachC at h
    obtain ⟨x, h1, h2⟩ := bind_ok h
    rcases List.mem_cons.1 hd with rfl | hd
    · exact h1
    · exact each_ok h2 d hd
theorem firC_ok {ks : List Tree} {g : Nat → Nat} {n : Nat} {u : Unit} (h : firC ks g n = .ok u) : ∀ j, j < n → g j = 0 := by
  rw [firC_eq] at h
  cases hf : fir g n 0 with
  | mk i e =>
    rw [hf] at h
    cases e with
    | zero => exact fun j hj => fir_ok (by rw [hf]) j (Nat.zero_le _) hj
    | succ e => cases h
theorem parts_ty {x : Inf} {d : Tree} (ho : d.op ≠ 3) (h : typesC x.structs d = .ok ()) : (∀ f ∈ partsL d, TyOk x f.typ) ∧ TyOk x (tp d) := by
  unfold typesC at h
  rw [if_neg ho] at h
  obtain ⟨u, h1, h2⟩ := bind_ok h
  obtain ⟨h3, -⟩ := nd_ok h2
  refine ⟨fun f hf => ?_, ?_⟩
  · unfold partsL at hf
    obtain ⟨p, hp, rfl⟩ := List.mem_map.1 hf
    obtain ⟨i, hi, rfl⟩ := List.mem_iff_getElem.1 hp
    rw [List.length_take] at hi
    have hz := firC_ok h1 i (by omega)
    unfold partE at hz
    rw [List.getElem_take]
    split at hz
    · split at hz
      · split at hz
        · rename_i h5
          rw [tp_at (List.getElem?_eq_getElem (by omega))] at h5
          exact isT_ty h5
        · cases hz
      · cases hz
    · cases hz
  · simp only [Bool.or_eq_true] at h3
    rcases h3 with h3 | h3
    · rw [eqB_iff.1 h3]; exact ty_none (by decide)
    · exact isT_ty h3
theorem inf_mem (ks : List Tree) : ∀ x : Inf, (∀ s ∈ (ks.foldl addD x).structs, s ∈ x.structs ∨ ∃ d ∈ ks, d.op = 2 ∧ s = ⟨nm d, partsL d⟩) ∧ (∀ s ∈ (ks.foldl addD x).globals, s ∈ x.globals ∨ ∃ d ∈ ks, d.op = 3 ∧ s = fldOf d) ∧ (∀ s ∈ (ks.foldl addD x).funs, s ∈ x.funs ∨ ∃ d ∈ ks, d.op = 4 ∧ s = ⟨nm d, partsL d, tp d⟩) := by
  induction ks with
  | nil => intro x; exact ⟨fun s h => .inl h, fun s h => .inl h, fun s h => .inl h⟩
  | cons a r ih =>
    intro x
    have h := ih (addD x a)
    simp only [List.foldl_cons]
    refine ⟨fun s hs => ?_, fun s hs => ?_, fun s hs => ?_⟩
    · rcases h.1 s hs with h1 | ⟨d, h1, h2⟩
      · unfold addD at h1
        split at h1
        · rcases List.mem_append.1 h1 with h1 | h1
          · exact .inl h1
          · exact .inr ⟨a, by simp, by assumption, List.mem_singleton.1 h1⟩
        split at h1
        · exact .inl h1
        split at h1
        · exact .inl h1
        · exact .inl h1
      · exact .inr ⟨d, List.mem_cons_of_mem _ h1, h2⟩
    · rcases h.2.1 s hs with h1 | ⟨d, h1, h2⟩
      · unfold addD at h1
        split at h1
        · exact .inl h1
        split at h1
        · rcases List.mem_append.1 h1 with h1 | h1
          · exact .inl h1
          · exact .inr ⟨a, by simp, by assumption, List.mem_singleton.1 h1⟩
        split at h1
        · exact .inl h1
        · exact .inl h1
      · exact .inr ⟨d, List.mem_cons_of_mem _ h1, h2⟩
    · rcases h.2.2 s hs with h1 | ⟨d, h1, h2⟩
      · unfold addD at h1
        split at h1
        · exact .inl h1
        split at h1
        · exact .inl h1
        split at h1
        · rcases List.mem_append.1 h1 with h1 | h1
          · exact .inl h1
          · exact .inr ⟨a, by simp, by assumption, List.mem_singleton.1 h1⟩
        · exact .inl h1
      · exact .inr ⟨d, List.mem_cons_of_mem _ h1, h2⟩
/-- The types of what is declared lead to what is declared. -/
theorem types_inf {ks : List Tree} {u : Unit} (h : eachC (typesC (infOf ks).structs) ks = .ok u) : InfOk (infOf ks) := by
  have hd := each_ok h
  obtain ⟨m1, m2, m3⟩ := inf_mem ks infZ
  refine ⟨fun s hs f hf => ?_, fun f hf => ?_, fun s hs => ?_⟩
  · rcases m1 s hs with h1 | ⟨d, h1, h2, rfl⟩
    · cases h1
    · exact (parts_ty (x := infOf ks) (by omega) (hd d h1)).1 f hf
  · rcases m2 f hf with h1 | ⟨d, h1, h2, rfl⟩
    · cases h1
    · have := hd d h1
      unfold typesC at this
      rw [if_pos h2] at this
      exact isT_ty (nd_ok this).1
  · rcases m3 s hs with h1 | ⟨d, h1, h2, rfl⟩
    · cases h1
    · exact (parts_ty (x := infOf ks) (by omega) (hd d h1)).2
theorem types_ko {ks : List Tree} {u : Unit} (h : eachC (typesC (infOf ks).structs) ks = .ok u) {d : Tree} (hd : d ∈ ks) (ho : d.op = 4) : KOk (infOf ks) (partsL d) := (parts_ty (x := infOf ks) (by omega) (each_ok h d hd)).1
theorem each_drop {f : Tree → CR Unit} {l : List Tree} {k : Nat} {u : Tree} (h : l[k]? = some u) : eachC f (l.drop k) = (f u).bind fun _ => eachC f (l.drop (k + 1)) := by
  obtain ⟨h1, rfl⟩ := List.getElem?_eq_some_iff.1 h
  rw [List.drop_eq_getElem_cons h1, eachC]
theorem each_end {f : Tree → CR Unit} {l : List Tree} {k : Nat} (h : l.length ≤ k) : eachC f (l.drop k) = .ok () := by
  rw [List.drop_eq_nil_of_le h, eachC]

end Go.Proofs.YtkahbhfbgdbnfaaGreatDoor

/-
  CONTRACTS: checkMain, program of package check. Of what was there nothing has turned.
-/
namespace Go.Proofs.YtkahbhfbgdbnfaaGreatDoor
open Go.RowKit

theorem infV_new (E : CE) (w : World) : (w.alloc (.cells #[.slice E.sA E.x.structs.length E.sc, .slice E.gA E.x.globals.length E.gc, .slice E.fA E.x.funs.length E.fc] 44)).cell? ⟨w.heap.size, 0, none⟩ = some (.slice E.sA E.x.structs.length E.sc) ∧ (w.alloc (.cells #[.slice E.sA E.x.structs.length E.sc, .slice E.gA E.x.globals.length E.gc, .slice E.fA E.x.funs.length E.fc] 44)).cell? ⟨w.heap.size, 1, none⟩ = some (.slice E.gA E.x.globals.length E.gc) ∧ (w.alloc (.cells #[.slice E.sA E.x.structs.length E.sc, .slice E.gA E.x.globals.length E.gc, .slice E.fA E.x.funs.length E.fc] 44)).cell? ⟨w.heap.size, 2, none⟩ = some (.slice E.fA E.x.funs.length E.fc) := ⟨cell_new w _ 44 0, cell_new w _ 44 1, cell_new w _ 44 2⟩
/-- What is declared, in rows that were not there. -/
structure IX (E : CE) (w : World) (lo : Nat) : Prop where
  good : Good w
  sl : E.x.structs.length ≤ 100000
  gl : E.x.globals.length ≤ 100000
  fl : E.x.funs.length ≤ 100000
  d : ∃ base vs us, lo ≤ base ∧ DR w base E.sV E.gV E.fV E.x vs us
theorem IX.im {E : CE} {w : World} {lo : Nat} (h : IX E w lo) : IM E w := by
  obtain ⟨base, vs, us, -, hD⟩ := h.d
  obtain ⟨sA', gA', fA', sc', gc', fc', e1, e2, e3, hS, hGl, hF, sle, gle, fle⟩ := hD.out
  unfold CE.sV at e1
  unfold CE.gV at e2
  unfold CE.fV at e3
  simp only [Value.slice.injEq] at e1 e2 e3
  obtain ⟨rfl, -, rfl⟩ := e1
  obtain ⟨rfl, -, rfl⟩ := e2
  obtain ⟨rfl, -, rfl⟩ := e3
  exact ⟨h.good, hS, hGl, hF, h.sl, h.gl, h.fl, sle, gle, fle⟩
theorem IX.below {E : CE} {w w' : World} {lo : Nat} (h : IX E w lo) (hb : Below w.heap.size w w') : IX E w' lo := by
  obtain ⟨base, vs, us, hl, hD⟩ := h.d
  exact ⟨h.good.below hb, h.sl, h.gl, h.fl, base, vs, us, hl, hD.below hb⟩
theorem IX.set {E : CE} {w : World} {lo y k : Nat} {v : Value} (h : IX E w lo) (hy : y < lo) (h8 : 8 ≤ y) : IX E (w.setCell ⟨y, k, none⟩ v) lo := by
  obtain ⟨base, vs, us, hl, hD⟩ := h.d
  exact ⟨h.good.low (low_grown (kb_set w ⟨y, k, none⟩ v) (fun b e => by have h9 : y = b := Option.some.inj e; omega) h.good.size), h.sl, h.gl, h.fl, base, vs, us, hl, hD.keep (kb_set w ⟨y, k, none⟩ v) (fun b e => by have h9 : y = b := Option.some.inj e; omega)⟩
theorem IX.lower {E : CE} {w : World} {lo lo' : Nat} (h : IX E w lo) (hl : lo' ≤ lo) : IX E w lo' := by
  obtain ⟨base, vs, us, h1, hD⟩ := h.d
  exact ⟨h.good, h.sl, h.gl, h.fl, base, vs, us, Nat.le_trans hl h1, hD⟩
def MQ (E : CE) (w : World) (e : Ending) (w' : World) : Prop := Below w.heap.size w w' ∧ e = (if mainB E.x then .returned (.tuple #[]) else cfE 0 8)
/-- What program answers. -/
def PQ (E : CE) (w : World) (r : CR Inf) (e : Ending) (w' : World) : Prop := Below w.heap.size w w' ∧ (match r with
  | .ok x => ∃ E' : CE, E'.x = x ∧ e = .returned (infV E') ∧ IX E' w' w.heap.size
  | .bad p er => e = cfE (E.pl p) er)
def ORel (wb : World) (f : Tree → CR Unit) (t : Tree) (m : Nat) (r : CR Unit) (i : Value) (wr : World) : Prop :=
  ∃ k : Nat, k ≤ m ∧ i = .int .i64 k ∧ Hid (eachC f (t.kids.drop k) = r) ∧ Hid (Below wb.heap.size wb wr)
theorem fir_unit {r : CR Unit} {a : Unit} : (r = .ok a) = (r = .ok ()) := rfl
/-- The slices of what is declared. -/
def cI (E : CE) (x : Inf) (sA gA fA : Option Addr) (sc gc fc : Nat) : CE := { E with x := x, sA := sA, gA := gA, fA := fA, sc := sc, gc := gc, fc := fc }
set_option maxRecDepth 100000 in
set_option maxHeartbeats 400000 in
theorem cmain_any (E : CE) (w : World) (I : IM E w) : Calls Tryz.prog 111 #[infV E] w (MQ E w) := by
  have B0 := Lib.hid (b1 w (.cells #[.slice E.sA E.x.structs.length E.sc, .slice E.gA E.x.globals.length E.gc, .slice E.fA E.x.funs.length E.fc] 44))
  have I0 := Lib.hid (I.below (b1 w (.cells #[.slice E.sA E.x.structs.length E.sc, .slice E.gA E.x.globals.length E.gc, .slice E.fA E.x.funs.length E.fc] 44)))
  obtain ⟨i0, i1, i2⟩ := infV_new E w
  have il : w.heap.size < (w.alloc (.cells #[.slice E.sA E.x.structs.length E.sc, .slice E.gA E.x.globals.length E.gc, .slice E.fA E.x.funs.length E.fc] 44)).heap.size := by simp
  obtain ⟨r, hr⟩ : ∃ r, funO E.x tMain = r := ⟨_, rfl⟩
  have HR := Lib.hid hr
  have hfl := I.fl
  have hfc := I.fle
  unfold infV
  clear I hr
  go_enter Tryz.func111, Tryz.ntmps111
  go_wp2_with fail
  generalize w.alloc (.cells #[.slice E.sA E.x.structs.length E.sc, .slice E.gA E.x.globals.length E.gc, .slice E.fA E.x.funs.length E.fc] 44) = wa at *
  refine (cfun_any E tMain r wa I0.out HR).mono ?_
  rintro e w1 ⟨rfl, hb⟩
  have i2 := keepC (Below.refl _ _) i2 il hb
  have I1 := Lib.hid (I0.out.below hb)
  have B1 := Lib.hid (B0.out.trans (hb.mono B0.out.size))
  clear hb i0 i1
  cases r with
  | none =>
    unfold foundV
    have hm : mainB E.x = false := by unfold mainB; rw [HR.out]
    go_wp2_with fail
    exact ⟨rfl, B1.out, by rw [hm]; rfl⟩
  | some j =>
    unfold foundV
    have hjl := fst_lt HR.out
    obtain ⟨fb, fo, hfa, hfb, PA, pc, g0, g1, g2, gc, gm, -⟩ := sg_at I1.out.F hjl
    have hm : Hid (mainB E.x = ((E.x.funs.getD j sgZ).params.length == 0 && eqB (E.x.funs.getD j sgZ).res tNone)) := by show _ = _; unfold mainB; rw [HR.out]
    rw [hfa] at i2
    clear hfa
    generalize E.x.funs.getD j sgZ = G at *
    generalize E.x.funs.length = fm at *
    obtain ⟨n, hn⟩ : ∃ n, G.params.length = n := ⟨_, rfl⟩
    rw [hn] at g1 gc gm hm
    obtain ⟨q, hq⟩ : ∃ d, G.res.toList.isEmpty = d := ⟨_, rfl⟩
    have HQ : Hid (eqB G.res tNone = q) := eqB_nil hq
    by_cases h0 : 0 < n
    · have h0' : (0 : Int) < (n : Int) := by omega
      have hmf : mainB E.x = false := by rw [hm.out, beq_eq_false_iff_ne.2 (by omega)]; rfl
      go_wp2_with fail
      exact ⟨rfl, B1.out, by rw [hmf]; rfl⟩
    · obtain rfl : n = 0 := by omega
      have hmf : Hid (mainB E.x = q) := by show _ = _; rw [hm.out, HQ.out]; rfl
      clear h0
      cases q with
      | false =>
        go_wp2_with fail
        exact ⟨rfl, B1.out, by rw [hmf.out]; rfl⟩
      | true =>
        go_wp2_with fail
        refine bodyPost_end (v := .tuple #[]) (by simp [results, Tryz.results111, go_sem]) rfl ?_
        exact ⟨B1.out, by rw [hmf.out]; rfl⟩

set_option maxRecDepth 100000 in
set_option maxHeartbeats 1000000 in
theorem cprogram_any (E : CE) (b : Nat) (t : Tree) (w : World) (N : Nd E b t) (hB : Below E.w0.heap.size E.w0 w) (G : Good w) (W : Wt t) (hz : sizeT t ≤ 90000) (hroot : E.pl t.pos = 0) :
    Calls Tryz.prog 78 #[.agg #[.pointer (some ⟨b, 0, none⟩)]] w (PQ E w (checkC t)) := by
  have hk4 : Hid (∀ (k : Nat) (d : Tree), t.kids[k]? = some d → d.op = 4 → 1 ≤ d.kids.length) := fun k d hd ho => by have := (W.kid hd).least; rw [ho] at this; exact this
  have B0 := Lib.hid (b2 w (.cells #[.pointer (some ⟨b, 0, none⟩)] 25) (.cells #[.slice none 0 0, .slice none 0 0, .slice none 0 0] 44))
  have HB := Lib.hid hB
  have U0 := Lib.hid ((PtrAt.new w (some ⟨b, 0, none⟩)).below (b1 _ (.cells #[.slice none 0 0, .slice none 0 0, .slice none 0 0] 44)))
  have r0 : ((w.alloc (.cells #[.pointer (some ⟨b, 0, none⟩)] 25)).alloc (.cells #[.slice none 0 0, .slice none 0 0, .slice none 0 0] 44)).cell? ⟨w.heap.size + 1, 0, none⟩ = some (.slice none 0 0) := cell_second w _ _ _ _ 0
  have r1 : ((w.alloc (.cells #[.pointer (some ⟨b, 0, none⟩)] 25)).alloc (.cells #[.slice none 0 0, .slice none 0 0, .slice none 0 0] 44)).cell? ⟨w.heap.size + 1, 1, none⟩ = some (.slice none 0 0) := cell_second w _ _ _ _ 1
  have r2 : ((w.alloc (.cells #[.pointer (some ⟨b, 0, none⟩)] 25)).alloc (.cells #[.slice none 0 0, .slice none 0 0, .slice none 0 0] 44)).cell? ⟨w.heap.size + 1, 2, none⟩ = some (.slice none 0 0) := cell_second w _ _ _ _ 2
  have rl : w.heap.size + 1 < ((w.alloc (.cells #[.pointer (some ⟨b, 0, none⟩)] 25)).alloc (.cells #[.slice none 0 0, .slice none 0 0, .slice none 0 0] 44)).heap.size := by simp
  have z0 : ∀ k, ((w.alloc (.cells #[.pointer (some ⟨b, 0, none⟩)] 25)).alloc (.cells #[.slice none 0 0, .slice none 0 0, .slice none 0 0] 44)).frozen? ⟨w.heap.size + 1, k, none⟩ = false := by intro k; simp [go_sem]
  have NN := Lib.hid N
  have HWT := Lib.hid W
  have HG := Lib.hid G
  obtain ⟨m, hm⟩ : ∃ m, t.kids.length = m := ⟨_, rfl⟩
  have HM := Lib.hid hm
  have hm6 : m ≤ 6000 := by obtain ⟨-, -, -, -, h, -⟩ := N.kid; omega
  obtain ⟨X, hX⟩ : ∃ X, infOf t.kids = X := ⟨_, rfl⟩
  have HX := Lib.hid hX
  obtain ⟨rn, hrn⟩ : ∃ r, firC t.kids (nameE t.kids) t.kids.length = r := ⟨_, rfl⟩
  obtain ⟨rt, hrt⟩ : ∃ r, eachC (typesC X.structs) t.kids = r := ⟨_, rfl⟩
  obtain ⟨rb, hrb⟩ : ∃ r, eachC (bodyC X) t.kids = r := ⟨_, rfl⟩
  have HRN := Lib.hid hrn
  have HRT := Lib.hid hrt
  have HRB := Lib.hid hrb
  have HC : Hid (checkC t = rn.bind fun _ => rt.bind fun _ => rb.bind fun _ => nd t.pos (mainB X) 8 (.ok X)) := by show _ = _; unfold checkC; rw [hX, hrn, hrt, hrb]
  have hxl := infOf_len t.kids t.kids.length (Nat.le_refl _)
  rw [List.take_length, hX, hm] at hxl
  obtain ⟨xl1, xl2, xl3⟩ := hxl
  clear N hm hX hrn hrt hrb W G
  go_enter Tryz.func78, Tryz.ntmps78
  have u0 := U0.out.c0
  go_wp2_with fail
  generalize (w.alloc (.cells #[.pointer (some ⟨b, 0, none⟩)] 25)).alloc (.cells #[.slice none 0 0, .slice none 0 0, .slice none 0 0] 44) = wa at *
  have ul := U0.out.lt
  have HBa := Lib.hid (HB.out.trans (B0.out.mono HB.out.size))
  refine (cdeclared_any E b t wa NN.out HBa.out hk4.out).mono ?_
  rintro e w2 ⟨sv, gv, fv, vs, us, rfl, hD, hb⟩
  rw [HX.out] at hD
  obtain ⟨sA, gA, fA, sc, gc, fc, rfl, rfl, rfl, hS, hGl, hF, sle, gle, fle⟩ := hD.out
  have IM2 : Hid (IM (cI E X sA gA fA sc gc fc) w2) := ⟨HG.out.below (B0.out.trans (hb.mono B0.out.size)), hS, hGl, hF, by show X.structs.length ≤ _; omega, by show X.globals.length ≤ _; omega, by show X.funs.length ≤ _; omega, sle, gle, fle⟩
  have HD2 := Lib.hid hD
  have H2 := Lib.hid hb
  have u2 := keepC (Below.refl _ _) u0 ul hb
  clear hD hS hGl hF hb sle gle fle
  have BV := Lib.hid (b1 w2 (.cells #[.slice sA X.structs.length sc, .slice gA X.globals.length gc, .slice fA X.funs.length fc] 44))
  obtain ⟨s0, s1, s2⟩ := infV_new (cI E X sA gA fA sc gc fc) w2
  have vl : w2.heap.size < (w2.alloc (.cells #[.slice sA X.structs.length sc, .slice gA X.globals.length gc, .slice fA X.funs.length fc] 44)).heap.size := by simp
  have s0 : (w2.alloc (.cells #[.slice sA X.structs.length sc, .slice gA X.globals.length gc, .slice fA X.funs.length fc] 44)).cell? ⟨w2.heap.size, 0, none⟩ = some (.slice sA X.structs.length sc) := s0
  have s1 : (w2.alloc (.cells #[.slice sA X.structs.length sc, .slice gA X.globals.length gc, .slice fA X.funs.length fc] 44)).cell? ⟨w2.heap.size, 1, none⟩ = some (.slice gA X.globals.length gc) := s1
  have s2 : (w2.alloc (.cells #[.slice sA X.structs.length sc, .slice gA X.globals.length gc, .slice fA X.funs.length fc] 44)).cell? ⟨w2.heap.size, 2, none⟩ = some (.slice fA X.funs.length fc) := s2
  have u3 := keepC H2.out u2 ul BV.out
  clear u2
  go_wp2_with fail
  generalize w2.alloc (.cells #[.slice sA X.structs.length sc, .slice gA X.globals.length gc, .slice fA X.funs.length fc] 44) = wb at *
  have H3 := Lib.hid (H2.out.trans (BV.out.mono H2.out.size))
  have IM3 := Lib.hid (IM2.out.below BV.out)
  have BWb := Lib.hid (B0.out.trans (H3.out.mono B0.out.size))
  have BEb := Lib.hid (HB.out.trans (BWb.out.mono HB.out.size))
  have ulb := Nat.lt_of_lt_of_le ul H3.out.size
  clear IM2
  refine (cnames_any E b t wb NN.out BEb.out).mono ?_
  rw [HRN.out]
  rintro e w4 ⟨hb, he⟩
  cases rn with
  | bad p er => obtain rfl := he; exact ⟨rfl, BWb.out.trans (hb.mono BWb.out.size), by rw [HC.out]; rfl⟩
  | ok a0 =>
  obtain rfl := he
  have u4 := keepC (Below.refl _ _) u3 ulb hb
  have H4 := Lib.hid hb
  clear hb
  go_wp2_with fail
  refine (ckids_at NN.out BEb.out _ H4.out).mono ?_
  rintro e w5 ⟨rfl, hb⟩
  have H5 := Lib.hid (H4.out.trans (hb.mono H4.out.size))
  rw [HM.out]
  clear hb u4
  go_wp2_with fail
  go_loopw [12] (fun i wr => ORel wb (typesC X.structs) t m rt i wr) (fun i _ => m - (intOf i).toNat)
  case atStart => exact ⟨0, Nat.zero_le _, rfl, HRT, H5⟩
  case round =>
    obtain ⟨k, hk, rfl, HK, HB7⟩ := hrel
    have BW := Lib.hid (BWb.out.trans (HB7.out.mono BWb.out.size))
    have ur := keepC (Below.refl _ _) u3 ulb HB7.out
    have s0r := keepC (Below.refl _ _) s0 vl HB7.out
    have s1r := keepC (Below.refl _ _) s1 vl HB7.out
    have s2r := keepC (Below.refl _ _) s2 vl HB7.out
    have ulr := Nat.lt_of_lt_of_le ulb HB7.out.size
    have vlr := Nat.lt_of_lt_of_le vl HB7.out.size
    by_cases hlt : k < m
    · obtain ⟨d, hu⟩ : ∃ u, t.kids[k]? = some u := ⟨_, List.getElem?_eq_getElem (by have := HM.out; omega)⟩
      obtain ⟨nb, hn, hkd⟩ := ckid_at NN.out HB.out k d hu
      have HU := Lib.hid hu
      have N1 := Lib.hid hn
      have KD := Lib.hid hkd
      have HK4 := Lib.hid (hk4.out k d hu)
      obtain ⟨q, hq⟩ : ∃ q, typesC X.structs d = q := ⟨_, rfl⟩
      have HQ := Lib.hid hq
      have HRQ : Hid (rt = q.bind fun _ => eachC (typesC X.structs) (t.kids.drop (k + 1))) := by show _ = _; rw [← HK.out, each_drop hu, hq]
      clear hu hn hkd hq
      go_wp2_with fail
      refine rgS (fun w' => Below wr.heap.size wr w' ∧ w'.cell? ⟨w2.heap.size, 0, none⟩ = some (.slice sA X.structs.length sc) ∧ w'.cell? ⟨w.heap.size, 0, none⟩ = some (.pointer (some ⟨b, 0, none⟩))) (by kernel_rfl) (⟨(Below.refl _ _).drew, s0r, ur⟩) (fun _ a d v _ h => And.intro ((put_df a d v).symm.trans (And.left h)) (And.right h)) fun hHeld hq => ?_
      refine tkS 0 { dst := some 15, op := .fieldAddr 44 (.tmp 3) 0, type := 0, pos := "declare.go:14", after := #[], guard := none } (v := ?v1_0) hq hHeld rfl (by kernel_rfl) ?y1_0 ?_
      case y1_0 => (intro w h; try dsimp only at h); go_simp <;> with_reducible rfl
      try simp only [Act.put, List.setIfInBounds_toArray, List.set_cons_zero, List.set_cons_succ]
      refine tkS 1 { dst := some 16, op := .load 40 (.tmp 15), type := 40, pos := "declare.go:14", after := #[{ on := 0, ground := .data }], guard := none } (v := ?v1_1) hq hHeld rfl (by kernel_rfl) ?y1_1 ?_
      case y1_1 => (intro w h; try dsimp only at h); go_simp <;> with_reducible rfl
      try simp only [Act.put, List.setIfInBounds_toArray, List.set_cons_zero, List.set_cons_succ]
      refine tkS 2 { dst := some 17, op := .load 25 (.tmp 1), type := 25, pos := "declare.go:14", after := #[], guard := none } (v := ?v1_2) hq hHeld rfl (by kernel_rfl) ?y1_2 ?_
      case y1_2 => (intro w h; try dsimp only at h); go_simp <;> with_reducible rfl
      try simp only [Act.put, List.setIfInBounds_toArray, List.set_cons_zero, List.set_cons_succ]
      refine tkS 3 { dst := some 18, op := .move (.tmp 4), type := 3, pos := "declare.go:14", after := #[], guard := none } (v := ?v1_3) hq hHeld rfl (by kernel_rfl) ?y1_3 ?_
      case y1_3 => (intro w h; try dsimp only at h); go_simp <;> with_reducible rfl
      try simp only [Act.put, List.setIfInBounds_toArray, List.set_cons_zero, List.set_cons_succ]
      refine clS 4 { dst := some 19, op := .call { callee := .value (.func 29), args := #[.tmp 17, .tmp 18], argTypes := #[25, 3] }, type := 25, pos := "declare.go:14", after := #[{ on := 2, ground := .data }, { on := 3, ground := .data }], guard := none } rfl (by kernel_rfl) (by kernel_rfl) fun Kc hK => ?_
      go_simp
      refine (KD.out _ (BW.out.trans (hHeld.1.mono BW.out.size))).mono ?_
      rintro e w1 ⟨rfl, hb⟩
      refine hK.out _ _ ⟨hHeld.1.trans (hb.mono hHeld.1.size), keepC hHeld.1 hHeld.2.1 vlr hb, keepC hHeld.1 hHeld.2.2 ulr hb⟩ fun hHeld => ?_
      clear hb
      clear hK Kc
      try simp only [Act.put, List.setIfInBounds_toArray, List.set_cons_zero, List.set_cons_succ]
      refine clS 5 { dst := some 20, op := .call { callee := .value (.func 109), args := #[.tmp 16, .tmp 19], argTypes := #[40, 25] }, type := 0, pos := "declare.go:14", after := #[{ on := 1, ground := .data }, { on := 4, ground := .data }, { on := 4, ground := .chain }], guard := none } rfl (by kernel_rfl) (by kernel_rfl) fun Kc hK => ?_
      go_simp
      refine (ctypes_any E nb d _ N1.out (HB.out.trans ((BW.out.trans (hHeld.1.mono BW.out.size)).mono HB.out.size)) X.structs sA sc (((IM3.out.below HB7.out).below hHeld.1).S) (by omega) HK4.out).mono ?_
      rw [HQ.out]
      rintro e w1 ⟨hb, he⟩
      cases q with
      | bad p er => obtain rfl := he; exact ⟨rfl, onB BW.out hHeld.1 hb, by rw [HC.out, HRQ.out]; rfl⟩
      | ok a1 =>
      obtain rfl := he
      refine hK.out _ _ ⟨hHeld.1.trans (hb.mono hHeld.1.size), keepC hHeld.1 hHeld.2.1 vlr hb, keepC hHeld.1 hHeld.2.2 ulr hb⟩ fun hHeld => ?_
      clear hb
      clear hK Kc
      try simp only [Act.put, List.setIfInBounds_toArray, List.set_cons_zero, List.set_cons_succ]
      refine wpAnyH_done (by kernel_rfl) ?_ _
      have hh := Lib.hid (HB7.out.trans (hHeld.1.mono HB7.out.size))
      clear hHeld
      go_wp2_with fail
      go_roundw
      case rel => exact ⟨k + 1, by omega, by go_num, HRQ.out.symm, hh⟩
      case measure => simp [intOf]; omega
    · have HTK : Hid (rt = .ok ()) := by show _ = _; rw [← HK.out, each_end (by have := HM.out; omega)]
      have HOK : Hid (InfOk X) := by
        have h := HRT.out
        rw [HTK.out, ← HX.out] at h
        show InfOk X
        rw [← HX.out]
        exact types_inf h
      have HKO : Hid (∀ d ∈ t.kids, d.op = 4 → KOk X (partsL d)) := fun d hd ho => by
        have h := HRT.out
        rw [HTK.out, ← HX.out] at h
        rw [← HX.out]
        exact types_ko h hd ho
      go_wp2_with fail
      refine (ckids_at NN.out HB.out _ BW.out).mono ?_
      rintro e w6 ⟨rfl, hb⟩
      have H6 := Lib.hid (HB7.out.trans (hb.mono HB7.out.size))
      rw [HM.out]
      clear hb s0r s1r s2r ur ulr vlr BW HB7 HK hk hlt
      go_wp2_with fail
      go_loopw [24] (fun i wr => ORel wb (bodyC X) t m rb i wr) (fun i _ => m - (intOf i).toNat)
      case atStart => exact ⟨0, Nat.zero_le _, rfl, HRB, H6⟩
      case round =>
        obtain ⟨k, hk, rfl, HK, HB7⟩ := hrel
        have BW := Lib.hid (BWb.out.trans (HB7.out.mono BWb.out.size))
        have ur := keepC (Below.refl _ _) u3 ulb HB7.out
        have s0r := keepC (Below.refl _ _) s0 vl HB7.out
        have s1r := keepC (Below.refl _ _) s1 vl HB7.out
        have s2r := keepC (Below.refl _ _) s2 vl HB7.out
        have ulr := Nat.lt_of_lt_of_le ulb HB7.out.size
        have vlr := Nat.lt_of_lt_of_le vl HB7.out.size
        by_cases hlt : k < m
        · obtain ⟨d, hu⟩ : ∃ u, t.kids[k]? = some u := ⟨_, List.getElem?_eq_getElem (by have := HM.out; omega)⟩
          obtain ⟨nb, hn, hkd⟩ := ckid_at NN.out HB.out k d hu
          have HU := Lib.hid hu
          have N1 := Lib.hid hn
          have KD := Lib.hid hkd
          obtain ⟨q, hq⟩ : ∃ q, bodyC X d = q := ⟨_, rfl⟩
          have HQ := Lib.hid hq
          have HRQ : Hid (rb = q.bind fun _ => eachC (bodyC X) (t.kids.drop (k + 1))) := by show _ = _; rw [← HK.out, each_drop hu, hq]
          clear hu hn hkd hq
          go_wp2_with fail
          refine (KD.out _ BW.out).mono ?_
          rintro e w7 ⟨rfl, hb⟩
          have hh := Lib.hid hb
          clear hb
          go_wp2_with fail
          refine (cop_at N1.out HB.out _ (BW.out.trans (hh.out.mono BW.out.size))).mono ?_
          rintro e w8 ⟨rfl, hb⟩
          have hh := Lib.hid (hh.out.trans (hb.mono hh.out.size))
          clear hb
          have s0r := keepC (Below.refl _ _) s0r vlr hh.out
          have s1r := keepC (Below.refl _ _) s1r vlr hh.out
          have s2r := keepC (Below.refl _ _) s2r vlr hh.out
          have ur := keepC (Below.refl _ _) ur ulr hh.out
          by_cases ho : d.op = 4
          · rw [ho]
            obtain ⟨lk, hlk⟩ := kid_is (t := d) (i := d.kids.length - 1) (by have := hk4.out k d HU.out ho; omega)
            have hzd : (partsL d).length + sizeL lk.kids ≤ 100000 := by
              have h1 := partsL_len d
              have h2 := cntP_le d
              have h3 : d.kids.length ≤ 6000 := by obtain ⟨-, -, -, -, h, -⟩ := N1.out.kid; omega
              have h4 := size_kid hlk
              have h5 := size_kid HU.out
              have h6 := sizeT_eq lk
              omega
            have HBD : Hid (q = (stmtsC X (tp d) lk.kids (partsL d) 0).bind fun _ => .ok ()) := by
              show _ = _
              rw [← HQ.out]; unfold bodyC; rw [if_pos ho, tp_at hlk]
            have HWL : Hid (∀ u ∈ lk.kids, Wt u) := fun u hu => by
              obtain ⟨i, hi, rfl⟩ := List.mem_iff_getElem.1 hu
              exact ((HWT.out.kid HU.out).kid hlk).kid (List.getElem?_eq_getElem hi)
            have HLK := Lib.hid hlk
            have HKd := Lib.hid (HKO.out d (List.mem_of_getElem? HU.out) ho)
            have HK4 := Lib.hid (hk4.out k d HU.out)
            clear hlk
            go_wp2_with fail
            refine rgS (fun w' => Below wr.heap.size wr w' ∧ w'.cell? ⟨w2.heap.size, 0, none⟩ = some (.slice sA X.structs.length sc) ∧ w'.cell? ⟨w2.heap.size, 1, none⟩ = some (.slice gA X.globals.length gc) ∧ w'.cell? ⟨w2.heap.size, 2, none⟩ = some (.slice fA X.funs.length fc) ∧ w'.cell? ⟨w.heap.size, 0, none⟩ = some (.pointer (some ⟨b, 0, none⟩))) (by kernel_rfl) (⟨hh.out.drew, s0r, s1r, s2r, ur⟩) (fun _ a d v _ h => And.intro ((put_df a d v).symm.trans (And.left h)) (And.right h)) fun hHeld hq => ?_
            refine tkS 0 { dst := some 32, op := .load 44 (.tmp 3), type := 44, pos := "declare.go:18", after := #[], guard := none } (v := ?v2_0) hq hHeld rfl (by kernel_rfl) ?y2_0 ?_
            case y2_0 => (intro w h; try dsimp only at h); go_simp <;> with_reducible rfl
            try simp only [Act.put, List.setIfInBounds_toArray, List.set_cons_zero, List.set_cons_succ]
            refine tkS 1 { dst := some 33, op := .load 25 (.tmp 1), type := 25, pos := "declare.go:18", after := #[], guard := none } (v := ?v2_1) hq hHeld rfl (by kernel_rfl) ?y2_1 ?_
            case y2_1 => (intro w h; try dsimp only at h); go_simp <;> with_reducible rfl
            try simp only [Act.put, List.setIfInBounds_toArray, List.set_cons_zero, List.set_cons_succ]
            refine tkS 2 { dst := some 34, op := .move (.tmp 5), type := 3, pos := "declare.go:18", after := #[], guard := none } (v := ?v2_2) hq hHeld rfl (by kernel_rfl) ?y2_2 ?_
            case y2_2 => (intro w h; try dsimp only at h); go_simp <;> with_reducible rfl
            try simp only [Act.put, List.setIfInBounds_toArray, List.set_cons_zero, List.set_cons_succ]
            refine clS 3 { dst := some 35, op := .call { callee := .value (.func 29), args := #[.tmp 33, .tmp 34], argTypes := #[25, 3] }, type := 25, pos := "declare.go:18", after := #[{ on := 1, ground := .data }, { on := 2, ground := .data }], guard := none } rfl (by kernel_rfl) (by kernel_rfl) fun Kc hK => ?_
            go_simp
            refine (KD.out _ (BW.out.trans (hHeld.1.mono BW.out.size))).mono ?_
            rintro e w1 ⟨rfl, hb⟩
            refine hK.out _ _ ⟨hHeld.1.trans (hb.mono hHeld.1.size), keepC hHeld.1 hHeld.2.1 vlr hb, keepC hHeld.1 hHeld.2.2.1 vlr hb, keepC hHeld.1 hHeld.2.2.2.1 vlr hb, keepC hHeld.1 hHeld.2.2.2.2 ulr hb⟩ fun hHeld => ?_
            clear hb
            clear hK Kc
            try simp only [Act.put, List.setIfInBounds_toArray, List.set_cons_zero, List.set_cons_succ]
            refine clS 4 { dst := some 36, op := .call { callee := .value (.func 110), args := #[.tmp 32, .tmp 35], argTypes := #[44, 25] }, type := 0, pos := "declare.go:18", after := #[{ on := 0, ground := .data }, { on := 3, ground := .data }, { on := 3, ground := .chain }], guard := none } rfl (by kernel_rfl) (by kernel_rfl) fun Kc hK => ?_
            go_simp
            refine (cbody_any (cI E X sA gA fA sc gc fc) nb d _ N1.out (HB.out.trans ((BW.out.trans (hHeld.1.mono BW.out.size)).mono HB.out.size)) ((IM3.out.below HB7.out).below hHeld.1) HOK lk HLK.out HK4.out HKd.out hzd HWL.out).mono ?_
            intro e w1 hq0
            obtain ⟨hb, he⟩ : UQ E _ q e w1 := by rw [HBD.out]; exact hq0
            cases q with
            | bad p er => obtain rfl := he; exact ⟨rfl, onB BW.out hHeld.1 hb, by rw [HC.out, HTK.out, HRQ.out]; rfl⟩
            | ok a1 =>
            obtain rfl := he
            refine hK.out _ _ ⟨hHeld.1.trans (hb.mono hHeld.1.size), keepC hHeld.1 hHeld.2.1 vlr hb, keepC hHeld.1 hHeld.2.2.1 vlr hb, keepC hHeld.1 hHeld.2.2.2.1 vlr hb, keepC hHeld.1 hHeld.2.2.2.2 ulr hb⟩ fun hHeld => ?_
            clear hb hq0
            clear hK Kc
            try simp only [Act.put, List.setIfInBounds_toArray, List.set_cons_zero, List.set_cons_succ]
            refine wpAnyH_done (by kernel_rfl) ?_ _
            have hh := Lib.hid (HB7.out.trans (hHeld.1.mono HB7.out.size))
            clear hHeld
            go_wp2_with fail
            go_roundw
            case rel => exact ⟨k + 1, by omega, by go_num, HRQ.out.symm, hh⟩
            case measure => simp [intOf]; omega
          · have f4 : ((d.op : Int) == 4) = false := by rw [beq_eq_false_iff_ne]; omega
            obtain rfl : q = .ok () := by rw [← HQ.out]; unfold bodyC; rw [if_neg ho]
            have hh := Lib.hid (HB7.out.trans (hh.out.mono HB7.out.size))
            go_wp2_with fail
            go_roundw
            case rel => exact ⟨k + 1, by omega, by go_num, HRQ.out.symm, hh⟩
            case measure => simp [intOf]; omega
        · have HBK : Hid (rb = .ok ()) := by show _ = _; rw [← HK.out, each_end (by have := HM.out; omega)]
          have HC9 : Hid (checkC t = nd t.pos (mainB X) 8 (.ok X)) := by show _ = _; rw [HC.out, HTK.out, HBK.out]; rfl
          go_wp2_with fail
          refine (cmain_any (cI E X sA gA fA sc gc fc) _ (IM3.out.below HB7.out)).mono ?_
          rintro e w9 ⟨hb, he⟩
          have he : e = (if mainB X then .returned (.tuple #[]) else cfE 0 8) := he
          cases hmb : mainB X with
          | false =>
            rw [hmb] at he
            obtain rfl := he
            exact ⟨rfl, onB BWb.out HB7.out hb, by rw [HC9.out, hmb]; show cfE 0 8 = cfE (E.pl t.pos) _; rw [hroot]; rfl⟩
          | true =>
            rw [hmb] at he
            obtain rfl := he
            have s0r := keepC HB7.out s0r vl hb
            have s1r := keepC HB7.out s1r vl hb
            have s2r := keepC HB7.out s2r vl hb
            have b9 := H3.out.trans ((HB7.out.trans (hb.mono HB7.out.size)).mono H3.out.size)
            have r0 := keepC (Below.refl _ _) r0 rl b9
            have r1 := keepC (Below.refl _ _) r1 rl b9
            have r2 := keepC (Below.refl _ _) r2 rl b9
            have q0 := (b9.frozen (p := ⟨w.heap.size + 1, 0, none⟩) rl).trans (z0 0)
            have q1 := (b9.frozen (p := ⟨w.heap.size + 1, 1, none⟩) rl).trans (z0 1)
            have q2 := (b9.frozen (p := ⟨w.heap.size + 1, 2, none⟩) rl).trans (z0 2)
            have HD9 := Lib.hid (((HD2.out.below BV.out).below HB7.out).below hb)
            have BF : Hid (Below w.heap.size w (((w9.setCell ⟨w.heap.size + 1, 0, none⟩ (.slice sA X.structs.length sc)).setCell ⟨w.heap.size + 1, 1, none⟩ (.slice gA X.globals.length gc)).setCell ⟨w.heap.size + 1, 2, none⟩ (.slice fA X.funs.length fc))) := (((onB BWb.out HB7.out hb).setCell (p := ⟨w.heap.size + 1, 0, none⟩) (Nat.le_succ _) _).setCell (p := ⟨w.heap.size + 1, 1, none⟩) (Nat.le_succ _) _).setCell (p := ⟨w.heap.size + 1, 2, none⟩) (Nat.le_succ _) _
            clear b9 hb
            go_wp2_with fail
            refine bodyPost_ret (v := .agg #[.slice sA X.structs.length sc, .slice gA X.globals.length gc, .slice fA X.funs.length fc]) (by simp [results, Tryz.results78, go_sem, r0, r1, r2]) rfl ?_
            refine ⟨BF.out, ?_⟩
            rw [HC9.out, hmb]
            have low : ∀ y, some (w.heap.size + 1) = some y → y < wa.heap.size + 3 := fun y e => by have := Option.some.inj e; omega
            have hDf := (((HD9.out.keep (kb_set w9 ⟨w.heap.size + 1, 0, none⟩ (.slice sA X.structs.length sc)) low).keep (kb_set _ ⟨w.heap.size + 1, 1, none⟩ (.slice gA X.globals.length gc)) low).keep (kb_set _ ⟨w.heap.size + 1, 2, none⟩ (.slice fA X.funs.length fc)) low)
            exact ⟨cI E X sA gA fA sc gc fc, rfl, rfl, ⟨HG.out.below BF.out, by show X.structs.length ≤ _; omega, by show X.globals.length ≤ _; omega, by show X.funs.length ≤ _; omega, wa.heap.size + 3, vs, us, by omega, hDf⟩⟩

end Go.Proofs.YtkahbhfbgdbnfaaGreatDoor
