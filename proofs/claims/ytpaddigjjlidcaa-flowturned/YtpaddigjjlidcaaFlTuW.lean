/-
  WALK: FlowTurned answers true at every function and place, given what the program's functions answer. Of what was there nothing has turned.
-/
import Derived.Test.YtpaddigjjlidcaaFlTu
namespace Go.Proofs.Ytpaddigjjlidcaa
open Go.RowKit

set_option maxRecDepth 100000 in
set_option maxHeartbeats 4000000 in
theorem flowTurned_true (C : FlC) (E : FE) (n : Int) (w : World) (hM : FM E w) (hn : I64 n) :
    Calls Try.prog 6 #[E.v, .int .i64 n] w fun e w' => e = .returned (.bool true) ∧ Below w.heap.size w w' := by
  have HN := Lib.hid hn
  have HC := Lib.hid C
  have HB := Lib.hid (below_alloc w (.cells E.row 26))
  have HM := Lib.hid (hM.drop HB.out)
  obtain ⟨m, hm⟩ : ∃ m, E.f.blocks.length = m := ⟨_, rfl⟩
  have HMB := Lib.hid hm
  have f0 : (w.alloc (.cells E.row 26)).cell? ⟨w.heap.size, 0, none⟩ = some (.string E.f.name) := cell_new w E.row 26 0
  have f1 : (w.alloc (.cells E.row 26)).cell? ⟨w.heap.size, 1, none⟩ = some (.slice E.pA E.f.params.length E.pc) := cell_new w E.row 26 1
  have f2 : (w.alloc (.cells E.row 26)).cell? ⟨w.heap.size, 2, none⟩ = some (.string E.f.res) := cell_new w E.row 26 2
  have f3 : (w.alloc (.cells E.row 26)).cell? ⟨w.heap.size, 3, none⟩ = some (.slice E.sA E.f.slots.length E.sc) := cell_new w E.row 26 3
  have f4 : (w.alloc (.cells E.row 26)).cell? ⟨w.heap.size, 4, none⟩ = some (.slice E.iA E.f.ins.length E.ic) := cell_new w E.row 26 4
  have f5 : (w.alloc (.cells E.row 26)).cell? ⟨w.heap.size, 5, none⟩ = some (.slice E.bA E.f.blocks.length E.bc) := cell_new w E.row 26 5
  rw [hm] at f5
  have hEv : E.v = .agg #[.string E.f.name, .slice E.pA E.f.params.length E.pc, .string E.f.res, .slice E.sA E.f.slots.length E.sc, .slice E.iA E.f.ins.length E.ic, .slice E.bA m E.bc] := by rw [← hm]; rfl
  clear hM C hm
  go_enter Try.func6, Try.ntmps6
  have hEr : E.row = #[.string E.f.name, .slice E.pA E.f.params.length E.pc, .string E.f.res, .slice E.sA E.f.slots.length E.sc, .slice E.iA E.f.ins.length E.ic, .slice E.bA m E.bc] := by rw [← HMB.out]; rfl
  rw [hEr] at HB HM f0 f1 f2 f3 f4 f5
  clear hEr
  go_wp2_with fail
  generalize w.alloc (.cells #[.string E.f.name, .slice E.pA E.f.params.length E.pc, .string E.f.res, .slice E.sA E.f.slots.length E.sc, .slice E.iA E.f.ins.length E.ic, .slice E.bA m E.bc] 26) = w1 at *
  refine (HC.out.awake w1).mono ?_
  rintro e w2 ⟨rfl, b2⟩
  replace f0 := keepB f0 b2
  replace f1 := keepB f1 b2
  replace f2 := keepB f2 b2
  replace f3 := keepB f3 b2
  replace f4 := keepB f4 b2
  replace f5 := keepB f5 b2
  replace HB := Lib.hid (HB.out.trans (b2.mono HB.out.size))
  replace HM := Lib.hid (HM.out.drop b2)
  clear b2
  go_wp2_with fail
  rw [← hEv]
  obtain ⟨gr0, hgr⟩ : ∃ b, wideB E.f = b := ⟨_, rfl⟩
  refine (lawWide_any E gr0 w2 HM.out (Lib.hid hgr)).mono ?_
  rintro e w3 ⟨rfl, b3⟩
  replace f0 := keepB f0 b3
  replace f1 := keepB f1 b3
  replace f2 := keepB f2 b3
  replace f3 := keepB f3 b3
  replace f4 := keepB f4 b3
  replace f5 := keepB f5 b3
  replace HB := Lib.hid (HB.out.trans (b3.mono HB.out.size))
  replace HM := Lib.hid (HM.out.drop b3)
  clear b3
  cases gr0 with
  | true =>
    go_wp2_with fail
    go_ret
    exact ⟨rfl, HB.out⟩
  | false =>
  have HW := Lib.hid hgr
  have hm60 : m ≤ 60 := by have := (wide_le hgr).2.1; rwa [HMB.out] at this
  have HM60 := Lib.hid hm60
  clear hgr
  by_cases hz : m = 0
  · have hz' : ((m : Int) == 0) = true := by simp; omega
    go_wp2_with fail
    go_ret
    exact ⟨rfl, HB.out⟩
  have hz' : ((m : Int) == 0) = false := by simp; omega
  have hm0 : 0 < m := by omega
  clear hz
  go_wp2_with fail
  rw [← hEv]
  refine (HC.out.ahead E w3 HM.out HW.out).mono ?_
  rintro e w4 ⟨aA, ak, rfl, hak, haS, b4⟩
  have hlA : (ahL E.f.blocks).length = m := by unfold ahL; rw [List.length_map, List.length_range, HMB.out]
  rw [hlA] at hak ⊢
  replace f0 := keepB f0 b4
  replace f1 := keepB f1 b4
  replace f2 := keepB f2 b4
  replace f3 := keepB f3 b4
  replace f4 := keepB f4 b4
  replace f5 := keepB f5 b4
  replace HB := Lib.hid (HB.out.trans (b4.mono HB.out.size))
  replace HM := Lib.hid (HM.out.drop b4)
  have HAS := Lib.hid haS
  have HLA := Lib.hid hlA
  clear b4 haS hlA
  go_upto_region 7 with (fail)
  obtain ⟨k, hk, hkm⟩ := turn_k n m hm0 (by omega)
  rw [hkm]
  clear hkm
  obtain ⟨bg, bo, hbA⟩ := HM.out.B.some (by have := HMB.out; omega)
  have hBS := HM.out.B
  rw [hbA] at hBS f5 ⊢
  have HBS := Lib.hid hBS
  have HCE := Lib.hid (blk_cells hBS HMB.out)
  have F4 := Lib.hid f4
  have F5 := Lib.hid f5
  have HF := Lib.hid (And.intro f0 (And.intro f1 (And.intro f2 f3)))
  clear f0 f1 f2 f3 f4 f5 hBS
  go_cut [7] from 36 to 42 (fun s wd => ∃ vb gb cap, s = .pointer (some ⟨vb, 0, none⟩) ∧ TF w4 wd m (blkCells w4 bg bo m) (.slice E.iA E.f.ins.length E.ic) vb gb cap)
  case first =>
    refine rgS (fun w' => Below w4.heap.size w4 w') (by kernel_rfl) ((Below.refl _ _).drew) (fun _ a d v _ h => And.intro ((put_df a d v).symm.trans (And.left h)) (And.right h)) fun hHeld hq => ?_
    refine tkS 0 { dst := some 36, op := .fieldAddr 26 (.tmp 2) 4, type := 0, pos := "own.go:64", after := #[], guard := none } (v := ?y0v) hq hHeld rfl (by kernel_rfl) ?y0 ?_
    case y0 => (intro w h; clear h; go_simp <;> with_reducible rfl)
    try simp only [Act.put, List.setIfInBounds_toArray, List.set_cons_zero, List.set_cons_succ]
    refine tkS 1 { dst := some 37, op := .load 23 (.tmp 36), type := 23, pos := "own.go:64", after := #[{ on := 0, ground := .data }], guard := none } (v := ?y1v) hq hHeld rfl (by kernel_rfl) ?y1 ?_
    case y1 => (intro w h; have f4 := keepB F4.out h; clear h; go_simp <;> with_reducible rfl)
    try simp only [Act.put, List.setIfInBounds_toArray, List.set_cons_zero, List.set_cons_succ]
    refine tkS 3 { dst := some 39, op := .fieldAddr 26 (.tmp 2) 5, type := 0, pos := "own.go:64", after := #[], guard := none } (v := ?y3v) hq hHeld rfl (by kernel_rfl) ?y3 ?_
    case y3 => (intro w h; clear h; go_simp <;> with_reducible rfl)
    try simp only [Act.put, List.setIfInBounds_toArray, List.set_cons_zero, List.set_cons_succ]
    refine tkS 4 { dst := some 40, op := .load 24 (.tmp 39), type := 24, pos := "own.go:64", after := #[{ on := 3, ground := .data }], guard := none } (v := ?y4v) hq hHeld rfl (by kernel_rfl) ?y4 ?_
    case y4 => (intro w h; have f5 := keepB F5.out h; clear h; go_simp <;> with_reducible rfl)
    try simp only [Act.put, List.setIfInBounds_toArray, List.set_cons_zero, List.set_cons_succ]
    have hsd : w4.drew.heap.size = w4.heap.size := rfl
    refine wpAnyH_ready (rs := [2, 7]) (by kernel_rfl) (by simp) (AllReadyH.cons (i := 2) rfl (fun K2 hK => ?_) (AllReadyH.cons (i := 7) rfl (fun K2 hK => ?_) AllReadyH.nil))
    · rw [if_pos (by kernel_rfl)]
      go_simp
      refine hK.out _ _ (hHeld.alloc hHeld.size _) fun hH2 => ?_
      clear hK K2
      try simp only [Act.put, List.setIfInBounds_toArray, List.set_cons_zero, List.set_cons_succ]
      refine wpAnyH_ready (rs := [5, 7]) (by kernel_rfl) (by simp) (AllReadyH.cons (i := 5) rfl (fun K2 hK => ?_) (AllReadyH.cons (i := 7) rfl (fun K2 hK => ?_) AllReadyH.nil))
      · rw [if_pos (by kernel_rfl)]
        clear hHeld
        refine wp_app_blk (.tmp 38) (.tmp 40) rfl w4 _ w4.heap.size _ rfl (World.ownsRow_made w4.drew #[] 0 (Nat.le_refl _) (Nat.zero_le _) rfl) bg bo m E.bc rfl HCE.out hH2 hm0 (by omega) hH2.size ?_
        intro gb cap w' hown hS hat
        have hlo : ∀ i, Ow (.slice (some ⟨w4.heap.size, 0, none⟩) 0 0) i → w4.heap.size ≤ i := fun i hi => by
          have e : some w4.heap.size = some i := hi
          have := Option.some.inj e; omega
        refine hK.out _ _ (hH2.trans (hS.below hlo hH2.size)) fun hHeld => ?_
        clear hK K2
        try simp only [Act.put, List.setIfInBounds_toArray, List.set_cons_zero, List.set_cons_succ]
        refine tkS 6 { dst := some 42, op := .build 26 #[(4, .tmp 37), (5, .tmp 41)], type := 26, pos := "own.go:64", after := #[{ on := 1, ground := .data }, { on := 5, ground := .data }], guard := none } (v := ?y6va) hq hHeld rfl (by kernel_rfl) ?y6a ?_
        case y6a => (intro w h; clear h; go_simp <;> with_reducible rfl)
        try simp only [Act.put, List.setIfInBounds_toArray, List.set_cons_zero, List.set_cons_succ]
        refine clS 7 { dst := some 7, op := .alloc 26, type := 0, pos := "own.go:64", after := #[], guard := none } rfl (by kernel_rfl) (by kernel_rfl) fun K3 hK => ?_
        go_simp
        refine hK.out _ _ (hHeld.alloc hHeld.size _) fun hH5 => ?_
        clear hK K3
        try simp only [Act.put, List.setIfInBounds_toArray, List.set_cons_zero, List.set_cons_succ]
        refine clS 8 { dst := none, op := .store 26 (.tmp 7) (.tmp 42), type := 0, pos := "own.go:64", after := #[{ on := 7, ground := .data }, { on := 6, ground := .data }, { on := 5, ground := .chain }, { on := 0, ground := .phase }, { on := 1, ground := .phase }, { on := 2, ground := .phase }, { on := 3, ground := .phase }, { on := 4, ground := .phase }, { on := 5, ground := .phase }, { on := 6, ground := .phase }, { on := 7, ground := .phase }], guard := none } rfl (by kernel_rfl) (by kernel_rfl) fun K3 hK => ?_
        have ht := tf_of (ic := .slice E.iA E.f.ins.length E.ic) hH5 (heap_alloc_last _ _) (own_below hown (below_alloc _ _)) hHeld.size (fun e => by have := (hown.lt gb rfl).2; omega)
        refine wp_store_row 26 (.tmp 7) (.tmp 42) rfl w'.heap.size _ rfl rfl 26 funZ (heap_alloc_last _ _) (by kernel_rfl) rfl (by simp [Value.oneCell']) ?_
        refine hK.out _ _ ht.bel fun hH6 => ?_
        refine wpAnyH_done (by kernel_rfl) ?_ _
        go_wp2_with fail
        go_meet
        case rel => exact ⟨w'.heap.size, gb, cap, rfl, ht⟩
      · rw [if_pos (by kernel_rfl)]
        go_simp
        refine hK.out _ _ (hH2.alloc hH2.size _) fun hH3 => ?_
        clear hK K2 hHeld
        try simp only [Act.put, List.setIfInBounds_toArray, List.set_cons_zero, List.set_cons_succ]
        have hv0 : ((w4.drew.alloc (.cells #[] 40)).alloc (.cells funZ 26)).heap[w4.heap.size + 1]? = some (.cells funZ 26 (0, 0)) := by
          have h := heap_alloc_last (w4.drew.alloc (.cells #[] 40)) (.cells funZ 26)
          rwa [show (w4.drew.alloc (.cells #[] 40)).heap.size = w4.heap.size + 1 by rw [← hsd]; simp] at h
        have hs0 : ((w4.drew.alloc (.cells #[] 40)).alloc (.cells funZ 26)).heap.size = w4.heap.size + 2 := by rw [← hsd]; simp
        refine clS 5 { dst := some 41, op := .call { callee := .builtin .append, args := #[.tmp 38, .tmp 40], argTypes := #[24, 24] }, type := 24, pos := "own.go:64", after := #[{ on := 2, ground := .data }, { on := 4, ground := .data }], guard := none } rfl (by kernel_rfl) (by kernel_rfl) fun K2 hK => ?_
        refine wp_app_blk (.tmp 38) (.tmp 40) rfl w4 _ w4.heap.size _ rfl ((World.ownsRow_made w4.drew #[] 0 (Nat.le_refl _) (Nat.zero_le _) rfl).alloc _) bg bo m E.bc rfl HCE.out hH3 hm0 (by omega) hH3.size ?_
        intro gb cap w' hown hS hat
        have hlo : ∀ i, Ow (.slice (some ⟨w4.heap.size, 0, none⟩) 0 0) i → w4.heap.size ≤ i := fun i hi => by
          have e : some w4.heap.size = some i := hi
          have := Option.some.inj e; omega
        refine hK.out _ _ (hH3.trans (hS.below hlo hH3.size)) fun hHeld => ?_
        clear hK K2
        try simp only [Act.put, List.setIfInBounds_toArray, List.set_cons_zero, List.set_cons_succ]
        refine tkS 6 { dst := some 42, op := .build 26 #[(4, .tmp 37), (5, .tmp 41)], type := 26, pos := "own.go:64", after := #[{ on := 1, ground := .data }, { on := 5, ground := .data }], guard := none } (v := ?y6vb) hq hHeld rfl (by kernel_rfl) ?y6b ?_
        case y6b => (intro w h; clear h; go_simp <;> with_reducible rfl)
        try simp only [Act.put, List.setIfInBounds_toArray, List.set_cons_zero, List.set_cons_succ]
        have hv1 : w'.heap[w4.heap.size + 1]? = some (.cells funZ 26 (0, 0)) := (hS.block _ (by show _ < ((w4.drew.alloc (.cells #[] 40)).alloc (.cells funZ 26)).heap.size; omega) (fun h => by
          have e : some w4.heap.size = some (w4.heap.size + 1) := h
          have := Option.some.inj e; omega)).trans hv0
        refine clS 8 { dst := none, op := .store 26 (.tmp 7) (.tmp 42), type := 0, pos := "own.go:64", after := #[{ on := 7, ground := .data }, { on := 6, ground := .data }, { on := 5, ground := .chain }, { on := 0, ground := .phase }, { on := 1, ground := .phase }, { on := 2, ground := .phase }, { on := 3, ground := .phase }, { on := 4, ground := .phase }, { on := 5, ground := .phase }, { on := 6, ground := .phase }, { on := 7, ground := .phase }], guard := none } rfl (by kernel_rfl) (by kernel_rfl) fun K3 hK => ?_
        have ht := tf_of (ic := .slice E.iA E.f.ins.length E.ic) hHeld hv1 hown (by omega) (fun e => by rcases hat with h | h; (have e2 : some w4.heap.size = some gb := h; have := Option.some.inj e2; omega); (have h2 : gb = ((w4.drew.alloc (.cells #[] 40)).alloc (.cells funZ 26)).heap.size := h; omega))
        refine wp_store_row 26 (.tmp 7) (.tmp 42) rfl (w4.heap.size + 1) _ rfl rfl 26 funZ hv1 (by kernel_rfl) rfl (by simp [Value.oneCell']) ?_
        refine hK.out _ _ ht.bel fun hH6 => ?_
        refine wpAnyH_done (by kernel_rfl) ?_ _
        go_wp2_with fail
        go_meet
        case rel => exact ⟨(w4.heap.size + 1), gb, cap, rfl, ht⟩
    · rw [if_pos (by kernel_rfl)]
      go_simp
      refine hK.out _ _ (hHeld.alloc hHeld.size _) fun hH2 => ?_
      clear hK K2 hHeld
      try simp only [Act.put, List.setIfInBounds_toArray, List.set_cons_zero, List.set_cons_succ]
      refine clS 2 { dst := some 38, op := .buildSlice 24 0 #[], type := 24, pos := "own.go:64", after := #[], guard := none } rfl (by kernel_rfl) (by kernel_rfl) fun K2 hK => ?_
      go_simp
      refine hK.out _ _ (hH2.alloc hH2.size _) fun hH3 => ?_
      clear hK K2
      try simp only [Act.put, List.setIfInBounds_toArray, List.set_cons_zero, List.set_cons_succ]
      have hv0 : ((w4.drew.alloc (.cells funZ 26)).alloc (.cells #[] 40)).heap[w4.heap.size]? = some (.cells funZ 26 (0, 0)) := ((below_alloc _ _).block _ (by rw [← hsd]; simp)).trans (heap_alloc_last w4.drew _)
      have hs0 : ((w4.drew.alloc (.cells funZ 26)).alloc (.cells #[] 40)).heap.size = w4.heap.size + 2 := by rw [← hsd]; simp
      have hOB : ((w4.alloc (.cells funZ 26)).alloc (.cells #[] 40)).ownsRow w4.heap.size 40 5 (.slice (some ⟨w4.heap.size + 1, 0, none⟩) 0 0) 0 [] := by
        have h := World.ownsRow_made (base := w4.heap.size) (e := 40) (size := 5) (w4.alloc (.cells funZ 26)) #[] 0 (by simp) (Nat.zero_le _) rfl
        rwa [show (w4.alloc (.cells funZ 26)).heap.size = w4.heap.size + 1 by simp] at h
      refine clS 5 { dst := some 41, op := .call { callee := .builtin .append, args := #[.tmp 38, .tmp 40], argTypes := #[24, 24] }, type := 24, pos := "own.go:64", after := #[{ on := 2, ground := .data }, { on := 4, ground := .data }], guard := none } rfl (by kernel_rfl) (by kernel_rfl) fun K2 hK => ?_
      refine wp_app_blk (.tmp 38) (.tmp 40) rfl w4 _ w4.heap.size _ rfl hOB bg bo m E.bc rfl HCE.out hH3 hm0 (by omega) hH3.size ?_
      intro gb cap w' hown hS hat
      have hlo : ∀ i, Ow (.slice (some ⟨(w4.heap.size + 1), 0, none⟩) 0 0) i → w4.heap.size ≤ i := fun i hi => by
        have e : some (w4.heap.size + 1) = some i := hi
        have := Option.some.inj e; omega
      refine hK.out _ _ (hH3.trans (hS.below hlo hH3.size)) fun hHeld => ?_
      clear hK K2
      try simp only [Act.put, List.setIfInBounds_toArray, List.set_cons_zero, List.set_cons_succ]
      refine tkS 6 { dst := some 42, op := .build 26 #[(4, .tmp 37), (5, .tmp 41)], type := 26, pos := "own.go:64", after := #[{ on := 1, ground := .data }, { on := 5, ground := .data }], guard := none } (v := ?y6vc) hq hHeld rfl (by kernel_rfl) ?y6c ?_
      case y6c => (intro w h; clear h; go_simp <;> with_reducible rfl)
      try simp only [Act.put, List.setIfInBounds_toArray, List.set_cons_zero, List.set_cons_succ]
      have hv1 : w'.heap[w4.heap.size]? = some (.cells funZ 26 (0, 0)) := (hS.block _ (by show _ < ((w4.drew.alloc (.cells funZ 26)).alloc (.cells #[] 40)).heap.size; omega) (fun h => by
        have e : some (w4.heap.size + 1) = some w4.heap.size := h
        have := Option.some.inj e; omega)).trans hv0
      refine clS 8 { dst := none, op := .store 26 (.tmp 7) (.tmp 42), type := 0, pos := "own.go:64", after := #[{ on := 7, ground := .data }, { on := 6, ground := .data }, { on := 5, ground := .chain }, { on := 0, ground := .phase }, { on := 1, ground := .phase }, { on := 2, ground := .phase }, { on := 3, ground := .phase }, { on := 4, ground := .phase }, { on := 5, ground := .phase }, { on := 6, ground := .phase }, { on := 7, ground := .phase }], guard := none } rfl (by kernel_rfl) (by kernel_rfl) fun K3 hK => ?_
      have ht := tf_of (ic := .slice E.iA E.f.ins.length E.ic) hHeld hv1 hown (Nat.le_refl _) (fun e => by rcases hat with h | h; (have e2 : some (w4.heap.size + 1) = some gb := h; have := Option.some.inj e2; omega); (have h2 : gb = ((w4.drew.alloc (.cells funZ 26)).alloc (.cells #[] 40)).heap.size := h; omega))
      refine wp_store_row 26 (.tmp 7) (.tmp 42) rfl w4.heap.size _ rfl rfl 26 funZ hv1 (by kernel_rfl) rfl (by simp [Value.oneCell']) ?_
      refine hK.out _ _ ht.bel fun hH6 => ?_
      refine wpAnyH_done (by kernel_rfl) ?_ _
      go_wp2_with fail
      go_meet
      case rel => exact ⟨w4.heap.size, gb, cap, rfl, ht⟩
  case rest =>
    obtain ⟨vb, gb, cap, rfl, hT⟩ := hcut
    obtain ⟨x, hx⟩ : ∃ x, E.f.blocks[k]? = some x := ⟨_, List.getElem?_eq_getElem (by have := HMB.out; omega)⟩
    have v5 := (cell_of_row wc vb 5 _ _ _ hT.var).trans rfl
    obtain ⟨ou, hou, -⟩ := HCE.out (k * 5 + 1) (by omega)
    have z1 : wc.cell? ⟨gb, k * 5 + 1, none⟩ = some ou := by
      rw [World.ownsRow.cellAt hT.row (k * 5 + 1) (by omega)]
      exact blkCells_get (by omega) hou
    have hfz := hT.row.frozenAt (k * 5 + 1)
    have hcap : m ≤ cap := by
      rcases hT.row.2 with ⟨h, -⟩ | ⟨g', cap', cur, h, -, -, h2, -⟩
      · cases h
      · injection h with _ _ e
        omega
    have HT := Lib.hid hT
    have HX := Lib.hid hx
    clear hT hx hou
    go_upto_region 9 with (fail)
    have B8 := Lib.hid (HT.out.bel.setCell (p := ⟨gb, k * 5 + 1, none⟩) HT.out.glo (.int .i64 3))
    have hS8 := (Sv.refl (fun q => q = gb) wc).setCell (p := ⟨gb, k * 5 + 1, none⟩) (.inl rfl) (.int .i64 3)
    have hV8 := (hS8.block vb (Array.getElem?_eq_some_iff.1 HT.out.var).1 HT.out.ne).trans HT.out.var
    have hG8 : SL 5 blkR (wc.setCell ⟨gb, k * 5 + 1, none⟩ (.int .i64 3)) (some ⟨gb, 0, none⟩) (E.f.blocks.set k (turnB x)) := blk_turned HBS.out HMB.out HX.out HT.out.bel HT.out.glo HT.out.row
    clear v5 z1 hfz hS8
    generalize wc.setCell ⟨gb, k * 5 + 1, none⟩ (.int .i64 3) = w8 at *
    obtain ⟨G, hGe⟩ : ∃ G : FE, G = ⟨⟨⟨#[]⟩, [], ⟨#[]⟩, [], E.f.ins, E.f.blocks.set k (turnB x)⟩, none, 0, none, 0, E.iA, E.ic, some ⟨gb, 0, none⟩, cap⟩ := ⟨_, rfl⟩
    have hlG : (E.f.blocks.set k (turnB x)).length = m := by rw [List.length_set]; exact HMB.out
    have hGv : (G.v = .agg #[.string ⟨#[]⟩, .slice none 0 0, .string ⟨#[]⟩, .slice none 0 0, .slice E.iA E.f.ins.length E.ic, .slice (some ⟨gb, 0, none⟩) m cap]) := by
      rw [hGe, ← hlG]; rfl
    have HGb : Hid (G.f.blocks = E.f.blocks.set k (turnB x)) := by show _ = _; rw [hGe]
    have HMG : Hid (FM G w8) := by
      show FM G w8
      have h := HM.out.below B8.out (Nat.le_refl _)
      have hmB := HMB.out
      rw [hGe]
      exact ⟨sl_nil, sl_nil, h.I, hG8, Nat.zero_le _, Nat.zero_le _, h.il, by show (E.f.blocks.set k (turnB x)).length ≤ _; rw [hlG]; omega, Nat.le_refl _, Nat.le_refl _, h.ile, by show (E.f.blocks.set k (turnB x)).length ≤ cap; rw [hlG]; exact hcap, Nat.zero_le _, Nat.zero_le _⟩
    have CB : Hid (_ ∧ _ ∧ _ ∧ _ ∧ _ ∧ _) := ⟨keepB HF.out.1 B8.out, keepB HF.out.2.1 B8.out, keepB HF.out.2.2.1 B8.out, keepB HF.out.2.2.2 B8.out, keepB F4.out B8.out, keepB F5.out B8.out⟩
    have CV : Hid (_ ∧ _ ∧ _ ∧ _ ∧ _ ∧ _) := ⟨(cell_of_row w8 vb 0 _ _ _ hV8).trans rfl, (cell_of_row w8 vb 1 _ _ _ hV8).trans rfl, (cell_of_row w8 vb 2 _ _ _ hV8).trans rfl, (cell_of_row w8 vb 3 _ _ _ hV8).trans rfl, (cell_of_row w8 vb 4 _ _ _ hV8).trans rfl, (cell_of_row w8 vb 5 _ _ _ hV8).trans rfl⟩
    have HA8 := Lib.hid (HAS.out.drop (kp_slC kp_int) B8.out)
    have HM8 := Lib.hid (HM.out.drop B8.out)
    have HB8 := Lib.hid (HB.out.trans (B8.out.mono HB.out.size))
    have hEv2 : E.v = .agg #[.string E.f.name, .slice E.pA E.f.params.length E.pc, .string E.f.res, .slice E.sA E.f.slots.length E.sc, .slice E.iA E.f.ins.length E.ic, .slice (some ⟨bg, bo, none⟩) m E.bc] := by rw [hEv, hbA]
    have hsa : 0 < (ahL E.f.blocks).length := by rw [HLA.out]; exact hm0
    obtain ⟨ag, ao, rfl⟩ := HAS.out.some hsa
    have hcon : Hid (n = n) := rfl
    clear hG8 hV8 hlG hGe hEv hbA hsa HF F4 F5 HT HCE HBS hcon HAS
    go_wp2_with fail
    go_loopw [8] (fun iv wr => ∃ i : Nat, i ≤ m ∧ iv = .int .i64 i ∧ Below w8.heap.size w8 wr) (fun iv _ => m - (intOf iv).toNat)
    case atStart => exact ⟨0, Nat.zero_le _, rfl, Below.refl _ _⟩
    case round =>
      obtain ⟨i, hi, rfl, hb⟩ := hrel
      have HBI := Lib.hid hb
      have HMI := Lib.hid (HM8.out.drop hb)
      have f0 := keepB CB.out.1 hb
      have f1 := keepB CB.out.2.1 hb
      have f2 := keepB CB.out.2.2.1 hb
      have f3 := keepB CB.out.2.2.2.1 hb
      have f4 := keepB CB.out.2.2.2.2.1 hb
      have f5 := keepB CB.out.2.2.2.2.2 hb
      by_cases hlt : i < m
      · clear hb
        go_wp2_with fail
        rw [← hEv2]
        refine (next_any E i wr HMI.out ⟨by omega, by omega⟩).mono ?_
        rintro e w9 ⟨tv, rfl, hO9, b9⟩
        obtain ⟨l, hl⟩ : ∃ l, nextL E.f.blocks i = l := ⟨_, rfl⟩
        have HL := Lib.hid hl
        have HND : Hid l.Nodup := by show l.Nodup; rw [← hl]; exact next_nodup _ _
        have HIN : Hid (∀ x ∈ l, 0 ≤ x ∧ x < m) := by show ∀ x ∈ l, 0 ≤ x ∧ x < m; rw [← hl, ← HMB.out]; exact fun x hx => next_in hx
        obtain ⟨tA, tc, rfl, htc, hS9⟩ := hO9.sl (next_i64 (by have := HM.out.bl; omega))
        obtain ⟨ln, hln⟩ : ∃ n, l.length = n := ⟨_, rfl⟩
        have hln2 : ln ≤ 2 := by rw [← hln, ← hl]; exact next_two _ _
        rw [hl] at htc hS9 ⊢
        rw [hln] at htc ⊢
        have HLN := Lib.hid hln
        have HS9 := Lib.hid hS9
        have HB9 := Lib.hid (HBI.out.trans (b9.mono HBI.out.size))
        have HC0 : Hid (cntTo l 0 = 0) := rfl
        clear hO9 b9 hl hln hS9 f0 f1 f2 f3 f4 f5 HMI
        go_wp2_with fail
        go_loopw [10, 11] (fun nv xv wr => ∃ x : Nat, x ≤ m ∧ xv = .int .i64 x ∧ nv = .int .i64 (cntTo l x) ∧ Below w9.heap.size w9 wr) (fun _ xv _ => m - (intOf xv).toNat)
        case atStart => exact ⟨0, Nat.zero_le _, rfl, by rw [HC0.out]; rfl, Below.refl _ _⟩
        case round =>
          obtain ⟨x', hx', rfl, rfl, hb2⟩ := hrel
          have HB2 := Lib.hid hb2
          have W89 := Lib.hid (HB9.out.trans (hb2.mono HB9.out.size))
          have f5 := keepB CB.out.2.2.2.2.2 W89.out
          have hcle := cnt_le l x'
          obtain ⟨cn, hcn⟩ : ∃ c, cntTo l x' = c := ⟨_, rfl⟩
          have HCN := Lib.hid hcn
          rw [hcn] at hcle ⊢
          by_cases hlx : x' < m
          · have hax : (ahL E.f.blocks)[x']? = some (aheadL E.f.blocks x') := by
              unfold ahL
              rw [List.getElem?_map, List.getElem?_range (by rw [HMB.out]; exact hlx)]; rfl
            obtain ⟨cs, ⟨v, rfl, xA, xc, rfl, hxc, hxl, hxS⟩, h0⟩ := (HA8.out.drop (kp_slC kp_int) W89.out).at hax
            have a0 := h0 0 _ rfl
            simp only [Nat.mul_one, Nat.add_zero] at a0
            obtain ⟨la, hla⟩ : ∃ n, (aheadL E.f.blocks x').length = n := ⟨_, rfl⟩
            rw [hla] at a0 hxc hxl
            have HLAX := Lib.hid hla
            have HXS := Lib.hid hxS
            have HT9 := Lib.hid (HS9.out.drop kp_int hb2)
            have hak2 : m ≤ ak := hak
            clear h0 hax hla hxS hcn hb2
            go_wp2_with fail
            go_loopw [12, 13] (fun av qv wq => ∃ q : Nat, q ≤ la ∧ qv = .int .i64 q ∧ av = .bool (hasJ ((aheadL E.f.blocks x').take q) i) ∧ Sm wr wq) (fun _ qv _ => la - (intOf qv).toNat)
            case atStart => exact ⟨0, Nat.zero_le _, rfl, rfl, (rfl : Sm _ _)⟩
            case round =>
              obtain ⟨q, hq, rfl, rfl, rfl⟩ := hrel
              by_cases hlq : q < la
              · obtain ⟨y, hy⟩ : ∃ y, (aheadL E.f.blocks x')[q]? = some y := ⟨_, List.getElem?_eq_getElem (by have := HLAX.out; omega)⟩
                obtain ⟨yg, yo, rfl⟩ := HXS.out.some (by have := HLAX.out; omega)
                obtain ⟨cs, ⟨rfl, -⟩, hz⟩ := HXS.out.at hy
                have z1 := hz 0 _ rfl
                simp only [Nat.mul_one, Nat.add_zero] at z1
                have HUP := Lib.hid (hasJ_up (n := (i : Int)) hy)
                obtain ⟨q0, hq0⟩ : ∃ b, hasJ ((aheadL E.f.blocks x').take q) i = b := ⟨_, rfl⟩
                have HQ := Lib.hid hq0
                rw [hq0]
                clear hz hy hq0
                cases q0 with
                | true =>
                  have HV : Hid (hasJ ((aheadL E.f.blocks x').take (q + 1)) i = true) := by show _ = _; rw [HUP.out, HQ.out, Bool.true_or]
                  go_wp2_with fail
                  go_roundw
                  case rel => exact ⟨q + 1, by omega, by go_num, by rw [HV.out], (rfl : Sm _ _)⟩
                  case measure => simp [intOf] <;> omega
                | false =>
                  have HV : Hid (hasJ ((aheadL E.f.blocks x').take (q + 1)) i = (y == (i : Int))) := by show _ = _; rw [HUP.out, HQ.out, Bool.false_or]
                  go_wp2_with fail
                  go_roundw
                  case rel => exact ⟨q + 1, by omega, by go_num, by rw [HV.out], (rfl : Sm _ _)⟩
                  case measure => simp [intOf] <;> omega
              · have hqa : hasJ ((aheadL E.f.blocks x').take q) i = hasJ l x' := by
                  rw [List.take_of_length_le (by have := HLAX.out; omega), ahead_turn (by rw [HMB.out]; exact hlt), HL.out]
                rw [hqa]
                obtain ⟨qa, hqb⟩ : ∃ b, hasJ l x' = b := ⟨_, rfl⟩
                rw [hqb]
                have HQA := Lib.hid hqb
                clear hqa hqb
                go_wp2_with fail
                go_loopw [14, 15] (fun av qv wq => ∃ q : Nat, q ≤ ln ∧ qv = .int .i64 q ∧ av = .bool (hasJ (l.take q) x') ∧ Sm wr wq) (fun _ qv _ => ln - (intOf qv).toNat)
                case atStart => exact ⟨0, Nat.zero_le _, rfl, rfl, (rfl : Sm _ _)⟩
                case round =>
                  obtain ⟨p, hp, rfl, rfl, rfl⟩ := hrel
                  by_cases hlp : p < ln
                  · obtain ⟨y, hy⟩ : ∃ y, l[p]? = some y := ⟨_, List.getElem?_eq_getElem (by have := HLN.out; omega)⟩
                    obtain ⟨yg, yo, rfl⟩ := HT9.out.some (by have := HLN.out; omega)
                    obtain ⟨cs, ⟨rfl, -⟩, hz⟩ := HT9.out.at hy
                    have z1 := hz 0 _ rfl
                    simp only [Nat.mul_one, Nat.add_zero] at z1
                    have HUP := Lib.hid (hasJ_up (n := (x' : Int)) hy)
                    obtain ⟨q0, hq0⟩ : ∃ b, hasJ (l.take p) x' = b := ⟨_, rfl⟩
                    have HQ := Lib.hid hq0
                    rw [hq0]
                    clear hz hy hq0
                    cases q0 with
                    | true =>
                      have HV : Hid (hasJ (l.take (p + 1)) x' = true) := by show _ = _; rw [HUP.out, HQ.out, Bool.true_or]
                      go_wp2_with fail
                      go_roundw
                      case rel => exact ⟨p + 1, by omega, by go_num, by rw [HV.out], (rfl : Sm _ _)⟩
                      case measure => simp [intOf] <;> omega
                    | false =>
                      have HV : Hid (hasJ (l.take (p + 1)) x' = (y == (x' : Int))) := by show _ = _; rw [HUP.out, HQ.out, Bool.false_or]
                      go_wp2_with fail
                      go_roundw
                      case rel => exact ⟨p + 1, by omega, by go_num, by rw [HV.out], (rfl : Sm _ _)⟩
                      case measure => simp [intOf] <;> omega
                  · have hpa : hasJ (l.take p) x' = qa := by
                      rw [List.take_of_length_le (by have := HLN.out; omega)]; exact HQA.out
                    rw [hpa]
                    have HU := Lib.hid (cnt_up l x')
                    clear hpa
                    cases qa with
                    | true =>
                      have HV : Hid (cntTo l (x' + 1) = cn + 1) := by show _ = _; rw [HU.out, HQA.out, HCN.out]; rfl
                      go_wp2_with fail
                      go_roundw
                      case rel => exact ⟨x' + 1, by omega, by go_num, by rw [HV.out]; go_num, HB2.out⟩
                      case measure => simp [intOf] <;> omega
                    | false =>
                      have HV : Hid (cntTo l (x' + 1) = cn) := by show _ = _; rw [HU.out, HQA.out, HCN.out]; rfl
                      go_wp2_with fail
                      go_roundw
                      case rel => exact ⟨x' + 1, by omega, by go_num, by rw [HV.out], HB2.out⟩
                      case measure => simp [intOf] <;> omega
          · obtain rfl : x' = m := by omega
            obtain rfl : cn = ln := by rw [← HCN.out, cnt_all HND.out HIN.out]; exact HLN.out
            have hbb : ((cn : Int) != (cn : Int)) = false := by simp
            by_cases hik : i = k
            · subst hik
              have hne : ((i : Int) != (i : Int)) = false := by simp
              clear hcn hb2
              go_wp2_with fail
              go_roundw
              case rel => exact ⟨i + 1, by omega, by go_num, W89.out⟩
              case measure => simp [intOf] <;> omega
            · have hne : ((i : Int) != (k : Int)) = true := by simp; omega
              have g0 := keepB CV.out.1 W89.out
              have g1 := keepB CV.out.2.1 W89.out
              have g2 := keepB CV.out.2.2.1 W89.out
              have g3 := keepB CV.out.2.2.2.1 W89.out
              have g4 := keepB CV.out.2.2.2.2.1 W89.out
              have g5 := keepB CV.out.2.2.2.2.2 W89.out
              have HMW := Lib.hid (HMG.out.drop W89.out)
              have HTW := Lib.hid (HS9.out.drop kp_int hb2)
              clear hcn hb2
              go_wp2_with fail
              rw [← hGv]
              refine (next_any G i wr HMW.out ⟨by omega, by omega⟩).mono ?_
              rintro e wa ⟨gv, rfl, hOa, ba⟩
              rw [HGb.out, turn_other hik, HL.out] at hOa
              obtain ⟨gA, gc, rfl, hgc, hSg⟩ := hOa.sl (fun y hy => by have := HIN.out y hy; exact ⟨by omega, by omega⟩)
              rw [HLN.out] at hgc ⊢
              have HSG := Lib.hid hSg
              have HTA := Lib.hid (HTW.out.drop kp_int ba)
              have WA := Lib.hid (W89.out.trans (ba.mono W89.out.size))
              clear hOa hSg ba g0 g1 g2 g3 g4 g5
              go_wp2_with fail
              refine (lawSame_any gA tA gc tc cn cn l l true wa HSG.out HTA.out HLN HLN (by omega) (by omega) (Lib.hid ⟨fun _ => rfl, fun _ => rfl⟩)).mono ?_
              rintro e wb ⟨rfl, bb⟩
              have WB := Lib.hid (WA.out.trans (bb.mono WA.out.size))
              clear bb
              go_wp2_with fail
              go_roundw
              case rel => exact ⟨i + 1, by omega, by go_num, WB.out⟩
              case measure => simp [intOf] <;> omega
      · obtain rfl : i = m := by omega
        have g0 := keepB CV.out.1 hb
        have g1 := keepB CV.out.2.1 hb
        have g2 := keepB CV.out.2.2.1 hb
        have g3 := keepB CV.out.2.2.2.1 hb
        have g4 := keepB CV.out.2.2.2.2.1 hb
        have g5 := keepB CV.out.2.2.2.2.2 hb
        have HMW := Lib.hid (HMG.out.drop hb)
        have HTU : Hid (nextL G.f.blocks k = []) := by show _ = _; rw [HGb.out]; exact turn_self (by rw [HMB.out]; exact hk)
        have WA := Lib.hid (HB8.out.trans (hb.mono HB8.out.size))
        clear hb
        go_wp2_with fail
        rw [← hGv]
        refine (next_any G k wr HMW.out ⟨by omega, by omega⟩).mono ?_
        rintro e wa ⟨gv, rfl, hOa, ba⟩
        rw [HTU.out] at hOa
        obtain ⟨gA, gc, rfl, -, -⟩ := hOa.sl (fun y hy => by cases hy)
        have WB := Lib.hid (WA.out.trans (ba.mono WA.out.size))
        clear hOa ba g0 g1 g2 g3 g4 g5 f0 f1 f2 f3 f4 f5
        simp only [List.length_nil]
        go_wp2_with fail
        go_ret
        exact ⟨rfl, WB.out⟩
end Go.Proofs.Ytpaddigjjlidcaa
