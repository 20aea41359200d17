/-
  CONTRACTS: fieldOf, countParts, partsOf, sigOf of package check. Of what was there nothing has turned.
-/
import Derived.Test.YtkahbhfbgdbnfaaGreatDoorJ18
import Derived.Lib.OwnKind
namespace Go.Proofs.YtkahbhfbgdbnfaaGreatDoor
open Go.RowKit

theorem wp_end {P : Program} {fn : Func} {R : Ending → World → Prop} {a : Act} {w : World} {v : Value} (hr : (results fn a.tmps).run P w = .ok v w) (hd : a.defers = []) (h : R (.returned v) w) : bodyPost P fn R .normal a w := ⟨hd, v, hr, h⟩
set_option maxRecDepth 100000 in
set_option maxHeartbeats 400000 in
theorem cfieldOf_any (E : CE) (b : Nat) (t : Tree) (w : World) (N : Nd E b t) (hB : Below E.w0.heap.size E.w0 w) :
    Calls Tryz.prog 146 #[.agg #[.pointer (some ⟨b, 0, none⟩)]] w fun e w' => e = .returned (.agg #[.string (nm t), .string (tp t)]) ∧ Below w.heap.size w w' := by
  have B0 := Lib.hid (b2 w (.cells #[.pointer (some ⟨b, 0, none⟩)] 25) (.cells #[.string ⟨#[]⟩, .string ⟨#[]⟩] 97))
  have HB0 := Lib.hid (hB.trans ((b2 w (.cells #[.pointer (some ⟨b, 0, none⟩)] 25) (.cells #[.string ⟨#[]⟩, .string ⟨#[]⟩] 97)).mono hB.size))
  have U0 := Lib.hid ((PtrAt.new w (some ⟨b, 0, none⟩)).below (b1 _ (.cells #[.string ⟨#[]⟩, .string ⟨#[]⟩] 97)))
  have NN := Lib.hid N
  have r0 : ((w.alloc (.cells #[.pointer (some ⟨b, 0, none⟩)] 25)).alloc (.cells #[.string ⟨#[]⟩, .string ⟨#[]⟩] 97)).cell? ⟨w.heap.size + 1, 0, none⟩ = some (.string ⟨#[]⟩) := cell_second w _ _ _ _ 0
  have r1 : ((w.alloc (.cells #[.pointer (some ⟨b, 0, none⟩)] 25)).alloc (.cells #[.string ⟨#[]⟩, .string ⟨#[]⟩] 97)).cell? ⟨w.heap.size + 1, 1, none⟩ = some (.string ⟨#[]⟩) := cell_second w _ _ _ _ 1
  have rl : w.heap.size + 1 < ((w.alloc (.cells #[.pointer (some ⟨b, 0, none⟩)] 25)).alloc (.cells #[.string ⟨#[]⟩, .string ⟨#[]⟩] 97)).heap.size := by simp
  have z0 : ∀ k, ((w.alloc (.cells #[.pointer (some ⟨b, 0, none⟩)] 25)).alloc (.cells #[.string ⟨#[]⟩, .string ⟨#[]⟩] 97)).frozen? ⟨w.heap.size + 1, k, none⟩ = false := by intro k; simp [go_sem]
  clear N
  go_enter Tryz.func146, Tryz.ntmps146
  go_wp2_with fail
  generalize (w.alloc (.cells #[.pointer (some ⟨b, 0, none⟩)] 25)).alloc (.cells #[.string ⟨#[]⟩, .string ⟨#[]⟩] 97) = wa at *
  have u0 := U0.out.c0
  have ul := U0.out.lt
  refine rgX (fun w' => Below wa.heap.size wa w' ∧ w'.cell? ⟨w.heap.size, 0, none⟩ = some (.pointer (some ⟨b, 0, none⟩))) [5] (by kernel_rfl) (⟨(Below.refl _ _).drew, u0⟩) (fun _ a d v _ h => And.intro ((put_df a d v).symm.trans (And.left h)) (And.right h)) fun hHeld hq => ?_
  refine tkX 0 { dst := some 3, op := .load 25 (.tmp 1), type := 25, pos := "declare.go:47", after := #[], guard := none } (v := ?v1_0) hq hHeld rfl (by kernel_rfl) ?y1_0 ?_
  case y1_0 => (intro w h; try dsimp only at h); go_simp <;> with_reducible rfl
  try simp only [Act.put, List.setIfInBounds_toArray, List.set_cons_zero, List.set_cons_succ]
  refine tkX 2 { dst := some 5, op := .load 25 (.tmp 1), type := 25, pos := "declare.go:47", after := #[], guard := none } (v := ?v1_2) hq hHeld rfl (by kernel_rfl) ?y1_2 ?_
  case y1_2 => (intro w h; try dsimp only at h); go_simp <;> with_reducible rfl
  try simp only [Act.put, List.setIfInBounds_toArray, List.set_cons_zero, List.set_cons_succ]
  refine clX 1 { dst := some 4, op := .call { callee := .value (.func 42), args := #[.tmp 3], argTypes := #[25] }, type := 9, pos := "declare.go:47", after := #[{ on := 0, ground := .data }], guard := none } rfl (by kernel_rfl) (by kernel_rfl) fun Kc hK => ?_
  go_simp
  refine (cname_at NN.out HB0.out _ hHeld.1).mono ?_
  rintro e w1 ⟨rfl, hb⟩
  have hHeld := And.intro (hHeld.1.trans (hb.mono hHeld.1.size)) (keepC hHeld.1 hHeld.2 ul hb)
  refine hK.out _ _ (fun _ _ => hHeld) ?_
  clear hb
  clear hK Kc
  try simp only [Act.put, List.setIfInBounds_toArray, List.set_cons_zero, List.set_cons_succ]
  refine clX 3 { dst := some 6, op := .call { callee := .value (.func 43), args := #[.tmp 5], argTypes := #[25] }, type := 9, pos := "declare.go:47", after := #[{ on := 2, ground := .data }, { on := 1, ground := .chain }], guard := none } rfl (by kernel_rfl) (by kernel_rfl) fun Kc hK => ?_
  go_simp
  refine (ctyp_at NN.out HB0.out _ hHeld.1).mono ?_
  rintro e w1 ⟨rfl, hb⟩
  have r0 := keepC (Below.refl _ _) r0 rl (hHeld.1.trans (hb.mono hHeld.1.size))
  have r1 := keepC (Below.refl _ _) r1 rl (hHeld.1.trans (hb.mono hHeld.1.size))
  have q0 := ((hHeld.1.trans (hb.mono hHeld.1.size)).frozen (p := ⟨w.heap.size + 1, 0, none⟩) rl).trans (z0 0)
  have q1 := ((hHeld.1.trans (hb.mono hHeld.1.size)).frozen (p := ⟨w.heap.size + 1, 1, none⟩) rl).trans (z0 1)
  have hHeld := And.intro (hHeld.1.trans (hb.mono hHeld.1.size)) (keepC hHeld.1 hHeld.2 ul hb)
  refine hK.out _ _ (fun _ _ => hHeld) ?_
  clear hb
  clear hK Kc
  try simp only [Act.put, List.setIfInBounds_toArray, List.set_cons_zero, List.set_cons_succ]
  refine twX 4 { dst := some 7, op := .build 97 #[(0, .tmp 4), (1, .tmp 6)], type := 97, pos := "declare.go:47", after := #[{ on := 1, ground := .data }, { on := 3, ground := .data }], guard := none } (v := ?v1_4) hq rfl (by kernel_rfl) ?y1_4 ?_
  case y1_4 => intro w; go_simp <;> with_reducible rfl
  try simp only [Act.put, List.setIfInBounds_toArray, List.set_cons_zero, List.set_cons_succ]
  refine clX 5 { dst := none, op := .store 97 (.tmp 2) (.tmp 7), type := 0, pos := "declare.go:47", after := #[{ on := 4, ground := .data }, { on := 3, ground := .chain }, { on := 0, ground := .phase }, { on := 1, ground := .phase }, { on := 2, ground := .phase }, { on := 3, ground := .phase }, { on := 4, ground := .phase }], guard := none } rfl (by kernel_rfl) (by kernel_rfl) fun Kc hK => ?_
  go_simp
  refine hK.out _ _ (fun h => absurd h (by decide)) ?_
  clear hK Kc
  try simp only [Act.put, List.setIfInBounds_toArray, List.set_cons_zero, List.set_cons_succ]
  refine dnX (by kernel_rfl) ?_ _
  have BF : Hid (Below w.heap.size w ((w1.setCell ⟨w.heap.size + 1, 0, none⟩ (.string (nm t))).setCell ⟨w.heap.size + 1, 1, none⟩ (.string (tp t)))) := ((B0.out.trans (hHeld.1.mono B0.out.size)).setCell (p := ⟨w.heap.size + 1, 0, none⟩) (Nat.le_succ _) _).setCell (p := ⟨w.heap.size + 1, 1, none⟩) (Nat.le_succ _) _
  go_wp2_with fail
  refine bodyPost_ret (v := .agg #[.string (nm t), .string (tp t)]) (by simp [results, Tryz.results146, go_sem, r0, r1]) rfl ?_
  exact ⟨rfl, BF.out⟩

set_option maxRecDepth 100000 in
set_option maxHeartbeats 400000 in
theorem ccount_any (E : CE) (b : Nat) (t : Tree) (w : World) (N : Nd E b t) (hB : Below E.w0.heap.size E.w0 w) (hk : t.op = 4 → 1 ≤ t.kids.length) :
    Calls Tryz.prog 152 #[.agg #[.pointer (some ⟨b, 0, none⟩)]] w fun e w' => e = .returned (.int .i64 (cntP t)) ∧ Below w.heap.size w w' := by
  have B0 := Lib.hid (b1 w (.cells #[.pointer (some ⟨b, 0, none⟩)] 25))
  have HB0 := Lib.hid (hB.trans ((b1 w (.cells #[.pointer (some ⟨b, 0, none⟩)] 25)).mono hB.size))
  have U0 := Lib.hid (PtrAt.new w (some ⟨b, 0, none⟩))
  have NN := Lib.hid N
  have hm6 : t.kids.length ≤ 6000 := by obtain ⟨-, -, -, -, h, -⟩ := N.kid; omega
  clear N
  by_cases ho : t.op = 4
  · have hc : ((cntP t : Nat) : Int) = (t.kids.length : Int) - 1 := by unfold cntP; rw [if_pos ho]; have := hk ho; omega
    rw [hc]
    go_enter Tryz.func152, Tryz.ntmps152
    go_wp2_with fail
    generalize w.alloc (.cells #[.pointer (some ⟨b, 0, none⟩)] 25) = wa at *
    have u0 := U0.out.c0
    have ul := U0.out.lt
    refine (cop_at NN.out HB0.out _ (Below.refl _ _)).mono ?_
    rintro e w1 ⟨rfl, hb⟩
    have u0 := keepC (Below.refl _ _) u0 ul hb
    have hh := Lib.hid hb
    rw [ho]
    clear hb
    go_wp2_with fail
    refine (ckids_at NN.out HB0.out _ hh.out).mono ?_
    rintro e w2 ⟨rfl, hb⟩
    have B2 := Lib.hid (onB B0.out hh.out hb)
    clear hb
    go_wp2_with fail
    go_ret
    exact ⟨rfl, B2.out⟩
  · have hc : cntP t = t.kids.length := by unfold cntP; rw [if_neg ho]
    rw [hc]
    have f4 : ((t.op : Int) == 4) = false := by rw [beq_eq_false_iff_ne]; omega
    go_enter Tryz.func152, Tryz.ntmps152
    go_wp2_with fail
    generalize w.alloc (.cells #[.pointer (some ⟨b, 0, none⟩)] 25) = wa at *
    have u0 := U0.out.c0
    have ul := U0.out.lt
    refine (cop_at NN.out HB0.out _ (Below.refl _ _)).mono ?_
    rintro e w1 ⟨rfl, hb⟩
    have u0 := keepC (Below.refl _ _) u0 ul hb
    have hh := Lib.hid hb
    clear hb
    go_wp2_with fail
    refine (ckids_at NN.out HB0.out _ hh.out).mono ?_
    rintro e w2 ⟨rfl, hb⟩
    have B2 := Lib.hid (onB B0.out hh.out hb)
    clear hb
    go_wp2_with fail
    go_ret
    exact ⟨rfl, B2.out⟩

theorem parts_snoc {t u : Tree} {k : Nat} (hu : t.kids[k]? = some u) : (t.kids.take (k + 1)).map fldOf = (t.kids.take k).map fldOf ++ [fldOf u] := by
  rw [List.take_add_one, hu, List.map_append]; rfl
/-- So many Parts are gathered. -/
def PRel (wa : World) (t : Tree) (m : Nat) (v i : Value) (wr : World) : Prop :=
  ∃ k : Nat, k ≤ m ∧ i = .int .i64 k ∧ Hid (wr.ownsRow wa.heap.size 97 2 v k (cellsF ((t.kids.take k).map fldOf))) ∧ Hid (Below wa.heap.size wa wr)
theorem cntP_le (t : Tree) : cntP t ≤ t.kids.length := by unfold cntP; split <;> omega
theorem partsL_len (t : Tree) : (partsL t).length = cntP t := by unfold partsL; rw [List.length_map, List.length_take, Nat.min_eq_left (cntP_le t)]
set_option maxRecDepth 100000 in
set_option maxHeartbeats 400000 in
theorem cparts_any (E : CE) (b : Nat) (t : Tree) (w : World) (N : Nd E b t) (hB : Below E.w0.heap.size E.w0 w) (hk : t.op = 4 → 1 ≤ t.kids.length) :
    Calls Tryz.prog 145 #[.agg #[.pointer (some ⟨b, 0, none⟩)]] w fun e w' => ∃ v, e = .returned v ∧ w'.ownsRow w.heap.size 97 2 v (partsL t).length (cellsF (partsL t)) ∧ Below w.heap.size w w' := by
  have B0 := Lib.hid (b1 w (.cells #[.pointer (some ⟨b, 0, none⟩)] 25))
  have HB0 := Lib.hid (hB.trans ((b1 w (.cells #[.pointer (some ⟨b, 0, none⟩)] 25)).mono hB.size))
  have U0 := Lib.hid (PtrAt.new w (some ⟨b, 0, none⟩))
  have NN := Lib.hid N
  have hm6 : t.kids.length ≤ 6000 := by obtain ⟨-, -, -, -, h, -⟩ := N.kid; omega
  have hcl := cntP_le t
  have hpl := partsL_len t
  have HPL : Hid (partsL t = (t.kids.take (cntP t)).map fldOf) := rfl
  obtain ⟨i0, hi0, hz0, hz1, hz2⟩ := info_parts fld_info
  have HI0 := Lib.hid hi0
  have HZ0 := Lib.hid hz0
  have HZ1 := Lib.hid hz1
  have HZ2 := Lib.hid hz2
  have HKK := Lib.hid hk
  obtain ⟨m, hm⟩ : ∃ m, cntP t = m := ⟨_, rfl⟩
  rw [hpl, hm]
  rw [hm] at hcl HPL
  have HMM := Lib.hid hm
  clear N hi0 hz0 hz1 hz2 hk hm hpl
  go_enter Tryz.func145, Tryz.ntmps145
  go_wp2_with fail
  generalize w.alloc (.cells #[.pointer (some ⟨b, 0, none⟩)] 25) = wa at *
  have u0 := U0.out.c0
  have ul := U0.out.lt
  refine (ccount_any E b t wa NN.out HB0.out HKK.out).mono ?_
  rintro e w1 ⟨rfl, hb⟩
  have HB1 := Lib.hid hb
  clear hb
  rw [HMM.out]
  go_wp2_with fail
  go_loopw [3, 7] (fun v i wr => PRel wa t m v i wr) (fun _ i _ => m - (intOf i).toNat)
  case atStart => exact ⟨0, Nat.zero_le _, rfl, World.ownsRow_nil _ _ _ _, HB1.out⟩
  case round =>
    obtain ⟨k, hk, rfl, HO, HB⟩ := hrel
    by_cases hlt : k < m
    · obtain ⟨u, hu⟩ : ∃ u, t.kids[k]? = some u := ⟨_, List.getElem?_eq_getElem (by omega)⟩
      have HU := Lib.hid hu
      obtain ⟨nb, hn, hkd⟩ := ckid_at NN.out HB0.out k u hu
      have N1 := Lib.hid hn
      have KD := Lib.hid hkd
      have ur := keepC (Below.refl _ _) u0 ul HB.out
      clear hu hn hkd
      go_wp2_with fail
      refine (KD.out _ HB.out).mono ?_
      rintro e w2 ⟨rfl, hb2⟩
      have B2 := Lib.hid (HB.out.trans (hb2.mono HB.out.size))
      have O2 := Lib.hid (own_below2 HO.out hb2)
      clear hb2 KD
      go_wp2_with fail
      refine (cfieldOf_any E nb u w2 N1.out (HB0.out.trans (B2.out.mono HB0.out.size))).mono ?_
      rintro e w3 ⟨rfl, hb3⟩
      have B3 := Lib.hid (B2.out.trans (hb3.mono B2.out.size))
      have O3 := Lib.hid (own_below2 O2.out hb3)
      clear hb3
      go_wp2_with (at_builtin; refine Hid.out ?_)
      refine Lib.hid ?_
      refine wpList_append_lies _ rfl (.tmp 10) (.tmp 15) _ rfl wa.heap.size 97 i0 _ 2 32 Tryz.underlying41 HI0.out HZ0.out HZ1.out HZ2.out rfl (by omega) u3 k (cellsF ((t.kids.take k).map fldOf)) rfl (by exact O3.out.alloc _) ⟨w3.heap.size, 0, none⟩ 1 1 [.string (nm u), .string (tp u)] rfl rfl (by exact newsF w3 _ _ 97) (by simp [Value.oneCell']) (by omega) (by simp only [maxLen]; omega) (by omega) (by simp; have := B3.out.size; omega) (w3.heap.size + 1) (by simp) ?_
      intro g cap w4 hown hg hat hlt4
      have B4 : Below wa.heap.size wa w4 := (B3.out.alloc B3.out.size _).grown hg (by simp; have := B3.out.size; omega) (fun k hk => (O3.out.lt k hk).1)
      have hown' : w4.ownsRow wa.heap.size 97 2 (.slice (some ⟨g, 0, none⟩) (k + 1) cap) (k + 1) (cellsF ((t.kids.take (k + 1)).map fldOf)) := by rw [parts_snoc HU.out, cellsF_app]; exact hown
      have HOn := Lib.hid hown'
      have HBn := Lib.hid B4
      clear hown hg hat hown' B4
      go_wp2_with fail
      go_roundw
      case rel => exact ⟨k + 1, by omega, by go_num, HOn, HBn⟩
      case measure => simp [intOf]; omega
    · obtain rfl : k = m := by omega
      go_wp2_with fail
      go_ret
      refine ⟨_, rfl, ?_, B0.out.trans (HB.out.mono B0.out.size)⟩
      rw [HPL.out]
      exact own_mono HO.out B0.out.size

set_option maxRecDepth 100000 in
set_option maxHeartbeats 400000 in
theorem csig_any (E : CE) (b : Nat) (t : Tree) (w : World) (N : Nd E b t) (hB : Below E.w0.heap.size E.w0 w) (hk : t.op = 4 → 1 ≤ t.kids.length) :
    Calls Tryz.prog 147 #[.agg #[.pointer (some ⟨b, 0, none⟩)]] w fun e w' => ∃ v, e = .returned (.agg #[.string (nm t), v, .string (tp t)]) ∧ w'.ownsRow w.heap.size 97 2 v (partsL t).length (cellsF (partsL t)) ∧ Below w.heap.size w w' := by
  have B0 := Lib.hid (b2 w (.cells #[.pointer (some ⟨b, 0, none⟩)] 25) (.cells #[.string ⟨#[]⟩, .slice none 0 0, .string ⟨#[]⟩] 55))
  have HB0 := Lib.hid (hB.trans ((b2 w (.cells #[.pointer (some ⟨b, 0, none⟩)] 25) (.cells #[.string ⟨#[]⟩, .slice none 0 0, .string ⟨#[]⟩] 55)).mono hB.size))
  have U0 := Lib.hid ((PtrAt.new w (some ⟨b, 0, none⟩)).below (b1 _ (.cells #[.string ⟨#[]⟩, .slice none 0 0, .string ⟨#[]⟩] 55)))
  have NN := Lib.hid N
  have r0 : ((w.alloc (.cells #[.pointer (some ⟨b, 0, none⟩)] 25)).alloc (.cells #[.string ⟨#[]⟩, .slice none 0 0, .string ⟨#[]⟩] 55)).cell? ⟨w.heap.size + 1, 0, none⟩ = some (.string ⟨#[]⟩) := cell_second w _ _ _ _ 0
  have r1 : ((w.alloc (.cells #[.pointer (some ⟨b, 0, none⟩)] 25)).alloc (.cells #[.string ⟨#[]⟩, .slice none 0 0, .string ⟨#[]⟩] 55)).cell? ⟨w.heap.size + 1, 1, none⟩ = some (.slice none 0 0) := cell_second w _ _ _ _ 1
  have r2 : ((w.alloc (.cells #[.pointer (some ⟨b, 0, none⟩)] 25)).alloc (.cells #[.string ⟨#[]⟩, .slice none 0 0, .string ⟨#[]⟩] 55)).cell? ⟨w.heap.size + 1, 2, none⟩ = some (.string ⟨#[]⟩) := cell_second w _ _ _ _ 2
  have rl : w.heap.size + 1 < ((w.alloc (.cells #[.pointer (some ⟨b, 0, none⟩)] 25)).alloc (.cells #[.string ⟨#[]⟩, .slice none 0 0, .string ⟨#[]⟩] 55)).heap.size := by simp
  have z0 : ∀ k, ((w.alloc (.cells #[.pointer (some ⟨b, 0, none⟩)] 25)).alloc (.cells #[.string ⟨#[]⟩, .slice none 0 0, .string ⟨#[]⟩] 55)).frozen? ⟨w.heap.size + 1, k, none⟩ = false := by intro k; simp [go_sem]
  have HKK := Lib.hid hk
  clear N hk
  go_enter Tryz.func147, Tryz.ntmps147
  go_wp2_with fail
  generalize (w.alloc (.cells #[.pointer (some ⟨b, 0, none⟩)] 25)).alloc (.cells #[.string ⟨#[]⟩, .slice none 0 0, .string ⟨#[]⟩] 55) = wa at *
  have u0 := U0.out.c0
  have ul := U0.out.lt
  refine rgX (fun w' => Below wa.heap.size wa w' ∧ w'.cell? ⟨w.heap.size, 0, none⟩ = some (.pointer (some ⟨b, 0, none⟩))) [7] (by kernel_rfl) (⟨(Below.refl _ _).drew, u0⟩) (fun _ a d v _ h => And.intro ((put_df a d v).symm.trans (And.left h)) (And.right h)) fun hHeld hq => ?_
  refine tkX 0 { dst := some 3, op := .load 25 (.tmp 1), type := 25, pos := "declare.go:43", after := #[], guard := none } (v := ?v2_0) hq hHeld rfl (by kernel_rfl) ?y2_0 ?_
  case y2_0 => (intro w h; try dsimp only at h); go_simp <;> with_reducible rfl
  try simp only [Act.put, List.setIfInBounds_toArray, List.set_cons_zero, List.set_cons_succ]
  refine tkX 2 { dst := some 5, op := .load 25 (.tmp 1), type := 25, pos := "declare.go:43", after := #[], guard := none } (v := ?v2_2) hq hHeld rfl (by kernel_rfl) ?y2_2 ?_
  case y2_2 => (intro w h; try dsimp only at h); go_simp <;> with_reducible rfl
  try simp only [Act.put, List.setIfInBounds_toArray, List.set_cons_zero, List.set_cons_succ]
  refine tkX 4 { dst := some 7, op := .load 25 (.tmp 1), type := 25, pos := "declare.go:43", after := #[], guard := none } (v := ?v2_4) hq hHeld rfl (by kernel_rfl) ?y2_4 ?_
  case y2_4 => (intro w h; try dsimp only at h); go_simp <;> with_reducible rfl
  try simp only [Act.put, List.setIfInBounds_toArray, List.set_cons_zero, List.set_cons_succ]
  refine clX 1 { dst := some 4, op := .call { callee := .value (.func 42), args := #[.tmp 3], argTypes := #[25] }, type := 9, pos := "declare.go:43", after := #[{ on := 0, ground := .data }], guard := none } rfl (by kernel_rfl) (by kernel_rfl) fun Kc hK => ?_
  go_simp
  refine (cname_at NN.out HB0.out _ hHeld.1).mono ?_
  rintro e w1 ⟨rfl, hb⟩
  have hHeld := And.intro (hHeld.1.trans (hb.mono hHeld.1.size)) (keepC hHeld.1 hHeld.2 ul hb)
  refine hK.out _ _ (fun _ _ => hHeld) ?_
  clear hb
  clear hK Kc
  try simp only [Act.put, List.setIfInBounds_toArray, List.set_cons_zero, List.set_cons_succ]
  refine clX 3 { dst := some 6, op := .call { callee := .value (.func 145), args := #[.tmp 5], argTypes := #[25] }, type := 41, pos := "declare.go:43", after := #[{ on := 2, ground := .data }, { on := 1, ground := .chain }], guard := none } rfl (by kernel_rfl) (by kernel_rfl) fun Kc hK => ?_
  go_simp
  refine (cparts_any E b t _ NN.out (HB0.out.trans (hHeld.1.mono HB0.out.size)) HKK.out).mono ?_
  rintro e w2 ⟨pv, rfl, hpo, hb⟩
  have OP := Lib.hid (own_mono hpo hHeld.1.size)
  obtain ⟨PA, pc, rfl, -⟩ := fr_own hpo
  have hHeld := And.intro (hHeld.1.trans (hb.mono hHeld.1.size)) (keepC hHeld.1 hHeld.2 ul hb)
  refine hK.out _ _ (fun _ _ => hHeld) ?_
  clear hb hpo
  clear hK Kc
  try simp only [Act.put, List.setIfInBounds_toArray, List.set_cons_zero, List.set_cons_succ]
  refine clX 5 { dst := some 8, op := .call { callee := .value (.func 43), args := #[.tmp 7], argTypes := #[25] }, type := 9, pos := "declare.go:43", after := #[{ on := 4, ground := .data }, { on := 3, ground := .chain }], guard := none } rfl (by kernel_rfl) (by kernel_rfl) fun Kc hK => ?_
  go_simp
  refine (ctyp_at NN.out HB0.out _ hHeld.1).mono ?_
  rintro e w1 ⟨rfl, hb⟩
  have OP := Lib.hid (own_below2 OP.out hb)
  have bb := hHeld.1.trans (hb.mono hHeld.1.size)
  have r0 := keepC (Below.refl _ _) r0 rl bb
  have r1 := keepC (Below.refl _ _) r1 rl bb
  have r2 := keepC (Below.refl _ _) r2 rl bb
  have q0 := (bb.frozen (p := ⟨w.heap.size + 1, 0, none⟩) rl).trans (z0 0)
  have q1 := (bb.frozen (p := ⟨w.heap.size + 1, 1, none⟩) rl).trans (z0 1)
  have q2 := (bb.frozen (p := ⟨w.heap.size + 1, 2, none⟩) rl).trans (z0 2)
  clear bb
  have hHeld := And.intro (hHeld.1.trans (hb.mono hHeld.1.size)) (keepC hHeld.1 hHeld.2 ul hb)
  refine hK.out _ _ (fun _ _ => hHeld) ?_
  clear hb
  clear hK Kc
  try simp only [Act.put, List.setIfInBounds_toArray, List.set_cons_zero, List.set_cons_succ]
  refine twX 6 { dst := some 9, op := .build 55 #[(0, .tmp 4), (1, .tmp 6), (2, .tmp 8)], type := 55, pos := "declare.go:43", after := #[{ on := 1, ground := .data }, { on := 3, ground := .data }, { on := 5, ground := .data }], guard := none } (v := ?v2_6) hq rfl (by kernel_rfl) ?y2_6 ?_
  case y2_6 => intro w; go_simp <;> with_reducible rfl
  try simp only [Act.put, List.setIfInBounds_toArray, List.set_cons_zero, List.set_cons_succ]
  refine clX 7 { dst := none, op := .store 55 (.tmp 2) (.tmp 9), type := 0, pos := "declare.go:43", after := #[{ on := 6, ground := .data }, { on := 5, ground := .chain }, { on := 0, ground := .phase }, { on := 1, ground := .phase }, { on := 2, ground := .phase }, { on := 3, ground := .phase }, { on := 4, ground := .phase }, { on := 5, ground := .phase }, { on := 6, ground := .phase }], guard := none } rfl (by kernel_rfl) (by kernel_rfl) fun Kc hK => ?_
  go_simp
  refine hK.out _ _ (fun h => absurd h (by decide)) ?_
  clear hK Kc
  try simp only [Act.put, List.setIfInBounds_toArray, List.set_cons_zero, List.set_cons_succ]
  refine dnX (by kernel_rfl) ?_ _
  have BF : Hid (Below w.heap.size w (((w1.setCell ⟨w.heap.size + 1, 0, none⟩ (.string (nm t))).setCell ⟨w.heap.size + 1, 1, none⟩ (.slice PA (partsL t).length pc)).setCell ⟨w.heap.size + 1, 2, none⟩ (.string (tp t)))) := (((B0.out.trans (hHeld.1.mono B0.out.size)).setCell (p := ⟨w.heap.size + 1, 0, none⟩) (Nat.le_succ _) _).setCell (p := ⟨w.heap.size + 1, 1, none⟩) (Nat.le_succ _) _).setCell (p := ⟨w.heap.size + 1, 2, none⟩) (Nat.le_succ _) _
  have hne : (Value.slice PA (partsL t).length pc).ownBlock ≠ some (w.heap.size + 1) := fun e => by have := (OP.out.lt _ e).1; omega
  have OF : Hid ((((w1.setCell ⟨w.heap.size + 1, 0, none⟩ (.string (nm t))).setCell ⟨w.heap.size + 1, 1, none⟩ (.slice PA (partsL t).length pc)).setCell ⟨w.heap.size + 1, 2, none⟩ (.string (tp t))).ownsRow wa.heap.size 97 2 (.slice PA (partsL t).length pc) (partsL t).length (cellsF (partsL t))) := own_set (own_set (own_set OP.out hne) hne) hne
  have bsz := B0.out.size
  go_wp2_with fail
  refine bodyPost_ret (v := .agg #[.string (nm t), .slice PA (partsL t).length pc, .string (tp t)]) (by simp [results, Tryz.results147, go_sem, r0, r1, r2]) rfl ?_
  exact ⟨_, rfl, own_mono OF.out bsz, BF.out⟩

end Go.Proofs.YtkahbhfbgdbnfaaGreatDoor

/-
  WORDS FOR MEMORY: what a program declares, gathered in rows of one's own. No condition.
-/
namespace Go.Proofs.YtkahbhfbgdbnfaaGreatDoor
open Go.RowKit

theorem own_sep {w : World} {b b' s s' n n' : Nat} {e e' : TypeId} {v v' : Value} {xs xs' : List Value} (h : w.ownsRow b e s v n xs) (h' : w.ownsRow b' e' s' v' n' xs') (he : e ≠ e') : v.ownBlock = none ∨ v.ownBlock ≠ v'.ownBlock := by
  cases hv : v.ownBlock with
  | none => exact .inl rfl
  | some g =>
    refine .inr fun hv' => ?_
    obtain ⟨c, z, h1⟩ := Lib.ownsRow_kind h g hv
    obtain ⟨c', z', h2⟩ := Lib.ownsRow_kind h' g hv'.symm
    rw [h1] at h2
    have := Option.some.inj h2
    injection this with a1 a2
    exact he a2
def cellsS : List Str → List Value → List Value
  | s :: ss, u :: us => .string s.name :: u :: cellsS ss us
  | _, _ => []
def cellsG : List Sg → List Value → List Value
  | s :: ss, u :: us => .string s.name :: u :: .string s.res :: cellsG ss us
  | _, _ => []
theorem cellsS_snoc : ∀ (ss : List Str) (us : List Value) (s : Str) (u : Value), us.length = ss.length → cellsS (ss ++ [s]) (us ++ [u]) = cellsS ss us ++ [.string s.name, u]
  | [], [], s, u, _ => rfl
  | [], v :: us, s, u, h => by simp at h
  | a :: ss, [], s, u, h => by simp at h
  | a :: ss, v :: us, s, u, h => by simp only [List.cons_append, cellsS, cellsS_snoc ss us s u (by simpa using h)]
theorem cellsG_snoc : ∀ (ss : List Sg) (us : List Value) (s : Sg) (u : Value), us.length = ss.length → cellsG (ss ++ [s]) (us ++ [u]) = cellsG ss us ++ [.string s.name, u, .string s.res]
  | [], [], s, u, _ => rfl
  | [], v :: us, s, u, h => by simp at h
  | a :: ss, [], s, u, h => by simp at h
  | a :: ss, v :: us, s, u, h => by simp only [List.cons_append, cellsG, cellsG_snoc ss us s u (by simpa using h)]
theorem cellsS_at : ∀ (ss : List Str) (us : List Value) (i : Nat) (s : Str) (u : Value), ss[i]? = some s → us[i]? = some u → (cellsS ss us)[i * 2]? = some (.string s.name) ∧ (cellsS ss us)[i * 2 + 1]? = some u
  | [], us, i, s, u, h, _ => by simp at h
  | a :: ss, [], i, s, u, _, h => by simp at h
  | a :: ss, v :: us, 0, s, u, h, h' => by obtain rfl := Option.some.inj h; obtain rfl := Option.some.inj h'; exact ⟨rfl, rfl⟩
  | a :: ss, v :: us, i + 1, s, u, h, h' => by
    have := cellsS_at ss us i s u h h'
    rw [show (i + 1) * 2 = i * 2 + 1 + 1 by omega]
    simp only [cellsS, List.getElem?_cons_succ]
    exact this
theorem cellsG_at : ∀ (ss : List Sg) (us : List Value) (i : Nat) (s : Sg) (u : Value), ss[i]? = some s → us[i]? = some u → (cellsG ss us)[i * 3]? = some (.string s.name) ∧ (cellsG ss us)[i * 3 + 1]? = some u ∧ (cellsG ss us)[i * 3 + 2]? = some (.string s.res)
  | [], us, i, s, u, h, _ => by simp at h
  | a :: ss, [], i, s, u, _, h => by simp at h
  | a :: ss, v :: us, 0, s, u, h, h' => by obtain rfl := Option.some.inj h; obtain rfl := Option.some.inj h'; exact ⟨rfl, rfl, rfl⟩
  | a :: ss, v :: us, i + 1, s, u, h, h' => by
    have := cellsG_at ss us i s u h h'
    rw [show (i + 1) * 3 = i * 3 + 1 + 1 + 1 by omega]
    simp only [cellsG, List.getElem?_cons_succ]
    exact this

/-- A row of fields within another row. -/
def Nst (w : World) (base : Nat) (gv u : Value) (fs : List Fld) : Prop := w.ownsRow base 97 2 u fs.length (cellsF fs) ∧ (∀ g, u.ownBlock = some g → gv.ownBlock ≠ some g) ∧ fs.length ≤ 6000
structure DR (w : World) (base : Nat) (sv gv fv : Value) (x : Inf) (vs us : List Value) : Prop where
  s : w.ownsRow base 99 2 sv x.structs.length (cellsS x.structs vs)
  g : w.ownsRow base 97 2 gv x.globals.length (cellsF x.globals)
  f : w.ownsRow base 55 3 fv x.funs.length (cellsG x.funs us)
  sl : vs.length = x.structs.length
  fl : us.length = x.funs.length
  sn : ∀ (i : Nat) (s : Str) (u : Value), x.structs[i]? = some s → vs[i]? = some u → Nst w base gv u s.fields
  fn : ∀ (i : Nat) (s : Sg) (u : Value), x.funs[i]? = some s → us[i]? = some u → Nst w base gv u s.params
section
variable {w w' : World} {base : Nat} {sv gv fv : Value} {x : Inf} {vs us : List Value}
theorem DR.nil (w : World) (base : Nat) : DR w base (.slice none 0 0) (.slice none 0 0) (.slice none 0 0) infZ [] [] :=
  ⟨World.ownsRow_nil _ _ _ _, World.ownsRow_nil _ _ _ _, World.ownsRow_nil _ _ _ _, rfl, rfl, fun i s u h => by simp [infZ] at h, fun i s u h => by simp [infZ] at h⟩
/-- Nothing of it has turned. -/
theorem DR.keep (h : DR w base sv gv fv x vs us) {row : Option Nat} (hg : w.grownBy w' row) (hr : ∀ b, row = some b → b < base) : DR w' base sv gv fv x vs us := by
  have far : ∀ {e : TypeId} {s n : Nat} {v : Value} {xs : List Value}, w.ownsRow base e s v n xs → w'.ownsRow base e s v n xs := fun {e s n v xs} ho => ho.kept hg (by
    cases hv : v.ownBlock with
    | none => exact .inl rfl
    | some g => exact .inr (fun e => by have h1 := hr g e.symm; have h2 := (ho.lt g hv).1; omega))
  exact ⟨far h.s, far h.g, far h.f, h.sl, h.fl, fun i s u a b => ⟨far (h.sn i s u a b).1, (h.sn i s u a b).2⟩, fun i s u a b => ⟨far (h.fn i s u a b).1, (h.fn i s u a b).2⟩⟩
theorem DR.below (h : DR w base sv gv fv x vs us) (hb : Below w.heap.size w w') : DR w' base sv gv fv x vs us :=
  h.keep (row := none) ⟨hb.os, hb.tape, hb.output, hb.size, fun k hk _ => hb.block k hk⟩ (fun b e => by cases e)
theorem DR.pushS (h : DR w base sv gv fv x vs us) (hg : w.grownBy w' sv.ownBlock) {sv' : Value} {s : Str} {u : Value} (ho : w'.ownsRow base 99 2 sv' (x.structs.length + 1) (cellsS x.structs vs ++ [.string s.name, u])) (hn : Nst w base gv u s.fields) : DR w' base sv' gv fv { x with structs := x.structs ++ [s] } (vs ++ [u]) us := by
  have nst : ∀ {u : Value} {fs : List Fld}, Nst w base gv u fs → Nst w' base gv u fs := fun {u fs} hu => ⟨hu.1.kept hg (own_sep hu.1 h.s (by decide)), hu.2⟩
  refine ⟨?_, h.g.kept hg (own_sep h.g h.s (by decide)), h.f.kept hg (own_sep h.f h.s (by decide)), by simp [h.sl], h.fl, fun i s' u' a b => ?_, fun i s' u' a b => nst (h.fn i s' u' a b)⟩
  · show w'.ownsRow base 99 2 sv' (x.structs ++ [s]).length _
    rw [cellsS_snoc _ _ _ _ h.sl, List.length_append]; exact ho
  · simp only at a
    rcases Nat.lt_or_ge i x.structs.length with hi | hi
    · rw [List.getElem?_append_left hi] at a
      rw [List.getElem?_append_left (by rw [h.sl]; exact hi)] at b
      exact nst (h.sn i s' u' a b)
    · have hi2 := (List.getElem?_eq_some_iff.1 a).1
      rw [List.length_append] at hi2
      obtain rfl : i = x.structs.length := by simp at hi2; omega
      rw [List.getElem?_append_right (Nat.le_refl _)] at a
      rw [List.getElem?_append_right (by rw [h.sl]; exact Nat.le_refl _)] at b
      simp [h.sl] at a b
      obtain rfl := a
      obtain rfl := b
      exact nst hn
theorem DR.pushF (h : DR w base sv gv fv x vs us) (hg : w.grownBy w' fv.ownBlock) {fv' : Value} {s : Sg} {u : Value} (ho : w'.ownsRow base 55 3 fv' (x.funs.length + 1) (cellsG x.funs us ++ [.string s.name, u, .string s.res])) (hn : Nst w base gv u s.params) : DR w' base sv gv fv' { x with funs := x.funs ++ [s] } vs (us ++ [u]) := by
  have nst : ∀ {u : Value} {fs : List Fld}, Nst w base gv u fs → Nst w' base gv u fs := fun {u fs} hu => ⟨hu.1.kept hg (own_sep hu.1 h.f (by decide)), hu.2⟩
  refine ⟨h.s.kept hg (own_sep h.s h.f (by decide)), h.g.kept hg (own_sep h.g h.f (by decide)), ?_, h.sl, by simp [h.fl], fun i s' u' a b => nst (h.sn i s' u' a b), fun i s' u' a b => ?_⟩
  · show w'.ownsRow base 55 3 fv' (x.funs ++ [s]).length _
    rw [cellsG_snoc _ _ _ _ h.fl, List.length_append]; exact ho
  · simp only at a
    rcases Nat.lt_or_ge i x.funs.length with hi | hi
    · rw [List.getElem?_append_left hi] at a
      rw [List.getElem?_append_left (by rw [h.fl]; exact hi)] at b
      exact nst (h.fn i s' u' a b)
    · have hi2 := (List.getElem?_eq_some_iff.1 a).1
      rw [List.length_append] at hi2
      obtain rfl : i = x.funs.length := by simp at hi2; omega
      rw [List.getElem?_append_right (Nat.le_refl _)] at a
      rw [List.getElem?_append_right (by rw [h.fl]; exact Nat.le_refl _)] at b
      simp [h.fl] at a b
      obtain rfl := a
      obtain rfl := b
      exact nst hn
theorem DR.pushG (h : DR w base sv gv fv x vs us) (hg : w.grownBy w' gv.ownBlock) {gv' : Value} {s : Fld} (ho : w'.ownsRow base 97 2 gv' (x.globals.length + 1) (cellsF x.globals ++ [.string s.name, .string s.typ])) (hat : ∀ g, gv'.ownBlock = some g → gv.ownBlock = some g ∨ w.heap.size ≤ g) : DR w' base sv gv' fv { x with globals := x.globals ++ [s] } vs us := by
  have nst : ∀ {u : Value} {fs : List Fld}, Nst w base gv u fs → Nst w' base gv' u fs := fun {u fs} hu => ⟨hu.1.kept hg (by
    cases hv : u.ownBlock with
    | none => exact .inl rfl
    | some g => exact .inr (fun e => hu.2.1 g hv e.symm)), fun g hv e => (by
    rcases hat g e with h1 | h1
    · exact hu.2.1 g hv h1
    · have := (hu.1.lt g hv).2; omega), hu.2.2⟩
  refine ⟨h.s.kept hg (own_sep h.s h.g (by decide)), ?_, h.f.kept hg (own_sep h.f h.g (by decide)), h.sl, h.fl, fun i s' u' a b => nst (h.sn i s' u' a b), fun i s' u' a b => nst (h.fn i s' u' a b)⟩
  show w'.ownsRow base 97 2 gv' (x.globals ++ [s]).length _
  rw [cellsF_app, List.length_append]; exact ho
/-- The slices, and what they read as. -/
theorem DR.out (h : DR w base sv gv fv x vs us) : ∃ sA gA fA sc gc fc, sv = .slice sA x.structs.length sc ∧ gv = .slice gA x.globals.length gc ∧ fv = .slice fA x.funs.length fc ∧ SR w sA x.structs ∧ FR w gA x.globals ∧ GR w fA x.funs ∧ x.structs.length ≤ sc ∧ x.globals.length ≤ gc ∧ x.funs.length ≤ fc := by
  obtain ⟨gA, gc, rfl, hgc, hgr⟩ := fr_own h.g
  have hs : ∃ sA sc, sv = .slice sA x.structs.length sc ∧ SR w sA x.structs ∧ x.structs.length ≤ sc := by
    rcases h.s.2 with ⟨rfl, h0⟩ | ⟨g, cap, cur, rfl, hb, hg, hn, -⟩
    · exact ⟨none, 0, by rw [h0], fun h => by omega, by omega⟩
    · refine ⟨_, cap, rfl, fun hp => ⟨g, 0, rfl, (h.s.lt g rfl).2, fun i s hi => ?_⟩, hn⟩
      have hil := (List.getElem?_eq_some_iff.1 hi).1
      obtain ⟨u, hu⟩ : ∃ u, vs[i]? = some u := ⟨_, List.getElem?_eq_getElem (by rw [h.sl]; exact hil)⟩
      obtain ⟨A, c, rfl, hc, hf⟩ := fr_own (h.sn i s u hi hu).1
      have hcell := cellsS_at _ _ i s _ hi hu
      refine ⟨A, c, ?_, ?_, hc, by have := (h.sn i s _ hi hu).2.2; omega, hf⟩
      · rw [Nat.zero_add]; exact (h.s.cellAt (i * 2) (by omega)).trans hcell.1
      · rw [Nat.zero_add]; exact (h.s.cellAt (i * 2 + 1) (by omega)).trans hcell.2
  have hf : ∃ fA fc, fv = .slice fA x.funs.length fc ∧ GR w fA x.funs ∧ x.funs.length ≤ fc := by
    rcases h.f.2 with ⟨rfl, h0⟩ | ⟨g, cap, cur, rfl, hb, hg, hn, -⟩
    · exact ⟨none, 0, by rw [h0], fun h => by omega, by omega⟩
    · refine ⟨_, cap, rfl, fun hp => ⟨g, 0, rfl, (h.f.lt g rfl).2, fun i s hi => ?_⟩, hn⟩
      have hil := (List.getElem?_eq_some_iff.1 hi).1
      obtain ⟨u, hu⟩ : ∃ u, us[i]? = some u := ⟨_, List.getElem?_eq_getElem (by rw [h.fl]; exact hil)⟩
      obtain ⟨A, c, rfl, hc, hf⟩ := fr_own (h.fn i s u hi hu).1
      have hcell := cellsG_at _ _ i s _ hi hu
      refine ⟨A, c, ?_, ?_, ?_, hc, by have := (h.fn i s _ hi hu).2.2; omega, hf⟩
      · rw [Nat.zero_add]; exact (h.f.cellAt (i * 3) (by omega)).trans hcell.1
      · rw [Nat.zero_add]; exact (h.f.cellAt (i * 3 + 1) (by omega)).trans hcell.2.1
      · rw [Nat.zero_add]; exact (h.f.cellAt (i * 3 + 2) (by omega)).trans hcell.2.2
  obtain ⟨sA, sc, rfl, s1, s2⟩ := hs
  obtain ⟨fA, fc, rfl, f1, f2⟩ := hf
  exact ⟨sA, gA, fA, sc, gc, fc, rfl, rfl, rfl, s1, hgr, f1, s2, hgc, f2⟩
end
theorem infOf_snoc {ks : List Tree} {k : Nat} {d : Tree} (h : ks[k]? = some d) : infOf (ks.take (k + 1)) = addD (infOf (ks.take k)) d := by
  unfold infOf; rw [List.take_add_one, h]; simp
theorem addD_len (x : Inf) (d : Tree) (n : Nat) (h : x.structs.length ≤ n ∧ x.globals.length ≤ n ∧ x.funs.length ≤ n) : (addD x d).structs.length ≤ n + 1 ∧ (addD x d).globals.length ≤ n + 1 ∧ (addD x d).funs.length ≤ n + 1 := by
  unfold addD
  split
  · simp; omega
  split
  · simp; omega
  split
  · simp; omega
  · omega
theorem infOf_len (ks : List Tree) : ∀ k, k ≤ ks.length → (infOf (ks.take k)).structs.length ≤ k ∧ (infOf (ks.take k)).globals.length ≤ k ∧ (infOf (ks.take k)).funs.length ≤ k := by
  intro k
  induction k with
  | zero => intro _; simp [infOf, infZ]
  | succ k ih =>
    intro hk
    rw [infOf_snoc (List.getElem?_eq_getElem (by omega : k < ks.length))]
    exact addD_len _ _ _ (ih (by omega))

end Go.Proofs.YtkahbhfbgdbnfaaGreatDoor

/-
  CONTRACT: declared of package check: what a tree declares, in rows of its own. Of what was there nothing has turned.
-/
namespace Go.Proofs.YtkahbhfbgdbnfaaGreatDoor
open Go.RowKit

theorem s99_info : (Tryz.prog.info? 99).map (fun i => (i.zero, i.size, i.bytes)) = some (some (.agg #[.string ⟨#[]⟩, .slice none 0 0]), 2, 40) := by kernel_rfl
theorem s55_info : (Tryz.prog.info? 55).map (fun i => (i.zero, i.size, i.bytes)) = some (some (.agg #[.string ⟨#[]⟩, .slice none 0 0, .string ⟨#[]⟩]), 3, 56) := by kernel_rfl
theorem newsG (w : World) (a b c : Value) (e : TypeId) : ∀ j u, [a, b, c][j]? = some u → (w.alloc (.cells #[a, b, c] e)).cell? ((⟨w.heap.size, 0, none⟩ : Addr).add j) = some u := by
  intro j u h
  match j, h with
  | 0, h => obtain rfl := Option.some.inj h; exact cell_new w _ e 0
  | 1, h => obtain rfl := Option.some.inj h; exact cell_new w _ e 1
  | 2, h => obtain rfl := Option.some.inj h; exact cell_new w _ e 2
  | j + 3, h => simp at h
/-- declared on its way: its three variables, and the rows. -/
structure DV (b : Nat) (w : World) (sv gv fv : Value) (x : Inf) (vs us : List Value) (wr : World) : Prop where
  B : Below w.heap.size w wr
  sz : w.heap.size + 3 ≤ wr.heap.size
  u0 : wr.cell? ⟨w.heap.size, 0, none⟩ = some (.pointer (some ⟨b, 0, none⟩))
  r : ∀ k, k < 3 → wr.cell? ⟨w.heap.size + 1, k, none⟩ = some (.slice none 0 0)
  rf : ∀ k, wr.frozen? ⟨w.heap.size + 1, k, none⟩ = false
  v0 : wr.cell? ⟨w.heap.size + 2, 0, none⟩ = some sv
  v1 : wr.cell? ⟨w.heap.size + 2, 1, none⟩ = some gv
  v2 : wr.cell? ⟨w.heap.size + 2, 2, none⟩ = some fv
  vf : ∀ k, wr.frozen? ⟨w.heap.size + 2, k, none⟩ = false
  D : DR wr (w.heap.size + 3) sv gv fv x vs us
section
variable {b : Nat} {w wr w1 : World} {sv gv fv : Value} {x : Inf} {vs us : List Value}
theorem DV.grow (h : DV b w sv gv fv x vs us wr) {row : Option Nat} (hg : wr.grownBy w1 row) (hr : ∀ y, row = some y → w.heap.size + 3 ≤ y) {sv' gv' fv' : Value} {x' : Inf} {vs' us' : List Value} (hD : DR w1 (w.heap.size + 3) sv' gv' fv' x' vs' us') (i : Nat) (nv : Value)
    (h0 : sv' = if i = 0 then nv else sv) (h1 : gv' = if i = 1 then nv else gv) (h2 : fv' = if i = 2 then nv else fv) (hi : i < 3) : DV b w sv' gv' fv' x' vs' us' (w1.setCell ⟨w.heap.size + 2, i, none⟩ nv) := by
  have hsz := h.sz
  have far : ∀ y k, y < w.heap.size + 3 → w1.cell? ⟨y, k, none⟩ = wr.cell? ⟨y, k, none⟩ := fun y k hy => hg.cell_far ⟨y, k, none⟩ (by show y < _; omega) (fun e => by have := hr y e.symm; omega)
  have farF : ∀ y k, y < w.heap.size + 3 → w1.frozen? ⟨y, k, none⟩ = wr.frozen? ⟨y, k, none⟩ := fun y k hy => hg.frozen_far ⟨y, k, none⟩ (by show y < _; omega) (fun e => by have := hr y e.symm; omega)
  have oth : ∀ y k, y ≠ w.heap.size + 2 ∨ k ≠ i → (w1.setCell ⟨w.heap.size + 2, i, none⟩ nv).cell? ⟨y, k, none⟩ = w1.cell? ⟨y, k, none⟩ := fun y k hy => World.cell?_setCell_other _ _ _ _ (by
    intro e; injection e with e1 e2
    rcases hy with h | h
    · exact h e1.symm
    · exact h e2.symm)
  have same : ∀ y, wr.cell? ⟨w.heap.size + 2, i, none⟩ = some y → (w1.setCell ⟨w.heap.size + 2, i, none⟩ nv).cell? ⟨w.heap.size + 2, i, none⟩ = some nv := fun y hy => World.cell?_setCell_same _ _ _ ((far _ _ (by omega)).trans hy)
  refine ⟨⟨hg.os.trans h.B.os, hg.tape.trans h.B.tape, hg.output.trans h.B.output, Nat.le_trans h.B.size (Nat.le_trans hg.size (kb_set w1 _ _).size), fun k hk => ?_⟩, Nat.le_trans hsz (Nat.le_trans hg.size (kb_set w1 _ _).size), ?_, ?_, ?_, ?_, ?_, ?_, ?_, hD.keep (kb_set w1 _ _) (fun y e => by have h9 : w.heap.size + 2 = y := Option.some.inj e; omega)⟩
  · exact ((kb_set w1 ⟨w.heap.size + 2, i, none⟩ nv).block k (by have := hg.size; omega) (fun e => by have h9 : k = w.heap.size + 2 := Option.some.inj e; omega)).trans ((hg.block k (by omega) (fun e => by have := hr k e.symm; omega)).trans (h.B.block k hk))
  · rw [oth _ _ (.inl (by omega)), far _ _ (by omega)]; exact h.u0
  · intro k hk; rw [oth _ _ (.inl (by omega)), far _ _ (by omega)]; exact h.r k hk
  · intro k; rw [World.frozen?_setCell, farF _ _ (by omega)]; exact h.rf k
  · by_cases hi0 : i = 0
    · subst hi0; rw [h0, if_pos rfl]; exact same _ h.v0
    · rw [h0, if_neg hi0, oth _ _ (.inr (fun e => hi0 e.symm)), far _ _ (by omega)]; exact h.v0
  · by_cases hi0 : i = 1
    · subst hi0; rw [h1, if_pos rfl]; exact same _ h.v1
    · rw [h1, if_neg hi0, oth _ _ (.inr (fun e => hi0 e.symm)), far _ _ (by omega)]; exact h.v1
  · by_cases hi0 : i = 2
    · subst hi0; rw [h2, if_pos rfl]; exact same _ h.v2
    · rw [h2, if_neg hi0, oth _ _ (.inr (fun e => hi0 e.symm)), far _ _ (by omega)]; exact h.v2
  · intro k; rw [World.frozen?_setCell, farF _ _ (by omega)]; exact h.vf k
theorem DV.below (h : DV b w sv gv fv x vs us wr) (hb : Below wr.heap.size wr w1) : DV b w sv gv fv x vs us w1 := by
  have hsz := h.sz
  have c : ∀ y k, y < w.heap.size + 3 → w1.cell? ⟨y, k, none⟩ = wr.cell? ⟨y, k, none⟩ := fun y k hy => hb.cell (p := ⟨y, k, none⟩) (by show y < _; omega)
  have z : ∀ y k, y < w.heap.size + 3 → w1.frozen? ⟨y, k, none⟩ = wr.frozen? ⟨y, k, none⟩ := fun y k hy => hb.frozen (p := ⟨y, k, none⟩) (by show y < _; omega)
  exact ⟨h.B.trans (hb.mono h.B.size), Nat.le_trans hsz hb.size, (c _ _ (by omega)).trans h.u0, fun k hk => (c _ _ (by omega)).trans (h.r k hk), fun k => (z _ _ (by omega)).trans (h.rf k), (c _ _ (by omega)).trans h.v0, (c _ _ (by omega)).trans h.v1, (c _ _ (by omega)).trans h.v2, fun k => (z _ _ (by omega)).trans (h.vf k), h.D.below hb⟩
end
def VRel (b : Nat) (w : World) (t : Tree) (m : Nat) (i : Value) (wr : World) : Prop :=
  ∃ (k : Nat) (sv gv fv : Value) (vs us : List Value), k ≤ m ∧ i = .int .i64 k ∧ Hid (DV b w sv gv fv (infOf (t.kids.take k)) vs us wr)
theorem DV.start (b : Nat) (w : World) : DV b w (.slice none 0 0) (.slice none 0 0) (.slice none 0 0) infZ [] [] (((w.alloc (.cells #[.pointer (some ⟨b, 0, none⟩)] 25)).alloc (.cells #[.slice none 0 0, .slice none 0 0, .slice none 0 0] 44)).alloc (.cells #[.slice none 0 0, .slice none 0 0, .slice none 0 0] 44)) := by
  refine ⟨((b2 w _ _).trans ((b1 _ _).mono (by simp; omega))), by simp, ?_, ?_, ?_, ?_, ?_, ?_, ?_, DR.nil _ _⟩
  · simp [go_sem]
  · intro k hk
    match k, hk with
    | 0, _ => simp [go_sem]
    | 1, _ => simp [go_sem]
    | 2, _ => simp [go_sem]
  · intro k; simp [go_sem]
  · simp [go_sem]
  · simp [go_sem]
  · simp [go_sem]
  · intro k; simp [go_sem]
set_option maxRecDepth 100000 in
set_option maxHeartbeats 1000000 in
theorem cdeclared_any (E : CE) (b : Nat) (t : Tree) (w : World) (N : Nd E b t) (hB : Below E.w0.heap.size E.w0 w) (hk : ∀ (k : Nat) (d : Tree), t.kids[k]? = some d → d.op = 4 → 1 ≤ d.kids.length) :
    Calls Tryz.prog 107 #[.agg #[.pointer (some ⟨b, 0, none⟩)]] w fun e w' => ∃ sv gv fv vs us, e = .returned (.agg #[sv, gv, fv]) ∧ DR w' (w.heap.size + 3) sv gv fv (infOf t.kids) vs us ∧ Below w.heap.size w w' := by
  have HB := Lib.hid hB
  have NN := Lib.hid N
  have D0 := Lib.hid (DV.start b w)
  have HKK := Lib.hid hk
  obtain ⟨m, hm⟩ : ∃ m, t.kids.length = m := ⟨_, rfl⟩
  have HM := Lib.hid hm
  have hm6 : m ≤ 6000 := by obtain ⟨-, -, -, -, h, -⟩ := N.kid; omega
  clear N hk hm
  go_enter Tryz.func107, Tryz.ntmps107
  have u0 := D0.out.u0
  go_wp2_with fail
  generalize ((w.alloc (.cells #[.pointer (some ⟨b, 0, none⟩)] 25)).alloc (.cells #[.slice none 0 0, .slice none 0 0, .slice none 0 0] 44)).alloc (.cells #[.slice none 0 0, .slice none 0 0, .slice none 0 0] 44) = wa at *
  refine (ckids_at NN.out HB.out _ D0.out.B).mono ?_
  rintro e w1 ⟨rfl, hb⟩
  have D1 := Lib.hid (D0.out.below hb)
  rw [HM.out]
  clear hb u0 D0
  go_wp2_with fail
  go_loopw [8] (fun i wr => VRel b w t m i wr) (fun i _ => m - (intOf i).toNat)
  case atStart => exact ⟨0, _, _, _, _, _, Nat.zero_le _, rfl, D1⟩
  case round =>
    obtain ⟨k, sv, gv, fv, vs, us, hk, rfl, DR0⟩ := hrel
    by_cases hlt : k < m
    · obtain ⟨d, hu⟩ : ∃ u, t.kids[k]? = some u := ⟨_, List.getElem?_eq_getElem (by have := HM.out; omega)⟩
      have HU := Lib.hid hu
      have HK4 := Lib.hid (HKK.out k d hu)
      obtain ⟨nb, hn, hkd⟩ := ckid_at NN.out HB.out k d hu
      have N1 := Lib.hid hn
      have hd6 : d.kids.length ≤ 6000 := by obtain ⟨-, -, -, -, h, -⟩ := hn.kid; omega
      have KD := Lib.hid hkd
      have hxl := infOf_len t.kids k (by have := HM.out; omega)
      obtain ⟨X, hX⟩ : ∃ X, infOf (t.kids.take k) = X := ⟨_, rfl⟩
      have HX := Lib.hid hX
      rw [hX] at DR0 hxl
      obtain ⟨xl1, xl2, xl3⟩ := hxl
      have u0 := DR0.out.u0
      clear hu hn hkd hX
      go_wp2_with fail
      refine (KD.out _ DR0.out.B).mono ?_
      rintro e w2 ⟨rfl, hb⟩
      have DK0 := Lib.hid (DR0.out.below hb)
      have KC := Lib.hid (PtrAt.new w2 (some ⟨nb, 0, none⟩))
      have DKa := Lib.hid (DK0.out.below (b1 w2 (.cells #[.pointer (some ⟨nb, 0, none⟩)] 25)))
      clear hb u0 KD
      have kca := KC.out.c0
      go_wp2_with fail
      generalize w2.alloc (.cells #[.pointer (some ⟨nb, 0, none⟩)] 25) = wj at *
      refine (cop_at N1.out HB.out _ DKa.out.B).mono ?_
      rintro e wk ⟨rfl, hb⟩
      have DK := Lib.hid (DKa.out.below hb)
      have kc0 := keepC (Below.refl _ _) kca KC.out.lt hb
      have kl : w2.heap.size < wk.heap.size := Nat.lt_of_lt_of_le KC.out.lt hb.size
      have BW := Lib.hid DK.out.B
      have BK := Lib.hid (HB.out.trans (DK.out.B.mono HB.out.size))
      have v00 := DK.out.v0
      have v10 := DK.out.v1
      have v20 := DK.out.v2
      have vl : w.heap.size + 2 < wk.heap.size := by have := DK.out.sz; omega
      clear hb kca DKa KC DR0
      have hop : d.op = 2 ∨ d.op = 3 ∨ d.op = 4 ∨ (¬ d.op = 2 ∧ ¬ d.op = 3 ∧ ¬ d.op = 4) := by omega
      rcases hop with ho | ho | ho | ho
      · rw [ho]
        obtain ⟨i0, hi0, hz0, hz1, hz2⟩ := info_parts s99_info
        have HI0 := Lib.hid hi0
        have HZ0 := Lib.hid hz0
        have HZ1 := Lib.hid hz1
        have HZ2 := Lib.hid hz2
        clear hi0 hz0 hz1 hz2
        go_wp2_with fail
        refine rgX (fun w' => Below w.heap.size w w' ∧ w'.cell? ⟨w2.heap.size, 0, none⟩ = some (.pointer (some ⟨nb, 0, none⟩)) ∧ w'.cell? ⟨w.heap.size + 2, 0, none⟩ = some sv) [10] (by kernel_rfl) (⟨BW.out.drew, kc0, v00⟩) (fun _ a d v _ h => And.intro ((put_df a d v).symm.trans (And.left h)) (And.right h)) fun hHeld hq => ?_
        refine twX 0 { dst := some 18, op := .fieldAddr 44 (.tmp 3) 0, type := 0, pos := "declare.go:32", after := #[], guard := none } (v := ?v1_0) hq rfl (by kernel_rfl) ?y1_0 ?_
        case y1_0 => intro w; go_simp <;> with_reducible rfl
        try simp only [Act.put, List.setIfInBounds_toArray, List.set_cons_zero, List.set_cons_succ]
        refine tkX 1 { dst := some 19, op := .load 40 (.tmp 18), type := 40, pos := "declare.go:32", after := #[{ on := 0, ground := .data }], guard := none } (v := ?v1_1) hq hHeld rfl (by kernel_rfl) ?y1_1 ?_
        case y1_1 => (intro w h; try dsimp only at h); go_simp <;> with_reducible rfl
        try simp only [Act.put, List.setIfInBounds_toArray, List.set_cons_zero, List.set_cons_succ]
        refine tkX 2 { dst := some 20, op := .load 25 (.tmp 5), type := 25, pos := "declare.go:32", after := #[], guard := none } (v := ?v1_2) hq hHeld rfl (by kernel_rfl) ?y1_2 ?_
        case y1_2 => (intro w h; try dsimp only at h); go_simp <;> with_reducible rfl
        try simp only [Act.put, List.setIfInBounds_toArray, List.set_cons_zero, List.set_cons_succ]
        refine tkX 4 { dst := some 22, op := .load 25 (.tmp 5), type := 25, pos := "declare.go:32", after := #[], guard := none } (v := ?v1_4) hq hHeld rfl (by kernel_rfl) ?y1_4 ?_
        case y1_4 => (intro w h; try dsimp only at h); go_simp <;> with_reducible rfl
        try simp only [Act.put, List.setIfInBounds_toArray, List.set_cons_zero, List.set_cons_succ]
        refine clX 3 { dst := some 21, op := .call { callee := .value (.func 42), args := #[.tmp 20], argTypes := #[25] }, type := 9, pos := "declare.go:32", after := #[{ on := 2, ground := .data }], guard := none } rfl (by kernel_rfl) (by kernel_rfl) fun Kc hK => ?_
        go_simp
        refine (cname_at N1.out BK.out _ (Below.refl _ _).drew).mono ?_
        rintro e w8 ⟨rfl, hb⟩
        have hh8 := Lib.hid ((Below.refl wk.heap.size wk).drew.trans (hb.mono (Below.refl wk.heap.size wk).drew.size))
        clear hb
        have hHeld := And.intro (BW.out.trans (hh8.out.mono BW.out.size)) (And.intro (keepC (Below.refl _ _) kc0 kl hh8.out) (keepC (Below.refl _ _) v00 vl hh8.out))
        refine hK.out _ _ (fun _ _ => hHeld) ?_
        clear hK Kc
        try simp only [Act.put, List.setIfInBounds_toArray, List.set_cons_zero, List.set_cons_succ]
        refine clX 5 { dst := some 23, op := .call { callee := .value (.func 145), args := #[.tmp 22], argTypes := #[25] }, type := 41, pos := "declare.go:32", after := #[{ on := 4, ground := .data }, { on := 3, ground := .chain }], guard := none } rfl (by kernel_rfl) (by kernel_rfl) fun Kc hK => ?_
        go_simp
        refine (cparts_any E nb d w8 N1.out (BK.out.trans (hh8.out.mono BK.out.size)) HK4.out).mono ?_
        rintro e w9 ⟨pv, rfl, hpo, hb⟩
        have hh9 := Lib.hid (hh8.out.trans (hb.mono hh8.out.size))
        obtain ⟨PA, pc, rfl, -⟩ := fr_own hpo
        have OP := Lib.hid hpo
        clear hb hpo
        have hHeld := And.intro (BW.out.trans (hh9.out.mono BW.out.size)) (And.intro (keepC (Below.refl _ _) kc0 kl hh9.out) (keepC (Below.refl _ _) v00 vl hh9.out))
        refine hK.out _ _ (fun _ _ => hHeld) ?_
        clear hK Kc
        try simp only [Act.put, List.setIfInBounds_toArray, List.set_cons_zero, List.set_cons_succ]
        refine twX 6 { dst := some 24, op := .build 99 #[(0, .tmp 21), (1, .tmp 23)], type := 99, pos := "declare.go:32", after := #[{ on := 3, ground := .data }, { on := 5, ground := .data }], guard := none } (v := ?v1_6) hq rfl (by kernel_rfl) ?y1_6 ?_
        case y1_6 => intro w; go_simp <;> with_reducible rfl
        try simp only [Act.put, List.setIfInBounds_toArray, List.set_cons_zero, List.set_cons_succ]
        refine clX 7 { dst := some 25, op := .buildSlice 40 1 #[(0, .tmp 24)], type := 40, pos := "declare.go:32", after := #[{ on := 6, ground := .data }], guard := none } rfl (by kernel_rfl) (by kernel_rfl) fun Kc hK => ?_
        go_simp
        have hh10 := Lib.hid (hh9.out.trans ((b1 w9 (.cells #[.string (nm d), .slice PA (partsL d).length pc] 99)).mono hh9.out.size))
        have D10 := Lib.hid (DK.out.below hh10.out)
        have O10 := Lib.hid (own_below2 OP.out (b1 w9 (.cells #[.string (nm d), .slice PA (partsL d).length pc] 99)))
        have kl10 : w2.heap.size < (w9.alloc (.cells #[.string (nm d), .slice PA (partsL d).length pc] 99)).heap.size := Nat.lt_of_lt_of_le kl hh10.out.size
        have hHeld := And.intro (BW.out.trans (hh10.out.mono BW.out.size)) (And.intro (keepC (Below.refl _ _) kc0 kl hh10.out) (keepC (Below.refl _ _) v00 vl hh10.out))
        refine hK.out _ _ (fun _ _ => hHeld) ?_
        clear hK Kc
        try simp only [Act.put, List.setIfInBounds_toArray, List.set_cons_zero, List.set_cons_succ]
        refine clX 8 { dst := some 26, op := .call { callee := .builtin Builtin.append, args := #[.tmp 19, .tmp 25], argTypes := #[40, 40] }, type := 40, pos := "declare.go:32", after := #[{ on := 1, ground := .data }, { on := 7, ground := .data }, { on := 5, ground := .chain }], guard := none } rfl (by kernel_rfl) (by kernel_rfl) fun Kc hK => ?_
        refine wp_append_lies _ (.tmp 19) (.tmp 25) _ rfl (w.heap.size + 3) 99 i0 _ 2 40 Tryz.underlying40 HI0.out HZ0.out HZ1.out HZ2.out rfl (by omega) sv X.structs.length (cellsS X.structs vs) rfl (by exact D10.out.D.s) ⟨w9.heap.size, 0, none⟩ 1 1 [.string (nm d), .slice PA (partsL d).length pc] rfl rfl (by exact newsF w9 _ _ 99) (by simp [Value.oneCell']) (by omega) (by simp only [maxLen]; omega) (by omega) (by have := D10.out.sz; omega) _ rfl ?_
        intro g cap w11 hown hg hat hlt11
        have HOW := Lib.hid hown
        have HG := Lib.hid hg
        have HAT := Lib.hid hat
        have hr11 : ∀ y, Value.ownBlock sv = some y → w.heap.size + 3 ≤ y := fun y hy => (D10.out.D.s.lt y hy).1
        have kne : some w2.heap.size ≠ Value.ownBlock sv := fun e => by have h9 := (DK0.out.D.s.lt _ e.symm).2; omega
        clear hown hg hat
        have f11 : w11.frozen? ⟨w.heap.size + 2, 0, none⟩ = false := (HG.out.frozen_far ⟨w.heap.size + 2, 0, none⟩ (by show w.heap.size + 2 < _; have := D10.out.sz; omega) (fun e => by have h9 : w.heap.size + 3 ≤ w.heap.size + 2 := hr11 _ e.symm; omega)).trans (D10.out.vf _)
        have hHeld := And.intro (Below.mk (HG.out.os.trans D10.out.B.os) (HG.out.tape.trans D10.out.B.tape) (HG.out.output.trans D10.out.B.output) (Nat.le_trans D10.out.B.size HG.out.size) (fun k hk => (HG.out.block k (by have := D10.out.sz; omega) (fun e => by have := hr11 k e.symm; omega)).trans (D10.out.B.block k hk))) (And.intro ((HG.out.cell_far ⟨w2.heap.size, 0, none⟩ kl10 kne).trans hHeld.2.1) ((HG.out.cell_far ⟨w.heap.size + 2, 0, none⟩ (by show w.heap.size + 2 < _; have := D10.out.sz; omega) (fun e => by have h9 : w.heap.size + 3 ≤ w.heap.size + 2 := hr11 _ e.symm; omega)).trans hHeld.2.2))
        refine hK.out _ _ (fun _ _ => hHeld) ?_
        clear hK Kc
        try simp only [Act.put, List.setIfInBounds_toArray, List.set_cons_zero, List.set_cons_succ]
        refine twX 9 { dst := some 27, op := .fieldAddr 44 (.tmp 3) 0, type := 0, pos := "declare.go:32", after := #[{ on := 0, ground := .phase }, { on := 1, ground := .phase }, { on := 2, ground := .phase }, { on := 3, ground := .phase }, { on := 4, ground := .phase }, { on := 5, ground := .phase }, { on := 6, ground := .phase }, { on := 7, ground := .phase }, { on := 8, ground := .phase }], guard := none } (v := ?v1_9) hq rfl (by kernel_rfl) ?y1_9 ?_
        case y1_9 => intro w; go_simp <;> with_reducible rfl
        try simp only [Act.put, List.setIfInBounds_toArray, List.set_cons_zero, List.set_cons_succ]
        refine clX 10 { dst := none, op := .store 40 (.tmp 27) (.tmp 26), type := 0, pos := "declare.go:32", after := #[{ on := 9, ground := .data }, { on := 8, ground := .data }, { on := 8, ground := .chain }, { on := 0, ground := .phase }, { on := 1, ground := .phase }, { on := 2, ground := .phase }, { on := 3, ground := .phase }, { on := 4, ground := .phase }, { on := 5, ground := .phase }, { on := 6, ground := .phase }, { on := 7, ground := .phase }, { on := 8, ground := .phase }], guard := none } rfl (by kernel_rfl) (by kernel_rfl) fun Kc hK => ?_
        go_simp
        refine hK.out _ _ (fun h => absurd h (by decide)) ?_
        clear hK Kc
        try simp only [Act.put, List.setIfInBounds_toArray, List.set_cons_zero, List.set_cons_succ]
        refine dnX (by kernel_rfl) ?_ _
        have hnst : Nst (w9.alloc (.cells #[.string (nm d), .slice PA (partsL d).length pc] 99)) (w.heap.size + 3) gv (.slice PA (partsL d).length pc) (partsL d) := ⟨own_mono O10.out (by have h1 := DK.out.sz; have h2 := hh8.out.size; omega), fun g' h1 h2 => by have h3 := (O10.out.lt g' h1).1; have h4 := (DK.out.D.g.lt g' h2).2; have h5 := hh8.out.size; omega, by rw [partsL_len]; have := cntP_le d; omega⟩
        have hDn := D10.out.D.pushS (s := ⟨nm d, partsL d⟩) HG.out HOW.out hnst
        have HDV := Lib.hid (D10.out.grow HG.out hr11 hDn 0 _ rfl rfl rfl (by decide))
        have HIN : Hid (infOf (t.kids.take (k + 1)) = { X with structs := X.structs ++ [⟨nm d, partsL d⟩] }) := by show _ = _; rw [infOf_snoc HU.out, HX.out]; unfold addD; rw [if_pos ho]
        go_wp2_with fail
        go_roundw
        case rel => exact ⟨k + 1, _, _, _, _, _, by omega, by go_num, by rw [HIN.out]; exact HDV⟩
        case measure => simp [intOf]; omega
      · rw [ho]
        obtain ⟨i0, hi0, hz0, hz1, hz2⟩ := info_parts fld_info
        have HI0 := Lib.hid hi0
        have HZ0 := Lib.hid hz0
        have HZ1 := Lib.hid hz1
        have HZ2 := Lib.hid hz2
        clear hi0 hz0 hz1 hz2
        go_wp2_with fail
        refine rgX (fun w' => Below w.heap.size w w' ∧ w'.cell? ⟨w2.heap.size, 0, none⟩ = some (.pointer (some ⟨nb, 0, none⟩)) ∧ w'.cell? ⟨w.heap.size + 2, 1, none⟩ = some gv) [7] (by kernel_rfl) (⟨BW.out.drew, kc0, v10⟩) (fun _ a d v _ h => And.intro ((put_df a d v).symm.trans (And.left h)) (And.right h)) fun hHeld hq => ?_
        refine twX 0 { dst := some 30, op := .fieldAddr 44 (.tmp 3) 1, type := 0, pos := "declare.go:34", after := #[], guard := none } (v := ?v2_0) hq rfl (by kernel_rfl) ?y2_0 ?_
        case y2_0 => intro w; go_simp <;> with_reducible rfl
        try simp only [Act.put, List.setIfInBounds_toArray, List.set_cons_zero, List.set_cons_succ]
        refine tkX 1 { dst := some 31, op := .load 41 (.tmp 30), type := 41, pos := "declare.go:34", after := #[{ on := 0, ground := .data }], guard := none } (v := ?v2_1) hq hHeld rfl (by kernel_rfl) ?y2_1 ?_
        case y2_1 => (intro w h; try dsimp only at h); go_simp <;> with_reducible rfl
        try simp only [Act.put, List.setIfInBounds_toArray, List.set_cons_zero, List.set_cons_succ]
        refine tkX 2 { dst := some 32, op := .load 25 (.tmp 5), type := 25, pos := "declare.go:34", after := #[], guard := none } (v := ?v2_2) hq hHeld rfl (by kernel_rfl) ?y2_2 ?_
        case y2_2 => (intro w h; try dsimp only at h); go_simp <;> with_reducible rfl
        try simp only [Act.put, List.setIfInBounds_toArray, List.set_cons_zero, List.set_cons_succ]
        refine clX 3 { dst := some 33, op := .call { callee := .value (.func 146), args := #[.tmp 32], argTypes := #[25] }, type := 97, pos := "declare.go:34", after := #[{ on := 2, ground := .data }], guard := none } rfl (by kernel_rfl) (by kernel_rfl) fun Kc hK => ?_
        go_simp
        refine (cfieldOf_any E nb d wk.drew N1.out BK.out.drew).mono ?_
        rintro e w9 ⟨rfl, hb⟩
        have hh9 := Lib.hid ((Below.refl wk.heap.size wk).drew.trans (hb.mono (Below.refl wk.heap.size wk).drew.size))
        clear hb
        have hHeld := And.intro (BW.out.trans (hh9.out.mono BW.out.size)) (And.intro (keepC (Below.refl _ _) kc0 kl hh9.out) (keepC (Below.refl _ _) v10 vl hh9.out))
        refine hK.out _ _ (fun _ _ => hHeld) ?_
        clear hK Kc
        try simp only [Act.put, List.setIfInBounds_toArray, List.set_cons_zero, List.set_cons_succ]
        refine clX 4 { dst := some 34, op := .buildSlice 41 1 #[(0, .tmp 33)], type := 41, pos := "declare.go:34", after := #[{ on := 3, ground := .data }], guard := none } rfl (by kernel_rfl) (by kernel_rfl) fun Kc hK => ?_
        go_simp
        have hh10 := Lib.hid (hh9.out.trans ((b1 w9 (.cells #[.string (nm d), .string (tp d)] 97)).mono hh9.out.size))
        have D10 := Lib.hid (DK.out.below hh10.out)
        have kl10 : w2.heap.size < (w9.alloc (.cells #[.string (nm d), .string (tp d)] 97)).heap.size := Nat.lt_of_lt_of_le kl hh10.out.size
        have hHeld := And.intro (BW.out.trans (hh10.out.mono BW.out.size)) (And.intro (keepC (Below.refl _ _) kc0 kl hh10.out) (keepC (Below.refl _ _) v10 vl hh10.out))
        refine hK.out _ _ (fun _ _ => hHeld) ?_
        clear hK Kc
        try simp only [Act.put, List.setIfInBounds_toArray, List.set_cons_zero, List.set_cons_succ]
        refine clX 5 { dst := some 35, op := .call { callee := .builtin Builtin.append, args := #[.tmp 31, .tmp 34], argTypes := #[41, 41] }, type := 41, pos := "declare.go:34", after := #[{ on := 1, ground := .data }, { on := 4, ground := .data }, { on := 3, ground := .chain }], guard := none } rfl (by kernel_rfl) (by kernel_rfl) fun Kc hK => ?_
        refine wp_append_lies _ (.tmp 31) (.tmp 34) _ rfl (w.heap.size + 3) 97 i0 _ 2 32 Tryz.underlying41 HI0.out HZ0.out HZ1.out HZ2.out rfl (by omega) gv X.globals.length (cellsF X.globals) rfl (by exact D10.out.D.g) ⟨w9.heap.size, 0, none⟩ 1 1 [.string (nm d), .string (tp d)] rfl rfl (by exact newsF w9 _ _ 97) (by simp [Value.oneCell']) (by omega) (by simp only [maxLen]; omega) (by omega) (by have := D10.out.sz; omega) _ rfl ?_
        intro g cap w11 hown hg hat hlt11
        have HOW := Lib.hid hown
        have HG := Lib.hid hg
        have HAT := Lib.hid hat
        have hr11 : ∀ y, Value.ownBlock gv = some y → w.heap.size + 3 ≤ y := fun y hy => (D10.out.D.g.lt y hy).1
        have kne : some w2.heap.size ≠ Value.ownBlock gv := fun e => by have h9 := (DK0.out.D.g.lt _ e.symm).2; omega
        clear hown hg hat
        have f11 : w11.frozen? ⟨w.heap.size + 2, 1, none⟩ = false := (HG.out.frozen_far ⟨w.heap.size + 2, 1, none⟩ (by show w.heap.size + 2 < _; have := D10.out.sz; omega) (fun e => by have h9 : w.heap.size + 3 ≤ w.heap.size + 2 := hr11 _ e.symm; omega)).trans (D10.out.vf _)
        have hHeld := And.intro (Below.mk (HG.out.os.trans D10.out.B.os) (HG.out.tape.trans D10.out.B.tape) (HG.out.output.trans D10.out.B.output) (Nat.le_trans D10.out.B.size HG.out.size) (fun k hk => (HG.out.block k (by have := D10.out.sz; omega) (fun e => by have := hr11 k e.symm; omega)).trans (D10.out.B.block k hk))) (And.intro ((HG.out.cell_far ⟨w2.heap.size, 0, none⟩ kl10 kne).trans hHeld.2.1) ((HG.out.cell_far ⟨w.heap.size + 2, 1, none⟩ (by show w.heap.size + 2 < _; have := D10.out.sz; omega) (fun e => by have h9 : w.heap.size + 3 ≤ w.heap.size + 2 := hr11 _ e.symm; omega)).trans hHeld.2.2))
        refine hK.out _ _ (fun _ _ => hHeld) ?_
        clear hK Kc
        try simp only [Act.put, List.setIfInBounds_toArray, List.set_cons_zero, List.set_cons_succ]
        refine twX 6 { dst := some 36, op := .fieldAddr 44 (.tmp 3) 1, type := 0, pos := "declare.go:34", after := #[{ on := 0, ground := .phase }, { on := 1, ground := .phase }, { on := 2, ground := .phase }, { on := 3, ground := .phase }, { on := 4, ground := .phase }, { on := 5, ground := .phase }], guard := none } (v := ?v2_6) hq rfl (by kernel_rfl) ?y2_6 ?_
        case y2_6 => intro w; go_simp <;> with_reducible rfl
        try simp only [Act.put, List.setIfInBounds_toArray, List.set_cons_zero, List.set_cons_succ]
        refine clX 7 { dst := none, op := .store 41 (.tmp 36) (.tmp 35), type := 0, pos := "declare.go:34", after := #[{ on := 6, ground := .data }, { on := 5, ground := .data }, { on := 5, ground := .chain }, { on := 0, ground := .phase }, { on := 1, ground := .phase }, { on := 2, ground := .phase }, { on := 3, ground := .phase }, { on := 4, ground := .phase }, { on := 5, ground := .phase }], guard := none } rfl (by kernel_rfl) (by kernel_rfl) fun Kc hK => ?_
        go_simp
        refine hK.out _ _ (fun h => absurd h (by decide)) ?_
        clear hK Kc
        try simp only [Act.put, List.setIfInBounds_toArray, List.set_cons_zero, List.set_cons_succ]
        refine dnX (by kernel_rfl) ?_ _
        have hDn := D10.out.D.pushG (s := fldOf d) HG.out HOW.out (fun g' hg' => by
          have e : g = g' := Option.some.inj hg'
          subst e
          rcases HAT.out with h1 | h1
          · exact .inl h1
          · exact .inr (by rw [h1]; exact Nat.le_refl _))
        have HDV := Lib.hid (D10.out.grow HG.out hr11 hDn 1 _ rfl rfl rfl (by decide))
        have HIN : Hid (infOf (t.kids.take (k + 1)) = { X with globals := X.globals ++ [fldOf d] }) := by show _ = _; rw [infOf_snoc HU.out, HX.out]; unfold addD; rw [if_neg (by omega), if_pos ho]
        go_wp2_with fail
        go_roundw
        case rel => exact ⟨k + 1, _, _, _, _, _, by omega, by go_num, by rw [HIN.out]; exact HDV⟩
        case measure => simp [intOf]; omega
      · rw [ho]
        obtain ⟨i0, hi0, hz0, hz1, hz2⟩ := info_parts s55_info
        have HI0 := Lib.hid hi0
        have HZ0 := Lib.hid hz0
        have HZ1 := Lib.hid hz1
        have HZ2 := Lib.hid hz2
        clear hi0 hz0 hz1 hz2
        go_wp2_with fail
        refine rgX (fun w' => Below w.heap.size w w' ∧ w'.cell? ⟨w2.heap.size, 0, none⟩ = some (.pointer (some ⟨nb, 0, none⟩)) ∧ w'.cell? ⟨w.heap.size + 2, 2, none⟩ = some fv) [7] (by kernel_rfl) (⟨BW.out.drew, kc0, v20⟩) (fun _ a d v _ h => And.intro ((put_df a d v).symm.trans (And.left h)) (And.right h)) fun hHeld hq => ?_
        refine twX 0 { dst := some 39, op := .fieldAddr 44 (.tmp 3) 2, type := 0, pos := "declare.go:36", after := #[], guard := none } (v := ?v3_0) hq rfl (by kernel_rfl) ?y3_0 ?_
        case y3_0 => intro w; go_simp <;> with_reducible rfl
        try simp only [Act.put, List.setIfInBounds_toArray, List.set_cons_zero, List.set_cons_succ]
        refine tkX 1 { dst := some 40, op := .load 42 (.tmp 39), type := 42, pos := "declare.go:36", after := #[{ on := 0, ground := .data }], guard := none } (v := ?v3_1) hq hHeld rfl (by kernel_rfl) ?y3_1 ?_
        case y3_1 => (intro w h; try dsimp only at h); go_simp <;> with_reducible rfl
        try simp only [Act.put, List.setIfInBounds_toArray, List.set_cons_zero, List.set_cons_succ]
        refine tkX 2 { dst := some 41, op := .load 25 (.tmp 5), type := 25, pos := "declare.go:36", after := #[], guard := none } (v := ?v3_2) hq hHeld rfl (by kernel_rfl) ?y3_2 ?_
        case y3_2 => (intro w h; try dsimp only at h); go_simp <;> with_reducible rfl
        try simp only [Act.put, List.setIfInBounds_toArray, List.set_cons_zero, List.set_cons_succ]
        refine clX 3 { dst := some 42, op := .call { callee := .value (.func 147), args := #[.tmp 41], argTypes := #[25] }, type := 55, pos := "declare.go:36", after := #[{ on := 2, ground := .data }], guard := none } rfl (by kernel_rfl) (by kernel_rfl) fun Kc hK => ?_
        go_simp
        refine (csig_any E nb d wk.drew N1.out BK.out.drew HK4.out).mono ?_
        rintro e w9 ⟨pv, rfl, hpo, hb⟩
        have hh9 := Lib.hid ((Below.refl wk.heap.size wk).drew.trans (hb.mono (Below.refl wk.heap.size wk).drew.size))
        obtain ⟨PA, pc, rfl, -⟩ := fr_own hpo
        have OP := Lib.hid hpo
        clear hb hpo
        have hHeld := And.intro (BW.out.trans (hh9.out.mono BW.out.size)) (And.intro (keepC (Below.refl _ _) kc0 kl hh9.out) (keepC (Below.refl _ _) v20 vl hh9.out))
        refine hK.out _ _ (fun _ _ => hHeld) ?_
        clear hK Kc
        try simp only [Act.put, List.setIfInBounds_toArray, List.set_cons_zero, List.set_cons_succ]
        refine clX 4 { dst := some 43, op := .buildSlice 42 1 #[(0, .tmp 42)], type := 42, pos := "declare.go:36", after := #[{ on := 3, ground := .data }], guard := none } rfl (by kernel_rfl) (by kernel_rfl) fun Kc hK => ?_
        go_simp
        have hh10 := Lib.hid (hh9.out.trans ((b1 w9 (.cells #[.string (nm d), .slice PA (partsL d).length pc, .string (tp d)] 55)).mono hh9.out.size))
        have D10 := Lib.hid (DK.out.below hh10.out)
        have O10 := Lib.hid (own_below2 OP.out (b1 w9 (.cells #[.string (nm d), .slice PA (partsL d).length pc, .string (tp d)] 55)))
        have kl10 : w2.heap.size < (w9.alloc (.cells #[.string (nm d), .slice PA (partsL d).length pc, .string (tp d)] 55)).heap.size := Nat.lt_of_lt_of_le kl hh10.out.size
        have hHeld := And.intro (BW.out.trans (hh10.out.mono BW.out.size)) (And.intro (keepC (Below.refl _ _) kc0 kl hh10.out) (keepC (Below.refl _ _) v20 vl hh10.out))
        refine hK.out _ _ (fun _ _ => hHeld) ?_
        clear hK Kc
        try simp only [Act.put, List.setIfInBounds_toArray, List.set_cons_zero, List.set_cons_succ]
        refine clX 5 { dst := some 44, op := .call { callee := .builtin Builtin.append, args := #[.tmp 40, .tmp 43], argTypes := #[42, 42] }, type := 42, pos := "declare.go:36", after := #[{ on := 1, ground := .data }, { on := 4, ground := .data }, { on := 3, ground := .chain }], guard := none } rfl (by kernel_rfl) (by kernel_rfl) fun Kc hK => ?_
        refine wp_append_lies _ (.tmp 40) (.tmp 43) _ rfl (w.heap.size + 3) 55 i0 _ 3 56 Tryz.underlying42 HI0.out HZ0.out HZ1.out HZ2.out rfl (by omega) fv X.funs.length (cellsG X.funs us) rfl (by exact D10.out.D.f) ⟨w9.heap.size, 0, none⟩ 1 1 [.string (nm d), .slice PA (partsL d).length pc, .string (tp d)] rfl rfl (by exact newsG w9 _ _ _ 55) (by simp [Value.oneCell']) (by omega) (by simp only [maxLen]; omega) (by omega) (by have := D10.out.sz; omega) _ rfl ?_
        intro g cap w11 hown hg hat hlt11
        have HOW := Lib.hid hown
        have HG := Lib.hid hg
        have HAT := Lib.hid hat
        have hr11 : ∀ y, Value.ownBlock fv = some y → w.heap.size + 3 ≤ y := fun y hy => (D10.out.D.f.lt y hy).1
        have kne : some w2.heap.size ≠ Value.ownBlock fv := fun e => by have h9 := (DK0.out.D.f.lt _ e.symm).2; omega
        clear hown hg hat
        have f11 : w11.frozen? ⟨w.heap.size + 2, 2, none⟩ = false := (HG.out.frozen_far ⟨w.heap.size + 2, 2, none⟩ (by show w.heap.size + 2 < _; have := D10.out.sz; omega) (fun e => by have h9 : w.heap.size + 3 ≤ w.heap.size + 2 := hr11 _ e.symm; omega)).trans (D10.out.vf _)
        have hHeld := And.intro (Below.mk (HG.out.os.trans D10.out.B.os) (HG.out.tape.trans D10.out.B.tape) (HG.out.output.trans D10.out.B.output) (Nat.le_trans D10.out.B.size HG.out.size) (fun k hk => (HG.out.block k (by have := D10.out.sz; omega) (fun e => by have := hr11 k e.symm; omega)).trans (D10.out.B.block k hk))) (And.intro ((HG.out.cell_far ⟨w2.heap.size, 0, none⟩ kl10 kne).trans hHeld.2.1) ((HG.out.cell_far ⟨w.heap.size + 2, 2, none⟩ (by show w.heap.size + 2 < _; have := D10.out.sz; omega) (fun e => by have h9 : w.heap.size + 3 ≤ w.heap.size + 2 := hr11 _ e.symm; omega)).trans hHeld.2.2))
        refine hK.out _ _ (fun _ _ => hHeld) ?_
        clear hK Kc
        try simp only [Act.put, List.setIfInBounds_toArray, List.set_cons_zero, List.set_cons_succ]
        refine twX 6 { dst := some 45, op := .fieldAddr 44 (.tmp 3) 2, type := 0, pos := "declare.go:36", after := #[{ on := 0, ground := .phase }, { on := 1, ground := .phase }, { on := 2, ground := .phase }, { on := 3, ground := .phase }, { on := 4, ground := .phase }, { on := 5, ground := .phase }], guard := none } (v := ?v3_6) hq rfl (by kernel_rfl) ?y3_6 ?_
        case y3_6 => intro w; go_simp <;> with_reducible rfl
        try simp only [Act.put, List.setIfInBounds_toArray, List.set_cons_zero, List.set_cons_succ]
        refine clX 7 { dst := none, op := .store 42 (.tmp 45) (.tmp 44), type := 0, pos := "declare.go:36", after := #[{ on := 6, ground := .data }, { on := 5, ground := .data }, { on := 5, ground := .chain }, { on := 0, ground := .phase }, { on := 1, ground := .phase }, { on := 2, ground := .phase }, { on := 3, ground := .phase }, { on := 4, ground := .phase }, { on := 5, ground := .phase }], guard := none } rfl (by kernel_rfl) (by kernel_rfl) fun Kc hK => ?_
        go_simp
        refine hK.out _ _ (fun h => absurd h (by decide)) ?_
        clear hK Kc
        try simp only [Act.put, List.setIfInBounds_toArray, List.set_cons_zero, List.set_cons_succ]
        refine dnX (by kernel_rfl) ?_ _
        have hnst : Nst (w9.alloc (.cells #[.string (nm d), .slice PA (partsL d).length pc, .string (tp d)] 55)) (w.heap.size + 3) gv (.slice PA (partsL d).length pc) (partsL d) := ⟨own_mono O10.out (by have h1 := DK.out.sz; show _ ≤ wk.heap.size; omega), fun g' h1 h2 => by have h3 : wk.heap.size ≤ g' := (O10.out.lt g' h1).1; have h4 := (DK.out.D.g.lt g' h2).2; omega, by rw [partsL_len]; have := cntP_le d; omega⟩
        have hDn := D10.out.D.pushF (s := ⟨nm d, partsL d, tp d⟩) HG.out HOW.out hnst
        have HDV := Lib.hid (D10.out.grow HG.out hr11 hDn 2 _ rfl rfl rfl (by decide))
        have HIN : Hid (infOf (t.kids.take (k + 1)) = { X with funs := X.funs ++ [⟨nm d, partsL d, tp d⟩] }) := by show _ = _; rw [infOf_snoc HU.out, HX.out]; unfold addD; rw [if_neg (by omega), if_neg (by omega), if_pos ho]
        go_wp2_with fail
        go_roundw
        case rel => exact ⟨k + 1, _, _, _, _, _, by omega, by go_num, by rw [HIN.out]; exact HDV⟩
        case measure => simp [intOf]; omega
      · obtain ⟨n2, n3, n4⟩ := ho
        have f2 : ((d.op : Int) == 2) = false := by rw [beq_eq_false_iff_ne]; omega
        have f3 : ((d.op : Int) == 3) = false := by rw [beq_eq_false_iff_ne]; omega
        have f4 : ((d.op : Int) == 4) = false := by rw [beq_eq_false_iff_ne]; omega
        have HDV := DK
        have HIN : Hid (infOf (t.kids.take (k + 1)) = X) := by show _ = _; rw [infOf_snoc HU.out, HX.out]; unfold addD; rw [if_neg n2, if_neg n3, if_neg n4]
        clear n2 n3 n4
        go_wp2_with fail
        go_roundw
        case rel => exact ⟨k + 1, _, _, _, _, _, by omega, by go_num, by rw [HIN.out]; exact HDV⟩
        case measure => simp [intOf]; omega
    · obtain rfl : k = m := by omega
      have hall : t.kids.take k = t.kids := List.take_of_length_le (by have := HM.out; omega)
      rw [hall] at DR0
      obtain ⟨sA, gA, fA, sc, gc, fc, rfl, rfl, rfl, -⟩ := DR0.out.D.out
      have v0 := DR0.out.v0
      have v1 := DR0.out.v1
      have v2 := DR0.out.v2
      have r0 := DR0.out.r 0 (by decide)
      have r1 := DR0.out.r 1 (by decide)
      have r2 := DR0.out.r 2 (by decide)
      have q0 := DR0.out.rf 0
      have q1 := DR0.out.rf 1
      have q2 := DR0.out.rf 2
      have low : ∀ y, some (w.heap.size + 1) = some y → y < w.heap.size + 3 := fun y e => by have := Option.some.inj e; omega
      obtain ⟨s1, hs1⟩ : ∃ x, x = Value.slice sA (infOf t.kids).structs.length sc := ⟨_, rfl⟩
      obtain ⟨g1, hg1⟩ : ∃ x, x = Value.slice gA (infOf t.kids).globals.length gc := ⟨_, rfl⟩
      obtain ⟨f1, hf1⟩ : ∃ x, x = Value.slice fA (infOf t.kids).funs.length fc := ⟨_, rfl⟩
      have hDf := ((DR0.out.D.keep (kb_set wr ⟨w.heap.size + 1, 0, none⟩ (.slice sA (infOf t.kids).structs.length sc)) low).keep (kb_set _ ⟨w.heap.size + 1, 1, none⟩ (.slice gA (infOf t.kids).globals.length gc)) low).keep (kb_set _ ⟨w.heap.size + 1, 2, none⟩ (.slice fA (infOf t.kids).funs.length fc)) low
      have hBf := ((DR0.out.B.setCell (p := ⟨w.heap.size + 1, 0, none⟩) (Nat.le_succ _) (.slice sA (infOf t.kids).structs.length sc)).setCell (p := ⟨w.heap.size + 1, 1, none⟩) (Nat.le_succ _) (.slice gA (infOf t.kids).globals.length gc)).setCell (p := ⟨w.heap.size + 1, 2, none⟩) (Nat.le_succ _) (.slice fA (infOf t.kids).funs.length fc)
      have HDf := Lib.hid hDf
      have HBf := Lib.hid hBf
      clear hDf hBf hs1 hg1 hf1 low
      go_wp2_with fail
      refine bodyPost_ret (v := .agg #[.slice sA (infOf t.kids).structs.length sc, .slice gA (infOf t.kids).globals.length gc, .slice fA (infOf t.kids).funs.length fc]) (by simp [results, Tryz.results107, go_sem, r0, r1, r2]) rfl ?_
      exact ⟨_, _, _, _, _, rfl, HDf.out, HBf.out⟩

end Go.Proofs.YtkahbhfbgdbnfaaGreatDoor

/-
  CONTRACTS: isNewName, countAhead, mostOf, mostParts, checkNames of package check. Of what was there nothing has turned.
-/
namespace Go.Proofs.YtkahbhfbgdbnfaaGreatDoor
open Go.RowKit

theorem nmAt_at {ks : List Tree} {k : Nat} {u : Tree} (h : ks[k]? = some u) : nmAt ks k = nm u := by unfold nmAt; rw [List.getD_eq_getElem?_getD, h]; rfl
theorem opAt_at {ks : List Tree} {k : Nat} {u : Tree} (h : ks[k]? = some u) : opAt ks k = u.op := by unfold opAt; rw [List.getD_eq_getElem?_getD, h]; rfl
theorem cntN_le (ks : List Tree) (i : Nat) : ∀ k, cntN ks i k ≤ k
  | 0 => Nat.le_refl _
  | k + 1 => by unfold cntN; have := cntN_le ks i k; split <;> omega
/-- What a method that only asks answers. -/
def UQ (E : CE) (w : World) (r : CR Unit) (e : Ending) (w' : World) : Prop := Below w.heap.size w w' ∧ (match r with
  | .ok _ => e = .returned (.tuple #[])
  | .bad p er => e = cfE (E.pl p) er)
def firR (ks : List Tree) : Nat × Nat → CR Unit
  | (_, 0) => .ok ()
  | (i, e + 1) => .bad (ks.getD i Tree.zero).pos (e + 1)
theorem firC_eq (ks : List Tree) (g : Nat → Nat) (n : Nat) : firC ks g n = firR ks (fir g n 0) := by
  unfold firC firR; rfl
theorem uq_bad {E : CE} {w w' : World} {r : CR Unit} {p er : Nat} {e : Int} (h : Below w.heap.size w w') (hr : r = .bad p er) (he : (er : Int) = e) : UQ E w r (cfE (E.pl p) e) w' := ⟨h, by rw [hr, ← he]⟩
def NRel (w : World) (g : Nat → Nat) (m : Nat) (r : Nat × Nat) (i : Value) (wr : World) : Prop :=
  ∃ k : Nat, k ≤ m ∧ i = .int .i64 k ∧ Hid (fir g m k = r) ∧ Below w.heap.size w wr
set_option maxRecDepth 100000 in
set_option maxHeartbeats 400000 in
theorem cnew_any (E : CE) (b : Nat) (t : Tree) (w : World) (N : Nd E b t) (hB : Below E.w0.heap.size E.w0 w) (p : Nat) (dp : Tree) (hp : t.kids[p]? = some dp) :
    Calls Tryz.prog 149 #[.agg #[.pointer (some ⟨b, 0, none⟩)], .int .i64 p] w fun e w' => e = .returned (.bool (newB t.kids p)) ∧ Below w.heap.size w w' := by
  have B0 := Lib.hid (b1 w (.cells #[.pointer (some ⟨b, 0, none⟩)] 25))
  have HB0 := Lib.hid (hB.trans ((b1 w (.cells #[.pointer (some ⟨b, 0, none⟩)] 25)).mono hB.size))
  have U0 := Lib.hid (PtrAt.new w (some ⟨b, 0, none⟩))
  have NN := Lib.hid N
  have hp6 : p < 6000 := by obtain ⟨-, -, -, -, h, -⟩ := N.kid; have := (List.getElem?_eq_some_iff.1 hp).1; omega
  have hpl := (List.getElem?_eq_some_iff.1 hp).1
  obtain ⟨np, hnp, hkp⟩ := ckid_at N HB0.out p dp hp
  have NP := Lib.hid hnp
  have KP := Lib.hid hkp
  obtain ⟨r, hr⟩ : ∃ r, fst (fun j => eqB (nmAt t.kids j) (nmAt t.kids p)) p 0 = r := ⟨_, rfl⟩
  have HR := Lib.hid hr
  rw [show newB t.kids p = !r.isSome by unfold newB; rw [hr]]
  have HNP : Hid (nmAt t.kids p = nm dp) := nmAt_at hp
  clear N hnp hkp hr hp
  go_enter Tryz.func149, Tryz.ntmps149
  go_wp2_with fail
  generalize w.alloc (.cells #[.pointer (some ⟨b, 0, none⟩)] 25) = wa at *
  have u0 := U0.out.c0
  have ul := U0.out.lt
  go_loopw [7] (fun i wr => FRel wa (fun j => eqB (nmAt t.kids j) (nmAt t.kids p)) p r i wr) (fun i _ => p - (intOf i).toNat)
  case atStart => exact ⟨0, Nat.zero_le _, rfl, HR, Below.refl _ _⟩
  case round =>
    obtain ⟨k, hk, rfl, HK, hb0⟩ := hrel
    have HB := Lib.hid hb0
    by_cases hlt : k < p
    · obtain ⟨u, hu⟩ : ∃ u, t.kids[k]? = some u := ⟨_, List.getElem?_eq_getElem (by omega)⟩
      obtain ⟨nb, hn, hkd⟩ := ckid_at NN.out HB0.out k u hu
      have N1 := Lib.hid hn
      have KD := Lib.hid hkd
      have HNK : Hid (nmAt t.kids k = nm u) := nmAt_at hu
      have ur := keepC (Below.refl _ _) u0 ul hb0
      have ulr := Nat.lt_of_lt_of_le ul hb0.size
      obtain ⟨d, hd⟩ : ∃ d, eqB (nm u) (nm dp) = d := ⟨_, rfl⟩
      have hsp := eqB_spell hd
      have HD : Hid (eqB (nmAt t.kids k) (nmAt t.kids p) = d) := by show _ = _; rw [HNK.out, HNP.out]; exact hd
      clear hu hn hkd hb0 hd
      go_wp2_with fail
      refine rgS (fun w' => Below wr.heap.size wr w' ∧ w'.cell? ⟨w.heap.size, 0, none⟩ = some (.pointer (some ⟨b, 0, none⟩))) (by kernel_rfl) (⟨(Below.refl _ _).drew, ur⟩) (fun _ a d v _ h => And.intro ((put_df a d v).symm.trans (And.left h)) (And.right h)) fun hHeld hq => ?_
      refine tkS 0 { dst := some 10, op := .load 25 (.tmp 2), type := 25, pos := "declare.go:87", after := #[], guard := none } (v := ?v1_0) hq hHeld rfl (by kernel_rfl) ?y1_0 ?_
      case y1_0 => (intro w h; try dsimp only at h); go_simp <;> with_reducible rfl
      try simp only [Act.put, List.setIfInBounds_toArray, List.set_cons_zero, List.set_cons_succ]
      refine tkS 1 { dst := some 11, op := .move (.tmp 5), type := 3, pos := "declare.go:87", after := #[], guard := none } (v := ?v1_1) hq hHeld rfl (by kernel_rfl) ?y1_1 ?_
      case y1_1 => (intro w h; try dsimp only at h); go_simp <;> with_reducible rfl
      try simp only [Act.put, List.setIfInBounds_toArray, List.set_cons_zero, List.set_cons_succ]
      refine tkS 4 { dst := some 14, op := .load 25 (.tmp 2), type := 25, pos := "declare.go:87", after := #[], guard := none } (v := ?v1_4) hq hHeld rfl (by kernel_rfl) ?y1_4 ?_
      case y1_4 => (intro w h; try dsimp only at h); go_simp <;> with_reducible rfl
      try simp only [Act.put, List.setIfInBounds_toArray, List.set_cons_zero, List.set_cons_succ]
      refine tkS 5 { dst := some 15, op := .move (.tmp 1), type := 3, pos := "declare.go:87", after := #[], guard := none } (v := ?v1_5) hq hHeld rfl (by kernel_rfl) ?y1_5 ?_
      case y1_5 => (intro w h; try dsimp only at h); go_simp <;> with_reducible rfl
      try simp only [Act.put, List.setIfInBounds_toArray, List.set_cons_zero, List.set_cons_succ]
      refine clS 2 { dst := some 12, op := .call { callee := .value (.func 29), args := #[.tmp 10, .tmp 11], argTypes := #[25, 3] }, type := 25, pos := "declare.go:87", after := #[{ on := 0, ground := .data }, { on := 1, ground := .data }], guard := none } rfl (by kernel_rfl) (by kernel_rfl) fun Kc hK => ?_
      go_simp
      refine (KD.out _ (HB.out.trans (hHeld.1.mono HB.out.size))).mono ?_
      rintro e w1 ⟨rfl, hb⟩
      refine hK.out _ _ ⟨hHeld.1.trans (hb.mono hHeld.1.size), keepC hHeld.1 hHeld.2 ulr hb⟩ fun hHeld => ?_
      clear hb
      clear hK Kc
      try simp only [Act.put, List.setIfInBounds_toArray, List.set_cons_zero, List.set_cons_succ]
      refine clS 3 { dst := some 13, op := .call { callee := .value (.func 42), args := #[.tmp 12], argTypes := #[25] }, type := 9, pos := "declare.go:87", after := #[{ on := 2, ground := .data }, { on := 2, ground := .chain }], guard := none } rfl (by kernel_rfl) (by kernel_rfl) fun Kc hK => ?_
      go_simp
      refine (cname_at N1.out HB0.out _ (HB.out.trans (hHeld.1.mono HB.out.size))).mono ?_
      rintro e w1 ⟨rfl, hb⟩
      refine hK.out _ _ ⟨hHeld.1.trans (hb.mono hHeld.1.size), keepC hHeld.1 hHeld.2 ulr hb⟩ fun hHeld => ?_
      clear hb
      clear hK Kc
      try simp only [Act.put, List.setIfInBounds_toArray, List.set_cons_zero, List.set_cons_succ]
      refine clS 6 { dst := some 16, op := .call { callee := .value (.func 29), args := #[.tmp 14, .tmp 15], argTypes := #[25, 3] }, type := 25, pos := "declare.go:87", after := #[{ on := 4, ground := .data }, { on := 5, ground := .data }, { on := 3, ground := .chain }], guard := none } rfl (by kernel_rfl) (by kernel_rfl) fun Kc hK => ?_
      go_simp
      refine (KP.out _ (HB.out.trans (hHeld.1.mono HB.out.size))).mono ?_
      rintro e w1 ⟨rfl, hb⟩
      refine hK.out _ _ ⟨hHeld.1.trans (hb.mono hHeld.1.size), keepC hHeld.1 hHeld.2 ulr hb⟩ fun hHeld => ?_
      clear hb
      clear hK Kc
      try simp only [Act.put, List.setIfInBounds_toArray, List.set_cons_zero, List.set_cons_succ]
      refine clS 7 { dst := some 17, op := .call { callee := .value (.func 42), args := #[.tmp 16], argTypes := #[25] }, type := 9, pos := "declare.go:87", after := #[{ on := 6, ground := .data }, { on := 6, ground := .chain }], guard := none } rfl (by kernel_rfl) (by kernel_rfl) fun Kc hK => ?_
      go_simp
      refine (cname_at NP.out HB0.out _ (HB.out.trans (hHeld.1.mono HB.out.size))).mono ?_
      rintro e w1 ⟨rfl, hb⟩
      refine hK.out _ _ ⟨hHeld.1.trans (hb.mono hHeld.1.size), keepC hHeld.1 hHeld.2 ulr hb⟩ fun hHeld => ?_
      clear hb
      clear hK Kc
      try simp only [Act.put, List.setIfInBounds_toArray, List.set_cons_zero, List.set_cons_succ]
      refine tkS 8 { dst := some 18, op := .binOp .eql 9 (.tmp 13) (.tmp 17) 9, type := 4, pos := "declare.go:87", after := #[{ on := 3, ground := .data }, { on := 7, ground := .data }], guard := none } (v := ?v1_8) hq hHeld rfl (by kernel_rfl) ?y1_8 ?_
      case y1_8 => (intro w h; try dsimp only at h); go_simp <;> with_reducible rfl
      try simp only [Act.put, List.setIfInBounds_toArray, List.set_cons_zero, List.set_cons_succ]
      refine wpAnyH_done (by kernel_rfl) ?_ _
      have hh := Lib.hid (HB.out.trans (hHeld.1.mono HB.out.size))
      clear hHeld
      cases d with
      | true =>
        have hq : r = some k := HK.out.symm.trans (fst_hit hlt HD.out)
        subst hq
        go_wp2_with fail
        go_ret
        exact ⟨rfl, B0.out.trans (hh.out.mono B0.out.size)⟩
      | false =>
        have hq := Lib.hid ((fst_next hlt HD.out).symm.trans HK.out)
        go_wp2_with fail
        go_roundw
        case rel => exact ⟨k + 1, by omega, by go_num, hq, hh.out⟩
        case measure => simp [intOf]; omega
    · have hq : r = none := HK.out.symm.trans (fst_end (by omega))
      subst hq
      go_wp2_with fail
      go_ret
      exact ⟨rfl, B0.out.trans (HB.out.mono B0.out.size)⟩

def CRelN (wa : World) (ks : List Tree) (p : Nat) (c i : Value) (wr : World) : Prop := ∃ k : Nat, k ≤ p ∧ i = .int .i64 k ∧ c = .int .i64 (cntN ks p k : Nat) ∧ Below wa.heap.size wa wr
set_option maxRecDepth 100000 in
set_option maxHeartbeats 400000 in
theorem cahead_any (E : CE) (b : Nat) (t : Tree) (w : World) (N : Nd E b t) (hB : Below E.w0.heap.size E.w0 w) (p : Nat) (dp : Tree) (hp : t.kids[p]? = some dp) :
    Calls Tryz.prog 150 #[.agg #[.pointer (some ⟨b, 0, none⟩)], .int .i64 p] w fun e w' => e = .returned (.int .i64 (cntN t.kids p p : Nat)) ∧ Below w.heap.size w w' := by
  have B0 := Lib.hid (b1 w (.cells #[.pointer (some ⟨b, 0, none⟩)] 25))
  have HB0 := Lib.hid (hB.trans ((b1 w (.cells #[.pointer (some ⟨b, 0, none⟩)] 25)).mono hB.size))
  have U0 := Lib.hid (PtrAt.new w (some ⟨b, 0, none⟩))
  have NN := Lib.hid N
  have hp6 : p < 6000 := by obtain ⟨-, -, -, -, h, -⟩ := N.kid; have := (List.getElem?_eq_some_iff.1 hp).1; omega
  have hpl := (List.getElem?_eq_some_iff.1 hp).1
  obtain ⟨np, hnp, hkp⟩ := ckid_at N HB0.out p dp hp
  have NP := Lib.hid hnp
  have KP := Lib.hid hkp
  have HNP : Hid (opAt t.kids p = dp.op) := opAt_at hp
  clear N hnp hkp hp
  go_enter Tryz.func150, Tryz.ntmps150
  go_wp2_with fail
  generalize w.alloc (.cells #[.pointer (some ⟨b, 0, none⟩)] 25) = wa at *
  have u0 := U0.out.c0
  have ul := U0.out.lt
  go_loopw [5, 8] (fun c i wr => CRelN wa t.kids p c i wr) (fun _ i _ => p - (intOf i).toNat)
  case atStart => exact ⟨0, Nat.zero_le _, rfl, rfl, Below.refl _ _⟩
  case round =>
    obtain ⟨k, hk, rfl, rfl, hb0⟩ := hrel
    have HB := Lib.hid hb0
    have hc6 := cntN_le t.kids p k
    by_cases hlt : k < p
    · obtain ⟨u, hu⟩ : ∃ u, t.kids[k]? = some u := ⟨_, List.getElem?_eq_getElem (by omega)⟩
      obtain ⟨nb, hn, hkd⟩ := ckid_at NN.out HB0.out k u hu
      have N1 := Lib.hid hn
      have KD := Lib.hid hkd
      have HNK : Hid (opAt t.kids k = u.op) := opAt_at hu
      have ur := keepC (Below.refl _ _) u0 ul hb0
      have ulr := Nat.lt_of_lt_of_le ul hb0.size
      obtain ⟨d, hd⟩ : ∃ d, ((u.op : Int) == (dp.op : Int)) = d := ⟨_, rfl⟩
      have HC : Hid (cntN t.kids p (k + 1) = cntN t.kids p k + if d then 1 else 0) := by
        show _ = _
        rw [← hd]
        conv => lhs; unfold cntN
        rw [HNK.out, HNP.out]
        by_cases h : u.op = dp.op
        · simp [h]
        · have h' : ¬ (u.op : Int) = (dp.op : Int) := by omega
          simp [h, h']
      obtain ⟨C, hC⟩ : ∃ C, cntN t.kids p k = C := ⟨_, rfl⟩
      rw [hC] at HC hc6 ⊢
      clear hu hn hkd hb0 hC
      go_wp2_with fail
      refine rgS (fun w' => Below wr.heap.size wr w' ∧ w'.cell? ⟨w.heap.size, 0, none⟩ = some (.pointer (some ⟨b, 0, none⟩))) (by kernel_rfl) (⟨(Below.refl _ _).drew, ur⟩) (fun _ a d v _ h => And.intro ((put_df a d v).symm.trans (And.left h)) (And.right h)) fun hHeld hq => ?_
      refine tkS 0 { dst := some 11, op := .load 25 (.tmp 2), type := 25, pos := "declare.go:98", after := #[], guard := none } (v := ?v2_0) hq hHeld rfl (by kernel_rfl) ?y2_0 ?_
      case y2_0 => (intro w h; try dsimp only at h); go_simp <;> with_reducible rfl
      try simp only [Act.put, List.setIfInBounds_toArray, List.set_cons_zero, List.set_cons_succ]
      refine tkS 1 { dst := some 12, op := .move (.tmp 6), type := 3, pos := "declare.go:98", after := #[], guard := none } (v := ?v2_1) hq hHeld rfl (by kernel_rfl) ?y2_1 ?_
      case y2_1 => (intro w h; try dsimp only at h); go_simp <;> with_reducible rfl
      try simp only [Act.put, List.setIfInBounds_toArray, List.set_cons_zero, List.set_cons_succ]
      refine tkS 4 { dst := some 15, op := .load 25 (.tmp 2), type := 25, pos := "declare.go:98", after := #[], guard := none } (v := ?v2_4) hq hHeld rfl (by kernel_rfl) ?y2_4 ?_
      case y2_4 => (intro w h; try dsimp only at h); go_simp <;> with_reducible rfl
      try simp only [Act.put, List.setIfInBounds_toArray, List.set_cons_zero, List.set_cons_succ]
      refine tkS 5 { dst := some 16, op := .move (.tmp 1), type := 3, pos := "declare.go:98", after := #[], guard := none } (v := ?v2_5) hq hHeld rfl (by kernel_rfl) ?y2_5 ?_
      case y2_5 => (intro w h; try dsimp only at h); go_simp <;> with_reducible rfl
      try simp only [Act.put, List.setIfInBounds_toArray, List.set_cons_zero, List.set_cons_succ]
      refine clS 2 { dst := some 13, op := .call { callee := .value (.func 29), args := #[.tmp 11, .tmp 12], argTypes := #[25, 3] }, type := 25, pos := "declare.go:98", after := #[{ on := 0, ground := .data }, { on := 1, ground := .data }], guard := none } rfl (by kernel_rfl) (by kernel_rfl) fun Kc hK => ?_
      go_simp
      refine (KD.out _ (HB.out.trans (hHeld.1.mono HB.out.size))).mono ?_
      rintro e w1 ⟨rfl, hb⟩
      refine hK.out _ _ ⟨hHeld.1.trans (hb.mono hHeld.1.size), keepC hHeld.1 hHeld.2 ulr hb⟩ fun hHeld => ?_
      clear hb
      clear hK Kc
      try simp only [Act.put, List.setIfInBounds_toArray, List.set_cons_zero, List.set_cons_succ]
      refine clS 3 { dst := some 14, op := .call { callee := .value (.func 10), args := #[.tmp 13], argTypes := #[25] }, type := 3, pos := "declare.go:98", after := #[{ on := 2, ground := .data }, { on := 2, ground := .chain }], guard := none } rfl (by kernel_rfl) (by kernel_rfl) fun Kc hK => ?_
      go_simp
      refine (cop_at N1.out HB0.out _ (HB.out.trans (hHeld.1.mono HB.out.size))).mono ?_
      rintro e w1 ⟨rfl, hb⟩
      refine hK.out _ _ ⟨hHeld.1.trans (hb.mono hHeld.1.size), keepC hHeld.1 hHeld.2 ulr hb⟩ fun hHeld => ?_
      clear hb
      clear hK Kc
      try simp only [Act.put, List.setIfInBounds_toArray, List.set_cons_zero, List.set_cons_succ]
      refine clS 6 { dst := some 17, op := .call { callee := .value (.func 29), args := #[.tmp 15, .tmp 16], argTypes := #[25, 3] }, type := 25, pos := "declare.go:98", after := #[{ on := 4, ground := .data }, { on := 5, ground := .data }, { on := 3, ground := .chain }], guard := none } rfl (by kernel_rfl) (by kernel_rfl) fun Kc hK => ?_
      go_simp
      refine (KP.out _ (HB.out.trans (hHeld.1.mono HB.out.size))).mono ?_
      rintro e w1 ⟨rfl, hb⟩
      refine hK.out _ _ ⟨hHeld.1.trans (hb.mono hHeld.1.size), keepC hHeld.1 hHeld.2 ulr hb⟩ fun hHeld => ?_
      clear hb
      clear hK Kc
      try simp only [Act.put, List.setIfInBounds_toArray, List.set_cons_zero, List.set_cons_succ]
      refine clS 7 { dst := some 18, op := .call { callee := .value (.func 10), args := #[.tmp 17], argTypes := #[25] }, type := 3, pos := "declare.go:98", after := #[{ on := 6, ground := .data }, { on := 6, ground := .chain }], guard := none } rfl (by kernel_rfl) (by kernel_rfl) fun Kc hK => ?_
      go_simp
      refine (cop_at NP.out HB0.out _ (HB.out.trans (hHeld.1.mono HB.out.size))).mono ?_
      rintro e w1 ⟨rfl, hb⟩
      refine hK.out _ _ ⟨hHeld.1.trans (hb.mono hHeld.1.size), keepC hHeld.1 hHeld.2 ulr hb⟩ fun hHeld => ?_
      clear hb
      clear hK Kc
      try simp only [Act.put, List.setIfInBounds_toArray, List.set_cons_zero, List.set_cons_succ]
      refine tkS 8 { dst := some 19, op := .binOp .eql 3 (.tmp 14) (.tmp 18) 3, type := 4, pos := "declare.go:98", after := #[{ on := 3, ground := .data }, { on := 7, ground := .data }], guard := none } (v := ?v2_8) hq hHeld rfl (by kernel_rfl) ?y2_8 ?_
      case y2_8 => (intro w h; try dsimp only at h); go_simp <;> with_reducible rfl
      try simp only [Act.put, List.setIfInBounds_toArray, List.set_cons_zero, List.set_cons_succ]
      refine wpAnyH_done (by kernel_rfl) ?_ _
      have hh := Lib.hid (HB.out.trans (hHeld.1.mono HB.out.size))
      clear hHeld
      cases d with
      | true =>
        go_wp2_with fail
        go_roundw
        case rel => exact ⟨k + 1, by omega, by go_num, by rw [HC.out]; go_num, hh.out⟩
        case measure => simp [intOf]; omega
      | false =>
        go_wp2_with fail
        go_roundw
        case rel => exact ⟨k + 1, by omega, by go_num, by rw [HC.out]; rfl, hh.out⟩
        case measure => simp [intOf]; omega
    · obtain rfl : k = p := by omega
      go_wp2_with fail
      go_ret
      exact ⟨rfl, B0.out.trans (HB.out.mono B0.out.size)⟩

set_option maxRecDepth 100000 in
set_option maxHeartbeats 400000 in
theorem cmostOf_any (op : Nat) (w : World) : Calls Tryz.prog 151 #[.int .i64 op] w fun e w' => e = .returned (.int .i64 (mostD op : Nat)) ∧ w = w' := by
  by_cases h2 : op = 2
  · subst h2
    go_enter Tryz.func151, Tryz.ntmps151
    go_wp2_with fail
    go_ret
    exact ⟨rfl, rfl⟩
  · by_cases h3 : op = 3
    · subst h3
      go_enter Tryz.func151, Tryz.ntmps151
      go_wp2_with fail
      go_ret
      exact ⟨rfl, rfl⟩
    · rw [show mostD op = 24 by unfold mostD; rw [if_neg h2, if_neg h3]]
      have f2 : ((op : Int) == 2) = false := by rw [beq_eq_false_iff_ne]; omega
      have f3 : ((op : Int) == 3) = false := by rw [beq_eq_false_iff_ne]; omega
      go_enter Tryz.func151, Tryz.ntmps151
      go_wp2_with fail
      go_ret
      exact ⟨rfl, rfl⟩
set_option maxRecDepth 100000 in
set_option maxHeartbeats 400000 in
theorem cmostParts_any (op : Nat) (w : World) : Calls Tryz.prog 153 #[.int .i64 op] w fun e w' => e = .returned (.int .i64 (mostPt op : Nat)) ∧ w = w' := by
  by_cases h2 : op = 2
  · subst h2
    go_enter Tryz.func153, Tryz.ntmps153
    go_wp2_with fail
    go_ret
    exact ⟨rfl, rfl⟩
  · rw [show mostPt op = 6 by unfold mostPt; rw [if_neg h2]]
    have f2 : ((op : Int) == 2) = false := by rw [beq_eq_false_iff_ne]; omega
    go_enter Tryz.func153, Tryz.ntmps153
    go_wp2_with fail
    go_ret
    exact ⟨rfl, rfl⟩

set_option maxRecDepth 100000 in
set_option maxHeartbeats 400000 in
theorem cnames_any (E : CE) (b : Nat) (t : Tree) (w : World) (N : Nd E b t) (hB : Below E.w0.heap.size E.w0 w) :
    Calls Tryz.prog 108 #[.agg #[.pointer (some ⟨b, 0, none⟩)]] w (UQ E w (firC t.kids (nameE t.kids) t.kids.length)) := by
  have B0 := Lib.hid (b1 w (.cells #[.pointer (some ⟨b, 0, none⟩)] 25))
  have HB0 := Lib.hid (hB.trans ((b1 w (.cells #[.pointer (some ⟨b, 0, none⟩)] 25)).mono hB.size))
  have U0 := Lib.hid (PtrAt.new w (some ⟨b, 0, none⟩))
  have NN := Lib.hid N
  obtain ⟨m, hm⟩ : ∃ m, t.kids.length = m := ⟨_, rfl⟩
  have HM := Lib.hid hm
  have hm6 : m ≤ 6000 := by obtain ⟨-, -, -, -, h, -⟩ := N.kid; omega
  obtain ⟨r, hr⟩ : ∃ r, fir (nameE t.kids) m 0 = r := ⟨_, rfl⟩
  have HR := Lib.hid hr
  rw [firC_eq, hm, hr]
  clear N hm hr
  go_enter Tryz.func108, Tryz.ntmps108
  go_wp2_with fail
  generalize w.alloc (.cells #[.pointer (some ⟨b, 0, none⟩)] 25) = wa at *
  have u0 := U0.out.c0
  have ul := U0.out.lt
  refine (ckids_at NN.out HB0.out _ (Below.refl _ _)).mono ?_
  rintro e w1 ⟨rfl, hb⟩
  have HB1 := Lib.hid hb
  rw [HM.out]
  clear hb
  go_wp2_with fail
  go_loopw [6] (fun i wr => NRel wa (nameE t.kids) m r i wr) (fun i _ => m - (intOf i).toNat)
  case atStart => exact ⟨0, Nat.zero_le _, rfl, HR, HB1.out⟩
  case round =>
    obtain ⟨k, hk, rfl, HK, hb0⟩ := hrel
    have HB := Lib.hid hb0
    by_cases hlt : k < m
    · obtain ⟨u, hu⟩ : ∃ u, t.kids[k]? = some u := ⟨_, List.getElem?_eq_getElem (by have := HM.out; omega)⟩
      obtain ⟨nb, hn, hkd⟩ := ckid_at NN.out HB0.out k u hu
      have HU := Lib.hid hu
      have N1 := Lib.hid hn
      have KD := Lib.hid hkd
      have ur := keepC (Below.refl _ _) u0 ul hb0
      have HGP : Hid (t.kids.getD k Tree.zero = u) := by show _ = _; rw [List.getD_eq_getElem?_getD, hu]; rfl
      have HOK : Hid (opAt t.kids k = u.op) := opAt_at hu
      clear hu hn hkd hb0
      go_wp2_with fail
      refine (KD.out _ HB.out).mono ?_
      rintro e w2 ⟨rfl, hb⟩
      have H2 := Lib.hid (HB.out.trans (hb.mono HB.out.size))
      have KC := Lib.hid (PtrAt.new w2 (some ⟨nb, 0, none⟩))
      have H4 := Lib.hid (H2.out.trans ((b1 w2 (.cells #[.pointer (some ⟨nb, 0, none⟩)] 25)).mono H2.out.size))
      clear hb KD ur
      have k0 := KC.out.c0
      have kl := KC.out.lt
      go_wp2_with fail
      generalize w2.alloc (.cells #[.pointer (some ⟨nb, 0, none⟩)] 25) = w4 at *
      have u4 := keepC (Below.refl _ _) u0 ul H4.out
      have ul4 := Nat.lt_of_lt_of_le ul H4.out.size
      obtain ⟨d, hd⟩ : ∃ d, newB t.kids k = d := ⟨_, rfl⟩
      have HD := Lib.hid hd
      obtain ⟨cn, hcn⟩ : ∃ d, cntN t.kids k k = d := ⟨_, rfl⟩
      obtain ⟨mo, hmo⟩ : ∃ d, mostD u.op = d := ⟨_, rfl⟩
      obtain ⟨d2, hd2⟩ : ∃ d, decide (cn < mo) = d := ⟨_, rfl⟩
      have HCN := Lib.hid hcn
      have HMO := Lib.hid hmo
      have HE : Hid (nameE t.kids k = if d then (if d2 then 0 else 4) else 6) := by
        show _ = _
        unfold nameE
        rw [hd, hcn, HOK.out, hmo, ← hd2]
        by_cases h : cn < mo
        · simp [h]
        · simp [h]
      have HF6 : Hid (firR t.kids (k, 6) = .bad u.pos 6) := by show CR.bad (t.kids.getD k Tree.zero).pos 6 = _; rw [HGP.out]
      have HF4 : Hid (firR t.kids (k, 4) = .bad u.pos 4) := by show CR.bad (t.kids.getD k Tree.zero).pos 4 = _; rw [HGP.out]
      have BA : Hid (∀ w', Below w4.heap.size w4 w' → Below w.heap.size w w') := fun w' h => B0.out.trans ((H4.out.trans (h.mono H4.out.size)).mono B0.out.size)
      have BEW := Lib.hid (HB0.out.trans (H4.out.mono HB0.out.size))
      clear hd hcn hmo
      refine rgS (fun w' => Below w4.heap.size w4 w' ∧ w'.cell? ⟨w2.heap.size, 0, none⟩ = some (.pointer (some ⟨nb, 0, none⟩)) ∧ w'.cell? ⟨w.heap.size, 0, none⟩ = some (.pointer (some ⟨b, 0, none⟩))) (by kernel_rfl) (⟨(Below.refl _ _).drew, k0, u4⟩) (fun _ a d v _ h => And.intro ((put_df a d v).symm.trans (And.left h)) (And.right h)) fun hHeld hq => ?_
      refine tkS 0 { dst := some 12, op := .load 25 (.tmp 3), type := 25, pos := "declare.go:79", after := #[], guard := none } (v := ?v3_0) hq hHeld rfl (by kernel_rfl) ?y3_0 ?_
      case y3_0 => (intro w h; try dsimp only at h); go_simp <;> with_reducible rfl
      try simp only [Act.put, List.setIfInBounds_toArray, List.set_cons_zero, List.set_cons_succ]
      refine tkS 1 { dst := some 13, op := .load 25 (.tmp 1), type := 25, pos := "declare.go:79", after := #[], guard := none } (v := ?v3_1) hq hHeld rfl (by kernel_rfl) ?y3_1 ?_
      case y3_1 => (intro w h; try dsimp only at h); go_simp <;> with_reducible rfl
      try simp only [Act.put, List.setIfInBounds_toArray, List.set_cons_zero, List.set_cons_succ]
      refine tkS 2 { dst := some 14, op := .move (.tmp 2), type := 3, pos := "declare.go:79", after := #[], guard := none } (v := ?v3_2) hq hHeld rfl (by kernel_rfl) ?y3_2 ?_
      case y3_2 => (intro w h; try dsimp only at h); go_simp <;> with_reducible rfl
      try simp only [Act.put, List.setIfInBounds_toArray, List.set_cons_zero, List.set_cons_succ]
      refine clS 3 { dst := some 15, op := .call { callee := .value (.func 149), args := #[.tmp 13, .tmp 14], argTypes := #[25, 3] }, type := 4, pos := "declare.go:79", after := #[{ on := 1, ground := .data }, { on := 2, ground := .data }], guard := none } rfl (by kernel_rfl) (by kernel_rfl) fun Kc hK => ?_
      go_simp
      refine (cnew_any E b t _ NN.out (BEW.out.trans (hHeld.1.mono BEW.out.size)) k u HU.out).mono ?_
      rintro e w1 ⟨rfl, hb⟩
      rw [HD.out]
      refine hK.out _ _ ⟨hHeld.1.trans (hb.mono hHeld.1.size), keepC hHeld.1 hHeld.2.1 kl hb, keepC hHeld.1 hHeld.2.2 ul4 hb⟩ fun hHeld => ?_
      clear hb
      clear hK Kc
      try simp only [Act.put, List.setIfInBounds_toArray, List.set_cons_zero, List.set_cons_succ]
      refine clS 4 { dst := some 16, op := .call { callee := .value (.func 148), args := #[.tmp 12, .tmp 15, .const (.int .i64 6)], argTypes := #[25, 4, 26] }, type := 0, pos := "declare.go:79", after := #[{ on := 0, ground := .data }, { on := 3, ground := .data }, { on := 3, ground := .chain }], guard := none } rfl (by kernel_rfl) (by kernel_rfl) fun Kc hK => ?_
      go_simp
      refine (cneed_at N1.out BEW.out d 6 _ hHeld.1).mono ?_
      rintro e w1 ⟨hb, he⟩
      cases d with
      | false => obtain rfl := he; exact ⟨rfl, uq_bad (BA.out _ (hHeld.1.trans (hb.mono hHeld.1.size))) (er := 6) (by rw [← HK.out, fir_hit hlt (by rw [HE.out]; exact (by decide : (6 : Nat) ≠ 0)), HE.out]; exact HF6.out) rfl⟩
      | true =>
      obtain rfl := he
      refine hK.out _ _ ⟨hHeld.1.trans (hb.mono hHeld.1.size), keepC hHeld.1 hHeld.2.1 kl hb, keepC hHeld.1 hHeld.2.2 ul4 hb⟩ fun hHeld => ?_
      clear hb
      clear hK Kc
      try simp only [Act.put, List.setIfInBounds_toArray, List.set_cons_zero, List.set_cons_succ]
      refine wpAnyH_done (by kernel_rfl) ?_ _
      go_wp2_with fail
      have k0 := hHeld.2.1
      have u4 := hHeld.2.2
      refine rgS (fun w' => Below w4.heap.size w4 w' ∧ w'.cell? ⟨w2.heap.size, 0, none⟩ = some (.pointer (some ⟨nb, 0, none⟩)) ∧ w'.cell? ⟨w.heap.size, 0, none⟩ = some (.pointer (some ⟨b, 0, none⟩))) (by kernel_rfl) (⟨hHeld.1.drew, k0, u4⟩) (fun _ a d v _ h => And.intro ((put_df a d v).symm.trans (And.left h)) (And.right h)) fun hHeld hq => ?_
      refine tkS 0 { dst := some 17, op := .load 25 (.tmp 3), type := 25, pos := "declare.go:80", after := #[], guard := none } (v := ?v4_0) hq hHeld rfl (by kernel_rfl) ?y4_0 ?_
      case y4_0 => (intro w h; try dsimp only at h); go_simp <;> with_reducible rfl
      try simp only [Act.put, List.setIfInBounds_toArray, List.set_cons_zero, List.set_cons_succ]
      refine tkS 1 { dst := some 18, op := .load 25 (.tmp 1), type := 25, pos := "declare.go:80", after := #[], guard := none } (v := ?v4_1) hq hHeld rfl (by kernel_rfl) ?y4_1 ?_
      case y4_1 => (intro w h; try dsimp only at h); go_simp <;> with_reducible rfl
      try simp only [Act.put, List.setIfInBounds_toArray, List.set_cons_zero, List.set_cons_succ]
      refine tkS 2 { dst := some 19, op := .move (.tmp 2), type := 3, pos := "declare.go:80", after := #[], guard := none } (v := ?v4_2) hq hHeld rfl (by kernel_rfl) ?y4_2 ?_
      case y4_2 => (intro w h; try dsimp only at h); go_simp <;> with_reducible rfl
      try simp only [Act.put, List.setIfInBounds_toArray, List.set_cons_zero, List.set_cons_succ]
      refine tkS 4 { dst := some 21, op := .load 25 (.tmp 3), type := 25, pos := "declare.go:80", after := #[], guard := none } (v := ?v4_4) hq hHeld rfl (by kernel_rfl) ?y4_4 ?_
      case y4_4 => (intro w h; try dsimp only at h); go_simp <;> with_reducible rfl
      try simp only [Act.put, List.setIfInBounds_toArray, List.set_cons_zero, List.set_cons_succ]
      refine clS 3 { dst := some 20, op := .call { callee := .value (.func 150), args := #[.tmp 18, .tmp 19], argTypes := #[25, 3] }, type := 3, pos := "declare.go:80", after := #[{ on := 1, ground := .data }, { on := 2, ground := .data }], guard := none } rfl (by kernel_rfl) (by kernel_rfl) fun Kc hK => ?_
      go_simp
      refine (cahead_any E b t _ NN.out (BEW.out.trans (hHeld.1.mono BEW.out.size)) k u HU.out).mono ?_
      rintro e w1 ⟨rfl, hb⟩
      rw [HCN.out]
      refine hK.out _ _ ⟨hHeld.1.trans (hb.mono hHeld.1.size), keepC hHeld.1 hHeld.2.1 kl hb, keepC hHeld.1 hHeld.2.2 ul4 hb⟩ fun hHeld => ?_
      clear hb
      clear hK Kc
      try simp only [Act.put, List.setIfInBounds_toArray, List.set_cons_zero, List.set_cons_succ]
      refine clS 5 { dst := some 22, op := .call { callee := .value (.func 10), args := #[.tmp 21], argTypes := #[25] }, type := 3, pos := "declare.go:80", after := #[{ on := 4, ground := .data }, { on := 3, ground := .chain }], guard := none } rfl (by kernel_rfl) (by kernel_rfl) fun Kc hK => ?_
      go_simp
      refine (cop_at N1.out BEW.out _ hHeld.1).mono ?_
      rintro e w1 ⟨rfl, hb⟩
      refine hK.out _ _ ⟨hHeld.1.trans (hb.mono hHeld.1.size), keepC hHeld.1 hHeld.2.1 kl hb, keepC hHeld.1 hHeld.2.2 ul4 hb⟩ fun hHeld => ?_
      clear hb
      clear hK Kc
      try simp only [Act.put, List.setIfInBounds_toArray, List.set_cons_zero, List.set_cons_succ]
      refine clS 6 { dst := some 23, op := .call { callee := .value (.func 151), args := #[.tmp 22], argTypes := #[3] }, type := 3, pos := "declare.go:80", after := #[{ on := 5, ground := .data }, { on := 5, ground := .chain }], guard := none } rfl (by kernel_rfl) (by kernel_rfl) fun Kc hK => ?_
      go_simp
      refine (sameB (cmostOf_any u.op _)).mono ?_
      rintro e w1 ⟨rfl, hb⟩
      rw [HMO.out]
      refine hK.out _ _ ⟨hHeld.1.trans (hb.mono hHeld.1.size), keepC hHeld.1 hHeld.2.1 kl hb, keepC hHeld.1 hHeld.2.2 ul4 hb⟩ fun hHeld => ?_
      clear hb
      clear hK Kc
      try simp only [Act.put, List.setIfInBounds_toArray, List.set_cons_zero, List.set_cons_succ]
      refine tkS 7 { dst := some 24, op := .binOp .lss 3 (.tmp 20) (.tmp 23) 3, type := 4, pos := "declare.go:80", after := #[{ on := 3, ground := .data }, { on := 6, ground := .data }], guard := none } (v := ?v4_7) hq hHeld rfl (by kernel_rfl) ?y4_7 ?_
      case y4_7 => (intro w h; try dsimp only at h); go_simp <;> with_reducible rfl
      try simp only [Act.put, List.setIfInBounds_toArray, List.set_cons_zero, List.set_cons_succ]
      refine clS 8 { dst := some 25, op := .call { callee := .value (.func 148), args := #[.tmp 17, .tmp 24, .const (.int .i64 4)], argTypes := #[25, 4, 26] }, type := 0, pos := "declare.go:80", after := #[{ on := 0, ground := .data }, { on := 7, ground := .data }, { on := 6, ground := .chain }], guard := none } rfl (by kernel_rfl) (by kernel_rfl) fun Kc hK => ?_
      go_simp
      refine (cneed_at N1.out BEW.out d2 4 _ hHeld.1).mono ?_
      rintro e w1 ⟨hb, he⟩
      cases d2 with
      | false => obtain rfl := he; exact ⟨rfl, uq_bad (BA.out _ (hHeld.1.trans (hb.mono hHeld.1.size))) (er := 4) (by rw [← HK.out, fir_hit hlt (by rw [HE.out]; exact (by decide : (4 : Nat) ≠ 0)), HE.out]; exact HF4.out) rfl⟩
      | true =>
      obtain rfl := he
      refine hK.out _ _ ⟨hHeld.1.trans (hb.mono hHeld.1.size), keepC hHeld.1 hHeld.2.1 kl hb, keepC hHeld.1 hHeld.2.2 ul4 hb⟩ fun hHeld => ?_
      clear hb
      clear hK Kc
      try simp only [Act.put, List.setIfInBounds_toArray, List.set_cons_zero, List.set_cons_succ]
      refine wpAnyH_done (by kernel_rfl) ?_ _
      have hh := Lib.hid (H4.out.trans (hHeld.1.mono H4.out.size))
      clear hHeld
      have hq := Lib.hid ((fir_next hlt (by rw [HE.out]; rfl)).symm.trans HK.out)
      go_wp2_with fail
      go_roundw
      case rel => exact ⟨k + 1, by omega, by go_num, hq, hh.out⟩
      case measure => simp [intOf]; omega
    · have hq : r = (0, 0) := HK.out.symm.trans (fir_end (by omega))
      subst hq
      go_wp2_with fail
      refine bodyPost_end (v := .tuple #[]) (by simp [results, Tryz.results108, go_sem]) rfl ?_
      exact ⟨B0.out.trans (HB.out.mono B0.out.size), rfl⟩

end Go.Proofs.YtkahbhfbgdbnfaaGreatDoor
