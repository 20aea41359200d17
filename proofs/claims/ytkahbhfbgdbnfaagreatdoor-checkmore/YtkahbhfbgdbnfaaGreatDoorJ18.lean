/-
  RULE: what known[first:] is. No condition.
-/
import Derived.Test.YtkahbhfbgdbnfaaGreatDoorJ17
namespace Go.Proofs.YtkahbhfbgdbnfaaGreatDoor
open Go.RowKit

set_option maxRecDepth 100000 in
theorem slice_some (g o : Nat) (m c f : Nat) (hf : f ≤ m) (hm : m ≤ c) (w : World) :
    (Instr.sliceAt 41 (.slice (some ⟨g, o, none⟩) m c) (some (.int .i64 f)) none none).run Tryz.prog w = .ok (.slice (some ⟨g, if c = f then o else o + f * 2, none⟩) (m - f) (c - f)) w := by
  have h0 : (0 : Int) ≤ (f : Int) := by omega
  have h1 : (f : Int) ≤ (m : Int) := by omega
  have h2 : (m : Int) ≤ (c : Int) := by omega
  have h3 : f ≤ c := by omega
  by_cases h : c = f
  · subst h
    obtain rfl : m = c := by omega
    go_simp
  · have h' : ¬ f = c := fun e => h e.symm
    go_simp
set_option maxRecDepth 100000 in
theorem slice_none (w : World) : (Instr.sliceAt 41 (.slice none 0 0) (some (.int .i64 (0 : Nat))) none none).run Tryz.prog w = .ok (.slice none 0 0) w := by
  go_simp
/-- What known[first:] is. -/
theorem slice_low {w0 : World} {base : Nat} {A : Option Addr} {K : List Fld} {c f : Nat} (ho : w0.ownsRow base 97 2 (.slice A K.length c) K.length (cellsF K)) (hf : f ≤ K.length) :
    ∃ A' c', (∀ w, (Instr.sliceAt 41 (.slice A K.length c) (some (.int .i64 f)) none none).run Tryz.prog w = .ok (.slice A' (K.length - f) c') w) ∧ ∀ w, FR w A K → FR w A' (K.drop f) := by
  rcases ho.2 with ⟨h1, h2⟩ | ⟨g, cap, cur, h1, hb, hg, hn, hc, hs, ht⟩
  · simp only [Value.slice.injEq] at h1
    obtain ⟨rfl, h3, rfl⟩ := h1
    have hK : K = [] := List.length_eq_zero_iff.1 h3
    subst hK
    obtain rfl : f = 0 := by simpa using hf
    exact ⟨none, 0, slice_none, fun w h => h⟩
  · simp only [Value.slice.injEq] at h1
    obtain ⟨rfl, -, rfl⟩ := h1
    refine ⟨_, _, slice_some g 0 K.length c f hf hn, fun w h => ?_⟩
    by_cases hcf : c = f
    · have hK : K.drop f = [] := List.drop_eq_nil_of_le (by omega)
      rw [hK]
      exact fun h => by simp at h
    · rw [if_neg hcf]; exact h.drop f

end Go.Proofs.YtkahbhfbgdbnfaaGreatDoor

/-
  CONTRACTS: define, giveBack of package check, given expr of the kid. Only the scope's own blocks have turned.
-/
namespace Go.Proofs.YtkahbhfbgdbnfaaGreatDoor
open Go.RowKit

theorem fld_info : (Tryz.prog.info? 97).map (fun i => (i.zero, i.size, i.bytes)) = some (some (.agg #[.string ⟨#[]⟩, .string ⟨#[]⟩]), 2, 32) := by kernel_rfl
theorem newsF (w : World) (a b : Value) (e : TypeId) : ∀ j u, [a, b][j]? = some u → (w.alloc (.cells #[a, b] e)).cell? ((⟨w.heap.size, 0, none⟩ : Addr).add j) = some u := by
  intro j u h
  match j, h with
  | 0, h => obtain rfl := Option.some.inj h; exact cell_new w _ e 0
  | 1, h => obtain rfl := Option.some.inj h; exact cell_new w _ e 1
  | j + 2, h => simp at h
theorem SG.grown {sb : Nat} {v : Value} {w w' : World} (h : w.grownBy w' v.ownBlock) : SG sb v w w' := ⟨h.os, h.tape, h.output, h.size, fun k hk _ h2 => h.block k hk (fun e => h2 e.symm)⟩
/-- The scope while its row of variables has grown, and its own cell is as it was. -/
theorem SC.grown {E : CE} {w w' : World} {v : Value} {K : List Fld} {f : Nat} (h : SC E w v K f) (hg : w.grownBy w' v.ownBlock) : Below E.w0.heap.size E.w0 w' ∧ (∀ k, w'.cell? ⟨E.sb, k, none⟩ = w.cell? ⟨E.sb, k, none⟩) ∧ (∀ k, w'.frozen? ⟨E.sb, k, none⟩ = w.frozen? ⟨E.sb, k, none⟩) :=
  ⟨⟨hg.os.trans h.B.os, hg.tape.trans h.B.tape, hg.output.trans h.B.output, Nat.le_trans h.B.size hg.size, fun k hk => (hg.block k (Nat.lt_of_lt_of_le hk h.B.size) (fun e => by have := (h.own.lt k e.symm).1; omega)).trans (h.B.block k hk)⟩,
   fun k => hg.cell_far ⟨E.sb, k, none⟩ h.lt (fun e => h.ne e.symm), fun k => hg.frozen_far ⟨E.sb, k, none⟩ h.lt (fun e => h.ne e.symm)⟩
/-- One variable more. -/
theorem SS.push {E : CE} {w w' : World} {v v' : Value} {K K' : List Fld} {f : Nat} (h : SC E w v K f) (hg : w.grownBy w' v.ownBlock) (ho : w'.ownsRow E.w0.heap.size 97 2 v' K'.length (cellsF K')) (hat : ∀ g, v'.ownBlock = some g → v.ownBlock = some g ∨ w.heap.size ≤ g) (hl : K'.length ≤ 100000) (hf : K.length ≤ K'.length) : SS E v w v' (w'.setCell ⟨E.sb, 4, none⟩ v') K' f := by
  obtain ⟨hB, hc, hz⟩ := h.grown hg
  have hne : v'.ownBlock ≠ some E.sb := fun e => by
    rcases hat _ e with h1 | h1
    · exact h.ne h1
    · have := h.lt; omega
  refine ⟨{ B := low_set hB h.sb0, sb0 := h.sb0, lt := Nat.lt_of_lt_of_le h.lt (Nat.le_trans hg.size (kb_set w' _ _).size), c0 := (set_other (by decide)).trans ((hc 0).trans h.c0), c1 := (set_other (by decide)).trans ((hc 1).trans h.c1), c2 := (set_other (by decide)).trans ((hc 2).trans h.c2), c3 := (set_other (by decide)).trans ((hc 3).trans h.c3), c4 := World.cell?_setCell_same _ _ _ ((hc 4).trans h.c4), c5 := (set_other (by decide)).trans ((hc 5).trans h.c5), fr := fun k => (World.frozen?_setCell _ _ _ _).trans ((hz k).trans (h.fr k)), own := own_set ho hne, ne := hne, im := h.im, kl := hl, fle := Nat.le_trans h.fle hf }, ?_, hat⟩
  have h1 : SG E.sb v w w' := SG.grown hg
  exact ⟨h1.os, h1.tape, h1.output, Nat.le_trans h1.size (kb_set w' _ _).size, fun k hk a b => ((kb_set w' ⟨E.sb, 4, none⟩ v').block k (Nat.lt_of_lt_of_le hk h1.size) (fun e => a (Option.some.inj e))).trans (h1.blk k hk a b)⟩
theorem fr_own2 {w : World} {base : Nat} {A : Option Addr} {c : Nat} {K : List Fld} (h : w.ownsRow base 97 2 (.slice A K.length c) K.length (cellsF K)) : FR w A K ∧ K.length ≤ c := by
  obtain ⟨A', c', e, h1, h2⟩ := fr_own h
  simp only [Value.slice.injEq] at e
  obtain ⟨rfl, -, rfl⟩ := e
  exact ⟨h2, h1⟩
theorem eqB_nil {a : ByteArray} {d : Bool} (h : a.toList.isEmpty = d) : eqB a tNone = d := by
  rw [← h, ByteArray.toList_eq]; unfold eqB; show (a.data.toList == []) = _
  cases a.data.toList <;> rfl
set_option maxRecDepth 100000 in
set_option maxHeartbeats 400000 in
theorem cdefine_any (E : CE) (v : Value) (K : List Fld) (f b : Nat) (t u : Tree) (w : World) (H : SC E w v K f) (hKo : KOk E.x K) (N : Nd E b t) (hu : t.kids[0]? = some u) (hz : K.length + 1 ≤ 100000) (ih : XH E u) :
    Calls Tryz.prog 186 #[.pointer (some ⟨E.sb, 0, none⟩), .agg #[.pointer (some ⟨b, 0, none⟩)]] w (KQ E v w ((exprC E.x K u).bind fun a => nd t.pos (freeB K f (nm t)) 6 (nd t.pos (!eqB a tNil && !eqB a tNone) 7 (.ok (K ++ [⟨nm t, a⟩])))) f) := by
  have B0 := Lib.hid (b1 w (.cells #[.pointer (some ⟨b, 0, none⟩)] 25))
  have H0 := Lib.hid (H.below (b1 w (.cells #[.pointer (some ⟨b, 0, none⟩)] 25)))
  have U0 := Lib.hid (PtrAt.new w (some ⟨b, 0, none⟩))
  have NN := Lib.hid N
  have HH := Lib.hid H
  have IH := Lib.hid ih
  have HKO := Lib.hid hKo
  obtain ⟨r, hr⟩ : ∃ r, exprC E.x K u = r := ⟨_, rfl⟩
  have HR := Lib.hid hr
  rw [hr]
  obtain ⟨A, c, hv, hc, -⟩ := fr_own H.own
  subst hv
  obtain ⟨A', c', hsl, hfr⟩ := slice_low H.own H.fle
  have HFR := Lib.hid hfr
  have hfl := H.fle
  obtain ⟨nb, hn, hkd⟩ := ckid_at N H0.out.B 0 u hu
  have N1 := Lib.hid hn
  have HKD := Lib.hid hkd
  obtain ⟨i0, hi0, hz0, hz1, hz2⟩ := info_parts fld_info
  have HI0 := Lib.hid hi0
  have HZ0 := Lib.hid hz0
  have HZ1 := Lib.hid hz1
  have HZ2 := Lib.hid hz2
  obtain ⟨p, hp⟩ : ∃ p, plc (K.drop f) (nm t) = p := ⟨_, rfl⟩
  have HP := Lib.hid hp
  have HF : Hid (freeB K f (nm t) = !p.isSome) := by show _ = _; unfold freeB; rw [hp]
  have ep := found_eq p
  obtain ⟨mf, hmf⟩ : ∃ x, K.length - f = x := ⟨_, rfl⟩
  have HMF : Hid ((K.drop f).length = mf) := by show _ = _; rw [List.length_drop]; exact hmf
  rw [hmf] at hsl
  have hmf5 : mf ≤ 100000 := by omega
  have une : (Value.slice A K.length c).ownBlock ≠ some w.heap.size := fun e => by have := (H.own.lt _ e).2; omega
  have c4 := H0.out.c4
  have c5 := H0.out.c5
  have q4 := H0.out.fr 4
  have BE : Hid (∀ w', Below (w.alloc (.cells #[.pointer (some ⟨b, 0, none⟩)] 25)).heap.size (w.alloc (.cells #[.pointer (some ⟨b, 0, none⟩)] 25)) w' → Below E.w0.heap.size E.w0 w') := fun w' h => H0.out.B.trans (h.mono H0.out.B.size)
  clear H N ih hKo hr hn hkd hu hp hmf hfr hi0 hz0 hz1 hz2
  go_enter Tryz.func186, Tryz.ntmps186
  go_wp2_with fail
  generalize w.alloc (.cells #[.pointer (some ⟨b, 0, none⟩)] 25) = wa at *
  have u0 := U0.out.c0
  have ul := U0.out.lt
  have sl := H0.out.lt
  have c0 := H0.out.c0
  have c1 := H0.out.c1
  have c2 := H0.out.c2
  clear c0 c1 c2
  have u00 := u0
  have c40 := c4
  refine (kid0_of 0 _ _ (HKD.out _ (Below.refl _ _)) 0 rfl).mono ?_
  rintro e w1 ⟨rfl, hb⟩
  have hh := Lib.hid hb
  have u0 := keepC (Below.refl _ _) u0 ul hb
  clear hb
  go_wp2_with fail
  refine (IH.out _ _ K f _ (H0.out.below hh.out) HKO.out N1.out).mono ?_
  rw [HR.out]
  rintro e w2 ⟨hb, he⟩
  cases r with
  | bad p er => obtain rfl := he; exact ⟨rfl, rfl, BE.out _ (hh.out.trans (hb.mono hh.out.size))⟩
  | ok a =>
    obtain rfl := he
    have u0 := keepC hh.out u0 ul hb
    have hh := Lib.hid (hh.out.trans (hb.mono hh.out.size))
    have c4 := keepC (Below.refl _ _) c4 sl hh.out
    have c5 := keepC (Below.refl _ _) c5 sl hh.out
    clear hb
    go_wp2_with fail
    refine rgS (fun w' => Below wa.heap.size wa w' ∧ w'.cell? ⟨w.heap.size, 0, none⟩ = some (.pointer (some ⟨b, 0, none⟩)) ∧ w'.cell? ⟨E.sb, 4, none⟩ = some (.slice A K.length c) ∧ w'.cell? ⟨E.sb, 5, none⟩ = some (.int .i64 f)) (by kernel_rfl) (⟨hh.out.drew, u0, c4, c5⟩) (fun _ a d v _ h => And.intro ((put_df a d v).symm.trans (And.left h)) (And.right h)) fun hHeld hq => ?_
    refine tkS 0 { dst := some 12, op := .move (.tmp 0), type := 185, pos := "body.go:62", after := #[], guard := none } (v := ?v2_0) hq hHeld rfl (by kernel_rfl) ?y2_0 ?_
    case y2_0 => (intro w h; try dsimp only at h); go_simp <;> with_reducible rfl
    try simp only [Act.put, List.setIfInBounds_toArray, List.set_cons_zero, List.set_cons_succ]
    refine tkS 1 { dst := some 13, op := .nilCheck (.tmp 12), type := 0, pos := "body.go:62", after := #[{ on := 0, ground := .data }], guard := none } (v := ?v2_1) hq hHeld rfl (by kernel_rfl) ?y2_1 ?_
    case y2_1 => (intro w h; try dsimp only at h); go_simp <;> with_reducible rfl
    try simp only [Act.put, List.setIfInBounds_toArray, List.set_cons_zero, List.set_cons_succ]
    refine tkS 2 { dst := some 14, op := .fieldAddr 179 (.tmp 13) 2, type := 0, pos := "body.go:62", after := #[{ on := 1, ground := .data }], guard := none } (v := ?v2_2) hq hHeld rfl (by kernel_rfl) ?y2_2 ?_
    case y2_2 => (intro w h; try dsimp only at h); go_simp <;> with_reducible rfl
    try simp only [Act.put, List.setIfInBounds_toArray, List.set_cons_zero, List.set_cons_succ]
    refine tkS 3 { dst := some 15, op := .load 41 (.tmp 14), type := 41, pos := "body.go:62", after := #[{ on := 2, ground := .data }], guard := none } (v := ?v2_3) hq hHeld rfl (by kernel_rfl) ?y2_3 ?_
    case y2_3 => (intro w h; try dsimp only at h); go_simp <;> with_reducible rfl
    try simp only [Act.put, List.setIfInBounds_toArray, List.set_cons_zero, List.set_cons_succ]
    refine tkS 4 { dst := some 16, op := .move (.tmp 0), type := 185, pos := "body.go:62", after := #[], guard := none } (v := ?v2_4) hq hHeld rfl (by kernel_rfl) ?y2_4 ?_
    case y2_4 => (intro w h; try dsimp only at h); go_simp <;> with_reducible rfl
    try simp only [Act.put, List.setIfInBounds_toArray, List.set_cons_zero, List.set_cons_succ]
    refine tkS 5 { dst := some 17, op := .nilCheck (.tmp 16), type := 0, pos := "body.go:62", after := #[{ on := 4, ground := .data }], guard := none } (v := ?v2_5) hq hHeld rfl (by kernel_rfl) ?y2_5 ?_
    case y2_5 => (intro w h; try dsimp only at h); go_simp <;> with_reducible rfl
    try simp only [Act.put, List.setIfInBounds_toArray, List.set_cons_zero, List.set_cons_succ]
    refine tkS 6 { dst := some 18, op := .fieldAddr 179 (.tmp 17) 3, type := 0, pos := "body.go:62", after := #[{ on := 5, ground := .data }], guard := none } (v := ?v2_6) hq hHeld rfl (by kernel_rfl) ?y2_6 ?_
    case y2_6 => (intro w h; try dsimp only at h); go_simp <;> with_reducible rfl
    try simp only [Act.put, List.setIfInBounds_toArray, List.set_cons_zero, List.set_cons_succ]
    refine tkS 7 { dst := some 19, op := .load 3 (.tmp 18), type := 3, pos := "body.go:62", after := #[{ on := 6, ground := .data }], guard := none } (v := ?v2_7) hq hHeld rfl (by kernel_rfl) ?y2_7 ?_
    case y2_7 => (intro w h; try dsimp only at h); go_simp <;> with_reducible rfl
    try simp only [Act.put, List.setIfInBounds_toArray, List.set_cons_zero, List.set_cons_succ]
    refine tkS 8 { dst := some 20, op := .slice 41 (.tmp 15) (some (.tmp 19)) none none, type := 41, pos := "body.go:62", after := #[{ on := 3, ground := .data }, { on := 7, ground := .data }], guard := none } (v := ?v2_8) hq hHeld rfl (by kernel_rfl) ?y2_8 ?_
    case y2_8 => (intro w h; try dsimp only at h); go_simp <;> with_reducible rfl
    try simp only [Act.put, List.setIfInBounds_toArray, List.set_cons_zero, List.set_cons_succ]
    refine tkS 9 { dst := some 21, op := .load 25 (.tmp 3), type := 25, pos := "body.go:62", after := #[], guard := none } (v := ?v2_9) hq hHeld rfl (by kernel_rfl) ?y2_9 ?_
    case y2_9 => (intro w h; try dsimp only at h); go_simp <;> with_reducible rfl
    try simp only [Act.put, List.setIfInBounds_toArray, List.set_cons_zero, List.set_cons_succ]
    refine clS 10 { dst := some 22, op := .call { callee := .value (.func 42), args := #[.tmp 21], argTypes := #[25] }, type := 9, pos := "body.go:62", after := #[{ on := 9, ground := .data }], guard := none } rfl (by kernel_rfl) (by kernel_rfl) fun Kc hK => ?_
    go_simp
    refine (cname_at NN.out H0.out.B _ hHeld.1).mono ?_
    rintro e w1 ⟨rfl, hb⟩
    refine hK.out _ _ ⟨hHeld.1.trans (hb.mono hHeld.1.size), keepC hHeld.1 hHeld.2.1 ul hb, keepC hHeld.1 hHeld.2.2.1 sl hb, keepC hHeld.1 hHeld.2.2.2 sl hb⟩ fun hHeld => ?_
    clear hb
    clear hK Kc
    try simp only [Act.put, List.setIfInBounds_toArray, List.set_cons_zero, List.set_cons_succ]
    refine clS 11 { dst := some 23, op := .call { callee := .value (.func 48), args := #[.tmp 20, .tmp 22], argTypes := #[41, 9] }, type := 57, pos := "body.go:62", after := #[{ on := 8, ground := .data }, { on := 10, ground := .data }, { on := 10, ground := .chain }], guard := none } rfl (by kernel_rfl) (by kernel_rfl) fun Kc hK => ?_
    go_simp
    refine (findField_any A' c' mf (K.drop f) (nm t) p _ (HFR.out _ (fr_own2 (H0.out.below hHeld.1).own).1) HMF (by omega) HP).mono ?_
    rintro e w1 ⟨rfl, hb⟩
    rw [ep]
    refine hK.out _ _ ⟨hHeld.1.trans (hb.mono hHeld.1.size), keepC hHeld.1 hHeld.2.1 ul hb, keepC hHeld.1 hHeld.2.2.1 sl hb, keepC hHeld.1 hHeld.2.2.2 sl hb⟩ fun hHeld => ?_
    clear hb
    clear hK Kc
    try simp only [Act.put, List.setIfInBounds_toArray, List.set_cons_zero, List.set_cons_succ]
    refine tkS 12 { dst := some 11, op := .move (.tmp 23), type := 57, pos := "body.go:62", after := #[{ on := 11, ground := .data }], guard := none } (v := ?v2_12) hq hHeld rfl (by kernel_rfl) ?y2_12 ?_
    case y2_12 => (intro w h; try dsimp only at h); go_simp <;> with_reducible rfl
    try simp only [Act.put, List.setIfInBounds_toArray, List.set_cons_zero, List.set_cons_succ]
    refine tkS 13 { dst := some 24, op := .extract (.tmp 11) 0, type := 3, pos := "body.go:62", after := #[{ on := 12, ground := .data }], guard := none } (v := ?v2_13) hq hHeld rfl (by kernel_rfl) ?y2_13 ?_
    case y2_13 => (intro w h; try dsimp only at h); go_simp <;> with_reducible rfl
    try simp only [Act.put, List.setIfInBounds_toArray, List.set_cons_zero, List.set_cons_succ]
    refine tkS 14 { dst := some 25, op := .extract (.tmp 11) 1, type := 4, pos := "body.go:62", after := #[{ on := 12, ground := .data }, { on := 15, ground := .gcOnly .lateStores }], guard := none } (v := ?v2_14) hq hHeld rfl (by kernel_rfl) ?y2_14 ?_
    case y2_14 => (intro w h; try dsimp only at h); go_simp <;> with_reducible rfl
    try simp only [Act.put, List.setIfInBounds_toArray, List.set_cons_zero, List.set_cons_succ]
    refine tkS 15 { dst := some 5, op := .assign (.tmp 24), type := 3, pos := "body.go:62", after := #[{ on := 13, ground := .data }, { on := 11, ground := .chain }, { on := 0, ground := .phase }, { on := 1, ground := .phase }, { on := 2, ground := .phase }, { on := 3, ground := .phase }, { on := 4, ground := .phase }, { on := 5, ground := .phase }, { on := 6, ground := .phase }, { on := 7, ground := .phase }, { on := 8, ground := .phase }, { on := 9, ground := .phase }, { on := 10, ground := .phase }, { on := 11, ground := .phase }, { on := 12, ground := .phase }, { on := 13, ground := .phase }, { on := 14, ground := .textOnly .lateStores }], guard := none } (v := ?v2_15) hq hHeld rfl (by kernel_rfl) ?y2_15 ?_
    case y2_15 => (intro w h; try dsimp only at h); go_simp <;> with_reducible rfl
    try simp only [Act.put, List.setIfInBounds_toArray, List.set_cons_zero, List.set_cons_succ]
    refine tkS 16 { dst := some 6, op := .assign (.tmp 25), type := 4, pos := "body.go:62", after := #[{ on := 14, ground := .data }, { on := 15, ground := .chain }, { on := 0, ground := .phase }, { on := 1, ground := .phase }, { on := 2, ground := .phase }, { on := 3, ground := .phase }, { on := 4, ground := .phase }, { on := 5, ground := .phase }, { on := 6, ground := .phase }, { on := 7, ground := .phase }, { on := 8, ground := .phase }, { on := 9, ground := .phase }, { on := 10, ground := .phase }, { on := 11, ground := .phase }, { on := 12, ground := .phase }, { on := 13, ground := .phase }, { on := 14, ground := .phase }, { on := 15, ground := .phase }], guard := none } (v := ?v2_16) hq hHeld rfl (by kernel_rfl) ?y2_16 ?_
    case y2_16 => (intro w h; try dsimp only at h); go_simp <;> with_reducible rfl
    try simp only [Act.put, List.setIfInBounds_toArray, List.set_cons_zero, List.set_cons_succ]
    refine wpAnyH_done (by kernel_rfl) ?_ _
    have hh := Lib.hid hHeld.1
    have u0 := hHeld.2.1
    have c4 := hHeld.2.2.1
    clear hHeld c5 ep hsl
    generalize p.isSome = d at *
    go_wp2_with fail
    obtain ⟨d1, hd1⟩ : ∃ x, (!d) = x := ⟨_, rfl⟩
    rw [hd1] at HF
    rw [hd1]
    clear hd1
    refine (cneed_at NN.out H0.out.B d1 6 _ hh.out).mono ?_
    rintro e w5 ⟨hb, he⟩
    cases d1 with
    | false =>
      obtain rfl := he
      exact ⟨rfl, by simp only [CR.bind, HF.out]; exact ⟨rfl, BE.out _ (hh.out.trans (hb.mono hh.out.size))⟩⟩
    | true =>
    obtain rfl := he
    have u0 := keepC hh.out u0 ul hb
    have c4 := keepC hh.out c4 sl hb
    have hh := Lib.hid (hh.out.trans (hb.mono hh.out.size))
    clear hb
    obtain ⟨n1, hn1⟩ : ∃ d, (a.toList == [110, 105, 108]) = d := ⟨_, rfl⟩
    obtain ⟨n2, hn2⟩ : ∃ d, a.toList.isEmpty = d := ⟨_, rfl⟩
    have HN1 : Hid (eqB a tNil = n1) := eqB_of hn1
    have HN2 : Hid (eqB a tNone = n2) := eqB_nil hn2
    cases n1 with
    | true =>
      go_wp2_with fail
      refine (cneed_at NN.out H0.out.B false 7 _ hh.out).mono ?_
      rintro e w5 ⟨hb, rfl⟩
      exact ⟨rfl, by simp only [CR.bind, HF.out, HN1.out]; exact ⟨rfl, BE.out _ (hh.out.trans (hb.mono hh.out.size))⟩⟩
    | false =>
      go_wp2_with fail
      refine (cneed_at NN.out H0.out.B (!n2) 7 _ hh.out).mono ?_
      rintro e w5 ⟨hb, he⟩
      cases n2 with
      | true =>
        obtain rfl := he
        exact ⟨rfl, by simp only [CR.bind, HF.out, HN1.out, HN2.out]; exact ⟨rfl, BE.out _ (hh.out.trans (hb.mono hh.out.size))⟩⟩
      | false =>
        obtain rfl := he
        have u0 := keepC hh.out u0 ul hb
        have c4 := keepC hh.out c4 sl hb
        have hh := Lib.hid (hh.out.trans (hb.mono hh.out.size))
        clear hb hn1 hn2
        go_wp2_with fail
        refine rgX (fun w' => Below E.w0.heap.size E.w0 w' ∧ w'.cell? ⟨w.heap.size, 0, none⟩ = some (.pointer (some ⟨b, 0, none⟩)) ∧ w'.cell? ⟨E.sb, 4, none⟩ = some (.slice A K.length c)) [13] (by kernel_rfl) (⟨BE.out _ hh.out.drew, u0, c4⟩) (fun _ a d v _ h => And.intro ((put_df a d v).symm.trans (And.left h)) (And.right h)) fun hHeld hq => ?_
        refine twX 0 { dst := some 38, op := .move (.tmp 0), type := 185, pos := "body.go:65", after := #[], guard := none } (v := ?v1_0) hq rfl (by kernel_rfl) ?y1_0 ?_
        case y1_0 => intro w; go_simp <;> with_reducible rfl
        try simp only [Act.put, List.setIfInBounds_toArray, List.set_cons_zero, List.set_cons_succ]
        refine twX 1 { dst := some 39, op := .move (.tmp 0), type := 185, pos := "body.go:65", after := #[], guard := none } (v := ?v1_1) hq rfl (by kernel_rfl) ?y1_1 ?_
        case y1_1 => intro w; go_simp <;> with_reducible rfl
        try simp only [Act.put, List.setIfInBounds_toArray, List.set_cons_zero, List.set_cons_succ]
        refine twX 2 { dst := some 40, op := .nilCheck (.tmp 39), type := 0, pos := "body.go:65", after := #[{ on := 1, ground := .data }], guard := none } (v := ?v1_2) hq rfl (by kernel_rfl) ?y1_2 ?_
        case y1_2 => intro w; go_simp <;> with_reducible rfl
        try simp only [Act.put, List.setIfInBounds_toArray, List.set_cons_zero, List.set_cons_succ]
        refine twX 3 { dst := some 41, op := .fieldAddr 179 (.tmp 40) 2, type := 0, pos := "body.go:65", after := #[{ on := 2, ground := .data }], guard := none } (v := ?v1_3) hq rfl (by kernel_rfl) ?y1_3 ?_
        case y1_3 => intro w; go_simp <;> with_reducible rfl
        try simp only [Act.put, List.setIfInBounds_toArray, List.set_cons_zero, List.set_cons_succ]
        refine tkX 4 { dst := some 42, op := .load 41 (.tmp 41), type := 41, pos := "body.go:65", after := #[{ on := 3, ground := .data }], guard := none } (v := ?v1_4) hq hHeld rfl (by kernel_rfl) ?y1_4 ?_
        case y1_4 => (intro w h; try dsimp only at h); go_simp <;> with_reducible rfl
        try simp only [Act.put, List.setIfInBounds_toArray, List.set_cons_zero, List.set_cons_succ]
        refine tkX 5 { dst := some 43, op := .load 25 (.tmp 3), type := 25, pos := "body.go:65", after := #[], guard := none } (v := ?v1_5) hq hHeld rfl (by kernel_rfl) ?y1_5 ?_
        case y1_5 => (intro w h; try dsimp only at h); go_simp <;> with_reducible rfl
        try simp only [Act.put, List.setIfInBounds_toArray, List.set_cons_zero, List.set_cons_succ]
        refine twX 7 { dst := some 45, op := .move (.tmp 4), type := 9, pos := "body.go:65", after := #[], guard := none } (v := ?v1_7) hq rfl (by kernel_rfl) ?y1_7 ?_
        case y1_7 => intro w; go_simp <;> with_reducible rfl
        try simp only [Act.put, List.setIfInBounds_toArray, List.set_cons_zero, List.set_cons_succ]
        refine clX 6 { dst := some 44, op := .call { callee := .value (.func 42), args := #[.tmp 43], argTypes := #[25] }, type := 9, pos := "body.go:65", after := #[{ on := 5, ground := .data }], guard := none } rfl (by kernel_rfl) (by kernel_rfl) fun Kc hK => ?_
        go_simp
        refine (cname_at NN.out H0.out.B _ hh.out.drew).mono ?_
        rintro e w8 ⟨rfl, hb⟩
        have hh8 := Lib.hid (hh.out.drew.trans (hb.mono hh.out.drew.size))
        have ul8 := Nat.lt_of_lt_of_le ul hh8.out.size
        clear hb
        have hHeld := And.intro (BE.out _ hh8.out) (And.intro (keepC (Below.refl _ _) u00 ul hh8.out) (keepC (Below.refl _ _) c40 sl hh8.out))
        refine hK.out _ _ (fun _ _ => hHeld) ?_
        clear hK Kc
        try simp only [Act.put, List.setIfInBounds_toArray, List.set_cons_zero, List.set_cons_succ]
        refine twX 8 { dst := some 46, op := .build 97 #[(0, .tmp 44), (1, .tmp 45)], type := 97, pos := "body.go:65", after := #[{ on := 6, ground := .data }, { on := 7, ground := .data }], guard := none } (v := ?v1_8) hq rfl (by kernel_rfl) ?y1_8 ?_
        case y1_8 => intro w; go_simp <;> with_reducible rfl
        try simp only [Act.put, List.setIfInBounds_toArray, List.set_cons_zero, List.set_cons_succ]
        refine clX 9 { dst := some 47, op := .buildSlice 41 1 #[(0, .tmp 46)], type := 41, pos := "body.go:65", after := #[{ on := 8, ground := .data }], guard := none } rfl (by kernel_rfl) (by kernel_rfl) fun Kc hK => ?_
        go_simp
        have BV := Lib.hid (b1 w8 (.cells #[.string (nm t), .string a] 97))
        have hh9 := Lib.hid (hh8.out.trans (BV.out.mono hh8.out.size))
        have S9 := Lib.hid ((SS.refl H0.out).below hh9.out)
        have ul9 : w.heap.size < (w8.alloc (.cells #[.string (nm t), .string a] 97)).heap.size := Nat.lt_of_lt_of_le ul8 BV.out.size
        have hHeld := And.intro (BE.out _ hh9.out) (And.intro (keepC (Below.refl _ _) u00 ul hh9.out) (keepC (Below.refl _ _) c40 sl hh9.out))
        refine hK.out _ _ (fun _ _ => hHeld) ?_
        clear hK Kc
        try simp only [Act.put, List.setIfInBounds_toArray, List.set_cons_zero, List.set_cons_succ]
        refine clX 10 { dst := some 48, op := .call { callee := .builtin Builtin.append, args := #[.tmp 42, .tmp 47], argTypes := #[41, 41] }, type := 41, pos := "body.go:65", after := #[{ on := 4, ground := .data }, { on := 9, ground := .data }, { on := 6, ground := .chain }], guard := none } rfl (by kernel_rfl) (by kernel_rfl) fun Kc hK => ?_
        refine wp_append_lies _ (.tmp 42) (.tmp 47) _ rfl E.w0.heap.size 97 i0 _ 2 32 Tryz.underlying41 HI0.out HZ0.out HZ1.out HZ2.out rfl (by omega) (.slice A K.length c) K.length (cellsF K) rfl (by exact S9.out.sc.own) ⟨w8.heap.size, 0, none⟩ 1 1 [.string (nm t), .string a] rfl rfl (by exact newsF w8 _ _ 97) (by simp [Value.oneCell']) (by omega) (by simp only [maxLen]; omega) (by omega) (by exact S9.out.sc.B.size) _ rfl ?_
        intro g cap w10 hown hg hat hlt10
        have HOW := Lib.hid hown
        have HG := Lib.hid hg
        have HAT := Lib.hid hat
        clear hown hg hat
        have fz10 := ((S9.out.sc.grown HG.out).2.2 4).trans (S9.out.sc.fr 4)
        have hHeld := And.intro ((S9.out.sc.grown HG.out).1) (And.intro ((HG.out.cell_far ⟨w.heap.size, 0, none⟩ ul9 (fun e => une e.symm)).trans hHeld.2.1) (((S9.out.sc.grown HG.out).2.1 4).trans hHeld.2.2))
        refine hK.out _ _ (fun _ _ => hHeld) ?_
        clear hK Kc
        try simp only [Act.put, List.setIfInBounds_toArray, List.set_cons_zero, List.set_cons_succ]
        refine twX 11 { dst := some 49, op := .nilCheck (.tmp 38), type := 0, pos := "body.go:65", after := #[{ on := 0, ground := .data }, { on := 0, ground := .phase }, { on := 1, ground := .phase }, { on := 2, ground := .phase }, { on := 3, ground := .phase }, { on := 4, ground := .phase }, { on := 5, ground := .phase }, { on := 6, ground := .phase }, { on := 7, ground := .phase }, { on := 8, ground := .phase }, { on := 9, ground := .phase }, { on := 10, ground := .phase }], guard := none } (v := ?v1_11) hq rfl (by kernel_rfl) ?y1_11 ?_
        case y1_11 => intro w; go_simp <;> with_reducible rfl
        try simp only [Act.put, List.setIfInBounds_toArray, List.set_cons_zero, List.set_cons_succ]
        refine twX 12 { dst := some 50, op := .fieldAddr 179 (.tmp 49) 2, type := 0, pos := "body.go:65", after := #[{ on := 11, ground := .data }, { on := 0, ground := .phase }, { on := 1, ground := .phase }, { on := 2, ground := .phase }, { on := 3, ground := .phase }, { on := 4, ground := .phase }, { on := 5, ground := .phase }, { on := 6, ground := .phase }, { on := 7, ground := .phase }, { on := 8, ground := .phase }, { on := 9, ground := .phase }, { on := 10, ground := .phase }], guard := none } (v := ?v1_12) hq rfl (by kernel_rfl) ?y1_12 ?_
        case y1_12 => intro w; go_simp <;> with_reducible rfl
        try simp only [Act.put, List.setIfInBounds_toArray, List.set_cons_zero, List.set_cons_succ]
        refine clX 13 { dst := none, op := .store 41 (.tmp 50) (.tmp 48), type := 0, pos := "body.go:65", after := #[{ on := 12, ground := .data }, { on := 10, ground := .data }, { on := 10, ground := .chain }, { on := 0, ground := .phase }, { on := 1, ground := .phase }, { on := 2, ground := .phase }, { on := 3, ground := .phase }, { on := 4, ground := .phase }, { on := 5, ground := .phase }, { on := 6, ground := .phase }, { on := 7, ground := .phase }, { on := 8, ground := .phase }, { on := 9, ground := .phase }, { on := 10, ground := .phase }], guard := none } rfl (by kernel_rfl) (by kernel_rfl) fun Kc hK => ?_
        go_simp
        refine hK.out _ _ (fun h => absurd h (by decide)) ?_
        clear hK Kc
        try simp only [Act.put, List.setIfInBounds_toArray, List.set_cons_zero, List.set_cons_succ]
        refine dnX (by kernel_rfl) ?_ _
        go_wp2_with fail
        refine bodyPost_end (v := .tuple #[]) (by simp [results, Tryz.results186, go_sem]) rfl ?_
        simp only [CR.bind, HF.out, HN1.out, HN2.out]
        have hown : w10.ownsRow E.w0.heap.size 97 2 (.slice (some ⟨g, 0, none⟩) (K.length + 1) cap) (K ++ [(⟨nm t, a⟩ : Fld)]).length (cellsF (K ++ [(⟨nm t, a⟩ : Fld)])) := by
          rw [cellsF_app, List.length_append]; exact HOW.out
        have hps := SS.push S9.out.sc HG.out hown (fun g' hg' => by
          have e : g = g' := Option.some.inj hg'
          subst e
          rcases HAT.out with h1 | h1
          · exact .inl h1
          · exact .inr (by rw [h1]; exact Nat.le_refl _)) (by rw [List.length_append]; exact hz) (by rw [List.length_append]; omega)
        exact ⟨_, rfl, ((SS.refl HH.out).below B0.out).trans (S9.out.trans hps)⟩

end Go.Proofs.YtkahbhfbgdbnfaaGreatDoor

/-
  CONTRACT: giveBack of package check, given expr of the kid. Of what was there nothing has turned.
-/
namespace Go.Proofs.YtkahbhfbgdbnfaaGreatDoor
open Go.RowKit

set_option maxRecDepth 100000 in
set_option maxHeartbeats 400000 in
theorem cback0_any (E : CE) (v : Value) (K : List Fld) (f b : Nat) (t : Tree) (w : World) (H : SC E w v K f) (N : Nd E b t) (hl : t.kids.length = 0) :
    Calls Tryz.prog 192 #[.pointer (some ⟨E.sb, 0, none⟩), .agg #[.pointer (some ⟨b, 0, none⟩)]] w (KQ E v w (nd t.pos (eqB E.res tNone) 7 (.ok K)) f) := by
  have B0 := Lib.hid (b1 w (.cells #[.pointer (some ⟨b, 0, none⟩)] 25))
  have H0 := Lib.hid (H.below (b1 w (.cells #[.pointer (some ⟨b, 0, none⟩)] 25)))
  have U0 := Lib.hid (PtrAt.new w (some ⟨b, 0, none⟩))
  have NN := Lib.hid N
  have HH := Lib.hid H
  have BE : Hid (∀ w', Below (w.alloc (.cells #[.pointer (some ⟨b, 0, none⟩)] 25)).heap.size (w.alloc (.cells #[.pointer (some ⟨b, 0, none⟩)] 25)) w' → Below E.w0.heap.size E.w0 w') := fun w' h => H0.out.B.trans (h.mono H0.out.B.size)
  obtain ⟨d, hd⟩ : ∃ d, E.res.toList.isEmpty = d := ⟨_, rfl⟩
  have HD : Hid (eqB E.res tNone = d) := eqB_nil hd
  have c3 := H0.out.c3
  rw [HD.out]
  clear H N
  go_enter Tryz.func192, Tryz.ntmps192
  go_wp2_with fail
  generalize w.alloc (.cells #[.pointer (some ⟨b, 0, none⟩)] 25) = wa at *
  have u0 := U0.out.c0
  have ul := U0.out.lt
  have sl := H0.out.lt
  have c0 := H0.out.c0
  have c1 := H0.out.c1
  have c2 := H0.out.c2
  clear c0 c1 c2
  refine (ckids_at NN.out H0.out.B _ (Below.refl _ _)).mono ?_
  rintro e w1 ⟨rfl, hb⟩
  have hh := Lib.hid hb
  have u0 := keepC (Below.refl _ _) u0 ul hb
  have c3 := keepC (Below.refl _ _) c3 sl hb
  rw [hl]
  clear hb
  go_wp2_with fail
  refine rgS (fun w' => Below wa.heap.size wa w' ∧ w'.cell? ⟨w.heap.size, 0, none⟩ = some (.pointer (some ⟨b, 0, none⟩)) ∧ w'.cell? ⟨E.sb, 3, none⟩ = some (.string E.res)) (by kernel_rfl) (⟨hh.out.drew, u0, c3⟩) (fun _ a d v _ h => And.intro ((put_df a d v).symm.trans (And.left h)) (And.right h)) fun hHeld hq => ?_
  refine tkS 0 { dst := some 8, op := .load 25 (.tmp 3), type := 25, pos := "body.go:78", after := #[], guard := none } (v := ?v1_0) hq hHeld rfl (by kernel_rfl) ?y1_0 ?_
  case y1_0 => (intro w h; try dsimp only at h); go_simp <;> with_reducible rfl
  try simp only [Act.put, List.setIfInBounds_toArray, List.set_cons_zero, List.set_cons_succ]
  refine tkS 1 { dst := some 9, op := .move (.tmp 0), type := 185, pos := "body.go:78", after := #[], guard := none } (v := ?v1_1) hq hHeld rfl (by kernel_rfl) ?y1_1 ?_
  case y1_1 => (intro w h; try dsimp only at h); go_simp <;> with_reducible rfl
  try simp only [Act.put, List.setIfInBounds_toArray, List.set_cons_zero, List.set_cons_succ]
  refine tkS 2 { dst := some 10, op := .nilCheck (.tmp 9), type := 0, pos := "body.go:78", after := #[{ on := 1, ground := .data }], guard := none } (v := ?v1_2) hq hHeld rfl (by kernel_rfl) ?y1_2 ?_
  case y1_2 => (intro w h; try dsimp only at h); go_simp <;> with_reducible rfl
  try simp only [Act.put, List.setIfInBounds_toArray, List.set_cons_zero, List.set_cons_succ]
  refine tkS 3 { dst := some 11, op := .fieldAddr 179 (.tmp 10) 1, type := 0, pos := "body.go:78", after := #[{ on := 2, ground := .data }], guard := none } (v := ?v1_3) hq hHeld rfl (by kernel_rfl) ?y1_3 ?_
  case y1_3 => (intro w h; try dsimp only at h); go_simp <;> with_reducible rfl
  try simp only [Act.put, List.setIfInBounds_toArray, List.set_cons_zero, List.set_cons_succ]
  refine tkS 4 { dst := some 12, op := .load 9 (.tmp 11), type := 9, pos := "body.go:78", after := #[{ on := 3, ground := .data }], guard := none } (v := ?v1_4) hq hHeld rfl (by kernel_rfl) ?y1_4 ?_
  case y1_4 => (intro w h; try dsimp only at h); go_simp <;> with_reducible rfl
  try simp only [Act.put, List.setIfInBounds_toArray, List.set_cons_zero, List.set_cons_succ]
  refine tkS 5 { dst := some 13, op := .binOp .eql 9 (.tmp 12) (.const (.string { data := #[] })) 9, type := 4, pos := "body.go:78", after := #[{ on := 4, ground := .data }], guard := none } (v := ?v1_5) hq hHeld rfl (by kernel_rfl) ?y1_5 ?_
  case y1_5 => (intro w h; try dsimp only at h); go_simp <;> with_reducible rfl
  try simp only [Act.put, List.setIfInBounds_toArray, List.set_cons_zero, List.set_cons_succ]
  refine clS 6 { dst := some 14, op := .call { callee := .value (.func 148), args := #[.tmp 8, .tmp 13, .const (.int .i64 7)], argTypes := #[25, 4, 26] }, type := 0, pos := "body.go:78", after := #[{ on := 0, ground := .data }, { on := 5, ground := .data }], guard := none } rfl (by kernel_rfl) (by kernel_rfl) fun Kc hK => ?_
  go_simp
  refine (cneed_at NN.out H0.out.B d 7 _ hHeld.1).mono ?_
  rintro e w1 ⟨hb, he⟩
  cases d with
  | false => obtain rfl := he; exact ⟨rfl, rfl, BE.out _ (hHeld.1.trans (hb.mono hHeld.1.size))⟩
  | true =>
  obtain rfl := he
  refine hK.out _ _ ⟨hHeld.1.trans (hb.mono hHeld.1.size), keepC hHeld.1 hHeld.2.1 ul hb, keepC hHeld.1 hHeld.2.2 sl hb⟩ fun hHeld => ?_
  clear hb
  clear hK Kc
  try simp only [Act.put, List.setIfInBounds_toArray, List.set_cons_zero, List.set_cons_succ]
  refine wpAnyH_done (by kernel_rfl) ?_ _
  go_wp2_with fail
  refine bodyPost_ret (v := .tuple #[]) (by simp [results, Tryz.results192, go_sem]) rfl ?_
  exact ⟨v, rfl, (SS.refl HH.out).below (B0.out.trans (hHeld.1.mono B0.out.size))⟩

set_option maxRecDepth 100000 in
set_option maxHeartbeats 400000 in
theorem cback1_any (E : CE) (v : Value) (K : List Fld) (f b : Nat) (t u : Tree) (w : World) (H : SC E w v K f) (hKo : KOk E.x K) (N : Nd E b t) (hu : t.kids[0]? = some u) (ih : XH E u) :
    Calls Tryz.prog 192 #[.pointer (some ⟨E.sb, 0, none⟩), .agg #[.pointer (some ⟨b, 0, none⟩)]] w (KQ E v w ((exprC E.x K u).bind fun a => nd t.pos (!eqB E.res tNone && fitB a E.res) 7 (.ok K)) f) := by
  have B0 := Lib.hid (b1 w (.cells #[.pointer (some ⟨b, 0, none⟩)] 25))
  have H0 := Lib.hid (H.below (b1 w (.cells #[.pointer (some ⟨b, 0, none⟩)] 25)))
  have U0 := Lib.hid (PtrAt.new w (some ⟨b, 0, none⟩))
  have NN := Lib.hid N
  have HH := Lib.hid H
  have BE : Hid (∀ w', Below (w.alloc (.cells #[.pointer (some ⟨b, 0, none⟩)] 25)).heap.size (w.alloc (.cells #[.pointer (some ⟨b, 0, none⟩)] 25)) w' → Below E.w0.heap.size E.w0 w') := fun w' h => H0.out.B.trans (h.mono H0.out.B.size)
  have IH := Lib.hid ih
  have HKO := Lib.hid hKo
  obtain ⟨r, hr⟩ : ∃ r, exprC E.x K u = r := ⟨_, rfl⟩
  have HR := Lib.hid hr
  rw [hr]
  obtain ⟨nb, hn, hkd⟩ := ckid_at N H0.out.B 0 u hu
  have N1 := Lib.hid hn
  have HKD := Lib.hid hkd
  have hpos : ((t.kids.length : Int) == 0) = false := by have := (List.getElem?_eq_some_iff.1 hu).1; rw [beq_eq_false_iff_ne]; omega
  obtain ⟨d, hd⟩ : ∃ d, E.res.toList.isEmpty = d := ⟨_, rfl⟩
  have HD : Hid (eqB E.res tNone = d) := eqB_nil hd
  have c3 := H0.out.c3
  rw [HD.out]
  clear H N hr hn hkd hu ih hKo
  go_enter Tryz.func192, Tryz.ntmps192
  go_wp2_with fail
  generalize w.alloc (.cells #[.pointer (some ⟨b, 0, none⟩)] 25) = wa at *
  have u0 := U0.out.c0
  have ul := U0.out.lt
  have sl := H0.out.lt
  have c0 := H0.out.c0
  have c1 := H0.out.c1
  have c2 := H0.out.c2
  clear c0 c1 c2
  refine (ckids_at NN.out H0.out.B _ (Below.refl _ _)).mono ?_
  rintro e w1 ⟨rfl, hb⟩
  have hh := Lib.hid hb
  have u0 := keepC (Below.refl _ _) u0 ul hb
  clear hb
  go_wp2_with fail
  refine (kid0_of 0 _ _ (HKD.out _ hh.out) 0 rfl).mono ?_
  rintro e w2 ⟨rfl, hb⟩
  have u0 := keepC hh.out u0 ul hb
  have hh := Lib.hid (hh.out.trans (hb.mono hh.out.size))
  clear hb
  go_wp2_with fail
  refine (IH.out _ _ K f _ (H0.out.below hh.out) HKO.out N1.out).mono ?_
  rw [HR.out]
  rintro e w3 ⟨hb, he⟩
  cases r with
  | bad p er => obtain rfl := he; exact ⟨rfl, rfl, BE.out _ (hh.out.trans (hb.mono hh.out.size))⟩
  | ok a =>
    obtain rfl := he
    have u0 := keepC hh.out u0 ul hb
    have hh := Lib.hid (hh.out.trans (hb.mono hh.out.size))
    have c3 := keepC (Below.refl _ _) c3 sl hh.out
    obtain ⟨q, hq⟩ : ∃ q, fitB a E.res = q := ⟨_, rfl⟩
    have HQ := Lib.hid hq
    clear hb hq
    go_wp2_with fail
    cases d with
    | true =>
      refine rgS (fun w' => Below wa.heap.size wa w' ∧ w'.cell? ⟨w.heap.size, 0, none⟩ = some (.pointer (some ⟨b, 0, none⟩)) ∧ w'.cell? ⟨E.sb, 3, none⟩ = some (.string E.res)) (by kernel_rfl) (⟨hh.out.drew, u0, c3⟩) (fun _ a d v _ h => And.intro ((put_df a d v).symm.trans (And.left h)) (And.right h)) fun hHeld hq => ?_
      refine tkS 0 { dst := some 19, op := .load 25 (.tmp 3), type := 25, pos := "body.go:82", after := #[], guard := none } (v := ?v2_0) hq hHeld rfl (by kernel_rfl) ?y2_0 ?_
      case y2_0 => (intro w h; try dsimp only at h); go_simp <;> with_reducible rfl
      try simp only [Act.put, List.setIfInBounds_toArray, List.set_cons_zero, List.set_cons_succ]
      refine tkS 1 { dst := some 20, op := .move (.tmp 0), type := 185, pos := "body.go:82", after := #[], guard := none } (v := ?v2_1) hq hHeld rfl (by kernel_rfl) ?y2_1 ?_
      case y2_1 => (intro w h; try dsimp only at h); go_simp <;> with_reducible rfl
      try simp only [Act.put, List.setIfInBounds_toArray, List.set_cons_zero, List.set_cons_succ]
      refine tkS 2 { dst := some 21, op := .nilCheck (.tmp 20), type := 0, pos := "body.go:82", after := #[{ on := 1, ground := .data }], guard := none } (v := ?v2_2) hq hHeld rfl (by kernel_rfl) ?y2_2 ?_
      case y2_2 => (intro w h; try dsimp only at h); go_simp <;> with_reducible rfl
      try simp only [Act.put, List.setIfInBounds_toArray, List.set_cons_zero, List.set_cons_succ]
      refine tkS 3 { dst := some 22, op := .fieldAddr 179 (.tmp 21) 1, type := 0, pos := "body.go:82", after := #[{ on := 2, ground := .data }], guard := none } (v := ?v2_3) hq hHeld rfl (by kernel_rfl) ?y2_3 ?_
      case y2_3 => (intro w h; try dsimp only at h); go_simp <;> with_reducible rfl
      try simp only [Act.put, List.setIfInBounds_toArray, List.set_cons_zero, List.set_cons_succ]
      refine tkS 4 { dst := some 23, op := .load 9 (.tmp 22), type := 9, pos := "body.go:82", after := #[{ on := 3, ground := .data }], guard := none } (v := ?v2_4) hq hHeld rfl (by kernel_rfl) ?y2_4 ?_
      case y2_4 => (intro w h; try dsimp only at h); go_simp <;> with_reducible rfl
      try simp only [Act.put, List.setIfInBounds_toArray, List.set_cons_zero, List.set_cons_succ]
      refine tkS 5 { dst := some 24, op := .binOp .neq 9 (.tmp 23) (.const (.string { data := #[] })) 9, type := 4, pos := "body.go:82", after := #[{ on := 4, ground := .data }], guard := none } (v := ?v2_5) hq hHeld rfl (by kernel_rfl) ?y2_5 ?_
      case y2_5 => (intro w h; try dsimp only at h); go_simp <;> with_reducible rfl
      try simp only [Act.put, List.setIfInBounds_toArray, List.set_cons_zero, List.set_cons_succ]
      refine tkS 6 { dst := some 25, op := .move (.tmp 24), type := 4, pos := "body.go:82", after := #[{ on := 5, ground := .data }], guard := none } (v := ?v2_6) hq hHeld rfl (by kernel_rfl) ?y2_6 ?_
      case y2_6 => (intro w h; try dsimp only at h); go_simp <;> with_reducible rfl
      try simp only [Act.put, List.setIfInBounds_toArray, List.set_cons_zero, List.set_cons_succ]
      refine skS 7 { dst := some 26, op := .move (.tmp 4), type := 9, pos := "body.go:82", after := #[{ on := 6, ground := .guard }], guard := some (6, true) } hq hHeld rfl (by kernel_rfl) ?_
      try simp only [Act.put, List.setIfInBounds_toArray, List.set_cons_zero, List.set_cons_succ]
      refine skS 8 { dst := some 27, op := .move (.tmp 0), type := 185, pos := "body.go:82", after := #[{ on := 6, ground := .guard }], guard := some (6, true) } hq hHeld rfl (by kernel_rfl) ?_
      try simp only [Act.put, List.setIfInBounds_toArray, List.set_cons_zero, List.set_cons_succ]
      refine skS 9 { dst := some 28, op := .nilCheck (.tmp 27), type := 0, pos := "body.go:82", after := #[{ on := 8, ground := .data }, { on := 6, ground := .guard }], guard := some (6, true) } hq hHeld rfl (by kernel_rfl) ?_
      try simp only [Act.put, List.setIfInBounds_toArray, List.set_cons_zero, List.set_cons_succ]
      refine skS 10 { dst := some 29, op := .fieldAddr 179 (.tmp 28) 1, type := 0, pos := "body.go:82", after := #[{ on := 9, ground := .data }, { on := 6, ground := .guard }], guard := some (6, true) } hq hHeld rfl (by kernel_rfl) ?_
      try simp only [Act.put, List.setIfInBounds_toArray, List.set_cons_zero, List.set_cons_succ]
      refine skS 11 { dst := some 30, op := .load 9 (.tmp 29), type := 9, pos := "body.go:82", after := #[{ on := 10, ground := .data }, { on := 6, ground := .guard }], guard := some (6, true) } hq hHeld rfl (by kernel_rfl) ?_
      try simp only [Act.put, List.setIfInBounds_toArray, List.set_cons_zero, List.set_cons_succ]
      refine skS 12 { dst := some 31, op := .call { callee := .value (.func 188), args := #[.tmp 26, .tmp 30], argTypes := #[9, 9] }, type := 4, pos := "body.go:82", after := #[{ on := 7, ground := .data }, { on := 11, ground := .data }, { on := 6, ground := .chain }, { on := 6, ground := .guard }], guard := some (6, true) } hq hHeld rfl (by kernel_rfl) ?_
      try simp only [Act.put, List.setIfInBounds_toArray, List.set_cons_zero, List.set_cons_succ]
      refine tkS 13 { dst := some 32, op := .pick (.tmp 25) (.tmp 31) (.const (.bool false)), type := 4, pos := "body.go:82", after := #[{ on := 6, ground := .data }, { on := 12, ground := .data }], guard := none } (v := ?v2_13) hq hHeld rfl (by kernel_rfl) ?y2_13 ?_
      case y2_13 => (intro w h; try dsimp only at h); go_simp <;> with_reducible rfl
      try simp only [Act.put, List.setIfInBounds_toArray, List.set_cons_zero, List.set_cons_succ]
      refine clS 14 { dst := some 33, op := .call { callee := .value (.func 148), args := #[.tmp 19, .tmp 32, .const (.int .i64 7)], argTypes := #[25, 4, 26] }, type := 0, pos := "body.go:82", after := #[{ on := 0, ground := .data }, { on := 13, ground := .data }, { on := 12, ground := .chain }], guard := none } rfl (by kernel_rfl) (by kernel_rfl) fun Kc hK => ?_
      go_simp
      refine (cneed_at NN.out H0.out.B false 7 _ hHeld.1).mono ?_
      rintro e w1 ⟨hb, rfl⟩
      exact ⟨rfl, rfl, BE.out _ (hHeld.1.trans (hb.mono hHeld.1.size))⟩
    | false =>
      refine rgS (fun w' => Below wa.heap.size wa w' ∧ w'.cell? ⟨w.heap.size, 0, none⟩ = some (.pointer (some ⟨b, 0, none⟩)) ∧ w'.cell? ⟨E.sb, 3, none⟩ = some (.string E.res)) (by kernel_rfl) (⟨hh.out.drew, u0, c3⟩) (fun _ a d v _ h => And.intro ((put_df a d v).symm.trans (And.left h)) (And.right h)) fun hHeld hq => ?_
      refine tkS 0 { dst := some 19, op := .load 25 (.tmp 3), type := 25, pos := "body.go:82", after := #[], guard := none } (v := ?v3_0) hq hHeld rfl (by kernel_rfl) ?y3_0 ?_
      case y3_0 => (intro w h; try dsimp only at h); go_simp <;> with_reducible rfl
      try simp only [Act.put, List.setIfInBounds_toArray, List.set_cons_zero, List.set_cons_succ]
      refine tkS 1 { dst := some 20, op := .move (.tmp 0), type := 185, pos := "body.go:82", after := #[], guard := none } (v := ?v3_1) hq hHeld rfl (by kernel_rfl) ?y3_1 ?_
      case y3_1 => (intro w h; try dsimp only at h); go_simp <;> with_reducible rfl
      try simp only [Act.put, List.setIfInBounds_toArray, List.set_cons_zero, List.set_cons_succ]
      refine tkS 2 { dst := some 21, op := .nilCheck (.tmp 20), type := 0, pos := "body.go:82", after := #[{ on := 1, ground := .data }], guard := none } (v := ?v3_2) hq hHeld rfl (by kernel_rfl) ?y3_2 ?_
      case y3_2 => (intro w h; try dsimp only at h); go_simp <;> with_reducible rfl
      try simp only [Act.put, List.setIfInBounds_toArray, List.set_cons_zero, List.set_cons_succ]
      refine tkS 3 { dst := some 22, op := .fieldAddr 179 (.tmp 21) 1, type := 0, pos := "body.go:82", after := #[{ on := 2, ground := .data }], guard := none } (v := ?v3_3) hq hHeld rfl (by kernel_rfl) ?y3_3 ?_
      case y3_3 => (intro w h; try dsimp only at h); go_simp <;> with_reducible rfl
      try simp only [Act.put, List.setIfInBounds_toArray, List.set_cons_zero, List.set_cons_succ]
      refine tkS 4 { dst := some 23, op := .load 9 (.tmp 22), type := 9, pos := "body.go:82", after := #[{ on := 3, ground := .data }], guard := none } (v := ?v3_4) hq hHeld rfl (by kernel_rfl) ?y3_4 ?_
      case y3_4 => (intro w h; try dsimp only at h); go_simp <;> with_reducible rfl
      try simp only [Act.put, List.setIfInBounds_toArray, List.set_cons_zero, List.set_cons_succ]
      refine tkS 5 { dst := some 24, op := .binOp .neq 9 (.tmp 23) (.const (.string { data := #[] })) 9, type := 4, pos := "body.go:82", after := #[{ on := 4, ground := .data }], guard := none } (v := ?v3_5) hq hHeld rfl (by kernel_rfl) ?y3_5 ?_
      case y3_5 => (intro w h; try dsimp only at h); go_simp <;> with_reducible rfl
      try simp only [Act.put, List.setIfInBounds_toArray, List.set_cons_zero, List.set_cons_succ]
      refine tkS 6 { dst := some 25, op := .move (.tmp 24), type := 4, pos := "body.go:82", after := #[{ on := 5, ground := .data }], guard := none } (v := ?v3_6) hq hHeld rfl (by kernel_rfl) ?y3_6 ?_
      case y3_6 => (intro w h; try dsimp only at h); go_simp <;> with_reducible rfl
      try simp only [Act.put, List.setIfInBounds_toArray, List.set_cons_zero, List.set_cons_succ]
      refine tkS 7 { dst := some 26, op := .move (.tmp 4), type := 9, pos := "body.go:82", after := #[{ on := 6, ground := .guard }], guard := some (6, true) } (v := ?v3_7) hq hHeld rfl (by kernel_rfl) ?y3_7 ?_
      case y3_7 => (intro w h; try dsimp only at h); go_simp <;> with_reducible rfl
      try simp only [Act.put, List.setIfInBounds_toArray, List.set_cons_zero, List.set_cons_succ]
      refine tkS 8 { dst := some 27, op := .move (.tmp 0), type := 185, pos := "body.go:82", after := #[{ on := 6, ground := .guard }], guard := some (6, true) } (v := ?v3_8) hq hHeld rfl (by kernel_rfl) ?y3_8 ?_
      case y3_8 => (intro w h; try dsimp only at h); go_simp <;> with_reducible rfl
      try simp only [Act.put, List.setIfInBounds_toArray, List.set_cons_zero, List.set_cons_succ]
      refine tkS 9 { dst := some 28, op := .nilCheck (.tmp 27), type := 0, pos := "body.go:82", after := #[{ on := 8, ground := .data }, { on := 6, ground := .guard }], guard := some (6, true) } (v := ?v3_9) hq hHeld rfl (by kernel_rfl) ?y3_9 ?_
      case y3_9 => (intro w h; try dsimp only at h); go_simp <;> with_reducible rfl
      try simp only [Act.put, List.setIfInBounds_toArray, List.set_cons_zero, List.set_cons_succ]
      refine tkS 10 { dst := some 29, op := .fieldAddr 179 (.tmp 28) 1, type := 0, pos := "body.go:82", after := #[{ on := 9, ground := .data }, { on := 6, ground := .guard }], guard := some (6, true) } (v := ?v3_10) hq hHeld rfl (by kernel_rfl) ?y3_10 ?_
      case y3_10 => (intro w h; try dsimp only at h); go_simp <;> with_reducible rfl
      try simp only [Act.put, List.setIfInBounds_toArray, List.set_cons_zero, List.set_cons_succ]
      refine tkS 11 { dst := some 30, op := .load 9 (.tmp 29), type := 9, pos := "body.go:82", after := #[{ on := 10, ground := .data }, { on := 6, ground := .guard }], guard := some (6, true) } (v := ?v3_11) hq hHeld rfl (by kernel_rfl) ?y3_11 ?_
      case y3_11 => (intro w h; try dsimp only at h); go_simp <;> with_reducible rfl
      try simp only [Act.put, List.setIfInBounds_toArray, List.set_cons_zero, List.set_cons_succ]
      refine clS 12 { dst := some 31, op := .call { callee := .value (.func 188), args := #[.tmp 26, .tmp 30], argTypes := #[9, 9] }, type := 4, pos := "body.go:82", after := #[{ on := 7, ground := .data }, { on := 11, ground := .data }, { on := 6, ground := .chain }, { on := 6, ground := .guard }], guard := some (6, true) } rfl (by kernel_rfl) (by kernel_rfl) fun Kc hK => ?_
      go_simp
      refine (sameB (cfits_any a E.res q _ (Lib.hid (H0.out.below hHeld.1).imw.good.keys) HQ)).mono ?_
      rintro e w1 ⟨rfl, hb⟩
      refine hK.out _ _ ⟨hHeld.1.trans (hb.mono hHeld.1.size), keepC hHeld.1 hHeld.2.1 ul hb, keepC hHeld.1 hHeld.2.2 sl hb⟩ fun hHeld => ?_
      clear hb
      clear hK Kc
      try simp only [Act.put, List.setIfInBounds_toArray, List.set_cons_zero, List.set_cons_succ]
      refine tkS 13 { dst := some 32, op := .pick (.tmp 25) (.tmp 31) (.const (.bool false)), type := 4, pos := "body.go:82", after := #[{ on := 6, ground := .data }, { on := 12, ground := .data }], guard := none } (v := ?v3_13) hq hHeld rfl (by kernel_rfl) ?y3_13 ?_
      case y3_13 => (intro w h; try dsimp only at h); go_simp <;> with_reducible rfl
      try simp only [Act.put, List.setIfInBounds_toArray, List.set_cons_zero, List.set_cons_succ]
      refine clS 14 { dst := some 33, op := .call { callee := .value (.func 148), args := #[.tmp 19, .tmp 32, .const (.int .i64 7)], argTypes := #[25, 4, 26] }, type := 0, pos := "body.go:82", after := #[{ on := 0, ground := .data }, { on := 13, ground := .data }, { on := 12, ground := .chain }], guard := none } rfl (by kernel_rfl) (by kernel_rfl) fun Kc hK => ?_
      go_simp
      refine (cneed_at NN.out H0.out.B q 7 _ hHeld.1).mono ?_
      rintro e w1 ⟨hb, he⟩
      cases q with
      | false => obtain rfl := he; exact ⟨rfl, by simp only [CR.bind, HQ.out]; exact ⟨rfl, BE.out _ (hHeld.1.trans (hb.mono hHeld.1.size))⟩⟩
      | true =>
      obtain rfl := he
      refine hK.out _ _ ⟨hHeld.1.trans (hb.mono hHeld.1.size), keepC hHeld.1 hHeld.2.1 ul hb, keepC hHeld.1 hHeld.2.2 sl hb⟩ fun hHeld => ?_
      clear hb
      clear hK Kc
      try simp only [Act.put, List.setIfInBounds_toArray, List.set_cons_zero, List.set_cons_succ]
      refine wpAnyH_done (by kernel_rfl) ?_ _
      go_wp2_with fail
      refine bodyPost_end (v := .tuple #[]) (by simp [results, Tryz.results192, go_sem]) rfl ?_
      simp only [CR.bind, HQ.out]
      exact ⟨v, rfl, (SS.refl HH.out).below (B0.out.trans (hHeld.1.mono B0.out.size))⟩

end Go.Proofs.YtkahbhfbgdbnfaaGreatDoor

/-
  CONTRACT: statement of package check, at every tree that a source can have. Only the scope's own blocks have turned.
-/
namespace Go.Proofs.YtkahbhfbgdbnfaaGreatDoor
open Go.RowKit

set_option maxRecDepth 100000 in
set_option maxHeartbeats 1000000 in
theorem cstmt_step (E : CE) (hx : Hid (InfOk E.x)) (t : Tree) (W : Wt t) (ihx : ∀ (k : Nat) (u : Tree), t.kids[k]? = some u → XH E u) (ih : ∀ (k : Nat) (u : Tree), t.kids[k]? = some u → YH E u) : YH E t := by
  intro w v K f b H hKo N hz
  have B0 := Lib.hid (b1 w (.cells #[.pointer (some ⟨b, 0, none⟩)] 25))
  have H0 := Lib.hid (H.below (b1 w (.cells #[.pointer (some ⟨b, 0, none⟩)] 25)))
  have U0 := Lib.hid (PtrAt.new w (some ⟨b, 0, none⟩))
  have NN := Lib.hid N
  have HH := Lib.hid H
  have BE : Hid (∀ w', Below (w.alloc (.cells #[.pointer (some ⟨b, 0, none⟩)] 25)).heap.size (w.alloc (.cells #[.pointer (some ⟨b, 0, none⟩)] 25)) w' → Below E.w0.heap.size E.w0 w') := fun w' h => H0.out.B.trans (h.mono H0.out.B.size)
  have HKO := Lib.hid hKo
  have IHX := Lib.hid ihx
  have IH := Lib.hid ih
  have hzT := sizeT_eq t
  have hz1 : K.length + sizeL t.kids ≤ 100000 := by omega
  clear H N ih ihx
  have hop : t.op = 6 ∨ t.op = 7 ∨ t.op = 8 ∨ t.op = 9 ∨ t.op = 10 ∨ t.op = 11 ∨ t.op = 12 ∨ t.op = 13 ∨ t.op = 14 ∨ (¬ t.op = 6 ∧ ¬ t.op = 7 ∧ ¬ t.op = 8 ∧ ¬ t.op = 9 ∧ ¬ t.op = 10 ∧ ¬ t.op = 11 ∧ ¬ t.op = 12 ∧ ¬ t.op = 13 ∧ ¬ t.op = 14) := by omega
  rcases hop with ho | ho | ho | ho | ho | ho | ho | ho | ho | ho
  · have HS : Hid (stmtC E.x E.res t K f = (stmtsC E.x E.res t.kids K K.length).bind fun _ => .ok K) := by show _ = _; rw [stmtC_eq, ho]; rfl
    go_enter Tryz.func171, Tryz.ntmps171
    go_wp2_with fail
    generalize w.alloc (.cells #[.pointer (some ⟨b, 0, none⟩)] 25) = wa at *
    have u0 := U0.out.c0
    have ul := U0.out.lt
    have sl := H0.out.lt
    have c0 := H0.out.c0
    have c1 := H0.out.c1
    have c2 := H0.out.c2
    refine (cop_at NN.out H0.out.B _ (Below.refl _ _)).mono ?_
    rintro e w1 ⟨rfl, hb⟩
    have u0 := keepC (Below.refl _ _) u0 ul hb
    have hh := Lib.hid hb
    clear hb c0 c1 c2
    rw [ho]
    go_wp2_with fail
    refine (cblock_any E hx v K f b t _ (H0.out.below hh.out) HKO.out NN.out hz1 IH.out).mono ?_
    rw [← HS.out]
    intro e w2 he
    obtain ⟨q, hq⟩ : ∃ q, stmtC E.x E.res t K f = q := ⟨_, rfl⟩
    rw [hq] at he
    cases q with
    | bad p er => obtain ⟨rfl, hb⟩ := he; exact ⟨rfl, by rw [hq]; exact ⟨rfl, hb⟩⟩
    | ok K2 =>
      obtain ⟨v2, rfl, hs⟩ := he
      have HSS := Lib.hid hs
      clear hs
      go_wp2_with fail
      refine bodyPost_end (v := .tuple #[]) (by simp [results, Tryz.results171, go_sem]) rfl ?_
      rw [hq]
      exact ⟨v2, rfl, ((SS.refl HH.out).below (B0.out.trans (hh.out.mono B0.out.size))).trans HSS.out⟩
  · obtain ⟨u, hu⟩ := kid_is (t := t) (i := 0) (by have := W.least; rw [ho] at this; exact Nat.lt_of_lt_of_le (by decide) this)
    have hk0 : kidC (t.kids.map (exprC E.x K)) 0 = exprC E.x K u := kidC_at hu
    have HS : Hid (stmtC E.x E.res t K f = (exprC E.x K u).bind fun a => nd t.pos (freeB K f (nm t)) 6 (nd t.pos (!eqB a tNil && !eqB a tNone) 7 (.ok (K ++ [⟨nm t, a⟩])))) := by show _ = _; rw [stmtC_eq, ho, ← hk0]; rfl
    go_enter Tryz.func171, Tryz.ntmps171
    go_wp2_with fail
    generalize w.alloc (.cells #[.pointer (some ⟨b, 0, none⟩)] 25) = wa at *
    have u0 := U0.out.c0
    have ul := U0.out.lt
    have sl := H0.out.lt
    have c0 := H0.out.c0
    have c1 := H0.out.c1
    have c2 := H0.out.c2
    refine (cop_at NN.out H0.out.B _ (Below.refl _ _)).mono ?_
    rintro e w1 ⟨rfl, hb⟩
    have u0 := keepC (Below.refl _ _) u0 ul hb
    have hh := Lib.hid hb
    clear hb c0 c1 c2
    rw [ho]
    go_wp2_with fail
    refine (cdefine_any E v K f b t u _ (H0.out.below hh.out) HKO.out NN.out hu (by omega) (IHX.out 0 u hu)).mono ?_
    rw [← HS.out]
    intro e w2 he
    obtain ⟨q, hq⟩ : ∃ q, stmtC E.x E.res t K f = q := ⟨_, rfl⟩
    rw [hq] at he
    cases q with
    | bad p er => obtain ⟨rfl, hb⟩ := he; exact ⟨rfl, by rw [hq]; exact ⟨rfl, hb⟩⟩
    | ok K2 =>
      obtain ⟨v2, rfl, hs⟩ := he
      have HSS := Lib.hid hs
      clear hs
      go_wp2_with fail
      refine bodyPost_end (v := .tuple #[]) (by simp [results, Tryz.results171, go_sem]) rfl ?_
      rw [hq]
      exact ⟨v2, rfl, ((SS.refl HH.out).below (B0.out.trans (hh.out.mono B0.out.size))).trans HSS.out⟩
  · obtain ⟨u, hu⟩ := kid_is (t := t) (i := 0) (by have := W.least; rw [ho] at this; exact Nat.lt_of_lt_of_le (by decide) this)
    have hk0 : kidC (t.kids.map (exprC E.x K)) 0 = exprC E.x K u := kidC_at hu
    obtain ⟨r, hr⟩ : ∃ r, exprC E.x K u = r := ⟨_, rfl⟩
    have Hr := Lib.hid hr
    have Hu := Lib.hid hu
    obtain ⟨nb0, hn0, hkd0⟩ := ckid_at NN.out H0.out.B 0 u hu
    have N1 := Lib.hid hn0
    have HKD := Lib.hid hkd0
    clear hn0 hkd0
    obtain ⟨q, hq⟩ : ∃ q, varC E.x K t.pos (nm t) = q := ⟨_, rfl⟩
    have HQ := Lib.hid hq
    have HS : Hid (stmtC E.x E.res t K f = r.bind fun a => q.bind fun v => nd t.pos (fitB a v) 7 (.ok K)) := by show _ = _; rw [stmtC_eq, ho, ← hq, ← hr, ← hk0]; rfl
    clear hr hq hu hk0
    go_enter Tryz.func171, Tryz.ntmps171
    go_wp2_with fail
    generalize w.alloc (.cells #[.pointer (some ⟨b, 0, none⟩)] 25) = wa at *
    have u0 := U0.out.c0
    have ul := U0.out.lt
    have sl := H0.out.lt
    have c0 := H0.out.c0
    have c1 := H0.out.c1
    have c2 := H0.out.c2
    refine (cop_at NN.out H0.out.B _ (Below.refl _ _)).mono ?_
    rintro e w1 ⟨rfl, hb⟩
    have u0 := keepC (Below.refl _ _) u0 ul hb
    have hh := Lib.hid hb
    clear hb c0 c1 c2
    rw [ho]
    go_wp2_with fail
    refine (kid0_of 0 _ _ (HKD.out _ hh.out) 0 rfl).mono ?_
    rintro e w2 ⟨rfl, hb⟩
    have u0 := keepC hh.out u0 ul hb
    have hh := Lib.hid (hh.out.trans (hb.mono hh.out.size))
    clear hb
    go_wp2_with fail
    refine (IHX.out 0 u Hu.out _ v K f _ (H0.out.below hh.out) HKO.out N1.out).mono ?_
    rw [Hr.out]
    rintro e w3 ⟨hb, he⟩
    cases r with
    | bad p er => obtain rfl := he; exact ⟨rfl, by rw [HS.out]; exact ⟨rfl, BE.out _ (hh.out.trans (hb.mono hh.out.size))⟩⟩
    | ok a =>
    obtain rfl := he
    have u0 := keepC hh.out u0 ul hb
    have hh := Lib.hid (hh.out.trans (hb.mono hh.out.size))
    clear hb
    go_wp2_with fail
    refine rgS (fun w' => Below wa.heap.size wa w' ∧ w'.cell? ⟨w.heap.size, 0, none⟩ = some (.pointer (some ⟨b, 0, none⟩))) (by kernel_rfl) (⟨hh.out.drew, u0⟩) (fun _ a d v _ h => And.intro ((put_df a d v).symm.trans (And.left h)) (And.right h)) fun hHeld hq => ?_
    refine tkS 0 { dst := some 25, op := .load 25 (.tmp 3), type := 25, pos := "body.go:37", after := #[], guard := none } (v := ?v1_0) hq hHeld rfl (by kernel_rfl) ?y1_0 ?_
    case y1_0 => (intro w h; try dsimp only at h); go_simp <;> with_reducible rfl
    try simp only [Act.put, List.setIfInBounds_toArray, List.set_cons_zero, List.set_cons_succ]
    refine tkS 1 { dst := some 26, op := .move (.tmp 4), type := 9, pos := "body.go:37", after := #[], guard := none } (v := ?v1_1) hq hHeld rfl (by kernel_rfl) ?y1_1 ?_
    case y1_1 => (intro w h; try dsimp only at h); go_simp <;> with_reducible rfl
    try simp only [Act.put, List.setIfInBounds_toArray, List.set_cons_zero, List.set_cons_succ]
    refine tkS 2 { dst := some 27, op := .move (.tmp 0), type := 185, pos := "body.go:37", after := #[], guard := none } (v := ?v1_2) hq hHeld rfl (by kernel_rfl) ?y1_2 ?_
    case y1_2 => (intro w h; try dsimp only at h); go_simp <;> with_reducible rfl
    try simp only [Act.put, List.setIfInBounds_toArray, List.set_cons_zero, List.set_cons_succ]
    refine tkS 3 { dst := some 28, op := .load 25 (.tmp 3), type := 25, pos := "body.go:37", after := #[], guard := none } (v := ?v1_3) hq hHeld rfl (by kernel_rfl) ?y1_3 ?_
    case y1_3 => (intro w h; try dsimp only at h); go_simp <;> with_reducible rfl
    try simp only [Act.put, List.setIfInBounds_toArray, List.set_cons_zero, List.set_cons_succ]
    refine clS 4 { dst := some 29, op := .call { callee := .value (.func 189), args := #[.tmp 27, .tmp 28], argTypes := #[185, 25] }, type := 9, pos := "body.go:37", after := #[{ on := 2, ground := .data }, { on := 3, ground := .data }], guard := none } rfl (by kernel_rfl) (by kernel_rfl) fun Kc hK => ?_
    go_simp
    refine (cvariable_any E v K f b t _ (H0.out.below hHeld.1) NN.out).mono ?_
    rw [HQ.out]
    rintro e w1 ⟨hb, he⟩
    cases q with
    | bad p er => obtain rfl := he; exact ⟨rfl, by rw [HS.out]; exact ⟨rfl, BE.out _ (hHeld.1.trans (hb.mono hHeld.1.size))⟩⟩
    | ok a2 =>
    obtain rfl := he
    obtain ⟨d, hd⟩ : ∃ d, fitB a a2 = d := ⟨_, rfl⟩
    have HD := Lib.hid hd
    refine hK.out _ _ ⟨hHeld.1.trans (hb.mono hHeld.1.size), keepC hHeld.1 hHeld.2 ul hb⟩ fun hHeld => ?_
    clear hb hd
    clear hK Kc
    try simp only [Act.put, List.setIfInBounds_toArray, List.set_cons_zero, List.set_cons_succ]
    refine clS 5 { dst := some 30, op := .call { callee := .value (.func 188), args := #[.tmp 26, .tmp 29], argTypes := #[9, 9] }, type := 4, pos := "body.go:37", after := #[{ on := 1, ground := .data }, { on := 4, ground := .data }, { on := 4, ground := .chain }], guard := none } rfl (by kernel_rfl) (by kernel_rfl) fun Kc hK => ?_
    go_simp
    refine (sameB (cfits_any a a2 d _ (Lib.hid (H0.out.below hHeld.1).imw.good.keys) HD)).mono ?_
    rintro e w1 ⟨rfl, hb⟩
    refine hK.out _ _ ⟨hHeld.1.trans (hb.mono hHeld.1.size), keepC hHeld.1 hHeld.2 ul hb⟩ fun hHeld => ?_
    clear hb
    clear hK Kc
    try simp only [Act.put, List.setIfInBounds_toArray, List.set_cons_zero, List.set_cons_succ]
    refine clS 6 { dst := some 31, op := .call { callee := .value (.func 148), args := #[.tmp 25, .tmp 30, .const (.int .i64 7)], argTypes := #[25, 4, 26] }, type := 0, pos := "body.go:37", after := #[{ on := 0, ground := .data }, { on := 5, ground := .data }, { on := 5, ground := .chain }], guard := none } rfl (by kernel_rfl) (by kernel_rfl) fun Kc hK => ?_
    go_simp
    refine (cneed_at NN.out H0.out.B d 7 _ hHeld.1).mono ?_
    rintro e w1 ⟨hb, he⟩
    cases d with
    | false => obtain rfl := he; exact ⟨rfl, by rw [HS.out]; simp only [CR.bind]; rw [HD.out]; exact ⟨rfl, BE.out _ (hHeld.1.trans (hb.mono hHeld.1.size))⟩⟩
    | true =>
    obtain rfl := he
    refine hK.out _ _ ⟨hHeld.1.trans (hb.mono hHeld.1.size), keepC hHeld.1 hHeld.2 ul hb⟩ fun hHeld => ?_
    clear hb
    clear hK Kc
    try simp only [Act.put, List.setIfInBounds_toArray, List.set_cons_zero, List.set_cons_succ]
    refine wpAnyH_done (by kernel_rfl) ?_ _
    go_wp2_with fail
    refine bodyPost_end (v := .tuple #[]) (by simp [results, Tryz.results171, go_sem]) rfl ?_
    rw [HS.out]
    simp only [CR.bind]
    rw [HD.out]
    exact ⟨v, rfl, (SS.refl HH.out).below (B0.out.trans (hHeld.1.mono B0.out.size))⟩
  · obtain ⟨u, hu⟩ := kid_is (t := t) (i := 0) (by have := W.least; rw [ho] at this; exact Nat.lt_of_lt_of_le (by decide) this)
    have hk0 : kidC (t.kids.map (exprC E.x K)) 0 = exprC E.x K u := kidC_at hu
    obtain ⟨u2, hu2⟩ := kid_is (t := t) (i := 1) (by have := W.least; rw [ho] at this; exact Nat.lt_of_lt_of_le (by decide) this)
    have hk1 : kidC (t.kids.map (exprC E.x K)) 1 = exprC E.x K u2 := kidC_at hu2
    obtain ⟨r, hr⟩ : ∃ r, exprC E.x K u = r := ⟨_, rfl⟩
    have Hr := Lib.hid hr
    have Hu := Lib.hid hu
    obtain ⟨nb0, hn0, hkd0⟩ := ckid_at NN.out H0.out.B 0 u hu
    have N1 := Lib.hid hn0
    have HKD := Lib.hid hkd0
    clear hn0 hkd0
    obtain ⟨r2, hr2⟩ : ∃ r, exprC E.x K u2 = r := ⟨_, rfl⟩
    have Hr2 := Lib.hid hr2
    have Hu2 := Lib.hid hu2
    obtain ⟨nb1, hn1, hkd1⟩ := ckid_at NN.out H0.out.B 1 u2 hu2
    have N2 := Lib.hid hn1
    have HKD2 := Lib.hid hkd1
    clear hn1 hkd1
    have HS : Hid (stmtC E.x E.res t K f = r.bind fun a => r2.bind fun b => (fieldC E.x t.pos (nm t) a).bind fun v => nd t.pos (fitB b v) 7 (.ok K)) := by show _ = _; rw [stmtC_eq, ho, ← hr, ← hr2, ← hk0, ← hk1]; rfl
    clear hr hr2 hu hk0 hu2 hk1
    go_enter Tryz.func171, Tryz.ntmps171
    go_wp2_with fail
    generalize w.alloc (.cells #[.pointer (some ⟨b, 0, none⟩)] 25) = wa at *
    have u0 := U0.out.c0
    have ul := U0.out.lt
    have sl := H0.out.lt
    have c0 := H0.out.c0
    have c1 := H0.out.c1
    have c2 := H0.out.c2
    refine (cop_at NN.out H0.out.B _ (Below.refl _ _)).mono ?_
    rintro e w1 ⟨rfl, hb⟩
    have u0 := keepC (Below.refl _ _) u0 ul hb
    have hh := Lib.hid hb
    clear hb c0 c1 c2
    rw [ho]
    go_wp2_with fail
    refine (kid0_of 0 _ _ (HKD.out _ hh.out) 0 rfl).mono ?_
    rintro e w2 ⟨rfl, hb⟩
    have u0 := keepC hh.out u0 ul hb
    have hh := Lib.hid (hh.out.trans (hb.mono hh.out.size))
    clear hb
    go_wp2_with fail
    refine (IHX.out 0 u Hu.out _ v K f _ (H0.out.below hh.out) HKO.out N1.out).mono ?_
    rw [Hr.out]
    rintro e w3 ⟨hb, he⟩
    cases r with
    | bad p er => obtain rfl := he; exact ⟨rfl, by rw [HS.out]; exact ⟨rfl, BE.out _ (hh.out.trans (hb.mono hh.out.size))⟩⟩
    | ok a =>
    obtain rfl := he
    have u0 := keepC hh.out u0 ul hb
    have hh := Lib.hid (hh.out.trans (hb.mono hh.out.size))
    clear hb
    have HTY := Lib.hid (expr_ty hx.out HKO.out Hr.out)
    go_wp2_with fail
    refine (kid0_of 1 _ _ (HKD2.out _ hh.out) 1 rfl).mono ?_
    rintro e w2 ⟨rfl, hb⟩
    have u0 := keepC hh.out u0 ul hb
    have hh := Lib.hid (hh.out.trans (hb.mono hh.out.size))
    clear hb
    go_wp2_with fail
    refine (IHX.out 1 u2 Hu2.out _ v K f _ (H0.out.below hh.out) HKO.out N2.out).mono ?_
    rw [Hr2.out]
    rintro e w3 ⟨hb, he⟩
    cases r2 with
    | bad p er => obtain rfl := he; exact ⟨rfl, by rw [HS.out]; exact ⟨rfl, BE.out _ (hh.out.trans (hb.mono hh.out.size))⟩⟩
    | ok a1 =>
    obtain rfl := he
    have u0 := keepC hh.out u0 ul hb
    have hh := Lib.hid (hh.out.trans (hb.mono hh.out.size))
    clear hb
    obtain ⟨q, hq⟩ : ∃ q, fieldC E.x t.pos (nm t) a = q := ⟨_, rfl⟩
    have HQ := Lib.hid hq
    have HS : Hid (stmtC E.x E.res t K f = q.bind fun v => nd t.pos (fitB a1 v) 7 (.ok K)) := by show _ = _; rw [HS.out]; simp only [CR.bind]; rw [hq]
    clear hq
    go_wp2_with fail
    refine rgS (fun w' => Below wa.heap.size wa w' ∧ w'.cell? ⟨w.heap.size, 0, none⟩ = some (.pointer (some ⟨b, 0, none⟩))) (by kernel_rfl) (⟨hh.out.drew, u0⟩) (fun _ a d v _ h => And.intro ((put_df a d v).symm.trans (And.left h)) (And.right h)) fun hHeld hq => ?_
    refine tkS 0 { dst := some 42, op := .load 25 (.tmp 3), type := 25, pos := "body.go:41", after := #[], guard := none } (v := ?v2_0) hq hHeld rfl (by kernel_rfl) ?y2_0 ?_
    case y2_0 => (intro w h; try dsimp only at h); go_simp <;> with_reducible rfl
    try simp only [Act.put, List.setIfInBounds_toArray, List.set_cons_zero, List.set_cons_succ]
    refine tkS 1 { dst := some 43, op := .move (.tmp 6), type := 9, pos := "body.go:41", after := #[], guard := none } (v := ?v2_1) hq hHeld rfl (by kernel_rfl) ?y2_1 ?_
    case y2_1 => (intro w h; try dsimp only at h); go_simp <;> with_reducible rfl
    try simp only [Act.put, List.setIfInBounds_toArray, List.set_cons_zero, List.set_cons_succ]
    refine tkS 2 { dst := some 44, op := .move (.tmp 0), type := 185, pos := "body.go:41", after := #[], guard := none } (v := ?v2_2) hq hHeld rfl (by kernel_rfl) ?y2_2 ?_
    case y2_2 => (intro w h; try dsimp only at h); go_simp <;> with_reducible rfl
    try simp only [Act.put, List.setIfInBounds_toArray, List.set_cons_zero, List.set_cons_succ]
    refine tkS 3 { dst := some 45, op := .load 25 (.tmp 3), type := 25, pos := "body.go:41", after := #[], guard := none } (v := ?v2_3) hq hHeld rfl (by kernel_rfl) ?y2_3 ?_
    case y2_3 => (intro w h; try dsimp only at h); go_simp <;> with_reducible rfl
    try simp only [Act.put, List.setIfInBounds_toArray, List.set_cons_zero, List.set_cons_succ]
    refine tkS 4 { dst := some 46, op := .move (.tmp 5), type := 9, pos := "body.go:41", after := #[], guard := none } (v := ?v2_4) hq hHeld rfl (by kernel_rfl) ?y2_4 ?_
    case y2_4 => (intro w h; try dsimp only at h); go_simp <;> with_reducible rfl
    try simp only [Act.put, List.setIfInBounds_toArray, List.set_cons_zero, List.set_cons_succ]
    refine clS 5 { dst := some 47, op := .call { callee := .value (.func 190), args := #[.tmp 44, .tmp 45, .tmp 46], argTypes := #[185, 25, 9] }, type := 9, pos := "body.go:41", after := #[{ on := 2, ground := .data }, { on := 3, ground := .data }, { on := 4, ground := .data }], guard := none } rfl (by kernel_rfl) (by kernel_rfl) fun Kc hK => ?_
    go_simp
    refine (cfield_any E v K f b t a _ (H0.out.below hHeld.1) NN.out HTY).mono ?_
    rw [HQ.out]
    rintro e w1 ⟨hb, he⟩
    cases q with
    | bad p er => obtain rfl := he; exact ⟨rfl, by rw [HS.out]; exact ⟨rfl, BE.out _ (hHeld.1.trans (hb.mono hHeld.1.size))⟩⟩
    | ok a2 =>
    obtain rfl := he
    obtain ⟨d, hd⟩ : ∃ d, fitB a1 a2 = d := ⟨_, rfl⟩
    have HD := Lib.hid hd
    refine hK.out _ _ ⟨hHeld.1.trans (hb.mono hHeld.1.size), keepC hHeld.1 hHeld.2 ul hb⟩ fun hHeld => ?_
    clear hb hd
    clear hK Kc
    try simp only [Act.put, List.setIfInBounds_toArray, List.set_cons_zero, List.set_cons_succ]
    refine clS 6 { dst := some 48, op := .call { callee := .value (.func 188), args := #[.tmp 43, .tmp 47], argTypes := #[9, 9] }, type := 4, pos := "body.go:41", after := #[{ on := 1, ground := .data }, { on := 5, ground := .data }, { on := 5, ground := .chain }], guard := none } rfl (by kernel_rfl) (by kernel_rfl) fun Kc hK => ?_
    go_simp
    refine (sameB (cfits_any a1 a2 d _ (Lib.hid (H0.out.below hHeld.1).imw.good.keys) HD)).mono ?_
    rintro e w1 ⟨rfl, hb⟩
    refine hK.out _ _ ⟨hHeld.1.trans (hb.mono hHeld.1.size), keepC hHeld.1 hHeld.2 ul hb⟩ fun hHeld => ?_
    clear hb
    clear hK Kc
    try simp only [Act.put, List.setIfInBounds_toArray, List.set_cons_zero, List.set_cons_succ]
    refine clS 7 { dst := some 49, op := .call { callee := .value (.func 148), args := #[.tmp 42, .tmp 48, .const (.int .i64 7)], argTypes := #[25, 4, 26] }, type := 0, pos := "body.go:41", after := #[{ on := 0, ground := .data }, { on := 6, ground := .data }, { on := 6, ground := .chain }], guard := none } rfl (by kernel_rfl) (by kernel_rfl) fun Kc hK => ?_
    go_simp
    refine (cneed_at NN.out H0.out.B d 7 _ hHeld.1).mono ?_
    rintro e w1 ⟨hb, he⟩
    cases d with
    | false => obtain rfl := he; exact ⟨rfl, by rw [HS.out]; simp only [CR.bind]; rw [HD.out]; exact ⟨rfl, BE.out _ (hHeld.1.trans (hb.mono hHeld.1.size))⟩⟩
    | true =>
    obtain rfl := he
    refine hK.out _ _ ⟨hHeld.1.trans (hb.mono hHeld.1.size), keepC hHeld.1 hHeld.2 ul hb⟩ fun hHeld => ?_
    clear hb
    clear hK Kc
    try simp only [Act.put, List.setIfInBounds_toArray, List.set_cons_zero, List.set_cons_succ]
    refine wpAnyH_done (by kernel_rfl) ?_ _
    go_wp2_with fail
    refine bodyPost_end (v := .tuple #[]) (by simp [results, Tryz.results171, go_sem]) rfl ?_
    rw [HS.out]
    simp only [CR.bind]
    rw [HD.out]
    exact ⟨v, rfl, (SS.refl HH.out).below (B0.out.trans (hHeld.1.mono B0.out.size))⟩
  · obtain ⟨u, hu⟩ := kid_is (t := t) (i := 0) (by have := W.least; rw [ho] at this; exact Nat.lt_of_lt_of_le (by decide) this)
    have hk0 : kidC (t.kids.map (exprC E.x K)) 0 = exprC E.x K u := kidC_at hu
    have HS : Hid (stmtC E.x E.res t K f = (exprC E.x K u).bind fun a => nd t.pos (eqB a tBool) 7 (stmtsC E.x E.res (t.kids.drop 1) K f)) := by show _ = _; rw [stmtC_eq, ho, ← hk0]; rfl
    go_enter Tryz.func171, Tryz.ntmps171
    go_wp2_with fail
    generalize w.alloc (.cells #[.pointer (some ⟨b, 0, none⟩)] 25) = wa at *
    have u0 := U0.out.c0
    have ul := U0.out.lt
    have sl := H0.out.lt
    have c0 := H0.out.c0
    have c1 := H0.out.c1
    have c2 := H0.out.c2
    refine (cop_at NN.out H0.out.B _ (Below.refl _ _)).mono ?_
    rintro e w1 ⟨rfl, hb⟩
    have u0 := keepC (Below.refl _ _) u0 ul hb
    have hh := Lib.hid hb
    clear hb c0 c1 c2
    rw [ho]
    go_wp2_with fail
    refine (cbranch_any E hx v K f b t u _ (H0.out.below hh.out) HKO.out NN.out hu hz1 (IHX.out 0 u hu) (fun k u _ h => IH.out k u h)).mono ?_
    rw [← HS.out]
    intro e w2 he
    obtain ⟨q, hq⟩ : ∃ q, stmtC E.x E.res t K f = q := ⟨_, rfl⟩
    rw [hq] at he
    cases q with
    | bad p er => obtain ⟨rfl, hb⟩ := he; exact ⟨rfl, by rw [hq]; exact ⟨rfl, hb⟩⟩
    | ok K2 =>
      obtain ⟨v2, rfl, hs⟩ := he
      have HSS := Lib.hid hs
      clear hs
      go_wp2_with fail
      refine bodyPost_end (v := .tuple #[]) (by simp [results, Tryz.results171, go_sem]) rfl ?_
      rw [hq]
      exact ⟨v2, rfl, ((SS.refl HH.out).below (B0.out.trans (hh.out.mono B0.out.size))).trans HSS.out⟩
  · obtain ⟨u, hu⟩ := kid_is (t := t) (i := 0) (by have := W.least; rw [ho] at this; exact Nat.lt_of_lt_of_le (by decide) this)
    have hk0 : kidC (t.kids.map (exprC E.x K)) 0 = exprC E.x K u := kidC_at hu
    have HS : Hid (stmtC E.x E.res t K f = (exprC E.x K u).bind fun a => nd t.pos (eqB a tBool) 7 (stmtsC E.x E.res (t.kids.drop 1) K f)) := by show _ = _; rw [stmtC_eq, ho, ← hk0]; rfl
    go_enter Tryz.func171, Tryz.ntmps171
    go_wp2_with fail
    generalize w.alloc (.cells #[.pointer (some ⟨b, 0, none⟩)] 25) = wa at *
    have u0 := U0.out.c0
    have ul := U0.out.lt
    have sl := H0.out.lt
    have c0 := H0.out.c0
    have c1 := H0.out.c1
    have c2 := H0.out.c2
    refine (cop_at NN.out H0.out.B _ (Below.refl _ _)).mono ?_
    rintro e w1 ⟨rfl, hb⟩
    have u0 := keepC (Below.refl _ _) u0 ul hb
    have hh := Lib.hid hb
    clear hb c0 c1 c2
    rw [ho]
    go_wp2_with fail
    refine (cbranch_any E hx v K f b t u _ (H0.out.below hh.out) HKO.out NN.out hu hz1 (IHX.out 0 u hu) (fun k u _ h => IH.out k u h)).mono ?_
    rw [← HS.out]
    intro e w2 he
    obtain ⟨q, hq⟩ : ∃ q, stmtC E.x E.res t K f = q := ⟨_, rfl⟩
    rw [hq] at he
    cases q with
    | bad p er => obtain ⟨rfl, hb⟩ := he; exact ⟨rfl, by rw [hq]; exact ⟨rfl, hb⟩⟩
    | ok K2 =>
      obtain ⟨v2, rfl, hs⟩ := he
      have HSS := Lib.hid hs
      clear hs
      go_wp2_with fail
      refine bodyPost_end (v := .tuple #[]) (by simp [results, Tryz.results171, go_sem]) rfl ?_
      rw [hq]
      exact ⟨v2, rfl, ((SS.refl HH.out).below (B0.out.trans (hh.out.mono B0.out.size))).trans HSS.out⟩
  · obtain ⟨u, hu⟩ := kid_is (t := t) (i := 0) (by have := W.least; rw [ho] at this; exact Nat.lt_of_lt_of_le (by decide) this)
    have hk0 : kidC (t.kids.map (exprC E.x K)) 0 = exprC E.x K u := kidC_at hu
    obtain ⟨r, hr⟩ : ∃ r, exprC E.x K u = r := ⟨_, rfl⟩
    have Hr := Lib.hid hr
    have Hu := Lib.hid hu
    obtain ⟨nb0, hn0, hkd0⟩ := ckid_at NN.out H0.out.B 0 u hu
    have N1 := Lib.hid hn0
    have HKD := Lib.hid hkd0
    clear hn0 hkd0
    have HS : Hid (stmtC E.x E.res t K f = r.bind fun a => nd t.pos (eqB a tInt) 7 (.ok K)) := by show _ = _; rw [stmtC_eq, ho, ← hr, ← hk0]; rfl
    clear hr hu hk0
    go_enter Tryz.func171, Tryz.ntmps171
    go_wp2_with fail
    generalize w.alloc (.cells #[.pointer (some ⟨b, 0, none⟩)] 25) = wa at *
    have u0 := U0.out.c0
    have ul := U0.out.lt
    have sl := H0.out.lt
    have c0 := H0.out.c0
    have c1 := H0.out.c1
    have c2 := H0.out.c2
    refine (cop_at NN.out H0.out.B _ (Below.refl _ _)).mono ?_
    rintro e w1 ⟨rfl, hb⟩
    have u0 := keepC (Below.refl _ _) u0 ul hb
    have hh := Lib.hid hb
    clear hb c0 c1 c2
    rw [ho]
    go_wp2_with fail
    refine rgS (fun w' => Below wa.heap.size wa w' ∧ w'.cell? ⟨w.heap.size, 0, none⟩ = some (.pointer (some ⟨b, 0, none⟩))) (by kernel_rfl) (⟨hh.out.drew, u0⟩) (fun _ a d v _ h => And.intro ((put_df a d v).symm.trans (And.left h)) (And.right h)) fun hHeld hq => ?_
    refine tkS 0 { dst := some 58, op := .load 25 (.tmp 3), type := 25, pos := "body.go:45", after := #[], guard := none } (v := ?v3_0) hq hHeld rfl (by kernel_rfl) ?y3_0 ?_
    case y3_0 => (intro w h; try dsimp only at h); go_simp <;> with_reducible rfl
    try simp only [Act.put, List.setIfInBounds_toArray, List.set_cons_zero, List.set_cons_succ]
    refine tkS 1 { dst := some 59, op := .move (.tmp 0), type := 185, pos := "body.go:45", after := #[], guard := none } (v := ?v3_1) hq hHeld rfl (by kernel_rfl) ?y3_1 ?_
    case y3_1 => (intro w h; try dsimp only at h); go_simp <;> with_reducible rfl
    try simp only [Act.put, List.setIfInBounds_toArray, List.set_cons_zero, List.set_cons_succ]
    refine tkS 2 { dst := some 60, op := .load 25 (.tmp 3), type := 25, pos := "body.go:45", after := #[], guard := none } (v := ?v3_2) hq hHeld rfl (by kernel_rfl) ?y3_2 ?_
    case y3_2 => (intro w h; try dsimp only at h); go_simp <;> with_reducible rfl
    try simp only [Act.put, List.setIfInBounds_toArray, List.set_cons_zero, List.set_cons_succ]
    refine clS 3 { dst := some 61, op := .call { callee := .value (.func 29), args := #[.tmp 60, .const (.int .i64 0)], argTypes := #[25, 3] }, type := 25, pos := "body.go:45", after := #[{ on := 2, ground := .data }], guard := none } rfl (by kernel_rfl) (by kernel_rfl) fun Kc hK => ?_
    go_simp
    refine (kid0_of 0 _ _ (HKD.out _ hHeld.1) 0 rfl).mono ?_
    rintro e w1 ⟨rfl, hb⟩
    refine hK.out _ _ ⟨hHeld.1.trans (hb.mono hHeld.1.size), keepC hHeld.1 hHeld.2 ul hb⟩ fun hHeld => ?_
    clear hb
    clear hK Kc
    try simp only [Act.put, List.setIfInBounds_toArray, List.set_cons_zero, List.set_cons_succ]
    refine clS 4 { dst := some 62, op := .call { callee := .value (.func 187), args := #[.tmp 59, .tmp 61], argTypes := #[185, 25] }, type := 9, pos := "body.go:45", after := #[{ on := 1, ground := .data }, { on := 3, ground := .data }, { on := 3, ground := .chain }], guard := none } rfl (by kernel_rfl) (by kernel_rfl) fun Kc hK => ?_
    go_simp
    refine (IHX.out 0 u Hu.out _ v K f _ (H0.out.below hHeld.1) HKO.out N1.out).mono ?_
    rw [Hr.out]
    rintro e w1 ⟨hb, he⟩
    cases r with
    | bad p er => obtain rfl := he; exact ⟨rfl, by rw [HS.out]; exact ⟨rfl, BE.out _ (hHeld.1.trans (hb.mono hHeld.1.size))⟩⟩
    | ok a =>
    obtain rfl := he
    obtain ⟨d, hd⟩ : ∃ d, (a.toList == [105, 110, 116]) = d := ⟨_, rfl⟩
    have HD : Hid (eqB a tInt = d) := eqB_of hd
    refine hK.out _ _ ⟨hHeld.1.trans (hb.mono hHeld.1.size), keepC hHeld.1 hHeld.2 ul hb⟩ fun hHeld => ?_
    clear hb
    clear hK Kc
    try simp only [Act.put, List.setIfInBounds_toArray, List.set_cons_zero, List.set_cons_succ]
    refine tkS 5 { dst := some 63, op := .binOp .eql 9 (.tmp 62) (.const (.string { data := #[105, 110, 116] })) 9, type := 4, pos := "body.go:45", after := #[{ on := 4, ground := .data }], guard := none } (v := ?v3_5) hq hHeld rfl (by kernel_rfl) ?y3_5 ?_
    case y3_5 => (intro w h; try dsimp only at h); go_simp <;> with_reducible rfl
    try simp only [Act.put, List.setIfInBounds_toArray, List.set_cons_zero, List.set_cons_succ]
    refine clS 6 { dst := some 64, op := .call { callee := .value (.func 148), args := #[.tmp 58, .tmp 63, .const (.int .i64 7)], argTypes := #[25, 4, 26] }, type := 0, pos := "body.go:45", after := #[{ on := 0, ground := .data }, { on := 5, ground := .data }, { on := 4, ground := .chain }], guard := none } rfl (by kernel_rfl) (by kernel_rfl) fun Kc hK => ?_
    go_simp
    refine (cneed_at NN.out H0.out.B d 7 _ hHeld.1).mono ?_
    rintro e w1 ⟨hb, he⟩
    cases d with
    | false => obtain rfl := he; exact ⟨rfl, by rw [HS.out]; simp only [CR.bind]; rw [HD.out]; exact ⟨rfl, BE.out _ (hHeld.1.trans (hb.mono hHeld.1.size))⟩⟩
    | true =>
    obtain rfl := he
    refine hK.out _ _ ⟨hHeld.1.trans (hb.mono hHeld.1.size), keepC hHeld.1 hHeld.2 ul hb⟩ fun hHeld => ?_
    clear hb
    clear hK Kc
    try simp only [Act.put, List.setIfInBounds_toArray, List.set_cons_zero, List.set_cons_succ]
    refine wpAnyH_done (by kernel_rfl) ?_ _
    go_wp2_with fail
    refine bodyPost_end (v := .tuple #[]) (by simp [results, Tryz.results171, go_sem]) rfl ?_
    rw [HS.out]
    simp only [CR.bind]
    rw [HD.out]
    exact ⟨v, rfl, (SS.refl HH.out).below (B0.out.trans (hHeld.1.mono B0.out.size))⟩
  · by_cases h0 : t.kids.length = 0
    · have HS : Hid (stmtC E.x E.res t K f = nd t.pos (eqB E.res tNone) 7 (.ok K)) := by show _ = _; rw [stmtC_eq, ho]; unfold leafC; simp only [List.length_map, h0]; rfl
      go_enter Tryz.func171, Tryz.ntmps171
      go_wp2_with fail
      generalize w.alloc (.cells #[.pointer (some ⟨b, 0, none⟩)] 25) = wa at *
      have u0 := U0.out.c0
      have ul := U0.out.lt
      have sl := H0.out.lt
      have c0 := H0.out.c0
      have c1 := H0.out.c1
      have c2 := H0.out.c2
      refine (cop_at NN.out H0.out.B _ (Below.refl _ _)).mono ?_
      rintro e w1 ⟨rfl, hb⟩
      have u0 := keepC (Below.refl _ _) u0 ul hb
      have hh := Lib.hid hb
      clear hb c0 c1 c2
      rw [ho]
      go_wp2_with fail
      refine (cback0_any E v K f b t _ (H0.out.below hh.out) NN.out h0).mono ?_
      rw [← HS.out]
      intro e w2 he
      obtain ⟨q, hq⟩ : ∃ q, stmtC E.x E.res t K f = q := ⟨_, rfl⟩
      rw [hq] at he
      cases q with
      | bad p er => obtain ⟨rfl, hb⟩ := he; exact ⟨rfl, by rw [hq]; exact ⟨rfl, hb⟩⟩
      | ok K2 =>
        obtain ⟨v2, rfl, hs⟩ := he
        have HSS := Lib.hid hs
        clear hs
        go_wp2_with fail
        refine bodyPost_end (v := .tuple #[]) (by simp [results, Tryz.results171, go_sem]) rfl ?_
        rw [hq]
        exact ⟨v2, rfl, ((SS.refl HH.out).below (B0.out.trans (hh.out.mono B0.out.size))).trans HSS.out⟩
    · obtain ⟨u, hu⟩ := kid_is (t := t) (i := 0) (by omega)
      have hk0 : kidC (t.kids.map (exprC E.x K)) 0 = exprC E.x K u := kidC_at hu
      have HS : Hid (stmtC E.x E.res t K f = (exprC E.x K u).bind fun a => nd t.pos (!eqB E.res tNone && fitB a E.res) 7 (.ok K)) := by show _ = _; rw [stmtC_eq, ho, ← hk0]; unfold leafC; simp only [List.length_map, h0]; rfl
      go_enter Tryz.func171, Tryz.ntmps171
      go_wp2_with fail
      generalize w.alloc (.cells #[.pointer (some ⟨b, 0, none⟩)] 25) = wa at *
      have u0 := U0.out.c0
      have ul := U0.out.lt
      have sl := H0.out.lt
      have c0 := H0.out.c0
      have c1 := H0.out.c1
      have c2 := H0.out.c2
      refine (cop_at NN.out H0.out.B _ (Below.refl _ _)).mono ?_
      rintro e w1 ⟨rfl, hb⟩
      have u0 := keepC (Below.refl _ _) u0 ul hb
      have hh := Lib.hid hb
      clear hb c0 c1 c2
      rw [ho]
      go_wp2_with fail
      refine (cback1_any E v K f b t u _ (H0.out.below hh.out) HKO.out NN.out hu (IHX.out 0 u hu)).mono ?_
      rw [← HS.out]
      intro e w2 he
      obtain ⟨q, hq⟩ : ∃ q, stmtC E.x E.res t K f = q := ⟨_, rfl⟩
      rw [hq] at he
      cases q with
      | bad p er => obtain ⟨rfl, hb⟩ := he; exact ⟨rfl, by rw [hq]; exact ⟨rfl, hb⟩⟩
      | ok K2 =>
        obtain ⟨v2, rfl, hs⟩ := he
        have HSS := Lib.hid hs
        clear hs
        go_wp2_with fail
        refine bodyPost_end (v := .tuple #[]) (by simp [results, Tryz.results171, go_sem]) rfl ?_
        rw [hq]
        exact ⟨v2, rfl, ((SS.refl HH.out).below (B0.out.trans (hh.out.mono B0.out.size))).trans HSS.out⟩
  · obtain ⟨u, hu⟩ := kid_is (t := t) (i := 0) (by have := W.least; rw [ho] at this; exact Nat.lt_of_lt_of_le (by decide) this)
    have hk0 : kidC (t.kids.map (exprC E.x K)) 0 = exprC E.x K u := kidC_at hu
    obtain ⟨r, hr⟩ : ∃ r, exprC E.x K u = r := ⟨_, rfl⟩
    have Hr := Lib.hid hr
    have Hu := Lib.hid hu
    obtain ⟨nb0, hn0, hkd0⟩ := ckid_at NN.out H0.out.B 0 u hu
    have N1 := Lib.hid hn0
    have HKD := Lib.hid hkd0
    clear hn0 hkd0
    have HS : Hid (stmtC E.x E.res t K f = r.bind fun _ => .ok K) := by show _ = _; rw [stmtC_eq, ho, ← hr, ← hk0]; rfl
    clear hr hu hk0
    go_enter Tryz.func171, Tryz.ntmps171
    go_wp2_with fail
    generalize w.alloc (.cells #[.pointer (some ⟨b, 0, none⟩)] 25) = wa at *
    have u0 := U0.out.c0
    have ul := U0.out.lt
    have sl := H0.out.lt
    have c0 := H0.out.c0
    have c1 := H0.out.c1
    have c2 := H0.out.c2
    refine (cop_at NN.out H0.out.B _ (Below.refl _ _)).mono ?_
    rintro e w1 ⟨rfl, hb⟩
    have u0 := keepC (Below.refl _ _) u0 ul hb
    have hh := Lib.hid hb
    clear hb c0 c1 c2
    rw [ho]
    go_wp2_with fail
    refine (kid0_of 0 _ _ (HKD.out _ hh.out) 0 rfl).mono ?_
    rintro e w2 ⟨rfl, hb⟩
    have u0 := keepC hh.out u0 ul hb
    have hh := Lib.hid (hh.out.trans (hb.mono hh.out.size))
    clear hb
    go_wp2_with fail
    refine (IHX.out 0 u Hu.out _ v K f _ (H0.out.below hh.out) HKO.out N1.out).mono ?_
    rw [Hr.out]
    rintro e w3 ⟨hb, he⟩
    cases r with
    | bad p er => obtain rfl := he; exact ⟨rfl, by rw [HS.out]; exact ⟨rfl, BE.out _ (hh.out.trans (hb.mono hh.out.size))⟩⟩
    | ok a =>
    obtain rfl := he
    have u0 := keepC hh.out u0 ul hb
    have hh := Lib.hid (hh.out.trans (hb.mono hh.out.size))
    clear hb
    go_wp2_with fail
    refine bodyPost_end (v := .tuple #[]) (by simp [results, Tryz.results171, go_sem]) rfl ?_
    rw [HS.out]
    exact ⟨v, rfl, (SS.refl HH.out).below (B0.out.trans (hh.out.mono B0.out.size))⟩
  · obtain ⟨n6, n7, n8, n9, n10, n11, n12, n13, n14⟩ := ho
    have HS : Hid (stmtC E.x E.res t K f = .ok K) := by show _ = _; rw [stmtC_eq]; unfold leafC; simp only [n6, n7, n8, n9, n10, n11, n12, n13, n14, or_self, if_false]
    have f6 : ((t.op : Int) == 6) = false := by rw [beq_eq_false_iff_ne]; omega
    have f7 : ((t.op : Int) == 7) = false := by rw [beq_eq_false_iff_ne]; omega
    have f8 : ((t.op : Int) == 8) = false := by rw [beq_eq_false_iff_ne]; omega
    have f9 : ((t.op : Int) == 9) = false := by rw [beq_eq_false_iff_ne]; omega
    have f10 : ((t.op : Int) == 10) = false := by rw [beq_eq_false_iff_ne]; omega
    have f11 : ((t.op : Int) == 11) = false := by rw [beq_eq_false_iff_ne]; omega
    have f12 : ((t.op : Int) == 12) = false := by rw [beq_eq_false_iff_ne]; omega
    have f13 : ((t.op : Int) == 13) = false := by rw [beq_eq_false_iff_ne]; omega
    have f14 : ((t.op : Int) == 14) = false := by rw [beq_eq_false_iff_ne]; omega
    clear n6 n7 n8 n9 n10 n11 n12 n13 n14
    go_enter Tryz.func171, Tryz.ntmps171
    go_wp2_with fail
    generalize w.alloc (.cells #[.pointer (some ⟨b, 0, none⟩)] 25) = wa at *
    have u0 := U0.out.c0
    have ul := U0.out.lt
    have sl := H0.out.lt
    have c0 := H0.out.c0
    have c1 := H0.out.c1
    have c2 := H0.out.c2
    refine (cop_at NN.out H0.out.B _ (Below.refl _ _)).mono ?_
    rintro e w1 ⟨rfl, hb⟩
    have u0 := keepC (Below.refl _ _) u0 ul hb
    have hh := Lib.hid hb
    clear hb c0 c1 c2
    go_wp2_with fail
    refine bodyPost_end (v := .tuple #[]) (by simp [results, Tryz.results171, go_sem]) rfl ?_
    rw [HS.out]
    exact ⟨v, rfl, (SS.refl HH.out).below (B0.out.trans (hh.out.mono B0.out.size))⟩

theorem cstmt_any (E : CE) (hx : InfOk E.x) (N : Nat) : ∀ t : Tree, sizeT t ≤ N → Wt t → YH E t := by
  induction N with
  | zero => intro t h; rw [sizeT_eq] at h; omega
  | succ N ih => exact fun t h W => cstmt_step E hx t W (fun k u hu => cexpr_any E hx (sizeT u) u (Nat.le_refl _) (W.kid hu)) fun k u hu => ih u (by have := size_kid hu; omega) (W.kid hu)

end Go.Proofs.YtkahbhfbgdbnfaaGreatDoor
