/-
  CONTRACTS: field, callee of package check. Of what was there nothing has turned.
-/
import Derived.Test.YtkahbhfbgdbnfaaGreatDoorJ8
import Derived.Deep.CutRange
namespace Go.Proofs.YtkahbhfbgdbnfaaGreatDoor
open Go.RowKit

/-- A type that leads to a struct leads to one that is declared. -/
def TyOk (x : Inf) (a : ByteArray) : Prop := ∀ s, elemO a = some s → ∃ j, fnd x.structs s = some j
theorem elem_eq (a : Option ByteArray) : elemV a = .tuple #[.string (a.getD ⟨#[]⟩), .bool a.isSome] := by cases a <;> rfl
theorem str_at {w : World} {A : Option Addr} {ss : List Str} {g : Nat} (h : SR w A ss) (hg : g < ss.length) : ∃ b o FA fc, A = some ⟨b, o, none⟩ ∧ b < w.heap.size ∧ w.cell? ⟨b, o + g * 2, none⟩ = some (.string (ss.getD g strZ).name) ∧ w.cell? ⟨b, o + g * 2 + 1, none⟩ = some (.slice FA (ss.getD g strZ).fields.length fc) ∧ (ss.getD g strZ).fields.length ≤ fc ∧ (ss.getD g strZ).fields.length ≤ 281474976710656 ∧ FR w FA (ss.getD g strZ).fields := by
  obtain ⟨b, o, e, hb, h1⟩ := h (by omega)
  obtain ⟨FA, fc, a1, a2, a3, a4, a5⟩ := h1 g _ (List.getElem?_eq_getElem hg)
  rw [show ss.getD g strZ = ss[g] by rw [List.getD_eq_getElem?_getD, List.getElem?_eq_getElem hg]; rfl]
  exact ⟨b, o, FA, fc, e, hb, a1, a2, a3, a4, a5⟩
theorem sg_at {w : World} {A : Option Addr} {ss : List Sg} {g : Nat} (h : GR w A ss) (hg : g < ss.length) : ∃ b o, A = some ⟨b, o, none⟩ ∧ b < w.heap.size ∧ SgAt w b o g (ss.getD g sgZ) := by
  obtain ⟨b, o, e, hb, h1⟩ := h (by omega)
  rw [show ss.getD g sgZ = ss[g] by rw [List.getD_eq_getElem?_getD, List.getElem?_eq_getElem hg]; rfl]
  exact ⟨b, o, e, hb, h1 g _ (List.getElem?_eq_getElem hg)⟩
theorem two_new (w : World) (a b : Value) (e : TypeId) : (w.alloc (.cells #[a, b] e)).cell? ⟨w.heap.size, 0, none⟩ = some a ∧ (w.alloc (.cells #[a, b] e)).cell? ⟨w.heap.size, 1, none⟩ = some b := ⟨cell_new w _ e 0, cell_new w _ e 1⟩
set_option maxRecDepth 100000 in
set_option maxHeartbeats 400000 in
theorem cfield_any (E : CE) (v : Value) (K : List Fld) (f b : Nat) (t : Tree) (a : ByteArray) (w : World) (H : SC E w v K f) (N : Nd E b t) (ht : Hid (TyOk E.x a)) :
    Calls Tryz.prog 190 #[.pointer (some ⟨E.sb, 0, none⟩), .agg #[.pointer (some ⟨b, 0, none⟩)], .string a] w (XQ E w (fieldC E.x t.pos (nm t) a)) := by
  have B0 := Lib.hid (b1 w (.cells #[.pointer (some ⟨b, 0, none⟩)] 25))
  have H0 := Lib.hid (H.below (b1 w (.cells #[.pointer (some ⟨b, 0, none⟩)] 25)))
  have U0 := Lib.hid (PtrAt.new w (some ⟨b, 0, none⟩))
  have NN := Lib.hid N
  obtain ⟨r, hr⟩ : ∃ d, elemO a = d := ⟨_, rfl⟩
  have HR := Lib.hid hr
  have er := elem_eq r
  clear H N hr
  go_enter Tryz.func190, Tryz.ntmps190
  go_wp2_with fail
  generalize w.alloc (.cells #[.pointer (some ⟨b, 0, none⟩)] 25) = wa at *
  have u0 := U0.out.c0
  have ul := U0.out.lt
  have sl := H0.out.lt
  have c0 := H0.out.c0
  have c1 := H0.out.c1
  have c2 := H0.out.c2
  refine (elem_any a r wa (Lib.hid H0.out.imw.good.keys) HR).mono ?_
  rintro e w1 ⟨rfl, rfl⟩
  rw [er]
  go_wp2_with fail
  cases r with
  | none =>
    refine (cneed_at NN.out H0.out.B false 7 _ (Below.refl _ _)).mono ?_
    rintro e w1 ⟨hb, rfl⟩
    exact ⟨rfl, B0.out.trans (hb.mono B0.out.size), by unfold fieldC; rw [HR.out]; rfl⟩
  | some s =>
    refine (cneed_at NN.out H0.out.B true 7 _ (Below.refl _ _)).mono ?_
    rintro e w1 ⟨hb, rfl⟩
    obtain ⟨j, hj⟩ := ht.out s HR.out
    have HJ := Lib.hid hj
    have hjl := fnd_lt hj
    have hjc := H0.out.im.sle
    have hjm := H0.out.im.sl
    have H1 := Lib.hid (H0.out.below hb)
    have b1' := Lib.hid hb
    clear hj c0 c1 c2
    have c0 := H1.out.c0
    simp only [Option.getD_some, Option.isSome_some]
    have u0 := keepC (Below.refl _ _) u0 ul hb
    clear hb
    go_wp2_with fail
    refine (find_any _ _ _ E.x.structs s (some j) _ H1.out.imw.S (Lib.hid rfl) (by omega) HJ).mono ?_
    rintro e w3 ⟨rfl, hb⟩
    unfold foundV
    have H3 := Lib.hid (H1.out.below hb)
    have b3' := Lib.hid (b1'.out.trans (hb.mono b1'.out.size))
    have u0 := keepC b1'.out u0 ul hb
    clear hb H1 c0 b1'
    have c0 := H3.out.c0
    have hS : Hid (E.x.structs.getD j strZ = strOf E.x s) := by show _ = _; unfold strOf; rw [HJ.out]; rfl
    obtain ⟨sb, so, FA, fc, hsa, -, s0, s1, sle, slm, sfr⟩ := str_at H3.out.imw.S hjl
    rw [hS.out] at s0 s1 sle slm sfr
    have SF := Lib.hid sfr
    rw [hsa] at c0
    have HSA := Lib.hid hsa
    clear hsa sfr
    have B4 := Lib.hid (b1 w3 (.cells #[.string (strOf E.x s).name, .slice FA (strOf E.x s).fields.length fc] 99))
    obtain ⟨v0, v1⟩ := two_new w3 (.string (strOf E.x s).name) (.slice FA (strOf E.x s).fields.length fc) 99
    have vl : w3.heap.size < (w3.alloc (.cells #[.string (strOf E.x s).name, .slice FA (strOf E.x s).fields.length fc] 99)).heap.size := by simp
    generalize hlen : E.x.structs.length = sm at *
    go_wp2_with fail
    generalize w3.alloc (.cells #[.string (strOf E.x s).name, .slice FA (strOf E.x s).fields.length fc] 99) = wb at *
    subst hlen
    have H4 := Lib.hid (H3.out.below B4.out)
    have b4' := Lib.hid (b3'.out.trans (B4.out.mono b3'.out.size))
    have u0 := keepC b3'.out u0 ul B4.out
    have ul := Nat.lt_of_lt_of_le ul b4'.out.size
    have SF4 := Lib.hid (SF.out.below B4.out (Nat.le_refl _))
    obtain ⟨p, hp⟩ : ∃ d, plc (strOf E.x s).fields (nm t) = d := ⟨_, rfl⟩
    have HP := Lib.hid hp
    have ep := found_eq p
    have HF : Hid (fieldC E.x t.pos (nm t) a = fieldOf t.pos (strOf E.x s).fields p) := by show _ = _; unfold fieldC; rw [HR.out, ← hp]
    clear hp c0 s0 s1 B4 H3 SF b3' HSA hS HJ
    refine rgS (fun w' => Below wb.heap.size wb w' ∧ w'.cell? ⟨w.heap.size, 0, none⟩ = some (.pointer (some ⟨b, 0, none⟩)) ∧ w'.cell? ⟨w3.heap.size, 0, none⟩ = some (.string (strOf E.x s).name) ∧ w'.cell? ⟨w3.heap.size, 1, none⟩ = some (.slice FA (strOf E.x s).fields.length fc)) (by kernel_rfl) (⟨(Below.refl _ _).drew, u0, v0, v1⟩) (by repeat first | exact putOkB | apply putOkT) fun hHeld hq => ?_
    refine tkS 0 { dst := some 40, op := .load 99 (.tmp 11), type := 99, pos := "expr.go:87", after := #[], guard := none } (v := ?v1_0) hq hHeld rfl (by kernel_rfl) ?y1_0 ?_
    case y1_0 => (intro w h; try dsimp only at h); go_simp <;> with_reducible rfl
    try simp only [Act.put, List.setIfInBounds_toArray, List.set_cons_zero, List.set_cons_succ]
    refine tkS 1 { dst := some 41, op := .load 25 (.tmp 4), type := 25, pos := "expr.go:87", after := #[], guard := none } (v := ?v1_1) hq hHeld rfl (by kernel_rfl) ?y1_1 ?_
    case y1_1 => (intro w h; try dsimp only at h); go_simp <;> with_reducible rfl
    try simp only [Act.put, List.setIfInBounds_toArray, List.set_cons_zero, List.set_cons_succ]
    refine clS 2 { dst := some 42, op := .call { callee := .value (.func 42), args := #[.tmp 41], argTypes := #[25] }, type := 9, pos := "expr.go:87", after := #[{ on := 1, ground := .data }], guard := none } rfl (by kernel_rfl) (by kernel_rfl) fun Kc hK => ?_
    go_simp
    refine (cname_at NN.out H4.out.B _ hHeld.1).mono ?_
    rintro e w1 ⟨rfl, hb⟩
    refine hK.out _ _ ⟨hHeld.1.trans (hb.mono hHeld.1.size), keepC hHeld.1 hHeld.2.1 ul hb, keepC hHeld.1 hHeld.2.2.1 vl hb, keepC hHeld.1 hHeld.2.2.2 vl hb⟩ fun hHeld => ?_
    clear hb
    clear hK Kc
    try simp only [Act.put, List.setIfInBounds_toArray, List.set_cons_zero, List.set_cons_succ]
    refine clS 3 { dst := some 43, op := .call { callee := .value (.func 117), args := #[.tmp 40, .tmp 42], argTypes := #[99, 9] }, type := 57, pos := "expr.go:87", after := #[{ on := 0, ground := .data }, { on := 2, ground := .data }, { on := 2, ground := .chain }], guard := none } rfl (by kernel_rfl) (by kernel_rfl) fun Kc hK => ?_
    go_simp
    refine (place_any _ _ _ _ (strOf E.x s).fields (nm t) p _ (SF4.out.below hHeld.1 (Nat.le_refl _)) (Lib.hid rfl) slm HP).mono ?_
    rintro e w1 ⟨rfl, hb⟩
    rw [ep]
    refine hK.out _ _ ⟨hHeld.1.trans (hb.mono hHeld.1.size), keepC hHeld.1 hHeld.2.1 ul hb, keepC hHeld.1 hHeld.2.2.1 vl hb, keepC hHeld.1 hHeld.2.2.2 vl hb⟩ fun hHeld => ?_
    clear hb
    clear hK Kc
    try simp only [Act.put, List.setIfInBounds_toArray, List.set_cons_zero, List.set_cons_succ]
    refine tkS 4 { dst := some 39, op := .move (.tmp 43), type := 57, pos := "expr.go:87", after := #[{ on := 3, ground := .data }], guard := none } (v := ?v1_4) hq hHeld rfl (by kernel_rfl) ?y1_4 ?_
    case y1_4 => (intro w h; try dsimp only at h); go_simp <;> with_reducible rfl
    try simp only [Act.put, List.setIfInBounds_toArray, List.set_cons_zero, List.set_cons_succ]
    refine tkS 5 { dst := some 44, op := .extract (.tmp 39) 0, type := 3, pos := "expr.go:87", after := #[{ on := 4, ground := .data }], guard := none } (v := ?v1_5) hq hHeld rfl (by kernel_rfl) ?y1_5 ?_
    case y1_5 => (intro w h; try dsimp only at h); go_simp <;> with_reducible rfl
    try simp only [Act.put, List.setIfInBounds_toArray, List.set_cons_zero, List.set_cons_succ]
    refine tkS 6 { dst := some 45, op := .extract (.tmp 39) 1, type := 4, pos := "expr.go:87", after := #[{ on := 4, ground := .data }, { on := 7, ground := .gcOnly Departure.lateStores }], guard := none } (v := ?v1_6) hq hHeld rfl (by kernel_rfl) ?y1_6 ?_
    case y1_6 => (intro w h; try dsimp only at h); go_simp <;> with_reducible rfl
    try simp only [Act.put, List.setIfInBounds_toArray, List.set_cons_zero, List.set_cons_succ]
    refine tkS 7 { dst := some 12, op := .assign (.tmp 44), type := 3, pos := "expr.go:87", after := #[{ on := 5, ground := .data }, { on := 3, ground := .chain }, { on := 0, ground := .phase }, { on := 1, ground := .phase }, { on := 2, ground := .phase }, { on := 3, ground := .phase }, { on := 4, ground := .phase }, { on := 5, ground := .phase }, { on := 6, ground := .textOnly Departure.lateStores }], guard := none } (v := ?v1_7) hq hHeld rfl (by kernel_rfl) ?y1_7 ?_
    case y1_7 => (intro w h; try dsimp only at h); go_simp <;> with_reducible rfl
    try simp only [Act.put, List.setIfInBounds_toArray, List.set_cons_zero, List.set_cons_succ]
    refine tkS 8 { dst := some 8, op := .assign (.tmp 45), type := 4, pos := "expr.go:87", after := #[{ on := 6, ground := .data }, { on := 7, ground := .chain }, { on := 0, ground := .phase }, { on := 1, ground := .phase }, { on := 2, ground := .phase }, { on := 3, ground := .phase }, { on := 4, ground := .phase }, { on := 5, ground := .phase }, { on := 6, ground := .phase }, { on := 7, ground := .phase }], guard := none } (v := ?v1_8) hq hHeld rfl (by kernel_rfl) ?y1_8 ?_
    case y1_8 => (intro w h; try dsimp only at h); go_simp <;> with_reducible rfl
    try simp only [Act.put, List.setIfInBounds_toArray, List.set_cons_zero, List.set_cons_succ]
    refine wpAnyH_done (by kernel_rfl) ?_ _
    have hh := Lib.hid hHeld.1
    have u0 := hHeld.2.1
    have v0 := hHeld.2.2.1
    have v1 := hHeld.2.2.2
    clear hHeld
    go_wp2_with fail
    cases p with
    | none =>
      refine (cneed_at NN.out H4.out.B false 5 _ hh.out).mono ?_
      rintro e w6 ⟨hb, rfl⟩
      exact ⟨rfl, onB (B0.out.trans (b4'.out.mono B0.out.size)) hh.out hb, by rw [HF.out]; rfl⟩
    | some k =>
      refine (cneed_at NN.out H4.out.B true 5 _ hh.out).mono ?_
      rintro e w6 ⟨hb, rfl⟩
      have hkl := plc_lt HP.out
      obtain ⟨fb, fo, hfa, -, hcell⟩ := fld_at (SF4.out.below (hh.out.trans (hb.mono hh.out.size)) (Nat.le_refl _)) hkl
      have v1 := keepC hh.out v1 vl hb
      have hh := Lib.hid (hh.out.trans (hb.mono hh.out.size))
      rw [hfa] at v1
      simp only [Option.getD_some, Option.isSome_some]
      clear hb u0 v0
      generalize (strOf E.x s).fields.length = fm at *
      go_wp2_with fail
      go_ret
      exact ⟨onB B0.out b4'.out hh.out, by rw [HF.out]; rfl⟩

end Go.Proofs.YtkahbhfbgdbnfaaGreatDoor

/-
  CONTRACT: callee of package check. Of what was there nothing has turned.
-/
namespace Go.Proofs.YtkahbhfbgdbnfaaGreatDoor
open Go.RowKit

/-- What callee answers. -/
def GQ (E : CE) (w : World) (r : CR Sg) (e : Ending) (w' : World) : Prop := Below w.heap.size w w' ∧ (match r with
  | .ok g => ∃ A c, e = .returned (.agg #[.string g.name, .slice A g.params.length c, .string g.res]) ∧ g.params.length ≤ c ∧ g.params.length ≤ 100000 ∧ FR w' A g.params
  | .bad p er => e = cfE (E.pl p) er)
theorem loc_eq (K : List Fld) (a : Option Nat) : ∃ s, locV K a = .tuple #[.string s, .bool a.isSome] := by cases a with
  | none => exact ⟨_, rfl⟩
  | some i => exact ⟨_, rfl⟩
set_option maxRecDepth 100000 in
set_option maxHeartbeats 400000 in
theorem ccallee_any (E : CE) (v : Value) (K : List Fld) (f b : Nat) (t : Tree) (w : World) (H : SC E w v K f) (N : Nd E b t) :
    Calls Tryz.prog 230 #[.pointer (some ⟨E.sb, 0, none⟩), .agg #[.pointer (some ⟨b, 0, none⟩)]] w (GQ E w (calleeC E.x K t.pos (nm t))) := by
  have B0 := Lib.hid (b2 w (.cells #[.pointer (some ⟨b, 0, none⟩)] 25) (.cells #[.string ⟨#[]⟩, .slice none 0 0, .string ⟨#[]⟩] 55))
  have H0 := Lib.hid (H.below (b2 w (.cells #[.pointer (some ⟨b, 0, none⟩)] 25) (.cells #[.string ⟨#[]⟩, .slice none 0 0, .string ⟨#[]⟩] 55)))
  have U0 := Lib.hid ((PtrAt.new w (some ⟨b, 0, none⟩)).below (b1 _ (.cells #[.string ⟨#[]⟩, .slice none 0 0, .string ⟨#[]⟩] 55)))
  have r0 : ((w.alloc (.cells #[.pointer (some ⟨b, 0, none⟩)] 25)).alloc (.cells #[.string ⟨#[]⟩, .slice none 0 0, .string ⟨#[]⟩] 55)).cell? ⟨w.heap.size + 1, 0, none⟩ = some (.string ⟨#[]⟩) := cell_second w _ _ _ _ 0
  have r1 : ((w.alloc (.cells #[.pointer (some ⟨b, 0, none⟩)] 25)).alloc (.cells #[.string ⟨#[]⟩, .slice none 0 0, .string ⟨#[]⟩] 55)).cell? ⟨w.heap.size + 1, 1, none⟩ = some (.slice none 0 0) := cell_second w _ _ _ _ 1
  have r2 : ((w.alloc (.cells #[.pointer (some ⟨b, 0, none⟩)] 25)).alloc (.cells #[.string ⟨#[]⟩, .slice none 0 0, .string ⟨#[]⟩] 55)).cell? ⟨w.heap.size + 1, 2, none⟩ = some (.string ⟨#[]⟩) := cell_second w _ _ _ _ 2
  have rl : w.heap.size + 1 < ((w.alloc (.cells #[.pointer (some ⟨b, 0, none⟩)] 25)).alloc (.cells #[.string ⟨#[]⟩, .slice none 0 0, .string ⟨#[]⟩] 55)).heap.size := by simp
  have z0 : ∀ k, ((w.alloc (.cells #[.pointer (some ⟨b, 0, none⟩)] 25)).alloc (.cells #[.string ⟨#[]⟩, .slice none 0 0, .string ⟨#[]⟩] 55)).frozen? ⟨w.heap.size + 1, k, none⟩ = false := by intro k; simp [go_sem]
  have NN := Lib.hid N
  have HB := Lib.hid H.B
  obtain ⟨d, hd⟩ : ∃ d, declB E.x (nm t) = d := ⟨_, rfl⟩
  obtain ⟨a, ha⟩ : ∃ d, locO K (nm t) = d := ⟨_, rfl⟩
  obtain ⟨g, hg⟩ : ∃ d, funO E.x (nm t) = d := ⟨_, rfl⟩
  have HD := Lib.hid hd
  have HA := Lib.hid ha
  have HG := Lib.hid hg
  have HC : Hid (calleeC E.x K t.pos (nm t) = calleeOf E.x t.pos a.isSome d g) := by show _ = _; unfold calleeC; rw [hd, ha, hg]
  have eg := found_eq g
  obtain ⟨ls, el⟩ := loc_eq K a
  generalize a.isSome = l at *
  clear hd ha hg H N
  go_enter Tryz.func230, Tryz.ntmps230
  go_wp2_with fail
  generalize (w.alloc (.cells #[.pointer (some ⟨b, 0, none⟩)] 25)).alloc (.cells #[.string ⟨#[]⟩, .slice none 0 0, .string ⟨#[]⟩] 55) = wa at *
  have u0 := U0.out.c0
  have ul := U0.out.lt
  have sl := H0.out.lt
  have c0 := H0.out.c0
  have c1 := H0.out.c1
  have c2 := H0.out.c2
  refine (cname_at NN.out H0.out.B _ (Below.refl _ _)).mono ?_
  rintro e w1 ⟨rfl, hb⟩
  have u0 := keepC (Below.refl _ _) u0 ul hb
  have hh := Lib.hid hb
  clear hb
  go_wp2_with fail
  refine (clocal_any E v K f (nm t) a w1 (H0.out.below hh.out) HA).mono ?_
  rintro e w2 ⟨rfl, rfl⟩
  rw [el]
  go_wp2_with fail
  cases l with
  | true =>
    refine rgS (fun w' => Below wa.heap.size wa w' ∧ w'.cell? ⟨w.heap.size, 0, none⟩ = some (.pointer (some ⟨b, 0, none⟩))) (by kernel_rfl) (⟨hh.out.drew, u0⟩) (by repeat first | exact putOkB | apply putOkT) fun hHeld hq => ?_
    refine tkS 0 { dst := some 16, op := .load 25 (.tmp 3), type := 25, pos := "expr.go:107", after := #[], guard := none } (v := ?v1_0) hq hHeld rfl (by kernel_rfl) ?y1_0 ?_
    case y1_0 => (intro w h; try dsimp only at h); go_simp <;> with_reducible rfl
    try simp only [Act.put, List.setIfInBounds_toArray, List.set_cons_zero, List.set_cons_succ]
    refine tkS 1 { dst := some 17, op := .move (.tmp 6), type := 4, pos := "expr.go:107", after := #[], guard := none } (v := ?v1_1) hq hHeld rfl (by kernel_rfl) ?y1_1 ?_
    case y1_1 => (intro w h; try dsimp only at h); go_simp <;> with_reducible rfl
    try simp only [Act.put, List.setIfInBounds_toArray, List.set_cons_zero, List.set_cons_succ]
    refine tkS 2 { dst := some 18, op := .move (.tmp 17), type := 4, pos := "expr.go:107", after := #[{ on := 1, ground := .data }], guard := none } (v := ?v1_2) hq hHeld rfl (by kernel_rfl) ?y1_2 ?_
    case y1_2 => (intro w h; try dsimp only at h); go_simp <;> with_reducible rfl
    try simp only [Act.put, List.setIfInBounds_toArray, List.set_cons_zero, List.set_cons_succ]
    refine skS 3 { dst := some 19, op := .move (.tmp 0), type := 185, pos := "expr.go:107", after := #[{ on := 2, ground := .guard }], guard := some (2, false) } hq hHeld rfl (by kernel_rfl) ?_
    try simp only [Act.put, List.setIfInBounds_toArray, List.set_cons_zero, List.set_cons_succ]
    refine skS 4 { dst := some 20, op := .load 25 (.tmp 3), type := 25, pos := "expr.go:107", after := #[{ on := 2, ground := .guard }], guard := some (2, false) } hq hHeld rfl (by kernel_rfl) ?_
    try simp only [Act.put, List.setIfInBounds_toArray, List.set_cons_zero, List.set_cons_succ]
    refine skS 5 { dst := some 21, op := .call { callee := .value (.func 42), args := #[.tmp 20], argTypes := #[25] }, type := 9, pos := "expr.go:107", after := #[{ on := 4, ground := .data }, { on := 2, ground := .chain }, { on := 2, ground := .guard }], guard := some (2, false) } hq hHeld rfl (by kernel_rfl) ?_
    try simp only [Act.put, List.setIfInBounds_toArray, List.set_cons_zero, List.set_cons_succ]
    refine skS 6 { dst := some 22, op := .call { callee := .value (.func 211), args := #[.tmp 19, .tmp 21], argTypes := #[185, 9] }, type := 4, pos := "expr.go:107", after := #[{ on := 3, ground := .data }, { on := 5, ground := .data }, { on := 5, ground := .chain }, { on := 2, ground := .guard }], guard := some (2, false) } hq hHeld rfl (by kernel_rfl) ?_
    try simp only [Act.put, List.setIfInBounds_toArray, List.set_cons_zero, List.set_cons_succ]
    refine tkS 7 { dst := some 23, op := .pick (.tmp 18) (.const (Value.bool true)) (.tmp 22), type := 4, pos := "expr.go:107", after := #[{ on := 2, ground := .data }, { on := 6, ground := .data }], guard := none } (v := ?v1_7) hq hHeld rfl (by kernel_rfl) ?y1_7 ?_
    case y1_7 => (intro w h; try dsimp only at h); go_simp <;> with_reducible rfl
    try simp only [Act.put, List.setIfInBounds_toArray, List.set_cons_zero, List.set_cons_succ]
    refine clS 8 { dst := some 24, op := .call { callee := .value (.func 148), args := #[.tmp 16, .tmp 23, .const (Value.int IntKind.i64 5)], argTypes := #[25, 4, 26] }, type := 0, pos := "expr.go:107", after := #[{ on := 0, ground := .data }, { on := 7, ground := .data }, { on := 6, ground := .chain }], guard := none } rfl (by kernel_rfl) (by kernel_rfl) fun Kc hK => ?_
    go_simp
    refine (cneed_at NN.out H0.out.B true 5 _ hHeld.1).mono ?_
    rintro e w1 ⟨hb, rfl⟩
    refine hK.out _ _ ⟨hHeld.1.trans (hb.mono hHeld.1.size), keepC hHeld.1 hHeld.2 ul hb⟩ fun hHeld => ?_
    clear hb
    clear hK Kc
    try simp only [Act.put, List.setIfInBounds_toArray, List.set_cons_zero, List.set_cons_succ]
    refine wpAnyH_done (by kernel_rfl) ?_ _
    have u0 := hHeld.2
    have c0 := keepC (Below.refl _ _) c0 sl hHeld.1
    have c1 := keepC (Below.refl _ _) c1 sl hHeld.1
    have c2 := keepC (Below.refl _ _) c2 sl hHeld.1
    go_wp2_with fail
    refine rgS (fun w' => Below wa.heap.size wa w' ∧ w'.cell? ⟨w.heap.size, 0, none⟩ = some (.pointer (some ⟨b, 0, none⟩)) ∧ w'.cell? ⟨E.sb, 0, none⟩ = some (.slice E.sA E.x.structs.length E.sc) ∧ w'.cell? ⟨E.sb, 1, none⟩ = some (.slice E.gA E.x.globals.length E.gc) ∧ w'.cell? ⟨E.sb, 2, none⟩ = some (.slice E.fA E.x.funs.length E.fc)) (by kernel_rfl) (⟨hHeld.1.drew, u0, c0, c1, c2⟩) (by repeat first | exact putOkB | apply putOkT) fun hHeld hq => ?_
    refine tkS 0 { dst := some 26, op := .move (.tmp 0), type := 185, pos := "expr.go:108", after := #[], guard := none } (v := ?v2_0) hq hHeld rfl (by kernel_rfl) ?y2_0 ?_
    case y2_0 => (intro w h; try dsimp only at h); go_simp <;> with_reducible rfl
    try simp only [Act.put, List.setIfInBounds_toArray, List.set_cons_zero, List.set_cons_succ]
    refine tkS 1 { dst := some 27, op := .nilCheck (.tmp 26), type := 0, pos := "expr.go:108", after := #[{ on := 0, ground := .data }], guard := none } (v := ?v2_1) hq hHeld rfl (by kernel_rfl) ?y2_1 ?_
    case y2_1 => (intro w h; try dsimp only at h); go_simp <;> with_reducible rfl
    try simp only [Act.put, List.setIfInBounds_toArray, List.set_cons_zero, List.set_cons_succ]
    refine tkS 2 { dst := some 28, op := .fieldAddr 179 (.tmp 27) 0, type := 0, pos := "expr.go:108", after := #[{ on := 1, ground := .data }], guard := none } (v := ?v2_2) hq hHeld rfl (by kernel_rfl) ?y2_2 ?_
    case y2_2 => (intro w h; try dsimp only at h); go_simp <;> with_reducible rfl
    try simp only [Act.put, List.setIfInBounds_toArray, List.set_cons_zero, List.set_cons_succ]
    refine tkS 3 { dst := some 29, op := .load 44 (.tmp 28), type := 44, pos := "expr.go:108", after := #[{ on := 2, ground := .data }], guard := none } (v := ?v2_3) hq hHeld rfl (by kernel_rfl) ?y2_3 ?_
    case y2_3 => (intro w h; try dsimp only at h); go_simp <;> with_reducible rfl
    try simp only [Act.put, List.setIfInBounds_toArray, List.set_cons_zero, List.set_cons_succ]
    refine tkS 4 { dst := some 30, op := .load 25 (.tmp 3), type := 25, pos := "expr.go:108", after := #[], guard := none } (v := ?v2_4) hq hHeld rfl (by kernel_rfl) ?y2_4 ?_
    case y2_4 => (intro w h; try dsimp only at h); go_simp <;> with_reducible rfl
    try simp only [Act.put, List.setIfInBounds_toArray, List.set_cons_zero, List.set_cons_succ]
    refine clS 5 { dst := some 31, op := .call { callee := .value (.func 42), args := #[.tmp 30], argTypes := #[25] }, type := 9, pos := "expr.go:108", after := #[{ on := 4, ground := .data }], guard := none } rfl (by kernel_rfl) (by kernel_rfl) fun Kc hK => ?_
    go_simp
    refine (cname_at NN.out H0.out.B _ hHeld.1).mono ?_
    rintro e w1 ⟨rfl, hb⟩
    refine hK.out _ _ ⟨hHeld.1.trans (hb.mono hHeld.1.size), keepC hHeld.1 hHeld.2.1 ul hb, keepC hHeld.1 hHeld.2.2.1 sl hb, keepC hHeld.1 hHeld.2.2.2.1 sl hb, keepC hHeld.1 hHeld.2.2.2.2 sl hb⟩ fun hHeld => ?_
    clear hb
    clear hK Kc
    try simp only [Act.put, List.setIfInBounds_toArray, List.set_cons_zero, List.set_cons_succ]
    refine clS 6 { dst := some 32, op := .call { callee := .value (.func 22), args := #[.tmp 29, .tmp 31], argTypes := #[44, 9] }, type := 57, pos := "expr.go:108", after := #[{ on := 3, ground := .data }, { on := 5, ground := .data }, { on := 5, ground := .chain }], guard := none } rfl (by kernel_rfl) (by kernel_rfl) fun Kc hK => ?_
    go_simp
    refine (cfun_any E (nm t) g _ (H0.out.below hHeld.1).imw HG).mono ?_
    rintro e w1 ⟨rfl, hb⟩
    rw [eg]
    refine hK.out _ _ ⟨hHeld.1.trans (hb.mono hHeld.1.size), keepC hHeld.1 hHeld.2.1 ul hb, keepC hHeld.1 hHeld.2.2.1 sl hb, keepC hHeld.1 hHeld.2.2.2.1 sl hb, keepC hHeld.1 hHeld.2.2.2.2 sl hb⟩ fun hHeld => ?_
    clear hb
    clear hK Kc
    try simp only [Act.put, List.setIfInBounds_toArray, List.set_cons_zero, List.set_cons_succ]
    refine tkS 7 { dst := some 25, op := .move (.tmp 32), type := 57, pos := "expr.go:108", after := #[{ on := 6, ground := .data }], guard := none } (v := ?v2_7) hq hHeld rfl (by kernel_rfl) ?y2_7 ?_
    case y2_7 => (intro w h; try dsimp only at h); go_simp <;> with_reducible rfl
    try simp only [Act.put, List.setIfInBounds_toArray, List.set_cons_zero, List.set_cons_succ]
    refine tkS 8 { dst := some 33, op := .extract (.tmp 25) 0, type := 3, pos := "expr.go:108", after := #[{ on := 7, ground := .data }], guard := none } (v := ?v2_8) hq hHeld rfl (by kernel_rfl) ?y2_8 ?_
    case y2_8 => (intro w h; try dsimp only at h); go_simp <;> with_reducible rfl
    try simp only [Act.put, List.setIfInBounds_toArray, List.set_cons_zero, List.set_cons_succ]
    refine tkS 9 { dst := some 34, op := .extract (.tmp 25) 1, type := 4, pos := "expr.go:108", after := #[{ on := 7, ground := .data }, { on := 10, ground := .gcOnly Departure.lateStores }], guard := none } (v := ?v2_9) hq hHeld rfl (by kernel_rfl) ?y2_9 ?_
    case y2_9 => (intro w h; try dsimp only at h); go_simp <;> with_reducible rfl
    try simp only [Act.put, List.setIfInBounds_toArray, List.set_cons_zero, List.set_cons_succ]
    refine tkS 10 { dst := some 7, op := .assign (.tmp 33), type := 3, pos := "expr.go:108", after := #[{ on := 8, ground := .data }, { on := 6, ground := .chain }, { on := 0, ground := .phase }, { on := 1, ground := .phase }, { on := 2, ground := .phase }, { on := 3, ground := .phase }, { on := 4, ground := .phase }, { on := 5, ground := .phase }, { on := 6, ground := .phase }, { on := 7, ground := .phase }, { on := 8, ground := .phase }, { on := 9, ground := .textOnly Departure.lateStores }], guard := none } (v := ?v2_10) hq hHeld rfl (by kernel_rfl) ?y2_10 ?_
    case y2_10 => (intro w h; try dsimp only at h); go_simp <;> with_reducible rfl
    try simp only [Act.put, List.setIfInBounds_toArray, List.set_cons_zero, List.set_cons_succ]
    refine tkS 11 { dst := some 8, op := .assign (.tmp 34), type := 4, pos := "expr.go:108", after := #[{ on := 9, ground := .data }, { on := 10, ground := .chain }, { on := 0, ground := .phase }, { on := 1, ground := .phase }, { on := 2, ground := .phase }, { on := 3, ground := .phase }, { on := 4, ground := .phase }, { on := 5, ground := .phase }, { on := 6, ground := .phase }, { on := 7, ground := .phase }, { on := 8, ground := .phase }, { on := 9, ground := .phase }, { on := 10, ground := .phase }], guard := none } (v := ?v2_11) hq hHeld rfl (by kernel_rfl) ?y2_11 ?_
    case y2_11 => (intro w h; try dsimp only at h); go_simp <;> with_reducible rfl
    try simp only [Act.put, List.setIfInBounds_toArray, List.set_cons_zero, List.set_cons_succ]
    refine wpAnyH_done (by kernel_rfl) ?_ _
    have u0 := hHeld.2.1
    have c2 := hHeld.2.2.2.2
    have hh := Lib.hid hHeld.1
    clear hHeld
    cases g with
    | none =>
      simp only [Option.getD_none, Option.isSome_none]
      go_wp2_with fail
      refine (cneed_at NN.out H0.out.B false 7 _ hh.out).mono ?_
      rintro e w6 ⟨hb, rfl⟩
      exact ⟨rfl, onB B0.out hh.out hb, by rw [HC.out]; rfl⟩
    | some j =>
      simp only [Option.getD_some, Option.isSome_some]
      go_wp2_with fail
      refine (cneed_at NN.out H0.out.B false 7 _ hh.out).mono ?_
      rintro e w6 ⟨hb, rfl⟩
      exact ⟨rfl, onB B0.out hh.out hb, by rw [HC.out]; rfl⟩
  | false =>
    refine rgS (fun w' => Below wa.heap.size wa w' ∧ w'.cell? ⟨w.heap.size, 0, none⟩ = some (.pointer (some ⟨b, 0, none⟩))) (by kernel_rfl) (⟨hh.out.drew, u0⟩) (by repeat first | exact putOkB | apply putOkT) fun hHeld hq => ?_
    refine tkS 0 { dst := some 16, op := .load 25 (.tmp 3), type := 25, pos := "expr.go:107", after := #[], guard := none } (v := ?v3_0) hq hHeld rfl (by kernel_rfl) ?y3_0 ?_
    case y3_0 => (intro w h; try dsimp only at h); go_simp <;> with_reducible rfl
    try simp only [Act.put, List.setIfInBounds_toArray, List.set_cons_zero, List.set_cons_succ]
    refine tkS 1 { dst := some 17, op := .move (.tmp 6), type := 4, pos := "expr.go:107", after := #[], guard := none } (v := ?v3_1) hq hHeld rfl (by kernel_rfl) ?y3_1 ?_
    case y3_1 => (intro w h; try dsimp only at h); go_simp <;> with_reducible rfl
    try simp only [Act.put, List.setIfInBounds_toArray, List.set_cons_zero, List.set_cons_succ]
    refine tkS 2 { dst := some 18, op := .move (.tmp 17), type := 4, pos := "expr.go:107", after := #[{ on := 1, ground := .data }], guard := none } (v := ?v3_2) hq hHeld rfl (by kernel_rfl) ?y3_2 ?_
    case y3_2 => (intro w h; try dsimp only at h); go_simp <;> with_reducible rfl
    try simp only [Act.put, List.setIfInBounds_toArray, List.set_cons_zero, List.set_cons_succ]
    refine tkS 3 { dst := some 19, op := .move (.tmp 0), type := 185, pos := "expr.go:107", after := #[{ on := 2, ground := .guard }], guard := some (2, false) } (v := ?v3_3) hq hHeld rfl (by kernel_rfl) ?y3_3 ?_
    case y3_3 => (intro w h; try dsimp only at h); go_simp <;> with_reducible rfl
    try simp only [Act.put, List.setIfInBounds_toArray, List.set_cons_zero, List.set_cons_succ]
    refine tkS 4 { dst := some 20, op := .load 25 (.tmp 3), type := 25, pos := "expr.go:107", after := #[{ on := 2, ground := .guard }], guard := some (2, false) } (v := ?v3_4) hq hHeld rfl (by kernel_rfl) ?y3_4 ?_
    case y3_4 => (intro w h; try dsimp only at h); go_simp <;> with_reducible rfl
    try simp only [Act.put, List.setIfInBounds_toArray, List.set_cons_zero, List.set_cons_succ]
    refine clS 5 { dst := some 21, op := .call { callee := .value (.func 42), args := #[.tmp 20], argTypes := #[25] }, type := 9, pos := "expr.go:107", after := #[{ on := 4, ground := .data }, { on := 2, ground := .chain }, { on := 2, ground := .guard }], guard := some (2, false) } rfl (by kernel_rfl) (by kernel_rfl) fun Kc hK => ?_
    go_simp
    refine (cname_at NN.out H0.out.B _ hHeld.1).mono ?_
    rintro e w1 ⟨rfl, hb⟩
    refine hK.out _ _ ⟨hHeld.1.trans (hb.mono hHeld.1.size), keepC hHeld.1 hHeld.2 ul hb⟩ fun hHeld => ?_
    clear hb
    clear hK Kc
    try simp only [Act.put, List.setIfInBounds_toArray, List.set_cons_zero, List.set_cons_succ]
    refine clS 6 { dst := some 22, op := .call { callee := .value (.func 211), args := #[.tmp 19, .tmp 21], argTypes := #[185, 9] }, type := 4, pos := "expr.go:107", after := #[{ on := 3, ground := .data }, { on := 5, ground := .data }, { on := 5, ground := .chain }, { on := 2, ground := .guard }], guard := some (2, false) } rfl (by kernel_rfl) (by kernel_rfl) fun Kc hK => ?_
    go_simp
    refine (cdecl_any E v K f (nm t) d _ (H0.out.below hHeld.1) HD).mono ?_
    rintro e w1 ⟨rfl, hb⟩
    refine hK.out _ _ ⟨hHeld.1.trans (hb.mono hHeld.1.size), keepC hHeld.1 hHeld.2 ul hb⟩ fun hHeld => ?_
    clear hb
    clear hK Kc
    try simp only [Act.put, List.setIfInBounds_toArray, List.set_cons_zero, List.set_cons_succ]
    refine tkS 7 { dst := some 23, op := .pick (.tmp 18) (.const (Value.bool true)) (.tmp 22), type := 4, pos := "expr.go:107", after := #[{ on := 2, ground := .data }, { on := 6, ground := .data }], guard := none } (v := ?v3_7) hq hHeld rfl (by kernel_rfl) ?y3_7 ?_
    case y3_7 => (intro w h; try dsimp only at h); go_simp <;> with_reducible rfl
    try simp only [Act.put, List.setIfInBounds_toArray, List.set_cons_zero, List.set_cons_succ]
    refine clS 8 { dst := some 24, op := .call { callee := .value (.func 148), args := #[.tmp 16, .tmp 23, .const (Value.int IntKind.i64 5)], argTypes := #[25, 4, 26] }, type := 0, pos := "expr.go:107", after := #[{ on := 0, ground := .data }, { on := 7, ground := .data }, { on := 6, ground := .chain }], guard := none } rfl (by kernel_rfl) (by kernel_rfl) fun Kc hK => ?_
    go_simp
    refine (cneed_at NN.out H0.out.B d 5 _ hHeld.1).mono ?_
    rintro e w1 ⟨hb, he⟩
    cases d with
    | false => obtain rfl := he; exact ⟨rfl, onB B0.out hHeld.1 hb, by rw [HC.out]; cases g <;> rfl⟩
    | true =>
    obtain rfl := he
    refine hK.out _ _ ⟨hHeld.1.trans (hb.mono hHeld.1.size), keepC hHeld.1 hHeld.2 ul hb⟩ fun hHeld => ?_
    clear hb
    clear hK Kc
    try simp only [Act.put, List.setIfInBounds_toArray, List.set_cons_zero, List.set_cons_succ]
    refine wpAnyH_done (by kernel_rfl) ?_ _
    have u0 := hHeld.2
    have c0 := keepC (Below.refl _ _) c0 sl hHeld.1
    have c1 := keepC (Below.refl _ _) c1 sl hHeld.1
    have c2 := keepC (Below.refl _ _) c2 sl hHeld.1
    go_wp2_with fail
    refine rgS (fun w' => Below wa.heap.size wa w' ∧ w'.cell? ⟨w.heap.size, 0, none⟩ = some (.pointer (some ⟨b, 0, none⟩)) ∧ w'.cell? ⟨E.sb, 0, none⟩ = some (.slice E.sA E.x.structs.length E.sc) ∧ w'.cell? ⟨E.sb, 1, none⟩ = some (.slice E.gA E.x.globals.length E.gc) ∧ w'.cell? ⟨E.sb, 2, none⟩ = some (.slice E.fA E.x.funs.length E.fc)) (by kernel_rfl) (⟨hHeld.1.drew, u0, c0, c1, c2⟩) (by repeat first | exact putOkB | apply putOkT) fun hHeld hq => ?_
    refine tkS 0 { dst := some 26, op := .move (.tmp 0), type := 185, pos := "expr.go:108", after := #[], guard := none } (v := ?v4_0) hq hHeld rfl (by kernel_rfl) ?y4_0 ?_
    case y4_0 => (intro w h; try dsimp only at h); go_simp <;> with_reducible rfl
    try simp only [Act.put, List.setIfInBounds_toArray, List.set_cons_zero, List.set_cons_succ]
    refine tkS 1 { dst := some 27, op := .nilCheck (.tmp 26), type := 0, pos := "expr.go:108", after := #[{ on := 0, ground := .data }], guard := none } (v := ?v4_1) hq hHeld rfl (by kernel_rfl) ?y4_1 ?_
    case y4_1 => (intro w h; try dsimp only at h); go_simp <;> with_reducible rfl
    try simp only [Act.put, List.setIfInBounds_toArray, List.set_cons_zero, List.set_cons_succ]
    refine tkS 2 { dst := some 28, op := .fieldAddr 179 (.tmp 27) 0, type := 0, pos := "expr.go:108", after := #[{ on := 1, ground := .data }], guard := none } (v := ?v4_2) hq hHeld rfl (by kernel_rfl) ?y4_2 ?_
    case y4_2 => (intro w h; try dsimp only at h); go_simp <;> with_reducible rfl
    try simp only [Act.put, List.setIfInBounds_toArray, List.set_cons_zero, List.set_cons_succ]
    refine tkS 3 { dst := some 29, op := .load 44 (.tmp 28), type := 44, pos := "expr.go:108", after := #[{ on := 2, ground := .data }], guard := none } (v := ?v4_3) hq hHeld rfl (by kernel_rfl) ?y4_3 ?_
    case y4_3 => (intro w h; try dsimp only at h); go_simp <;> with_reducible rfl
    try simp only [Act.put, List.setIfInBounds_toArray, List.set_cons_zero, List.set_cons_succ]
    refine tkS 4 { dst := some 30, op := .load 25 (.tmp 3), type := 25, pos := "expr.go:108", after := #[], guard := none } (v := ?v4_4) hq hHeld rfl (by kernel_rfl) ?y4_4 ?_
    case y4_4 => (intro w h; try dsimp only at h); go_simp <;> with_reducible rfl
    try simp only [Act.put, List.setIfInBounds_toArray, List.set_cons_zero, List.set_cons_succ]
    refine clS 5 { dst := some 31, op := .call { callee := .value (.func 42), args := #[.tmp 30], argTypes := #[25] }, type := 9, pos := "expr.go:108", after := #[{ on := 4, ground := .data }], guard := none } rfl (by kernel_rfl) (by kernel_rfl) fun Kc hK => ?_
    go_simp
    refine (cname_at NN.out H0.out.B _ hHeld.1).mono ?_
    rintro e w1 ⟨rfl, hb⟩
    refine hK.out _ _ ⟨hHeld.1.trans (hb.mono hHeld.1.size), keepC hHeld.1 hHeld.2.1 ul hb, keepC hHeld.1 hHeld.2.2.1 sl hb, keepC hHeld.1 hHeld.2.2.2.1 sl hb, keepC hHeld.1 hHeld.2.2.2.2 sl hb⟩ fun hHeld => ?_
    clear hb
    clear hK Kc
    try simp only [Act.put, List.setIfInBounds_toArray, List.set_cons_zero, List.set_cons_succ]
    refine clS 6 { dst := some 32, op := .call { callee := .value (.func 22), args := #[.tmp 29, .tmp 31], argTypes := #[44, 9] }, type := 57, pos := "expr.go:108", after := #[{ on := 3, ground := .data }, { on := 5, ground := .data }, { on := 5, ground := .chain }], guard := none } rfl (by kernel_rfl) (by kernel_rfl) fun Kc hK => ?_
    go_simp
    refine (cfun_any E (nm t) g _ (H0.out.below hHeld.1).imw HG).mono ?_
    rintro e w1 ⟨rfl, hb⟩
    rw [eg]
    refine hK.out _ _ ⟨hHeld.1.trans (hb.mono hHeld.1.size), keepC hHeld.1 hHeld.2.1 ul hb, keepC hHeld.1 hHeld.2.2.1 sl hb, keepC hHeld.1 hHeld.2.2.2.1 sl hb, keepC hHeld.1 hHeld.2.2.2.2 sl hb⟩ fun hHeld => ?_
    clear hb
    clear hK Kc
    try simp only [Act.put, List.setIfInBounds_toArray, List.set_cons_zero, List.set_cons_succ]
    refine tkS 7 { dst := some 25, op := .move (.tmp 32), type := 57, pos := "expr.go:108", after := #[{ on := 6, ground := .data }], guard := none } (v := ?v4_7) hq hHeld rfl (by kernel_rfl) ?y4_7 ?_
    case y4_7 => (intro w h; try dsimp only at h); go_simp <;> with_reducible rfl
    try simp only [Act.put, List.setIfInBounds_toArray, List.set_cons_zero, List.set_cons_succ]
    refine tkS 8 { dst := some 33, op := .extract (.tmp 25) 0, type := 3, pos := "expr.go:108", after := #[{ on := 7, ground := .data }], guard := none } (v := ?v4_8) hq hHeld rfl (by kernel_rfl) ?y4_8 ?_
    case y4_8 => (intro w h; try dsimp only at h); go_simp <;> with_reducible rfl
    try simp only [Act.put, List.setIfInBounds_toArray, List.set_cons_zero, List.set_cons_succ]
    refine tkS 9 { dst := some 34, op := .extract (.tmp 25) 1, type := 4, pos := "expr.go:108", after := #[{ on := 7, ground := .data }, { on := 10, ground := .gcOnly Departure.lateStores }], guard := none } (v := ?v4_9) hq hHeld rfl (by kernel_rfl) ?y4_9 ?_
    case y4_9 => (intro w h; try dsimp only at h); go_simp <;> with_reducible rfl
    try simp only [Act.put, List.setIfInBounds_toArray, List.set_cons_zero, List.set_cons_succ]
    refine tkS 10 { dst := some 7, op := .assign (.tmp 33), type := 3, pos := "expr.go:108", after := #[{ on := 8, ground := .data }, { on := 6, ground := .chain }, { on := 0, ground := .phase }, { on := 1, ground := .phase }, { on := 2, ground := .phase }, { on := 3, ground := .phase }, { on := 4, ground := .phase }, { on := 5, ground := .phase }, { on := 6, ground := .phase }, { on := 7, ground := .phase }, { on := 8, ground := .phase }, { on := 9, ground := .textOnly Departure.lateStores }], guard := none } (v := ?v4_10) hq hHeld rfl (by kernel_rfl) ?y4_10 ?_
    case y4_10 => (intro w h; try dsimp only at h); go_simp <;> with_reducible rfl
    try simp only [Act.put, List.setIfInBounds_toArray, List.set_cons_zero, List.set_cons_succ]
    refine tkS 11 { dst := some 8, op := .assign (.tmp 34), type := 4, pos := "expr.go:108", after := #[{ on := 9, ground := .data }, { on := 10, ground := .chain }, { on := 0, ground := .phase }, { on := 1, ground := .phase }, { on := 2, ground := .phase }, { on := 3, ground := .phase }, { on := 4, ground := .phase }, { on := 5, ground := .phase }, { on := 6, ground := .phase }, { on := 7, ground := .phase }, { on := 8, ground := .phase }, { on := 9, ground := .phase }, { on := 10, ground := .phase }], guard := none } (v := ?v4_11) hq hHeld rfl (by kernel_rfl) ?y4_11 ?_
    case y4_11 => (intro w h; try dsimp only at h); go_simp <;> with_reducible rfl
    try simp only [Act.put, List.setIfInBounds_toArray, List.set_cons_zero, List.set_cons_succ]
    refine wpAnyH_done (by kernel_rfl) ?_ _
    have u0 := hHeld.2.1
    have c2 := hHeld.2.2.2.2
    have hh := Lib.hid hHeld.1
    clear hHeld
    cases g with
    | none =>
      simp only [Option.getD_none, Option.isSome_none]
      go_wp2_with fail
      refine (cneed_at NN.out H0.out.B false 7 _ hh.out).mono ?_
      rintro e w6 ⟨hb, rfl⟩
      exact ⟨rfl, onB B0.out hh.out hb, by rw [HC.out]; rfl⟩
    | some j =>
      simp only [Option.getD_some, Option.isSome_some]
      go_wp2_with fail
      refine (cneed_at NN.out H0.out.B true 7 _ hh.out).mono ?_
      rintro e w6 ⟨hb, rfl⟩
      have hjl := fst_lt HG.out
      have hjc := H0.out.im.fle
      have hjm := H0.out.im.fl
      have b6 := hh.out.trans (hb.mono hh.out.size)
      obtain ⟨fb, fo, hfa, hfb, PA, pc, g0, g1, g2, gc, gm, gf⟩ := sg_at H0.out.im.F hjl
      have BB := (H0.out.below b6).B
      have g0 := (BB.cell (p := ⟨fb, _, none⟩) hfb).trans g0
      have g1 := (BB.cell (p := ⟨fb, _, none⟩) hfb).trans g1
      have g2 := (BB.cell (p := ⟨fb, _, none⟩) hfb).trans g2
      have c2 := keepC hh.out c2 sl hb
      have r0 := keepC (Below.refl _ _) r0 rl b6
      have r1 := keepC (Below.refl _ _) r1 rl b6
      have r2 := keepC (Below.refl _ _) r2 rl b6
      have q0 := (b6.frozen (p := ⟨w.heap.size + 1, 0, none⟩) rl).trans (z0 0)
      have q1 := (b6.frozen (p := ⟨w.heap.size + 1, 1, none⟩) rl).trans (z0 1)
      have q2 := (b6.frozen (p := ⟨w.heap.size + 1, 2, none⟩) rl).trans (z0 2)
      rw [hfa] at c2
      have GF := Lib.hid gf
      have GC := Lib.hid gc
      have GM := Lib.hid gm
      have B6 := Lib.hid (onB B0.out hh.out hb)
      clear hb u0 c0 c1 hh b6 gf gc gm hfa BB hfb
      have HGO : Hid (calleeC E.x K t.pos (nm t) = .ok (E.x.funs.getD j sgZ)) := by show _ = _; rw [HC.out]; simp only [calleeOf, nd, Bool.or_true, Bool.not_false, if_true]
      generalize E.x.funs.getD j sgZ = G at *
      generalize E.x.funs.length = fm at *
      go_wp2_with fail
      refine bodyPost_ret (v := .agg #[.string G.name, .slice PA G.params.length pc, .string G.res]) (by simp [results, Tryz.results230, go_sem, r0, r1, r2]) rfl ?_
      have hfin : Below w.heap.size w (((w6.setCell ⟨w.heap.size + 1, 0, none⟩ (.string G.name)).setCell ⟨w.heap.size + 1, 1, none⟩ (.slice PA G.params.length pc)).setCell ⟨w.heap.size + 1, 2, none⟩ (.string G.res)) := ((B6.out.setCell (p := ⟨w.heap.size + 1, 0, none⟩) (Nat.le_succ _) _).setCell (p := ⟨w.heap.size + 1, 1, none⟩) (Nat.le_succ _) _).setCell (p := ⟨w.heap.size + 1, 2, none⟩) (Nat.le_succ _) _
      refine ⟨hfin, ?_⟩
      rw [HGO.out]
      exact ⟨PA, pc, rfl, GC.out, GM.out, GF.out.below (HB.out.trans (hfin.mono HB.out.size)) (Nat.le_refl _)⟩

end Go.Proofs.YtkahbhfbgdbnfaaGreatDoor

/-
  CONTRACTS: unary, both, binary of package check, given expr of the kids. Of what was there nothing has turned.
-/
namespace Go.Proofs.YtkahbhfbgdbnfaaGreatDoor
open Go.RowKit

def KOk (x : Inf) (K : List Fld) : Prop := ∀ f ∈ K, TyOk x f.typ
/-- expr at a tree. -/
def XH (E : CE) (u : Tree) : Prop := ∀ (w : World) (v : Value) (K : List Fld) (f b : Nat), SC E w v K f → KOk E.x K → Nd E b u → Calls Tryz.prog 187 #[.pointer (some ⟨E.sb, 0, none⟩), .agg #[.pointer (some ⟨b, 0, none⟩)]] w (XQ E w (exprC E.x K u))
theorem eqB_of {a b : ByteArray} {d : Bool} (h : (a.toList == b.data.toList) = d) : eqB a b = d := by rw [ByteArray.toList_eq] at h; exact h
theorem kid0_of (n : Nat) (u : Value) (w : World) {P : Ending → World → Prop} (h : Calls Tryz.prog 29 #[u, .int .i64 (n : Nat)] w P) (m : Int) (hm : (n : Int) = m) : Calls Tryz.prog 29 #[u, .int .i64 m] w P := by rw [← hm]; exact h
set_option maxRecDepth 100000 in
set_option maxHeartbeats 400000 in
theorem cunary_any (E : CE) (v : Value) (K : List Fld) (f b : Nat) (t u : Tree) (w : World) (H : SC E w v K f) (hKo : KOk E.x K) (N : Nd E b t) (hu : t.kids[0]? = some u) (ih : XH E u) :
    Calls Tryz.prog 206 #[.pointer (some ⟨E.sb, 0, none⟩), .agg #[.pointer (some ⟨b, 0, none⟩)]] w (XQ E w ((exprC E.x K u).bind fun a => unC t.pos t.n a)) := by
  have B0 := Lib.hid (b1 w (.cells #[.pointer (some ⟨b, 0, none⟩)] 25))
  have H0 := Lib.hid (H.below (b1 w (.cells #[.pointer (some ⟨b, 0, none⟩)] 25)))
  have U0 := Lib.hid (PtrAt.new w (some ⟨b, 0, none⟩))
  have NN := Lib.hid N
  obtain ⟨r, hr⟩ : ∃ r, exprC E.x K u = r := ⟨_, rfl⟩
  have HR := Lib.hid hr
  have IH := Lib.hid ih
  have HKO := Lib.hid hKo
  obtain ⟨nb, hn, hk⟩ := ckid_at N H0.out.B 0 u hu
  have N1 := Lib.hid hn
  have HKD := Lib.hid hk
  rw [hr]
  clear H N hr ih hKo hn hk hu
  by_cases h18 : t.n = 18
  · have HN := Lib.hid h18
    rw [h18]
    have HU : Hid (unT 18 = tBool) := by show _ = _; unfold unT; rw [if_pos rfl]
    clear h18
    go_enter Tryz.func206, Tryz.ntmps206
    go_wp2_with fail
    generalize w.alloc (.cells #[.pointer (some ⟨b, 0, none⟩)] 25) = wa at *
    have u0 := U0.out.c0
    have ul := U0.out.lt
    have sl := H0.out.lt
    have c0 := H0.out.c0
    have c1 := H0.out.c1
    have c2 := H0.out.c2
    refine (cn_at NN.out H0.out.B _ (Below.refl _ _)).mono ?_
    rintro e w1 ⟨rfl, hb⟩
    have u0 := keepC (Below.refl _ _) u0 ul hb
    have hh := Lib.hid hb
    clear hb
    rw [HN.out]
    go_wp2_with fail
    refine rgS (fun w' => Below wa.heap.size wa w' ∧ w'.cell? ⟨w.heap.size, 0, none⟩ = some (.pointer (some ⟨b, 0, none⟩))) (by kernel_rfl) (⟨hh.out.drew, u0⟩) (by repeat first | exact putOkB | apply putOkT) fun hHeld hq => ?_
    refine tkS 0 { dst := some 9, op := .load 25 (.tmp 3), type := 25, pos := "expr.go:118", after := #[], guard := none } (v := ?v1_0) hq hHeld rfl (by kernel_rfl) ?y1_0 ?_
    case y1_0 => (intro w h; try dsimp only at h); go_simp <;> with_reducible rfl
    try simp only [Act.put, List.setIfInBounds_toArray, List.set_cons_zero, List.set_cons_succ]
    refine tkS 1 { dst := some 10, op := .move (.tmp 0), type := 185, pos := "expr.go:118", after := #[], guard := none } (v := ?v1_1) hq hHeld rfl (by kernel_rfl) ?y1_1 ?_
    case y1_1 => (intro w h; try dsimp only at h); go_simp <;> with_reducible rfl
    try simp only [Act.put, List.setIfInBounds_toArray, List.set_cons_zero, List.set_cons_succ]
    refine tkS 2 { dst := some 11, op := .load 25 (.tmp 3), type := 25, pos := "expr.go:118", after := #[], guard := none } (v := ?v1_2) hq hHeld rfl (by kernel_rfl) ?y1_2 ?_
    case y1_2 => (intro w h; try dsimp only at h); go_simp <;> with_reducible rfl
    try simp only [Act.put, List.setIfInBounds_toArray, List.set_cons_zero, List.set_cons_succ]
    refine tkS 5 { dst := some 14, op := .move (.tmp 5), type := 9, pos := "expr.go:118", after := #[], guard := none } (v := ?v1_5) hq hHeld rfl (by kernel_rfl) ?y1_5 ?_
    case y1_5 => (intro w h; try dsimp only at h); go_simp <;> with_reducible rfl
    try simp only [Act.put, List.setIfInBounds_toArray, List.set_cons_zero, List.set_cons_succ]
    refine clS 3 { dst := some 12, op := .call { callee := .value (.func 29), args := #[.tmp 11, .const (.int .i64 0)], argTypes := #[25, 3] }, type := 25, pos := "expr.go:118", after := #[{ on := 2, ground := .data }], guard := none } rfl (by kernel_rfl) (by kernel_rfl) fun Kc hK => ?_
    go_simp
    refine (kid0_of 0 _ _ (HKD.out _ hHeld.1) 0 rfl).mono ?_
    rintro e w1 ⟨rfl, hb⟩
    refine hK.out _ _ ⟨hHeld.1.trans (hb.mono hHeld.1.size), keepC hHeld.1 hHeld.2 ul hb⟩ fun hHeld => ?_
    clear hb
    clear hK Kc
    try simp only [Act.put, List.setIfInBounds_toArray, List.set_cons_zero, List.set_cons_succ]
    refine clS 4 { dst := some 13, op := .call { callee := .value (.func 187), args := #[.tmp 10, .tmp 12], argTypes := #[185, 25] }, type := 9, pos := "expr.go:118", after := #[{ on := 1, ground := .data }, { on := 3, ground := .data }, { on := 3, ground := .chain }], guard := none } rfl (by kernel_rfl) (by kernel_rfl) fun Kc hK => ?_
    go_simp
    refine (IH.out _ v K f _ (H0.out.below hHeld.1) HKO.out N1.out).mono ?_
    rw [HR.out]
    rintro e w1 ⟨hb, he⟩
    cases r with
    | bad p er => obtain rfl := he; exact ⟨rfl, onB B0.out hHeld.1 hb, rfl⟩
    | ok a =>
    obtain rfl := he
    obtain ⟨d, hd⟩ : ∃ d, (a.toList == [98, 111, 111, 108]) = d := ⟨_, rfl⟩
    have HD : Hid (eqB a tBool = d) := eqB_of hd
    refine hK.out _ _ ⟨hHeld.1.trans (hb.mono hHeld.1.size), keepC hHeld.1 hHeld.2 ul hb⟩ fun hHeld => ?_
    clear hb
    clear hK Kc
    try simp only [Act.put, List.setIfInBounds_toArray, List.set_cons_zero, List.set_cons_succ]
    refine tkS 6 { dst := some 15, op := .binOp .eql 9 (.tmp 13) (.tmp 14) 9, type := 4, pos := "expr.go:118", after := #[{ on := 4, ground := .data }, { on := 5, ground := .data }], guard := none } (v := ?v1_6) hq hHeld rfl (by kernel_rfl) ?y1_6 ?_
    case y1_6 => (intro w h; try dsimp only at h); go_simp <;> with_reducible rfl
    try simp only [Act.put, List.setIfInBounds_toArray, List.set_cons_zero, List.set_cons_succ]
    refine clS 7 { dst := some 16, op := .call { callee := .value (.func 148), args := #[.tmp 9, .tmp 15, .const (.int .i64 7)], argTypes := #[25, 4, 26] }, type := 0, pos := "expr.go:118", after := #[{ on := 0, ground := .data }, { on := 6, ground := .data }, { on := 4, ground := .chain }], guard := none } rfl (by kernel_rfl) (by kernel_rfl) fun Kc hK => ?_
    go_simp
    refine (cneed_at NN.out H0.out.B d 7 _ hHeld.1).mono ?_
    rintro e w1 ⟨hb, he⟩
    cases d with
    | false => obtain rfl := he; exact ⟨rfl, onB B0.out hHeld.1 hb, by simp only [CR.bind, unC, HU.out, HD.out]; rfl⟩
    | true =>
    obtain rfl := he
    refine hK.out _ _ ⟨hHeld.1.trans (hb.mono hHeld.1.size), keepC hHeld.1 hHeld.2 ul hb⟩ fun hHeld => ?_
    clear hb
    clear hK Kc
    try simp only [Act.put, List.setIfInBounds_toArray, List.set_cons_zero, List.set_cons_succ]
    refine wpAnyH_done (by kernel_rfl) ?_ _
    go_wp2_with fail
    go_ret
    exact ⟨B0.out.trans (hHeld.1.mono B0.out.size), by simp only [CR.bind, unC, HU.out, HD.out]; rfl⟩
  · have hn18 : (t.n == 18) = false := by simpa using h18
    have HU : Hid (unT t.n = tInt) := by show _ = _; unfold unT; rw [if_neg h18]
    clear h18
    go_enter Tryz.func206, Tryz.ntmps206
    go_wp2_with fail
    generalize w.alloc (.cells #[.pointer (some ⟨b, 0, none⟩)] 25) = wa at *
    have u0 := U0.out.c0
    have ul := U0.out.lt
    have sl := H0.out.lt
    have c0 := H0.out.c0
    have c1 := H0.out.c1
    have c2 := H0.out.c2
    refine (cn_at NN.out H0.out.B _ (Below.refl _ _)).mono ?_
    rintro e w1 ⟨rfl, hb⟩
    have u0 := keepC (Below.refl _ _) u0 ul hb
    have hh := Lib.hid hb
    clear hb
    
    go_wp2_with fail
    refine rgS (fun w' => Below wa.heap.size wa w' ∧ w'.cell? ⟨w.heap.size, 0, none⟩ = some (.pointer (some ⟨b, 0, none⟩))) (by kernel_rfl) (⟨hh.out.drew, u0⟩) (by repeat first | exact putOkB | apply putOkT) fun hHeld hq => ?_
    refine tkS 0 { dst := some 9, op := .load 25 (.tmp 3), type := 25, pos := "expr.go:118", after := #[], guard := none } (v := ?v2_0) hq hHeld rfl (by kernel_rfl) ?y2_0 ?_
    case y2_0 => (intro w h; try dsimp only at h); go_simp <;> with_reducible rfl
    try simp only [Act.put, List.setIfInBounds_toArray, List.set_cons_zero, List.set_cons_succ]
    refine tkS 1 { dst := some 10, op := .move (.tmp 0), type := 185, pos := "expr.go:118", after := #[], guard := none } (v := ?v2_1) hq hHeld rfl (by kernel_rfl) ?y2_1 ?_
    case y2_1 => (intro w h; try dsimp only at h); go_simp <;> with_reducible rfl
    try simp only [Act.put, List.setIfInBounds_toArray, List.set_cons_zero, List.set_cons_succ]
    refine tkS 2 { dst := some 11, op := .load 25 (.tmp 3), type := 25, pos := "expr.go:118", after := #[], guard := none } (v := ?v2_2) hq hHeld rfl (by kernel_rfl) ?y2_2 ?_
    case y2_2 => (intro w h; try dsimp only at h); go_simp <;> with_reducible rfl
    try simp only [Act.put, List.setIfInBounds_toArray, List.set_cons_zero, List.set_cons_succ]
    refine tkS 5 { dst := some 14, op := .move (.tmp 5), type := 9, pos := "expr.go:118", after := #[], guard := none } (v := ?v2_5) hq hHeld rfl (by kernel_rfl) ?y2_5 ?_
    case y2_5 => (intro w h; try dsimp only at h); go_simp <;> with_reducible rfl
    try simp only [Act.put, List.setIfInBounds_toArray, List.set_cons_zero, List.set_cons_succ]
    refine clS 3 { dst := some 12, op := .call { callee := .value (.func 29), args := #[.tmp 11, .const (.int .i64 0)], argTypes := #[25, 3] }, type := 25, pos := "expr.go:118", after := #[{ on := 2, ground := .data }], guard := none } rfl (by kernel_rfl) (by kernel_rfl) fun Kc hK => ?_
    go_simp
    refine (kid0_of 0 _ _ (HKD.out _ hHeld.1) 0 rfl).mono ?_
    rintro e w1 ⟨rfl, hb⟩
    refine hK.out _ _ ⟨hHeld.1.trans (hb.mono hHeld.1.size), keepC hHeld.1 hHeld.2 ul hb⟩ fun hHeld => ?_
    clear hb
    clear hK Kc
    try simp only [Act.put, List.setIfInBounds_toArray, List.set_cons_zero, List.set_cons_succ]
    refine clS 4 { dst := some 13, op := .call { callee := .value (.func 187), args := #[.tmp 10, .tmp 12], argTypes := #[185, 25] }, type := 9, pos := "expr.go:118", after := #[{ on := 1, ground := .data }, { on := 3, ground := .data }, { on := 3, ground := .chain }], guard := none } rfl (by kernel_rfl) (by kernel_rfl) fun Kc hK => ?_
    go_simp
    refine (IH.out _ v K f _ (H0.out.below hHeld.1) HKO.out N1.out).mono ?_
    rw [HR.out]
    rintro e w1 ⟨hb, he⟩
    cases r with
    | bad p er => obtain rfl := he; exact ⟨rfl, onB B0.out hHeld.1 hb, rfl⟩
    | ok a =>
    obtain rfl := he
    obtain ⟨d, hd⟩ : ∃ d, (a.toList == [105, 110, 116]) = d := ⟨_, rfl⟩
    have HD : Hid (eqB a tInt = d) := eqB_of hd
    refine hK.out _ _ ⟨hHeld.1.trans (hb.mono hHeld.1.size), keepC hHeld.1 hHeld.2 ul hb⟩ fun hHeld => ?_
    clear hb
    clear hK Kc
    try simp only [Act.put, List.setIfInBounds_toArray, List.set_cons_zero, List.set_cons_succ]
    refine tkS 6 { dst := some 15, op := .binOp .eql 9 (.tmp 13) (.tmp 14) 9, type := 4, pos := "expr.go:118", after := #[{ on := 4, ground := .data }, { on := 5, ground := .data }], guard := none } (v := ?v2_6) hq hHeld rfl (by kernel_rfl) ?y2_6 ?_
    case y2_6 => (intro w h; try dsimp only at h); go_simp <;> with_reducible rfl
    try simp only [Act.put, List.setIfInBounds_toArray, List.set_cons_zero, List.set_cons_succ]
    refine clS 7 { dst := some 16, op := .call { callee := .value (.func 148), args := #[.tmp 9, .tmp 15, .const (.int .i64 7)], argTypes := #[25, 4, 26] }, type := 0, pos := "expr.go:118", after := #[{ on := 0, ground := .data }, { on := 6, ground := .data }, { on := 4, ground := .chain }], guard := none } rfl (by kernel_rfl) (by kernel_rfl) fun Kc hK => ?_
    go_simp
    refine (cneed_at NN.out H0.out.B d 7 _ hHeld.1).mono ?_
    rintro e w1 ⟨hb, he⟩
    cases d with
    | false => obtain rfl := he; exact ⟨rfl, onB B0.out hHeld.1 hb, by simp only [CR.bind, unC, HU.out, HD.out]; rfl⟩
    | true =>
    obtain rfl := he
    refine hK.out _ _ ⟨hHeld.1.trans (hb.mono hHeld.1.size), keepC hHeld.1 hHeld.2 ul hb⟩ fun hHeld => ?_
    clear hb
    clear hK Kc
    try simp only [Act.put, List.setIfInBounds_toArray, List.set_cons_zero, List.set_cons_succ]
    refine wpAnyH_done (by kernel_rfl) ?_ _
    go_wp2_with fail
    go_ret
    exact ⟨B0.out.trans (hHeld.1.mono B0.out.size), by simp only [CR.bind, unC, HU.out, HD.out]; rfl⟩

end Go.Proofs.YtkahbhfbgdbnfaaGreatDoor

/-
  CONTRACTS: both, binary of package check, given expr of the kids. Of what was there nothing has turned.
-/
namespace Go.Proofs.YtkahbhfbgdbnfaaGreatDoor
open Go.RowKit

set_option maxRecDepth 100000 in
set_option maxHeartbeats 400000 in
theorem cboth_any (E : CE) (v : Value) (K : List Fld) (f b : Nat) (t u u2 : Tree) (w : World) (H : SC E w v K f) (hKo : KOk E.x K) (N : Nd E b t) (hu : t.kids[0]? = some u) (hu2 : t.kids[1]? = some u2) (ih : XH E u) (ih2 : XH E u2) :
    Calls Tryz.prog 208 #[.pointer (some ⟨E.sb, 0, none⟩), .agg #[.pointer (some ⟨b, 0, none⟩)]] w (XQ E w ((exprC E.x K u).bind fun a => (exprC E.x K u2).bind fun b => bothC t.pos a b)) := by
  have B0 := Lib.hid (b1 w (.cells #[.pointer (some ⟨b, 0, none⟩)] 25))
  have H0 := Lib.hid (H.below (b1 w (.cells #[.pointer (some ⟨b, 0, none⟩)] 25)))
  have U0 := Lib.hid (PtrAt.new w (some ⟨b, 0, none⟩))
  have NN := Lib.hid N
  obtain ⟨r, hr⟩ : ∃ r, exprC E.x K u = r := ⟨_, rfl⟩
  obtain ⟨r2, hr2⟩ : ∃ r, exprC E.x K u2 = r := ⟨_, rfl⟩
  have HR := Lib.hid hr
  have HR2 := Lib.hid hr2
  have IH := Lib.hid ih
  have IH2 := Lib.hid ih2
  have HKO := Lib.hid hKo
  obtain ⟨nb, hn, hk⟩ := ckid_at N H0.out.B 0 u hu
  obtain ⟨nb2, hn2, hk2⟩ := ckid_at N H0.out.B 1 u2 hu2
  have N1 := Lib.hid hn
  have N2 := Lib.hid hn2
  have HKD := Lib.hid hk
  have HKD2 := Lib.hid hk2
  rw [hr, hr2]
  clear H N hr hr2 ih ih2 hKo hn hn2 hk hk2 hu hu2
  go_enter Tryz.func208, Tryz.ntmps208
  go_wp2_with fail
  generalize w.alloc (.cells #[.pointer (some ⟨b, 0, none⟩)] 25) = wa at *
  have u0 := U0.out.c0
  have ul := U0.out.lt
  have sl := H0.out.lt
  have c0 := H0.out.c0
  have c1 := H0.out.c1
  have c2 := H0.out.c2
  refine rgS (fun w' => Below wa.heap.size wa w' ∧ w'.cell? ⟨w.heap.size, 0, none⟩ = some (.pointer (some ⟨b, 0, none⟩))) (by kernel_rfl) (⟨(Below.refl _ _).drew, u0⟩) (by repeat first | exact putOkB | apply putOkT) fun hHeld hq => ?_
  refine tkS 0 { dst := some 7, op := .move (.tmp 0), type := 185, pos := "expr.go:143", after := #[], guard := none } (v := ?v1_0) hq hHeld rfl (by kernel_rfl) ?y1_0 ?_
  case y1_0 => (intro w h; try dsimp only at h); go_simp <;> with_reducible rfl
  try simp only [Act.put, List.setIfInBounds_toArray, List.set_cons_zero, List.set_cons_succ]
  refine tkS 1 { dst := some 8, op := .load 25 (.tmp 3), type := 25, pos := "expr.go:143", after := #[], guard := none } (v := ?v1_1) hq hHeld rfl (by kernel_rfl) ?y1_1 ?_
  case y1_1 => (intro w h; try dsimp only at h); go_simp <;> with_reducible rfl
  try simp only [Act.put, List.setIfInBounds_toArray, List.set_cons_zero, List.set_cons_succ]
  refine tkS 4 { dst := some 11, op := .move (.tmp 0), type := 185, pos := "expr.go:143", after := #[], guard := none } (v := ?v1_4) hq hHeld rfl (by kernel_rfl) ?y1_4 ?_
  case y1_4 => (intro w h; try dsimp only at h); go_simp <;> with_reducible rfl
  try simp only [Act.put, List.setIfInBounds_toArray, List.set_cons_zero, List.set_cons_succ]
  refine tkS 5 { dst := some 12, op := .load 25 (.tmp 3), type := 25, pos := "expr.go:143", after := #[], guard := none } (v := ?v1_5) hq hHeld rfl (by kernel_rfl) ?y1_5 ?_
  case y1_5 => (intro w h; try dsimp only at h); go_simp <;> with_reducible rfl
  try simp only [Act.put, List.setIfInBounds_toArray, List.set_cons_zero, List.set_cons_succ]
  refine clS 2 { dst := some 9, op := .call { callee := .value (.func 29), args := #[.tmp 8, .const (.int .i64 0)], argTypes := #[25, 3] }, type := 25, pos := "expr.go:143", after := #[{ on := 1, ground := .data }], guard := none } rfl (by kernel_rfl) (by kernel_rfl) fun Kc hK => ?_
  go_simp
  refine (kid0_of 0 _ _ (HKD.out _ hHeld.1) 0 rfl).mono ?_
  rintro e w1 ⟨rfl, hb⟩
  refine hK.out _ _ ⟨hHeld.1.trans (hb.mono hHeld.1.size), keepC hHeld.1 hHeld.2 ul hb⟩ fun hHeld => ?_
  clear hb
  clear hK Kc
  try simp only [Act.put, List.setIfInBounds_toArray, List.set_cons_zero, List.set_cons_succ]
  refine clS 3 { dst := some 10, op := .call { callee := .value (.func 187), args := #[.tmp 7, .tmp 9], argTypes := #[185, 25] }, type := 9, pos := "expr.go:143", after := #[{ on := 0, ground := .data }, { on := 2, ground := .data }, { on := 2, ground := .chain }], guard := none } rfl (by kernel_rfl) (by kernel_rfl) fun Kc hK => ?_
  go_simp
  refine (IH.out _ v K f _ (H0.out.below hHeld.1) HKO.out N1.out).mono ?_
  rw [HR.out]
  rintro e w1 ⟨hb, he⟩
  cases r with
  | bad p er => obtain rfl := he; exact ⟨rfl, onB B0.out hHeld.1 hb, rfl⟩
  | ok a1 =>
  obtain rfl := he
  refine hK.out _ _ ⟨hHeld.1.trans (hb.mono hHeld.1.size), keepC hHeld.1 hHeld.2 ul hb⟩ fun hHeld => ?_
  clear hb
  clear hK Kc
  try simp only [Act.put, List.setIfInBounds_toArray, List.set_cons_zero, List.set_cons_succ]
  refine clS 6 { dst := some 13, op := .call { callee := .value (.func 29), args := #[.tmp 12, .const (.int .i64 1)], argTypes := #[25, 3] }, type := 25, pos := "expr.go:143", after := #[{ on := 5, ground := .data }, { on := 3, ground := .chain }], guard := none } rfl (by kernel_rfl) (by kernel_rfl) fun Kc hK => ?_
  go_simp
  refine (kid0_of 1 _ _ (HKD2.out _ hHeld.1) 1 rfl).mono ?_
  rintro e w1 ⟨rfl, hb⟩
  refine hK.out _ _ ⟨hHeld.1.trans (hb.mono hHeld.1.size), keepC hHeld.1 hHeld.2 ul hb⟩ fun hHeld => ?_
  clear hb
  clear hK Kc
  try simp only [Act.put, List.setIfInBounds_toArray, List.set_cons_zero, List.set_cons_succ]
  refine clS 7 { dst := some 14, op := .call { callee := .value (.func 187), args := #[.tmp 11, .tmp 13], argTypes := #[185, 25] }, type := 9, pos := "expr.go:143", after := #[{ on := 4, ground := .data }, { on := 6, ground := .data }, { on := 6, ground := .chain }], guard := none } rfl (by kernel_rfl) (by kernel_rfl) fun Kc hK => ?_
  go_simp
  refine (IH2.out _ v K f _ (H0.out.below hHeld.1) HKO.out N2.out).mono ?_
  rw [HR2.out]
  rintro e w1 ⟨hb, he⟩
  cases r2 with
  | bad p er => obtain rfl := he; exact ⟨rfl, onB B0.out hHeld.1 hb, rfl⟩
  | ok a2 =>
  obtain rfl := he
  refine hK.out _ _ ⟨hHeld.1.trans (hb.mono hHeld.1.size), keepC hHeld.1 hHeld.2 ul hb⟩ fun hHeld => ?_
  clear hb
  clear hK Kc
  try simp only [Act.put, List.setIfInBounds_toArray, List.set_cons_zero, List.set_cons_succ]
  refine tkS 8 { dst := some 5, op := .assign (.tmp 10), type := 9, pos := "expr.go:143", after := #[{ on := 3, ground := .data }, { on := 7, ground := .chain }, { on := 0, ground := .phase }, { on := 1, ground := .phase }, { on := 2, ground := .phase }, { on := 3, ground := .phase }, { on := 4, ground := .textOnly .lateStores }, { on := 5, ground := .textOnly .lateStores }, { on := 6, ground := .textOnly .lateStoresUnsure }, { on := 7, ground := .textOnly .lateStoresUnsure }], guard := none } (v := ?v1_8) hq hHeld rfl (by kernel_rfl) ?y1_8 ?_
  case y1_8 => (intro w h; try dsimp only at h); go_simp <;> with_reducible rfl
  try simp only [Act.put, List.setIfInBounds_toArray, List.set_cons_zero, List.set_cons_succ]
  refine tkS 9 { dst := some 6, op := .assign (.tmp 14), type := 9, pos := "expr.go:143", after := #[{ on := 7, ground := .data }, { on := 8, ground := .chain }, { on := 0, ground := .phase }, { on := 1, ground := .phase }, { on := 2, ground := .phase }, { on := 3, ground := .phase }, { on := 4, ground := .phase }, { on := 5, ground := .phase }, { on := 6, ground := .phase }, { on := 7, ground := .phase }, { on := 8, ground := .phase }], guard := none } (v := ?v1_9) hq hHeld rfl (by kernel_rfl) ?y1_9 ?_
  case y1_9 => (intro w h; try dsimp only at h); go_simp <;> with_reducible rfl
  try simp only [Act.put, List.setIfInBounds_toArray, List.set_cons_zero, List.set_cons_succ]
  refine wpAnyH_done (by kernel_rfl) ?_ _
  obtain ⟨d1, hd1⟩ : ∃ d, (a1.toList == [98, 111, 111, 108]) = d := ⟨_, rfl⟩
  have Hd1 : Hid (eqB a1 tBool = d1) := eqB_of hd1
  obtain ⟨d2, hd2⟩ : ∃ d, (a2.toList == [98, 111, 111, 108]) = d := ⟨_, rfl⟩
  have Hd2 : Hid (eqB a2 tBool = d2) := eqB_of hd2
  have HQ : Hid (bothC t.pos a1 a2 = nd t.pos (d1 && d2) 7 (.ok tBool)) := by show _ = _; unfold bothC; rw [Hd1.out, Hd2.out]
  have u0 := hHeld.2
  have hh := Lib.hid hHeld.1
  clear hHeld
  have HT : Hid (∀ w6, Below w1.heap.size w1 w6 → XQ E w (bothC t.pos a1 a2) (if d1 && d2 then .returned (.string tBool) else cfE (E.pl t.pos) 7) w6) := fun w6 hb => ⟨onB B0.out hh.out hb, by rw [HQ.out]; cases d1 <;> cases d2 <;> rfl⟩
  cases d1 with
  | false =>
    go_wp2_with fail
    refine (cneed_at NN.out H0.out.B false 7 _ hh.out).mono ?_
    rintro e w6 ⟨hb, rfl⟩
    exact ⟨rfl, HT.out _ hb⟩
  | true =>
    go_wp2_with fail
    refine (cneed_at NN.out H0.out.B d2 7 _ hh.out).mono ?_
    rintro e w6 ⟨hb, he⟩
    cases d2 with
    | false => obtain rfl := he; exact ⟨rfl, HT.out _ hb⟩
    | true =>
      obtain rfl := he
      go_wp2_with fail
      go_ret
      exact HT.out _ hb

set_option maxRecDepth 100000 in
set_option maxHeartbeats 400000 in
theorem cbinary_any (E : CE) (v : Value) (K : List Fld) (f b : Nat) (t u u2 : Tree) (w : World) (H : SC E w v K f) (hKo : KOk E.x K) (N : Nd E b t) (hu : t.kids[0]? = some u) (hu2 : t.kids[1]? = some u2) (ih : XH E u) (ih2 : XH E u2) :
    Calls Tryz.prog 207 #[.pointer (some ⟨E.sb, 0, none⟩), .agg #[.pointer (some ⟨b, 0, none⟩)]] w (XQ E w ((exprC E.x K u).bind fun a => (exprC E.x K u2).bind fun b => binC t.pos t.n a b)) := by
  have B0 := Lib.hid (b1 w (.cells #[.pointer (some ⟨b, 0, none⟩)] 25))
  have H0 := Lib.hid (H.below (b1 w (.cells #[.pointer (some ⟨b, 0, none⟩)] 25)))
  have U0 := Lib.hid (PtrAt.new w (some ⟨b, 0, none⟩))
  have NN := Lib.hid N
  obtain ⟨r, hr⟩ : ∃ r, exprC E.x K u = r := ⟨_, rfl⟩
  obtain ⟨r2, hr2⟩ : ∃ r, exprC E.x K u2 = r := ⟨_, rfl⟩
  have HR := Lib.hid hr
  have HR2 := Lib.hid hr2
  have IH := Lib.hid ih
  have IH2 := Lib.hid ih2
  have HKO := Lib.hid hKo
  obtain ⟨nb, hn, hk⟩ := ckid_at N H0.out.B 0 u hu
  obtain ⟨nb2, hn2, hk2⟩ := ckid_at N H0.out.B 1 u2 hu2
  have N1 := Lib.hid hn
  have N2 := Lib.hid hn2
  have HKD := Lib.hid hk
  have HKD2 := Lib.hid hk2
  rw [hr, hr2]
  clear H N hr hr2 ih ih2 hKo hn hn2 hk hk2 hu hu2
  go_enter Tryz.func207, Tryz.ntmps207
  go_wp2_with fail
  generalize w.alloc (.cells #[.pointer (some ⟨b, 0, none⟩)] 25) = wa at *
  have u0 := U0.out.c0
  have ul := U0.out.lt
  have sl := H0.out.lt
  have c0 := H0.out.c0
  have c1 := H0.out.c1
  have c2 := H0.out.c2
  refine rgS (fun w' => Below wa.heap.size wa w' ∧ w'.cell? ⟨w.heap.size, 0, none⟩ = some (.pointer (some ⟨b, 0, none⟩))) (by kernel_rfl) (⟨(Below.refl _ _).drew, u0⟩) (by repeat first | exact putOkB | apply putOkT) fun hHeld hq => ?_
  refine tkS 0 { dst := some 9, op := .move (.tmp 0), type := 185, pos := "expr.go:123", after := #[], guard := none } (v := ?v2_0) hq hHeld rfl (by kernel_rfl) ?y2_0 ?_
  case y2_0 => (intro w h; try dsimp only at h); go_simp <;> with_reducible rfl
  try simp only [Act.put, List.setIfInBounds_toArray, List.set_cons_zero, List.set_cons_succ]
  refine tkS 1 { dst := some 10, op := .load 25 (.tmp 3), type := 25, pos := "expr.go:123", after := #[], guard := none } (v := ?v2_1) hq hHeld rfl (by kernel_rfl) ?y2_1 ?_
  case y2_1 => (intro w h; try dsimp only at h); go_simp <;> with_reducible rfl
  try simp only [Act.put, List.setIfInBounds_toArray, List.set_cons_zero, List.set_cons_succ]
  refine tkS 4 { dst := some 13, op := .move (.tmp 0), type := 185, pos := "expr.go:123", after := #[], guard := none } (v := ?v2_4) hq hHeld rfl (by kernel_rfl) ?y2_4 ?_
  case y2_4 => (intro w h; try dsimp only at h); go_simp <;> with_reducible rfl
  try simp only [Act.put, List.setIfInBounds_toArray, List.set_cons_zero, List.set_cons_succ]
  refine tkS 5 { dst := some 14, op := .load 25 (.tmp 3), type := 25, pos := "expr.go:123", after := #[], guard := none } (v := ?v2_5) hq hHeld rfl (by kernel_rfl) ?y2_5 ?_
  case y2_5 => (intro w h; try dsimp only at h); go_simp <;> with_reducible rfl
  try simp only [Act.put, List.setIfInBounds_toArray, List.set_cons_zero, List.set_cons_succ]
  refine clS 2 { dst := some 11, op := .call { callee := .value (.func 29), args := #[.tmp 10, .const (.int .i64 0)], argTypes := #[25, 3] }, type := 25, pos := "expr.go:123", after := #[{ on := 1, ground := .data }], guard := none } rfl (by kernel_rfl) (by kernel_rfl) fun Kc hK => ?_
  go_simp
  refine (kid0_of 0 _ _ (HKD.out _ hHeld.1) 0 rfl).mono ?_
  rintro e w1 ⟨rfl, hb⟩
  refine hK.out _ _ ⟨hHeld.1.trans (hb.mono hHeld.1.size), keepC hHeld.1 hHeld.2 ul hb⟩ fun hHeld => ?_
  clear hb
  clear hK Kc
  try simp only [Act.put, List.setIfInBounds_toArray, List.set_cons_zero, List.set_cons_succ]
  refine clS 3 { dst := some 12, op := .call { callee := .value (.func 187), args := #[.tmp 9, .tmp 11], argTypes := #[185, 25] }, type := 9, pos := "expr.go:123", after := #[{ on := 0, ground := .data }, { on := 2, ground := .data }, { on := 2, ground := .chain }], guard := none } rfl (by kernel_rfl) (by kernel_rfl) fun Kc hK => ?_
  go_simp
  refine (IH.out _ v K f _ (H0.out.below hHeld.1) HKO.out N1.out).mono ?_
  rw [HR.out]
  rintro e w1 ⟨hb, he⟩
  cases r with
  | bad p er => obtain rfl := he; exact ⟨rfl, onB B0.out hHeld.1 hb, rfl⟩
  | ok a1 =>
  obtain rfl := he
  refine hK.out _ _ ⟨hHeld.1.trans (hb.mono hHeld.1.size), keepC hHeld.1 hHeld.2 ul hb⟩ fun hHeld => ?_
  clear hb
  clear hK Kc
  try simp only [Act.put, List.setIfInBounds_toArray, List.set_cons_zero, List.set_cons_succ]
  refine clS 6 { dst := some 15, op := .call { callee := .value (.func 29), args := #[.tmp 14, .const (.int .i64 1)], argTypes := #[25, 3] }, type := 25, pos := "expr.go:123", after := #[{ on := 5, ground := .data }, { on := 3, ground := .chain }], guard := none } rfl (by kernel_rfl) (by kernel_rfl) fun Kc hK => ?_
  go_simp
  refine (kid0_of 1 _ _ (HKD2.out _ hHeld.1) 1 rfl).mono ?_
  rintro e w1 ⟨rfl, hb⟩
  refine hK.out _ _ ⟨hHeld.1.trans (hb.mono hHeld.1.size), keepC hHeld.1 hHeld.2 ul hb⟩ fun hHeld => ?_
  clear hb
  clear hK Kc
  try simp only [Act.put, List.setIfInBounds_toArray, List.set_cons_zero, List.set_cons_succ]
  refine clS 7 { dst := some 16, op := .call { callee := .value (.func 187), args := #[.tmp 13, .tmp 15], argTypes := #[185, 25] }, type := 9, pos := "expr.go:123", after := #[{ on := 4, ground := .data }, { on := 6, ground := .data }, { on := 6, ground := .chain }], guard := none } rfl (by kernel_rfl) (by kernel_rfl) fun Kc hK => ?_
  go_simp
  refine (IH2.out _ v K f _ (H0.out.below hHeld.1) HKO.out N2.out).mono ?_
  rw [HR2.out]
  rintro e w1 ⟨hb, he⟩
  cases r2 with
  | bad p er => obtain rfl := he; exact ⟨rfl, onB B0.out hHeld.1 hb, rfl⟩
  | ok a2 =>
  obtain rfl := he
  refine hK.out _ _ ⟨hHeld.1.trans (hb.mono hHeld.1.size), keepC hHeld.1 hHeld.2 ul hb⟩ fun hHeld => ?_
  clear hb
  clear hK Kc
  try simp only [Act.put, List.setIfInBounds_toArray, List.set_cons_zero, List.set_cons_succ]
  refine tkS 8 { dst := some 5, op := .assign (.tmp 12), type := 9, pos := "expr.go:123", after := #[{ on := 3, ground := .data }, { on := 7, ground := .chain }, { on := 0, ground := .phase }, { on := 1, ground := .phase }, { on := 2, ground := .phase }, { on := 3, ground := .phase }, { on := 4, ground := .textOnly .lateStores }, { on := 5, ground := .textOnly .lateStores }, { on := 6, ground := .textOnly .lateStoresUnsure }, { on := 7, ground := .textOnly .lateStoresUnsure }], guard := none } (v := ?v2_8) hq hHeld rfl (by kernel_rfl) ?y2_8 ?_
  case y2_8 => (intro w h; try dsimp only at h); go_simp <;> with_reducible rfl
  try simp only [Act.put, List.setIfInBounds_toArray, List.set_cons_zero, List.set_cons_succ]
  refine tkS 9 { dst := some 6, op := .assign (.tmp 16), type := 9, pos := "expr.go:123", after := #[{ on := 7, ground := .data }, { on := 8, ground := .chain }, { on := 0, ground := .phase }, { on := 1, ground := .phase }, { on := 2, ground := .phase }, { on := 3, ground := .phase }, { on := 4, ground := .phase }, { on := 5, ground := .phase }, { on := 6, ground := .phase }, { on := 7, ground := .phase }, { on := 8, ground := .phase }], guard := none } (v := ?v2_9) hq hHeld rfl (by kernel_rfl) ?y2_9 ?_
  case y2_9 => (intro w h; try dsimp only at h); go_simp <;> with_reducible rfl
  try simp only [Act.put, List.setIfInBounds_toArray, List.set_cons_zero, List.set_cons_succ]
  refine wpAnyH_done (by kernel_rfl) ?_ _
  obtain ⟨d1, hd1⟩ : ∃ d, (a1.toList == [105, 110, 116]) = d := ⟨_, rfl⟩
  have Hd1 : Hid (eqB a1 tInt = d1) := eqB_of hd1
  obtain ⟨d2, hd2⟩ : ∃ d, (a2.toList == [105, 110, 116]) = d := ⟨_, rfl⟩
  have Hd2 : Hid (eqB a2 tInt = d2) := eqB_of hd2
  obtain ⟨e1, he1⟩ : ∃ d, (t.n == 11) = d := ⟨_, rfl⟩
  obtain ⟨e2, he2⟩ : ∃ d, (t.n == 12) = d := ⟨_, rfl⟩
  obtain ⟨m, hm⟩ : ∃ d, eqMay a1 a2 = d := ⟨_, rfl⟩
  have HMM := Lib.hid hm
  have HO : Hid (binOk t.n a1 a2 = (d1 && d2 || (e1 || e2) && m)) := by show _ = _; unfold binOk; rw [Hd1.out, Hd2.out, he1, he2, hm]
  have u0 := hHeld.2
  have hh := Lib.hid hHeld.1
  clear hHeld hm
  go_upto_region 2 with fail
  go_cut [7] from 9 (fun s wc => s = .bool (d1 && d2) ∧ wc = w1)
  case first =>
    cases d1 <;> cases d2 <;> (go_wp2_with fail; go_meet; case rel => exact ⟨rfl, rfl⟩)
  case rest =>
  obtain ⟨rfl, rfl⟩ := hcut
  generalize (d1 && d2) = A at *
  clear hd1 hd2 Hd1 Hd2
  go_upto_region 3 with fail
  go_cut [8] from 9 (fun s wd => s = .bool (e1 || e2) ∧ Below wa.heap.size wa wd ∧ wd.cell? ⟨w.heap.size, 0, none⟩ = some (.pointer (some ⟨b, 0, none⟩)))
  case first =>
    go_wp2_with fail
    refine (cn_at NN.out H0.out.B _ hh.out).mono ?_
    rintro e w3 ⟨rfl, hb⟩
    have u0 := keepC hh.out u0 ul hb
    have hh := Lib.hid (hh.out.trans (hb.mono hh.out.size))
    clear hb
    cases e1 with
    | true =>
      go_wp2_with fail
      go_meet
      case rel => exact ⟨rfl, hh.out, u0⟩
    | false =>
      go_wp2_with fail
      refine (cn_at NN.out H0.out.B _ hh.out).mono ?_
      rintro e w4 ⟨rfl, hb⟩
      have u0 := keepC hh.out u0 ul hb
      have hh := Lib.hid (hh.out.trans (hb.mono hh.out.size))
      clear hb
      cases e2 <;> (go_wp2_with fail; go_meet; case rel => exact ⟨rfl, hh.out, u0⟩)
  case rest =>
  obtain ⟨rfl, hh, u0⟩ := hcut
  have hh := Lib.hid hh
  generalize (e1 || e2) = Q at *
  clear he1 he2
  go_upto_region 4 with fail
  go_cut [] from 9 (fun we => Below wa.heap.size wa we ∧ we.cell? ⟨w.heap.size, 0, none⟩ = some (.pointer (some ⟨b, 0, none⟩)) ∧ Hid (binOk t.n a1 a2 = true))
  case first =>
    cases A with
    | true =>
      refine rgS (fun w' => Below wa.heap.size wa w' ∧ w'.cell? ⟨w.heap.size, 0, none⟩ = some (.pointer (some ⟨b, 0, none⟩))) (by kernel_rfl) (⟨hh.out.drew, u0⟩) (by repeat first | exact putOkB | apply putOkT) fun hHeld hq => ?_
      refine tkS 0 { dst := some 31, op := .load 25 (.tmp 3), type := 25, pos := "expr.go:126", after := #[], guard := none } (v := ?v3_0) hq hHeld rfl (by kernel_rfl) ?y3_0 ?_
      case y3_0 => (intro w h; try dsimp only at h); go_simp <;> with_reducible rfl
      try simp only [Act.put, List.setIfInBounds_toArray, List.set_cons_zero, List.set_cons_succ]
      refine tkS 1 { dst := some 32, op := .move (.tmp 7), type := 4, pos := "expr.go:126", after := #[], guard := none } (v := ?v3_1) hq hHeld rfl (by kernel_rfl) ?y3_1 ?_
      case y3_1 => (intro w h; try dsimp only at h); go_simp <;> with_reducible rfl
      try simp only [Act.put, List.setIfInBounds_toArray, List.set_cons_zero, List.set_cons_succ]
      refine tkS 2 { dst := some 33, op := .move (.tmp 32), type := 4, pos := "expr.go:126", after := #[{ on := 1, ground := .data }], guard := none } (v := ?v3_2) hq hHeld rfl (by kernel_rfl) ?y3_2 ?_
      case y3_2 => (intro w h; try dsimp only at h); go_simp <;> with_reducible rfl
      try simp only [Act.put, List.setIfInBounds_toArray, List.set_cons_zero, List.set_cons_succ]
      refine skS 3 { dst := some 34, op := .move (.tmp 8), type := 4, pos := "expr.go:126", after := #[{ on := 2, ground := .guard }], guard := some (2, false) } hq hHeld rfl (by kernel_rfl) ?_
      try simp only [Act.put, List.setIfInBounds_toArray, List.set_cons_zero, List.set_cons_succ]
      refine skS 4 { dst := some 35, op := .move (.tmp 34), type := 4, pos := "expr.go:126", after := #[{ on := 3, ground := .data }, { on := 2, ground := .chain }, { on := 2, ground := .guard }], guard := some (2, false) } hq hHeld rfl (by kernel_rfl) ?_
      try simp only [Act.put, List.setIfInBounds_toArray, List.set_cons_zero, List.set_cons_succ]
      refine skS 5 { dst := some 36, op := .move (.tmp 5), type := 9, pos := "expr.go:126", after := #[{ on := 4, ground := .guard }], guard := some (4, true) } hq hHeld rfl (by kernel_rfl) ?_
      try simp only [Act.put, List.setIfInBounds_toArray, List.set_cons_zero, List.set_cons_succ]
      refine skS 6 { dst := some 37, op := .move (.tmp 6), type := 9, pos := "expr.go:126", after := #[{ on := 4, ground := .guard }], guard := some (4, true) } hq hHeld rfl (by kernel_rfl) ?_
      try simp only [Act.put, List.setIfInBounds_toArray, List.set_cons_zero, List.set_cons_succ]
      refine skS 7 { dst := some 38, op := .call { callee := .value (.func 231), args := #[.tmp 36, .tmp 37], argTypes := #[9, 9] }, type := 4, pos := "expr.go:126", after := #[{ on := 5, ground := .data }, { on := 6, ground := .data }, { on := 4, ground := .chain }, { on := 4, ground := .guard }], guard := some (4, true) } hq hHeld rfl (by kernel_rfl) ?_
      try simp only [Act.put, List.setIfInBounds_toArray, List.set_cons_zero, List.set_cons_succ]
      refine skS 8 { dst := some 39, op := .pick (.tmp 35) (.tmp 38) (.const (.bool false)), type := 4, pos := "expr.go:126", after := #[{ on := 4, ground := .data }, { on := 7, ground := .data }, { on := 2, ground := .guard }], guard := some (2, false) } hq hHeld rfl (by kernel_rfl) ?_
      try simp only [Act.put, List.setIfInBounds_toArray, List.set_cons_zero, List.set_cons_succ]
      refine tkS 9 { dst := some 40, op := .pick (.tmp 33) (.const (.bool true)) (.tmp 39), type := 4, pos := "expr.go:126", after := #[{ on := 2, ground := .data }, { on := 8, ground := .data }], guard := none } (v := ?v3_9) hq hHeld rfl (by kernel_rfl) ?y3_9 ?_
      case y3_9 => (intro w h; try dsimp only at h); go_simp <;> with_reducible rfl
      try simp only [Act.put, List.setIfInBounds_toArray, List.set_cons_zero, List.set_cons_succ]
      refine clS 10 { dst := some 41, op := .call { callee := .value (.func 148), args := #[.tmp 31, .tmp 40, .const (.int .i64 7)], argTypes := #[25, 4, 26] }, type := 0, pos := "expr.go:126", after := #[{ on := 0, ground := .data }, { on := 9, ground := .data }, { on := 7, ground := .chain }], guard := none } rfl (by kernel_rfl) (by kernel_rfl) fun Kc hK => ?_
      go_simp
      refine (cneed_at NN.out H0.out.B true 7 _ hHeld.1).mono ?_
      rintro e w1 ⟨hb, rfl⟩
      refine hK.out _ _ ⟨hHeld.1.trans (hb.mono hHeld.1.size), keepC hHeld.1 hHeld.2 ul hb⟩ fun hHeld => ?_
      clear hb
      clear hK Kc
      try simp only [Act.put, List.setIfInBounds_toArray, List.set_cons_zero, List.set_cons_succ]
      refine wpAnyH_done (by kernel_rfl) ?_ _
      go_wp2_with fail
      go_meet
      case rel => exact ⟨hHeld.1, hHeld.2, HO.out⟩
    | false =>
      cases Q with
      | true =>
        refine rgS (fun w' => Below wa.heap.size wa w' ∧ w'.cell? ⟨w.heap.size, 0, none⟩ = some (.pointer (some ⟨b, 0, none⟩))) (by kernel_rfl) (⟨hh.out.drew, u0⟩) (by repeat first | exact putOkB | apply putOkT) fun hHeld hq => ?_
        refine tkS 0 { dst := some 31, op := .load 25 (.tmp 3), type := 25, pos := "expr.go:126", after := #[], guard := none } (v := ?v4_0) hq hHeld rfl (by kernel_rfl) ?y4_0 ?_
        case y4_0 => (intro w h; try dsimp only at h); go_simp <;> with_reducible rfl
        try simp only [Act.put, List.setIfInBounds_toArray, List.set_cons_zero, List.set_cons_succ]
        refine tkS 1 { dst := some 32, op := .move (.tmp 7), type := 4, pos := "expr.go:126", after := #[], guard := none } (v := ?v4_1) hq hHeld rfl (by kernel_rfl) ?y4_1 ?_
        case y4_1 => (intro w h; try dsimp only at h); go_simp <;> with_reducible rfl
        try simp only [Act.put, List.setIfInBounds_toArray, List.set_cons_zero, List.set_cons_succ]
        refine tkS 2 { dst := some 33, op := .move (.tmp 32), type := 4, pos := "expr.go:126", after := #[{ on := 1, ground := .data }], guard := none } (v := ?v4_2) hq hHeld rfl (by kernel_rfl) ?y4_2 ?_
        case y4_2 => (intro w h; try dsimp only at h); go_simp <;> with_reducible rfl
        try simp only [Act.put, List.setIfInBounds_toArray, List.set_cons_zero, List.set_cons_succ]
        refine tkS 3 { dst := some 34, op := .move (.tmp 8), type := 4, pos := "expr.go:126", after := #[{ on := 2, ground := .guard }], guard := some (2, false) } (v := ?v4_3) hq hHeld rfl (by kernel_rfl) ?y4_3 ?_
        case y4_3 => (intro w h; try dsimp only at h); go_simp <;> with_reducible rfl
        try simp only [Act.put, List.setIfInBounds_toArray, List.set_cons_zero, List.set_cons_succ]
        refine tkS 4 { dst := some 35, op := .move (.tmp 34), type := 4, pos := "expr.go:126", after := #[{ on := 3, ground := .data }, { on := 2, ground := .chain }, { on := 2, ground := .guard }], guard := some (2, false) } (v := ?v4_4) hq hHeld rfl (by kernel_rfl) ?y4_4 ?_
        case y4_4 => (intro w h; try dsimp only at h); go_simp <;> with_reducible rfl
        try simp only [Act.put, List.setIfInBounds_toArray, List.set_cons_zero, List.set_cons_succ]
        refine tkS 5 { dst := some 36, op := .move (.tmp 5), type := 9, pos := "expr.go:126", after := #[{ on := 4, ground := .guard }], guard := some (4, true) } (v := ?v4_5) hq hHeld rfl (by kernel_rfl) ?y4_5 ?_
        case y4_5 => (intro w h; try dsimp only at h); go_simp <;> with_reducible rfl
        try simp only [Act.put, List.setIfInBounds_toArray, List.set_cons_zero, List.set_cons_succ]
        refine tkS 6 { dst := some 37, op := .move (.tmp 6), type := 9, pos := "expr.go:126", after := #[{ on := 4, ground := .guard }], guard := some (4, true) } (v := ?v4_6) hq hHeld rfl (by kernel_rfl) ?y4_6 ?_
        case y4_6 => (intro w h; try dsimp only at h); go_simp <;> with_reducible rfl
        try simp only [Act.put, List.setIfInBounds_toArray, List.set_cons_zero, List.set_cons_succ]
        refine clS 7 { dst := some 38, op := .call { callee := .value (.func 231), args := #[.tmp 36, .tmp 37], argTypes := #[9, 9] }, type := 4, pos := "expr.go:126", after := #[{ on := 5, ground := .data }, { on := 6, ground := .data }, { on := 4, ground := .chain }, { on := 4, ground := .guard }], guard := some (4, true) } rfl (by kernel_rfl) (by kernel_rfl) fun Kc hK => ?_
        go_simp
        refine (sameB (cmayEq_any a1 a2 m _ (Lib.hid (H0.out.below hHeld.1).imw.good.keys) HMM)).mono ?_
        rintro e w1 ⟨rfl, hb⟩
        refine hK.out _ _ ⟨hHeld.1.trans (hb.mono hHeld.1.size), keepC hHeld.1 hHeld.2 ul hb⟩ fun hHeld => ?_
        clear hb
        clear hK Kc
        try simp only [Act.put, List.setIfInBounds_toArray, List.set_cons_zero, List.set_cons_succ]
        refine tkS 8 { dst := some 39, op := .pick (.tmp 35) (.tmp 38) (.const (.bool false)), type := 4, pos := "expr.go:126", after := #[{ on := 4, ground := .data }, { on := 7, ground := .data }, { on := 2, ground := .guard }], guard := some (2, false) } (v := ?v4_8) hq hHeld rfl (by kernel_rfl) ?y4_8 ?_
        case y4_8 => (intro w h; try dsimp only at h); go_simp <;> with_reducible rfl
        try simp only [Act.put, List.setIfInBounds_toArray, List.set_cons_zero, List.set_cons_succ]
        refine tkS 9 { dst := some 40, op := .pick (.tmp 33) (.const (.bool true)) (.tmp 39), type := 4, pos := "expr.go:126", after := #[{ on := 2, ground := .data }, { on := 8, ground := .data }], guard := none } (v := ?v4_9) hq hHeld rfl (by kernel_rfl) ?y4_9 ?_
        case y4_9 => (intro w h; try dsimp only at h); go_simp <;> with_reducible rfl
        try simp only [Act.put, List.setIfInBounds_toArray, List.set_cons_zero, List.set_cons_succ]
        refine clS 10 { dst := some 41, op := .call { callee := .value (.func 148), args := #[.tmp 31, .tmp 40, .const (.int .i64 7)], argTypes := #[25, 4, 26] }, type := 0, pos := "expr.go:126", after := #[{ on := 0, ground := .data }, { on := 9, ground := .data }, { on := 7, ground := .chain }], guard := none } rfl (by kernel_rfl) (by kernel_rfl) fun Kc hK => ?_
        go_simp
        refine (cneed_at NN.out H0.out.B m 7 _ hHeld.1).mono ?_
        rintro e w1 ⟨hb, he⟩
        cases m with
        | false => obtain rfl := he; exact ⟨rfl, onB B0.out hHeld.1 hb, by simp only [CR.bind, binC, HO.out]; rfl⟩
        | true =>
        obtain rfl := he
        refine hK.out _ _ ⟨hHeld.1.trans (hb.mono hHeld.1.size), keepC hHeld.1 hHeld.2 ul hb⟩ fun hHeld => ?_
        clear hb
        clear hK Kc
        try simp only [Act.put, List.setIfInBounds_toArray, List.set_cons_zero, List.set_cons_succ]
        refine wpAnyH_done (by kernel_rfl) ?_ _
        go_wp2_with fail
        go_meet
        case rel => exact ⟨hHeld.1, hHeld.2, HO.out⟩
      | false =>
        refine rgS (fun w' => Below wa.heap.size wa w' ∧ w'.cell? ⟨w.heap.size, 0, none⟩ = some (.pointer (some ⟨b, 0, none⟩))) (by kernel_rfl) (⟨hh.out.drew, u0⟩) (by repeat first | exact putOkB | apply putOkT) fun hHeld hq => ?_
        refine tkS 0 { dst := some 31, op := .load 25 (.tmp 3), type := 25, pos := "expr.go:126", after := #[], guard := none } (v := ?v5_0) hq hHeld rfl (by kernel_rfl) ?y5_0 ?_
        case y5_0 => (intro w h; try dsimp only at h); go_simp <;> with_reducible rfl
        try simp only [Act.put, List.setIfInBounds_toArray, List.set_cons_zero, List.set_cons_succ]
        refine tkS 1 { dst := some 32, op := .move (.tmp 7), type := 4, pos := "expr.go:126", after := #[], guard := none } (v := ?v5_1) hq hHeld rfl (by kernel_rfl) ?y5_1 ?_
        case y5_1 => (intro w h; try dsimp only at h); go_simp <;> with_reducible rfl
        try simp only [Act.put, List.setIfInBounds_toArray, List.set_cons_zero, List.set_cons_succ]
        refine tkS 2 { dst := some 33, op := .move (.tmp 32), type := 4, pos := "expr.go:126", after := #[{ on := 1, ground := .data }], guard := none } (v := ?v5_2) hq hHeld rfl (by kernel_rfl) ?y5_2 ?_
        case y5_2 => (intro w h; try dsimp only at h); go_simp <;> with_reducible rfl
        try simp only [Act.put, List.setIfInBounds_toArray, List.set_cons_zero, List.set_cons_succ]
        refine tkS 3 { dst := some 34, op := .move (.tmp 8), type := 4, pos := "expr.go:126", after := #[{ on := 2, ground := .guard }], guard := some (2, false) } (v := ?v5_3) hq hHeld rfl (by kernel_rfl) ?y5_3 ?_
        case y5_3 => (intro w h; try dsimp only at h); go_simp <;> with_reducible rfl
        try simp only [Act.put, List.setIfInBounds_toArray, List.set_cons_zero, List.set_cons_succ]
        refine tkS 4 { dst := some 35, op := .move (.tmp 34), type := 4, pos := "expr.go:126", after := #[{ on := 3, ground := .data }, { on := 2, ground := .chain }, { on := 2, ground := .guard }], guard := some (2, false) } (v := ?v5_4) hq hHeld rfl (by kernel_rfl) ?y5_4 ?_
        case y5_4 => (intro w h; try dsimp only at h); go_simp <;> with_reducible rfl
        try simp only [Act.put, List.setIfInBounds_toArray, List.set_cons_zero, List.set_cons_succ]
        refine skS 5 { dst := some 36, op := .move (.tmp 5), type := 9, pos := "expr.go:126", after := #[{ on := 4, ground := .guard }], guard := some (4, true) } hq hHeld rfl (by kernel_rfl) ?_
        try simp only [Act.put, List.setIfInBounds_toArray, List.set_cons_zero, List.set_cons_succ]
        refine skS 6 { dst := some 37, op := .move (.tmp 6), type := 9, pos := "expr.go:126", after := #[{ on := 4, ground := .guard }], guard := some (4, true) } hq hHeld rfl (by kernel_rfl) ?_
        try simp only [Act.put, List.setIfInBounds_toArray, List.set_cons_zero, List.set_cons_succ]
        refine skS 7 { dst := some 38, op := .call { callee := .value (.func 231), args := #[.tmp 36, .tmp 37], argTypes := #[9, 9] }, type := 4, pos := "expr.go:126", after := #[{ on := 5, ground := .data }, { on := 6, ground := .data }, { on := 4, ground := .chain }, { on := 4, ground := .guard }], guard := some (4, true) } hq hHeld rfl (by kernel_rfl) ?_
        try simp only [Act.put, List.setIfInBounds_toArray, List.set_cons_zero, List.set_cons_succ]
        refine tkS 8 { dst := some 39, op := .pick (.tmp 35) (.tmp 38) (.const (.bool false)), type := 4, pos := "expr.go:126", after := #[{ on := 4, ground := .data }, { on := 7, ground := .data }, { on := 2, ground := .guard }], guard := some (2, false) } (v := ?v5_8) hq hHeld rfl (by kernel_rfl) ?y5_8 ?_
        case y5_8 => (intro w h; try dsimp only at h); go_simp <;> with_reducible rfl
        try simp only [Act.put, List.setIfInBounds_toArray, List.set_cons_zero, List.set_cons_succ]
        refine tkS 9 { dst := some 40, op := .pick (.tmp 33) (.const (.bool true)) (.tmp 39), type := 4, pos := "expr.go:126", after := #[{ on := 2, ground := .data }, { on := 8, ground := .data }], guard := none } (v := ?v5_9) hq hHeld rfl (by kernel_rfl) ?y5_9 ?_
        case y5_9 => (intro w h; try dsimp only at h); go_simp <;> with_reducible rfl
        try simp only [Act.put, List.setIfInBounds_toArray, List.set_cons_zero, List.set_cons_succ]
        refine clS 10 { dst := some 41, op := .call { callee := .value (.func 148), args := #[.tmp 31, .tmp 40, .const (.int .i64 7)], argTypes := #[25, 4, 26] }, type := 0, pos := "expr.go:126", after := #[{ on := 0, ground := .data }, { on := 9, ground := .data }, { on := 7, ground := .chain }], guard := none } rfl (by kernel_rfl) (by kernel_rfl) fun Kc hK => ?_
        go_simp
        refine (cneed_at NN.out H0.out.B false 7 _ hHeld.1).mono ?_
        rintro e w1 ⟨hb, rfl⟩
        exact ⟨rfl, onB B0.out hHeld.1 hb, by simp only [CR.bind, binC, HO.out]; rfl⟩
  case rest =>
  obtain ⟨hh, u0, HOK⟩ := hcut
  have hh := Lib.hid hh
  obtain ⟨lv, hlv⟩ : ∃ d, (levelV t.n == levelV 11) = d := ⟨_, rfl⟩
  have HT : Hid (binT t.n = if lv then tBool else tInt) := by show _ = _; unfold binT; rw [← hlv, show levelV 11 = 3 by decide]; simp
  go_wp2_with fail
  refine (cn_at NN.out H0.out.B _ hh.out).mono ?_
  rintro e w7 ⟨rfl, hb⟩
  have B7 := Lib.hid (onB B0.out hh.out hb)
  clear hb u0 hh
  cases lv <;> (go_wp2_with (go_at_call 232; refine (level_any _ _).mono ?_; rintro e w8 ⟨rfl, rfl⟩); go_ret; exact ⟨B7.out, by simp only [CR.bind, binC, nd, HOK.out, if_true, HT.out]; rfl⟩)

end Go.Proofs.YtkahbhfbgdbnfaaGreatDoor
