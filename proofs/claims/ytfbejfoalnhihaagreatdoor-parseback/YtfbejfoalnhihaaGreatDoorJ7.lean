/-
  CONTRACT: expr of the shower. Nobody but the shower's own blocks has turned.
-/
import Derived.Test.YtfbejfoalnhihaaGreatDoorJ6
namespace Go.Proofs.YtfbejfoalnhihaaGreatDoor
open Go.RowKit

set_option maxRecDepth 100000 in
set_option maxHeartbeats 1000000 in
theorem expr_21 (w : World) (sb : Nat) (v : Value) (xs : List Tx) (pl : Nat → Nat) (b : Nat) (t : Tree) (h : SH w sb v xs) (hn : NodeAt (fun x => x < sb) pl w b t) (hop : t.op = 21) (hE : Hid (∀ (k : Nat) (u : Tree), t.kids[k]? = some u → ShE sb pl u)) (hl : xs.length + (([t.name] ++ ([cLB] ++ commaF (t.kids.map showE) ++ [cRB]))).length + 1 ≤ 1000000) :
    Calls Tryz.prog 86 #[.pointer (some ⟨sb, 0, none⟩), .agg #[.pointer (some ⟨b, 0, none⟩)]] w (SQ sb v w (xs ++ ([t.name] ++ ([cLB] ++ commaF (t.kids.map showE) ++ [cRB])))) := by
  have H := Lib.hid h
  have hlt := h.lt
  have HBA := Lib.hid (b1 w (.cells #[.pointer (some ⟨b, 0, none⟩)] 25))
  have S0 := Lib.hid (SST.refl (h.below (b1 w (.cells #[.pointer (some ⟨b, 0, none⟩)] 25))))
  have U := Lib.hid (PtrAt.new w (some ⟨b, 0, none⟩))
  have N := Lib.hid (hn.bl (b1 w (.cells #[.pointer (some ⟨b, 0, none⟩)] 25)))
  have l0 := U.out.lt
  clear h hn
  have hfo := row_op
  have hfn := row_name
  clear hfo hfn
  go_enter Tryz.func86, Tryz.ntmps86
  have U0 := U.out.c0
  go_wp2_with fail
  clear U0
  generalize w.alloc (.cells #[.pointer (some ⟨b, 0, none⟩)] 25) = wa at *
  obtain ⟨Ao, co, hro⟩ := N.out.rowOf
  refine (op_of _ _ _ _ _ _ _ _ _ _ hro).mono ?_
  rintro e w1 ⟨rfl, hb⟩
  clear hro
  have U1 := Lib.hid (U.out.below hb)
  have N1 := Lib.hid (N.out.bl hb)
  have S1 := Lib.hid (S0.out.below hb)
  have z1 := hb.size
  clear U N
  have U := U1
  have N := N1
  clear U1 N1
  clear hb
  simp only [List.length_append, List.length_cons, List.length_nil] at hl
  have hcl := comma_len (t.kids.map showE)
  rw [List.length_map] at hcl
  have U0 := U.out.c0
  go_wp2_with fail
  clear U0
  obtain ⟨Ao, co, hro⟩ := N.out.rowOf
  refine (name_of _ _ _ _ _ _ _ _ _ _ hro).mono ?_
  rintro e w2 ⟨rfl, hb⟩
  clear hro
  have U2 := Lib.hid (U.out.below hb)
  have N2 := Lib.hid (N.out.bl hb)
  have S2 := Lib.hid (S1.out.below hb)
  have z2 := hb.size
  clear U N
  have U := U2
  have N := N2
  clear U2 N2
  clear hb
  have C3 := Lib.hid (show ∀ (j : Nat) (y : Tx), ([t.name] : List Tx)[j]? = some y → (w2.alloc (.cells #[.string ⟨t.name.toArray⟩] 9)).cell? ⟨w2.heap.size, j, none⟩ = some (.string ⟨y.toArray⟩) from lit_cells w2 [t.name])
  have U3 := Lib.hid (U.out.below (b1 w2 (.cells #[.string ⟨t.name.toArray⟩] 9)))
  have N3 := Lib.hid (N.out.bl (b1 w2 (.cells #[.string ⟨t.name.toArray⟩] 9)))
  have S3 := Lib.hid (S2.out.below (b1 w2 (.cells #[.string ⟨t.name.toArray⟩] 9)))
  have z3 := (b1 w2 (.cells #[.string ⟨t.name.toArray⟩] 9)).size
  clear U N
  have U := U3
  have N := N3
  clear U3 N3
  have U0 := U.out.c0
  go_wp2_with fail
  clear U0
  generalize w2.alloc (.cells #[.string ⟨t.name.toArray⟩] 9) = wb3 at *
  refine (add_any _ sb _ _ w2.heap.size 1 [t.name] S3.out.sh (Lib.hid rfl) C3 (by omega) (by first | omega | (simp only [List.length_append, List.length_cons, List.length_nil]; omega) | (simp only [List.length_append, List.length_cons, List.length_nil] at hl ⊢; omega))).mono ?_
  rintro e w4 ⟨v4, rfl, hs⟩
  clear C3
  have U4 := Lib.hid (U.out.sg hs.sg (by omega) (ub_ne S3.out H.out l0))
  have N4 := Lib.hid (N.out.low (hs.sg.low S3.out.sh))
  have S4 := Lib.hid (S3.out.trans hs)
  have z4 := hs.sg.size
  clear U N hs
  have U := U4
  have N := N4
  clear U4 N4
  have U0 := U.out.c0
  go_wp2_with fail
  have D0 : Hid (Below w4.heap.size w4 w4.drew) := (Below.refl _ _).drew
  obtain ⟨Ao, co, hro⟩ := (N.out.bl D0.out).rowOf
  have R0 := Lib.hid hro
  clear hro
  have HSH : Hid (Shows 86 sb pl t t.kids.length (t.kids.map showE)) := by
    intro k u ys hk hu hy w1 v1 xs1 nb h1 h2 h3
    rw [List.getElem?_map, hu] at hy
    obtain rfl := Option.some.inj hy
    exact hE.out k u hu w1 v1 xs1 nb h1 h2 h3
  go_region_with (first | (go_at_call 12; refine (kids_of _ _ _ _ _ _ _ _ _ _ R0.out).mono ?_; rintro e w12 ⟨rfl, hb12⟩; have c12 := ((U.out.below D0.out).below hb12).c0; have HB12 := Lib.hid hb12; clear hb12) | (go_at_call 83; refine (inBrackets_expr _ sb _ _ pl b t t.kids.length (t.kids.map showE) ((S4.out.below D0.out).below HB12.out).sh ((N.out.bl D0.out).bl HB12.out) (Lib.hid (List.length_map ..)) (Nat.le_refl _) HSH (by simp only [List.length_append, List.length_cons, List.length_nil]; omega)).mono ?_; rintro e w9 ⟨v9, rfl, hs⟩; have HS := Lib.hid hs; clear hs))
  all_goals
    have S9 := Lib.hid (((S4.out.below D0.out).below HB12.out).trans HS.out)
    go_wp2_with fail
    first | refine bodyPost_end (v := .tuple #[]) (by simp [results, Tryz.results86, go_sem]) rfl ?_ | refine bodyPost_ret (v := .tuple #[]) (by simp [results, Tryz.results86, go_sem]) rfl ?_
    have hfin := ((SST.refl H.out).below HBA.out).trans S9.out
    have hx : xs ++ ([t.name] ++ ([cLB] ++ commaF (t.kids.map showE) ++ [cRB])) = ((xs ++ [t.name]) ++ ([cLB] ++ commaF (t.kids.map showE) ++ [cRB])) := by simp [List.append_assoc]
    first | exact ⟨_, rfl, hfin.cast hx.symm⟩ | exact ⟨_, rfl, hfin.cast (by simp [List.append_assoc])⟩

set_option maxRecDepth 100000 in
set_option maxHeartbeats 1000000 in
theorem expr_24 (w : World) (sb : Nat) (v : Value) (xs : List Tx) (pl : Nat → Nat) (b : Nat) (t : Tree) (u0 u1 : Tree) (h : SH w sb v xs) (hn : NodeAt (fun x => x < sb) pl w b t) (hop : t.op = 24) (hu0 : Hid (t.kids[0]? = some u0)) (hu1 : Hid (t.kids[1]? = some u1)) (hE : Hid (∀ (k : Nat) (u : Tree), t.kids[k]? = some u → ShE sb pl u)) (hl : xs.length + (([cLB] ++ showE u0 ++ [signL t.n] ++ showE u1 ++ [cRB])).length + 1 ≤ 1000000) :
    Calls Tryz.prog 86 #[.pointer (some ⟨sb, 0, none⟩), .agg #[.pointer (some ⟨b, 0, none⟩)]] w (SQ sb v w (xs ++ ([cLB] ++ showE u0 ++ [signL t.n] ++ showE u1 ++ [cRB]))) := by
  have H := Lib.hid h
  have hlt := h.lt
  have HBA := Lib.hid (b1 w (.cells #[.pointer (some ⟨b, 0, none⟩)] 25))
  have S0 := Lib.hid (SST.refl (h.below (b1 w (.cells #[.pointer (some ⟨b, 0, none⟩)] 25))))
  have U := Lib.hid (PtrAt.new w (some ⟨b, 0, none⟩))
  have N := Lib.hid (hn.bl (b1 w (.cells #[.pointer (some ⟨b, 0, none⟩)] 25)))
  have l0 := U.out.lt
  clear h hn
  have hfo := row_op
  have hfn := row_name
  clear hfo hfn
  go_enter Tryz.func86, Tryz.ntmps86
  have U0 := U.out.c0
  go_wp2_with fail
  clear U0
  generalize w.alloc (.cells #[.pointer (some ⟨b, 0, none⟩)] 25) = wa at *
  obtain ⟨Ao, co, hro⟩ := N.out.rowOf
  refine (op_of _ _ _ _ _ _ _ _ _ _ hro).mono ?_
  rintro e w1 ⟨rfl, hb⟩
  clear hro
  have U1 := Lib.hid (U.out.below hb)
  have N1 := Lib.hid (N.out.bl hb)
  have S1 := Lib.hid (S0.out.below hb)
  have z1 := hb.size
  clear U N
  have U := U1
  have N := N1
  clear U1 N1
  clear hb
  simp only [List.length_append, List.length_cons, List.length_nil] at hl
  have U0 := U.out.c0
  go_wp2_with fail
  have D0 : Hid (Below w1.heap.size w1 w1.drew) := (Below.refl _ _).drew
  obtain ⟨Ao, co, hro⟩ := (N.out.bl D0.out).rowOf
  have R0 := Lib.hid hro
  clear hro
  go_region_with (first | (go_at_call 23; refine (n_of _ _ _ _ _ _ _ _ _ _ R0.out).mono ?_; rintro e w12 ⟨rfl, hb12⟩; have c12 := ((U.out.below D0.out).below hb12).c0; have HB12 := Lib.hid hb12; clear hb12) | (go_at_call 109; refine (sign_txt t.n _ ((S1.out.below D0.out).below HB12.out).sh.good.signs).mono ?_; rintro e w13 ⟨rfl, rfl⟩) | (go_at_call 110; refine (pair_shown _ sb _ _ pl b t (signL t.n) u0 u1 ((S1.out.below D0.out).below HB12.out).sh ((N.out.bl D0.out).bl HB12.out) hu0 hu1 hE (by simp only [List.length_append, List.length_cons, List.length_nil]; omega)).mono ?_; rintro e w9 ⟨v9, rfl, hs⟩; have HS := Lib.hid hs; clear hs))
  all_goals
    have S9 := Lib.hid (((S1.out.below D0.out).below HB12.out).trans HS.out)
    go_wp2_with fail
    first | refine bodyPost_end (v := .tuple #[]) (by simp [results, Tryz.results86, go_sem]) rfl ?_ | refine bodyPost_ret (v := .tuple #[]) (by simp [results, Tryz.results86, go_sem]) rfl ?_
    have hfin := ((SST.refl H.out).below HBA.out).trans S9.out
    have hx : xs ++ ([cLB] ++ showE u0 ++ [signL t.n] ++ showE u1 ++ [cRB]) = (xs ++ ([cLB] ++ showE u0 ++ [signL t.n] ++ showE u1 ++ [cRB])) := by simp [List.append_assoc]
    first | exact ⟨_, rfl, hfin.cast hx.symm⟩ | exact ⟨_, rfl, hfin.cast (by simp [List.append_assoc])⟩

set_option maxRecDepth 100000 in
set_option maxHeartbeats 400000 in
theorem expr_zero (w : World) (sb : Nat) (v : Value) (xs : List Tx) (h : SH w sb v xs) :
    Calls Tryz.prog 86 #[.pointer (some ⟨sb, 0, none⟩), .agg #[.pointer none]] w (SQ sb v w xs) := by
  have H := Lib.hid h
  have HBA := Lib.hid (b1 w (.cells #[.pointer none] 25))
  have S0 := Lib.hid (SST.refl (h.below (b1 w (.cells #[.pointer none] 25))))
  have U := Lib.hid (PtrAt.new w none)
  have l0 := U.out.lt
  clear h
  go_enter Tryz.func86, Tryz.ntmps86
  have U0 := U.out.c0
  go_wp2_with fail
  clear U0
  generalize w.alloc (.cells #[.pointer none] 25) = wa at *
  refine (op_of _ _ _ _ _ _ _ _ _ _ (show RowOf wa none 0 ⟨#[]⟩ ⟨#[]⟩ 0 0 none 0 0 from .inr ⟨rfl, rfl, rfl, rfl, rfl, rfl, rfl, rfl, rfl⟩)).mono ?_
  rintro e w1 ⟨rfl, hb⟩
  have S1 := Lib.hid (S0.out.below hb)
  clear hb
  go_wp2_with fail
  refine bodyPost_end (v := .tuple #[]) (by simp [results, Tryz.results86, go_sem]) rfl ?_
  exact ⟨_, rfl, ((SST.refl H.out).below HBA.out).trans S1.out⟩

theorem showE_op {t : Tree} {k : Nat} (h : t.op = k) : showE t = exprOf k t.name t.n (t.kids.map showE) := by rw [showE_eq, h]
theorem getD_kid {t u : Tree} {i : Nat} (h : t.kids[i]? = some u) : (t.kids.map showE).getD i [] = showE u := kidE_some h
theorem exprS_any (sb : Nat) (pl : Nat → Nat) : ∀ (N : Nat) (t : Tree), sizeT t ≤ N → OkT t → ShE sb pl t := by
  intro N
  induction N with
  | zero => intro t h; have := sizeT_eq t; omega
  | succ N ih =>
    intro t hs hT w v xs b h hn hl
    have hE : Hid (∀ (k : Nat) (u : Tree), t.kids[k]? = some u → ShE sb pl u) := fun k u hu => ih u (by have := size_kid hu; omega) (hT.kid hu)
    have hA := hT.least
    unfold arity at hA
    by_cases hr : t.op < 15 ∨ 26 < t.op
    · have e : showE t = [] := by rw [showE_eq]; unfold exprOf; repeat rw [if_neg (by omega)]
      rw [e] at hl ⊢
      exact expr_else w sb v xs pl b t h hn (Lib.hid hr) hl
    have hx : t.op = 15 ∨ t.op = 16 ∨ t.op = 17 ∨ t.op = 18 ∨ t.op = 19 ∨ t.op = 20 ∨ t.op = 21 ∨ t.op = 22 ∨ t.op = 23 ∨ t.op = 24 ∨ t.op = 25 ∨ t.op = 26 := by omega
    rcases hx with o | o | o | o | o | o | o | o | o | o | o | o
    · have e : showE t = [textN t.n] := by rw [showE_op o]; rfl
      rw [e] at hl ⊢
      exact expr_15 w sb v xs pl b t h hn o (hT.num o).1 (hT.num o).2 hl
    · have e : showE t = [truthT t.n] := by rw [showE_op o]; rfl
      rw [e] at hl ⊢
      exact expr_16 w sb v xs pl b t h hn o hl
    · have e : showE t = [kNil] := by rw [showE_op o]; rfl
      rw [e] at hl ⊢
      exact expr_17 w sb v xs pl b t h hn o hl
    · have e : showE t = [t.name] := by rw [showE_op o]; rfl
      rw [e] at hl ⊢
      exact expr_18 w sb v xs pl b t h hn o hl
    · have e : showE t = [kNew, cLB, t.name, cRB] := by rw [showE_op o]; rfl
      rw [e] at hl ⊢
      exact expr_19 w sb v xs pl b t h hn o hl
    · simp [o] at hA
      obtain ⟨u0, h0⟩ := kid_is (t := t) (i := 0) (by omega)
      have e : showE t = showE u0 ++ [cDot, t.name] := by rw [showE_op o, ← getD_kid h0]; rfl
      rw [e] at hl ⊢
      exact expr_20 w sb v xs pl b t u0 h hn o (Lib.hid h0) hE hl
    · have e : showE t = [t.name] ++ ([cLB] ++ commaF (t.kids.map showE) ++ [cRB]) := by rw [showE_op o]; rfl
      rw [e] at hl ⊢
      exact expr_21 w sb v xs pl b t h hn o hE hl
    · have e : showE t = [kRead, cLB, cRB] := by rw [showE_op o]; rfl
      rw [e] at hl ⊢
      exact expr_22 w sb v xs pl b t h hn o hl
    · simp [o] at hA
      obtain ⟨u0, h0⟩ := kid_is (t := t) (i := 0) (by omega)
      have e : showE t = [cLB, signL t.n] ++ showE u0 ++ [cRB] := by rw [showE_op o, ← getD_kid h0]; rfl
      rw [e] at hl ⊢
      exact expr_23 w sb v xs pl b t u0 h hn o (Lib.hid h0) hE hl
    · simp [o] at hA
      obtain ⟨u0, h0⟩ := kid_is (t := t) (i := 0) (by omega)
      obtain ⟨u1, h1⟩ := kid_is (t := t) (i := 1) (by omega)
      have e : showE t = [cLB] ++ showE u0 ++ [signL t.n] ++ showE u1 ++ [cRB] := by rw [showE_op o, ← getD_kid h0, ← getD_kid h1]; rfl
      rw [e] at hl ⊢
      exact expr_24 w sb v xs pl b t u0 u1 h hn o (Lib.hid h0) (Lib.hid h1) hE hl
    · simp [o] at hA
      obtain ⟨u0, h0⟩ := kid_is (t := t) (i := 0) (by omega)
      obtain ⟨u1, h1⟩ := kid_is (t := t) (i := 1) (by omega)
      have e : showE t = [cLB] ++ showE u0 ++ [cAnd] ++ showE u1 ++ [cRB] := by rw [showE_op o, ← getD_kid h0, ← getD_kid h1]; rfl
      rw [e] at hl ⊢
      exact expr_25 w sb v xs pl b t u0 u1 h hn o (Lib.hid h0) (Lib.hid h1) hE hl
    · simp [o] at hA
      obtain ⟨u0, h0⟩ := kid_is (t := t) (i := 0) (by omega)
      obtain ⟨u1, h1⟩ := kid_is (t := t) (i := 1) (by omega)
      have e : showE t = [cLB] ++ showE u0 ++ [cOr] ++ showE u1 ++ [cRB] := by rw [showE_op o, ← getD_kid h0, ← getD_kid h1]; rfl
      rw [e] at hl ⊢
      exact expr_26 w sb v xs pl b t u0 u1 h hn o (Lib.hid h0) (Lib.hid h1) hE hl

end Go.Proofs.YtfbejfoalnhihaaGreatDoor
