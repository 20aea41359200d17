/-
  CONTRACT: awake of the statements of check. Blocks from the world's end on alone are new.
-/
import Derived.Test.YtkahbhfbgdbnfaaGreatDoorJ23
import Derived.Test.YtkahbhfbgdbnfaaGreatDoorJ20
import Derived.Test.YtkahbhfbgdbnfaaGreatDoorJ4
namespace Go.Proofs.YtkahbhfbgdbnfaaGreatDoor
open Go.RowKit

set_option maxRecDepth 100000 in
set_option maxHeartbeats 2000000 in
theorem awake5 (w : World) (g : Good w) : Calls Tryz.prog 17 #[] w fun e w' => e = .returned (.bool true) ∧ Below w.heap.size w w' := by
  have HB := Lib.hid (Below.refl w.heap.size w)
  have G := Lib.hid g
  clear g
  go_enter Tryz.func17, Tryz.ntmps17
  go_wp2_with fail
  refine Calls.mono (R := SU (sourceR aw1.data.toList) w) (source_uni aw1 _ w G.out (by decide) (Lib.hid rfl)) ?_
  rintro e w1a ⟨hb, p1, E, rfl, hx, hI⟩
  have HB2 := Lib.hid (HB.out.trans (hb.mono HB.out.size))
  have G2 := Lib.hid (G.out.below hb)
  clear HB G
  have HB := HB2
  have G := G2
  clear HB2 G2
  have I := Lib.hid hI
  have HX := Lib.hid hx
  rw [aw1_e]
  generalize plcS (sourceR aw1.data.toList) = q1
  clear hx hI hb
  have BX := Lib.hid (b2 w1a (.cells #[.pointer p1] 25) (.cells #[.slice E.sA E.x.structs.length E.sc, .slice E.gA E.x.globals.length E.gc, .slice E.fA E.x.funs.length E.fc] 44))
  have V := Lib.hid (VI.two E w1a p1)
  have I2 := Lib.hid (I.out.below BX.out)
  clear I
  have I := I2
  clear I2
  unfold infV
  go_wp2_with fail
  have HB2 := Lib.hid (HB.out.trans (BX.out.mono HB.out.size))
  have G2 := Lib.hid (G.out.below BX.out)
  clear HB G
  have HB := HB2
  have G := G2
  clear HB2 G2
  clear BX
  generalize ((w1a.alloc (.cells #[.pointer p1] 25)).alloc (.cells #[.slice E.sA E.x.structs.length E.sc, .slice E.gA E.x.globals.length E.gc, .slice E.fA E.x.funs.length E.fc] 44)) = w1 at *
  refine Calls.mono (R := SU (sourceR aw2.data.toList) w1) (source_uni aw2 _ w1 G.out (by decide) (Lib.hid rfl)) ?_
  rintro e w2a ⟨hb, p2, E2, rfl, hx, hI⟩
  have HB2 := Lib.hid (HB.out.trans (hb.mono HB.out.size))
  have G2 := Lib.hid (G.out.below hb)
  have V2 := Lib.hid (V.out.below hb)
  have I2 := Lib.hid (I.out.below hb)
  clear HB G V I
  have HB := HB2
  have G := G2
  have V := V2
  have I := I2
  clear HB2 G2 V2 I2
  rw [aw2_p, aw2_e]
  clear hx hI hb
  have BX := Lib.hid (b2 w2a (.cells #[.pointer p2] 25) (.cells #[.slice E2.sA E2.x.structs.length E2.sc, .slice E2.gA E2.x.globals.length E2.gc, .slice E2.fA E2.x.funs.length E2.fc] 44))
  unfold infV
  go_wp2_with fail
  have HB2 := Lib.hid (HB.out.trans (BX.out.mono HB.out.size))
  have G2 := Lib.hid (G.out.below BX.out)
  have V2 := Lib.hid (V.out.below BX.out)
  have I2 := Lib.hid (I.out.below BX.out)
  clear HB G V I
  have HB := HB2
  have G := G2
  have V := V2
  have I := I2
  clear HB2 G2 V2 I2
  clear BX
  generalize ((w2a.alloc (.cells #[.pointer p2] 25)).alloc (.cells #[.slice E2.sA E2.x.structs.length E2.sc, .slice E2.gA E2.x.globals.length E2.gc, .slice E2.fA E2.x.funs.length E2.fc] 44)) = w2 at *
  refine Calls.mono (R := SU (sourceR aw3.data.toList) w2) (source_uni aw3 _ w2 G.out (by decide) (Lib.hid rfl)) ?_
  rintro e w3a ⟨hb, p3, E3, rfl, hx, hI⟩
  have HB2 := Lib.hid (HB.out.trans (hb.mono HB.out.size))
  have G2 := Lib.hid (G.out.below hb)
  have V2 := Lib.hid (V.out.below hb)
  have I2 := Lib.hid (I.out.below hb)
  clear HB G V I
  have HB := HB2
  have G := G2
  have V := V2
  have I := I2
  clear HB2 G2 V2 I2
  rw [aw3_e]
  generalize plcS (sourceR aw3.data.toList) = q3
  clear hx hI hb
  have BX := Lib.hid (b2 w3a (.cells #[.pointer p3] 25) (.cells #[.slice E3.sA E3.x.structs.length E3.sc, .slice E3.gA E3.x.globals.length E3.gc, .slice E3.fA E3.x.funs.length E3.fc] 44))
  unfold infV
  go_wp2_with fail
  have HB2 := Lib.hid (HB.out.trans (BX.out.mono HB.out.size))
  have G2 := Lib.hid (G.out.below BX.out)
  have V2 := Lib.hid (V.out.below BX.out)
  have I2 := Lib.hid (I.out.below BX.out)
  clear HB G V I
  have HB := HB2
  have G := G2
  have V := V2
  have I := I2
  clear HB2 G2 V2 I2
  clear BX
  generalize ((w3a.alloc (.cells #[.pointer p3] 25)).alloc (.cells #[.slice E3.sA E3.x.structs.length E3.sc, .slice E3.gA E3.x.globals.length E3.gc, .slice E3.fA E3.x.funs.length E3.fc] 44)) = w3 at *
  refine Calls.mono (R := SU (sourceR aw4.data.toList) w3) (source_uni aw4 _ w3 G.out (by decide) (Lib.hid rfl)) ?_
  rintro e w4a ⟨hb, p4, E4, rfl, hx, hI⟩
  have HB2 := Lib.hid (HB.out.trans (hb.mono HB.out.size))
  have G2 := Lib.hid (G.out.below hb)
  have V2 := Lib.hid (V.out.below hb)
  have I2 := Lib.hid (I.out.below hb)
  clear HB G V I
  have HB := HB2
  have G := G2
  have V := V2
  have I := I2
  clear HB2 G2 V2 I2
  rw [aw4_p, aw4_e]
  clear hx hI hb
  have BX := Lib.hid (b2 w4a (.cells #[.pointer p4] 25) (.cells #[.slice E4.sA E4.x.structs.length E4.sc, .slice E4.gA E4.x.globals.length E4.gc, .slice E4.fA E4.x.funs.length E4.fc] 44))
  have V4 := V.out.below BX.out
  obtain ⟨c0, c1, c2⟩ := (show _ ∧ _ ∧ _ from ⟨V4.c0, V4.c1, V4.c2⟩)
  clear V4
  unfold infV
  go_wp2_with fail
  clear c0 c1 c2
  have HB2 := Lib.hid (HB.out.trans (BX.out.mono HB.out.size))
  have G2 := Lib.hid (G.out.below BX.out)
  have V2 := Lib.hid (V.out.below BX.out)
  have I2 := Lib.hid (I.out.below BX.out)
  clear HB G V I
  have HB := HB2
  have G := G2
  have V := V2
  have I := I2
  clear HB2 G2 V2 I2
  clear BX
  generalize ((w4a.alloc (.cells #[.pointer p4] 25)).alloc (.cells #[.slice E4.sA E4.x.structs.length E4.sc, .slice E4.gA E4.x.globals.length E4.gc, .slice E4.fA E4.x.funs.length E4.fc] 44)) = w4 at *
  refine Calls.mono (R := fun e w' => e = .returned (foundV (some 1)) ∧ Below w4.heap.size w4 w') (cfun_any E tMain (some 1) w4 I.out (by show _ = _; rw [HX.out]; exact aw1_m)) ?_
  rintro e w5 ⟨rfl, hb⟩
  simp only [foundV]
  have HB2 := Lib.hid (HB.out.trans (hb.mono HB.out.size))
  have G2 := Lib.hid (G.out.below hb)
  have V2 := Lib.hid (V.out.below hb)
  have I2 := Lib.hid (I.out.below hb)
  clear HB G V I
  have HB := HB2
  have G := G2
  have V := V2
  have I := I2
  clear HB2 G2 V2 I2
  clear hb
  obtain ⟨c0, c1, c2⟩ := (show _ ∧ _ ∧ _ from ⟨V.out.c0, V.out.c1, V.out.c2⟩)
  go_wp2_with fail
  clear c0 c1 c2
  refine Calls.mono (R := fun e w' => e = .returned (foundV (some 0)) ∧ Below w5.heap.size w5 w') (cglobal_any E ⟨#[103]⟩ (some 0) w5 I.out (by show _ = _; rw [HX.out]; exact aw1_g)) ?_
  rintro e w6 ⟨rfl, hb⟩
  simp only [foundV]
  have HB2 := Lib.hid (HB.out.trans (hb.mono HB.out.size))
  have G2 := Lib.hid (G.out.below hb)
  have V2 := Lib.hid (V.out.below hb)
  have I2 := Lib.hid (I.out.below hb)
  clear HB G V I
  have HB := HB2
  have G := G2
  have V := V2
  have I := I2
  clear HB2 G2 V2 I2
  clear hb
  go_wp2_with fail
  refine (ccheck_zero w6).mono ?_
  rintro e w7 ⟨rfl, hb⟩
  have HB2 := Lib.hid (HB.out.trans (hb.mono HB.out.size))
  have G2 := Lib.hid (G.out.below hb)
  have V2 := Lib.hid (V.out.below hb)
  have I2 := Lib.hid (I.out.below hb)
  clear HB G V I
  have HB := HB2
  have G := G2
  have V := V2
  have I := I2
  clear HB2 G2 V2 I2
  clear hb
  have hl1 : E.x.structs.length = 1 := by rw [HX.out]; exact aw1_s
  have hl2 : E.x.funs.length = 2 := by rw [HX.out]; exact aw1_f
  obtain ⟨s, hs, hr⟩ : ∃ s, E.x.funs[0]? = some s ∧ s.res = tInt := by
    have h := aw1_r
    rw [← HX.out] at h
    obtain ⟨s, h1, h2⟩ := Option.map_eq_some_iff.1 h
    exact ⟨s, h1, h2⟩
  have BX := Lib.hid (b1 w7 (.cells #[.slice none 0 0, .slice none 0 0, .slice none 0 0] 44))
  have HB2 := Lib.hid (HB.out.trans (BX.out.mono HB.out.size))
  have G2 := Lib.hid (G.out.below BX.out)
  have V2 := Lib.hid (V.out.below BX.out)
  have I2 := Lib.hid (I.out.below BX.out)
  clear HB G V I
  have HB := HB2
  have G := G2
  have V := V2
  have I := I2
  clear HB2 G2 V2 I2
  obtain ⟨fb, fo, hfa, hfl, hfc⟩ := I.out.F (by omega)
  obtain ⟨PA, pc, f0, f1, f2, -⟩ := hfc 0 s hs
  obtain ⟨c0, c1, c2⟩ := (show _ ∧ _ ∧ _ from ⟨V.out.c0, V.out.c1, V.out.c2⟩)
  rw [hr] at f2
  unfold tInt at f2
  rw [hfa, hl2] at c2
  rw [hl1] at c0
  clear hfc hs hr BX
  rw [hl1, hl2, hfa]
  clear hl1 hl2 hfa V
  go_wp2_with fail
  go_ret
  exact ⟨rfl, HB.out⟩

end Go.Proofs.YtkahbhfbgdbnfaaGreatDoor

/-
  PLAIN: what is right stays right where one function more is declared. Nothing of the program stands here. No condition.
-/
namespace Go.Proofs.YtkahbhfbgdbnfaaGreatDoor
open Go.RowKit

def Le {α : Type} (r r' : CR α) : Prop := ∀ a, r = .ok a → r' = .ok a
theorem Le.refl {α : Type} (r : CR α) : Le r r := fun _ h => h
theorem Le.bad {α : Type} (p e : Nat) (r : CR α) : Le (.bad p e) r := fun _ h => by cases h
theorem Le.bind {α β : Type} {r r' : CR α} {f f' : α → CR β} (h : Le r r') (g : ∀ a, Le (f a) (f' a)) : Le (r.bind f) (r'.bind f') := by
  cases r with
  | ok a => rw [h a rfl]; exact g a
  | bad p e => exact Le.bad _ _ _
theorem Le.nd {α : Type} (p : Nat) {b b' : Bool} (e : Nat) {k k' : CR α} (hb : b = true → b' = true) (g : Le k k') : Le (nd p b e k) (nd p b' e k') := by
  unfold Go.Proofs.YtkahbhfbgdbnfaaGreatDoor.nd
  cases b with
  | false => exact Le.bad _ _ _
  | true => rw [hb rfl]; exact g
def LeL (rs rs' : List (CR ByteArray)) : Prop := rs.length = rs'.length ∧ ∀ i, Le (rs.getD i (.ok tNil)) (rs'.getD i (.ok tNil))
theorem LeL.kid {rs rs' : List (CR ByteArray)} (h : LeL rs rs') (i : Nat) : Le (kidC rs i) (kidC rs' i) := h.2 i
theorem LeL.cons {r r' : CR ByteArray} {rs rs' : List (CR ByteArray)} (h : Le r r') (g : LeL rs rs') : LeL (r :: rs) (r' :: rs') :=
  ⟨by simp [g.1], fun i => by cases i with
    | zero => exact h
    | succ i => simpa using g.2 i⟩
theorem LeL.tail {r r' : CR ByteArray} {rs rs' : List (CR ByteArray)} (g : LeL (r :: rs) (r' :: rs')) : Le r r' ∧ LeL rs rs' :=
  ⟨g.2 0, by simpa using g.1, fun i => by simpa using g.2 (i + 1)⟩
theorem LeL.all : ∀ {rs rs' : List (CR ByteArray)}, LeL rs rs' → Le (allC rs) (allC rs')
  | [], [], _ => Le.refl _
  | [], _ :: _, h => by have := h.1; simp at this
  | _ :: _, [], h => by have := h.1; simp at this
  | _ :: rs, _ :: rs', h => h.tail.1.bind fun _ => (LeL.all h.tail.2).bind fun _ => Le.refl _

/-- With one function more. -/
def addF (x : Inf) (g : Sg) : Inf := { x with funs := x.funs ++ [g] }
section
variable {x : Inf} {g : Sg}
theorem funO_more {n : ByteArray} {f : Nat} (h : funO x n = some f) : funO (addF x g) n = some f ∧ (addF x g).funs.getD f sgZ = x.funs.getD f sgZ := by
  obtain ⟨-, h1, h2, h3⟩ := fst_some h
  have hs : ∀ j, j < x.funs.length → sgIs (x.funs ++ [g]) n j = sgIs x.funs n j := fun j hj => by unfold sgIs; rw [List.getElem?_append_left hj]
  refine ⟨fst_of (Nat.zero_le _) (by simp [addF]; omega) ((hs f h1).trans h2) (fun j a b => (hs j (by omega)).trans (h3 j a b)), ?_⟩
  simp only [addF, List.getD_eq_getElem?_getD, List.getElem?_append_left h1]
theorem declB_more {n : ByteArray} (h : declB x n = true) : declB (addF x g) n = true := by
  unfold declB at h ⊢
  simp only [Bool.or_eq_true] at h ⊢
  rcases h with h | h
  · exact .inl h
  · right
    cases hf : funO x n with
    | none => rw [hf] at h; cases h
    | some f => rw [(funO_more hf).1]; rfl
theorem var_le (K : List Fld) (p : Nat) (n : ByteArray) : Le (varC x K p n) (varC (addF x g) K p n) := by
  unfold varC
  show Le _ (varOf (addF x g) K p _ _ (plc x.globals n))
  unfold varOf
  split
  · exact Le.refl _
  · exact Le.refl _
  · exact Le.nd _ _ (fun h => declB_more h) (Le.refl _)
theorem field_le (p : Nat) (n a : ByteArray) : Le (fieldC x p n a) (fieldC (addF x g) p n a) := Le.refl _
theorem call_le (K : List Fld) (p : Nat) (n : ByteArray) (us : List ByteArray) : Le (callC x K p n us) (callC (addF x g) K p n us) := by
  unfold callC
  refine Le.bind ?_ fun _ => Le.refl _
  unfold calleeC
  cases hf : funO x n with
  | none =>
    unfold calleeOf
    intro a h
    dsimp only at h
    unfold Go.Proofs.YtkahbhfbgdbnfaaGreatDoor.nd at h
    split at h <;> cases h
  | some f =>
    rw [(funO_more hf).1]
    unfold calleeOf
    dsimp only
    rw [(funO_more hf).2]
    refine Le.nd _ _ (fun h => ?_) (Le.refl _)
    simp only [Bool.or_eq_true] at h ⊢
    exact h.imp id declB_more
theorem exprOf_le (K : List Fld) (op : Nat) (name : List UInt8) (n : Int) (p : Nat) {rs rs' : List (CR ByteArray)} (h : LeL rs rs') : Le (exprOfC x K op name n p rs) (exprOfC (addF x g) K op name n p rs') := by
  unfold exprOfC
  split; · exact Le.refl _
  split; · exact Le.refl _
  split; · exact var_le _ _ _
  split; · exact Le.nd _ _ (fun h => declB_more h) (Le.refl _)
  split; · exact (h.kid 0).bind fun _ => field_le _ _ _
  split; · exact h.all.bind fun _ => call_le _ _ _ _
  split; · exact (h.kid 0).bind fun _ => Le.refl _
  split; · exact (h.kid 0).bind fun _ => (h.kid 1).bind fun _ => Le.refl _
  split; · exact (h.kid 0).bind fun _ => (h.kid 1).bind fun _ => Le.refl _
  exact Le.refl _
mutual
theorem expr_le (K : List Fld) : ∀ t, Le (exprC x K t) (exprC (addF x g) K t)
  | .mk op name _ n p ks => by unfold exprC; exact exprOf_le _ _ _ _ _ (exprs_le K ks)
theorem exprs_le (K : List Fld) : ∀ l, LeL (exprsC x K l) (exprsC (addF x g) K l)
  | [] => by unfold exprsC; exact ⟨rfl, fun _ => Le.refl _⟩
  | t :: l => by unfold exprsC; exact LeL.cons (expr_le K t) (exprs_le K l)
end
theorem leaf_le (res : ByteArray) (K : List Fld) (f : Nat) (op : Nat) (name : List UInt8) (p : Nat) {rs rs' : List (CR ByteArray)} (h : LeL rs rs') : Le (leafC x res K f op name p rs) (leafC (addF x g) res K f op name p rs') := by
  unfold leafC
  rw [h.1]
  split; · exact (h.kid 0).bind fun _ => Le.refl _
  split; · exact (h.kid 0).bind fun _ => (var_le _ _ _).bind fun _ => Le.refl _
  split; · exact (h.kid 0).bind fun _ => (h.kid 1).bind fun _ => (field_le _ _ _).bind fun _ => Le.refl _
  split; · exact (h.kid 0).bind fun _ => Le.refl _
  split
  · split
    · exact Le.refl _
    · exact (h.kid 0).bind fun _ => Le.refl _
  split; · exact (h.kid 0).bind fun _ => Le.refl _
  exact Le.refl _
mutual
theorem stmt_le (res : ByteArray) : ∀ t K f, Le (stmtC x res t K f) (stmtC (addF x g) res t K f)
  | .mk op name _ _ p ks, K, f => by
    unfold stmtC
    split
    · exact (stmts_le res ks K _).bind fun _ => Le.refl _
    · split
      · exact ((exprs_le K ks).kid 0).bind fun _ => Le.nd _ _ id (rest_le res ks K f)
      · exact leaf_le _ _ _ _ _ _ (exprs_le K ks)
theorem stmts_le (res : ByteArray) : ∀ l K f, Le (stmtsC x res l K f) (stmtsC (addF x g) res l K f)
  | [], K, f => by unfold stmtsC; exact Le.refl _
  | t :: r, K, f => by unfold stmtsC; exact (stmt_le res t K f).bind fun K' => stmts_le res r K' f
theorem rest_le (res : ByteArray) : ∀ l K f, Le (restC x res l K f) (restC (addF x g) res l K f)
  | [], K, f => by unfold restC; exact Le.refl _
  | _ :: r, K, f => by unfold restC; exact stmts_le res r K f
end
theorem body_le (d : Tree) : Le (bodyC x d) (bodyC (addF x g) d) := by
  unfold bodyC; split
  · exact (stmts_le _ _ _ _).bind fun _ => Le.refl _
  · exact Le.refl _
theorem main_le (h : mainB x = true) : mainB (addF x g) = true := by
  unfold mainB at h ⊢
  cases hf : funO x tMain with
  | none => rw [hf] at h; cases h
  | some f => rw [hf] at h; rw [(funO_more hf).1]; dsimp only at h ⊢; rw [(funO_more hf).2]; exact h
theorem each_le {f f' : Tree → CR Unit} (h : ∀ d, Le (f d) (f' d)) : ∀ l, Le (eachC f l) (eachC f' l)
  | [] => Le.refl _
  | a :: r => (h a).bind fun _ => each_le h r
end

end Go.Proofs.YtkahbhfbgdbnfaaGreatDoor

/-
  PLAIN: a right program with one function more, of a name of its own. Nothing of the program stands here. No condition.
-/
namespace Go.Proofs.YtkahbhfbgdbnfaaGreatDoor
open Go.RowKit

theorem each_app {f : Tree → CR Unit} (d : Tree) : ∀ {l : List Tree} {u : Unit}, eachC f l = .ok u → eachC f (l ++ [d]) = (f d).bind fun _ => .ok ()
  | [], _, _ => by simp only [List.nil_append, eachC]
  | a :: r, u, h => by
    simp only [List.cons_append, eachC] at h ⊢
    cases ha : f a with
    | bad p e => rw [ha] at h; cases h
    | ok v => rw [ha] at h; exact each_app d (l := r) h
theorem infOf_app (ks : List Tree) (d : Tree) : infOf (ks ++ [d]) = addD (infOf ks) d := by unfold infOf; rw [List.foldl_append]; rfl
/-- What a row declares has its names. -/
theorem inf_has (ks : List Tree) : ∀ x : Inf, (∀ s ∈ x.structs, s ∈ (ks.foldl addD x).structs) ∧ (∀ s ∈ x.globals, s ∈ (ks.foldl addD x).globals) ∧ (∀ s ∈ x.funs, s ∈ (ks.foldl addD x).funs) ∧
    ∀ d ∈ ks, (d.op = 2 → ⟨nm d, partsL d⟩ ∈ (ks.foldl addD x).structs) ∧ (d.op = 3 → fldOf d ∈ (ks.foldl addD x).globals) ∧ (d.op = 4 → ⟨nm d, partsL d, tp d⟩ ∈ (ks.foldl addD x).funs) := by
  induction ks with
  | nil => intro x; exact ⟨fun _ h => h, fun _ h => h, fun _ h => h, fun d hd => by cases hd⟩
  | cons a r ih =>
    intro x
    obtain ⟨h1, h2, h3, h4⟩ := ih (addD x a)
    have k1 : ∀ s ∈ x.structs, s ∈ (addD x a).structs := fun s hs => by unfold addD; split; · simp [hs]
                                                                        split; · exact hs
                                                                        split <;> exact hs
    have k2 : ∀ s ∈ x.globals, s ∈ (addD x a).globals := fun s hs => by unfold addD; split; · exact hs
                                                                        split; · simp [hs]
                                                                        split <;> exact hs
    have k3 : ∀ s ∈ x.funs, s ∈ (addD x a).funs := fun s hs => by unfold addD; split; · exact hs
                                                                  split; · exact hs
                                                                  split; · simp [hs]
                                                                  exact hs
    refine ⟨fun s hs => h1 s (k1 s hs), fun s hs => h2 s (k2 s hs), fun s hs => h3 s (k3 s hs), fun d hd => ?_⟩
    rcases List.mem_cons.1 hd with rfl | hd
    · refine ⟨fun ho => h1 _ ?_, fun ho => h2 _ ?_, fun ho => h3 _ ?_⟩ <;> unfold addD <;> simp [ho]
    · exact h4 d hd
theorem name_new {ks : List Tree} {q : ByteArray} (ho : ∀ d ∈ ks, d.op = 2 ∨ d.op = 3 ∨ d.op = 4) (hh : hasB (infOf ks) q = false) : ∀ d ∈ ks, eqB (nm d) q = false := by
  intro d hd
  unfold hasB at hh
  simp only [Bool.or_eq_false_iff, Option.isSome_eq_false_iff, Option.isNone_iff_eq_none] at hh
  obtain ⟨hf, hg, hs⟩ := hh
  obtain ⟨-, -, -, h⟩ := inf_has ks infZ
  rcases ho d hd with e | e | e
  · obtain ⟨i, hi⟩ := List.mem_iff_getElem?.1 ((h d hd).1 e)
    have := fst_none hs i (Nat.zero_le _) (List.getElem?_eq_some_iff.1 hi).1
    unfold nameIs at this
    rw [show (infOf ks).structs[i]? = _ from hi] at this
    exact this
  · obtain ⟨i, hi⟩ := List.mem_iff_getElem?.1 ((h d hd).2.1 e)
    have := fst_none hg i (Nat.zero_le _) (List.getElem?_eq_some_iff.1 hi).1
    unfold fldIs at this
    rw [show (infOf ks).globals[i]? = _ from hi] at this
    exact this
  · obtain ⟨i, hi⟩ := List.mem_iff_getElem?.1 ((h d hd).2.2 e)
    have := fst_none hf i (Nat.zero_le _) (List.getElem?_eq_some_iff.1 hi).1
    unfold sgIs at this
    rw [show (infOf ks).funs[i]? = _ from hi] at this
    exact this
theorem nmAt_left {ks : List Tree} (d : Tree) {i : Nat} (h : i < ks.length) : nmAt (ks ++ [d]) i = nmAt ks i := by unfold nmAt; simp only [List.getD_eq_getElem?_getD, List.getElem?_append_left h]
theorem opAt_left {ks : List Tree} (d : Tree) {i : Nat} (h : i < ks.length) : opAt (ks ++ [d]) i = opAt ks i := by unfold opAt; simp only [List.getD_eq_getElem?_getD, List.getElem?_append_left h]
theorem nmAt_last (ks : List Tree) (d : Tree) : nmAt (ks ++ [d]) ks.length = nm d := by unfold nmAt; simp [List.getD_eq_getElem?_getD]
theorem opAt_last (ks : List Tree) (d : Tree) : opAt (ks ++ [d]) ks.length = d.op := by unfold opAt; simp [List.getD_eq_getElem?_getD]
theorem fst_ext {f g : Nat → Bool} {n : Nat} (h : ∀ j, j < n → f j = g j) : fst f n 0 = fst g n 0 := by
  cases hg : fst g n 0 with
  | none => exact fst_none_of fun j a b => (h j b).trans (fst_none hg j a b)
  | some i =>
    obtain ⟨a, b, c, e⟩ := fst_some hg
    exact fst_of a b ((h i b).trans c) (fun j u v => (h j (by omega)).trans (e j u v))
theorem nameE_left {ks : List Tree} (d : Tree) {i : Nat} (h : i < ks.length) : nameE (ks ++ [d]) i = nameE ks i := by
  have hn : newB (ks ++ [d]) i = newB ks i := by
    unfold newB
    rw [fst_ext (g := fun j => eqB (nmAt ks j) (nmAt ks i)) fun j hj => by rw [nmAt_left d (by omega), nmAt_left d h]]
  have hc : ∀ k, k ≤ i → cntN (ks ++ [d]) i k = cntN ks i k := by
    intro k
    induction k with
    | zero => intro _; rfl
    | succ k ih => intro hk; unfold cntN; rw [ih (by omega), opAt_left d (by omega), opAt_left d h]
  unfold nameE
  rw [hn, hc i (Nat.le_refl _), opAt_left d h]
theorem cnt_last {ks : List Tree} {d : Tree} (hd : d.op = 4) : ∀ k, k ≤ ks.length → cntN (ks ++ [d]) ks.length k = (infOf (ks.take k)).funs.length := by
  intro k
  induction k with
  | zero => intro _; rfl
  | succ k ih =>
    intro hk
    obtain ⟨u, hu⟩ : ∃ u, ks[k]? = some u := ⟨_, List.getElem?_eq_getElem (by omega)⟩
    unfold cntN
    rw [ih (by omega), infOf_snoc hu, opAt_last, hd, opAt_left d (by omega), opAt_at hu]
    unfold addD
    by_cases h2 : u.op = 2
    · simp [h2]
    · by_cases h3 : u.op = 3
      · simp [h3]
      · by_cases h4 : u.op = 4
        · simp [h4]
        · simp [h2, h3, h4]
theorem firC_all {ks : List Tree} {g : Nat → Nat} {n : Nat} (h : ∀ j, j < n → g j = 0) : firC ks g n = .ok () := by
  have : fir g n 0 = (0, 0) := by
    have e : fir g n 0 = fir (fun _ => 0) n 0 := fir_ext fun j _ hj => h j hj
    rw [e]
    have : ∀ m k, n - k ≤ m → fir (fun _ => 0) n k = (0, 0) := by
      intro m
      induction m with
      | zero => intro k hk; exact fir_end (by omega)
      | succ m ih =>
        intro k hk
        by_cases hl : k < n
        · rw [fir_next hl rfl]; exact ih (k + 1) (by omega)
        · exact fir_end (by omega)
    exact this n 0 (by omega)
  unfold firC
  rw [this]
/-- One function more: all is right up to its body. -/
theorem check_more {ts tc : List Tok} {ks : List Tree} {x : Inf} {d : Tree} (h : checkC (root ts ks) = .ok x) (ho : ∀ d ∈ ks, d.op = 2 ∨ d.op = 3 ∨ d.op = 4) (hd : d.op = 4) (hq : hasB x (nm d) = false) (hf : x.funs.length < 24)
    (ht : typesC x.structs d = .ok ()) : x = infOf ks ∧ infOf (ks ++ [d]) = addF x ⟨nm d, partsL d, tp d⟩ ∧ checkC (root tc (ks ++ [d])) = (bodyC (addF x ⟨nm d, partsL d, tp d⟩) d).bind fun _ => .ok (addF x ⟨nm d, partsL d, tp d⟩) := by
  unfold checkC at h ⊢
  simp only [root, Tree.kids, Tree.pos] at h ⊢
  cases h1 : firC ks (nameE ks) ks.length with
  | bad p e => rw [h1] at h; cases h
  | ok u1 =>
    rw [h1] at h
    cases h2 : eachC (typesC (infOf ks).structs) ks with
    | bad p e => rw [h2] at h; cases h
    | ok u2 =>
      rw [h2] at h
      cases h3 : eachC (bodyC (infOf ks)) ks with
      | bad p e => rw [h3] at h; cases h
      | ok u3 =>
        rw [h3] at h
        simp only [CR.bind, nd] at h
        split at h
        · rename_i hm
          cases h
          have hx : infOf (ks ++ [d]) = addF (infOf ks) ⟨nm d, partsL d, tp d⟩ := by rw [infOf_app]; unfold addD addF; simp [hd]
          refine ⟨rfl, hx, ?_⟩
          have e1 : firC (ks ++ [d]) (nameE (ks ++ [d])) (ks ++ [d]).length = .ok () := by
            refine firC_all fun j hj => ?_
            by_cases hl : j < ks.length
            · rw [nameE_left d hl]; exact firC_ok h1 j hl
            · have : j = ks.length := by simp at hj; omega
              subst this
              unfold nameE
              rw [cnt_last hd _ (Nat.le_refl _), List.take_length, opAt_last, hd, show mostD 4 = 24 from rfl, if_pos, if_pos hf]
              unfold newB
              rw [fst_none_of fun i _ hi => ?_]
              · rfl
              · obtain ⟨u, hu⟩ : ∃ u, ks[i]? = some u := ⟨_, List.getElem?_eq_getElem hi⟩
                rw [nmAt_left d hi, nmAt_last, nmAt_at hu]
                exact name_new ho hq u (List.mem_of_getElem? hu)
          rw [e1, hx]
          have e2 : eachC (typesC (addF (infOf ks) ⟨nm d, partsL d, tp d⟩).structs) (ks ++ [d]) = .ok () := by
            rw [each_app d (f := typesC (addF (infOf ks) ⟨nm d, partsL d, tp d⟩).structs) h2, show typesC (addF (infOf ks) ⟨nm d, partsL d, tp d⟩).structs d = _ from ht]; rfl
          rw [e2]
          simp only [CR.bind]
          rw [each_app d (each_le (fun d => body_le d) ks _ h3)]
          cases bodyC (addF (infOf ks) ⟨nm d, partsL d, tp d⟩) d with
          | bad p e => rfl
          | ok u => simp only [CR.bind, nd]; rw [if_pos (main_le hm)]
        · cases h

end Go.Proofs.YtkahbhfbgdbnfaaGreatDoor

/-
  PLAIN: trees that are the same but for places; what is read of the same tokens at another place is the same but for places. Nothing of the program stands here. No condition.
-/
namespace Go.Proofs.YtkahbhfbgdbnfaaGreatDoor
open Go.RowKit

mutual
def er : Tree → Tree
  | .mk o s ty n _ ks => .mk o s ty n 0 (erL ks)
def erL : List Tree → List Tree
  | [] => []
  | t :: r => er t :: erL r
end
theorem erL_map (ks : List Tree) : erL ks = ks.map er := by
  induction ks with
  | nil => rfl
  | cons t r ih => rw [erL, ih]; rfl
theorem er_mk (o : Nat) (s ty : List UInt8) (n : Int) (p : Nat) (ks : List Tree) : er (.mk o s ty n p ks) = .mk o s ty n 0 (ks.map er) := by rw [er, erL_map]
theorem er_parts {a b : Tree} (h : er a = er b) : a.op = b.op ∧ a.name = b.name ∧ a.typ = b.typ ∧ a.n = b.n ∧ a.kids.map er = b.kids.map er := by
  cases a; cases b
  simp only [er_mk, Tree.mk.injEq] at h
  exact ⟨h.1, h.2.1, h.2.2.1, h.2.2.2.1, h.2.2.2.2.2⟩
theorem er_kid {l r : List Tree} (h : l.map er = r.map er) {k : Nat} {u : Tree} (hu : l[k]? = some u) : ∃ v, r[k]? = some v ∧ er u = er v := by
  have h1 := congrArg (fun l => l[k]?) h
  simp only [List.getElem?_map, hu, Option.map_some] at h1
  obtain ⟨v, h2, h3⟩ := Option.map_eq_some_iff.1 h1.symm
  exact ⟨v, h2, h3.symm⟩
abbrev EE (a b : Tree) : Prop := er a = er b
abbrev EL (a b : List Tree) : Prop := a.map er = b.map er
theorem ee_mk {o : Nat} {s ty : List UInt8} {n : Int} {p q : Nat} {ks ks' : List Tree} (h : EL ks ks') : EE (.mk o s ty n p ks) (.mk o s ty n q ks') := by
  show er _ = er _; rw [er_mk, er_mk]; rw [show ks.map er = ks'.map er from h]
theorem el_nil : EL [] [] := rfl
theorem el_cons {a b : Tree} {l r : List Tree} (h : EE a b) (g : EL l r) : EL (a :: l) (b :: r) := by
  show _ :: _ = _ :: _; rw [show er a = er b from h, show l.map er = r.map er from g]
theorem el_app {a b l r : List Tree} (h : EL a b) (g : EL l r) : EL (a ++ l) (b ++ r) := by
  show List.map _ _ = List.map _ _; rw [List.map_append, List.map_append, show a.map er = b.map er from h, show l.map er = r.map er from g]
theorem ee_hd {l r : List Tree} (h : EL l r) : EE (hd l) (hd r) := by
  cases l with
  | nil => cases r with
    | nil => rfl
    | cons b r => cases h
  | cons a l => cases r with
    | nil => cases h
    | cons b r => exact (List.cons.inj h).1
theorem ee_attach {a b x y : Tree} (h : EE a b) (g : EE x y) : EE (attach a x) (attach b y) := by
  obtain ⟨h1, h2, h3, h4, h5⟩ := er_parts g
  cases x; cases y
  simp only [Tree.op, Tree.name, Tree.typ, Tree.n, Tree.kids] at h1 h2 h3 h4 h5
  subst h1 h2 h3 h4
  exact ee_mk (el_cons h h5)
theorem ee_fold : ∀ (l r : List Tree) (a b : Tree), EL l r → EE a b → EE (l.foldl (fun a b => attach a b) a) (r.foldl (fun a b => attach a b) b)
  | [], [], a, b, _, g => g
  | [], _ :: _, _, _, h, _ => by cases h
  | _ :: _, [], _, _, h, _ => by cases h
  | x :: l, y :: r, a, b, h, g => ee_fold l r _ _ (List.cons.inj h).2 (ee_attach g (List.cons.inj h).1)
theorem ee_put : ∀ (l r : List Tree) (h h' f f' v v' : Tree), EL l r → EE h h' → EE f f' → EE v v' → EE (putT h f l v) (putT h' f' r v')
  | [], [], h, h', f, f', v, v', _, g1, g2, g3 => by
    unfold putT
    rw [(er_parts g2).2.1]
    exact ee_mk (el_cons g1 (el_cons g3 el_nil))
  | [], _ :: _, _, _, _, _, _, _, h, _, _, _ => by cases h
  | _ :: _, [], _, _, _, _, _, _, h, _, _, _ => by cases h
  | x :: l, y :: r, h, h', f, f', v, v', g0, g1, g2, g3 => by
    unfold putT
    exact ee_put l r _ _ _ _ _ _ (List.cons.inj g0).2 (ee_attach g1 g2) (List.cons.inj g0).1 g3

/-- Two readers that go the same way, whatever the places. -/
def RelP {α : Type} (E : α → α → Prop) : Pr α → Pr α → Prop
  | .ret a, .ret b => E a b
  | .fail e, .fail e' => e = e'
  | .peek k, .peek k' => ∀ i i' t, RelP E (k i t) (k' i' t)
  | .next p, .next p' => RelP E p p'
  | .call nt d k, .call nt' d' k' => nt = nt' ∧ d = d' ∧ ∀ ts ts', EL ts ts' → RelP E (k ts) (k' ts')
  | _, _ => False
theorem rel_bind0 {α β : Type} {E : α → α → Prop} {F : β → β → Prop} {f f' : α → Pr β} (g : ∀ a a', E a a' → RelP F (f a) (f' a')) : ∀ (p p' : Pr α), RelP E p p' → RelP F (p.bind f) (p'.bind f')
  | .ret a, .ret b, h => g a b h
  | .fail _, .fail _, h => h
  | .peek _, .peek _, h => fun i i' t => rel_bind0 g _ _ (h i i' t)
  | .next p, .next p', h => rel_bind0 g p p' h
  | .call _ _ _, .call _ _ _, h => ⟨h.1, h.2.1, fun ts ts' e => rel_bind0 g _ _ (h.2.2 ts ts' e)⟩
theorem rel_bind {α β : Type} {E : α → α → Prop} {F : β → β → Prop} {p p' : Pr α} {f f' : α → Pr β} (h : RelP E p p') (g : ∀ a a', E a a' → RelP F (f a) (f' a')) : RelP F (p.bind f) (p'.bind f') := rel_bind0 g p p' h
theorem rel_ite {α : Type} {E : α → α → Prop} {q : Prop} [Decidable q] {p p' r r' : Pr α} (h : RelP E p p') (g : RelP E r r') : RelP E (if q then p else r) (if q then p' else r') := by
  split <;> assumption
theorem rel_ite2 {α : Type} {E : α → α → Prop} {q q' : Prop} [Decidable q] [Decidable q'] {p p' r r' : Pr α} (e : q ↔ q') (h : RelP E p p') (g : RelP E r r') : RelP E (if q then p else r) (if q' then p' else r') := by
  by_cases hq : q
  · rw [if_pos hq, if_pos (e.1 hq)]; exact h
  · rw [if_neg hq, if_neg (fun h => hq (e.2 h))]; exact g
abbrev AnyE {α : Type} : α → α → Prop := fun _ _ => True
abbrev SndE (a b : Nat × List UInt8) : Prop := a.2 = b.2
theorem rel_need (s : List UInt8) : RelP AnyE (need s) (need s) := fun _ _ _ => rel_ite trivial rfl
theorem rel_word : RelP SndE word word := fun _ _ _ => rel_ite rfl rfl
theorem rel_enter (d : Nat) (s : List UInt8) : RelP AnyE (enter d s) (enter d s) := fun _ _ _ => rel_ite (rel_ite rfl trivial) rfl
theorem rel_typ : RelP Eq typ typ := fun _ _ _ => rel_ite rfl (rel_ite rfl (rel_bind (rel_need _) (fun _ _ _ => rel_bind rel_word (fun a a' h => by show _ :: _ = _ :: _; rw [show a.2 = a'.2 from h]))))
theorem rel_typed (op : Nat) : RelP EE (typed op) (typed op) := rel_bind rel_word (fun a a' h => rel_bind rel_typ (fun t t' e => by subst e; show EE _ _; rw [show a.2 = a'.2 from h]; exact ee_mk el_nil))
theorem rel_named (op : Nat) : RelP EE (named op) (named op) := rel_bind (rel_typed op) (fun _ _ h => rel_bind (rel_need _) (fun _ _ _ => h))
theorem rel_one (nt : NT) (d : Nat) : RelP EE (one nt d) (one nt d) := ⟨rfl, rfl, fun _ _ h => ee_hd h⟩
theorem rel_expr (d : Nat) : RelP EE (expr d) (expr d) := rel_one _ _
theorem rel_block (d : Nat) : RelP EE (block d) (block d) := rel_bind (rel_enter _ _) (fun _ _ _ => ⟨rfl, rfl, fun _ _ h => ee_mk h⟩)
theorem rel_struct : RelP EE structure_ structure_ := rel_bind rel_word (fun a a' e => rel_bind (rel_need _) (fun _ _ _ => rel_bind (rel_need _) (fun _ _ _ => ⟨rfl, rfl, fun _ _ h => by show EE _ _; rw [show a.2 = a'.2 from e]; exact ee_mk h⟩)))
theorem rel_fparts : RelP EL fparts fparts := rel_bind (rel_need _) (fun _ _ _ _ _ _ => rel_ite el_nil (rel_bind (rel_typed 5) (fun _ _ h => ⟨rfl, rfl, fun _ _ g => el_cons h g⟩)))
theorem rel_function (d : Nat) : RelP EE (function d) (function d) := rel_bind rel_word (fun a a' e => rel_bind rel_fparts (fun _ _ h => rel_bind (E := Eq) (fun _ _ _ => rel_ite rfl rel_typ) (fun t t' e2 => rel_bind (rel_block d) (fun _ _ g => by subst e2; show EE _ _; rw [show a.2 = a'.2 from e]; exact ee_mk (el_app h (el_cons g el_nil))))))
theorem rel_decl (d : Nat) : RelP EE (decl d) (decl d) := fun _ _ _ => rel_ite rel_struct (rel_ite (rel_named 3) (rel_ite (rel_function d) rfl))
theorem rel_args (d : Nat) : RelP EL (args d) (args d) := rel_bind (rel_enter _ _) (fun _ _ _ _ _ _ => rel_ite (rel_bind (rel_need _) (fun _ _ _ => el_nil)) (rel_bind (rel_expr _) (fun _ _ h => ⟨rfl, rfl, fun _ _ g => el_cons h g⟩)))
theorem rel_brack (d : Nat) : RelP EE (brack d) (brack d) := rel_bind (rel_enter _ _) (fun _ _ _ => rel_bind (rel_expr _) (fun _ _ h => rel_bind (rel_need _) (fun _ _ _ => h)))
theorem rel_varOrCall (d : Nat) : RelP EE (varOrCall d) (varOrCall d) := rel_bind rel_word (fun a a' e _ _ _ => rel_ite (rel_bind (rel_args d) (fun _ _ h => by show EE _ _; rw [show a.2 = a'.2 from e]; exact ee_mk h)) (by show EE _ _; rw [show a.2 = a'.2 from e]; exact ee_mk el_nil))
theorem rel_creation : RelP EE creation creation := rel_bind (rel_need _) (fun _ _ _ => rel_bind (rel_need _) (fun _ _ _ => rel_bind rel_word (fun a a' e => rel_bind (rel_need _) (fun _ _ _ => by show EE _ _; rw [show a.2 = a'.2 from e]; exact ee_mk el_nil))))
theorem rel_input : RelP EE input input := rel_bind (rel_need _) (fun _ _ _ => rel_bind (rel_need _) (fun _ _ _ => rel_bind (rel_need _) (fun _ _ _ => ee_mk el_nil)))
theorem rel_primary (d : Nat) : RelP EE (primary d) (primary d) := fun _ _ _ => rel_ite (ee_mk el_nil) (rel_ite (rel_varOrCall d) (rel_ite (ee_mk el_nil) (rel_ite (ee_mk el_nil) (rel_ite (ee_mk el_nil) (rel_ite rel_creation (rel_ite rel_input (rel_ite (rel_brack d) rfl)))))))
theorem rel_fieldName : RelP SndE fieldName fieldName := rel_bind (rel_need _) (fun _ _ _ => rel_word)
theorem rel_postfix (d : Nat) : RelP EE (postfix_ d) (postfix_ d) := rel_bind (rel_primary d) (fun _ _ h => ⟨rfl, rfl, fun _ _ g => ee_fold _ _ _ _ g h⟩)
theorem rel_setting (op : Nat) (h h' : Tree) (d : Nat) (e : EE h h') : RelP EE (setting op h d) (setting op h' d) := rel_bind (rel_expr d) (fun _ _ g => rel_bind (rel_need _) (fun _ _ _ => by show EE _ _; rw [(er_parts e).2.1]; exact ee_mk (el_cons g el_nil)))
theorem ee_bare {a a' : Nat × List UInt8} (h : SndE a a') : EE (bare a) (bare a') := by unfold bare; rw [show a.2 = a'.2 from h]; exact ee_mk el_nil
theorem rel_put (h h' : Tree) (d : Nat) (e : EE h h') : RelP EE (put h d) (put h' d) := rel_bind rel_fieldName (fun _ _ f => ⟨rfl, rfl, fun _ _ g => rel_bind (rel_need _) (fun _ _ _ => rel_bind (rel_expr d) (fun _ _ v => rel_bind (rel_need _) (fun _ _ _ => ee_put _ _ _ _ _ _ _ _ g e (ee_bare f) v)))⟩)
theorem rel_simple (d : Nat) : RelP EE (simple d) (simple d) := fun _ _ t => rel_bind (rel_primary d) (fun h h' e _ _ t2 => by
  have ho := (er_parts e).1
  refine rel_ite2 (by rw [ho]) ?_ (rel_ite2 (by rw [ho]) (rel_setting 7 h h' d e) (rel_ite2 (by rw [ho]) (rel_setting 8 h h' d e) (rel_put h h' d e)))
  exact ee_mk (el_cons e el_nil))
theorem rel_loop (d : Nat) : RelP EE (loop d) (loop d) := rel_bind (rel_need _) (fun _ _ _ => rel_bind (rel_expr d) (fun _ _ h => rel_bind (rel_block d) (fun _ _ g => ee_mk (el_cons h (el_cons g el_nil)))))
theorem rel_print (d : Nat) : RelP EE (print d) (print d) := rel_bind (rel_need _) (fun _ _ _ => rel_bind (rel_brack d) (fun _ _ h => rel_bind (rel_need _) (fun _ _ _ => ee_mk (el_cons h el_nil))))
theorem rel_giveBack (d : Nat) : RelP EE (giveBack d) (giveBack d) := rel_bind (rel_need _) (fun _ _ _ => rel_bind (E := EL) (fun _ _ _ => rel_ite el_nil (rel_bind (rel_expr d) (fun _ _ h => el_cons h el_nil))) (fun _ _ h => rel_bind (rel_need _) (fun _ _ _ => ee_mk h)))
theorem rel_other (d : Nat) : RelP EE (other d) (other d) := fun _ _ _ => rel_ite (rel_one _ _) (rel_block d)
theorem rel_branch (d : Nat) : RelP EE (branch d) (branch d) := rel_bind (rel_need _) (fun _ _ _ => rel_bind (rel_expr d) (fun _ _ h => rel_bind (rel_block d) (fun _ _ g _ _ _ => rel_ite (show RelP EE ((other d).bind _) _ from rel_bind (rel_other d) (fun _ _ f => ee_mk (el_cons h (el_cons g (el_cons f el_nil))))) (ee_mk (el_cons h (el_cons g el_nil))))))
theorem rel_stmt (d : Nat) : RelP EE (stmt d) (stmt d) := fun _ _ _ => rel_ite (rel_one _ _) (rel_ite (rel_loop d) (rel_ite (rel_print d) (rel_ite (rel_giveBack d) (rel_simple d))))
theorem rel_unary (d : Nat) : RelP EE (unary d) (unary d) := fun _ _ _ => rel_ite (rel_postfix d) (rel_bind (rel_enter _ _) (fun _ _ _ => rel_bind (rel_one _ _) (fun _ _ h => ee_mk (el_cons h el_nil))))
theorem rel_binary (l d : Nat) : RelP EE (binary l d) (binary l d) := ⟨rfl, rfl, fun _ _ h => ⟨rfl, rfl, fun _ _ g => ee_fold _ _ _ _ g (ee_hd h)⟩⟩
theorem rel_single {p : Pr Tree} (h : RelP EE p p) : RelP EL (single p) (single p) := rel_bind h (fun _ _ g => el_cons g el_nil)
theorem ee_half {t : AT} {i i' : Nat} {r r' : Tree} (h : EE r r') : EE (half t i r) (half t i' r') := by
  unfold half; split
  · exact ee_mk (el_cons h el_nil)
  · split <;> exact ee_mk (el_cons h el_nil)
theorem rel_body (nt : NT) (d : Nat) : RelP EL (body nt d) (body nt d) := by
  cases nt with
  | decls => exact fun _ _ _ => rel_ite el_nil (rel_bind (rel_decl d) (fun _ _ h => ⟨rfl, rfl, fun _ _ g => el_cons h g⟩))
  | parts => exact fun _ _ _ => rel_ite el_nil (rel_bind (rel_named 5) (fun _ _ h => ⟨rfl, rfl, fun _ _ g => el_cons h g⟩))
  | params => exact fun _ _ _ => rel_ite (show RelP EL ((typed 5).bind _) _ from rel_bind (rel_typed 5) (fun _ _ h => ⟨rfl, rfl, fun _ _ g => el_cons h g⟩)) (rel_bind (rel_need _) (fun _ _ _ => el_nil))
  | stmts => exact fun _ _ _ => rel_ite el_nil ⟨rfl, rfl, fun _ _ h => ⟨rfl, rfl, fun _ _ g => el_cons (ee_hd h) g⟩⟩
  | stmt => exact rel_single (rel_stmt d)
  | branch => exact rel_single (rel_branch d)
  | binary l => exact rel_single (rel_binary l d)
  | tail l => exact fun _ _ _ => rel_ite el_nil ⟨rfl, rfl, fun _ _ h => ⟨rfl, rfl, fun _ _ g => el_cons (ee_half (ee_hd h)) g⟩⟩
  | unary => exact rel_single (rel_unary d)
  | fields => exact fun _ _ _ => rel_ite (rel_bind rel_fieldName (fun _ _ h => ⟨rfl, rfl, fun _ _ g => el_cons (ee_bare h) g⟩)) el_nil
  | args => exact fun _ _ _ => rel_ite (show RelP EL ((expr d).bind _) _ from rel_bind (rel_expr d) (fun _ _ h => ⟨rfl, rfl, fun _ _ g => el_cons h g⟩)) (rel_bind (rel_need _) (fun _ _ _ => el_nil))

/-- Answers that are the same but for places, s tokens later. -/
def RelR {α : Type} (E : α → α → Prop) (s : Nat) (r : Option (Res α)) (r' : Option (Res α)) : Prop := match r, r' with
  | none, none => True
  | some (.bad j e), some (.bad j' e') => j' = j + s ∧ e' = e
  | some (.ok a j), some (.ok a' j') => j' = j + s ∧ E a a'
  | _, _ => False
theorem rel_run {α : Type} {E : α → α → Prop} {T T' : Nat → AT} {s : Nat} (hT : ∀ k, T' (k + s) = T k) {c c' : Callee} (hc : ∀ nt d i, RelR EL s (c nt d i) (c' nt d (i + s))) : ∀ (p p' : Pr α) (i : Nat), RelP E p p' → RelR E s (runW T c p i) (runW T' c' p' (i + s))
  | .ret a, .ret b, i, h => ⟨rfl, h⟩
  | .fail e, .fail e', i, h => ⟨rfl, Eq.symm h⟩
  | .peek k, .peek k', i, h => by
    show RelR E s (runW T c (k i (T i)) i) (runW T' c' (k' (i + s) (T' (i + s))) (i + s))
    rw [hT i]
    exact rel_run hT hc _ _ i (h i (i + s) (T i))
  | .next p, .next p', i, h => by
    show RelR E s (runW T c p (i + 1)) (runW T' c' p' (i + s + 1))
    rw [show i + s + 1 = i + 1 + s by omega]
    exact rel_run hT hc p p' (i + 1) h
  | .call nt d k, .call nt' d' k', i, h => by
    obtain ⟨rfl, rfl, h⟩ := h
    have g := hc nt d i
    simp only [runW]
    cases h1 : c nt d i with
    | none =>
      cases h2 : c' nt d (i + s) with
      | none => trivial
      | some r => rw [h1, h2] at g; cases r <;> exact g.elim
    | some r =>
      cases h2 : c' nt d (i + s) with
      | none => rw [h1, h2] at g; cases r <;> exact g.elim
      | some r' =>
        rw [h1, h2] at g
        cases r with
        | bad j e => cases r' with
          | bad j' e' => exact g
          | ok a' j' => exact g.elim
        | ok a j => cases r' with
          | bad j' e' => exact g.elim
          | ok a' j' =>
            obtain ⟨rfl, g⟩ := g
            exact rel_run hT hc _ _ j (h a a' g)
theorem P_shift {T T' : Nat → AT} {s : Nat} (hT : ∀ k, T' (k + s) = T k) (n : Nat) : ∀ nt d i, RelR EL s (P T n nt d i) (P T' n nt d (i + s)) := by
  induction n with
  | zero => intro nt d i; trivial
  | succ n ih => intro nt d i; exact rel_run hT ih _ _ i (rel_body nt d)

end Go.Proofs.YtkahbhfbgdbnfaaGreatDoor
