/-
  CONTRACT: endWith, block, branch of the shower. Nobody but the shower's own blocks has turned.
-/
import Derived.Test.YtfbejfoalnhihaaGreatDoorJ7
import Derived.Test.YtfbejfoalnhihaaGreatDoorJ5
import Derived.Deep.RegionHeld3
namespace Go.Proofs.YtfbejfoalnhihaaGreatDoor
open Go.RowKit

def showB (t : Tree) : List Tx := [cLC] ++ (t.kids.map showS).flatten ++ [cRC]
/-- The tree u is shown as a statement; as a block. -/
def ShS (sb : Nat) (pl : Nat → Nat) (u : Tree) : Prop :=
  ∀ (w' : World) (v' : Value) (xs' : List Tx) (nb : Nat), SH w' sb v' xs' → NodeAt (fun x => x < sb) pl w' nb u → xs'.length + (showS u).length + 1 ≤ 1000000 → Calls Tryz.prog 60 #[.pointer (some ⟨sb, 0, none⟩), .agg #[.pointer (some ⟨nb, 0, none⟩)]] w' (SQ sb v' w' (xs' ++ showS u))
def ShB (sb : Nat) (pl : Nat → Nat) (u : Tree) : Prop :=
  ∀ (w' : World) (v' : Value) (xs' : List Tx) (nb : Nat), SH w' sb v' xs' → NodeAt (fun x => x < sb) pl w' nb u → xs'.length + (showB u).length + 1 ≤ 1000000 → Calls Tryz.prog 84 #[.pointer (some ⟨sb, 0, none⟩), .agg #[.pointer (some ⟨nb, 0, none⟩)]] w' (SQ sb v' w' (xs' ++ showB u))
theorem take_flat (items : List (List Tx)) (k : Nat) (ys : List Tx) (h : items[k]? = some ys) : (items.take (k + 1)).flatten = (items.take k).flatten ++ ys := by
  have hk := (List.getElem?_eq_some_iff.1 h).1
  rw [List.take_succ_eq_append_getElem hk, (List.getElem?_eq_some_iff.1 h).2]
  simp
def BlRel (sb : Nat) (v : Value) (w wa : World) (xs : List Tx) (pl : Nat → Nat) (b : Nat) (t : Tree) (hd : List Tx) (items : List (List Tx)) (i : Value) (wr : World) : Prop :=
  ∃ (k : Nat) (vr : Value), k ≤ t.kids.length ∧ i = .int .i64 k ∧ Hid (SST sb v wa vr wr (xs ++ hd ++ (items.take k).flatten)) ∧ Hid (PtrAt wr w.heap.size (some ⟨b, 0, none⟩)) ∧ Hid (NodeAt (fun x => x < sb) pl wr b t)

set_option maxRecDepth 100000 in
set_option maxHeartbeats 400000 in
theorem endWith_any (w : World) (sb : Nat) (v : Value) (xs : List Tx) (pl : Nat → Nat) (b : Nat) (t : Tree) (h : SH w sb v xs) (hn : NodeAt (fun x => x < sb) pl w b t) (hE : ShE sb pl t) (hl : xs.length + ((showE t ++ [cSemi])).length + 1 ≤ 1000000) :
    Calls Tryz.prog 85 #[.pointer (some ⟨sb, 0, none⟩), .agg #[.pointer (some ⟨b, 0, none⟩)]] w (SQ sb v w (xs ++ (showE t ++ [cSemi]))) := by
  have HE := Lib.hid hE
  clear hE
  have H := Lib.hid h
  have hlt := h.lt
  have HBA := Lib.hid (b1 w (.cells #[.pointer (some ⟨b, 0, none⟩)] 25))
  have S0 := Lib.hid (SST.refl (h.below (b1 w (.cells #[.pointer (some ⟨b, 0, none⟩)] 25))))
  have U := Lib.hid (PtrAt.new w (some ⟨b, 0, none⟩))
  have N := Lib.hid (hn.bl (b1 w (.cells #[.pointer (some ⟨b, 0, none⟩)] 25)))
  have l0 := U.out.lt
  clear h hn
  have hfo := row_op
  have hfn := row_name
  clear hfo hfn
  go_enter Tryz.func85, Tryz.ntmps85
  have U0 := U.out.c0
  go_wp2_with fail
  clear U0
  generalize w.alloc (.cells #[.pointer (some ⟨b, 0, none⟩)] 25) = wa at *
  simp only [List.length_append, List.length_cons, List.length_nil] at hl
  refine (HE.out _ _ _ b S0.out.sh N.out (by first | omega | (simp only [List.length_append, List.length_cons, List.length_nil]; omega) | (simp only [List.length_append, List.length_cons, List.length_nil] at hl ⊢; omega))).mono ?_
  rintro e w1 ⟨v1, rfl, hs⟩
  have U1 := Lib.hid (U.out.sg hs.sg (by omega) (ub_ne S0.out H.out l0))
  have N1 := Lib.hid (N.out.low (hs.sg.low S0.out.sh))
  have S1 := Lib.hid (S0.out.trans hs)
  have z1 := hs.sg.size
  clear U N hs
  have U := U1
  have N := N1
  clear U1 N1
  have C2 := Lib.hid (show ∀ (j : Nat) (y : Tx), ([cSemi] : List Tx)[j]? = some y → (w1.alloc (.cells #[.string ⟨#[59]⟩] 9)).cell? ⟨w1.heap.size, j, none⟩ = some (.string ⟨y.toArray⟩) from lit_cells w1 [cSemi])
  have U2 := Lib.hid (U.out.below (b1 w1 (.cells #[.string ⟨#[59]⟩] 9)))
  have N2 := Lib.hid (N.out.bl (b1 w1 (.cells #[.string ⟨#[59]⟩] 9)))
  have S2 := Lib.hid (S1.out.below (b1 w1 (.cells #[.string ⟨#[59]⟩] 9)))
  have z2 := (b1 w1 (.cells #[.string ⟨#[59]⟩] 9)).size
  clear U N
  have U := U2
  have N := N2
  clear U2 N2
  have U0 := U.out.c0
  go_wp2_with fail
  clear U0
  generalize w1.alloc (.cells #[.string ⟨#[59]⟩] 9) = wb2 at *
  refine (add_any _ sb _ _ w1.heap.size 1 [cSemi] S2.out.sh (Lib.hid rfl) C2 (by omega) (by first | omega | (simp only [List.length_append]; omega) | (simp only [List.length_append, List.length_cons, List.length_nil] at hl ⊢; omega))).mono ?_
  rintro e w3 ⟨v3, rfl, hs⟩
  clear C2
  have U3 := Lib.hid (U.out.sg hs.sg (by omega) (ub_ne S2.out H.out l0))
  have N3 := Lib.hid (N.out.low (hs.sg.low S2.out.sh))
  have S3 := Lib.hid (S2.out.trans hs)
  have z3 := hs.sg.size
  clear U N hs
  have U := U3
  have N := N3
  clear U3 N3
  go_wp2_with fail
  first | refine bodyPost_end (v := .tuple #[]) (by simp [results, Tryz.results85, go_sem]) rfl ?_ | refine bodyPost_ret (v := .tuple #[]) (by simp [results, Tryz.results85, go_sem]) rfl ?_
  have hfin := ((SST.refl H.out).below HBA.out).trans S3.out
  have hx : xs ++ (showE t ++ [cSemi]) = ((xs ++ showE t) ++ [cSemi]) := by simp [List.append_assoc]
  first | exact ⟨_, rfl, hfin.cast hx.symm⟩ | exact ⟨_, rfl, hfin.cast (by simp [List.append_assoc])⟩

set_option maxRecDepth 100000 in
set_option maxHeartbeats 400000 in
theorem endWith_zero (w : World) (sb : Nat) (v : Value) (xs : List Tx) (h : SH w sb v xs) (hl : xs.length + 1 ≤ 1000000) :
    Calls Tryz.prog 85 #[.pointer (some ⟨sb, 0, none⟩), .agg #[.pointer none]] w (SQ sb v w (xs ++ [cSemi])) := by
  have H := Lib.hid h
  have hlt := h.lt
  have HBA := Lib.hid (b1 w (.cells #[.pointer none] 25))
  have S0 := Lib.hid (SST.refl (h.below (b1 w (.cells #[.pointer none] 25))))
  have U := Lib.hid (PtrAt.new w none)
  have l0 := U.out.lt
  clear h
  go_enter Tryz.func85, Tryz.ntmps85
  have U0 := U.out.c0
  go_wp2_with fail
  clear U0
  generalize w.alloc (.cells #[.pointer none] 25) = wa at *
  refine (expr_zero _ sb _ _ S0.out.sh).mono ?_
  rintro e w1 ⟨v1, rfl, hs⟩
  have S1 := Lib.hid (S0.out.trans hs)
  clear hs
  have C2 := Lib.hid (show ∀ (j : Nat) (y : Tx), ([cSemi] : List Tx)[j]? = some y → (w1.alloc (.cells #[.string ⟨#[59]⟩] 9)).cell? ⟨w1.heap.size, j, none⟩ = some (.string ⟨y.toArray⟩) from lit_cells w1 [cSemi])
  have S2 := Lib.hid (S1.out.below (b1 w1 (.cells #[.string ⟨#[59]⟩] 9)))
  go_wp2_with fail
  generalize w1.alloc (.cells #[.string ⟨#[59]⟩] 9) = wb2 at *
  refine (add_any _ sb _ _ w1.heap.size 1 [cSemi] S2.out.sh (Lib.hid rfl) C2 (by omega) (by omega)).mono ?_
  rintro e w3 ⟨v3, rfl, hs⟩
  have S3 := Lib.hid (S2.out.trans hs)
  clear hs C2
  go_wp2_with fail
  refine bodyPost_end (v := .tuple #[]) (by simp [results, Tryz.results85, go_sem]) rfl ?_
  exact ⟨_, rfl, ((SST.refl H.out).below HBA.out).trans S3.out⟩

set_option maxRecDepth 100000 in
set_option maxHeartbeats 1000000 in
theorem blockS_any (w : World) (sb : Nat) (v : Value) (xs : List Tx) (pl : Nat → Nat) (b : Nat) (t : Tree) (h : SH w sb v xs) (hn : NodeAt (fun x => x < sb) pl w b t) (hS : Hid (∀ (k : Nat) (u : Tree), t.kids[k]? = some u → ShS sb pl u)) (hk6 : t.kids.length ≤ 1000000) (hl : xs.length + ((showB t)).length + 1 ≤ 1000000) :
    Calls Tryz.prog 84 #[.pointer (some ⟨sb, 0, none⟩), .agg #[.pointer (some ⟨b, 0, none⟩)]] w (SQ sb v w (xs ++ (showB t))) := by
  have H := Lib.hid h
  have hlt := h.lt
  have HBA := Lib.hid (b1 w (.cells #[.pointer (some ⟨b, 0, none⟩)] 25))
  have S0 := Lib.hid (SST.refl (h.below (b1 w (.cells #[.pointer (some ⟨b, 0, none⟩)] 25))))
  have U := Lib.hid (PtrAt.new w (some ⟨b, 0, none⟩))
  have N := Lib.hid (hn.bl (b1 w (.cells #[.pointer (some ⟨b, 0, none⟩)] 25)))
  have l0 := U.out.lt
  clear h hn
  have hfo := row_op
  have hfn := row_name
  clear hfo hfn
  go_enter Tryz.func84, Tryz.ntmps84
  unfold showB at hl
  simp only [List.length_append, List.length_cons, List.length_nil] at hl
  have U0 := U.out.c0
  have C1 := Lib.hid (show ∀ (j : Nat) (y : Tx), ([cLC] : List Tx)[j]? = some y → ((w.alloc (.cells #[.pointer (some ⟨b, 0, none⟩)] 25)).alloc (.cells #[.string ⟨#[123]⟩] 9)).cell? ⟨(w.alloc (.cells #[.pointer (some ⟨b, 0, none⟩)] 25)).heap.size, j, none⟩ = some (.string ⟨y.toArray⟩) from lit_cells (w.alloc (.cells #[.pointer (some ⟨b, 0, none⟩)] 25)) [cLC])
  rw [show (w.alloc (.cells #[.pointer (some ⟨b, 0, none⟩)] 25)).heap.size = w.heap.size + 1 by simp] at C1
  have U1 := Lib.hid (U.out.below (b1 _ (.cells #[.string ⟨#[123]⟩] 9)))
  have N1 := Lib.hid (N.out.bl (b1 _ (.cells #[.string ⟨#[123]⟩] 9)))
  have S1 := Lib.hid (S0.out.below (b1 _ (.cells #[.string ⟨#[123]⟩] 9)))
  go_wp2_with fail
  clear U0
  generalize (w.alloc (.cells #[.pointer (some ⟨b, 0, none⟩)] 25)).alloc (.cells #[.string ⟨#[123]⟩] 9) = wb at *
  generalize w.alloc (.cells #[.pointer (some ⟨b, 0, none⟩)] 25) = wa at *
  clear U N
  have U := U1
  have N := N1
  clear U1 N1
  refine (add_any _ sb _ _ (w.heap.size + 1) 1 [cLC] S1.out.sh (Lib.hid rfl) C1 (by omega) (by omega)).mono ?_
  rintro e w2 ⟨v2, rfl, hs⟩
  clear C1
  have U2 := Lib.hid (U.out.sg hs.sg (by omega) (ub_ne S1.out H.out l0))
  have N2 := Lib.hid (N.out.low (hs.sg.low S1.out.sh))
  have S2 := Lib.hid (S1.out.trans hs)
  have z2 := hs.sg.size
  clear U N hs
  have U := U2
  have N := N2
  clear U2 N2
  have U0 := U.out.c0
  go_wp2_with fail
  clear U0
  obtain ⟨Ao, co, hro⟩ := N.out.rowOf
  refine (kids_of _ _ _ _ _ _ _ _ _ _ hro).mono ?_
  rintro e w3 ⟨rfl, hb⟩
  clear hro
  have U3 := Lib.hid (U.out.below hb)
  have N3 := Lib.hid (N.out.bl hb)
  have S3 := Lib.hid (S2.out.below hb)
  have z3 := hb.size
  clear U N
  have U := U3
  have N := N3
  clear U3 N3
  clear hb
  go_wp2_with fail
  go_loopw [10] (fun i wr => BlRel sb v w wa xs pl b t [cLC] (t.kids.map showS) i wr) (fun i _ => t.kids.length - (intOf i).toNat)
  case atStart => exact ⟨0, _, Nat.zero_le _, rfl, by show SST _ _ _ _ _ _; simpa using S3.out, U, N⟩
  case round =>
    obtain ⟨k, vr, hk, rfl, S, U, N⟩ := hrel
    by_cases hlt : k < t.kids.length
    · skip
      obtain ⟨u, hu⟩ := kid_is hlt
      have hy : (t.kids.map showS)[k]? = some (showS u) := by rw [List.getElem?_map, hu]; rfl
      have HU := Lib.hid hu
      have HCT := Lib.hid (take_flat _ k _ hy)
      have hfl := flat_take _ k _ hy
      clear hu hy
      have hki : (k : Int) < (t.kids.length : Int) := by omega
      try simp only [List.length_append, List.length_cons, List.length_nil] at hfl
      have U0 := U.out.c0
      go_wp2_with fail
      clear U0
      obtain ⟨nm, hm, hc⟩ := kid_at N.out k u HU.out
      refine hc.mono ?_
      rintro e w4 ⟨rfl, hb⟩
      have M := Lib.hid (hm.bl hb)
      have U4 := Lib.hid (U.out.below hb)
      have N4 := Lib.hid (N.out.bl hb)
      have S4 := Lib.hid (S.out.below hb)
      have z4 := hb.size
      clear U N
      have U := U4
      have N := N4
      clear U4 N4
      clear hb hc hm
      go_wp2_with fail
      refine (hS.out k u HU.out _ _ _ nm S4.out.sh M.out (by first | omega | (simp only [List.length_append, List.length_cons, List.length_nil]; omega) | (simp only [List.length_append, List.length_cons, List.length_nil] at hl ⊢; omega))).mono ?_
      rintro e w5 ⟨v5, rfl, hs⟩
      have U5 := Lib.hid (U.out.sg hs.sg (by omega) (ub_ne S4.out H.out l0))
      have N5 := Lib.hid (N.out.low (hs.sg.low S4.out.sh))
      have S5 := Lib.hid (S4.out.trans hs)
      have z5 := hs.sg.size
      clear U N hs
      have U := U5
      have N := N5
      clear U5 N5
      clear M
      go_wp2_with fail
      go_roundw
      case rel => exact ⟨k + 1, _, by omega, by go_num, by show SST _ _ _ _ _ _; have h9 := S5.out; rw [HCT.out]; simpa [List.append_assoc] using h9, U, N⟩
      case measure => simp [intOf]; omega
    · skip
      obtain rfl : k = t.kids.length := by omega
      have htk : ((t.kids.map showS)).take t.kids.length = (t.kids.map showS) := List.take_of_length_le (by rw [List.length_map]; exact Nat.le_refl _)
      rw [htk] at S
      clear htk
      have C7 := Lib.hid (show ∀ (j : Nat) (y : Tx), ([cRC] : List Tx)[j]? = some y → (wr.alloc (.cells #[.string ⟨#[125]⟩] 9)).cell? ⟨wr.heap.size, j, none⟩ = some (.string ⟨y.toArray⟩) from lit_cells wr [cRC])
      have U7 := Lib.hid (U.out.below (b1 wr (.cells #[.string ⟨#[125]⟩] 9)))
      have N7 := Lib.hid (N.out.bl (b1 wr (.cells #[.string ⟨#[125]⟩] 9)))
      have S7 := Lib.hid (S.out.below (b1 wr (.cells #[.string ⟨#[125]⟩] 9)))
      have z7 := (b1 wr (.cells #[.string ⟨#[125]⟩] 9)).size
      clear U N
      have U := U7
      have N := N7
      clear U7 N7
      have U0 := U.out.c0
      go_wp2_with fail
      clear U0
      generalize wr.alloc (.cells #[.string ⟨#[125]⟩] 9) = wb7 at *
      refine (add_any _ sb _ _ wr.heap.size 1 [cRC] S7.out.sh (Lib.hid rfl) C7 (by omega) (by first | omega | (simp only [List.length_append, List.length_cons, List.length_nil]; omega) | (simp only [List.length_append, List.length_cons, List.length_nil] at hl ⊢; omega))).mono ?_
      rintro e w8 ⟨v8, rfl, hs⟩
      clear C7
      have U8 := Lib.hid (U.out.sg hs.sg (by omega) (ub_ne S7.out H.out l0))
      have N8 := Lib.hid (N.out.low (hs.sg.low S7.out.sh))
      have S8 := Lib.hid (S7.out.trans hs)
      have z8 := hs.sg.size
      clear U N hs
      have U := U8
      have N := N8
      clear U8 N8
      go_wp2_with fail
      first | refine bodyPost_end (v := .tuple #[]) (by simp [results, Tryz.results84, go_sem]) rfl ?_ | refine bodyPost_ret (v := .tuple #[]) (by simp [results, Tryz.results84, go_sem]) rfl ?_
      have hfin := ((SST.refl H.out).below HBA.out).trans S8.out
      have hx : xs ++ (showB t) = ((xs ++ [cLC] ++ (t.kids.map showS).flatten) ++ [cRC]) := by unfold showB; simp [List.append_assoc]
      first | exact ⟨_, rfl, hfin.cast hx.symm⟩ | exact ⟨_, rfl, hfin.cast (by simp [List.append_assoc])⟩

set_option maxRecDepth 100000 in
set_option maxHeartbeats 1000000 in
theorem branch2 (w : World) (sb : Nat) (v : Value) (xs : List Tx) (pl : Nat → Nat) (b : Nat) (t : Tree) (u0 u1 : Tree) (h : SH w sb v xs) (hn : NodeAt (fun x => x < sb) pl w b t) (hu0 : Hid (t.kids[0]? = some u0)) (hu1 : Hid (t.kids[1]? = some u1)) (hlen : t.kids.length = 2) (hE0 : Hid (ShE sb pl u0)) (hB1 : Hid (ShB sb pl u1)) (hl : xs.length + (([kIf] ++ showE u0 ++ showB u1)).length + 1 ≤ 1000000) :
    Calls Tryz.prog 87 #[.pointer (some ⟨sb, 0, none⟩), .agg #[.pointer (some ⟨b, 0, none⟩)]] w (SQ sb v w (xs ++ ([kIf] ++ showE u0 ++ showB u1))) := by
  have H := Lib.hid h
  have hlt := h.lt
  have HBA := Lib.hid (b1 w (.cells #[.pointer (some ⟨b, 0, none⟩)] 25))
  have S0 := Lib.hid (SST.refl (h.below (b1 w (.cells #[.pointer (some ⟨b, 0, none⟩)] 25))))
  have U := Lib.hid (PtrAt.new w (some ⟨b, 0, none⟩))
  have N := Lib.hid (hn.bl (b1 w (.cells #[.pointer (some ⟨b, 0, none⟩)] 25)))
  have l0 := U.out.lt
  clear h hn
  have hfo := row_op
  have hfn := row_name
  clear hfo hfn
  go_enter Tryz.func87, Tryz.ntmps87
  simp only [List.length_append, List.length_cons, List.length_nil] at hl
  have U0 := U.out.c0
  have C1 := Lib.hid (show ∀ (j : Nat) (y : Tx), ([kIf] : List Tx)[j]? = some y → ((w.alloc (.cells #[.pointer (some ⟨b, 0, none⟩)] 25)).alloc (.cells #[.string ⟨#[105, 102]⟩] 9)).cell? ⟨(w.alloc (.cells #[.pointer (some ⟨b, 0, none⟩)] 25)).heap.size, j, none⟩ = some (.string ⟨y.toArray⟩) from lit_cells (w.alloc (.cells #[.pointer (some ⟨b, 0, none⟩)] 25)) [kIf])
  rw [show (w.alloc (.cells #[.pointer (some ⟨b, 0, none⟩)] 25)).heap.size = w.heap.size + 1 by simp] at C1
  have U1 := Lib.hid (U.out.below (b1 _ (.cells #[.string ⟨#[105, 102]⟩] 9)))
  have N1 := Lib.hid (N.out.bl (b1 _ (.cells #[.string ⟨#[105, 102]⟩] 9)))
  have S1 := Lib.hid (S0.out.below (b1 _ (.cells #[.string ⟨#[105, 102]⟩] 9)))
  go_wp2_with fail
  clear U0
  generalize (w.alloc (.cells #[.pointer (some ⟨b, 0, none⟩)] 25)).alloc (.cells #[.string ⟨#[105, 102]⟩] 9) = wb at *
  generalize w.alloc (.cells #[.pointer (some ⟨b, 0, none⟩)] 25) = wa at *
  clear U N
  have U := U1
  have N := N1
  clear U1 N1
  refine (add_any _ sb _ _ (w.heap.size + 1) 1 [kIf] S1.out.sh (Lib.hid rfl) C1 (by omega) (by omega)).mono ?_
  rintro e w2 ⟨v2, rfl, hs⟩
  clear C1
  have U2 := Lib.hid (U.out.sg hs.sg (by omega) (ub_ne S1.out H.out l0))
  have N2 := Lib.hid (N.out.low (hs.sg.low S1.out.sh))
  have S2 := Lib.hid (S1.out.trans hs)
  have z2 := hs.sg.size
  clear U N hs
  have U := U2
  have N := N2
  clear U2 N2
  have U0 := U.out.c0
  go_wp2_with fail
  clear U0
  obtain ⟨nm, hm, hc⟩ := kid_at N.out 0 u0 hu0.out
  refine hc.mono ?_
  rintro e w3 ⟨rfl, hb⟩
  have M := Lib.hid (hm.bl hb)
  have U3 := Lib.hid (U.out.below hb)
  have N3 := Lib.hid (N.out.bl hb)
  have S3 := Lib.hid (S2.out.below hb)
  have z3 := hb.size
  clear U N
  have U := U3
  have N := N3
  clear U3 N3
  clear hb hc hm
  go_wp2_with fail
  refine (hE0.out _ _ _ nm S3.out.sh M.out (by first | omega | (simp only [List.length_append, List.length_cons, List.length_nil]; omega) | (simp only [List.length_append, List.length_cons, List.length_nil] at hl ⊢; omega))).mono ?_
  rintro e w4 ⟨v4, rfl, hs⟩
  have U4 := Lib.hid (U.out.sg hs.sg (by omega) (ub_ne S3.out H.out l0))
  have N4 := Lib.hid (N.out.low (hs.sg.low S3.out.sh))
  have S4 := Lib.hid (S3.out.trans hs)
  have z4 := hs.sg.size
  clear U N hs
  have U := U4
  have N := N4
  clear U4 N4
  clear M
  have U0 := U.out.c0
  go_wp2_with fail
  clear U0
  obtain ⟨nm, hm, hc⟩ := kid_at N.out 1 u1 hu1.out
  refine hc.mono ?_
  rintro e w5 ⟨rfl, hb⟩
  have M := Lib.hid (hm.bl hb)
  have U5 := Lib.hid (U.out.below hb)
  have N5 := Lib.hid (N.out.bl hb)
  have S5 := Lib.hid (S4.out.below hb)
  have z5 := hb.size
  clear U N
  have U := U5
  have N := N5
  clear U5 N5
  clear hb hc hm
  go_wp2_with fail
  refine (hB1.out _ _ _ nm S5.out.sh M.out (by first | omega | (simp only [List.length_append, List.length_cons, List.length_nil]; omega) | (simp only [List.length_append, List.length_cons, List.length_nil] at hl ⊢; omega))).mono ?_
  rintro e w6 ⟨v6, rfl, hs⟩
  have U6 := Lib.hid (U.out.sg hs.sg (by omega) (ub_ne S5.out H.out l0))
  have N6 := Lib.hid (N.out.low (hs.sg.low S5.out.sh))
  have S6 := Lib.hid (S5.out.trans hs)
  have z6 := hs.sg.size
  clear U N hs
  have U := U6
  have N := N6
  clear U6 N6
  clear M
  have U0 := U.out.c0
  go_wp2_with fail
  clear U0
  obtain ⟨Ao, co, hro⟩ := N.out.rowOf
  refine (kids_of _ _ _ _ _ _ _ _ _ _ hro).mono ?_
  rintro e w7 ⟨rfl, hb⟩
  clear hro
  have U7 := Lib.hid (U.out.below hb)
  have N7 := Lib.hid (N.out.bl hb)
  have S7 := Lib.hid (S6.out.below hb)
  have z7 := hb.size
  clear U N
  have U := U7
  have N := N7
  clear U7 N7
  clear hb
  go_wp2_with fail
  first | refine bodyPost_end (v := .tuple #[]) (by simp [results, Tryz.results87, go_sem]) rfl ?_ | refine bodyPost_ret (v := .tuple #[]) (by simp [results, Tryz.results87, go_sem]) rfl ?_
  have hfin := ((SST.refl H.out).below HBA.out).trans S7.out
  have hx : xs ++ ([kIf] ++ showE u0 ++ showB u1) = (((xs ++ [kIf]) ++ showE u0) ++ showB u1) := by simp [List.append_assoc]
  first | exact ⟨_, rfl, hfin.cast hx.symm⟩ | exact ⟨_, rfl, hfin.cast (by simp [List.append_assoc])⟩

set_option maxRecDepth 100000 in
set_option maxHeartbeats 1000000 in
theorem branch3 (w : World) (sb : Nat) (v : Value) (xs : List Tx) (pl : Nat → Nat) (b : Nat) (t : Tree) (u0 u1 u2 : Tree) (h : SH w sb v xs) (hn : NodeAt (fun x => x < sb) pl w b t) (hu0 : Hid (t.kids[0]? = some u0)) (hu1 : Hid (t.kids[1]? = some u1)) (hu2 : Hid (t.kids[2]? = some u2)) (hS2 : Hid (ShS sb pl u2)) (hlen : 2 < t.kids.length) (hE0 : Hid (ShE sb pl u0)) (hB1 : Hid (ShB sb pl u1)) (hl : xs.length + (([kIf] ++ showE u0 ++ showB u1 ++ ([kElse] ++ showS u2))).length + 1 ≤ 1000000) :
    Calls Tryz.prog 87 #[.pointer (some ⟨sb, 0, none⟩), .agg #[.pointer (some ⟨b, 0, none⟩)]] w (SQ sb v w (xs ++ ([kIf] ++ showE u0 ++ showB u1 ++ ([kElse] ++ showS u2)))) := by
  have H := Lib.hid h
  have hlt := h.lt
  have HBA := Lib.hid (b1 w (.cells #[.pointer (some ⟨b, 0, none⟩)] 25))
  have S0 := Lib.hid (SST.refl (h.below (b1 w (.cells #[.pointer (some ⟨b, 0, none⟩)] 25))))
  have U := Lib.hid (PtrAt.new w (some ⟨b, 0, none⟩))
  have N := Lib.hid (hn.bl (b1 w (.cells #[.pointer (some ⟨b, 0, none⟩)] 25)))
  have l0 := U.out.lt
  clear h hn
  have hfo := row_op
  have hfn := row_name
  clear hfo hfn
  go_enter Tryz.func87, Tryz.ntmps87
  simp only [List.length_append, List.length_cons, List.length_nil] at hl
  have U0 := U.out.c0
  have C1 := Lib.hid (show ∀ (j : Nat) (y : Tx), ([kIf] : List Tx)[j]? = some y → ((w.alloc (.cells #[.pointer (some ⟨b, 0, none⟩)] 25)).alloc (.cells #[.string ⟨#[105, 102]⟩] 9)).cell? ⟨(w.alloc (.cells #[.pointer (some ⟨b, 0, none⟩)] 25)).heap.size, j, none⟩ = some (.string ⟨y.toArray⟩) from lit_cells (w.alloc (.cells #[.pointer (some ⟨b, 0, none⟩)] 25)) [kIf])
  rw [show (w.alloc (.cells #[.pointer (some ⟨b, 0, none⟩)] 25)).heap.size = w.heap.size + 1 by simp] at C1
  have U1 := Lib.hid (U.out.below (b1 _ (.cells #[.string ⟨#[105, 102]⟩] 9)))
  have N1 := Lib.hid (N.out.bl (b1 _ (.cells #[.string ⟨#[105, 102]⟩] 9)))
  have S1 := Lib.hid (S0.out.below (b1 _ (.cells #[.string ⟨#[105, 102]⟩] 9)))
  go_wp2_with fail
  clear U0
  generalize (w.alloc (.cells #[.pointer (some ⟨b, 0, none⟩)] 25)).alloc (.cells #[.string ⟨#[105, 102]⟩] 9) = wb at *
  generalize w.alloc (.cells #[.pointer (some ⟨b, 0, none⟩)] 25) = wa at *
  clear U N
  have U := U1
  have N := N1
  clear U1 N1
  refine (add_any _ sb _ _ (w.heap.size + 1) 1 [kIf] S1.out.sh (Lib.hid rfl) C1 (by omega) (by omega)).mono ?_
  rintro e w2 ⟨v2, rfl, hs⟩
  clear C1
  have U2 := Lib.hid (U.out.sg hs.sg (by omega) (ub_ne S1.out H.out l0))
  have N2 := Lib.hid (N.out.low (hs.sg.low S1.out.sh))
  have S2 := Lib.hid (S1.out.trans hs)
  have z2 := hs.sg.size
  clear U N hs
  have U := U2
  have N := N2
  clear U2 N2
  have U0 := U.out.c0
  go_wp2_with fail
  clear U0
  obtain ⟨nm, hm, hc⟩ := kid_at N.out 0 u0 hu0.out
  refine hc.mono ?_
  rintro e w3 ⟨rfl, hb⟩
  have M := Lib.hid (hm.bl hb)
  have U3 := Lib.hid (U.out.below hb)
  have N3 := Lib.hid (N.out.bl hb)
  have S3 := Lib.hid (S2.out.below hb)
  have z3 := hb.size
  clear U N
  have U := U3
  have N := N3
  clear U3 N3
  clear hb hc hm
  go_wp2_with fail
  refine (hE0.out _ _ _ nm S3.out.sh M.out (by first | omega | (simp only [List.length_append, List.length_cons, List.length_nil]; omega) | (simp only [List.length_append, List.length_cons, List.length_nil] at hl ⊢; omega))).mono ?_
  rintro e w4 ⟨v4, rfl, hs⟩
  have U4 := Lib.hid (U.out.sg hs.sg (by omega) (ub_ne S3.out H.out l0))
  have N4 := Lib.hid (N.out.low (hs.sg.low S3.out.sh))
  have S4 := Lib.hid (S3.out.trans hs)
  have z4 := hs.sg.size
  clear U N hs
  have U := U4
  have N := N4
  clear U4 N4
  clear M
  have U0 := U.out.c0
  go_wp2_with fail
  clear U0
  obtain ⟨nm, hm, hc⟩ := kid_at N.out 1 u1 hu1.out
  refine hc.mono ?_
  rintro e w5 ⟨rfl, hb⟩
  have M := Lib.hid (hm.bl hb)
  have U5 := Lib.hid (U.out.below hb)
  have N5 := Lib.hid (N.out.bl hb)
  have S5 := Lib.hid (S4.out.below hb)
  have z5 := hb.size
  clear U N
  have U := U5
  have N := N5
  clear U5 N5
  clear hb hc hm
  go_wp2_with fail
  refine (hB1.out _ _ _ nm S5.out.sh M.out (by first | omega | (simp only [List.length_append, List.length_cons, List.length_nil]; omega) | (simp only [List.length_append, List.length_cons, List.length_nil] at hl ⊢; omega))).mono ?_
  rintro e w6 ⟨v6, rfl, hs⟩
  have U6 := Lib.hid (U.out.sg hs.sg (by omega) (ub_ne S5.out H.out l0))
  have N6 := Lib.hid (N.out.low (hs.sg.low S5.out.sh))
  have S6 := Lib.hid (S5.out.trans hs)
  have z6 := hs.sg.size
  clear U N hs
  have U := U6
  have N := N6
  clear U6 N6
  clear M
  have U0 := U.out.c0
  go_wp2_with fail
  clear U0
  obtain ⟨Ao, co, hro⟩ := N.out.rowOf
  refine (kids_of _ _ _ _ _ _ _ _ _ _ hro).mono ?_
  rintro e w7 ⟨rfl, hb⟩
  clear hro
  have U7 := Lib.hid (U.out.below hb)
  have N7 := Lib.hid (N.out.bl hb)
  have S7 := Lib.hid (S6.out.below hb)
  have z7 := hb.size
  clear U N
  have U := U7
  have N := N7
  clear U7 N7
  clear hb
  have hki : (2 : Int) < (t.kids.length : Int) := by omega
  have C8 := Lib.hid (show ∀ (j : Nat) (y : Tx), ([kElse] : List Tx)[j]? = some y → (w7.alloc (.cells #[.string ⟨#[101, 108, 115, 101]⟩] 9)).cell? ⟨w7.heap.size, j, none⟩ = some (.string ⟨y.toArray⟩) from lit_cells w7 [kElse])
  have U8 := Lib.hid (U.out.below (b1 w7 (.cells #[.string ⟨#[101, 108, 115, 101]⟩] 9)))
  have N8 := Lib.hid (N.out.bl (b1 w7 (.cells #[.string ⟨#[101, 108, 115, 101]⟩] 9)))
  have S8 := Lib.hid (S7.out.below (b1 w7 (.cells #[.string ⟨#[101, 108, 115, 101]⟩] 9)))
  have z8 := (b1 w7 (.cells #[.string ⟨#[101, 108, 115, 101]⟩] 9)).size
  clear U N
  have U := U8
  have N := N8
  clear U8 N8
  have U0 := U.out.c0
  go_wp2_with fail
  clear U0
  generalize w7.alloc (.cells #[.string ⟨#[101, 108, 115, 101]⟩] 9) = wb8 at *
  refine (add_any _ sb _ _ w7.heap.size 1 [kElse] S8.out.sh (Lib.hid rfl) C8 (by omega) (by first | omega | (simp only [List.length_append, List.length_cons, List.length_nil]; omega) | (simp only [List.length_append, List.length_cons, List.length_nil] at hl ⊢; omega))).mono ?_
  rintro e w9 ⟨v9, rfl, hs⟩
  clear C8
  have U9 := Lib.hid (U.out.sg hs.sg (by omega) (ub_ne S8.out H.out l0))
  have N9 := Lib.hid (N.out.low (hs.sg.low S8.out.sh))
  have S9 := Lib.hid (S8.out.trans hs)
  have z9 := hs.sg.size
  clear U N hs
  have U := U9
  have N := N9
  clear U9 N9
  have U0 := U.out.c0
  go_wp2_with fail
  clear U0
  obtain ⟨nm, hm, hc⟩ := kid_at N.out 2 u2 hu2.out
  refine hc.mono ?_
  rintro e w10 ⟨rfl, hb⟩
  have M := Lib.hid (hm.bl hb)
  have U10 := Lib.hid (U.out.below hb)
  have N10 := Lib.hid (N.out.bl hb)
  have S10 := Lib.hid (S9.out.below hb)
  have z10 := hb.size
  clear U N
  have U := U10
  have N := N10
  clear U10 N10
  clear hb hc hm
  go_wp2_with fail
  refine (hS2.out _ _ _ nm S10.out.sh M.out (by first | omega | (simp only [List.length_append, List.length_cons, List.length_nil]; omega) | (simp only [List.length_append, List.length_cons, List.length_nil] at hl ⊢; omega))).mono ?_
  rintro e w11 ⟨v11, rfl, hs⟩
  have U11 := Lib.hid (U.out.sg hs.sg (by omega) (ub_ne S10.out H.out l0))
  have N11 := Lib.hid (N.out.low (hs.sg.low S10.out.sh))
  have S11 := Lib.hid (S10.out.trans hs)
  have z11 := hs.sg.size
  clear U N hs
  have U := U11
  have N := N11
  clear U11 N11
  clear M
  go_wp2_with fail
  first | refine bodyPost_end (v := .tuple #[]) (by simp [results, Tryz.results87, go_sem]) rfl ?_ | refine bodyPost_ret (v := .tuple #[]) (by simp [results, Tryz.results87, go_sem]) rfl ?_
  have hfin := ((SST.refl H.out).below HBA.out).trans S11.out
  have hx : xs ++ ([kIf] ++ showE u0 ++ showB u1 ++ ([kElse] ++ showS u2)) = (((((xs ++ [kIf]) ++ showE u0) ++ showB u1) ++ [kElse]) ++ showS u2) := by simp [List.append_assoc]
  first | exact ⟨_, rfl, hfin.cast hx.symm⟩ | exact ⟨_, rfl, hfin.cast (by simp [List.append_assoc])⟩

end Go.Proofs.YtfbejfoalnhihaaGreatDoor

/-
  CONTRACT: statement of the shower, way by way. Nobody but the shower's own blocks has turned.
-/
namespace Go.Proofs.YtfbejfoalnhihaaGreatDoor
open Go.RowKit

set_option maxRecDepth 100000 in
set_option maxHeartbeats 1000000 in
theorem stmt_6 (w : World) (sb : Nat) (v : Value) (xs : List Tx) (pl : Nat → Nat) (b : Nat) (t : Tree) (h : SH w sb v xs) (hn : NodeAt (fun x => x < sb) pl w b t) (hop : t.op = 6) (hB : Hid (ShB sb pl t)) (hl : xs.length + ((showB t)).length + 1 ≤ 1000000) :
    Calls Tryz.prog 60 #[.pointer (some ⟨sb, 0, none⟩), .agg #[.pointer (some ⟨b, 0, none⟩)]] w (SQ sb v w (xs ++ (showB t))) := by
  have H := Lib.hid h
  have hlt := h.lt
  have HBA := Lib.hid (b1 w (.cells #[.pointer (some ⟨b, 0, none⟩)] 25))
  have S0 := Lib.hid (SST.refl (h.below (b1 w (.cells #[.pointer (some ⟨b, 0, none⟩)] 25))))
  have U := Lib.hid (PtrAt.new w (some ⟨b, 0, none⟩))
  have N := Lib.hid (hn.bl (b1 w (.cells #[.pointer (some ⟨b, 0, none⟩)] 25)))
  have l0 := U.out.lt
  clear h hn
  have hfo := row_op
  have hfn := row_name
  clear hfo hfn
  go_enter Tryz.func60, Tryz.ntmps60
  have U0 := U.out.c0
  go_wp2_with fail
  clear U0
  generalize w.alloc (.cells #[.pointer (some ⟨b, 0, none⟩)] 25) = wa at *
  obtain ⟨Ao, co, hro⟩ := N.out.rowOf
  refine (op_of _ _ _ _ _ _ _ _ _ _ hro).mono ?_
  rintro e w1 ⟨rfl, hb⟩
  clear hro
  have U1 := Lib.hid (U.out.below hb)
  have N1 := Lib.hid (N.out.bl hb)
  have S1 := Lib.hid (S0.out.below hb)
  have z1 := hb.size
  clear U N
  have U := U1
  have N := N1
  clear U1 N1
  clear hb
  have U0 := U.out.c0
  go_wp2_with fail
  clear U0
  refine (hB.out _ _ _ b S1.out.sh N.out hl).mono ?_
  rintro e w2 ⟨v2, rfl, hs⟩
  have U2 := Lib.hid (U.out.sg hs.sg (by omega) (ub_ne S1.out H.out l0))
  have N2 := Lib.hid (N.out.low (hs.sg.low S1.out.sh))
  have S2 := Lib.hid (S1.out.trans hs)
  have z2 := hs.sg.size
  clear U N hs
  have U := U2
  have N := N2
  clear U2 N2
  go_wp2_with fail
  first | refine bodyPost_end (v := .tuple #[]) (by simp [results, Tryz.results60, go_sem]) rfl ?_ | refine bodyPost_ret (v := .tuple #[]) (by simp [results, Tryz.results60, go_sem]) rfl ?_
  have hfin := ((SST.refl H.out).below HBA.out).trans S2.out
  have hx : xs ++ (showB t) = (xs ++ showB t) := by simp
  first | exact ⟨_, rfl, hfin.cast hx.symm⟩ | exact ⟨_, rfl, hfin.cast (by simp [List.append_assoc])⟩

set_option maxRecDepth 100000 in
set_option maxHeartbeats 1000000 in
theorem stmt_7 (w : World) (sb : Nat) (v : Value) (xs : List Tx) (pl : Nat → Nat) (b : Nat) (t : Tree) (u0 : Tree) (h : SH w sb v xs) (hn : NodeAt (fun x => x < sb) pl w b t) (hop : t.op = 7) (hu0 : Hid (t.kids[0]? = some u0)) (hE0 : Hid (ShE sb pl u0)) (hl : xs.length + (([t.name, cDef] ++ (showE u0 ++ [cSemi]))).length + 1 ≤ 1000000) :
    Calls Tryz.prog 60 #[.pointer (some ⟨sb, 0, none⟩), .agg #[.pointer (some ⟨b, 0, none⟩)]] w (SQ sb v w (xs ++ ([t.name, cDef] ++ (showE u0 ++ [cSemi])))) := by
  have H := Lib.hid h
  have hlt := h.lt
  have HBA := Lib.hid (b1 w (.cells #[.pointer (some ⟨b, 0, none⟩)] 25))
  have S0 := Lib.hid (SST.refl (h.below (b1 w (.cells #[.pointer (some ⟨b, 0, none⟩)] 25))))
  have U := Lib.hid (PtrAt.new w (some ⟨b, 0, none⟩))
  have N := Lib.hid (hn.bl (b1 w (.cells #[.pointer (some ⟨b, 0, none⟩)] 25)))
  have l0 := U.out.lt
  clear h hn
  have hfo := row_op
  have hfn := row_name
  clear hfo hfn
  go_enter Tryz.func60, Tryz.ntmps60
  have U0 := U.out.c0
  go_wp2_with fail
  clear U0
  generalize w.alloc (.cells #[.pointer (some ⟨b, 0, none⟩)] 25) = wa at *
  obtain ⟨Ao, co, hro⟩ := N.out.rowOf
  refine (op_of _ _ _ _ _ _ _ _ _ _ hro).mono ?_
  rintro e w1 ⟨rfl, hb⟩
  clear hro
  have U1 := Lib.hid (U.out.below hb)
  have N1 := Lib.hid (N.out.bl hb)
  have S1 := Lib.hid (S0.out.below hb)
  have z1 := hb.size
  clear U N
  have U := U1
  have N := N1
  clear U1 N1
  clear hb
  simp only [List.length_append, List.length_cons, List.length_nil] at hl
  have U0 := U.out.c0
  go_wp2_with fail
  clear U0
  obtain ⟨Ao, co, hro⟩ := N.out.rowOf
  refine (name_of _ _ _ _ _ _ _ _ _ _ hro).mono ?_
  rintro e w2 ⟨rfl, hb⟩
  clear hro
  have U2 := Lib.hid (U.out.below hb)
  have N2 := Lib.hid (N.out.bl hb)
  have S2 := Lib.hid (S1.out.below hb)
  have z2 := hb.size
  clear U N
  have U := U2
  have N := N2
  clear U2 N2
  clear hb
  have C3 := Lib.hid (show ∀ (j : Nat) (y : Tx), ([t.name, cDef] : List Tx)[j]? = some y → (w2.alloc (.cells #[.string ⟨t.name.toArray⟩, .string ⟨#[58, 61]⟩] 9)).cell? ⟨w2.heap.size, j, none⟩ = some (.string ⟨y.toArray⟩) from lit_cells w2 [t.name, cDef])
  have U3 := Lib.hid (U.out.below (b1 w2 (.cells #[.string ⟨t.name.toArray⟩, .string ⟨#[58, 61]⟩] 9)))
  have N3 := Lib.hid (N.out.bl (b1 w2 (.cells #[.string ⟨t.name.toArray⟩, .string ⟨#[58, 61]⟩] 9)))
  have S3 := Lib.hid (S2.out.below (b1 w2 (.cells #[.string ⟨t.name.toArray⟩, .string ⟨#[58, 61]⟩] 9)))
  have z3 := (b1 w2 (.cells #[.string ⟨t.name.toArray⟩, .string ⟨#[58, 61]⟩] 9)).size
  clear U N
  have U := U3
  have N := N3
  clear U3 N3
  have U0 := U.out.c0
  go_wp2_with fail
  clear U0
  generalize w2.alloc (.cells #[.string ⟨t.name.toArray⟩, .string ⟨#[58, 61]⟩] 9) = wb3 at *
  refine (add_any _ sb _ _ w2.heap.size 2 [t.name, cDef] S3.out.sh (Lib.hid rfl) C3 (by omega) (by first | omega | (simp only [List.length_append, List.length_cons, List.length_nil]; omega) | (simp only [List.length_append, List.length_cons, List.length_nil] at hl ⊢; omega))).mono ?_
  rintro e w4 ⟨v4, rfl, hs⟩
  clear C3
  have U4 := Lib.hid (U.out.sg hs.sg (by omega) (ub_ne S3.out H.out l0))
  have N4 := Lib.hid (N.out.low (hs.sg.low S3.out.sh))
  have S4 := Lib.hid (S3.out.trans hs)
  have z4 := hs.sg.size
  clear U N hs
  have U := U4
  have N := N4
  clear U4 N4
  have U0 := U.out.c0
  go_wp2_with fail
  clear U0
  obtain ⟨nm, hm, hc⟩ := kid_at N.out 0 u0 hu0.out
  refine hc.mono ?_
  rintro e w5 ⟨rfl, hb⟩
  have M := Lib.hid (hm.bl hb)
  have U5 := Lib.hid (U.out.below hb)
  have N5 := Lib.hid (N.out.bl hb)
  have S5 := Lib.hid (S4.out.below hb)
  have z5 := hb.size
  clear U N
  have U := U5
  have N := N5
  clear U5 N5
  clear hb hc hm
  go_wp2_with fail
  refine (endWith_any _ sb _ _ pl nm u0 S5.out.sh M.out hE0.out (by first | omega | (simp only [List.length_append, List.length_cons, List.length_nil]; omega) | (simp only [List.length_append, List.length_cons, List.length_nil] at hl ⊢; omega))).mono ?_
  rintro e w6 ⟨v6, rfl, hs⟩
  have U6 := Lib.hid (U.out.sg hs.sg (by omega) (ub_ne S5.out H.out l0))
  have N6 := Lib.hid (N.out.low (hs.sg.low S5.out.sh))
  have S6 := Lib.hid (S5.out.trans hs)
  have z6 := hs.sg.size
  clear U N hs
  have U := U6
  have N := N6
  clear U6 N6
  clear M
  go_wp2_with fail
  first | refine bodyPost_end (v := .tuple #[]) (by simp [results, Tryz.results60, go_sem]) rfl ?_ | refine bodyPost_ret (v := .tuple #[]) (by simp [results, Tryz.results60, go_sem]) rfl ?_
  have hfin := ((SST.refl H.out).below HBA.out).trans S6.out
  have hx : xs ++ ([t.name, cDef] ++ (showE u0 ++ [cSemi])) = ((xs ++ [t.name, cDef]) ++ (showE u0 ++ [cSemi])) := by simp [List.append_assoc]
  first | exact ⟨_, rfl, hfin.cast hx.symm⟩ | exact ⟨_, rfl, hfin.cast (by simp [List.append_assoc])⟩

set_option maxRecDepth 100000 in
set_option maxHeartbeats 1000000 in
theorem stmt_8 (w : World) (sb : Nat) (v : Value) (xs : List Tx) (pl : Nat → Nat) (b : Nat) (t : Tree) (u0 : Tree) (h : SH w sb v xs) (hn : NodeAt (fun x => x < sb) pl w b t) (hop : t.op = 8) (hu0 : Hid (t.kids[0]? = some u0)) (hE0 : Hid (ShE sb pl u0)) (hl : xs.length + (([t.name, cEq] ++ (showE u0 ++ [cSemi]))).length + 1 ≤ 1000000) :
    Calls Tryz.prog 60 #[.pointer (some ⟨sb, 0, none⟩), .agg #[.pointer (some ⟨b, 0, none⟩)]] w (SQ sb v w (xs ++ ([t.name, cEq] ++ (showE u0 ++ [cSemi])))) := by
  have H := Lib.hid h
  have hlt := h.lt
  have HBA := Lib.hid (b1 w (.cells #[.pointer (some ⟨b, 0, none⟩)] 25))
  have S0 := Lib.hid (SST.refl (h.below (b1 w (.cells #[.pointer (some ⟨b, 0, none⟩)] 25))))
  have U := Lib.hid (PtrAt.new w (some ⟨b, 0, none⟩))
  have N := Lib.hid (hn.bl (b1 w (.cells #[.pointer (some ⟨b, 0, none⟩)] 25)))
  have l0 := U.out.lt
  clear h hn
  have hfo := row_op
  have hfn := row_name
  clear hfo hfn
  go_enter Tryz.func60, Tryz.ntmps60
  have U0 := U.out.c0
  go_wp2_with fail
  clear U0
  generalize w.alloc (.cells #[.pointer (some ⟨b, 0, none⟩)] 25) = wa at *
  obtain ⟨Ao, co, hro⟩ := N.out.rowOf
  refine (op_of _ _ _ _ _ _ _ _ _ _ hro).mono ?_
  rintro e w1 ⟨rfl, hb⟩
  clear hro
  have U1 := Lib.hid (U.out.below hb)
  have N1 := Lib.hid (N.out.bl hb)
  have S1 := Lib.hid (S0.out.below hb)
  have z1 := hb.size
  clear U N
  have U := U1
  have N := N1
  clear U1 N1
  clear hb
  simp only [List.length_append, List.length_cons, List.length_nil] at hl
  have U0 := U.out.c0
  go_wp2_with fail
  clear U0
  obtain ⟨Ao, co, hro⟩ := N.out.rowOf
  refine (name_of _ _ _ _ _ _ _ _ _ _ hro).mono ?_
  rintro e w2 ⟨rfl, hb⟩
  clear hro
  have U2 := Lib.hid (U.out.below hb)
  have N2 := Lib.hid (N.out.bl hb)
  have S2 := Lib.hid (S1.out.below hb)
  have z2 := hb.size
  clear U N
  have U := U2
  have N := N2
  clear U2 N2
  clear hb
  have C3 := Lib.hid (show ∀ (j : Nat) (y : Tx), ([t.name, cEq] : List Tx)[j]? = some y → (w2.alloc (.cells #[.string ⟨t.name.toArray⟩, .string ⟨#[61]⟩] 9)).cell? ⟨w2.heap.size, j, none⟩ = some (.string ⟨y.toArray⟩) from lit_cells w2 [t.name, cEq])
  have U3 := Lib.hid (U.out.below (b1 w2 (.cells #[.string ⟨t.name.toArray⟩, .string ⟨#[61]⟩] 9)))
  have N3 := Lib.hid (N.out.bl (b1 w2 (.cells #[.string ⟨t.name.toArray⟩, .string ⟨#[61]⟩] 9)))
  have S3 := Lib.hid (S2.out.below (b1 w2 (.cells #[.string ⟨t.name.toArray⟩, .string ⟨#[61]⟩] 9)))
  have z3 := (b1 w2 (.cells #[.string ⟨t.name.toArray⟩, .string ⟨#[61]⟩] 9)).size
  clear U N
  have U := U3
  have N := N3
  clear U3 N3
  have U0 := U.out.c0
  go_wp2_with fail
  clear U0
  generalize w2.alloc (.cells #[.string ⟨t.name.toArray⟩, .string ⟨#[61]⟩] 9) = wb3 at *
  refine (add_any _ sb _ _ w2.heap.size 2 [t.name, cEq] S3.out.sh (Lib.hid rfl) C3 (by omega) (by first | omega | (simp only [List.length_append, List.length_cons, List.length_nil]; omega) | (simp only [List.length_append, List.length_cons, List.length_nil] at hl ⊢; omega))).mono ?_
  rintro e w4 ⟨v4, rfl, hs⟩
  clear C3
  have U4 := Lib.hid (U.out.sg hs.sg (by omega) (ub_ne S3.out H.out l0))
  have N4 := Lib.hid (N.out.low (hs.sg.low S3.out.sh))
  have S4 := Lib.hid (S3.out.trans hs)
  have z4 := hs.sg.size
  clear U N hs
  have U := U4
  have N := N4
  clear U4 N4
  have U0 := U.out.c0
  go_wp2_with fail
  clear U0
  obtain ⟨nm, hm, hc⟩ := kid_at N.out 0 u0 hu0.out
  refine hc.mono ?_
  rintro e w5 ⟨rfl, hb⟩
  have M := Lib.hid (hm.bl hb)
  have U5 := Lib.hid (U.out.below hb)
  have N5 := Lib.hid (N.out.bl hb)
  have S5 := Lib.hid (S4.out.below hb)
  have z5 := hb.size
  clear U N
  have U := U5
  have N := N5
  clear U5 N5
  clear hb hc hm
  go_wp2_with fail
  refine (endWith_any _ sb _ _ pl nm u0 S5.out.sh M.out hE0.out (by first | omega | (simp only [List.length_append, List.length_cons, List.length_nil]; omega) | (simp only [List.length_append, List.length_cons, List.length_nil] at hl ⊢; omega))).mono ?_
  rintro e w6 ⟨v6, rfl, hs⟩
  have U6 := Lib.hid (U.out.sg hs.sg (by omega) (ub_ne S5.out H.out l0))
  have N6 := Lib.hid (N.out.low (hs.sg.low S5.out.sh))
  have S6 := Lib.hid (S5.out.trans hs)
  have z6 := hs.sg.size
  clear U N hs
  have U := U6
  have N := N6
  clear U6 N6
  clear M
  go_wp2_with fail
  first | refine bodyPost_end (v := .tuple #[]) (by simp [results, Tryz.results60, go_sem]) rfl ?_ | refine bodyPost_ret (v := .tuple #[]) (by simp [results, Tryz.results60, go_sem]) rfl ?_
  have hfin := ((SST.refl H.out).below HBA.out).trans S6.out
  have hx : xs ++ ([t.name, cEq] ++ (showE u0 ++ [cSemi])) = ((xs ++ [t.name, cEq]) ++ (showE u0 ++ [cSemi])) := by simp [List.append_assoc]
  first | exact ⟨_, rfl, hfin.cast hx.symm⟩ | exact ⟨_, rfl, hfin.cast (by simp [List.append_assoc])⟩

set_option maxRecDepth 100000 in
set_option maxHeartbeats 1000000 in
theorem stmt_9 (w : World) (sb : Nat) (v : Value) (xs : List Tx) (pl : Nat → Nat) (b : Nat) (t : Tree) (u0 u1 : Tree) (h : SH w sb v xs) (hn : NodeAt (fun x => x < sb) pl w b t) (hop : t.op = 9) (hu0 : Hid (t.kids[0]? = some u0)) (hE0 : Hid (ShE sb pl u0)) (hu1 : Hid (t.kids[1]? = some u1)) (hE1 : Hid (ShE sb pl u1)) (hl : xs.length + ((showE u0 ++ [cDot, t.name, cEq] ++ (showE u1 ++ [cSemi]))).length + 1 ≤ 1000000) :
    Calls Tryz.prog 60 #[.pointer (some ⟨sb, 0, none⟩), .agg #[.pointer (some ⟨b, 0, none⟩)]] w (SQ sb v w (xs ++ (showE u0 ++ [cDot, t.name, cEq] ++ (showE u1 ++ [cSemi])))) := by
  have H := Lib.hid h
  have hlt := h.lt
  have HBA := Lib.hid (b1 w (.cells #[.pointer (some ⟨b, 0, none⟩)] 25))
  have S0 := Lib.hid (SST.refl (h.below (b1 w (.cells #[.pointer (some ⟨b, 0, none⟩)] 25))))
  have U := Lib.hid (PtrAt.new w (some ⟨b, 0, none⟩))
  have N := Lib.hid (hn.bl (b1 w (.cells #[.pointer (some ⟨b, 0, none⟩)] 25)))
  have l0 := U.out.lt
  clear h hn
  have hfo := row_op
  have hfn := row_name
  clear hfo hfn
  go_enter Tryz.func60, Tryz.ntmps60
  have U0 := U.out.c0
  go_wp2_with fail
  clear U0
  generalize w.alloc (.cells #[.pointer (some ⟨b, 0, none⟩)] 25) = wa at *
  obtain ⟨Ao, co, hro⟩ := N.out.rowOf
  refine (op_of _ _ _ _ _ _ _ _ _ _ hro).mono ?_
  rintro e w1 ⟨rfl, hb⟩
  clear hro
  have U1 := Lib.hid (U.out.below hb)
  have N1 := Lib.hid (N.out.bl hb)
  have S1 := Lib.hid (S0.out.below hb)
  have z1 := hb.size
  clear U N
  have U := U1
  have N := N1
  clear U1 N1
  clear hb
  simp only [List.length_append, List.length_cons, List.length_nil] at hl
  have U0 := U.out.c0
  go_wp2_with fail
  clear U0
  obtain ⟨nm, hm, hc⟩ := kid_at N.out 0 u0 hu0.out
  refine hc.mono ?_
  rintro e w2 ⟨rfl, hb⟩
  have M := Lib.hid (hm.bl hb)
  have U2 := Lib.hid (U.out.below hb)
  have N2 := Lib.hid (N.out.bl hb)
  have S2 := Lib.hid (S1.out.below hb)
  have z2 := hb.size
  clear U N
  have U := U2
  have N := N2
  clear U2 N2
  clear hb hc hm
  go_wp2_with fail
  refine (hE0.out _ _ _ nm S2.out.sh M.out (by first | omega | (simp only [List.length_append, List.length_cons, List.length_nil]; omega) | (simp only [List.length_append, List.length_cons, List.length_nil] at hl ⊢; omega))).mono ?_
  rintro e w3 ⟨v3, rfl, hs⟩
  have U3 := Lib.hid (U.out.sg hs.sg (by omega) (ub_ne S2.out H.out l0))
  have N3 := Lib.hid (N.out.low (hs.sg.low S2.out.sh))
  have S3 := Lib.hid (S2.out.trans hs)
  have z3 := hs.sg.size
  clear U N hs
  have U := U3
  have N := N3
  clear U3 N3
  clear M
  have U0 := U.out.c0
  go_wp2_with fail
  clear U0
  obtain ⟨Ao, co, hro⟩ := N.out.rowOf
  refine (name_of _ _ _ _ _ _ _ _ _ _ hro).mono ?_
  rintro e w4 ⟨rfl, hb⟩
  clear hro
  have U4 := Lib.hid (U.out.below hb)
  have N4 := Lib.hid (N.out.bl hb)
  have S4 := Lib.hid (S3.out.below hb)
  have z4 := hb.size
  clear U N
  have U := U4
  have N := N4
  clear U4 N4
  clear hb
  have C5 := Lib.hid (show ∀ (j : Nat) (y : Tx), ([cDot, t.name, cEq] : List Tx)[j]? = some y → (w4.alloc (.cells #[.string ⟨#[46]⟩, .string ⟨t.name.toArray⟩, .string ⟨#[61]⟩] 9)).cell? ⟨w4.heap.size, j, none⟩ = some (.string ⟨y.toArray⟩) from lit_cells w4 [cDot, t.name, cEq])
  have U5 := Lib.hid (U.out.below (b1 w4 (.cells #[.string ⟨#[46]⟩, .string ⟨t.name.toArray⟩, .string ⟨#[61]⟩] 9)))
  have N5 := Lib.hid (N.out.bl (b1 w4 (.cells #[.string ⟨#[46]⟩, .string ⟨t.name.toArray⟩, .string ⟨#[61]⟩] 9)))
  have S5 := Lib.hid (S4.out.below (b1 w4 (.cells #[.string ⟨#[46]⟩, .string ⟨t.name.toArray⟩, .string ⟨#[61]⟩] 9)))
  have z5 := (b1 w4 (.cells #[.string ⟨#[46]⟩, .string ⟨t.name.toArray⟩, .string ⟨#[61]⟩] 9)).size
  clear U N
  have U := U5
  have N := N5
  clear U5 N5
  have U0 := U.out.c0
  go_wp2_with fail
  clear U0
  generalize w4.alloc (.cells #[.string ⟨#[46]⟩, .string ⟨t.name.toArray⟩, .string ⟨#[61]⟩] 9) = wb5 at *
  refine (add_any _ sb _ _ w4.heap.size 3 [cDot, t.name, cEq] S5.out.sh (Lib.hid rfl) C5 (by omega) (by first | omega | (simp only [List.length_append]; omega) | (simp only [List.length_append, List.length_cons, List.length_nil] at hl ⊢; omega))).mono ?_
  rintro e w6 ⟨v6, rfl, hs⟩
  clear C5
  have U6 := Lib.hid (U.out.sg hs.sg (by omega) (ub_ne S5.out H.out l0))
  have N6 := Lib.hid (N.out.low (hs.sg.low S5.out.sh))
  have S6 := Lib.hid (S5.out.trans hs)
  have z6 := hs.sg.size
  clear U N hs
  have U := U6
  have N := N6
  clear U6 N6
  have U0 := U.out.c0
  go_wp2_with fail
  clear U0
  obtain ⟨nm, hm, hc⟩ := kid_at N.out 1 u1 hu1.out
  refine hc.mono ?_
  rintro e w7 ⟨rfl, hb⟩
  have M := Lib.hid (hm.bl hb)
  have U7 := Lib.hid (U.out.below hb)
  have N7 := Lib.hid (N.out.bl hb)
  have S7 := Lib.hid (S6.out.below hb)
  have z7 := hb.size
  clear U N
  have U := U7
  have N := N7
  clear U7 N7
  clear hb hc hm
  go_wp2_with fail
  refine (endWith_any _ sb _ _ pl nm u1 S7.out.sh M.out hE1.out (by first | omega | (simp only [List.length_append, List.length_cons, List.length_nil]; omega) | (simp only [List.length_append, List.length_cons, List.length_nil] at hl ⊢; omega))).mono ?_
  rintro e w8 ⟨v8, rfl, hs⟩
  have U8 := Lib.hid (U.out.sg hs.sg (by omega) (ub_ne S7.out H.out l0))
  have N8 := Lib.hid (N.out.low (hs.sg.low S7.out.sh))
  have S8 := Lib.hid (S7.out.trans hs)
  have z8 := hs.sg.size
  clear U N hs
  have U := U8
  have N := N8
  clear U8 N8
  clear M
  go_wp2_with fail
  first | refine bodyPost_end (v := .tuple #[]) (by simp [results, Tryz.results60, go_sem]) rfl ?_ | refine bodyPost_ret (v := .tuple #[]) (by simp [results, Tryz.results60, go_sem]) rfl ?_
  have hfin := ((SST.refl H.out).below HBA.out).trans S8.out
  have hx : xs ++ (showE u0 ++ [cDot, t.name, cEq] ++ (showE u1 ++ [cSemi])) = (((xs ++ showE u0) ++ [cDot, t.name, cEq]) ++ (showE u1 ++ [cSemi])) := by simp [List.append_assoc]
  first | exact ⟨_, rfl, hfin.cast hx.symm⟩ | exact ⟨_, rfl, hfin.cast (by simp [List.append_assoc])⟩

set_option maxRecDepth 100000 in
set_option maxHeartbeats 1000000 in
theorem stmt_10a (w : World) (sb : Nat) (v : Value) (xs : List Tx) (pl : Nat → Nat) (b : Nat) (t : Tree) (u0 u1 : Tree) (h : SH w sb v xs) (hn : NodeAt (fun x => x < sb) pl w b t) (hop : t.op = 10) (hu0 : Hid (t.kids[0]? = some u0)) (hE0 : Hid (ShE sb pl u0)) (hu1 : Hid (t.kids[1]? = some u1)) (hB1 : Hid (ShB sb pl u1)) (hlen : t.kids.length = 2) (hl : xs.length + (([kIf] ++ showE u0 ++ showB u1)).length + 1 ≤ 1000000) :
    Calls Tryz.prog 60 #[.pointer (some ⟨sb, 0, none⟩), .agg #[.pointer (some ⟨b, 0, none⟩)]] w (SQ sb v w (xs ++ ([kIf] ++ showE u0 ++ showB u1))) := by
  have H := Lib.hid h
  have hlt := h.lt
  have HBA := Lib.hid (b1 w (.cells #[.pointer (some ⟨b, 0, none⟩)] 25))
  have S0 := Lib.hid (SST.refl (h.below (b1 w (.cells #[.pointer (some ⟨b, 0, none⟩)] 25))))
  have U := Lib.hid (PtrAt.new w (some ⟨b, 0, none⟩))
  have N := Lib.hid (hn.bl (b1 w (.cells #[.pointer (some ⟨b, 0, none⟩)] 25)))
  have l0 := U.out.lt
  clear h hn
  have hfo := row_op
  have hfn := row_name
  clear hfo hfn
  go_enter Tryz.func60, Tryz.ntmps60
  have U0 := U.out.c0
  go_wp2_with fail
  clear U0
  generalize w.alloc (.cells #[.pointer (some ⟨b, 0, none⟩)] 25) = wa at *
  obtain ⟨Ao, co, hro⟩ := N.out.rowOf
  refine (op_of _ _ _ _ _ _ _ _ _ _ hro).mono ?_
  rintro e w1 ⟨rfl, hb⟩
  clear hro
  have U1 := Lib.hid (U.out.below hb)
  have N1 := Lib.hid (N.out.bl hb)
  have S1 := Lib.hid (S0.out.below hb)
  have z1 := hb.size
  clear U N
  have U := U1
  have N := N1
  clear U1 N1
  clear hb
  simp only [List.length_append, List.length_cons, List.length_nil] at hl
  have U0 := U.out.c0
  go_wp2_with fail
  clear U0
  refine (branch2 _ sb _ _ pl b t u0 u1 S1.out.sh N.out hu0 hu1 hlen hE0 hB1 (by first | omega | (simp only [List.length_append, List.length_cons, List.length_nil]; omega) | (simp only [List.length_append, List.length_cons, List.length_nil] at hl ⊢; omega))).mono ?_
  rintro e w2 ⟨v2, rfl, hs⟩
  have U2 := Lib.hid (U.out.sg hs.sg (by omega) (ub_ne S1.out H.out l0))
  have N2 := Lib.hid (N.out.low (hs.sg.low S1.out.sh))
  have S2 := Lib.hid (S1.out.trans hs)
  have z2 := hs.sg.size
  clear U N hs
  have U := U2
  have N := N2
  clear U2 N2
  go_wp2_with fail
  first | refine bodyPost_end (v := .tuple #[]) (by simp [results, Tryz.results60, go_sem]) rfl ?_ | refine bodyPost_ret (v := .tuple #[]) (by simp [results, Tryz.results60, go_sem]) rfl ?_
  have hfin := ((SST.refl H.out).below HBA.out).trans S2.out
  have hx : xs ++ ([kIf] ++ showE u0 ++ showB u1) = (xs ++ ([kIf] ++ showE u0 ++ showB u1)) := by simp
  first | exact ⟨_, rfl, hfin.cast hx.symm⟩ | exact ⟨_, rfl, hfin.cast (by simp [List.append_assoc])⟩

set_option maxRecDepth 100000 in
set_option maxHeartbeats 1000000 in
theorem stmt_10b (w : World) (sb : Nat) (v : Value) (xs : List Tx) (pl : Nat → Nat) (b : Nat) (t : Tree) (u0 u1 u2 : Tree) (h : SH w sb v xs) (hn : NodeAt (fun x => x < sb) pl w b t) (hop : t.op = 10) (hu0 : Hid (t.kids[0]? = some u0)) (hE0 : Hid (ShE sb pl u0)) (hu1 : Hid (t.kids[1]? = some u1)) (hB1 : Hid (ShB sb pl u1)) (hu2 : Hid (t.kids[2]? = some u2)) (hS2 : Hid (ShS sb pl u2)) (hlen : 2 < t.kids.length) (hl : xs.length + (([kIf] ++ showE u0 ++ showB u1 ++ ([kElse] ++ showS u2))).length + 1 ≤ 1000000) :
    Calls Tryz.prog 60 #[.pointer (some ⟨sb, 0, none⟩), .agg #[.pointer (some ⟨b, 0, none⟩)]] w (SQ sb v w (xs ++ ([kIf] ++ showE u0 ++ showB u1 ++ ([kElse] ++ showS u2)))) := by
  have H := Lib.hid h
  have hlt := h.lt
  have HBA := Lib.hid (b1 w (.cells #[.pointer (some ⟨b, 0, none⟩)] 25))
  have S0 := Lib.hid (SST.refl (h.below (b1 w (.cells #[.pointer (some ⟨b, 0, none⟩)] 25))))
  have U := Lib.hid (PtrAt.new w (some ⟨b, 0, none⟩))
  have N := Lib.hid (hn.bl (b1 w (.cells #[.pointer (some ⟨b, 0, none⟩)] 25)))
  have l0 := U.out.lt
  clear h hn
  have hfo := row_op
  have hfn := row_name
  clear hfo hfn
  go_enter Tryz.func60, Tryz.ntmps60
  have U0 := U.out.c0
  go_wp2_with fail
  clear U0
  generalize w.alloc (.cells #[.pointer (some ⟨b, 0, none⟩)] 25) = wa at *
  obtain ⟨Ao, co, hro⟩ := N.out.rowOf
  refine (op_of _ _ _ _ _ _ _ _ _ _ hro).mono ?_
  rintro e w1 ⟨rfl, hb⟩
  clear hro
  have U1 := Lib.hid (U.out.below hb)
  have N1 := Lib.hid (N.out.bl hb)
  have S1 := Lib.hid (S0.out.below hb)
  have z1 := hb.size
  clear U N
  have U := U1
  have N := N1
  clear U1 N1
  clear hb
  simp only [List.length_append, List.length_cons, List.length_nil] at hl
  have U0 := U.out.c0
  go_wp2_with fail
  clear U0
  refine (branch3 _ sb _ _ pl b t u0 u1 u2 S1.out.sh N.out hu0 hu1 hu2 hS2 hlen hE0 hB1 (by first | omega | (simp only [List.length_append, List.length_cons, List.length_nil]; omega) | (simp only [List.length_append, List.length_cons, List.length_nil] at hl ⊢; omega))).mono ?_
  rintro e w2 ⟨v2, rfl, hs⟩
  have U2 := Lib.hid (U.out.sg hs.sg (by omega) (ub_ne S1.out H.out l0))
  have N2 := Lib.hid (N.out.low (hs.sg.low S1.out.sh))
  have S2 := Lib.hid (S1.out.trans hs)
  have z2 := hs.sg.size
  clear U N hs
  have U := U2
  have N := N2
  clear U2 N2
  go_wp2_with fail
  first | refine bodyPost_end (v := .tuple #[]) (by simp [results, Tryz.results60, go_sem]) rfl ?_ | refine bodyPost_ret (v := .tuple #[]) (by simp [results, Tryz.results60, go_sem]) rfl ?_
  have hfin := ((SST.refl H.out).below HBA.out).trans S2.out
  have hx : xs ++ ([kIf] ++ showE u0 ++ showB u1 ++ ([kElse] ++ showS u2)) = (xs ++ ([kIf] ++ showE u0 ++ showB u1 ++ ([kElse] ++ showS u2))) := by simp [List.append_assoc]
  first | exact ⟨_, rfl, hfin.cast hx.symm⟩ | exact ⟨_, rfl, hfin.cast (by simp [List.append_assoc])⟩

set_option maxRecDepth 100000 in
set_option maxHeartbeats 1000000 in
theorem stmt_11 (w : World) (sb : Nat) (v : Value) (xs : List Tx) (pl : Nat → Nat) (b : Nat) (t : Tree) (u0 u1 : Tree) (h : SH w sb v xs) (hn : NodeAt (fun x => x < sb) pl w b t) (hop : t.op = 11) (hu0 : Hid (t.kids[0]? = some u0)) (hE0 : Hid (ShE sb pl u0)) (hu1 : Hid (t.kids[1]? = some u1)) (hB1 : Hid (ShB sb pl u1)) (hl : xs.length + (([kFor] ++ showE u0 ++ showB u1)).length + 1 ≤ 1000000) :
    Calls Tryz.prog 60 #[.pointer (some ⟨sb, 0, none⟩), .agg #[.pointer (some ⟨b, 0, none⟩)]] w (SQ sb v w (xs ++ ([kFor] ++ showE u0 ++ showB u1))) := by
  have H := Lib.hid h
  have hlt := h.lt
  have HBA := Lib.hid (b1 w (.cells #[.pointer (some ⟨b, 0, none⟩)] 25))
  have S0 := Lib.hid (SST.refl (h.below (b1 w (.cells #[.pointer (some ⟨b, 0, none⟩)] 25))))
  have U := Lib.hid (PtrAt.new w (some ⟨b, 0, none⟩))
  have N := Lib.hid (hn.bl (b1 w (.cells #[.pointer (some ⟨b, 0, none⟩)] 25)))
  have l0 := U.out.lt
  clear h hn
  have hfo := row_op
  have hfn := row_name
  clear hfo hfn
  go_enter Tryz.func60, Tryz.ntmps60
  have U0 := U.out.c0
  go_wp2_with fail
  clear U0
  generalize w.alloc (.cells #[.pointer (some ⟨b, 0, none⟩)] 25) = wa at *
  obtain ⟨Ao, co, hro⟩ := N.out.rowOf
  refine (op_of _ _ _ _ _ _ _ _ _ _ hro).mono ?_
  rintro e w1 ⟨rfl, hb⟩
  clear hro
  have U1 := Lib.hid (U.out.below hb)
  have N1 := Lib.hid (N.out.bl hb)
  have S1 := Lib.hid (S0.out.below hb)
  have z1 := hb.size
  clear U N
  have U := U1
  have N := N1
  clear U1 N1
  clear hb
  simp only [List.length_append, List.length_cons, List.length_nil] at hl
  have C2 := Lib.hid (show ∀ (j : Nat) (y : Tx), ([kFor] : List Tx)[j]? = some y → (w1.alloc (.cells #[.string ⟨#[102, 111, 114]⟩] 9)).cell? ⟨w1.heap.size, j, none⟩ = some (.string ⟨y.toArray⟩) from lit_cells w1 [kFor])
  have U2 := Lib.hid (U.out.below (b1 w1 (.cells #[.string ⟨#[102, 111, 114]⟩] 9)))
  have N2 := Lib.hid (N.out.bl (b1 w1 (.cells #[.string ⟨#[102, 111, 114]⟩] 9)))
  have S2 := Lib.hid (S1.out.below (b1 w1 (.cells #[.string ⟨#[102, 111, 114]⟩] 9)))
  have z2 := (b1 w1 (.cells #[.string ⟨#[102, 111, 114]⟩] 9)).size
  clear U N
  have U := U2
  have N := N2
  clear U2 N2
  have U0 := U.out.c0
  go_wp2_with fail
  clear U0
  generalize w1.alloc (.cells #[.string ⟨#[102, 111, 114]⟩] 9) = wb2 at *
  refine (add_any _ sb _ _ w1.heap.size 1 [kFor] S2.out.sh (Lib.hid rfl) C2 (by omega) (by first | omega | (simp only [List.length_append, List.length_cons, List.length_nil]; omega) | (simp only [List.length_append, List.length_cons, List.length_nil] at hl ⊢; omega))).mono ?_
  rintro e w3 ⟨v3, rfl, hs⟩
  clear C2
  have U3 := Lib.hid (U.out.sg hs.sg (by omega) (ub_ne S2.out H.out l0))
  have N3 := Lib.hid (N.out.low (hs.sg.low S2.out.sh))
  have S3 := Lib.hid (S2.out.trans hs)
  have z3 := hs.sg.size
  clear U N hs
  have U := U3
  have N := N3
  clear U3 N3
  have U0 := U.out.c0
  go_wp2_with fail
  clear U0
  obtain ⟨nm, hm, hc⟩ := kid_at N.out 0 u0 hu0.out
  refine hc.mono ?_
  rintro e w4 ⟨rfl, hb⟩
  have M := Lib.hid (hm.bl hb)
  have U4 := Lib.hid (U.out.below hb)
  have N4 := Lib.hid (N.out.bl hb)
  have S4 := Lib.hid (S3.out.below hb)
  have z4 := hb.size
  clear U N
  have U := U4
  have N := N4
  clear U4 N4
  clear hb hc hm
  go_wp2_with fail
  refine (hE0.out _ _ _ nm S4.out.sh M.out (by first | omega | (simp only [List.length_append, List.length_cons, List.length_nil]; omega) | (simp only [List.length_append, List.length_cons, List.length_nil] at hl ⊢; omega))).mono ?_
  rintro e w5 ⟨v5, rfl, hs⟩
  have U5 := Lib.hid (U.out.sg hs.sg (by omega) (ub_ne S4.out H.out l0))
  have N5 := Lib.hid (N.out.low (hs.sg.low S4.out.sh))
  have S5 := Lib.hid (S4.out.trans hs)
  have z5 := hs.sg.size
  clear U N hs
  have U := U5
  have N := N5
  clear U5 N5
  clear M
  have U0 := U.out.c0
  go_wp2_with fail
  clear U0
  obtain ⟨nm, hm, hc⟩ := kid_at N.out 1 u1 hu1.out
  refine hc.mono ?_
  rintro e w6 ⟨rfl, hb⟩
  have M := Lib.hid (hm.bl hb)
  have U6 := Lib.hid (U.out.below hb)
  have N6 := Lib.hid (N.out.bl hb)
  have S6 := Lib.hid (S5.out.below hb)
  have z6 := hb.size
  clear U N
  have U := U6
  have N := N6
  clear U6 N6
  clear hb hc hm
  go_wp2_with fail
  refine (hB1.out _ _ _ nm S6.out.sh M.out (by first | omega | (simp only [List.length_append, List.length_cons, List.length_nil]; omega) | (simp only [List.length_append, List.length_cons, List.length_nil] at hl ⊢; omega))).mono ?_
  rintro e w7 ⟨v7, rfl, hs⟩
  have U7 := Lib.hid (U.out.sg hs.sg (by omega) (ub_ne S6.out H.out l0))
  have N7 := Lib.hid (N.out.low (hs.sg.low S6.out.sh))
  have S7 := Lib.hid (S6.out.trans hs)
  have z7 := hs.sg.size
  clear U N hs
  have U := U7
  have N := N7
  clear U7 N7
  clear M
  go_wp2_with fail
  first | refine bodyPost_end (v := .tuple #[]) (by simp [results, Tryz.results60, go_sem]) rfl ?_ | refine bodyPost_ret (v := .tuple #[]) (by simp [results, Tryz.results60, go_sem]) rfl ?_
  have hfin := ((SST.refl H.out).below HBA.out).trans S7.out
  have hx : xs ++ ([kFor] ++ showE u0 ++ showB u1) = (((xs ++ [kFor]) ++ showE u0) ++ showB u1) := by simp [List.append_assoc]
  first | exact ⟨_, rfl, hfin.cast hx.symm⟩ | exact ⟨_, rfl, hfin.cast (by simp [List.append_assoc])⟩

set_option maxRecDepth 100000 in
set_option maxHeartbeats 1000000 in
theorem stmt_12 (w : World) (sb : Nat) (v : Value) (xs : List Tx) (pl : Nat → Nat) (b : Nat) (t : Tree) (u0 : Tree) (h : SH w sb v xs) (hn : NodeAt (fun x => x < sb) pl w b t) (hop : t.op = 12) (hu0 : Hid (t.kids[0]? = some u0)) (hE0 : Hid (ShE sb pl u0)) (hl : xs.length + (([kPrint] ++ ([cLB] ++ showE u0 ++ [cRB]) ++ [cSemi])).length + 1 ≤ 1000000) :
    Calls Tryz.prog 60 #[.pointer (some ⟨sb, 0, none⟩), .agg #[.pointer (some ⟨b, 0, none⟩)]] w (SQ sb v w (xs ++ ([kPrint] ++ ([cLB] ++ showE u0 ++ [cRB]) ++ [cSemi]))) := by
  have H := Lib.hid h
  have hlt := h.lt
  have HBA := Lib.hid (b1 w (.cells #[.pointer (some ⟨b, 0, none⟩)] 25))
  have S0 := Lib.hid (SST.refl (h.below (b1 w (.cells #[.pointer (some ⟨b, 0, none⟩)] 25))))
  have U := Lib.hid (PtrAt.new w (some ⟨b, 0, none⟩))
  have N := Lib.hid (hn.bl (b1 w (.cells #[.pointer (some ⟨b, 0, none⟩)] 25)))
  have l0 := U.out.lt
  clear h hn
  have hfo := row_op
  have hfn := row_name
  clear hfo hfn
  go_enter Tryz.func60, Tryz.ntmps60
  have U0 := U.out.c0
  go_wp2_with fail
  clear U0
  generalize w.alloc (.cells #[.pointer (some ⟨b, 0, none⟩)] 25) = wa at *
  obtain ⟨Ao, co, hro⟩ := N.out.rowOf
  refine (op_of _ _ _ _ _ _ _ _ _ _ hro).mono ?_
  rintro e w1 ⟨rfl, hb⟩
  clear hro
  have U1 := Lib.hid (U.out.below hb)
  have N1 := Lib.hid (N.out.bl hb)
  have S1 := Lib.hid (S0.out.below hb)
  have z1 := hb.size
  clear U N
  have U := U1
  have N := N1
  clear U1 N1
  clear hb
  simp only [List.length_append, List.length_cons, List.length_nil] at hl
  have hmf : ∀ (fn : Fn) (first cap : Array Value) (w : World), (Instr.makeFunc fn first cap).run Tryz.prog w = .ok (.func fn first cap) w := fun _ _ _ _ => rfl
  have hk1 : 1 ≤ t.kids.length := (List.getElem?_eq_some_iff.1 hu0.out).1
  have HK1 := Lib.hid hk1
  clear hk1
  have HSH : Hid (Shows 86 sb pl t 1 [showE u0]) := by
    intro k u ys hk hu hy w1 v1 xs1 nb h1 h2 h3
    obtain rfl : k = 0 := by omega
    obtain rfl := Option.some.inj (hu0.out.symm.trans hu)
    obtain rfl := Option.some.inj hy
    exact hE0.out w1 v1 xs1 nb h1 h2 h3
  have C2 := Lib.hid (show ∀ (j : Nat) (y : Tx), ([kPrint] : List Tx)[j]? = some y → (w1.alloc (.cells #[.string ⟨#[112, 114, 105, 110, 116]⟩] 9)).cell? ⟨w1.heap.size, j, none⟩ = some (.string ⟨y.toArray⟩) from lit_cells w1 [kPrint])
  have U2 := Lib.hid (U.out.below (b1 w1 (.cells #[.string ⟨#[112, 114, 105, 110, 116]⟩] 9)))
  have N2 := Lib.hid (N.out.bl (b1 w1 (.cells #[.string ⟨#[112, 114, 105, 110, 116]⟩] 9)))
  have S2 := Lib.hid (S1.out.below (b1 w1 (.cells #[.string ⟨#[112, 114, 105, 110, 116]⟩] 9)))
  have z2 := (b1 w1 (.cells #[.string ⟨#[112, 114, 105, 110, 116]⟩] 9)).size
  clear U N
  have U := U2
  have N := N2
  clear U2 N2
  have U0 := U.out.c0
  go_wp2_with fail
  clear U0
  generalize w1.alloc (.cells #[.string ⟨#[112, 114, 105, 110, 116]⟩] 9) = wb2 at *
  refine (add_any _ sb _ _ w1.heap.size 1 [kPrint] S2.out.sh (Lib.hid rfl) C2 (by omega) (by first | omega | (simp only [List.length_append, List.length_cons, List.length_nil]; omega) | (simp only [List.length_append, List.length_cons, List.length_nil] at hl ⊢; omega))).mono ?_
  rintro e w3 ⟨v3, rfl, hs⟩
  clear C2
  have U3 := Lib.hid (U.out.sg hs.sg (by omega) (ub_ne S2.out H.out l0))
  have N3 := Lib.hid (N.out.low (hs.sg.low S2.out.sh))
  have S3 := Lib.hid (S2.out.trans hs)
  have z3 := hs.sg.size
  clear U N hs
  have U := U3
  have N := N3
  clear U3 N3
  have U0 := U.out.c0
  go_wp2_with fail
  clear U0
  refine (inBrackets_expr _ sb _ _ pl b t 1 [showE u0] S3.out.sh N.out (Lib.hid rfl) HK1.out HSH (by simp only [List.length_append, List.length_cons, List.length_nil, List.flatten_cons, List.flatten_nil]; omega)).mono ?_
  rintro e w4 ⟨v4, rfl, hs⟩
  have U4 := Lib.hid (U.out.sg hs.sg (by omega) (ub_ne S3.out H.out l0))
  have N4 := Lib.hid (N.out.low (hs.sg.low S3.out.sh))
  have S4 := Lib.hid (S3.out.trans hs)
  have z4 := hs.sg.size
  clear U N hs
  have U := U4
  have N := N4
  clear U4 N4
  have hcx : (commaF [showE u0]).length = (showE u0).length := by simp [commaF]
  have C5 := Lib.hid (show ∀ (j : Nat) (y : Tx), ([cSemi] : List Tx)[j]? = some y → (w4.alloc (.cells #[.string ⟨#[59]⟩] 9)).cell? ⟨w4.heap.size, j, none⟩ = some (.string ⟨y.toArray⟩) from lit_cells w4 [cSemi])
  have U5 := Lib.hid (U.out.below (b1 w4 (.cells #[.string ⟨#[59]⟩] 9)))
  have N5 := Lib.hid (N.out.bl (b1 w4 (.cells #[.string ⟨#[59]⟩] 9)))
  have S5 := Lib.hid (S4.out.below (b1 w4 (.cells #[.string ⟨#[59]⟩] 9)))
  have z5 := (b1 w4 (.cells #[.string ⟨#[59]⟩] 9)).size
  clear U N
  have U := U5
  have N := N5
  clear U5 N5
  have U0 := U.out.c0
  go_wp2_with fail
  clear U0
  generalize w4.alloc (.cells #[.string ⟨#[59]⟩] 9) = wb5 at *
  refine (add_any _ sb _ _ w4.heap.size 1 [cSemi] S5.out.sh (Lib.hid rfl) C5 (by omega) (by first | omega | (simp only [List.length_append, List.length_cons, List.length_nil]; omega) | (simp only [List.length_append, List.length_cons, List.length_nil] at hl ⊢; omega))).mono ?_
  rintro e w6 ⟨v6, rfl, hs⟩
  clear C5
  have U6 := Lib.hid (U.out.sg hs.sg (by omega) (ub_ne S5.out H.out l0))
  have N6 := Lib.hid (N.out.low (hs.sg.low S5.out.sh))
  have S6 := Lib.hid (S5.out.trans hs)
  have z6 := hs.sg.size
  clear U N hs
  have U := U6
  have N := N6
  clear U6 N6
  go_wp2_with fail
  first | refine bodyPost_end (v := .tuple #[]) (by simp [results, Tryz.results60, go_sem]) rfl ?_ | refine bodyPost_ret (v := .tuple #[]) (by simp [results, Tryz.results60, go_sem]) rfl ?_
  have hfin := ((SST.refl H.out).below HBA.out).trans S6.out
  have hx : xs ++ ([kPrint] ++ ([cLB] ++ showE u0 ++ [cRB]) ++ [cSemi]) = (((xs ++ [kPrint]) ++ ([cLB] ++ commaF [showE u0] ++ [cRB])) ++ [cSemi]) := by simp [List.append_assoc, commaF]
  first | exact ⟨_, rfl, hfin.cast hx.symm⟩ | exact ⟨_, rfl, hfin.cast (by simp [List.append_assoc])⟩

set_option maxRecDepth 100000 in
set_option maxHeartbeats 1000000 in
theorem stmt_13a (w : World) (sb : Nat) (v : Value) (xs : List Tx) (pl : Nat → Nat) (b : Nat) (t : Tree) (u0 : Tree) (h : SH w sb v xs) (hn : NodeAt (fun x => x < sb) pl w b t) (hop : t.op = 13) (hu0 : Hid (t.kids[0]? = some u0)) (hE0 : Hid (ShE sb pl u0)) (hl : xs.length + (([kReturn] ++ (showE u0 ++ [cSemi]))).length + 1 ≤ 1000000) :
    Calls Tryz.prog 60 #[.pointer (some ⟨sb, 0, none⟩), .agg #[.pointer (some ⟨b, 0, none⟩)]] w (SQ sb v w (xs ++ ([kReturn] ++ (showE u0 ++ [cSemi])))) := by
  have H := Lib.hid h
  have hlt := h.lt
  have HBA := Lib.hid (b1 w (.cells #[.pointer (some ⟨b, 0, none⟩)] 25))
  have S0 := Lib.hid (SST.refl (h.below (b1 w (.cells #[.pointer (some ⟨b, 0, none⟩)] 25))))
  have U := Lib.hid (PtrAt.new w (some ⟨b, 0, none⟩))
  have N := Lib.hid (hn.bl (b1 w (.cells #[.pointer (some ⟨b, 0, none⟩)] 25)))
  have l0 := U.out.lt
  clear h hn
  have hfo := row_op
  have hfn := row_name
  clear hfo hfn
  go_enter Tryz.func60, Tryz.ntmps60
  have U0 := U.out.c0
  go_wp2_with fail
  clear U0
  generalize w.alloc (.cells #[.pointer (some ⟨b, 0, none⟩)] 25) = wa at *
  obtain ⟨Ao, co, hro⟩ := N.out.rowOf
  refine (op_of _ _ _ _ _ _ _ _ _ _ hro).mono ?_
  rintro e w1 ⟨rfl, hb⟩
  clear hro
  have U1 := Lib.hid (U.out.below hb)
  have N1 := Lib.hid (N.out.bl hb)
  have S1 := Lib.hid (S0.out.below hb)
  have z1 := hb.size
  clear U N
  have U := U1
  have N := N1
  clear U1 N1
  clear hb
  simp only [List.length_append, List.length_cons, List.length_nil] at hl
  have C2 := Lib.hid (show ∀ (j : Nat) (y : Tx), ([kReturn] : List Tx)[j]? = some y → (w1.alloc (.cells #[.string ⟨#[114, 101, 116, 117, 114, 110]⟩] 9)).cell? ⟨w1.heap.size, j, none⟩ = some (.string ⟨y.toArray⟩) from lit_cells w1 [kReturn])
  have U2 := Lib.hid (U.out.below (b1 w1 (.cells #[.string ⟨#[114, 101, 116, 117, 114, 110]⟩] 9)))
  have N2 := Lib.hid (N.out.bl (b1 w1 (.cells #[.string ⟨#[114, 101, 116, 117, 114, 110]⟩] 9)))
  have S2 := Lib.hid (S1.out.below (b1 w1 (.cells #[.string ⟨#[114, 101, 116, 117, 114, 110]⟩] 9)))
  have z2 := (b1 w1 (.cells #[.string ⟨#[114, 101, 116, 117, 114, 110]⟩] 9)).size
  clear U N
  have U := U2
  have N := N2
  clear U2 N2
  have U0 := U.out.c0
  go_wp2_with fail
  clear U0
  generalize w1.alloc (.cells #[.string ⟨#[114, 101, 116, 117, 114, 110]⟩] 9) = wb2 at *
  refine (add_any _ sb _ _ w1.heap.size 1 [kReturn] S2.out.sh (Lib.hid rfl) C2 (by omega) (by first | omega | (simp only [List.length_append, List.length_cons, List.length_nil]; omega) | (simp only [List.length_append, List.length_cons, List.length_nil] at hl ⊢; omega))).mono ?_
  rintro e w3 ⟨v3, rfl, hs⟩
  clear C2
  have U3 := Lib.hid (U.out.sg hs.sg (by omega) (ub_ne S2.out H.out l0))
  have N3 := Lib.hid (N.out.low (hs.sg.low S2.out.sh))
  have S3 := Lib.hid (S2.out.trans hs)
  have z3 := hs.sg.size
  clear U N hs
  have U := U3
  have N := N3
  clear U3 N3
  have U0 := U.out.c0
  go_wp2_with fail
  clear U0
  obtain ⟨nm, hm, hc⟩ := kid_at N.out 0 u0 hu0.out
  refine hc.mono ?_
  rintro e w4 ⟨rfl, hb⟩
  have M := Lib.hid (hm.bl hb)
  have U4 := Lib.hid (U.out.below hb)
  have N4 := Lib.hid (N.out.bl hb)
  have S4 := Lib.hid (S3.out.below hb)
  have z4 := hb.size
  clear U N
  have U := U4
  have N := N4
  clear U4 N4
  clear hb hc hm
  go_wp2_with fail
  refine (endWith_any _ sb _ _ pl nm u0 S4.out.sh M.out hE0.out (by first | omega | (simp only [List.length_append, List.length_cons, List.length_nil]; omega) | (simp only [List.length_append, List.length_cons, List.length_nil] at hl ⊢; omega))).mono ?_
  rintro e w5 ⟨v5, rfl, hs⟩
  have U5 := Lib.hid (U.out.sg hs.sg (by omega) (ub_ne S4.out H.out l0))
  have N5 := Lib.hid (N.out.low (hs.sg.low S4.out.sh))
  have S5 := Lib.hid (S4.out.trans hs)
  have z5 := hs.sg.size
  clear U N hs
  have U := U5
  have N := N5
  clear U5 N5
  clear M
  go_wp2_with fail
  first | refine bodyPost_end (v := .tuple #[]) (by simp [results, Tryz.results60, go_sem]) rfl ?_ | refine bodyPost_ret (v := .tuple #[]) (by simp [results, Tryz.results60, go_sem]) rfl ?_
  have hfin := ((SST.refl H.out).below HBA.out).trans S5.out
  have hx : xs ++ ([kReturn] ++ (showE u0 ++ [cSemi])) = ((xs ++ [kReturn]) ++ (showE u0 ++ [cSemi])) := by simp [List.append_assoc]
  first | exact ⟨_, rfl, hfin.cast hx.symm⟩ | exact ⟨_, rfl, hfin.cast (by simp [List.append_assoc])⟩

set_option maxRecDepth 100000 in
set_option maxHeartbeats 1000000 in
theorem stmt_13b (w : World) (sb : Nat) (v : Value) (xs : List Tx) (pl : Nat → Nat) (b : Nat) (t : Tree) (h : SH w sb v xs) (hn : NodeAt (fun x => x < sb) pl w b t) (hop : t.op = 13) (hlen : t.kids.length = 0) (hl : xs.length + (([kReturn] ++ [cSemi])).length + 1 ≤ 1000000) :
    Calls Tryz.prog 60 #[.pointer (some ⟨sb, 0, none⟩), .agg #[.pointer (some ⟨b, 0, none⟩)]] w (SQ sb v w (xs ++ ([kReturn] ++ [cSemi]))) := by
  have H := Lib.hid h
  have hlt := h.lt
  have HBA := Lib.hid (b1 w (.cells #[.pointer (some ⟨b, 0, none⟩)] 25))
  have S0 := Lib.hid (SST.refl (h.below (b1 w (.cells #[.pointer (some ⟨b, 0, none⟩)] 25))))
  have U := Lib.hid (PtrAt.new w (some ⟨b, 0, none⟩))
  have N := Lib.hid (hn.bl (b1 w (.cells #[.pointer (some ⟨b, 0, none⟩)] 25)))
  have l0 := U.out.lt
  clear h hn
  have hfo := row_op
  have hfn := row_name
  clear hfo hfn
  go_enter Tryz.func60, Tryz.ntmps60
  have U0 := U.out.c0
  go_wp2_with fail
  clear U0
  generalize w.alloc (.cells #[.pointer (some ⟨b, 0, none⟩)] 25) = wa at *
  obtain ⟨Ao, co, hro⟩ := N.out.rowOf
  refine (op_of _ _ _ _ _ _ _ _ _ _ hro).mono ?_
  rintro e w1 ⟨rfl, hb⟩
  clear hro
  have U1 := Lib.hid (U.out.below hb)
  have N1 := Lib.hid (N.out.bl hb)
  have S1 := Lib.hid (S0.out.below hb)
  have z1 := hb.size
  clear U N
  have U := U1
  have N := N1
  clear U1 N1
  clear hb
  simp only [List.length_append, List.length_cons, List.length_nil] at hl
  have C2 := Lib.hid (show ∀ (j : Nat) (y : Tx), ([kReturn] : List Tx)[j]? = some y → (w1.alloc (.cells #[.string ⟨#[114, 101, 116, 117, 114, 110]⟩] 9)).cell? ⟨w1.heap.size, j, none⟩ = some (.string ⟨y.toArray⟩) from lit_cells w1 [kReturn])
  have U2 := Lib.hid (U.out.below (b1 w1 (.cells #[.string ⟨#[114, 101, 116, 117, 114, 110]⟩] 9)))
  have N2 := Lib.hid (N.out.bl (b1 w1 (.cells #[.string ⟨#[114, 101, 116, 117, 114, 110]⟩] 9)))
  have S2 := Lib.hid (S1.out.below (b1 w1 (.cells #[.string ⟨#[114, 101, 116, 117, 114, 110]⟩] 9)))
  have z2 := (b1 w1 (.cells #[.string ⟨#[114, 101, 116, 117, 114, 110]⟩] 9)).size
  clear U N
  have U := U2
  have N := N2
  clear U2 N2
  have U0 := U.out.c0
  go_wp2_with fail
  clear U0
  generalize w1.alloc (.cells #[.string ⟨#[114, 101, 116, 117, 114, 110]⟩] 9) = wb2 at *
  refine (add_any _ sb _ _ w1.heap.size 1 [kReturn] S2.out.sh (Lib.hid rfl) C2 (by omega) (by first | omega | (simp only [List.length_append, List.length_cons, List.length_nil]; omega) | (simp only [List.length_append, List.length_cons, List.length_nil] at hl ⊢; omega))).mono ?_
  rintro e w3 ⟨v3, rfl, hs⟩
  clear C2
  have U3 := Lib.hid (U.out.sg hs.sg (by omega) (ub_ne S2.out H.out l0))
  have N3 := Lib.hid (N.out.low (hs.sg.low S2.out.sh))
  have S3 := Lib.hid (S2.out.trans hs)
  have z3 := hs.sg.size
  clear U N hs
  have U := U3
  have N := N3
  clear U3 N3
  have U0 := U.out.c0
  go_wp2_with fail
  clear U0
  refine (kid_out N.out 0 (Or.inr (by omega))).mono ?_
  rintro e w4 ⟨rfl, hb⟩
  have U4 := Lib.hid (U.out.below hb)
  have N4 := Lib.hid (N.out.bl hb)
  have S4 := Lib.hid (S3.out.below hb)
  have z4 := hb.size
  clear U N
  have U := U4
  have N := N4
  clear U4 N4
  clear hb
  go_wp2_with fail
  refine (endWith_zero _ sb _ _ S4.out.sh (by first | omega | (simp only [List.length_append, List.length_cons, List.length_nil]; omega) | (simp only [List.length_append, List.length_cons, List.length_nil] at hl ⊢; omega))).mono ?_
  rintro e w5 ⟨v5, rfl, hs⟩
  have U5 := Lib.hid (U.out.sg hs.sg (by omega) (ub_ne S4.out H.out l0))
  have N5 := Lib.hid (N.out.low (hs.sg.low S4.out.sh))
  have S5 := Lib.hid (S4.out.trans hs)
  have z5 := hs.sg.size
  clear U N hs
  have U := U5
  have N := N5
  clear U5 N5
  go_wp2_with fail
  first | refine bodyPost_end (v := .tuple #[]) (by simp [results, Tryz.results60, go_sem]) rfl ?_ | refine bodyPost_ret (v := .tuple #[]) (by simp [results, Tryz.results60, go_sem]) rfl ?_
  have hfin := ((SST.refl H.out).below HBA.out).trans S5.out
  have hx : xs ++ ([kReturn] ++ [cSemi]) = ((xs ++ [kReturn]) ++ [cSemi]) := by simp [List.append_assoc]
  first | exact ⟨_, rfl, hfin.cast hx.symm⟩ | exact ⟨_, rfl, hfin.cast (by simp [List.append_assoc])⟩

set_option maxRecDepth 100000 in
set_option maxHeartbeats 1000000 in
theorem stmt_14 (w : World) (sb : Nat) (v : Value) (xs : List Tx) (pl : Nat → Nat) (b : Nat) (t : Tree) (u0 : Tree) (h : SH w sb v xs) (hn : NodeAt (fun x => x < sb) pl w b t) (hop : t.op = 14) (hu0 : Hid (t.kids[0]? = some u0)) (hE0 : Hid (ShE sb pl u0)) (hl : xs.length + ((showE u0 ++ [cSemi])).length + 1 ≤ 1000000) :
    Calls Tryz.prog 60 #[.pointer (some ⟨sb, 0, none⟩), .agg #[.pointer (some ⟨b, 0, none⟩)]] w (SQ sb v w (xs ++ (showE u0 ++ [cSemi]))) := by
  have H := Lib.hid h
  have hlt := h.lt
  have HBA := Lib.hid (b1 w (.cells #[.pointer (some ⟨b, 0, none⟩)] 25))
  have S0 := Lib.hid (SST.refl (h.below (b1 w (.cells #[.pointer (some ⟨b, 0, none⟩)] 25))))
  have U := Lib.hid (PtrAt.new w (some ⟨b, 0, none⟩))
  have N := Lib.hid (hn.bl (b1 w (.cells #[.pointer (some ⟨b, 0, none⟩)] 25)))
  have l0 := U.out.lt
  clear h hn
  have hfo := row_op
  have hfn := row_name
  clear hfo hfn
  go_enter Tryz.func60, Tryz.ntmps60
  have U0 := U.out.c0
  go_wp2_with fail
  clear U0
  generalize w.alloc (.cells #[.pointer (some ⟨b, 0, none⟩)] 25) = wa at *
  obtain ⟨Ao, co, hro⟩ := N.out.rowOf
  refine (op_of _ _ _ _ _ _ _ _ _ _ hro).mono ?_
  rintro e w1 ⟨rfl, hb⟩
  clear hro
  have U1 := Lib.hid (U.out.below hb)
  have N1 := Lib.hid (N.out.bl hb)
  have S1 := Lib.hid (S0.out.below hb)
  have z1 := hb.size
  clear U N
  have U := U1
  have N := N1
  clear U1 N1
  clear hb
  simp only [List.length_append, List.length_cons, List.length_nil] at hl
  have U0 := U.out.c0
  go_wp2_with fail
  clear U0
  obtain ⟨nm, hm, hc⟩ := kid_at N.out 0 u0 hu0.out
  refine hc.mono ?_
  rintro e w2 ⟨rfl, hb⟩
  have M := Lib.hid (hm.bl hb)
  have U2 := Lib.hid (U.out.below hb)
  have N2 := Lib.hid (N.out.bl hb)
  have S2 := Lib.hid (S1.out.below hb)
  have z2 := hb.size
  clear U N
  have U := U2
  have N := N2
  clear U2 N2
  clear hb hc hm
  go_wp2_with fail
  refine (endWith_any _ sb _ _ pl nm u0 S2.out.sh M.out hE0.out (by first | omega | (simp only [List.length_append, List.length_cons, List.length_nil]; omega) | (simp only [List.length_append, List.length_cons, List.length_nil] at hl ⊢; omega))).mono ?_
  rintro e w3 ⟨v3, rfl, hs⟩
  have U3 := Lib.hid (U.out.sg hs.sg (by omega) (ub_ne S2.out H.out l0))
  have N3 := Lib.hid (N.out.low (hs.sg.low S2.out.sh))
  have S3 := Lib.hid (S2.out.trans hs)
  have z3 := hs.sg.size
  clear U N hs
  have U := U3
  have N := N3
  clear U3 N3
  clear M
  go_wp2_with fail
  first | refine bodyPost_end (v := .tuple #[]) (by simp [results, Tryz.results60, go_sem]) rfl ?_ | refine bodyPost_ret (v := .tuple #[]) (by simp [results, Tryz.results60, go_sem]) rfl ?_
  have hfin := ((SST.refl H.out).below HBA.out).trans S3.out
  have hx : xs ++ (showE u0 ++ [cSemi]) = (xs ++ (showE u0 ++ [cSemi])) := by simp
  first | exact ⟨_, rfl, hfin.cast hx.symm⟩ | exact ⟨_, rfl, hfin.cast (by simp [List.append_assoc])⟩

set_option maxRecDepth 100000 in
set_option maxHeartbeats 1000000 in
theorem stmt_else (w : World) (sb : Nat) (v : Value) (xs : List Tx) (pl : Nat → Nat) (b : Nat) (t : Tree) (h : SH w sb v xs) (hn : NodeAt (fun x => x < sb) pl w b t) (hop : Hid (t.op < 6 ∨ 14 < t.op)) (hE : Hid (ShE sb pl t)) (hl : xs.length + ((showE t)).length + 1 ≤ 1000000) :
    Calls Tryz.prog 60 #[.pointer (some ⟨sb, 0, none⟩), .agg #[.pointer (some ⟨b, 0, none⟩)]] w (SQ sb v w (xs ++ (showE t))) := by
  have H := Lib.hid h
  have hlt := h.lt
  have HBA := Lib.hid (b1 w (.cells #[.pointer (some ⟨b, 0, none⟩)] 25))
  have S0 := Lib.hid (SST.refl (h.below (b1 w (.cells #[.pointer (some ⟨b, 0, none⟩)] 25))))
  have U := Lib.hid (PtrAt.new w (some ⟨b, 0, none⟩))
  have N := Lib.hid (hn.bl (b1 w (.cells #[.pointer (some ⟨b, 0, none⟩)] 25)))
  have l0 := U.out.lt
  clear h hn
  have hfo := row_op
  have hfn := row_name
  clear hfo hfn
  go_enter Tryz.func60, Tryz.ntmps60
  have U0 := U.out.c0
  go_wp2_with fail
  clear U0
  generalize w.alloc (.cells #[.pointer (some ⟨b, 0, none⟩)] 25) = wa at *
  obtain ⟨Ao, co, hro⟩ := N.out.rowOf
  refine (op_of _ _ _ _ _ _ _ _ _ _ hro).mono ?_
  rintro e w1 ⟨rfl, hb⟩
  clear hro
  have U1 := Lib.hid (U.out.below hb)
  have N1 := Lib.hid (N.out.bl hb)
  have S1 := Lib.hid (S0.out.below hb)
  have z1 := hb.size
  clear U N
  have U := U1
  have N := N1
  clear U1 N1
  clear hb
  have e6 : ((t.op : Int) == 6) = false := by have := hop.out; simp; omega
  have e7 : ((t.op : Int) == 7) = false := by have := hop.out; simp; omega
  have e8 : ((t.op : Int) == 8) = false := by have := hop.out; simp; omega
  have e9 : ((t.op : Int) == 9) = false := by have := hop.out; simp; omega
  have e10 : ((t.op : Int) == 10) = false := by have := hop.out; simp; omega
  have e11 : ((t.op : Int) == 11) = false := by have := hop.out; simp; omega
  have e12 : ((t.op : Int) == 12) = false := by have := hop.out; simp; omega
  have e13 : ((t.op : Int) == 13) = false := by have := hop.out; simp; omega
  have e14 : ((t.op : Int) == 14) = false := by have := hop.out; simp; omega
  have U0 := U.out.c0
  go_wp2_with fail
  clear U0
  refine (hE.out _ _ _ b S1.out.sh N.out hl).mono ?_
  rintro e w2 ⟨v2, rfl, hs⟩
  have U2 := Lib.hid (U.out.sg hs.sg (by omega) (ub_ne S1.out H.out l0))
  have N2 := Lib.hid (N.out.low (hs.sg.low S1.out.sh))
  have S2 := Lib.hid (S1.out.trans hs)
  have z2 := hs.sg.size
  clear U N hs
  have U := U2
  have N := N2
  clear U2 N2
  go_wp2_with fail
  first | refine bodyPost_end (v := .tuple #[]) (by simp [results, Tryz.results60, go_sem]) rfl ?_ | refine bodyPost_ret (v := .tuple #[]) (by simp [results, Tryz.results60, go_sem]) rfl ?_
  have hfin := ((SST.refl H.out).below HBA.out).trans S2.out
  have hx : xs ++ (showE t) = (xs ++ showE t) := by simp
  first | exact ⟨_, rfl, hfin.cast hx.symm⟩ | exact ⟨_, rfl, hfin.cast (by simp [List.append_assoc])⟩

end Go.Proofs.YtfbejfoalnhihaaGreatDoor

/-
  CONTRACT: statement, structure of the shower. Nobody but the shower's own blocks has turned.
-/
namespace Go.Proofs.YtfbejfoalnhihaaGreatDoor
open Go.RowKit

theorem showS_op {t : Tree} {k : Nat} (h : t.op = k) : showS t = stmtOf k t.name (t.kids.map showE) (t.kids.map showS) (showE t) := by rw [showS_eq, h]
theorem getS_kid {t u : Tree} {i : Nat} (h : t.kids[i]? = some u) : (t.kids.map showS).getD i [] = showS u := by
  rw [List.getD_eq_getElem?_getD, List.getElem?_map, h]; rfl
theorem showS_block {t : Tree} (h : t.op = 6) : showS t = showB t := by rw [showS_op h]; rfl
theorem kids_le (t : Tree) : t.kids.length ≤ sizeT t := by
  rw [sizeT_eq]
  have h : ∀ l : List Tree, l.length ≤ sizeL l := by
    intro l
    induction l with
    | nil => exact Nat.le_refl _
    | cons a r ih => show r.length + 1 ≤ sizeT a + sizeL r; have := sizeT_eq a; omega
  have := h t.kids
  omega
theorem stmtS_any (sb : Nat) (pl : Nat → Nat) : ∀ (N : Nat) (t : Tree), sizeT t ≤ N → N ≤ 1000000 → OkT t → ShS sb pl t ∧ ShB sb pl t := by
  intro N
  induction N with
  | zero => intro t h; have := sizeT_eq t; omega
  | succ N ih =>
    intro t hs hN hT
    have hE : ∀ (k : Nat) (u : Tree), t.kids[k]? = some u → ShE sb pl u := fun k u hu => exprS_any sb pl N u (by have := size_kid hu; omega) (hT.kid hu)
    have hS : Hid (∀ (k : Nat) (u : Tree), t.kids[k]? = some u → ShS sb pl u) := fun k u hu => (ih u (by have := size_kid hu; omega) (by omega) (hT.kid hu)).1
    have hB : ∀ (k : Nat) (u : Tree), t.kids[k]? = some u → ShB sb pl u := fun k u hu => (ih u (by have := size_kid hu; omega) (by omega) (hT.kid hu)).2
    have hA := hT.least
    unfold arity at hA
    have bl : ShB sb pl t := fun w v xs b h hn hl => blockS_any w sb v xs pl b t h hn hS (by have := kids_le t; omega) hl
    refine ⟨?_, bl⟩
    intro w v xs b h hn hl
    by_cases hr : t.op < 6 ∨ 14 < t.op
    · have e : showS t = showE t := by rw [showS_eq]; unfold stmtOf; repeat rw [if_neg (by omega)]
      rw [e] at hl ⊢
      exact stmt_else w sb v xs pl b t h hn (Lib.hid hr) (Lib.hid (exprS_any sb pl (N + 1) t hs hT)) hl
    have hx : t.op = 6 ∨ t.op = 7 ∨ t.op = 8 ∨ t.op = 9 ∨ t.op = 10 ∨ t.op = 11 ∨ t.op = 12 ∨ t.op = 13 ∨ t.op = 14 := by omega
    rcases hx with o | o | o | o | o | o | o | o | o
    · rw [showS_block o] at hl ⊢
      exact stmt_6 w sb v xs pl b t h hn o (Lib.hid bl) hl
    · simp [o] at hA
      obtain ⟨u0, h0⟩ := kid_is (t := t) (i := 0) (by omega)
      have e : showS t = [t.name, cDef] ++ (showE u0 ++ [cSemi]) := by rw [showS_op o, ← getD_kid h0]; rfl
      rw [e] at hl ⊢
      exact stmt_7 w sb v xs pl b t u0 h hn o (Lib.hid h0) (Lib.hid (hE 0 u0 h0)) hl
    · simp [o] at hA
      obtain ⟨u0, h0⟩ := kid_is (t := t) (i := 0) (by omega)
      have e : showS t = [t.name, cEq] ++ (showE u0 ++ [cSemi]) := by rw [showS_op o, ← getD_kid h0]; rfl
      rw [e] at hl ⊢
      exact stmt_8 w sb v xs pl b t u0 h hn o (Lib.hid h0) (Lib.hid (hE 0 u0 h0)) hl
    · simp [o] at hA
      obtain ⟨u0, h0⟩ := kid_is (t := t) (i := 0) (by omega)
      obtain ⟨u1, h1⟩ := kid_is (t := t) (i := 1) (by omega)
      have e : showS t = showE u0 ++ [cDot, t.name, cEq] ++ (showE u1 ++ [cSemi]) := by rw [showS_op o, ← getD_kid h0, ← getD_kid h1]; rfl
      rw [e] at hl ⊢
      exact stmt_9 w sb v xs pl b t u0 u1 h hn o (Lib.hid h0) (Lib.hid (hE 0 u0 h0)) (Lib.hid h1) (Lib.hid (hE 1 u1 h1)) hl
    · simp [o] at hA
      obtain ⟨u0, h0⟩ := kid_is (t := t) (i := 0) (by omega)
      obtain ⟨u1, h1, b1⟩ := hT.body (.inl o)
      by_cases h2 : 2 < t.kids.length
      · obtain ⟨u2, hu2⟩ := kid_is h2
        have e : showS t = [kIf] ++ showE u0 ++ showB u1 ++ ([kElse] ++ showS u2) := by
          rw [showS_op o, ← getD_kid h0, ← showS_block b1, ← getS_kid h1, ← getS_kid hu2]
          show _ ++ _ ++ _ ++ (if 2 < (t.kids.map showS).length then _ else _) = _
          rw [if_pos (by rw [List.length_map]; exact h2)]
        rw [e] at hl ⊢
        exact stmt_10b w sb v xs pl b t u0 u1 u2 h hn o (Lib.hid h0) (Lib.hid (hE 0 u0 h0)) (Lib.hid h1) (Lib.hid (hB 1 u1 h1)) (Lib.hid hu2) (Lib.hid (hS.out 2 u2 hu2)) h2 hl
      · have e : showS t = [kIf] ++ showE u0 ++ showB u1 := by
          rw [showS_op o, ← getD_kid h0, ← showS_block b1, ← getS_kid h1]
          show _ ++ _ ++ _ ++ (if 2 < (t.kids.map showS).length then _ else _) = _
          rw [if_neg (by rw [List.length_map]; exact h2), List.append_nil]
        rw [e] at hl ⊢
        exact stmt_10a w sb v xs pl b t u0 u1 h hn o (Lib.hid h0) (Lib.hid (hE 0 u0 h0)) (Lib.hid h1) (Lib.hid (hB 1 u1 h1)) (by omega) hl
    · simp [o] at hA
      obtain ⟨u0, h0⟩ := kid_is (t := t) (i := 0) (by omega)
      obtain ⟨u1, h1, b1⟩ := hT.body (.inr o)
      have e : showS t = [kFor] ++ showE u0 ++ showB u1 := by rw [showS_op o, ← getD_kid h0, ← showS_block b1, ← getS_kid h1]; rfl
      rw [e] at hl ⊢
      exact stmt_11 w sb v xs pl b t u0 u1 h hn o (Lib.hid h0) (Lib.hid (hE 0 u0 h0)) (Lib.hid h1) (Lib.hid (hB 1 u1 h1)) hl
    · simp [o] at hA
      obtain ⟨u0, h0⟩ := kid_is (t := t) (i := 0) (by omega)
      have e : showS t = [kPrint] ++ ([cLB] ++ showE u0 ++ [cRB]) ++ [cSemi] := by rw [showS_op o, ← getD_kid h0]; rfl
      rw [e] at hl ⊢
      exact stmt_12 w sb v xs pl b t u0 h hn o (Lib.hid h0) (Lib.hid (hE 0 u0 h0)) hl
    · by_cases h1 : t.kids.length = 0
      · have e : showS t = [kReturn] ++ [cSemi] := by
          rw [showS_op o, List.length_eq_zero_iff.1 h1]; rfl
        rw [e] at hl ⊢
        exact stmt_13b w sb v xs pl b t h hn o h1 hl
      · obtain ⟨u0, h0⟩ := kid_is (t := t) (i := 0) (by omega)
        have e : showS t = [kReturn] ++ (showE u0 ++ [cSemi]) := by rw [showS_op o, ← getD_kid h0]; rfl
        rw [e] at hl ⊢
        exact stmt_13a w sb v xs pl b t u0 h hn o (Lib.hid h0) (Lib.hid (hE 0 u0 h0)) hl
    · simp [o] at hA
      obtain ⟨u0, h0⟩ := kid_is (t := t) (i := 0) (by omega)
      have e : showS t = showE u0 ++ [cSemi] := by rw [showS_op o, ← getD_kid h0]; rfl
      rw [e] at hl ⊢
      exact stmt_14 w sb v xs pl b t u0 h hn o (Lib.hid h0) (Lib.hid (hE 0 u0 h0)) hl

theorem typed_len (u : Tree) : 2 ≤ (typedT u).length := by unfold typedT typT; split <;> simp
set_option maxRecDepth 100000 in
set_option maxHeartbeats 1000000 in
theorem structS_any (w : World) (sb : Nat) (v : Value) (xs : List Tx) (pl : Nat → Nat) (b : Nat) (t : Tree) (h : SH w sb v xs) (hn : NodeAt (fun x => x < sb) pl w b t) (hk6 : t.kids.length ≤ 1000000) (hl : xs.length + (([kType, t.name, kStruct, cLC] ++ (t.kids.map fun k => typedT k ++ [cSemi]).flatten ++ [cRC])).length + 1 ≤ 1000000) :
    Calls Tryz.prog 56 #[.pointer (some ⟨sb, 0, none⟩), .agg #[.pointer (some ⟨b, 0, none⟩)]] w (SQ sb v w (xs ++ ([kType, t.name, kStruct, cLC] ++ (t.kids.map fun k => typedT k ++ [cSemi]).flatten ++ [cRC]))) := by
  have H := Lib.hid h
  have hlt := h.lt
  have HBA := Lib.hid (b1 w (.cells #[.pointer (some ⟨b, 0, none⟩)] 25))
  have S0 := Lib.hid (SST.refl (h.below (b1 w (.cells #[.pointer (some ⟨b, 0, none⟩)] 25))))
  have U := Lib.hid (PtrAt.new w (some ⟨b, 0, none⟩))
  have N := Lib.hid (hn.bl (b1 w (.cells #[.pointer (some ⟨b, 0, none⟩)] 25)))
  have l0 := U.out.lt
  clear h hn
  have hfo := row_op
  have hfn := row_name
  clear hfo hfn
  go_enter Tryz.func56, Tryz.ntmps56
  have U0 := U.out.c0
  go_wp2_with fail
  clear U0
  generalize w.alloc (.cells #[.pointer (some ⟨b, 0, none⟩)] 25) = wa at *
  simp only [List.length_append, List.length_cons, List.length_nil] at hl
  obtain ⟨Ao, co, hro⟩ := N.out.rowOf
  refine (name_of _ _ _ _ _ _ _ _ _ _ hro).mono ?_
  rintro e w1 ⟨rfl, hb⟩
  clear hro
  have U1 := Lib.hid (U.out.below hb)
  have N1 := Lib.hid (N.out.bl hb)
  have S1 := Lib.hid (S0.out.below hb)
  have z1 := hb.size
  clear U N
  have U := U1
  have N := N1
  clear U1 N1
  clear hb
  have C2 := Lib.hid (show ∀ (j : Nat) (y : Tx), ([kType, t.name, kStruct, cLC] : List Tx)[j]? = some y → (w1.alloc (.cells #[.string ⟨#[116, 121, 112, 101]⟩, .string ⟨t.name.toArray⟩, .string ⟨#[115, 116, 114, 117, 99, 116]⟩, .string ⟨#[123]⟩] 9)).cell? ⟨w1.heap.size, j, none⟩ = some (.string ⟨y.toArray⟩) from lit_cells w1 [kType, t.name, kStruct, cLC])
  have U2 := Lib.hid (U.out.below (b1 w1 (.cells #[.string ⟨#[116, 121, 112, 101]⟩, .string ⟨t.name.toArray⟩, .string ⟨#[115, 116, 114, 117, 99, 116]⟩, .string ⟨#[123]⟩] 9)))
  have N2 := Lib.hid (N.out.bl (b1 w1 (.cells #[.string ⟨#[116, 121, 112, 101]⟩, .string ⟨t.name.toArray⟩, .string ⟨#[115, 116, 114, 117, 99, 116]⟩, .string ⟨#[123]⟩] 9)))
  have S2 := Lib.hid (S1.out.below (b1 w1 (.cells #[.string ⟨#[116, 121, 112, 101]⟩, .string ⟨t.name.toArray⟩, .string ⟨#[115, 116, 114, 117, 99, 116]⟩, .string ⟨#[123]⟩] 9)))
  have z2 := (b1 w1 (.cells #[.string ⟨#[116, 121, 112, 101]⟩, .string ⟨t.name.toArray⟩, .string ⟨#[115, 116, 114, 117, 99, 116]⟩, .string ⟨#[123]⟩] 9)).size
  clear U N
  have U := U2
  have N := N2
  clear U2 N2
  have U0 := U.out.c0
  go_wp2_with fail
  clear U0
  generalize w1.alloc (.cells #[.string ⟨#[116, 121, 112, 101]⟩, .string ⟨t.name.toArray⟩, .string ⟨#[115, 116, 114, 117, 99, 116]⟩, .string ⟨#[123]⟩] 9) = wb2 at *
  refine (add_any _ sb _ _ w1.heap.size 4 [kType, t.name, kStruct, cLC] S2.out.sh (Lib.hid rfl) C2 (by omega) (by first | omega | (simp only [List.length_append, List.length_cons, List.length_nil]; omega) | (simp only [List.length_append, List.length_cons, List.length_nil] at hl ⊢; omega))).mono ?_
  rintro e w3 ⟨v3, rfl, hs⟩
  clear C2
  have U3 := Lib.hid (U.out.sg hs.sg (by omega) (ub_ne S2.out H.out l0))
  have N3 := Lib.hid (N.out.low (hs.sg.low S2.out.sh))
  have S3 := Lib.hid (S2.out.trans hs)
  have z3 := hs.sg.size
  clear U N hs
  have U := U3
  have N := N3
  clear U3 N3
  have U0 := U.out.c0
  go_wp2_with fail
  clear U0
  obtain ⟨Ao, co, hro⟩ := N.out.rowOf
  refine (kids_of _ _ _ _ _ _ _ _ _ _ hro).mono ?_
  rintro e w4 ⟨rfl, hb⟩
  clear hro
  have U4 := Lib.hid (U.out.below hb)
  have N4 := Lib.hid (N.out.bl hb)
  have S4 := Lib.hid (S3.out.below hb)
  have z4 := hb.size
  clear U N
  have U := U4
  have N := N4
  clear U4 N4
  clear hb
  go_wp2_with fail
  go_loopw [12] (fun i wr => BlRel sb v w wa xs pl b t [kType, t.name, kStruct, cLC] (t.kids.map fun k => typedT k ++ [cSemi]) i wr) (fun i _ => t.kids.length - (intOf i).toNat)
  case atStart => exact ⟨0, _, Nat.zero_le _, rfl, by show SST _ _ _ _ _ _; simpa using S4.out, U, N⟩
  case round =>
    obtain ⟨k, vr, hk, rfl, S, U, N⟩ := hrel
    by_cases hlt : k < t.kids.length
    · skip
      obtain ⟨u, hu⟩ := kid_is hlt
      have hy : (t.kids.map fun k => typedT k ++ [cSemi])[k]? = some (typedT u ++ [cSemi]) := by rw [List.getElem?_map, hu]; rfl
      have HU := Lib.hid hu
      have HCT := Lib.hid (take_flat _ k _ hy)
      have hfl := flat_take _ k _ hy
      clear hu hy
      have hki : (k : Int) < (t.kids.length : Int) := by omega
      try simp only [List.length_append, List.length_cons, List.length_nil] at hfl
      have U0 := U.out.c0
      go_wp2_with fail
      clear U0
      obtain ⟨nm, hm, hc⟩ := kid_at N.out k u HU.out
      refine hc.mono ?_
      rintro e w5 ⟨rfl, hb⟩
      have M := Lib.hid (hm.bl hb)
      have U5 := Lib.hid (U.out.below hb)
      have N5 := Lib.hid (N.out.bl hb)
      have S5 := Lib.hid (S.out.below hb)
      have z5 := hb.size
      clear U N
      have U := U5
      have N := N5
      clear U5 N5
      clear hb hc hm
      go_wp2_with fail
      refine (typedS_any _ sb _ _ pl nm u S5.out.sh M.out (by have h7 := typed_len u; simp only [List.length_append, List.length_cons, List.length_nil]; omega)).mono ?_
      rintro e w6 ⟨v6, rfl, hs⟩
      have U6 := Lib.hid (U.out.sg hs.sg (by omega) (ub_ne S5.out H.out l0))
      have N6 := Lib.hid (N.out.low (hs.sg.low S5.out.sh))
      have S6 := Lib.hid (S5.out.trans hs)
      have z6 := hs.sg.size
      clear U N hs
      have U := U6
      have N := N6
      clear U6 N6
      clear M
      have C7 := Lib.hid (show ∀ (j : Nat) (y : Tx), ([cSemi] : List Tx)[j]? = some y → (w6.alloc (.cells #[.string ⟨#[59]⟩] 9)).cell? ⟨w6.heap.size, j, none⟩ = some (.string ⟨y.toArray⟩) from lit_cells w6 [cSemi])
      have U7 := Lib.hid (U.out.below (b1 w6 (.cells #[.string ⟨#[59]⟩] 9)))
      have N7 := Lib.hid (N.out.bl (b1 w6 (.cells #[.string ⟨#[59]⟩] 9)))
      have S7 := Lib.hid (S6.out.below (b1 w6 (.cells #[.string ⟨#[59]⟩] 9)))
      have z7 := (b1 w6 (.cells #[.string ⟨#[59]⟩] 9)).size
      clear U N
      have U := U7
      have N := N7
      clear U7 N7
      have U0 := U.out.c0
      go_wp2_with fail
      clear U0
      generalize w6.alloc (.cells #[.string ⟨#[59]⟩] 9) = wb7 at *
      refine (add_any _ sb _ _ w6.heap.size 1 [cSemi] S7.out.sh (Lib.hid rfl) C7 (by omega) (by first | omega | (simp only [List.length_append, List.length_cons, List.length_nil]; omega) | (simp only [List.length_append, List.length_cons, List.length_nil] at hl ⊢; omega))).mono ?_
      rintro e w8 ⟨v8, rfl, hs⟩
      clear C7
      have U8 := Lib.hid (U.out.sg hs.sg (by omega) (ub_ne S7.out H.out l0))
      have N8 := Lib.hid (N.out.low (hs.sg.low S7.out.sh))
      have S8 := Lib.hid (S7.out.trans hs)
      have z8 := hs.sg.size
      clear U N hs
      have U := U8
      have N := N8
      clear U8 N8
      go_wp2_with fail
      go_roundw
      case rel => exact ⟨k + 1, _, by omega, by go_num, by show SST _ _ _ _ _ _; have h9 := S8.out; rw [HCT.out]; simpa [List.append_assoc] using h9, U, N⟩
      case measure => simp [intOf]; omega
    · skip
      obtain rfl : k = t.kids.length := by omega
      have htk : ((t.kids.map fun k => typedT k ++ [cSemi])).take t.kids.length = (t.kids.map fun k => typedT k ++ [cSemi]) := List.take_of_length_le (by rw [List.length_map]; exact Nat.le_refl _)
      rw [htk] at S
      clear htk
      have C10 := Lib.hid (show ∀ (j : Nat) (y : Tx), ([cRC] : List Tx)[j]? = some y → (wr.alloc (.cells #[.string ⟨#[125]⟩] 9)).cell? ⟨wr.heap.size, j, none⟩ = some (.string ⟨y.toArray⟩) from lit_cells wr [cRC])
      have U10 := Lib.hid (U.out.below (b1 wr (.cells #[.string ⟨#[125]⟩] 9)))
      have N10 := Lib.hid (N.out.bl (b1 wr (.cells #[.string ⟨#[125]⟩] 9)))
      have S10 := Lib.hid (S.out.below (b1 wr (.cells #[.string ⟨#[125]⟩] 9)))
      have z10 := (b1 wr (.cells #[.string ⟨#[125]⟩] 9)).size
      clear U N
      have U := U10
      have N := N10
      clear U10 N10
      have U0 := U.out.c0
      go_wp2_with fail
      clear U0
      generalize wr.alloc (.cells #[.string ⟨#[125]⟩] 9) = wb10 at *
      refine (add_any _ sb _ _ wr.heap.size 1 [cRC] S10.out.sh (Lib.hid rfl) C10 (by omega) (by first | omega | (simp only [List.length_append, List.length_cons, List.length_nil]; omega) | (simp only [List.length_append, List.length_cons, List.length_nil] at hl ⊢; omega))).mono ?_
      rintro e w11 ⟨v11, rfl, hs⟩
      clear C10
      have U11 := Lib.hid (U.out.sg hs.sg (by omega) (ub_ne S10.out H.out l0))
      have N11 := Lib.hid (N.out.low (hs.sg.low S10.out.sh))
      have S11 := Lib.hid (S10.out.trans hs)
      have z11 := hs.sg.size
      clear U N hs
      have U := U11
      have N := N11
      clear U11 N11
      go_wp2_with fail
      first | refine bodyPost_end (v := .tuple #[]) (by simp [results, Tryz.results56, go_sem]) rfl ?_ | refine bodyPost_ret (v := .tuple #[]) (by simp [results, Tryz.results56, go_sem]) rfl ?_
      have hfin := ((SST.refl H.out).below HBA.out).trans S11.out
      have hx : xs ++ ([kType, t.name, kStruct, cLC] ++ (t.kids.map fun k => typedT k ++ [cSemi]).flatten ++ [cRC]) = ((xs ++ [kType, t.name, kStruct, cLC] ++ (t.kids.map fun k => typedT k ++ [cSemi]).flatten) ++ [cRC]) := by simp [List.append_assoc]
      first | exact ⟨_, rfl, hfin.cast hx.symm⟩ | exact ⟨_, rfl, hfin.cast (by simp [List.append_assoc])⟩

end Go.Proofs.YtfbejfoalnhihaaGreatDoor

/-
  CONTRACT: function, declaration of the shower. Nobody but the shower's own blocks has turned.
-/
namespace Go.Proofs.YtfbejfoalnhihaaGreatDoor
open Go.RowKit

def parsT (t : Tree) : List (List Tx) := (t.kids.take (t.kids.length - 1)).map typedT
theorem pars_len (t : Tree) : (parsT t).length = t.kids.length - 1 := by unfold parsT; rw [List.length_map, List.length_take]; omega
theorem pars_at {t : Tree} {k : Nat} {u : Tree} (h : t.kids[k]? = some u) (hk : k < t.kids.length - 1) : (parsT t)[k]? = some (typedT u) := by
  unfold parsT; rw [List.getElem?_map, List.getElem?_take, if_pos hk, h]; rfl

set_option maxRecDepth 100000 in
set_option maxHeartbeats 1000000 in
theorem function_a (w : World) (sb : Nat) (v : Value) (xs : List Tx) (pl : Nat → Nat) (b : Nat) (t : Tree) (m : Nat) (ub : Tree) (h : SH w sb v xs) (hn : NodeAt (fun x => x < sb) pl w b t) (hlen : t.kids.length = m + 1) (hk6 : t.kids.length ≤ 1000000) (hub : Hid (t.kids[m]? = some ub)) (hSb : Hid (ShS sb pl ub)) (hty : t.typ = []) (hl : xs.length + (([kFunc, t.name] ++ ([cLB] ++ commaF (parsT t) ++ [cRB]) ++ showS ub)).length + 1 ≤ 1000000) :
    Calls Tryz.prog 59 #[.pointer (some ⟨sb, 0, none⟩), .agg #[.pointer (some ⟨b, 0, none⟩)]] w (SQ sb v w (xs ++ ([kFunc, t.name] ++ ([cLB] ++ commaF (parsT t) ++ [cRB]) ++ showS ub))) := by
  have hpl := pars_len t
  rw [hlen] at hpl
  have hpl2 : (parsT t).length = m := by omega
  have HPL := Lib.hid hpl2
  have hcl := comma_len (parsT t)
  rw [hpl2] at hcl
  clear hpl hpl2
  have hsub : ((t.kids.length : Int) - 1) = (m : Int) := by omega
  have hlen1 : ((t.kids.length : Int)) = (m : Int) + 1 := by omega
  have HLEN := Lib.hid hlen
  clear hlen
  have H := Lib.hid h
  have hlt := h.lt
  have HBA := Lib.hid (b1 w (.cells #[.pointer (some ⟨b, 0, none⟩)] 25))
  have S0 := Lib.hid (SST.refl (h.below (b1 w (.cells #[.pointer (some ⟨b, 0, none⟩)] 25))))
  have U := Lib.hid (PtrAt.new w (some ⟨b, 0, none⟩))
  have N := Lib.hid (hn.bl (b1 w (.cells #[.pointer (some ⟨b, 0, none⟩)] 25)))
  have l0 := U.out.lt
  clear h hn
  have hfo := row_op
  have hfn := row_name
  clear hfo hfn
  go_enter Tryz.func59, Tryz.ntmps59
  have U0 := U.out.c0
  go_wp2_with fail
  clear U0
  generalize w.alloc (.cells #[.pointer (some ⟨b, 0, none⟩)] 25) = wa at *
  simp only [List.length_append, List.length_cons, List.length_nil] at hl
  have hmf : ∀ (fn : Fn) (first cap : Array Value) (w : World), (Instr.makeFunc fn first cap).run Tryz.prog w = .ok (.func fn first cap) w := fun _ _ _ _ => rfl
  have HSH : Hid (Shows 58 sb pl t m (parsT t)) := by
    intro k u ys hk hu hy w1 v1 xs1 nb h1 h2 h3
    rw [pars_at hu (by rw [HLEN.out]; omega)] at hy
    obtain rfl := Option.some.inj hy
    have h7 := typed_len u
    exact typedS_any w1 sb v1 xs1 pl nb u h1 h2 (by omega)
  obtain ⟨Ao, co, hro⟩ := N.out.rowOf
  refine (name_of _ _ _ _ _ _ _ _ _ _ hro).mono ?_
  rintro e w1 ⟨rfl, hb⟩
  clear hro
  have U1 := Lib.hid (U.out.below hb)
  have N1 := Lib.hid (N.out.bl hb)
  have S1 := Lib.hid (S0.out.below hb)
  have z1 := hb.size
  clear U N
  have U := U1
  have N := N1
  clear U1 N1
  clear hb
  have C2 := Lib.hid (show ∀ (j : Nat) (y : Tx), ([kFunc, t.name] : List Tx)[j]? = some y → (w1.alloc (.cells #[.string ⟨#[102, 117, 110, 99]⟩, .string ⟨t.name.toArray⟩] 9)).cell? ⟨w1.heap.size, j, none⟩ = some (.string ⟨y.toArray⟩) from lit_cells w1 [kFunc, t.name])
  have U2 := Lib.hid (U.out.below (b1 w1 (.cells #[.string ⟨#[102, 117, 110, 99]⟩, .string ⟨t.name.toArray⟩] 9)))
  have N2 := Lib.hid (N.out.bl (b1 w1 (.cells #[.string ⟨#[102, 117, 110, 99]⟩, .string ⟨t.name.toArray⟩] 9)))
  have S2 := Lib.hid (S1.out.below (b1 w1 (.cells #[.string ⟨#[102, 117, 110, 99]⟩, .string ⟨t.name.toArray⟩] 9)))
  have z2 := (b1 w1 (.cells #[.string ⟨#[102, 117, 110, 99]⟩, .string ⟨t.name.toArray⟩] 9)).size
  clear U N
  have U := U2
  have N := N2
  clear U2 N2
  have U0 := U.out.c0
  go_wp2_with fail
  clear U0
  generalize w1.alloc (.cells #[.string ⟨#[102, 117, 110, 99]⟩, .string ⟨t.name.toArray⟩] 9) = wb2 at *
  refine (add_any _ sb _ _ w1.heap.size 2 [kFunc, t.name] S2.out.sh (Lib.hid rfl) C2 (by omega) (by first | omega | (simp only [List.length_append, List.length_cons, List.length_nil]; omega) | (simp only [List.length_append, List.length_cons, List.length_nil] at hl ⊢; omega))).mono ?_
  rintro e w3 ⟨v3, rfl, hs⟩
  clear C2
  have U3 := Lib.hid (U.out.sg hs.sg (by omega) (ub_ne S2.out H.out l0))
  have N3 := Lib.hid (N.out.low (hs.sg.low S2.out.sh))
  have S3 := Lib.hid (S2.out.trans hs)
  have z3 := hs.sg.size
  clear U N hs
  have U := U3
  have N := N3
  clear U3 N3
  have U0 := U.out.c0
  go_wp2_with fail
  clear U0
  obtain ⟨Ao, co, hro⟩ := N.out.rowOf
  refine (kids_of _ _ _ _ _ _ _ _ _ _ hro).mono ?_
  rintro e w4 ⟨rfl, hb⟩
  clear hro
  have U4 := Lib.hid (U.out.below hb)
  have N4 := Lib.hid (N.out.bl hb)
  have S4 := Lib.hid (S3.out.below hb)
  have z4 := hb.size
  clear U N
  have U := U4
  have N := N4
  clear U4 N4
  clear hb
  have U0 := U.out.c0
  go_wp2_with fail
  clear U0
  refine (inBrackets_typed _ sb _ _ pl b t m (parsT t) S4.out.sh N.out HPL (by rw [HLEN.out]; omega) HSH (by simp only [List.length_append, List.length_cons, List.length_nil]; omega)).mono ?_
  rintro e w5 ⟨v5, rfl, hs⟩
  have U5 := Lib.hid (U.out.sg hs.sg (by omega) (ub_ne S4.out H.out l0))
  have N5 := Lib.hid (N.out.low (hs.sg.low S4.out.sh))
  have S5 := Lib.hid (S4.out.trans hs)
  have z5 := hs.sg.size
  clear U N hs
  have U := U5
  have N := N5
  clear U5 N5
  have U0 := U.out.c0
  go_wp2_with fail
  clear U0
  obtain ⟨Ao, co, hro⟩ := N.out.rowOf
  refine (typ_of _ _ _ _ _ _ _ _ _ _ hro).mono ?_
  rintro e w6 ⟨rfl, hb⟩
  clear hro
  have U6 := Lib.hid (U.out.below hb)
  have N6 := Lib.hid (N.out.bl hb)
  have S6 := Lib.hid (S5.out.below hb)
  have z6 := hb.size
  clear U N
  have U := U6
  have N := N6
  clear U6 N6
  clear hb
  have U0 := U.out.c0
  go_wp2_with fail
  clear U0
  obtain ⟨nm, hm, hc⟩ := kid_at N.out m ub hub.out
  refine hc.mono ?_
  rintro e w7 ⟨rfl, hb⟩
  have M := Lib.hid (hm.bl hb)
  have U7 := Lib.hid (U.out.below hb)
  have N7 := Lib.hid (N.out.bl hb)
  have S7 := Lib.hid (S6.out.below hb)
  have z7 := hb.size
  clear U N
  have U := U7
  have N := N7
  clear U7 N7
  clear hb hc hm
  go_wp2_with fail
  refine (hSb.out _ _ _ nm S7.out.sh M.out (by first | omega | (simp only [List.length_append, List.length_cons, List.length_nil]; omega) | (simp only [List.length_append, List.length_cons, List.length_nil] at hl ⊢; omega))).mono ?_
  rintro e w8 ⟨v8, rfl, hs⟩
  have U8 := Lib.hid (U.out.sg hs.sg (by omega) (ub_ne S7.out H.out l0))
  have N8 := Lib.hid (N.out.low (hs.sg.low S7.out.sh))
  have S8 := Lib.hid (S7.out.trans hs)
  have z8 := hs.sg.size
  clear U N hs
  have U := U8
  have N := N8
  clear U8 N8
  clear M
  go_wp2_with fail
  first | refine bodyPost_end (v := .tuple #[]) (by simp [results, Tryz.results59, go_sem]) rfl ?_ | refine bodyPost_ret (v := .tuple #[]) (by simp [results, Tryz.results59, go_sem]) rfl ?_
  have hfin := ((SST.refl H.out).below HBA.out).trans S8.out
  have hx : xs ++ ([kFunc, t.name] ++ ([cLB] ++ commaF (parsT t) ++ [cRB]) ++ showS ub) = (((xs ++ [kFunc, t.name]) ++ ([cLB] ++ commaF (parsT t) ++ [cRB])) ++ showS ub) := by simp [List.append_assoc]
  first | exact ⟨_, rfl, hfin.cast hx.symm⟩ | exact ⟨_, rfl, hfin.cast (by simp [List.append_assoc])⟩

set_option maxRecDepth 100000 in
set_option maxHeartbeats 1000000 in
theorem function_b (w : World) (sb : Nat) (v : Value) (xs : List Tx) (pl : Nat → Nat) (b : Nat) (t : Tree) (m : Nat) (ub : Tree) (h : SH w sb v xs) (hn : NodeAt (fun x => x < sb) pl w b t) (hlen : t.kids.length = m + 1) (hk6 : t.kids.length ≤ 1000000) (hub : Hid (t.kids[m]? = some ub)) (hSb : Hid (ShS sb pl ub)) (hty : Hid (t.typ ≠ [])) (hl : xs.length + (([kFunc, t.name] ++ ([cLB] ++ commaF (parsT t) ++ [cRB]) ++ typT t.typ ++ showS ub)).length + 1 ≤ 1000000) :
    Calls Tryz.prog 59 #[.pointer (some ⟨sb, 0, none⟩), .agg #[.pointer (some ⟨b, 0, none⟩)]] w (SQ sb v w (xs ++ ([kFunc, t.name] ++ ([cLB] ++ commaF (parsT t) ++ [cRB]) ++ typT t.typ ++ showS ub))) := by
  have hpl := pars_len t
  rw [hlen] at hpl
  have hpl2 : (parsT t).length = m := by omega
  have HPL := Lib.hid hpl2
  have hcl := comma_len (parsT t)
  rw [hpl2] at hcl
  clear hpl hpl2
  have hsub : ((t.kids.length : Int) - 1) = (m : Int) := by omega
  have hlen1 : ((t.kids.length : Int)) = (m : Int) + 1 := by omega
  have HLEN := Lib.hid hlen
  clear hlen
  have htl : 1 ≤ (typT t.typ).length := by unfold typT; split <;> simp
  have hem : t.typ.isEmpty = false := by simpa using hty.out
  have H := Lib.hid h
  have hlt := h.lt
  have HBA := Lib.hid (b1 w (.cells #[.pointer (some ⟨b, 0, none⟩)] 25))
  have S0 := Lib.hid (SST.refl (h.below (b1 w (.cells #[.pointer (some ⟨b, 0, none⟩)] 25))))
  have U := Lib.hid (PtrAt.new w (some ⟨b, 0, none⟩))
  have N := Lib.hid (hn.bl (b1 w (.cells #[.pointer (some ⟨b, 0, none⟩)] 25)))
  have l0 := U.out.lt
  clear h hn
  have hfo := row_op
  have hfn := row_name
  clear hfo hfn
  go_enter Tryz.func59, Tryz.ntmps59
  have U0 := U.out.c0
  go_wp2_with fail
  clear U0
  generalize w.alloc (.cells #[.pointer (some ⟨b, 0, none⟩)] 25) = wa at *
  simp only [List.length_append, List.length_cons, List.length_nil] at hl
  have hmf : ∀ (fn : Fn) (first cap : Array Value) (w : World), (Instr.makeFunc fn first cap).run Tryz.prog w = .ok (.func fn first cap) w := fun _ _ _ _ => rfl
  have HSH : Hid (Shows 58 sb pl t m (parsT t)) := by
    intro k u ys hk hu hy w1 v1 xs1 nb h1 h2 h3
    rw [pars_at hu (by rw [HLEN.out]; omega)] at hy
    obtain rfl := Option.some.inj hy
    have h7 := typed_len u
    exact typedS_any w1 sb v1 xs1 pl nb u h1 h2 (by omega)
  obtain ⟨Ao, co, hro⟩ := N.out.rowOf
  refine (name_of _ _ _ _ _ _ _ _ _ _ hro).mono ?_
  rintro e w1 ⟨rfl, hb⟩
  clear hro
  have U1 := Lib.hid (U.out.below hb)
  have N1 := Lib.hid (N.out.bl hb)
  have S1 := Lib.hid (S0.out.below hb)
  have z1 := hb.size
  clear U N
  have U := U1
  have N := N1
  clear U1 N1
  clear hb
  have C2 := Lib.hid (show ∀ (j : Nat) (y : Tx), ([kFunc, t.name] : List Tx)[j]? = some y → (w1.alloc (.cells #[.string ⟨#[102, 117, 110, 99]⟩, .string ⟨t.name.toArray⟩] 9)).cell? ⟨w1.heap.size, j, none⟩ = some (.string ⟨y.toArray⟩) from lit_cells w1 [kFunc, t.name])
  have U2 := Lib.hid (U.out.below (b1 w1 (.cells #[.string ⟨#[102, 117, 110, 99]⟩, .string ⟨t.name.toArray⟩] 9)))
  have N2 := Lib.hid (N.out.bl (b1 w1 (.cells #[.string ⟨#[102, 117, 110, 99]⟩, .string ⟨t.name.toArray⟩] 9)))
  have S2 := Lib.hid (S1.out.below (b1 w1 (.cells #[.string ⟨#[102, 117, 110, 99]⟩, .string ⟨t.name.toArray⟩] 9)))
  have z2 := (b1 w1 (.cells #[.string ⟨#[102, 117, 110, 99]⟩, .string ⟨t.name.toArray⟩] 9)).size
  clear U N
  have U := U2
  have N := N2
  clear U2 N2
  have U0 := U.out.c0
  go_wp2_with fail
  clear U0
  generalize w1.alloc (.cells #[.string ⟨#[102, 117, 110, 99]⟩, .string ⟨t.name.toArray⟩] 9) = wb2 at *
  refine (add_any _ sb _ _ w1.heap.size 2 [kFunc, t.name] S2.out.sh (Lib.hid rfl) C2 (by omega) (by first | omega | (simp only [List.length_append, List.length_cons, List.length_nil]; omega) | (simp only [List.length_append, List.length_cons, List.length_nil] at hl ⊢; omega))).mono ?_
  rintro e w3 ⟨v3, rfl, hs⟩
  clear C2
  have U3 := Lib.hid (U.out.sg hs.sg (by omega) (ub_ne S2.out H.out l0))
  have N3 := Lib.hid (N.out.low (hs.sg.low S2.out.sh))
  have S3 := Lib.hid (S2.out.trans hs)
  have z3 := hs.sg.size
  clear U N hs
  have U := U3
  have N := N3
  clear U3 N3
  have U0 := U.out.c0
  go_wp2_with fail
  clear U0
  obtain ⟨Ao, co, hro⟩ := N.out.rowOf
  refine (kids_of _ _ _ _ _ _ _ _ _ _ hro).mono ?_
  rintro e w4 ⟨rfl, hb⟩
  clear hro
  have U4 := Lib.hid (U.out.below hb)
  have N4 := Lib.hid (N.out.bl hb)
  have S4 := Lib.hid (S3.out.below hb)
  have z4 := hb.size
  clear U N
  have U := U4
  have N := N4
  clear U4 N4
  clear hb
  have U0 := U.out.c0
  go_wp2_with fail
  clear U0
  refine (inBrackets_typed _ sb _ _ pl b t m (parsT t) S4.out.sh N.out HPL (by rw [HLEN.out]; omega) HSH (by simp only [List.length_append, List.length_cons, List.length_nil]; omega)).mono ?_
  rintro e w5 ⟨v5, rfl, hs⟩
  have U5 := Lib.hid (U.out.sg hs.sg (by omega) (ub_ne S4.out H.out l0))
  have N5 := Lib.hid (N.out.low (hs.sg.low S4.out.sh))
  have S5 := Lib.hid (S4.out.trans hs)
  have z5 := hs.sg.size
  clear U N hs
  have U := U5
  have N := N5
  clear U5 N5
  have U0 := U.out.c0
  go_wp2_with fail
  clear U0
  obtain ⟨Ao, co, hro⟩ := N.out.rowOf
  refine (typ_of _ _ _ _ _ _ _ _ _ _ hro).mono ?_
  rintro e w6 ⟨rfl, hb⟩
  clear hro
  have U6 := Lib.hid (U.out.below hb)
  have N6 := Lib.hid (N.out.bl hb)
  have S6 := Lib.hid (S5.out.below hb)
  have z6 := hb.size
  clear U N
  have U := U6
  have N := N6
  clear U6 N6
  clear hb
  have U0 := U.out.c0
  go_wp2_with fail
  clear U0
  obtain ⟨Ao, co, hro⟩ := N.out.rowOf
  refine (typ_of _ _ _ _ _ _ _ _ _ _ hro).mono ?_
  rintro e w7 ⟨rfl, hb⟩
  clear hro
  have U7 := Lib.hid (U.out.below hb)
  have N7 := Lib.hid (N.out.bl hb)
  have S7 := Lib.hid (S6.out.below hb)
  have z7 := hb.size
  clear U N
  have U := U7
  have N := N7
  clear U7 N7
  clear hb
  go_wp2_with fail
  refine (typeTokens_any _ sb _ _ t.typ S7.out.sh (by simp only [List.length_append, List.length_cons, List.length_nil]; omega)).mono ?_
  rintro e w8 ⟨v8, rfl, hs⟩
  have U8 := Lib.hid (U.out.sg hs.sg (by omega) (ub_ne S7.out H.out l0))
  have N8 := Lib.hid (N.out.low (hs.sg.low S7.out.sh))
  have S8 := Lib.hid (S7.out.trans hs)
  have z8 := hs.sg.size
  clear U N hs
  have U := U8
  have N := N8
  clear U8 N8
  have U0 := U.out.c0
  go_wp2_with fail
  clear U0
  obtain ⟨nm, hm, hc⟩ := kid_at N.out m ub hub.out
  refine hc.mono ?_
  rintro e w9 ⟨rfl, hb⟩
  have M := Lib.hid (hm.bl hb)
  have U9 := Lib.hid (U.out.below hb)
  have N9 := Lib.hid (N.out.bl hb)
  have S9 := Lib.hid (S8.out.below hb)
  have z9 := hb.size
  clear U N
  have U := U9
  have N := N9
  clear U9 N9
  clear hb hc hm
  go_wp2_with fail
  refine (hSb.out _ _ _ nm S9.out.sh M.out (by first | omega | (simp only [List.length_append, List.length_cons, List.length_nil]; omega) | (simp only [List.length_append, List.length_cons, List.length_nil] at hl ⊢; omega))).mono ?_
  rintro e w10 ⟨v10, rfl, hs⟩
  have U10 := Lib.hid (U.out.sg hs.sg (by omega) (ub_ne S9.out H.out l0))
  have N10 := Lib.hid (N.out.low (hs.sg.low S9.out.sh))
  have S10 := Lib.hid (S9.out.trans hs)
  have z10 := hs.sg.size
  clear U N hs
  have U := U10
  have N := N10
  clear U10 N10
  clear M
  go_wp2_with fail
  first | refine bodyPost_end (v := .tuple #[]) (by simp [results, Tryz.results59, go_sem]) rfl ?_ | refine bodyPost_ret (v := .tuple #[]) (by simp [results, Tryz.results59, go_sem]) rfl ?_
  have hfin := ((SST.refl H.out).below HBA.out).trans S10.out
  have hx : xs ++ ([kFunc, t.name] ++ ([cLB] ++ commaF (parsT t) ++ [cRB]) ++ typT t.typ ++ showS ub) = ((((xs ++ [kFunc, t.name]) ++ ([cLB] ++ commaF (parsT t) ++ [cRB])) ++ typT t.typ) ++ showS ub) := by simp [List.append_assoc]
  first | exact ⟨_, rfl, hfin.cast hx.symm⟩ | exact ⟨_, rfl, hfin.cast (by simp [List.append_assoc])⟩

set_option maxRecDepth 100000 in
set_option maxHeartbeats 1000000 in
theorem decl_2 (w : World) (sb : Nat) (v : Value) (xs : List Tx) (pl : Nat → Nat) (b : Nat) (t : Tree) (h : SH w sb v xs) (hn : NodeAt (fun x => x < sb) pl w b t) (hop : t.op = 2) (hk6 : t.kids.length ≤ 1000000) (hl : xs.length + (([kType, t.name, kStruct, cLC] ++ (t.kids.map fun k => typedT k ++ [cSemi]).flatten ++ [cRC])).length + 1 ≤ 1000000) :
    Calls Tryz.prog 37 #[.pointer (some ⟨sb, 0, none⟩), .agg #[.pointer (some ⟨b, 0, none⟩)]] w (SQ sb v w (xs ++ ([kType, t.name, kStruct, cLC] ++ (t.kids.map fun k => typedT k ++ [cSemi]).flatten ++ [cRC]))) := by
  have H := Lib.hid h
  have hlt := h.lt
  have HBA := Lib.hid (b1 w (.cells #[.pointer (some ⟨b, 0, none⟩)] 25))
  have S0 := Lib.hid (SST.refl (h.below (b1 w (.cells #[.pointer (some ⟨b, 0, none⟩)] 25))))
  have U := Lib.hid (PtrAt.new w (some ⟨b, 0, none⟩))
  have N := Lib.hid (hn.bl (b1 w (.cells #[.pointer (some ⟨b, 0, none⟩)] 25)))
  have l0 := U.out.lt
  clear h hn
  have hfo := row_op
  have hfn := row_name
  clear hfo hfn
  go_enter Tryz.func37, Tryz.ntmps37
  have U0 := U.out.c0
  go_wp2_with fail
  clear U0
  generalize w.alloc (.cells #[.pointer (some ⟨b, 0, none⟩)] 25) = wa at *
  obtain ⟨Ao, co, hro⟩ := N.out.rowOf
  refine (op_of _ _ _ _ _ _ _ _ _ _ hro).mono ?_
  rintro e w1 ⟨rfl, hb⟩
  clear hro
  have U1 := Lib.hid (U.out.below hb)
  have N1 := Lib.hid (N.out.bl hb)
  have S1 := Lib.hid (S0.out.below hb)
  have z1 := hb.size
  clear U N
  have U := U1
  have N := N1
  clear U1 N1
  clear hb
  have U0 := U.out.c0
  go_wp2_with fail
  clear U0
  refine (structS_any _ sb _ _ pl b t S1.out.sh N.out hk6 hl).mono ?_
  rintro e w2 ⟨v2, rfl, hs⟩
  have U2 := Lib.hid (U.out.sg hs.sg (by omega) (ub_ne S1.out H.out l0))
  have N2 := Lib.hid (N.out.low (hs.sg.low S1.out.sh))
  have S2 := Lib.hid (S1.out.trans hs)
  have z2 := hs.sg.size
  clear U N hs
  have U := U2
  have N := N2
  clear U2 N2
  go_wp2_with fail
  first | refine bodyPost_end (v := .tuple #[]) (by simp [results, Tryz.results37, go_sem]) rfl ?_ | refine bodyPost_ret (v := .tuple #[]) (by simp [results, Tryz.results37, go_sem]) rfl ?_
  have hfin := ((SST.refl H.out).below HBA.out).trans S2.out
  have hx : xs ++ ([kType, t.name, kStruct, cLC] ++ (t.kids.map fun k => typedT k ++ [cSemi]).flatten ++ [cRC]) = (xs ++ ([kType, t.name, kStruct, cLC] ++ (t.kids.map fun k => typedT k ++ [cSemi]).flatten ++ [cRC])) := by simp
  first | exact ⟨_, rfl, hfin.cast hx.symm⟩ | exact ⟨_, rfl, hfin.cast (by simp [List.append_assoc])⟩

set_option maxRecDepth 100000 in
set_option maxHeartbeats 1000000 in
theorem decl_3 (w : World) (sb : Nat) (v : Value) (xs : List Tx) (pl : Nat → Nat) (b : Nat) (t : Tree) (h : SH w sb v xs) (hn : NodeAt (fun x => x < sb) pl w b t) (hop : t.op = 3) (hl : xs.length + (([kVar] ++ typedT t ++ [cSemi])).length + 1 ≤ 1000000) :
    Calls Tryz.prog 37 #[.pointer (some ⟨sb, 0, none⟩), .agg #[.pointer (some ⟨b, 0, none⟩)]] w (SQ sb v w (xs ++ ([kVar] ++ typedT t ++ [cSemi]))) := by
  have H := Lib.hid h
  have hlt := h.lt
  have HBA := Lib.hid (b1 w (.cells #[.pointer (some ⟨b, 0, none⟩)] 25))
  have S0 := Lib.hid (SST.refl (h.below (b1 w (.cells #[.pointer (some ⟨b, 0, none⟩)] 25))))
  have U := Lib.hid (PtrAt.new w (some ⟨b, 0, none⟩))
  have N := Lib.hid (hn.bl (b1 w (.cells #[.pointer (some ⟨b, 0, none⟩)] 25)))
  have l0 := U.out.lt
  clear h hn
  have hfo := row_op
  have hfn := row_name
  clear hfo hfn
  go_enter Tryz.func37, Tryz.ntmps37
  have U0 := U.out.c0
  go_wp2_with fail
  clear U0
  generalize w.alloc (.cells #[.pointer (some ⟨b, 0, none⟩)] 25) = wa at *
  obtain ⟨Ao, co, hro⟩ := N.out.rowOf
  refine (op_of _ _ _ _ _ _ _ _ _ _ hro).mono ?_
  rintro e w1 ⟨rfl, hb⟩
  clear hro
  have U1 := Lib.hid (U.out.below hb)
  have N1 := Lib.hid (N.out.bl hb)
  have S1 := Lib.hid (S0.out.below hb)
  have z1 := hb.size
  clear U N
  have U := U1
  have N := N1
  clear U1 N1
  clear hb
  simp only [List.length_append, List.length_cons, List.length_nil] at hl
  have h7 := typed_len t
  have C2 := Lib.hid (show ∀ (j : Nat) (y : Tx), ([kVar] : List Tx)[j]? = some y → (w1.alloc (.cells #[.string ⟨#[118, 97, 114]⟩] 9)).cell? ⟨w1.heap.size, j, none⟩ = some (.string ⟨y.toArray⟩) from lit_cells w1 [kVar])
  have U2 := Lib.hid (U.out.below (b1 w1 (.cells #[.string ⟨#[118, 97, 114]⟩] 9)))
  have N2 := Lib.hid (N.out.bl (b1 w1 (.cells #[.string ⟨#[118, 97, 114]⟩] 9)))
  have S2 := Lib.hid (S1.out.below (b1 w1 (.cells #[.string ⟨#[118, 97, 114]⟩] 9)))
  have z2 := (b1 w1 (.cells #[.string ⟨#[118, 97, 114]⟩] 9)).size
  clear U N
  have U := U2
  have N := N2
  clear U2 N2
  have U0 := U.out.c0
  go_wp2_with fail
  clear U0
  generalize w1.alloc (.cells #[.string ⟨#[118, 97, 114]⟩] 9) = wb2 at *
  refine (add_any _ sb _ _ w1.heap.size 1 [kVar] S2.out.sh (Lib.hid rfl) C2 (by omega) (by first | omega | (simp only [List.length_append, List.length_cons, List.length_nil]; omega) | (simp only [List.length_append, List.length_cons, List.length_nil] at hl ⊢; omega))).mono ?_
  rintro e w3 ⟨v3, rfl, hs⟩
  clear C2
  have U3 := Lib.hid (U.out.sg hs.sg (by omega) (ub_ne S2.out H.out l0))
  have N3 := Lib.hid (N.out.low (hs.sg.low S2.out.sh))
  have S3 := Lib.hid (S2.out.trans hs)
  have z3 := hs.sg.size
  clear U N hs
  have U := U3
  have N := N3
  clear U3 N3
  have U0 := U.out.c0
  go_wp2_with fail
  clear U0
  refine (typedS_any _ sb _ _ pl b t S3.out.sh N.out (by simp only [List.length_append, List.length_cons, List.length_nil]; omega)).mono ?_
  rintro e w4 ⟨v4, rfl, hs⟩
  have U4 := Lib.hid (U.out.sg hs.sg (by omega) (ub_ne S3.out H.out l0))
  have N4 := Lib.hid (N.out.low (hs.sg.low S3.out.sh))
  have S4 := Lib.hid (S3.out.trans hs)
  have z4 := hs.sg.size
  clear U N hs
  have U := U4
  have N := N4
  clear U4 N4
  have C5 := Lib.hid (show ∀ (j : Nat) (y : Tx), ([cSemi] : List Tx)[j]? = some y → (w4.alloc (.cells #[.string ⟨#[59]⟩] 9)).cell? ⟨w4.heap.size, j, none⟩ = some (.string ⟨y.toArray⟩) from lit_cells w4 [cSemi])
  have U5 := Lib.hid (U.out.below (b1 w4 (.cells #[.string ⟨#[59]⟩] 9)))
  have N5 := Lib.hid (N.out.bl (b1 w4 (.cells #[.string ⟨#[59]⟩] 9)))
  have S5 := Lib.hid (S4.out.below (b1 w4 (.cells #[.string ⟨#[59]⟩] 9)))
  have z5 := (b1 w4 (.cells #[.string ⟨#[59]⟩] 9)).size
  clear U N
  have U := U5
  have N := N5
  clear U5 N5
  have U0 := U.out.c0
  go_wp2_with fail
  clear U0
  generalize w4.alloc (.cells #[.string ⟨#[59]⟩] 9) = wb5 at *
  refine (add_any _ sb _ _ w4.heap.size 1 [cSemi] S5.out.sh (Lib.hid rfl) C5 (by omega) (by first | omega | (simp only [List.length_append, List.length_cons, List.length_nil]; omega) | (simp only [List.length_append, List.length_cons, List.length_nil] at hl ⊢; omega))).mono ?_
  rintro e w6 ⟨v6, rfl, hs⟩
  clear C5
  have U6 := Lib.hid (U.out.sg hs.sg (by omega) (ub_ne S5.out H.out l0))
  have N6 := Lib.hid (N.out.low (hs.sg.low S5.out.sh))
  have S6 := Lib.hid (S5.out.trans hs)
  have z6 := hs.sg.size
  clear U N hs
  have U := U6
  have N := N6
  clear U6 N6
  go_wp2_with fail
  first | refine bodyPost_end (v := .tuple #[]) (by simp [results, Tryz.results37, go_sem]) rfl ?_ | refine bodyPost_ret (v := .tuple #[]) (by simp [results, Tryz.results37, go_sem]) rfl ?_
  have hfin := ((SST.refl H.out).below HBA.out).trans S6.out
  have hx : xs ++ ([kVar] ++ typedT t ++ [cSemi]) = (((xs ++ [kVar]) ++ typedT t) ++ [cSemi]) := by simp [List.append_assoc]
  first | exact ⟨_, rfl, hfin.cast hx.symm⟩ | exact ⟨_, rfl, hfin.cast (by simp [List.append_assoc])⟩

set_option maxRecDepth 100000 in
set_option maxHeartbeats 1000000 in
theorem decl_4 (w : World) (sb : Nat) (v : Value) (xs : List Tx) (pl : Nat → Nat) (b : Nat) (t : Tree) (fx : List Tx) (h : SH w sb v xs) (hn : NodeAt (fun x => x < sb) pl w b t) (hop : t.op = 4) (hF : Hid (∀ (w : World) (v : Value) (xs : List Tx), SH w sb v xs → NodeAt (fun x => x < sb) pl w b t → xs.length + fx.length + 1 ≤ 1000000 → Calls Tryz.prog 59 #[.pointer (some ⟨sb, 0, none⟩), .agg #[.pointer (some ⟨b, 0, none⟩)]] w (SQ sb v w (xs ++ fx)))) (hl : xs.length + (fx).length + 1 ≤ 1000000) :
    Calls Tryz.prog 37 #[.pointer (some ⟨sb, 0, none⟩), .agg #[.pointer (some ⟨b, 0, none⟩)]] w (SQ sb v w (xs ++ fx)) := by
  have H := Lib.hid h
  have hlt := h.lt
  have HBA := Lib.hid (b1 w (.cells #[.pointer (some ⟨b, 0, none⟩)] 25))
  have S0 := Lib.hid (SST.refl (h.below (b1 w (.cells #[.pointer (some ⟨b, 0, none⟩)] 25))))
  have U := Lib.hid (PtrAt.new w (some ⟨b, 0, none⟩))
  have N := Lib.hid (hn.bl (b1 w (.cells #[.pointer (some ⟨b, 0, none⟩)] 25)))
  have l0 := U.out.lt
  clear h hn
  have hfo := row_op
  have hfn := row_name
  clear hfo hfn
  go_enter Tryz.func37, Tryz.ntmps37
  have U0 := U.out.c0
  go_wp2_with fail
  clear U0
  generalize w.alloc (.cells #[.pointer (some ⟨b, 0, none⟩)] 25) = wa at *
  obtain ⟨Ao, co, hro⟩ := N.out.rowOf
  refine (op_of _ _ _ _ _ _ _ _ _ _ hro).mono ?_
  rintro e w1 ⟨rfl, hb⟩
  clear hro
  have U1 := Lib.hid (U.out.below hb)
  have N1 := Lib.hid (N.out.bl hb)
  have S1 := Lib.hid (S0.out.below hb)
  have z1 := hb.size
  clear U N
  have U := U1
  have N := N1
  clear U1 N1
  clear hb
  have U0 := U.out.c0
  go_wp2_with fail
  clear U0
  refine (hF.out _ _ _ S1.out.sh N.out hl).mono ?_
  rintro e w2 ⟨v2, rfl, hs⟩
  have U2 := Lib.hid (U.out.sg hs.sg (by omega) (ub_ne S1.out H.out l0))
  have N2 := Lib.hid (N.out.low (hs.sg.low S1.out.sh))
  have S2 := Lib.hid (S1.out.trans hs)
  have z2 := hs.sg.size
  clear U N hs
  have U := U2
  have N := N2
  clear U2 N2
  go_wp2_with fail
  first | refine bodyPost_end (v := .tuple #[]) (by simp [results, Tryz.results37, go_sem]) rfl ?_ | refine bodyPost_ret (v := .tuple #[]) (by simp [results, Tryz.results37, go_sem]) rfl ?_
  have hfin := ((SST.refl H.out).below HBA.out).trans S2.out
  have hx : xs ++ fx = (xs ++ fx) := by simp
  first | exact ⟨_, rfl, hfin.cast hx.symm⟩ | exact ⟨_, rfl, hfin.cast (by simp [List.append_assoc])⟩

/-- What is asked of a program that is shown. -/
def OkP (t : Tree) : Prop := t.op = 1 ∧ sizeT t ≤ 1000000 ∧ ∀ (k : Nat) (u : Tree), t.kids[k]? = some u → OkT u ∧ (u.op = 2 ∨ u.op = 3 ∨ u.op = 4)
theorem flat_map {α β : Type} (f : α → List β) (l : List α) : (l.map f).flatten = l.flatMap f := by simp [List.flatMap]
def ShD (sb : Nat) (pl : Nat → Nat) (u : Tree) : Prop :=
  ∀ (w' : World) (v' : Value) (xs' : List Tx) (nb : Nat), SH w' sb v' xs' → NodeAt (fun x => x < sb) pl w' nb u → xs'.length + (declOf u).length + 1 ≤ 1000000 → Calls Tryz.prog 37 #[.pointer (some ⟨sb, 0, none⟩), .agg #[.pointer (some ⟨nb, 0, none⟩)]] w' (SQ sb v' w' (xs' ++ declOf u))
theorem declS_any (sb : Nat) (pl : Nat → Nat) (t : Tree) (hT : OkT t) (hs : sizeT t ≤ 1000000) (ho : t.op = 2 ∨ t.op = 3 ∨ t.op = 4) : ShD sb pl t := by
  intro w v xs b h hn hl
  have hk6 : t.kids.length ≤ 1000000 := by have := kids_le t; omega
  rcases ho with o | o | o
  · have e : declOf t = [kType, t.name, kStruct, cLC] ++ (t.kids.map fun k => typedT k ++ [cSemi]).flatten ++ [cRC] := by unfold declOf; rw [if_pos o, flat_map]
    rw [e] at hl ⊢
    exact decl_2 w sb v xs pl b t h hn o hk6 hl
  · have e : declOf t = [kVar] ++ typedT t ++ [cSemi] := by unfold declOf; rw [if_neg (by omega), if_pos o]
    rw [e] at hl ⊢
    exact decl_3 w sb v xs pl b t h hn o hl
  · have hA := hT.least
    simp [o, arity] at hA
    obtain ⟨m, hm⟩ : ∃ m, t.kids.length = m + 1 := ⟨t.kids.length - 1, by omega⟩
    obtain ⟨ub, hub⟩ := kid_is (t := t) (i := m) (by omega)
    have hm1 : t.kids.length - 1 = m := by omega
    have hSb := (stmtS_any sb pl 1000000 ub (by have := size_kid hub; omega) (Nat.le_refl _) (hT.kid hub)).1
    refine decl_4 w sb v xs pl b t (declOf t) h hn o ?_ hl
    intro w1 v1 xs1 h1 hn1 hl1
    by_cases hty : t.typ = []
    · have e : declOf t = [kFunc, t.name] ++ ([cLB] ++ commaF (parsT t) ++ [cRB]) ++ showS ub := by
        unfold declOf parsT; rw [if_neg (by omega), if_neg (by omega), if_pos o, if_pos hty, List.append_nil, hm1, getS_kid hub]
      rw [e] at hl1 ⊢
      exact function_a w1 sb v1 xs1 pl b t m ub h1 hn1 hm hk6 (Lib.hid hub) (Lib.hid hSb) hty hl1
    · have e : declOf t = [kFunc, t.name] ++ ([cLB] ++ commaF (parsT t) ++ [cRB]) ++ typT t.typ ++ showS ub := by
        unfold declOf parsT; rw [if_neg (by omega), if_neg (by omega), if_pos o, if_neg hty, hm1, getS_kid hub]
      rw [e] at hl1 ⊢
      exact function_b w1 sb v1 xs1 pl b t m ub h1 hn1 hm hk6 (Lib.hid hub) (Lib.hid hSb) (Lib.hid hty) hl1

set_option maxRecDepth 100000 in
set_option maxHeartbeats 1000000 in
theorem decl_1 (w : World) (sb : Nat) (v : Value) (xs : List Tx) (pl : Nat → Nat) (b : Nat) (t : Tree) (h : SH w sb v xs) (hn : NodeAt (fun x => x < sb) pl w b t) (hop : t.op = 1) (hk6 : t.kids.length ≤ 1000000) (hD : Hid (∀ (k : Nat) (u : Tree), t.kids[k]? = some u → ShD sb pl u)) (hl : xs.length + ((t.kids.map declOf).flatten).length + 1 ≤ 1000000) :
    Calls Tryz.prog 37 #[.pointer (some ⟨sb, 0, none⟩), .agg #[.pointer (some ⟨b, 0, none⟩)]] w (SQ sb v w (xs ++ (t.kids.map declOf).flatten)) := by
  have H := Lib.hid h
  have hlt := h.lt
  have HBA := Lib.hid (b1 w (.cells #[.pointer (some ⟨b, 0, none⟩)] 25))
  have S0 := Lib.hid (SST.refl (h.below (b1 w (.cells #[.pointer (some ⟨b, 0, none⟩)] 25))))
  have U := Lib.hid (PtrAt.new w (some ⟨b, 0, none⟩))
  have N := Lib.hid (hn.bl (b1 w (.cells #[.pointer (some ⟨b, 0, none⟩)] 25)))
  have l0 := U.out.lt
  clear h hn
  have hfo := row_op
  have hfn := row_name
  clear hfo hfn
  go_enter Tryz.func37, Tryz.ntmps37
  have U0 := U.out.c0
  go_wp2_with fail
  clear U0
  generalize w.alloc (.cells #[.pointer (some ⟨b, 0, none⟩)] 25) = wa at *
  obtain ⟨Ao, co, hro⟩ := N.out.rowOf
  refine (op_of _ _ _ _ _ _ _ _ _ _ hro).mono ?_
  rintro e w1 ⟨rfl, hb⟩
  clear hro
  have U1 := Lib.hid (U.out.below hb)
  have N1 := Lib.hid (N.out.bl hb)
  have S1 := Lib.hid (S0.out.below hb)
  have z1 := hb.size
  clear U N
  have U := U1
  have N := N1
  clear U1 N1
  clear hb
  have U0 := U.out.c0
  go_wp2_with fail
  clear U0
  obtain ⟨Ao, co, hro⟩ := N.out.rowOf
  refine (kids_of _ _ _ _ _ _ _ _ _ _ hro).mono ?_
  rintro e w2 ⟨rfl, hb⟩
  clear hro
  have U2 := Lib.hid (U.out.below hb)
  have N2 := Lib.hid (N.out.bl hb)
  have S2 := Lib.hid (S1.out.below hb)
  have z2 := hb.size
  clear U N
  have U := U2
  have N := N2
  clear U2 N2
  clear hb
  go_wp2_with fail
  go_loopw [14] (fun i wr => BlRel sb v w wa xs pl b t ([] : List Tx) (t.kids.map declOf) i wr) (fun i _ => t.kids.length - (intOf i).toNat)
  case atStart => exact ⟨0, _, Nat.zero_le _, rfl, by show SST _ _ _ _ _ _; simpa using S2.out, U, N⟩
  case round =>
    obtain ⟨k, vr, hk, rfl, S, U, N⟩ := hrel
    by_cases hlt : k < t.kids.length
    · skip
      obtain ⟨u, hu⟩ := kid_is hlt
      have hy : (t.kids.map declOf)[k]? = some (declOf u) := by rw [List.getElem?_map, hu]; rfl
      have HU := Lib.hid hu
      have HCT := Lib.hid (take_flat _ k _ hy)
      have hfl := flat_take _ k _ hy
      clear hu hy
      have hki : (k : Int) < (t.kids.length : Int) := by omega
      try simp only [List.length_append, List.length_cons, List.length_nil] at hfl
      have U0 := U.out.c0
      go_wp2_with fail
      clear U0
      obtain ⟨nm, hm, hc⟩ := kid_at N.out k u HU.out
      refine hc.mono ?_
      rintro e w3 ⟨rfl, hb⟩
      have M := Lib.hid (hm.bl hb)
      have U3 := Lib.hid (U.out.below hb)
      have N3 := Lib.hid (N.out.bl hb)
      have S3 := Lib.hid (S.out.below hb)
      have z3 := hb.size
      clear U N
      have U := U3
      have N := N3
      clear U3 N3
      clear hb hc hm
      go_wp2_with fail
      refine (hD.out k u HU.out _ _ _ nm S3.out.sh M.out (by first | omega | (simp only [List.length_append, List.length_nil]; omega) | (simp only [List.length_append, List.length_cons, List.length_nil] at hl ⊢; omega))).mono ?_
      rintro e w4 ⟨v4, rfl, hs⟩
      have U4 := Lib.hid (U.out.sg hs.sg (by omega) (ub_ne S3.out H.out l0))
      have N4 := Lib.hid (N.out.low (hs.sg.low S3.out.sh))
      have S4 := Lib.hid (S3.out.trans hs)
      have z4 := hs.sg.size
      clear U N hs
      have U := U4
      have N := N4
      clear U4 N4
      clear M
      go_wp2_with fail
      go_roundw
      case rel => exact ⟨k + 1, _, by omega, by go_num, by show SST _ _ _ _ _ _; have h9 := S4.out; rw [HCT.out]; simpa [List.append_assoc] using h9, U, N⟩
      case measure => simp [intOf]; omega
    · skip
      obtain rfl : k = t.kids.length := by omega
      have htk : ((t.kids.map declOf)).take t.kids.length = (t.kids.map declOf) := List.take_of_length_le (by rw [List.length_map]; exact Nat.le_refl _)
      rw [htk] at S
      clear htk
      go_wp2_with fail
      first | refine bodyPost_end (v := .tuple #[]) (by simp [results, Tryz.results37, go_sem]) rfl ?_ | refine bodyPost_ret (v := .tuple #[]) (by simp [results, Tryz.results37, go_sem]) rfl ?_
      have hfin := ((SST.refl H.out).below HBA.out).trans S.out
      have hx : xs ++ (t.kids.map declOf).flatten = (xs ++ ([] : List Tx) ++ (t.kids.map declOf).flatten) := by simp
      first | exact ⟨_, rfl, hfin.cast hx.symm⟩ | exact ⟨_, rfl, hfin.cast (by simp [List.append_assoc])⟩

end Go.Proofs.YtfbejfoalnhihaaGreatDoor

/-
  CONTRACT: Show. Blocks from the world's end on alone are new.
-/
namespace Go.Proofs.YtfbejfoalnhihaaGreatDoor
open Go.RowKit

def joinT (xs : List Tx) : Tx := Lib.join xs [32]
theorem own_cells {w : World} {base n g cap : Nat} {v : Value} {xs : List Tx} (h : w.ownsRow base 9 1 v n (strL xs)) (hv : v = .slice (some ⟨g, 0, none⟩) n cap) (j : Nat) (x : ByteArray) (hx : (xs.map fun l => (⟨l.toArray⟩ : ByteArray))[j]? = some x) : w.cell? ⟨g, 0 + j, none⟩ = some (.string x) := by
  obtain ⟨hl, h | ⟨g', cap', cur, hv', hb, hg, hc, hm, hs, ht⟩⟩ := h
  · rw [h.1] at hv; cases hv
  rw [hv'] at hv
  obtain ⟨rfl, rfl⟩ : g' = g ∧ cap' = cap := by injection hv with a b c; injection a with a; injection a with a; exact ⟨a, c⟩
  rw [Nat.zero_add, cell_of_row w g' j cur 9 (0, 0) hg]
  rw [List.getElem?_map] at hx
  cases hj : xs[j]? with
  | none => rw [hj] at hx; cases hx
  | some y =>
    rw [hj] at hx
    obtain rfl := Option.some.inj hx
    have hlt := (List.getElem?_eq_some_iff.1 hj).1
    have hln : (strL xs).length = xs.length := by simp [strL]
    have h1 : (cur.toList.take (n * 1))[j]? = some (.string ⟨y.toArray⟩) := by rw [ht]; unfold strL; rw [List.getElem?_map, hj]; rfl
    rw [List.getElem?_take, if_pos (by omega)] at h1
    rw [← Array.getElem?_toList]
    exact h1
theorem map_back (xs : List Tx) : (xs.map fun l => (⟨l.toArray⟩ : ByteArray)).map (·.data.toList) = xs := by
  rw [List.map_map]; exact List.map_id'' (fun _ => rfl) xs
set_option maxRecDepth 100000 in
theorem join_own {w : World} {base n : Nat} {v : Value} {xs : List Tx} (h : w.ownsRow base 9 1 v n (strL xs)) (hn : xs.length ≤ 1000000) (hj : (joinT xs).length ≤ 140737488355328) :
    Calls Tryz.prog 38 #[v, .string ⟨#[32]⟩] w fun e w' => e = .returned (.string ⟨(joinT xs).toArray⟩) ∧ Below w.heap.size w w' := by
  have hln : (strL xs).length = xs.length := by simp [strL]
  have hl := h.1
  rcases h.2 with ⟨rfl, rfl⟩ | ⟨g, cap, cur, rfl, hb, hg, hc, hm, hs, ht⟩
  · have : xs = [] := List.length_eq_zero_iff.1 (by omega)
    subst this
    refine (Tryz.strings_Join_none _ _ _ w).mono ?_
    rintro e w' ⟨rfl, rfl⟩
    exact ⟨rfl, Below.refl _ _⟩
  · have hgl : g < w.heap.size := by
      rcases Nat.lt_or_ge g w.heap.size with a | a
      · exact a
      · rw [Array.getElem?_eq_none a] at hg; cases hg
    obtain ⟨bs, hbs⟩ : ∃ bs : List ByteArray, bs = xs.map fun l => (⟨l.toArray⟩ : ByteArray) := ⟨_, rfl⟩
    have hbl : bs.length = n := by rw [hbs, List.length_map]; omega
    have hbm : bs.map (·.data.toList) = xs := by rw [hbs]; exact map_back xs
    have hcell : ∀ (j : Nat) x, bs[j]? = some x → w.cell? ⟨g, 0 + j, none⟩ = some (.string x) := fun j x hx => own_cells h rfl j x (by rw [← hbs]; exact hx)
    have hjn : Lib.join (bs.map (·.data.toList)) [32] = joinT xs := by rw [hbm]; rfl
    have c := Tryz.strings_Join g 0 cap bs ⟨#[32]⟩ w hcell hgl (by omega) (by omega) (by show (Lib.join (bs.map (·.data.toList)) [32]).length ≤ _; rw [hjn]; exact hj)
    rw [hbl] at c
    refine c.mono ?_
    intro e w' hq
    refine ⟨?_, hq.2⟩
    rw [hq.1, show Lib.join (bs.map (·.data.toList)) (⟨#[32]⟩ : ByteArray).data.toList = joinT xs from hjn]

set_option maxRecDepth 100000 in
set_option maxHeartbeats 1000000 in
theorem show_any (ok : Nat → Prop) (w : World) (pl : Nat → Nat) (b : Nat) (t : Tree) (hn : NodeAt ok pl w b t) (hp : OkP t) (g : Good w) (p : PowIn w) (hl : (showP t).length + 1 ≤ 1000000) (hj : (joinT (showP t)).length ≤ 140737488355328) :
    Calls Tryz.prog 17 #[.agg #[.pointer (some ⟨b, 0, none⟩)]] w fun e w' => e = .returned (.string ⟨(joinT (showP t)).toArray⟩) ∧ Below w.heap.size w w' := by
  have hsp : showP t = (t.kids.map declOf).flatten := by unfold showP; rw [flat_map]
  rw [hsp] at hl hj ⊢
  have HK6 := Lib.hid (show t.kids.length ≤ 1000000 by have := kids_le t; have := hp.2.1; omega)
  have HD : Hid (∀ (k : Nat) (u : Tree), t.kids[k]? = some u → ShD (w.heap.size + 1) pl u) := fun k u hu => declS_any _ pl u (hp.2.2 k u hu).1 (by have := size_kid hu; have := hp.2.1; omega) (hp.2.2 k u hu).2
  have HO := Lib.hid hp.1
  have BA := Lib.hid (b1 w (.cells #[.pointer (some ⟨b, 0, none⟩)] 25))
  have BB := Lib.hid (b1 (w.alloc (.cells #[.pointer (some ⟨b, 0, none⟩)] 25)) (.cells #[.slice none 0 0] 73))
  have U := Lib.hid ((PtrAt.new w (some ⟨b, 0, none⟩)).below BB.out)
  have N := Lib.hid (((hn.weak (ok' := fun x => x < w.heap.size + 1) (fun y _ h => by omega)).bl BA.out).bl BB.out)
  have S0 : Hid (SH ((w.alloc (.cells #[.pointer (some ⟨b, 0, none⟩)] 25)).alloc (.cells #[.slice none 0 0] 73)) (w.heap.size + 1) (.slice none 0 0) []) := by
    refine ⟨by simp, by simp [go_sem], by simp [go_sem], World.ownsRow_nil _ _ _ _, (g.below BA.out).below BB.out, pow_below (pow_below p (BA.out.mono g.size)) (BB.out.mono (by have := g.size; simp; omega)), by have := g.size; omega⟩
  clear hn hp g p hsp
  go_enter Tryz.func17, Tryz.ntmps17
  have U0 := U.out.c0
  go_wp2_with fail
  clear U0
  have HBB := Lib.hid ((BA.out).trans (BB.out.mono (by simp)))
  generalize (w.alloc (.cells #[.pointer (some ⟨b, 0, none⟩)] 25)).alloc (.cells #[.slice none 0 0] 73) = wa at *
  refine (decl_1 wa (w.heap.size + 1) _ [] pl b t S0.out N.out HO.out HK6.out HD (by simpa using hl)).mono ?_
  rintro e w1 ⟨v1, rfl, hs⟩
  have S1 := Lib.hid hs
  have c1 := hs.sh.c0
  have hlow := Lib.hid (hs.sg.low S0.out)
  clear hs
  go_wp2_with fail
  clear c1
  have hown := S1.out.sh.own
  rw [List.nil_append] at hown
  refine (join_own hown (by omega) hj).mono ?_
  rintro e w2 ⟨rfl, hb2⟩
  have HB2 := Lib.hid hb2
  clear hb2 hown
  go_wp2_with fail
  go_ret
  exact ⟨rfl, (HBB.out.trans (hlow.out.mono (by omega))).trans (HB2.out.mono (by have := S1.out.sh.lt; omega))⟩

end Go.Proofs.YtfbejfoalnhihaaGreatDoor

/-
  PLAIN: the three texts that are known by number: how they are read. Nothing of the program stands here. No condition.
-/
namespace Go.Proofs.YtfbejfoalnhihaaGreatDoor
open Go.RowKit

def aw1 : ByteArray := ⟨#[102, 117, 110, 99, 32, 109, 97, 105, 110, 40, 41, 123, 112, 114, 105, 110, 116, 40, 49, 43, 50, 42, 51, 41, 59, 125]⟩
def aw2 : ByteArray := ⟨#[102, 117, 110, 99, 32, 109, 97, 105, 110, 40, 41, 32, 123, 32, 120, 32, 61, 32, 59, 32, 125]⟩
def aw3 : ByteArray := ⟨#[118, 97, 114, 32, 120]⟩
def tsOf (l : List UInt8) : List Tok := match scanR l with | .ok ts => ts | .bad _ _ => []
def aN (n : Int) (p : Nat) : Tree := .mk 15 [] [] n p []
def aM : Tree := .mk 24 [] [] 3 10 [aN 2 9, aN 3 11]
def aB : Tree := .mk 24 [] [] 1 8 [aN 1 7, aM]
def aP : Tree := .mk 12 [] [] 0 5 [aB]
def aK : Tree := .mk 6 [] [] 0 4 [aP]
def aF : Tree := .mk 4 [109, 97, 105, 110] [] 0 1 [aK]
theorem aw1_is : parseR aw1.data.toList = .ok (tsOf aw1.data.toList) [aF] := by kernel_rfl
theorem aw2_is : parseR aw2.data.toList = .bad 18 1 := by kernel_rfl
theorem aw3_is : parseR aw3.data.toList = .bad 5 1 := by kernel_rfl
theorem aw1_pl : plf (tsOf aw1.data.toList) aw1.data.toList.length 8 = 19 := by kernel_rfl
theorem kids0 {Φ : Tree → Prop} : ∀ (k : Nat) (u : Tree), ([] : List Tree)[k]? = some u → Φ u := fun k u h => by simp at h
theorem kidsC {Φ : Tree → Prop} {a : Tree} {l : List Tree} (h : Φ a) (hl : ∀ (k : Nat) (u : Tree), l[k]? = some u → Φ u) : ∀ (k : Nat) (u : Tree), (a :: l)[k]? = some u → Φ u := fun k u e => by
  cases k with
  | zero => simp at e; exact e ▸ h
  | succ k => exact hl k u (by simpa using e)
theorem okN (n : Int) (p : Nat) (h : 0 ≤ n ∧ n ≤ 9223372036854775807) : OkT (aN n p) := .mk (by omega) (fun h => by omega) (fun _ => h) (by decide) kids0
theorem okM : OkT aM := .mk (by omega) (fun h => by omega) (fun h => by omega) (by decide) (kidsC (okN 2 9 (by omega)) (kidsC (okN 3 11 (by omega)) kids0))
theorem okB : OkT aB := .mk (by omega) (fun h => by omega) (fun h => by omega) (by decide) (kidsC (okN 1 7 (by omega)) (kidsC okM kids0))
theorem okPt : OkT aP := .mk (by omega) (fun h => by omega) (fun h => by omega) (by decide) (kidsC okB kids0)
theorem okK : OkT aK := .mk (by omega) (fun h => by omega) (fun h => by omega) (by decide) (kidsC okPt kids0)
theorem okF : OkT aF := .mk (by omega) (fun h => by omega) (fun h => by omega) (by decide) (kidsC okK kids0)
theorem aw1_size (ts : List Tok) : sizeT (root ts [aF]) = 9 := rfl
theorem aw1_okp (ts : List Tok) : OkP (root ts [aF]) := ⟨rfl, by rw [aw1_size]; omega, kidsC ⟨okF, .inr (.inr rfl)⟩ kids0⟩
theorem aw1_show (ts : List Tok) : joinT (showP (root ts [aF])) = [102, 117, 110, 99, 32, 109, 97, 105, 110, 32, 40, 32, 41, 32, 123, 32, 112, 114, 105, 110, 116, 32, 40, 32, 40, 32, 49, 32, 43, 32, 40, 32, 50, 32, 42, 32, 51, 32, 41, 32, 41, 32, 41, 32, 59, 32, 125] := by kernel_rfl
theorem aw1_len (ts : List Tok) : (showP (root ts [aF])).length = 19 := by kernel_rfl

end Go.Proofs.YtfbejfoalnhihaaGreatDoor

/-
  CONTRACT: awake. Blocks from the world's end on alone are new.
-/
namespace Go.Proofs.YtfbejfoalnhihaaGreatDoor
open Go.RowKit

theorem row_root {ok : Nat → Prop} {pl : Nat → Nat} {w : World} {b : Nat} {ts : List Tok} (h : NodeAt ok pl w b (root ts [aF])) : ∃ A c, RowOf w (some ⟨b, 0, none⟩) 1 ⟨#[]⟩ ⟨#[]⟩ 0 (pl (ts.length + 1)) A 1 c := h.rowOf
theorem row_K {ok : Nat → Prop} {pl : Nat → Nat} {w : World} {b : Nat} (h : NodeAt ok pl w b aK) : ∃ A c, RowOf w (some ⟨b, 0, none⟩) 6 ⟨#[]⟩ ⟨#[]⟩ 0 (pl 4) A 1 c := h.rowOf
theorem row_B {ok : Nat → Prop} {pl : Nat → Nat} {w : World} {b : Nat} (h : NodeAt ok pl w b aB) (hp : pl 8 = 19) : ∃ A c, RowOf w (some ⟨b, 0, none⟩) 24 ⟨#[]⟩ ⟨#[]⟩ 1 19 A 2 c := by
  have := h.rowOf
  rw [show aB.pos = 8 from rfl, hp] at this
  exact this
theorem row_zero (w : World) : RowOf w none 0 ⟨#[]⟩ ⟨#[]⟩ 0 0 none 0 0 := .inr ⟨rfl, rfl, rfl, rfl, rfl, rfl, rfl, rfl, rfl⟩
theorem show_aw (ok : Nat → Prop) (pl : Nat → Nat) (w : World) (b : Nat) (ts : List Tok) (h : NodeAt ok pl w b (root ts [aF])) (g : Good w) (p : PowIn w) :
    Calls Tryz.prog 17 #[.agg #[.pointer (some ⟨b, 0, none⟩)]] w fun e w' => e = .returned (.string ⟨#[102, 117, 110, 99, 32, 109, 97, 105, 110, 32, 40, 32, 41, 32, 123, 32, 112, 114, 105, 110, 116, 32, 40, 32, 40, 32, 49, 32, 43, 32, 40, 32, 50, 32, 42, 32, 51, 32, 41, 32, 41, 32, 41, 32, 59, 32, 125]⟩) ∧ Below w.heap.size w w' := by
  have c := show_any ok w pl b _ h (aw1_okp ts) g p (by rw [aw1_len]; omega) (by rw [aw1_show]; decide)
  rw [aw1_show] at c
  exact c
theorem size_aw (ok : Nat → Prop) (pl : Nat → Nat) (w : World) (b : Nat) (ts : List Tok) (h : NodeAt ok pl w b (root ts [aF])) :
    Calls Tryz.prog 13 #[.agg #[.pointer (some ⟨b, 0, none⟩)]] w fun e w' => e = .returned (.int .i64 9) ∧ Below w.heap.size w w' := by
  have c := size_any 9 (root ts [aF]) (by rw [aw1_size]; omega) w b ok pl h
  rw [aw1_size, show wrap64 ((9 : Nat) : Int) = 9 by kernel_rfl] at c
  exact c

set_option maxRecDepth 100000 in
set_option maxHeartbeats 2000000 in
theorem awake_true (w : World) (g : Good w) (pw : PowIn w) : Calls Tryz.prog 8 #[] w fun e w' => e = .returned (.bool true) ∧ Below w.heap.size w w' := by
  have HB := Lib.hid (Below.refl w.heap.size w)
  have G := Lib.hid g
  have PW := Lib.hid pw
  clear g pw
  go_enter Tryz.func8, Tryz.ntmps8
  go_wp2_with fail
  refine Calls.mono (R := ParseQ aw1.data.toList (.ok (tsOf aw1.data.toList) [aF]) _) (parse_full aw1 _ _ G.out (by decide) (Lib.hid aw1_is)) ?_
  rintro e w1 ⟨hb, nb, rfl, hn⟩
  have N := Lib.hid hn
  clear hn
  have HB2 := Lib.hid (HB.out.trans (hb.mono HB.out.size))
  have G2 := Lib.hid (G.out.below hb)
  have PW2 := Lib.hid (pow_below PW.out (hb.mono G.out.size))
  clear HB G PW
  have HB := HB2
  have G := G2
  have PW := PW2
  clear HB2 G2 PW2
  clear hb
  unfold nodeV
  generalize hplf : plf (tsOf aw1.data.toList) aw1.data.toList.length = pl at *
  have HP : Hid (pl 8 = 19) := by show _ = _; rw [← hplf]; exact aw1_pl
  clear hplf
  generalize tsOf aw1.data.toList = ts at *
  have BX := Lib.hid (b1 w1 (.cells #[.pointer (some ⟨nb, 0, none⟩)] 25))
  have U := Lib.hid (PtrAt.new w1 (some ⟨nb, 0, none⟩))
  go_wp2_with fail
  have HB2 := Lib.hid (HB.out.trans (BX.out.mono HB.out.size))
  have G2 := Lib.hid (G.out.below BX.out)
  have PW2 := Lib.hid (pow_below PW.out (BX.out.mono G.out.size))
  have N2 := Lib.hid (N.out.bl BX.out)
  clear HB G PW N
  have HB := HB2
  have G := G2
  have PW := PW2
  have N := N2
  clear HB2 G2 PW2 N2
  clear BX
  generalize (w1.alloc (.cells #[.pointer (some ⟨nb, 0, none⟩)] 25)) = w2 at *
  refine Calls.mono (R := ParseQ aw2.data.toList (.bad 18 1) _) (parse_full aw2 _ _ G.out (by decide) (Lib.hid aw2_is)) ?_
  rintro e w3 ⟨hb, rfl⟩
  have HB2 := Lib.hid (HB.out.trans (hb.mono HB.out.size))
  have G2 := Lib.hid (G.out.below hb)
  have PW2 := Lib.hid (pow_below PW.out (hb.mono G.out.size))
  have N2 := Lib.hid (N.out.bl hb)
  have U2 := Lib.hid (U.out.below hb)
  clear HB G PW N U
  have HB := HB2
  have G := G2
  have PW := PW2
  have N := N2
  have U := U2
  clear HB2 G2 PW2 N2 U2
  clear hb
  have BX := Lib.hid (b1 w3 (.cells #[.pointer none] 25))
  have U0 := U.out.c0
  go_wp2_with fail
  clear U0
  have HB2 := Lib.hid (HB.out.trans (BX.out.mono HB.out.size))
  have G2 := Lib.hid (G.out.below BX.out)
  have PW2 := Lib.hid (pow_below PW.out (BX.out.mono G.out.size))
  have N2 := Lib.hid (N.out.bl BX.out)
  have U2 := Lib.hid (U.out.below BX.out)
  clear HB G PW N U
  have HB := HB2
  have G := G2
  have PW := PW2
  have N := N2
  have U := U2
  clear HB2 G2 PW2 N2 U2
  clear BX
  generalize (w3.alloc (.cells #[.pointer none] 25)) = w4 at *
  refine Calls.mono (R := ParseQ aw3.data.toList (.bad 5 1) _) (parse_full aw3 _ _ G.out (by decide) (Lib.hid aw3_is)) ?_
  rintro e w5 ⟨hb, rfl⟩
  have HB2 := Lib.hid (HB.out.trans (hb.mono HB.out.size))
  have G2 := Lib.hid (G.out.below hb)
  have PW2 := Lib.hid (pow_below PW.out (hb.mono G.out.size))
  have N2 := Lib.hid (N.out.bl hb)
  have U2 := Lib.hid (U.out.below hb)
  clear HB G PW N U
  have HB := HB2
  have G := G2
  have PW := PW2
  have N := N2
  have U := U2
  clear HB2 G2 PW2 N2 U2
  clear hb
  have BX := Lib.hid (b1 w5 (.cells #[.pointer none] 25))
  have BXU := Lib.hid (U.out.below BX.out)
  have U0 := BXU.out.c0
  go_wp2_with fail
  clear U0 BXU
  have HB2 := Lib.hid (HB.out.trans (BX.out.mono HB.out.size))
  have G2 := Lib.hid (G.out.below BX.out)
  have PW2 := Lib.hid (pow_below PW.out (BX.out.mono G.out.size))
  have N2 := Lib.hid (N.out.bl BX.out)
  have U2 := Lib.hid (U.out.below BX.out)
  clear HB G PW N U
  have HB := HB2
  have G := G2
  have PW := PW2
  have N := N2
  have U := U2
  clear HB2 G2 PW2 N2 U2
  clear BX
  generalize (w5.alloc (.cells #[.pointer none] 25)) = w6 at *
  obtain ⟨Mb, hm, hc⟩ := kid_at N.out 0 aF rfl
  refine hc.mono ?_
  rintro e w7 ⟨rfl, hb⟩
  have M := Lib.hid (hm.bl hb)
  have HB2 := Lib.hid (HB.out.trans (hb.mono HB.out.size))
  have G2 := Lib.hid (G.out.below hb)
  have PW2 := Lib.hid (pow_below PW.out (hb.mono G.out.size))
  have N2 := Lib.hid (N.out.bl hb)
  have U2 := Lib.hid (U.out.below hb)
  clear HB G PW N U
  have HB := HB2
  have G := G2
  have PW := PW2
  have N := N2
  have U := U2
  clear HB2 G2 PW2 N2 U2
  clear hb hc hm
  go_wp2_with fail
  obtain ⟨Kb, hm, hc⟩ := kid_at M.out 0 aK rfl
  refine hc.mono ?_
  rintro e w8 ⟨rfl, hb⟩
  have K := Lib.hid (hm.bl hb)
  have HB2 := Lib.hid (HB.out.trans (hb.mono HB.out.size))
  have G2 := Lib.hid (G.out.below hb)
  have PW2 := Lib.hid (pow_below PW.out (hb.mono G.out.size))
  have N2 := Lib.hid (N.out.bl hb)
  have U2 := Lib.hid (U.out.below hb)
  have M2 := Lib.hid (M.out.bl hb)
  clear HB G PW N U M
  have HB := HB2
  have G := G2
  have PW := PW2
  have N := N2
  have U := U2
  have M := M2
  clear HB2 G2 PW2 N2 U2 M2
  clear hb hc hm
  clear M
  have BX := Lib.hid (b1 w8 (.cells #[.pointer (some ⟨Kb, 0, none⟩)] 25))
  have V := Lib.hid (PtrAt.new w8 (some ⟨Kb, 0, none⟩))
  have BXU := Lib.hid (U.out.below BX.out)
  have U0 := BXU.out.c0
  have V0 := V.out.c0
  go_wp2_with fail
  clear U0 V0 BXU
  have HB2 := Lib.hid (HB.out.trans (BX.out.mono HB.out.size))
  have G2 := Lib.hid (G.out.below BX.out)
  have PW2 := Lib.hid (pow_below PW.out (BX.out.mono G.out.size))
  have N2 := Lib.hid (N.out.bl BX.out)
  have U2 := Lib.hid (U.out.below BX.out)
  have K2 := Lib.hid (K.out.bl BX.out)
  clear HB G PW N U K
  have HB := HB2
  have G := G2
  have PW := PW2
  have N := N2
  have U := U2
  have K := K2
  clear HB2 G2 PW2 N2 U2 K2
  clear BX
  generalize (w8.alloc (.cells #[.pointer (some ⟨Kb, 0, none⟩)] 25)) = w9 at *
  obtain ⟨Ao, co, hro⟩ := row_root N.out
  refine (op_of _ _ _ _ _ _ _ _ _ _ hro).mono ?_
  rintro e w10 ⟨rfl, hb⟩
  have HB2 := Lib.hid (HB.out.trans (hb.mono HB.out.size))
  have G2 := Lib.hid (G.out.below hb)
  have PW2 := Lib.hid (pow_below PW.out (hb.mono G.out.size))
  have N2 := Lib.hid (N.out.bl hb)
  have U2 := Lib.hid (U.out.below hb)
  have K2 := Lib.hid (K.out.bl hb)
  have V2 := Lib.hid (V.out.below hb)
  clear HB G PW N U K V
  have HB := HB2
  have G := G2
  have PW := PW2
  have N := N2
  have U := U2
  have K := K2
  have V := V2
  clear HB2 G2 PW2 N2 U2 K2 V2
  clear hb
  clear hro
  have U0 := U.out.c0
  have V0 := V.out.c0
  go_wp2_with fail
  clear U0
  clear V0
  obtain ⟨Ao, co, hro⟩ := row_root N.out
  refine (kids_of _ _ _ _ _ _ _ _ _ _ hro).mono ?_
  rintro e w11 ⟨rfl, hb⟩
  have HB2 := Lib.hid (HB.out.trans (hb.mono HB.out.size))
  have G2 := Lib.hid (G.out.below hb)
  have PW2 := Lib.hid (pow_below PW.out (hb.mono G.out.size))
  have N2 := Lib.hid (N.out.bl hb)
  have U2 := Lib.hid (U.out.below hb)
  have K2 := Lib.hid (K.out.bl hb)
  have V2 := Lib.hid (V.out.below hb)
  clear HB G PW N U K V
  have HB := HB2
  have G := G2
  have PW := PW2
  have N := N2
  have U := U2
  have K := K2
  have V := V2
  clear HB2 G2 PW2 N2 U2 K2 V2
  clear hb
  clear hro
  have U0 := U.out.c0
  have V0 := V.out.c0
  go_wp2_with fail
  clear U0
  clear V0
  obtain ⟨Ao, co, hro⟩ := row_K K.out
  refine (op_of _ _ _ _ _ _ _ _ _ _ hro).mono ?_
  rintro e w12 ⟨rfl, hb⟩
  have HB2 := Lib.hid (HB.out.trans (hb.mono HB.out.size))
  have G2 := Lib.hid (G.out.below hb)
  have PW2 := Lib.hid (pow_below PW.out (hb.mono G.out.size))
  have N2 := Lib.hid (N.out.bl hb)
  have U2 := Lib.hid (U.out.below hb)
  have K2 := Lib.hid (K.out.bl hb)
  have V2 := Lib.hid (V.out.below hb)
  clear HB G PW N U K V
  have HB := HB2
  have G := G2
  have PW := PW2
  have N := N2
  have U := U2
  have K := K2
  have V := V2
  clear HB2 G2 PW2 N2 U2 K2 V2
  clear hb
  clear hro
  have U0 := U.out.c0
  have V0 := V.out.c0
  go_wp2_with fail
  clear U0
  clear V0
  obtain ⟨Mb, hm, hc⟩ := kid_at K.out 0 aP rfl
  refine hc.mono ?_
  rintro e w13 ⟨rfl, hb⟩
  have M := Lib.hid (hm.bl hb)
  have HB2 := Lib.hid (HB.out.trans (hb.mono HB.out.size))
  have G2 := Lib.hid (G.out.below hb)
  have PW2 := Lib.hid (pow_below PW.out (hb.mono G.out.size))
  have N2 := Lib.hid (N.out.bl hb)
  have U2 := Lib.hid (U.out.below hb)
  have K2 := Lib.hid (K.out.bl hb)
  have V2 := Lib.hid (V.out.below hb)
  clear HB G PW N U K V
  have HB := HB2
  have G := G2
  have PW := PW2
  have N := N2
  have U := U2
  have K := K2
  have V := V2
  clear HB2 G2 PW2 N2 U2 K2 V2
  clear hb hc hm
  have U0 := U.out.c0
  have V0 := V.out.c0
  go_wp2_with fail
  clear U0
  clear V0
  obtain ⟨Lb, hm, hc⟩ := kid_at M.out 0 aB rfl
  refine hc.mono ?_
  rintro e w14 ⟨rfl, hb⟩
  have L := Lib.hid (hm.bl hb)
  have HB2 := Lib.hid (HB.out.trans (hb.mono HB.out.size))
  have G2 := Lib.hid (G.out.below hb)
  have PW2 := Lib.hid (pow_below PW.out (hb.mono G.out.size))
  have N2 := Lib.hid (N.out.bl hb)
  have U2 := Lib.hid (U.out.below hb)
  have K2 := Lib.hid (K.out.bl hb)
  have V2 := Lib.hid (V.out.below hb)
  have M2 := Lib.hid (M.out.bl hb)
  clear HB G PW N U K V M
  have HB := HB2
  have G := G2
  have PW := PW2
  have N := N2
  have U := U2
  have K := K2
  have V := V2
  have M := M2
  clear HB2 G2 PW2 N2 U2 K2 V2 M2
  clear hb hc hm
  have U0 := U.out.c0
  have V0 := V.out.c0
  go_wp2_with fail
  clear U0
  clear V0
  clear M
  obtain ⟨Ao, co, hro⟩ := row_B L.out HP.out
  refine (op_of _ _ _ _ _ _ _ _ _ _ hro).mono ?_
  rintro e w15 ⟨rfl, hb⟩
  have HB2 := Lib.hid (HB.out.trans (hb.mono HB.out.size))
  have G2 := Lib.hid (G.out.below hb)
  have PW2 := Lib.hid (pow_below PW.out (hb.mono G.out.size))
  have N2 := Lib.hid (N.out.bl hb)
  have U2 := Lib.hid (U.out.below hb)
  have K2 := Lib.hid (K.out.bl hb)
  have V2 := Lib.hid (V.out.below hb)
  have L2 := Lib.hid (L.out.bl hb)
  clear HB G PW N U K V L
  have HB := HB2
  have G := G2
  have PW := PW2
  have N := N2
  have U := U2
  have K := K2
  have V := V2
  have L := L2
  clear HB2 G2 PW2 N2 U2 K2 V2 L2
  clear hb
  clear hro
  clear L
  have U0 := U.out.c0
  have V0 := V.out.c0
  go_wp2_with fail
  clear U0
  clear V0
  obtain ⟨Mb, hm, hc⟩ := kid_at K.out 0 aP rfl
  refine hc.mono ?_
  rintro e w16 ⟨rfl, hb⟩
  have M := Lib.hid (hm.bl hb)
  have HB2 := Lib.hid (HB.out.trans (hb.mono HB.out.size))
  have G2 := Lib.hid (G.out.below hb)
  have PW2 := Lib.hid (pow_below PW.out (hb.mono G.out.size))
  have N2 := Lib.hid (N.out.bl hb)
  have U2 := Lib.hid (U.out.below hb)
  have K2 := Lib.hid (K.out.bl hb)
  have V2 := Lib.hid (V.out.below hb)
  clear HB G PW N U K V
  have HB := HB2
  have G := G2
  have PW := PW2
  have N := N2
  have U := U2
  have K := K2
  have V := V2
  clear HB2 G2 PW2 N2 U2 K2 V2
  clear hb hc hm
  have U0 := U.out.c0
  have V0 := V.out.c0
  go_wp2_with fail
  clear U0
  clear V0
  obtain ⟨Lb, hm, hc⟩ := kid_at M.out 0 aB rfl
  refine hc.mono ?_
  rintro e w17 ⟨rfl, hb⟩
  have L := Lib.hid (hm.bl hb)
  have HB2 := Lib.hid (HB.out.trans (hb.mono HB.out.size))
  have G2 := Lib.hid (G.out.below hb)
  have PW2 := Lib.hid (pow_below PW.out (hb.mono G.out.size))
  have N2 := Lib.hid (N.out.bl hb)
  have U2 := Lib.hid (U.out.below hb)
  have K2 := Lib.hid (K.out.bl hb)
  have V2 := Lib.hid (V.out.below hb)
  have M2 := Lib.hid (M.out.bl hb)
  clear HB G PW N U K V M
  have HB := HB2
  have G := G2
  have PW := PW2
  have N := N2
  have U := U2
  have K := K2
  have V := V2
  have M := M2
  clear HB2 G2 PW2 N2 U2 K2 V2 M2
  clear hb hc hm
  have U0 := U.out.c0
  have V0 := V.out.c0
  go_wp2_with fail
  clear U0
  clear V0
  clear M
  obtain ⟨Ao, co, hro⟩ := row_B L.out HP.out
  refine (n_of _ _ _ _ _ _ _ _ _ _ hro).mono ?_
  rintro e w18 ⟨rfl, hb⟩
  have HB2 := Lib.hid (HB.out.trans (hb.mono HB.out.size))
  have G2 := Lib.hid (G.out.below hb)
  have PW2 := Lib.hid (pow_below PW.out (hb.mono G.out.size))
  have N2 := Lib.hid (N.out.bl hb)
  have U2 := Lib.hid (U.out.below hb)
  have K2 := Lib.hid (K.out.bl hb)
  have V2 := Lib.hid (V.out.below hb)
  have L2 := Lib.hid (L.out.bl hb)
  clear HB G PW N U K V L
  have HB := HB2
  have G := G2
  have PW := PW2
  have N := N2
  have U := U2
  have K := K2
  have V := V2
  have L := L2
  clear HB2 G2 PW2 N2 U2 K2 V2 L2
  clear hb
  clear hro
  clear L
  have U0 := U.out.c0
  have V0 := V.out.c0
  go_wp2_with fail
  clear U0
  clear V0
  obtain ⟨Mb, hm, hc⟩ := kid_at K.out 0 aP rfl
  refine hc.mono ?_
  rintro e w19 ⟨rfl, hb⟩
  have M := Lib.hid (hm.bl hb)
  have HB2 := Lib.hid (HB.out.trans (hb.mono HB.out.size))
  have G2 := Lib.hid (G.out.below hb)
  have PW2 := Lib.hid (pow_below PW.out (hb.mono G.out.size))
  have N2 := Lib.hid (N.out.bl hb)
  have U2 := Lib.hid (U.out.below hb)
  have K2 := Lib.hid (K.out.bl hb)
  have V2 := Lib.hid (V.out.below hb)
  clear HB G PW N U K V
  have HB := HB2
  have G := G2
  have PW := PW2
  have N := N2
  have U := U2
  have K := K2
  have V := V2
  clear HB2 G2 PW2 N2 U2 K2 V2
  clear hb hc hm
  have U0 := U.out.c0
  have V0 := V.out.c0
  go_wp2_with fail
  clear U0
  clear V0
  obtain ⟨Lb, hm, hc⟩ := kid_at M.out 0 aB rfl
  refine hc.mono ?_
  rintro e w20 ⟨rfl, hb⟩
  have L := Lib.hid (hm.bl hb)
  have HB2 := Lib.hid (HB.out.trans (hb.mono HB.out.size))
  have G2 := Lib.hid (G.out.below hb)
  have PW2 := Lib.hid (pow_below PW.out (hb.mono G.out.size))
  have N2 := Lib.hid (N.out.bl hb)
  have U2 := Lib.hid (U.out.below hb)
  have K2 := Lib.hid (K.out.bl hb)
  have V2 := Lib.hid (V.out.below hb)
  have M2 := Lib.hid (M.out.bl hb)
  clear HB G PW N U K V M
  have HB := HB2
  have G := G2
  have PW := PW2
  have N := N2
  have U := U2
  have K := K2
  have V := V2
  have M := M2
  clear HB2 G2 PW2 N2 U2 K2 V2 M2
  clear hb hc hm
  have U0 := U.out.c0
  have V0 := V.out.c0
  go_wp2_with fail
  clear U0
  clear V0
  clear M
  obtain ⟨Ao, co, hro⟩ := row_B L.out HP.out
  refine (at_of _ _ _ _ _ _ _ _ _ _ hro).mono ?_
  rintro e w21 ⟨rfl, hb⟩
  have HB2 := Lib.hid (HB.out.trans (hb.mono HB.out.size))
  have G2 := Lib.hid (G.out.below hb)
  have PW2 := Lib.hid (pow_below PW.out (hb.mono G.out.size))
  have N2 := Lib.hid (N.out.bl hb)
  have U2 := Lib.hid (U.out.below hb)
  have K2 := Lib.hid (K.out.bl hb)
  have V2 := Lib.hid (V.out.below hb)
  have L2 := Lib.hid (L.out.bl hb)
  clear HB G PW N U K V L
  have HB := HB2
  have G := G2
  have PW := PW2
  have N := N2
  have U := U2
  have K := K2
  have V := V2
  have L := L2
  clear HB2 G2 PW2 N2 U2 K2 V2 L2
  clear hb
  clear hro
  clear L
  have U0 := U.out.c0
  have V0 := V.out.c0
  go_wp2_with fail
  clear U0
  clear V0
  refine (show_aw _ _ _ _ _ N.out G.out PW.out).mono ?_
  rintro e w22 ⟨rfl, hb⟩
  have HB2 := Lib.hid (HB.out.trans (hb.mono HB.out.size))
  have G2 := Lib.hid (G.out.below hb)
  have PW2 := Lib.hid (pow_below PW.out (hb.mono G.out.size))
  have N2 := Lib.hid (N.out.bl hb)
  have U2 := Lib.hid (U.out.below hb)
  have K2 := Lib.hid (K.out.bl hb)
  have V2 := Lib.hid (V.out.below hb)
  clear HB G PW N U K V
  have HB := HB2
  have G := G2
  have PW := PW2
  have N := N2
  have U := U2
  have K := K2
  have V := V2
  clear HB2 G2 PW2 N2 U2 K2 V2
  clear hb
  have U0 := U.out.c0
  have V0 := V.out.c0
  go_wp2_with fail
  clear U0
  clear V0
  refine (size_aw _ _ _ _ _ N.out).mono ?_
  rintro e w23 ⟨rfl, hb⟩
  have HB2 := Lib.hid (HB.out.trans (hb.mono HB.out.size))
  have G2 := Lib.hid (G.out.below hb)
  have PW2 := Lib.hid (pow_below PW.out (hb.mono G.out.size))
  have N2 := Lib.hid (N.out.bl hb)
  have U2 := Lib.hid (U.out.below hb)
  have K2 := Lib.hid (K.out.bl hb)
  have V2 := Lib.hid (V.out.below hb)
  clear HB G PW N U K V
  have HB := HB2
  have G := G2
  have PW := PW2
  have N := N2
  have U := U2
  have K := K2
  have V := V2
  clear HB2 G2 PW2 N2 U2 K2 V2
  clear hb
  have U0 := U.out.c0
  have V0 := V.out.c0
  go_wp2_with fail
  clear U0
  clear V0
  refine (kid_out N.out 7 (Or.inr (by show ((1 : Nat) : Int) ≤ 7; omega))).mono ?_
  rintro e w24 ⟨rfl, hb⟩
  have HB2 := Lib.hid (HB.out.trans (hb.mono HB.out.size))
  have G2 := Lib.hid (G.out.below hb)
  have PW2 := Lib.hid (pow_below PW.out (hb.mono G.out.size))
  have N2 := Lib.hid (N.out.bl hb)
  have U2 := Lib.hid (U.out.below hb)
  have K2 := Lib.hid (K.out.bl hb)
  have V2 := Lib.hid (V.out.below hb)
  clear HB G PW N U K V
  have HB := HB2
  have G := G2
  have PW := PW2
  have N := N2
  have U := U2
  have K := K2
  have V := V2
  clear HB2 G2 PW2 N2 U2 K2 V2
  clear hb
  have U0 := U.out.c0
  have V0 := V.out.c0
  go_wp2_with fail
  clear U0
  clear V0
  refine (op_of _ _ _ _ _ _ _ _ _ _ (row_zero _)).mono ?_
  rintro e w25 ⟨rfl, hb⟩
  have HB2 := Lib.hid (HB.out.trans (hb.mono HB.out.size))
  have G2 := Lib.hid (G.out.below hb)
  have PW2 := Lib.hid (pow_below PW.out (hb.mono G.out.size))
  have N2 := Lib.hid (N.out.bl hb)
  have U2 := Lib.hid (U.out.below hb)
  have K2 := Lib.hid (K.out.bl hb)
  have V2 := Lib.hid (V.out.below hb)
  clear HB G PW N U K V
  have HB := HB2
  have G := G2
  have PW := PW2
  have N := N2
  have U := U2
  have K := K2
  have V := V2
  clear HB2 G2 PW2 N2 U2 K2 V2
  clear hb
  have U0 := U.out.c0
  have V0 := V.out.c0
  go_wp2_with fail
  clear U0
  clear V0
  go_ret
  exact ⟨rfl, HB.out⟩

end Go.Proofs.YtfbejfoalnhihaaGreatDoor

/-
  CONTRACT: sized. Blocks from the world's end on alone are new.
-/
namespace Go.Proofs.YtfbejfoalnhihaaGreatDoor
open Go.RowKit

theorem OkT.op_ne {t : Tree} (h : OkT t) : t.op ≠ 0 := by
  cases h with
  | mk h0 h1 h2 h4 hk => exact h0
def SdRel (ok : Nat → Prop) (pl : Nat → Nat) (b : Nat) (t : Tree) (w : World) (v i : Value) (wr : World) : Prop :=
  ∃ k : Nat, k ≤ t.kids.length ∧ i = .int .i64 k ∧ v = .int .i64 (wrap64 (sizeL (t.kids.take k) + 1)) ∧ Hid (Below w.heap.size w wr) ∧ Hid (PtrAt wr w.heap.size (some ⟨b, 0, none⟩)) ∧ Hid (NodeAt ok pl wr b t)
set_option maxRecDepth 100000 in
set_option maxHeartbeats 2000000 in
theorem sized_any (en : Int) (pl : Nat → Nat) (hpl : ∀ p, ((pl p : Nat) : Int) ≤ en) (N : Nat) : ∀ (t : Tree), sizeT t ≤ N → (∀ (k : Nat) (u : Tree), t.kids[k]? = some u → OkT u) → ∀ (w : World) (b : Nat) (ok : Nat → Prop), NodeAt ok pl w b t →
    Calls Tryz.prog 22 #[.agg #[.pointer (some ⟨b, 0, none⟩)], .int .i64 en] w fun e w' => e = .returned (.bool true) ∧ Below w.heap.size w w' := by
  induction N with
  | zero => intro t h; have := sizeT_pos t; omega
  | succ N ih =>
    intro t hN hT w b ok h
    obtain ⟨m, hm⟩ : ∃ m, t.kids.length = m := ⟨_, rfl⟩
    have hmx : m ≤ 6000 := by
      obtain ⟨A, c, hr, h1, h2, h3⟩ := h.kid
      rw [hm] at h2
      exact h2
    have HM := Lib.hid hm
    have HT := Lib.hid hT
    have HN := Lib.hid hN
    have IHH := Lib.hid ih
    have HPL := Lib.hid hpl
    have BA := Lib.hid (b1 w (.cells #[.pointer (some ⟨b, 0, none⟩)] 25))
    have U := Lib.hid (PtrAt.new w (some ⟨b, 0, none⟩))
    have K := Lib.hid (h.bl BA.out)
    clear hm hT hN ih hpl h
    go_enter Tryz.func22, Tryz.ntmps22
    go_wp2_with fail
    go_loopw [5, 6] (fun v i wr => SdRel ok pl b t w v i wr) (fun _ i _ => m - (intOf i).toNat)
    case atStart => exact ⟨0, Nat.zero_le _, rfl, by simp [sizeL, wrap64], BA, U, K⟩
    case round =>
      clear BA U K
      obtain ⟨k, hk, rfl, rfl, B, U, K⟩ := hrel
      rw [HM.out] at hk
      have U0 := U.out.c0
      go_wp2_with fail
      clear U0
      obtain ⟨Ao, co, hro⟩ := K.out.rowOf
      rw [HM.out] at hro
      refine (kids_of _ _ _ _ _ _ _ _ _ _ hro).mono ?_
      rintro e w1 ⟨rfl, hb⟩
      have B1 := Lib.hid (B.out.trans (hb.mono B.out.size))
      have U1 := Lib.hid (U.out.below hb)
      have K1 := Lib.hid (K.out.bl hb)
      clear hb hro U K B
      by_cases hlt : k < m
      · obtain ⟨u, hu⟩ := kid_is (t := t) (i := k) (by rw [HM.out]; exact hlt)
        have hki : (k : Int) < (m : Int) := by omega
        have HST := Lib.hid (sizeL_take t.kids k u hu)
        have HU := Lib.hid hu
        have HOK := Lib.hid (HT.out k u hu)
        have HSU := Lib.hid (show sizeT u ≤ N by have := size_kid hu; have := HN.out; omega)
        clear hu
        have U0 := U1.out.c0
        go_wp2_with fail
        clear U0
        obtain ⟨nb, hn, hc⟩ := kid_at K1.out k u HU.out
        refine hc.mono ?_
        rintro e w2 ⟨rfl, hb⟩
        have M2 := Lib.hid (hn.bl hb)
        have B2 := Lib.hid (B1.out.trans (hb.mono B1.out.size))
        have U2 := Lib.hid (U1.out.below hb)
        have K2 := Lib.hid (K1.out.bl hb)
        clear hb hc hn U1 K1 B1
        go_wp2_with fail
        refine (size_any N u HSU.out _ nb ok pl M2.out).mono ?_
        rintro e w3 ⟨rfl, hb⟩
        have B3 := Lib.hid (B2.out.trans (hb.mono B2.out.size))
        have U3 := Lib.hid (U2.out.below hb)
        have K3 := Lib.hid (K2.out.bl hb)
        clear hb U2 K2 B2 M2
        have U0 := U3.out.c0
        go_wp2_with fail
        clear U0
        obtain ⟨nb2, hn, hc⟩ := kid_at K3.out k u HU.out
        refine hc.mono ?_
        rintro e w4 ⟨rfl, hb⟩
        have M4 := Lib.hid (hn.bl hb)
        have B4 := Lib.hid (B3.out.trans (hb.mono B3.out.size))
        have U4 := Lib.hid (U3.out.below hb)
        have K4 := Lib.hid (K3.out.bl hb)
        clear hb hc hn U3 K3 B3
        go_wp2_with fail
        obtain ⟨Ao, co, hro⟩ := M4.out.rowOf
        refine (op_of _ _ _ _ _ _ _ _ _ _ hro).mono ?_
        rintro e w5 ⟨rfl, hb⟩
        have B5 := Lib.hid (B4.out.trans (hb.mono B4.out.size))
        have U5 := Lib.hid (U4.out.below hb)
        have K5 := Lib.hid (K4.out.bl hb)
        have ho : ((u.op : Int) == 0) = false := by have := HOK.out.op_ne; simp; omega
        clear hb hro U4 K4 B4 M4
        have U0 := U5.out.c0
        go_wp2_with fail
        clear U0
        obtain ⟨nb3, hn, hc⟩ := kid_at K5.out k u HU.out
        refine hc.mono ?_
        rintro e w6 ⟨rfl, hb⟩
        have M6 := Lib.hid (hn.bl hb)
        have B6 := Lib.hid (B5.out.trans (hb.mono B5.out.size))
        have U6 := Lib.hid (U5.out.below hb)
        have K6 := Lib.hid (K5.out.bl hb)
        clear hb hc hn U5 K5 B5
        go_wp2_with fail
        refine (IHH.out u HSU.out (fun k' u' hu' => HOK.out.kid hu') _ nb3 ok M6.out).mono ?_
        rintro e w7 ⟨rfl, hb⟩
        have B7 := Lib.hid (B6.out.trans (hb.mono B6.out.size))
        have U7 := Lib.hid (U6.out.below hb)
        have K7 := Lib.hid (K6.out.bl hb)
        clear hb U6 K6 B6 M6
        go_wp2_with fail
        go_roundw
        case rel => exact ⟨k + 1, by rw [HM.out]; omega, by go_num, by rw [HST.out]; show Value.int .i64 _ = Value.int .i64 _; rw [wrap_add]; congr 2; omega, B7, U7, K7⟩
        case measure => simp [intOf]; omega
      · have hki : ¬ (k : Int) < (m : Int) := by omega
        obtain rfl : k = m := by omega
        rw [List.take_of_length_le (by rw [HM.out]; exact Nat.le_refl _)]
        obtain ⟨z, hz⟩ : ∃ z, wrap64 ((sizeL t.kids : Int) + 1) = z := ⟨_, rfl⟩
        have HSZ : Hid (∀ (w' : World), NodeAt ok pl w' b t → Calls Tryz.prog 13 #[.agg #[.pointer (some ⟨b, 0, none⟩)]] w' fun e w2 => e = .returned (.int .i64 z) ∧ Below w'.heap.size w' w2) := fun w' h' => by
          have c := size_any (sizeT t) t (Nat.le_refl _) w' b ok pl h'
          rw [show ((sizeT t : Nat) : Int) = (sizeL t.kids : Int) + 1 by rw [sizeT_eq]; omega, hz] at c
          exact c
        rw [hz]
        clear hz
        obtain ⟨p, hp⟩ : ∃ p : Int, ((pl t.pos : Nat) : Int) = p := ⟨_, rfl⟩
        have h0p : (0 : Int) ≤ p := by omega
        have hpe : p ≤ en := by rw [← hp]; exact HPL.out _
        have HP := Lib.hid hp
        clear hp
        go_wp2_with fail
        have cu := U1.out.c0
        have lu := U1.out.lt
        have D0 : Hid (Below w1.heap.size w1 w1.drew) := (Below.refl _ _).drew
        go_region_held3 (fun w' => Below w1.heap.size w1 w' ∧ w'.cell? ⟨w.heap.size, 0, none⟩ = some (.pointer (some ⟨b, 0, none⟩))) (first | exact ⟨D0.out, cu⟩ | exact HK13.out | exact HK24.out | exact HK12.out | exact HK21.out) (first | (go_at_call 24; have h0 := ‹Below w1.heap.size w1 _ ∧ _›; obtain ⟨Ao, co, hro⟩ := (K1.out.bl h0.1).rowOf; rw [HP.out] at hro; refine (at_of _ _ _ _ _ _ _ _ _ _ hro).mono ?_; rintro e w24 ⟨rfl, hb⟩; have HK24 : Hid (Below w1.heap.size w1 w24 ∧ w24.cell? ⟨w.heap.size, 0, none⟩ = some (.pointer (some ⟨b, 0, none⟩))) := ⟨h0.1.trans (hb.mono h0.1.size), (hb.cell (p := ⟨w.heap.size, 0, none⟩) (Nat.lt_of_lt_of_le lu h0.1.size)).trans h0.2⟩; clear h0 hb hro) | (go_at_call 12; have h0 := ‹Below w1.heap.size w1 _ ∧ _›; obtain ⟨Ao, co, hro⟩ := (K1.out.bl h0.1).rowOf; rw [HM.out] at hro; refine (kids_of _ _ _ _ _ _ _ _ _ _ hro).mono ?_; rintro e w12 ⟨rfl, hb⟩; have HK12 : Hid (Below w1.heap.size w1 w12 ∧ w12.cell? ⟨w.heap.size, 0, none⟩ = some (.pointer (some ⟨b, 0, none⟩))) := ⟨h0.1.trans (hb.mono h0.1.size), (hb.cell (p := ⟨w.heap.size, 0, none⟩) (Nat.lt_of_lt_of_le lu h0.1.size)).trans h0.2⟩; clear h0 hb hro) | (go_at_call 21; have h0 := ‹Below w1.heap.size w1 _ ∧ _›; refine (kid_out (K1.out.bl h0.1) k (Or.inr (by rw [HM.out]; exact Int.le_refl _))).mono ?_; rintro e w21 ⟨rfl, hb⟩; have HK21 : Hid (Below w1.heap.size w1 w21 ∧ w21.cell? ⟨w.heap.size, 0, none⟩ = some (.pointer (some ⟨b, 0, none⟩))) := ⟨h0.1.trans (hb.mono h0.1.size), (hb.cell (p := ⟨w.heap.size, 0, none⟩) (Nat.lt_of_lt_of_le lu h0.1.size)).trans h0.2⟩; clear h0 hb) | (go_at_call 13; have h0 := ‹Below w1.heap.size w1 _ ∧ _›; first | (have c0 := HSZ.out _ (K1.out.bl h0.1); (with_reducible refine c0.mono ?_); clear c0; rintro e w13 ⟨rfl, hb⟩; have HK13 : Hid (Below w1.heap.size w1 w13 ∧ w13.cell? ⟨w.heap.size, 0, none⟩ = some (.pointer (some ⟨b, 0, none⟩))) := ⟨h0.1.trans (hb.mono h0.1.size), (hb.cell (p := ⟨w.heap.size, 0, none⟩) (Nat.lt_of_lt_of_le lu h0.1.size)).trans h0.2⟩; clear h0 hb) | ((with_reducible refine (size_zero' _).mono ?_); rintro e w13 ⟨rfl, hb⟩; have HK13 : Hid (Below w1.heap.size w1 w13 ∧ w13.cell? ⟨w.heap.size, 0, none⟩ = some (.pointer (some ⟨b, 0, none⟩))) := ⟨h0.1.trans (hb.mono h0.1.size), (hb.cell (p := ⟨w.heap.size, 0, none⟩) (Nat.lt_of_lt_of_le lu h0.1.size)).trans h0.2⟩; clear h0 hb)))
        all_goals
          go_wp2_with fail
          go_ret
          exact ⟨rfl, B1.out.trans (HK13.out.1.mono B1.out.size)⟩

end Go.Proofs.YtfbejfoalnhihaaGreatDoor

/-
  PLAIN: an error of the reader is 1 or 3; a text's error is not 0, and its place lies in the text. Nothing of the program stands here.
-/
namespace Go.Proofs.YtfbejfoalnhihaaGreatDoor
open Go.RowKit

/-- Every fail is with 1 or 3. -/
def Fz {α : Type} : Pr α → Prop
  | .ret _ => True
  | .fail e => e = 1 ∨ e = 3
  | .peek k => ∀ i t, Fz (k i t)
  | .next p => Fz p
  | .call _ _ k => ∀ ts, Fz (k ts)
theorem fz_bind {α β : Type} {p : Pr α} {f : α → Pr β} (h : Fz p) (g : ∀ a, Fz (f a)) : Fz (p.bind f) := by
  induction p with
  | ret a => exact g a
  | fail e => exact h
  | peek k ih => exact fun i t => ih i t (h i t)
  | next p ih => exact ih h
  | call nt d k ih => exact fun ts => ih ts (h ts)
theorem fz_ite {α : Type} {q : Prop} [Decidable q] {p r : Pr α} (h : Fz p) (g : Fz r) : Fz (if q then p else r) := by split <;> assumption
theorem fz_run {α : Type} {T : Nat → AT} {c : Callee} (hc : ∀ nt d i j e, c nt d i = some (.bad j e) → e = 1 ∨ e = 3) (p : Pr α) : ∀ (i j e : Nat), Fz p → runW T c p i = some (.bad j e) → e = 1 ∨ e = 3 := by
  induction p with
  | ret a => intro i j e _ h; cases h
  | fail e' => intro i j e h h'; cases h'; exact h
  | peek k ih => intro i j e h h'; exact ih i (T i) i j e (h i (T i)) h'
  | next p ih => intro i j e h h'; exact ih (i + 1) j e h h'
  | call nt d k ih =>
    intro i j e h h'
    simp only [runW] at h'
    cases hr : c nt d i with
    | none => rw [hr] at h'; cases h'
    | some r =>
      rw [hr] at h'
      cases r with
      | bad j' e' => cases h'; exact hc _ _ _ _ _ hr
      | ok ts k' => exact ih ts k' j e (h ts) h'
theorem fz_need (s : List UInt8) : Fz (need s) := fun _ _ => fz_ite trivial (.inl rfl)
theorem fz_word : Fz word := fun _ _ => fz_ite trivial (.inl rfl)
theorem fz_enter (d : Nat) (s : List UInt8) : Fz (enter d s) := fun _ _ => fz_ite (fz_ite (.inr rfl) trivial) (.inl rfl)
theorem fz_typ : Fz typ := fun _ _ => fz_ite trivial (fz_ite trivial (fz_bind (fz_need _) fun _ => fz_bind fz_word fun _ => trivial))
theorem fz_typed (op : Nat) : Fz (typed op) := fz_bind fz_word fun _ => fz_bind fz_typ fun _ => trivial
theorem fz_named (op : Nat) : Fz (named op) := fz_bind (fz_typed op) fun _ => fz_bind (fz_need _) fun _ => trivial
theorem fz_one (nt : NT) (d : Nat) : Fz (one nt d) := fun _ => trivial
theorem fz_block (d : Nat) : Fz (block d) := fz_bind (fz_enter _ _) fun _ _ => trivial
theorem fz_struct : Fz structure_ := fz_bind fz_word fun _ => fz_bind (fz_need _) fun _ => fz_bind (fz_need _) fun _ _ => trivial
theorem fz_fparts : Fz fparts := fz_bind (fz_need _) fun _ _ _ => fz_ite trivial (fz_bind (fz_typed 5) fun _ _ => trivial)
theorem fz_function (d : Nat) : Fz (function d) := fz_bind fz_word fun _ => fz_bind fz_fparts fun _ => fz_bind (show Fz (Pr.peek _) from fun _ _ => fz_ite trivial fz_typ) fun _ => fz_bind (fz_block d) fun _ => trivial
theorem fz_decl (d : Nat) : Fz (decl d) := fun _ _ => fz_ite fz_struct (fz_ite (fz_named 3) (fz_ite (fz_function d) (.inl rfl)))
theorem fz_args (d : Nat) : Fz (args d) := fz_bind (fz_enter _ _) fun _ _ _ => fz_ite (fz_bind (fz_need _) fun _ => trivial) (fz_bind (fz_one _ _) fun _ _ => trivial)
theorem fz_brack (d : Nat) : Fz (brack d) := fz_bind (fz_enter _ _) fun _ => fz_bind (fz_one _ _) fun _ => fz_bind (fz_need _) fun _ => trivial
theorem fz_varOrCall (d : Nat) : Fz (varOrCall d) := fz_bind fz_word fun _ _ _ => fz_ite (fz_bind (fz_args d) fun _ => trivial) trivial
theorem fz_creation : Fz creation := fz_bind (fz_need _) fun _ => fz_bind (fz_need _) fun _ => fz_bind fz_word fun _ => fz_bind (fz_need _) fun _ => trivial
theorem fz_input : Fz input := fz_bind (fz_need _) fun _ => fz_bind (fz_need _) fun _ => fz_bind (fz_need _) fun _ => trivial
theorem fz_primary (d : Nat) : Fz (primary d) := fun _ _ => fz_ite trivial (fz_ite (fz_varOrCall d) (fz_ite trivial (fz_ite trivial (fz_ite trivial (fz_ite fz_creation (fz_ite fz_input (fz_ite (fz_brack d) (.inl rfl))))))))
theorem fz_fieldName : Fz fieldName := fz_bind (fz_need _) fun _ => fz_word
theorem fz_postfix (d : Nat) : Fz (postfix_ d) := fz_bind (fz_primary d) fun _ _ => trivial
theorem fz_setting (op : Nat) (h : Tree) (d : Nat) : Fz (setting op h d) := fz_bind (fz_one _ _) fun _ => fz_bind (fz_need _) fun _ => trivial
theorem fz_put (h : Tree) (d : Nat) : Fz (put h d) := fz_bind fz_fieldName fun _ _ => fz_bind (fz_need _) fun _ => fz_bind (fz_one _ _) fun _ => fz_bind (fz_need _) fun _ => trivial
theorem fz_simple (d : Nat) : Fz (simple d) := fun _ _ => fz_bind (fz_primary d) fun h _ _ => fz_ite trivial (fz_ite (fz_setting 7 h d) (fz_ite (fz_setting 8 h d) (fz_put h d)))
theorem fz_loop (d : Nat) : Fz (loop d) := fz_bind (fz_need _) fun _ => fz_bind (fz_one _ _) fun _ => fz_bind (fz_block d) fun _ => trivial
theorem fz_print (d : Nat) : Fz (print d) := fz_bind (fz_need _) fun _ => fz_bind (fz_brack d) fun _ => fz_bind (fz_need _) fun _ => trivial
theorem fz_giveBack (d : Nat) : Fz (giveBack d) := fz_bind (fz_need _) fun _ => fz_bind (show Fz (Pr.peek _) from fun _ _ => fz_ite trivial (fz_bind (fz_one _ _) fun _ => trivial)) fun _ => fz_bind (fz_need _) fun _ => trivial
theorem fz_other (d : Nat) : Fz (other d) := fun _ _ => fz_ite (fz_one _ _) (fz_block d)
theorem fz_branch (d : Nat) : Fz (branch d) := fz_bind (fz_need _) fun _ => fz_bind (fz_one _ _) fun _ => fz_bind (fz_block d) fun _ _ _ => fz_ite (fz_bind (p := other d) (fz_other d) fun _ => trivial) trivial
theorem fz_stmt (d : Nat) : Fz (stmt d) := fun _ _ => fz_ite (fz_one _ _) (fz_ite (fz_loop d) (fz_ite (fz_print d) (fz_ite (fz_giveBack d) (fz_simple d))))
theorem fz_unary (d : Nat) : Fz (unary d) := fun _ _ => fz_ite (fz_postfix d) (fz_bind (fz_enter _ _) fun _ => fz_bind (fz_one _ _) fun _ => trivial)
theorem fz_single {p : Pr Tree} (h : Fz p) : Fz (single p) := fz_bind h fun _ => trivial
theorem fz_body (nt : NT) (d : Nat) : Fz (body nt d) := by
  cases nt with
  | decls => exact fun _ _ => fz_ite trivial (fz_bind (fz_decl d) fun _ _ => trivial)
  | parts => exact fun _ _ => fz_ite trivial (fz_bind (fz_named 5) fun _ _ => trivial)
  | params => exact fun _ _ => fz_ite (show Fz (Pr.bind _ _) from fz_bind (fz_typed 5) fun _ _ => trivial) (fz_bind (fz_need _) fun _ => trivial)
  | stmts => exact fun _ _ => fz_ite trivial (fun _ _ => trivial)
  | stmt => exact fz_single (fz_stmt d)
  | branch => exact fz_single (fz_branch d)
  | binary l => exact fz_single (fun _ _ => trivial)
  | tail l => exact fun _ _ => fz_ite trivial (fun _ _ => trivial)
  | unary => exact fz_single (fz_unary d)
  | fields => exact fun _ _ => fz_ite (fz_bind fz_fieldName fun _ _ => trivial) trivial
  | args => exact fun _ _ => fz_ite (show Fz (Pr.bind _ _) from fz_bind (fz_one _ _) fun _ _ => trivial) (fz_bind (fz_need _) fun _ => trivial)
theorem P_err {T : Nat → AT} (n : Nat) : ∀ nt d i j e, P T n nt d i = some (.bad j e) → e = 1 ∨ e = 3 := by
  induction n with
  | zero => intro nt d i j e h; cases h
  | succ n ih => intro nt d i j e h; exact fz_run ih _ i j e (fz_body nt d) h
theorem parse_err {l : List UInt8} {p e : Nat} (h : parseR l = .bad p e) : ¬ e = 0 := by
  unfold parseR at h
  cases hs : scanR l with
  | bad p' e' =>
    rw [hs] at h
    obtain ⟨rfl, rfl⟩ : p' = p ∧ e' = e := by injection h with a b; exact ⟨a, b⟩
    unfold scanR at hs
    split at hs
    · injection hs with a b; omega
    · exact (sc_bad_lt l l.length 0 _ _ (by omega) hs).2
  | ok ts =>
    rw [hs] at h
    have hT := toks_of hs
    obtain ⟨r, hr, -⟩ := P_total hT.sent (fuelT ts) .decls 0 0 trivial (Nat.zero_le _) (by simp [fuelT, rank])
    simp only [hr, treeR] at h
    cases r with
    | ok ks j => cases h
    | bad j e' =>
      have := P_err _ _ _ _ _ _ hr
      injection h with a b
      omega

end Go.Proofs.YtfbejfoalnhihaaGreatDoor
