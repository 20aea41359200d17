/-
  CONTRACT: ir.Line. Of what was there nothing has turned.
-/
import Derived.Test.YtcbjcpmkebbfaaaDoorStrE
import Derived.Test.YtcbjcpmkebbfaaaDoorUsList
namespace Go.Proofs.YtcbjcpmkebbfaaaDoor
open Go.RowKit

theorem joinB_app {l : List ByteArray} (h : l ≠ []) (r : List ByteArray) : joinB (l ++ r) = r.foldl spS (joinB l) := by
  cases l with
  | nil => exact absurd rfl h
  | cons x l => rw [List.cons_append, joinB_cons, joinB_cons, List.foldl_append]
theorem joinB_addW {l : List ByteArray} (h : l ≠ []) (y : ByteArray) : joinB (addW l y) = addS (joinB l) y := by
  unfold addW
  rw [addS_eq]
  split
  · rfl
  · rw [joinB_app h]; rfl
theorem addW_ne {l : List ByteArray} (h : l ≠ []) (y : ByteArray) : addW l y ≠ [] := by
  unfold addW
  split
  · exact h
  · simp
/-- The words of an instruction, up to its number. -/
def insW (n : Int) (x : Ins) : List ByteArray := addW (addW [vS n, ⟨#[61]⟩, wordS x.op] x.typ) x.name ++ [num x.n]
theorem insW_ne (n : Int) (x : Ins) : insW n x ≠ [] := by unfold insW; simp
theorem addV_eq (s : ByteArray) (a : Int) : spS s (vS a) = addV s a := by
  unfold spS vS addV
  simp only [ba_assoc]
  rfl
theorem insW_eq (n : Int) (x : Ins) : joinB (insW n x ++ x.args.map vS) = x.args.foldl addV (headS n x) := by
  rw [joinB_app (insW_ne n x), List.foldl_map]
  have e : joinB (insW n x) = headS n x := by
    unfold insW headS
    rw [joinB_app (addW_ne (addW_ne (by simp) _) _), joinB_addW (addW_ne (by simp) _), joinB_addW (by simp)]
    have e2 : joinB [vS n, ⟨#[61]⟩, wordS x.op] = (((⟨#[118]⟩ : ByteArray) ++ num n) ++ ⟨#[32, 61, 32]⟩) ++ wordS x.op := by
      rw [joinB_cons]
      show ((((vS n ++ (⟨#[32]⟩ : ByteArray)) ++ (⟨#[61]⟩ : ByteArray)) ++ (⟨#[32]⟩ : ByteArray)) ++ wordS x.op) = _
      unfold vS
      simp only [ba_assoc]
      rfl
    rw [e2]; rfl
  rw [e]
  congr 1
  funext s a
  exact addV_eq s a
/-- The texts of an instruction are not too long. -/
structure BdX (x : Ins) : Prop where
  t : x.typ.size ≤ 1048576
  n : x.name.size ≤ 1048576
  a : x.args.length ≤ 2048
def wdsL (n : Int) (x : Ins) (k : Nat) : List ByteArray := insW n x ++ (x.args.take k).map vS
theorem wdsL_up {n : Int} {x : Ins} {k : Nat} {a : Int} (h : x.args[k]? = some a) : wdsL n x (k + 1) = wdsL n x k ++ [vS a] := by
  unfold wdsL
  obtain ⟨p, e⟩ := List.getElem?_eq_some_iff.1 h
  rw [List.take_succ_eq_append_getElem p, List.map_append, e, List.append_assoc]; rfl
theorem insW_len (n : Int) (x : Ins) : (insW n x).length ≤ 6 := by
  unfold insW
  have h1 := addW_len [vS n, ⟨#[61]⟩, wordS x.op] x.typ
  have h2 := addW_len (addW [vS n, ⟨#[61]⟩, wordS x.op] x.typ) x.name
  rw [List.length_append]
  simp only [List.length_cons, List.length_nil] at h1 ⊢
  omega
theorem wdsL_len (n : Int) (x : Ins) (k : Nat) (h : k ≤ x.args.length) : (wdsL n x k).length ≤ 6 + k := by
  unfold wdsL
  have := insW_len n x
  rw [List.length_append, List.length_map, List.length_take]
  omega
theorem wdsL_bd {n : Int} {x : Ins} (hn : I64 n) (hx : BdX x) (hm : I64 x.n) (ha : ∀ a ∈ x.args, I64 a) (k : Nat) : ∀ y ∈ wdsL n x k, y.size ≤ 1073741824 := by
  intro y hy
  unfold wdsL insW at hy
  rcases List.mem_append.1 hy with hy | hy
  · rcases List.mem_append.1 hy with hy | hy
    · rcases addW_mem hy with hy | rfl
      · rcases addW_mem hy with hy | rfl
        · simp only [List.mem_cons, List.not_mem_nil, or_false] at hy
          rcases hy with rfl | rfl | rfl
          · have := vS_size n hn; omega
          · exact show (1 : Nat) ≤ _ by omega
          · have := word_size x.op; omega
        · have := hx.t; omega
      · have := hx.n; omega
    · simp only [List.mem_cons, List.not_mem_nil, or_false] at hy
      subst hy
      have := num_size x.n hm; omega
  · obtain ⟨a, h, rfl⟩ := List.mem_map.1 hy
    have := vS_size a (ha a (List.mem_of_mem_take h))
    omega
theorem IM.args {E : IE} {w : World} (h : IM E w) : ∀ a ∈ E.x.args, I64 a := fun a ha => by
  obtain ⟨i, hi, rfl⟩ := List.getElem_of_mem ha
  obtain ⟨g, o, y, cs, -, hy, hr, -⟩ := two_at h.A hi
  obtain rfl := Option.some.inj ((List.getElem?_eq_getElem hi).symm.trans hy)
  exact hr.2

set_option maxRecDepth 20000 in
set_option maxHeartbeats 2000000 in
theorem lineOf_any (E : FE) (n : Int) (w : World) (hM : FM E w) (hn : I64 n) (hG : Gd w) (hB : ∀ x ∈ E.f.ins, BdX x) : Calls Tryd.prog 25 #[E.v, .int .i64 n] w fun e w' => e = .returned (.string (lineS E.f n)) ∧ Below w.heap.size w w' := by
  have HB0 := Lib.hid (below_alloc w (.cells E.row 40))
  have HM := Lib.hid (hM.drop HB0.out)
  have HG := Lib.hid (hG.drop HB0.out)
  have HN := Lib.hid hn
  have HBX := Lib.hid hB
  have c0 : (w.alloc (.cells E.row 40)).cell? ⟨w.heap.size, 0, none⟩ = some (.string E.f.name) := cell_new w E.row 40 0
  have c1 : (w.alloc (.cells E.row 40)).cell? ⟨w.heap.size, 1, none⟩ = some (.slice E.pA E.f.params.length E.pc) := cell_new w E.row 40 1
  have c2 : (w.alloc (.cells E.row 40)).cell? ⟨w.heap.size, 2, none⟩ = some (.string E.f.res) := cell_new w E.row 40 2
  have c3 : (w.alloc (.cells E.row 40)).cell? ⟨w.heap.size, 3, none⟩ = some (.slice E.sA E.f.slots.length E.sc) := cell_new w E.row 40 3
  have c4 : (w.alloc (.cells E.row 40)).cell? ⟨w.heap.size, 4, none⟩ = some (.slice E.iA E.f.ins.length E.ic) := cell_new w E.row 40 4
  have c5 : (w.alloc (.cells E.row 40)).cell? ⟨w.heap.size, 5, none⟩ = some (.slice E.bA E.f.blocks.length E.bc) := cell_new w E.row 40 5
  obtain ⟨r, hr⟩ : ∃ r, lineS E.f n = r := ⟨_, rfl⟩
  rw [hr]
  have HR := Lib.hid hr
  clear hM hn hG hB hr
  unfold FE.v
  go_enter Tryd.func25, Tryd.ntmps25
  go_wp2_with fail
  generalize w.alloc (.cells E.row 40) = u0 at *
  refine (has_any E n u0 HM.out).mono ?_
  rintro e w1 ⟨rfl, b1⟩
  have HB1 := Lib.hid (HB0.out.trans (b1.mono HB0.out.size))
  have HM1 := Lib.hid (HM.out.drop b1)
  have HG1 := Lib.hid (HG.out.drop b1)
  have c4 := keepB c4 b1
  clear b1 c0 c1 c2 c3 c5 HM HG
  cases hh : hasF E.f n with
  | false =>
    have HE : Hid (r = ⟨#[]⟩) := HR.out.symm.trans (by
      unfold lineS
      unfold hasF at hh
      split
      · rfl
      · rw [decide_eq_true (by omega), Bool.true_and, decide_eq_false_iff_not] at hh
        rw [List.getElem?_eq_none (by omega)])
    clear hh
    go_wp2_with fail
    go_ret
    exact ⟨by rw [HE.out]; rfl, HB1.out⟩
  | true =>
  obtain ⟨k, rfl, hk⟩ := is_mark hh
  have hil := HM1.out.il
  obtain ⟨g, o, x, cs, hA, hx, hcr, hcs⟩ := two_at HM1.out.I hk
  obtain ⟨X, rfl, rfl, hXM⟩ := ie_of hcr
  have HE : Hid (r = insS k X.x) := HR.out.symm.trans (by
    unfold lineS
    rw [if_neg (by omega), Int.toNat_natCast, hx])
  have x0 := hcs 0 _ rfl
  have x1 := hcs 1 _ rfl
  have x2 := hcs 2 _ rfl
  have x3 := hcs 3 _ rfl
  have x4 := hcs 4 _ rfl
  simp only [Nat.add_zero] at x0
  have HBD := Lib.hid (HBX.out _ (List.mem_of_getElem? hx))
  have HXM := Lib.hid hXM
  have hnn : ¬ (E.f.ins.length : Int) ≤ (k : Int) := by omega
  rw [hA] at c4
  clear hcs hx hcr hXM hh hA HR
  go_wp2_with fail
  refine (isOp_any X.x.op w1 HG1.out.words).mono ?_
  rintro e w2 ⟨rfl, rfl⟩
  cases hw : (wordS X.x.op).toList.isEmpty with
  | true =>
    have HE2 : Hid (r = ⟨#[]⟩) := HE.out.trans (by
      unfold insS
      rw [if_pos]
      refine Go.WideShapes.bytes_inj ?_
      rw [ByteArray.toList_eq] at hw
      simpa using hw)
    clear hw
    go_wp2_with fail
    go_ret
    exact ⟨by rw [HE2.out]; rfl, HB1.out⟩
  | false =>
  have HE2 : Hid (r = joinB (wdsL k X.x X.x.args.length)) := HE.out.trans (by
    unfold insS wdsL
    rw [if_neg, List.take_of_length_le (Nat.le_refl _), insW_eq]
    intro e
    rw [e] at hw
    simp at hw)
  have e0 : (w1.alloc (.cells #[.int .i64 X.x.op, .string X.x.typ, .slice X.aA X.x.args.length X.ac, .int .i64 X.x.n, .string X.x.name] 47)).cell? ⟨w1.heap.size, 0, none⟩ = some (.int .i64 X.x.op) := cell_new w1 _ 47 0
  have e1 : (w1.alloc (.cells #[.int .i64 X.x.op, .string X.x.typ, .slice X.aA X.x.args.length X.ac, .int .i64 X.x.n, .string X.x.name] 47)).cell? ⟨w1.heap.size, 1, none⟩ = some (.string X.x.typ) := cell_new w1 _ 47 1
  have e2 : (w1.alloc (.cells #[.int .i64 X.x.op, .string X.x.typ, .slice X.aA X.x.args.length X.ac, .int .i64 X.x.n, .string X.x.name] 47)).cell? ⟨w1.heap.size, 2, none⟩ = some (.slice X.aA X.x.args.length X.ac) := cell_new w1 _ 47 2
  have e3 : (w1.alloc (.cells #[.int .i64 X.x.op, .string X.x.typ, .slice X.aA X.x.args.length X.ac, .int .i64 X.x.n, .string X.x.name] 47)).cell? ⟨w1.heap.size, 3, none⟩ = some (.int .i64 X.x.n) := cell_new w1 _ 47 3
  have e4 : (w1.alloc (.cells #[.int .i64 X.x.op, .string X.x.typ, .slice X.aA X.x.args.length X.ac, .int .i64 X.x.n, .string X.x.name] 47)).cell? ⟨w1.heap.size, 4, none⟩ = some (.string X.x.name) := cell_new w1 _ 47 4
  have hb3 := below_alloc w1 (.cells #[.int .i64 X.x.op, .string X.x.typ, .slice X.aA X.x.args.length X.ac, .int .i64 X.x.n, .string X.x.name] 47)
  have HB3 := Lib.hid (HB1.out.trans (hb3.mono HB1.out.size))
  have HG3 := Lib.hid (HG1.out.drop hb3)
  have HXM3 := Lib.hid (HXM.out.drop hb3)
  have HSZ3 : Hid ((w1.alloc (.cells #[.int .i64 X.x.op, .string X.x.typ, .slice X.aA X.x.args.length X.ac, .int .i64 X.x.n, .string X.x.name] 47)).heap.size = w1.heap.size + 1) := by show _ = _; simp
  clear hw hb3
  go_wp2_with fail
  generalize w1.alloc (.cells #[.int .i64 X.x.op, .string X.x.typ, .slice X.aA X.x.args.length X.ac, .int .i64 X.x.n, .string X.x.name] 47) = u1 at *
  obtain ⟨vb, hvb⟩ : ∃ b, w1.heap.size = b := ⟨_, rfl⟩
  rw [hvb] at e0 e1 e2 e3 e4 HSZ3 ⊢
  have HT0 : Hid (∀ w', Gd w' → Calls Tryd.prog 42 #[.int .i64 k] w' fun e w2 => e = .returned (.string (vS k)) ∧ Below w'.heap.size w' w2) := fun w' g => value_any _ w' HN.out g.pow
  obtain ⟨sv, hsv⟩ : ∃ s, vS k = s := ⟨_, rfl⟩
  obtain ⟨sw, hsw⟩ : ∃ s, wordS X.x.op = s := ⟨_, rfl⟩
  have HT1 : Hid (∀ w', Gd w' → Calls Tryd.prog 15 #[.int .i64 X.x.op] w' fun e w2 => e = .returned (.string sw) ∧ w' = w2) := fun w' g => by rw [← hsw]; exact word_any _ w' g.words
  rw [hsv] at HT0
  have HSV := Lib.hid hsv
  have HSW := Lib.hid hsw
  clear hsv hsw x0 x1 x2 x3 x4 c4 hnn
  go_region_held3 (fun w' => Below u1.heap.size u1 w' ∧ w'.cell? ⟨vb, 0, none⟩ = some (.int .i64 X.x.op)) (first | exact ⟨(Below.refl _ _).drew, e0⟩ | exact HK.out | exact one_step HK.out (below_alloc _ _))
    (first
      | (go_at_call 42; have h0 := ‹Below u1.heap.size u1 _ ∧ _›; refine (HT0.out _ (HG3.out.drop h0.1)).mono ?_; rintro e w4 ⟨rfl, b4⟩; have HK := Lib.hid (one_step h0 b4); clear b4)
      | (go_at_call 15; have h0 := ‹Below u1.heap.size u1 _ ∧ _›; refine (HT1.out _ (HG3.out.drop h0.1)).mono ?_; rintro e w4 ⟨rfl, rfl⟩; have HK := Lib.hid h0))
  obtain ⟨hb4, -⟩ := HK.out
  have e1 := keepB e1 hb4
  have e2 := keepB e2 hb4
  have e3 := keepB e3 hb4
  have e4 := keepB e4 hb4
  have HB4 := Lib.hid (HB3.out.trans (hb4.mono HB3.out.size))
  have HG4 := Lib.hid (HG3.out.drop hb4)
  have HXM4 := Lib.hid (HXM3.out.drop hb4)
  have HVB : Hid (vb + 1 ≤ w4.heap.size) := by have h1 := hb4.size; rw [HSZ3.out] at h1; exact h1
  have HO5 := Lib.hid (OT.lit w4 w4.heap.size [vS k, ⟨#[61]⟩, wordS X.x.op] #[.string sv, .string ⟨#[61]⟩, .string sw] (by simp [txsV, HSV.out, HSW.out]) (Nat.le_refl _) (by simp))
  have HB5 := Lib.hid (below_alloc w4 (.cells #[.string sv, .string ⟨#[61]⟩, .string sw] 9))
  have HZ5 : Hid ((w4.alloc (.cells #[.string sv, .string ⟨#[61]⟩, .string sw] 9)).heap.size = w4.heap.size + 1) := by show _ = _; simp
  simp only [List.length_cons, List.length_nil] at HO5
  have f1 := keepB e1 HB5.out
  clear hb4 h0 HK HT0 HT1 e0 HG1 HM1 HXM HXM3 HG3 HSV HSW
  generalize w4.alloc (.cells #[.string sv, .string ⟨#[61]⟩, .string sw] 9) = u5 at *
  obtain ⟨b0, hb0⟩ : ∃ b, w4.heap.size = b := ⟨_, rfl⟩
  have HB0L := Lib.hid hb0
  rw [hb0] at HO5 HZ5 HVB HB5 ⊢
  clear hb0
  go_wp2_with fail
  refine (addIf_any b0 _ [vS k, ⟨#[61]⟩, wordS X.x.op] X.x.typ u5 HO5.out (by simp) (by rw [HZ5.out]; omega)).mono ?_
  rintro e u6 ⟨v6, rfl, hq6⟩
  have HO6 := Lib.hid hq6.ot
  have HB6 := Lib.hid (HB5.out.trans (hq6.below HO5.out (by rw [HZ5.out]; omega)))
  have HZ6 : Hid (b0 + 1 ≤ u6.heap.size) := Nat.le_trans (Nat.le_of_eq HZ5.out.symm) hq6.sv.size
  have g4 := (HB6.out.cell (p := ⟨vb, 4, none⟩) HVB.out).trans e4
  clear hq6 f1
  go_wp2_with fail
  refine (addIf_any b0 _ (addW [vS k, ⟨#[61]⟩, wordS X.x.op] X.x.typ) X.x.name u6 HO6.out (by have := addW_len [vS k, ⟨#[61]⟩, wordS X.x.op] X.x.typ; simp only [List.length_cons, List.length_nil] at this; omega) (by have := HZ6.out; omega)).mono ?_
  rintro e u7 ⟨v7, rfl, hq7⟩
  have HO7 := Lib.hid hq7.ot
  have HB7 := Lib.hid (HB6.out.trans (hq7.below HO6.out (by have := HZ6.out; omega)))
  have HZ7 : Hid (b0 + 1 ≤ u7.heap.size) := Nat.le_trans HZ6.out hq7.sv.size
  have g3 := (HB7.out.cell (p := ⟨vb, 3, none⟩) HVB.out).trans e3
  clear hq7 g4
  have HG7 := Lib.hid (HG4.out.below HB7.out (by have := HG4.out.size; rw [HB0L.out] at this; exact this))
  have HTN := Lib.hid (itoa_any X.x.n u7 HXM4.out.inn HG7.out.pow)
  obtain ⟨sn, hsn⟩ : ∃ s, num X.x.n = s := ⟨_, rfl⟩
  rw [hsn] at HTN
  have HSN := Lib.hid hsn
  clear hsn
  go_wp2_with (first | (at_builtin; refine Hid.out ?_) | (go_at_call 44; refine HTN.out.mono ?_; rintro e u8 ⟨rfl, b8⟩; have HB8 := Lib.hid b8; clear b8))
  have HO8 := Lib.hid (HO7.out.keep HB8.out)
  have HZ8 : Hid (b0 + 1 ≤ u8.heap.size) := Nat.le_trans HZ7.out HB8.out.size
  have HB8' := Lib.hid (HB7.out.trans (HB8.out.mono (by have := HZ7.out; omega)))
  have HL7 : Hid ((addW (addW [vS k, ⟨#[61]⟩, wordS X.x.op] X.x.typ) X.x.name).length ≤ 5) := by
    show _ ≤ _
    have h1 := addW_len [vS k, ⟨#[61]⟩, wordS X.x.op] X.x.typ
    have h2 := addW_len (addW [vS k, ⟨#[61]⟩, wordS X.x.op] X.x.typ) X.x.name
    simp only [List.length_cons, List.length_nil] at h1
    omega
  clear HTN g3
  refine Lib.hid ?_
  refine app_txt rfl (.tmp 42) (.tmp 46) 31 rfl Tryd.underlying31 u8 b0 v7 _ sn rfl HO8.out rfl (by have := HL7.out; omega) (by have := HZ8.out; omega) ?_
  intro v9 u9 hO9 hS9 hz9 how9
  have HO9 := Lib.hid (show OT u9 b0 v9 (wdsL k X.x 0) by
    have e : wdsL k X.x 0 = addW (addW [vS k, ⟨#[61]⟩, wordS X.x.op] X.x.typ) X.x.name ++ [sn] := by
      unfold wdsL insW; rw [HSN.out]; simp
    rw [e]; exact hO9)
  have HB9 := Lib.hid (HB8'.out.trans (hS9.below (B := b0) (fun i hi => (HO8.out.lo hi).1) (by have := HZ8.out; omega)))
  have HZ9 : Hid (b0 + 1 ≤ u9.heap.size) := Nat.le_trans HZ8.out hz9
  have g2 := (HB9.out.cell (p := ⟨vb, 2, none⟩) HVB.out).trans e2
  have hal := HXM4.out.al
  have HAL := Lib.hid HBD.out.a
  clear hO9 hS9 hz9 how9 e1 e2 e3 e4 HO8 HO7 HO6 HO5 HB5 HB6 HB7 HB8 HB8' HZ5 HZ6 HZ7 HZ8 HG7 HL7
  go_wp2_with fail
  go_loopw [6, 51] (fun v i wr => WdRel w4 b0 (wdsL k X.x) X.x.args.length v i wr) (fun _ i _ => X.x.args.length - (intOf i).toNat)
  case atStart => exact ⟨0, Nat.zero_le _, rfl, HO9, HB9⟩
  case round =>
    obtain ⟨q, hq, rfl, HK, HBR⟩ := hrel
    have HBW : Hid (Below w4.heap.size w4 wr) := by show Below _ _ _; have := HBR.out; rwa [← HB0L.out] at this
    have HSB : Hid (b0 ≤ wr.heap.size) := by show _ ≤ _; rw [← HB0L.out]; exact HBW.out.size
    by_cases hlt : q < X.x.args.length
    · obtain ⟨g2, o2, y, cs2, hA2, hy, ⟨rfl, iy⟩, hcs2⟩ := two_at HXM4.out.A hlt
      have y0 := keepB (hcs2 0 _ rfl) HBW.out
      simp only [Nat.mul_one, Nat.add_zero] at y0
      have HUP := Lib.hid (wdsL_up (n := k) hy)
      have HT := Lib.hid (value_any y wr iy (HG4.out.drop HBW.out).pow)
      obtain ⟨sy, hsy⟩ : ∃ s, vS y = s := ⟨_, rfl⟩
      rw [hsy] at HUP HT
      rw [hA2]
      clear hcs2 hy hsy hA2
      go_wp2_with (first | (at_builtin; refine Hid.out ?_) | (go_at_call 42; refine HT.out.mono ?_; rintro e w5 ⟨rfl, b5⟩; have HB5 := Lib.hid b5; clear b5))
      have HOK := Lib.hid (HK.out.keep HB5.out)
      have HB6 := Lib.hid (HBR.out.trans (HB5.out.mono HSB.out))
      have HSB6 : Hid (b0 ≤ w5.heap.size) := Nat.le_trans HSB.out HB5.out.size
      have HLN : Hid ((wdsL k X.x q).length ≤ 6 + q) := wdsL_len k X.x q hq
      clear HT HB5 y0
      refine Lib.hid ?_
      refine app_txt rfl (.tmp 55) (.tmp 58) 31 rfl Tryd.underlying31 w5 b0 u6 (wdsL k X.x q) sy rfl HOK.out rfl (by have := HLN.out; have := HAL.out; omega) HSB6.out ?_
      intro v' w' hO' hS hsz how
      have HO3 := Lib.hid (show OT w' b0 v' (wdsL k X.x (q + 1)) by rw [HUP.out]; exact hO')
      have HB7 := Lib.hid (HB6.out.trans (hS.below (B := b0) (fun i hi => (HOK.out.lo hi).1) HSB6.out))
      clear hO' hS hsz how
      go_wp2_with fail
      go_roundw
      case rel => exact ⟨q + 1, hlt, by go_num, HO3, HB7⟩
      case measure => simp [intOf]; omega
    · obtain rfl : q = X.x.args.length := by omega
      have K := Lib.hid (line_own HK.out (by have := wdsL_len k X.x _ (Nat.le_refl _); have := HAL.out; omega) (wdsL_bd HN.out HBD.out HXM4.out.inn HXM4.out.args _))
      rw [← HE2.out] at K
      go_wp2_with fail
      refine K.out.mono ?_
      rintro e w6 ⟨rfl, b6⟩
      have HBF := Lib.hid (HB4.out.trans ((HBW.out.trans (b6.mono HBW.out.size)).mono HB4.out.size))
      clear b6 K
      go_wp2_with fail
      go_ret
      exact ⟨rfl, HBF.out⟩

end Go.Proofs.YtcbjcpmkebbfaaaDoor
