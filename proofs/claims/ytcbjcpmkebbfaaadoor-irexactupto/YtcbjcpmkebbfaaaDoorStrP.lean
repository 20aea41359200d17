/-
  CONTRACT: ir.Lines. Of what was there nothing has turned.
-/
import Derived.Test.YtcbjcpmkebbfaaaDoorStrF
import Derived.Test.YtcbjcpmkebbfaaaDoorSmFn
namespace Go.Proofs.YtcbjcpmkebbfaaaDoor
open Go.RowKit

theorem OT.base {w : World} {b b' : Nat} {v : Value} {l : List ByteArray} (h : OT w b v l) (hb : b' ≤ b) : OT w b' v l := by
  refine ⟨h.1, ?_⟩
  rcases h.2 with h2 | ⟨g, cap, cur, rfl, h3, h4, h5⟩
  · exact .inl h2
  · exact .inr ⟨g, cap, cur, rfl, Nat.le_trans hb h3, h4, h5⟩
/-- The texts of a program are not too long. -/
structure BdP (p : Pg) : Prop where
  sl : p.structs.length ≤ 2048
  gl : p.globals.length ≤ 2048
  fl : p.funs.length ≤ 2048
  s : ∀ x ∈ p.structs, BdS x
  g : ∀ x ∈ p.globals, BdF x
  f : ∀ x ∈ p.funs, BdN x
theorem glob_eq (f : Fd) : joinB [⟨#[103, 108, 111, 98, 97, 108]⟩, f.name, f.typ] = globS f := by
  rw [joinB_cons]
  show spS (spS (⟨#[103, 108, 111, 98, 97, 108]⟩ : ByteArray) f.name) f.typ = _
  unfold spS globS
  simp only [ba_assoc]; rfl
theorem fun_len {f : Fn} (h : BdN f) : (funL f).length ≤ 4200000 := by
  unfold funL slotsL
  have h1 := blocks_len h f.blocks.length (Nat.le_refl _)
  have h2 : f.blocks.length * 2050 ≤ 2048 * 2050 := Nat.mul_le_mul_right _ h.bl
  rw [List.length_cons, List.length_append]
  split <;> simp <;> omega
theorem funs_len {p : Pg} (h : BdP p) : ∀ k, k ≤ p.funs.length → (funsTo p k).length ≤ k * 4200000
  | 0, _ => by simp [funsTo]
  | k + 1, hk => by
    have ih := funs_len h k (by omega)
    rw [funsTo, List.length_append, List.getElem?_eq_getElem (by omega)]
    have h1 := fun_len (h.f _ (List.getElem_mem (by omega : k < p.funs.length)))
    show _ + (funL _).length ≤ _
    rw [Nat.succ_mul]
    omega
theorem funs_up {p : Pg} {k : Nat} {f : Fn} (h : p.funs[k]? = some f) : funsTo p (k + 1) = funsTo p k ++ funL f := by rw [funsTo, h]; rfl

set_option maxRecDepth 20000 in
set_option maxHeartbeats 4000000 in
theorem lines_any (E : PE) (w : World) (hM : PM E w) (hG : Gd w) (hB : BdP E.p) :
    Calls Tryd.prog 11 #[E.v] w fun e w' => ∃ v, e = .returned v ∧ OT w' w.heap.size v (linesL E.p) ∧ Below w.heap.size w w' := by
  have HB0 := Lib.hid (below_alloc w (.cells E.row 26))
  have HM := Lib.hid (hM.drop HB0.out)
  have HG := Lib.hid (hG.drop HB0.out)
  have HD := Lib.hid hB
  have HWZ : Hid ((w.alloc (.cells E.row 26)).heap.size = w.heap.size + 1) := by show _ = _; simp
  have c0 : (w.alloc (.cells E.row 26)).cell? ⟨w.heap.size, 0, none⟩ = some (.slice E.sA E.p.structs.length E.sc) := cell_new w E.row 26 0
  have c1 : (w.alloc (.cells E.row 26)).cell? ⟨w.heap.size, 1, none⟩ = some (.slice E.gA E.p.globals.length E.gc) := cell_new w E.row 26 1
  have c2 : (w.alloc (.cells E.row 26)).cell? ⟨w.heap.size, 2, none⟩ = some (.slice E.fA E.p.funs.length E.fc) := cell_new w E.row 26 2
  have h1 : E.p.structs.length ≤ 2048 := hB.sl
  have h2 : E.p.globals.length ≤ 2048 := hB.gl
  have h3 : E.p.funs.length ≤ 2048 := hB.fl
  clear hM hG hB
  unfold PE.v
  go_enter Tryd.func11, Tryd.ntmps11
  go_wp2_with fail
  generalize w.alloc (.cells E.row 26) = W0 at *
  go_loopw [3, 13] (fun v i wr => WdRel W0 W0.heap.size (fun k => (E.p.structs.take k).map structS) E.p.structs.length v i wr) (fun _ i _ => E.p.structs.length - (intOf i).toNat)
  case atStart => exact ⟨0, Nat.zero_le _, rfl, OT.nil _ _, Below.refl _ _⟩
  case round =>
    obtain ⟨k, hk, rfl, HK, HBR⟩ := hrel
    by_cases hlt : k < E.p.structs.length
    · obtain ⟨g, o, x, cs, hA, hx, hcr, hcs⟩ := two_at HM.out.S hlt
      obtain ⟨X, rfl, rfl, hXM⟩ := te_of hcr
      have x0 := keepB (hcs 0 _ rfl) HBR.out
      have x1 := keepB (hcs 1 _ rfl) HBR.out
      simp only [Nat.add_zero] at x0
      rw [hA]
      have HUP := Lib.hid (map_up structS hx)
      have HBX := Lib.hid (HD.out.s _ (List.mem_of_getElem? hx))
      have hbr := below_alloc wr (.cells #[.string X.x.name, .slice X.fA X.x.fields.length X.fc] 58)
      have e0 : (wr.alloc (.cells #[.string X.x.name, .slice X.fA X.x.fields.length X.fc] 58)).cell? ⟨wr.heap.size, 0, none⟩ = some (.string X.x.name) := cell_new wr _ 58 0
      have e1 : (wr.alloc (.cells #[.string X.x.name, .slice X.fA X.x.fields.length X.fc] 58)).cell? ⟨wr.heap.size, 1, none⟩ = some (.slice X.fA X.x.fields.length X.fc) := cell_new wr _ 58 1
      have HK1 := Lib.hid (HK.out.keep hbr)
      have HB1 := Lib.hid (HBR.out.trans (hbr.mono HBR.out.size))
      have K := Lib.hid (structLine_any X _ (hXM.drop HB1.out) HBX.out)
      have HLN : Hid (((E.p.structs.take k).map structS).length ≤ 2048) := by show _ ≤ _; rw [List.length_map, List.length_take]; omega
      clear hcs hx hcr hXM hA hbr
      go_wp2_with (first | (at_builtin; refine Hid.out ?_) | (go_at_call 29; refine K.out.mono ?_; rintro e W8 ⟨rfl, b8⟩; have HB8 := Lib.hid b8; clear b8))
      have HK8 := Lib.hid (HK1.out.keep HB8.out)
      have HBW := Lib.hid (HB1.out.trans (HB8.out.mono HB1.out.size))
      clear K e0 e1 x0 x1 HB8
      refine Lib.hid ?_
      refine app_txt rfl (.tmp 17) (.tmp 20) 31 rfl Tryd.underlying31 W8 W0.heap.size u3 _ (structS X.x) rfl HK8.out rfl (by have := HLN.out; omega) HBW.out.size ?_
      intro v9 W9 hO9 hS9 hz9 how9
      have HO9 := Lib.hid (show OT W9 W0.heap.size v9 ((E.p.structs.take (k + 1)).map structS) by rw [HUP.out]; exact hO9)
      have HB9 := Lib.hid (HBW.out.trans (hS9.below (B := W0.heap.size) (fun i hi => (HK8.out.lo hi).1) HBW.out.size))
      clear hO9 hS9 hz9 how9
      go_wp2_with fail
      go_roundw
      case rel => exact ⟨k + 1, hlt, by go_num, HO9, HB9⟩
      case measure => simp [intOf]; omega
    · obtain rfl : k = E.p.structs.length := by omega
      have d1 := keepB c1 HBR.out
      have HKS : Hid (OT wr W0.heap.size u3 (E.p.structs.map structS)) := by have h : OT wr W0.heap.size u3 ((E.p.structs.take E.p.structs.length).map structS) := HK.out; rwa [List.take_of_length_le (Nat.le_refl _)] at h
      obtain ⟨LS, hLS⟩ : ∃ L, E.p.structs.map structS = L := ⟨_, rfl⟩
      have hLSl : LS.length ≤ 2048 := by rw [← hLS, List.length_map]; omega
      rw [hLS] at HKS
      have HLS := Lib.hid hLS
      clear hLS HK
      go_wp2_with fail
      go_loopw [3, 26] (fun v i wr => WdRel W0 W0.heap.size (fun k => LS ++ (E.p.globals.take k).map globS) E.p.globals.length v i wr) (fun _ i _ => E.p.globals.length - (intOf i).toNat)
      case atStart => exact ⟨0, Nat.zero_le _, rfl, by show OT _ _ _ (LS ++ []); rw [List.append_nil]; exact HKS.out, HBR⟩
      case round =>
        obtain ⟨k, hk, rfl, HK, HBR⟩ := hrel
        by_cases hlt : k < E.p.globals.length
        · obtain ⟨g, o, f, cs, hA, hx, ⟨rfl, -, -⟩, hcs⟩ := two_at HM.out.G hlt
          obtain ⟨fn, ft⟩ := f
          have x0 := keepB (hcs 0 _ rfl) HBR.out
          have x1 := keepB (hcs 1 _ rfl) HBR.out
          simp only [Nat.add_zero] at x0 x1
          rw [hA]
          have HUP := Lib.hid (map_up globS hx)
          have HBX := Lib.hid (HD.out.g _ (List.mem_of_getElem? hx))
          have hbr := below_alloc wr (.cells #[.string fn, .string ft] 62)
          have e0 : (wr.alloc (.cells #[.string fn, .string ft] 62)).cell? ⟨wr.heap.size, 0, none⟩ = some (.string fn) := cell_new wr _ 62 0
          have e1 : (wr.alloc (.cells #[.string fn, .string ft] 62)).cell? ⟨wr.heap.size, 1, none⟩ = some (.string ft) := cell_new wr _ 62 1
          have HK1 := Lib.hid (HK.out.keep hbr)
          have HB1 := Lib.hid (HBR.out.trans (hbr.mono HBR.out.size))
          have K := Lib.hid (line_lit (wr.alloc (.cells #[.string fn, .string ft] 62)) [⟨#[103, 108, 111, 98, 97, 108]⟩, fn, ft] 3 #[.string ⟨#[103, 108, 111, 98, 97, 108]⟩, .string fn, .string ft] (by simp [txsV]) rfl (by omega) (by
            intro x hx
            have b1 : fn.size ≤ 1048576 := HBX.out.1
            have b2 : ft.size ≤ 1048576 := HBX.out.2
            simp only [List.mem_cons, List.not_mem_nil, or_false] at hx
            rcases hx with rfl | rfl | rfl
            · exact show (_ : Nat) ≤ _ from by decide
            · omega
            · omega))
          have hge : joinB [⟨#[103, 108, 111, 98, 97, 108]⟩, fn, ft] = globS ⟨fn, ft⟩ := glob_eq ⟨fn, ft⟩
          rw [hge] at K
          have HLN : Hid ((LS ++ (E.p.globals.take k).map globS).length ≤ 4096) := by show _ ≤ _; rw [List.length_append, List.length_map, List.length_take]; omega
          have HSZ1 : Hid ((wr.alloc (.cells #[.string fn, .string ft] 62)).heap.size = wr.heap.size + 1) := by show _ = _; simp
          rw [HSZ1.out] at K
          clear hcs hx hA hbr hge
          go_wp2_with (first | (at_builtin; refine Hid.out ?_) | (go_at_call 30; refine K.out.mono ?_; rintro e W8 ⟨rfl, b8⟩; have HB8 := Lib.hid b8; clear b8))
          have HK8 := Lib.hid (HK1.out.keep (HB8.out.mono (Nat.le_of_eq HSZ1.out)))
          have HBW := Lib.hid (HB1.out.trans (HB8.out.mono (by have := HB1.out.size; have := HSZ1.out; omega)))
          clear K e0 e1 x0 x1 HB8
          refine Lib.hid ?_
          refine app_txt rfl (.tmp 30) (.tmp 37) 31 rfl Tryd.underlying31 W8 W0.heap.size u3 _ (globS ⟨fn, ft⟩) rfl HK8.out rfl (by have := HLN.out; omega) HBW.out.size ?_
          intro v9 W9 hO9 hS9 hz9 how9
          have HO9 := Lib.hid (show OT W9 W0.heap.size v9 (LS ++ (E.p.globals.take (k + 1)).map globS) by rw [HUP.out, ← List.append_assoc]; exact hO9)
          have HB9 := Lib.hid (HBW.out.trans (hS9.below (B := W0.heap.size) (fun i hi => (HK8.out.lo hi).1) HBW.out.size))
          clear hO9 hS9 hz9 how9
          go_wp2_with fail
          go_roundw
          case rel => exact ⟨k + 1, hlt, by go_num, HO9, HB9⟩
          case measure => simp [intOf]; omega
        · obtain rfl : k = E.p.globals.length := by omega
          have d2 := keepB c2 HBR.out
          have HKS : Hid (OT wr W0.heap.size u3 (LS ++ E.p.globals.map globS)) := by have h : OT wr W0.heap.size u3 (LS ++ (E.p.globals.take E.p.globals.length).map globS) := HK.out; rwa [List.take_of_length_le (Nat.le_refl _)] at h
          obtain ⟨LG, hLG⟩ : ∃ L, LS ++ E.p.globals.map globS = L := ⟨_, rfl⟩
          have hLGl : LG.length ≤ 4096 := by rw [← hLG, List.length_append, List.length_map]; omega
          rw [hLG] at HKS
          have HLG := Lib.hid hLG
          clear hLG HK
          go_wp2_with fail
          go_loopw [3, 43] (fun v i wr => WdRel W0 W0.heap.size (fun k => LG ++ funsTo E.p k) E.p.funs.length v i wr) (fun _ i _ => E.p.funs.length - (intOf i).toNat)
          case atStart => exact ⟨0, Nat.zero_le _, rfl, by show OT _ _ _ (LG ++ []); rw [List.append_nil]; exact HKS.out, HBR⟩
          case round =>
            obtain ⟨k, hk, rfl, HK, HBR⟩ := hrel
            by_cases hlt : k < E.p.funs.length
            · obtain ⟨g, o, x, cs, hA, hx, hcr, hcs⟩ := two_at HM.out.F hlt
              obtain ⟨X, rfl, rfl, hXM⟩ := fe_of hcr
              have x0 := keepB (hcs 0 _ rfl) HBR.out
              have x1 := keepB (hcs 1 _ rfl) HBR.out
              have x2 := keepB (hcs 2 _ rfl) HBR.out
              have x3 := keepB (hcs 3 _ rfl) HBR.out
              have x4 := keepB (hcs 4 _ rfl) HBR.out
              have x5 := keepB (hcs 5 _ rfl) HBR.out
              simp only [Nat.add_zero] at x0
              rw [hA]
              have HUP := Lib.hid (funs_up hx)
              have HBX := Lib.hid (HD.out.f _ (List.mem_of_getElem? hx))
              have hbr := below_alloc wr (.cells #[.string X.f.name, .slice X.pA X.f.params.length X.pc, .string X.f.res, .slice X.sA X.f.slots.length X.sc, .slice X.iA X.f.ins.length X.ic, .slice X.bA X.f.blocks.length X.bc] 40)
              have e0 : (wr.alloc (.cells #[.string X.f.name, .slice X.pA X.f.params.length X.pc, .string X.f.res, .slice X.sA X.f.slots.length X.sc, .slice X.iA X.f.ins.length X.ic, .slice X.bA X.f.blocks.length X.bc] 40)).cell? ⟨wr.heap.size, 0, none⟩ = some (.string X.f.name) := cell_new wr _ 40 0
              have e1 : (wr.alloc (.cells #[.string X.f.name, .slice X.pA X.f.params.length X.pc, .string X.f.res, .slice X.sA X.f.slots.length X.sc, .slice X.iA X.f.ins.length X.ic, .slice X.bA X.f.blocks.length X.bc] 40)).cell? ⟨wr.heap.size, 1, none⟩ = some (.slice X.pA X.f.params.length X.pc) := cell_new wr _ 40 1
              have e2 : (wr.alloc (.cells #[.string X.f.name, .slice X.pA X.f.params.length X.pc, .string X.f.res, .slice X.sA X.f.slots.length X.sc, .slice X.iA X.f.ins.length X.ic, .slice X.bA X.f.blocks.length X.bc] 40)).cell? ⟨wr.heap.size, 2, none⟩ = some (.string X.f.res) := cell_new wr _ 40 2
              have e3 : (wr.alloc (.cells #[.string X.f.name, .slice X.pA X.f.params.length X.pc, .string X.f.res, .slice X.sA X.f.slots.length X.sc, .slice X.iA X.f.ins.length X.ic, .slice X.bA X.f.blocks.length X.bc] 40)).cell? ⟨wr.heap.size, 3, none⟩ = some (.slice X.sA X.f.slots.length X.sc) := cell_new wr _ 40 3
              have e4 : (wr.alloc (.cells #[.string X.f.name, .slice X.pA X.f.params.length X.pc, .string X.f.res, .slice X.sA X.f.slots.length X.sc, .slice X.iA X.f.ins.length X.ic, .slice X.bA X.f.blocks.length X.bc] 40)).cell? ⟨wr.heap.size, 4, none⟩ = some (.slice X.iA X.f.ins.length X.ic) := cell_new wr _ 40 4
              have e5 : (wr.alloc (.cells #[.string X.f.name, .slice X.pA X.f.params.length X.pc, .string X.f.res, .slice X.sA X.f.slots.length X.sc, .slice X.iA X.f.ins.length X.ic, .slice X.bA X.f.blocks.length X.bc] 40)).cell? ⟨wr.heap.size, 5, none⟩ = some (.slice X.bA X.f.blocks.length X.bc) := cell_new wr _ 40 5
              have HK1 := Lib.hid (HK.out.keep hbr)
              have HB1 := Lib.hid (HBR.out.trans (hbr.mono HBR.out.size))
              have HXM := Lib.hid hXM
              have HLN : Hid ((LG ++ funsTo E.p k).length ≤ 68719476736) := by
                show _ ≤ _
                have q1 := funs_len HD.out k hk
                have q2 : k * 4200000 ≤ 2048 * 4200000 := Nat.mul_le_mul_right _ (by omega)
                rw [List.length_append]; omega
              clear hcs hx hcr hXM hA hbr
              go_wp2_with fail
              refine (addFun_any X W0 _ u3 _ HXM.out HG.out HBX.out HB1.out HK1.out HLN.out).mono ?_
              rintro e W8 ⟨v8, rfl, hq⟩
              have HO9 := Lib.hid (show OT W8 W0.heap.size v8 (LG ++ funsTo E.p (k + 1)) by rw [HUP.out, ← List.append_assoc]; exact hq.ot)
              have HB9 := Lib.hid (HB1.out.trans (hq.below HK1.out HB1.out.size))
              clear hq e0 e1 e2 e3 e4 e5 x0 x1 x2 x3 x4 x5
              go_wp2_with fail
              go_roundw
              case rel => exact ⟨k + 1, hlt, by go_num, HO9, HB9⟩
              case measure => simp [intOf]; omega
            · obtain rfl : k = E.p.funs.length := by omega
              have HFIN : Hid (OT wr W0.heap.size u3 (linesL E.p)) := by
                have h : OT wr W0.heap.size u3 (LG ++ funsTo E.p E.p.funs.length) := HK.out
                have e : linesL E.p = LG ++ funsTo E.p E.p.funs.length := by unfold linesL; rw [← HLG.out, ← HLS.out]
                show OT _ _ _ _
                rw [e]; exact h
              have HBF := Lib.hid (HB0.out.trans (HBR.out.mono HB0.out.size))
              go_wp2_with fail
              go_ret
              exact ⟨_, rfl, HFIN.out.base (Nat.le_trans (Nat.le_succ _) (Nat.le_of_eq HWZ.out.symm)), HBF.out⟩

end Go.Proofs.YtcbjcpmkebbfaaaDoor
