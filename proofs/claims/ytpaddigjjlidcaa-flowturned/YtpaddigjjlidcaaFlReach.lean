/-
  CONTRACT: the reference's Reached: of each block whether it is reached, in new memory. Of what was there nothing has turned.
-/
import Derived.Test.YtpaddigjjlidcaaFlRch
namespace Go.Proofs.Ytpaddigjjlidcaa
open Go.RowKit

def ReachedQ (N : Nat → List Nat) (m : Nat) (w : World) (e : Ending) (w' : World) : Prop :=
  ∃ fl g, Flags N m fl ∧ e = .returned (.slice (some ⟨g, 0, none⟩) m m) ∧ Fl w' g m fl ∧ Below w.heap.size w w' ∧ w.heap.size ≤ g
def RdRel (w : World) (N : Nat → List Nat) (g m : Nat) (kv : Value) (wr : World) : Prop :=
  ∃ (rd : Nat) (fl : List Bool), rd ≤ m ∧ kv = .int .i64 rd ∧ Hid (Fl wr g m fl) ∧ Hid (SoundP N fl) ∧ Hid (fl[0]? = some true) ∧ Hid (FarP N fl rd) ∧ Below g w wr
def SwRel (w : World) (N : Nat → List Nat) (g m : Nat) (fl0 : List Bool) (iv : Value) (wr : World) : Prop :=
  ∃ (i : Nat) (fl : List Bool), i ≤ m ∧ iv = .int .i64 i ∧ Hid (Fl wr g m fl) ∧ Hid (Swp N fl0 fl) ∧ Hid (DoneS N fl0 i fl) ∧ Below g w wr
def FkRel (w : World) (N : Nat → List Nat) (g m : Nat) (fl0 : List Bool) (i base : Nat) (v : Value) (l : List Int) (lm : Nat) (kv : Value) (wr : World) : Prop :=
  ∃ (k : Nat) (fl : List Bool), k ≤ lm ∧ kv = .int .i64 k ∧ Hid (Fl wr g m fl) ∧ Hid (Swp N fl0 fl) ∧ Hid (DoneS N fl0 i fl) ∧ Hid (DoneF (l.map Int.toNat) k fl) ∧ Below g w wr ∧ Hid (OI wr base v l)

theorem i64_of {k il : Nat} (h : k < il) (hl : il ≤ 140737488351232) : I64 k := ⟨by omega, by omega⟩
set_option maxRecDepth 100000 in
set_option maxHeartbeats 1000000 in
theorem refReached_any (E : FE) (m : Nat) (w : World) (hM : FM E w) (hm : Hid (E.f.blocks.length = m)) :
    Calls Try.prog 11 #[E.v] w (ReachedQ (gr E.f.blocks) m w) := by
  obtain ⟨i4, hi4, hy0, hy1, hy2⟩ := info_parts bool_info
  have HI4 := Lib.hid hi4
  have HY0 := Lib.hid hy0
  have HY1 := Lib.hid hy1
  have hmb : m ≤ 140737488351232 := by rw [← hm.out]; exact hM.bl
  have HB2 : Hid (i4.bytes * m ≤ 281474976710656) := by show _ ≤ _; rw [hy2]; omega
  have HB3 : Hid (m ≤ maxLen) := by show _ ≤ _; simp only [maxLen]; omega
  have HB := Lib.hid (below_alloc w (.cells E.row 26))
  have HM := Lib.hid (hM.below HB.out (Nat.le_refl _))
  have c0 : (w.alloc (.cells E.row 26)).cell? ⟨w.heap.size, 0, none⟩ = some (.string E.f.name) := cell_new w E.row 26 0
  have c1 : (w.alloc (.cells E.row 26)).cell? ⟨w.heap.size, 1, none⟩ = some (.slice E.pA E.f.params.length E.pc) := cell_new w E.row 26 1
  have c2 : (w.alloc (.cells E.row 26)).cell? ⟨w.heap.size, 2, none⟩ = some (.string E.f.res) := cell_new w E.row 26 2
  have c3 : (w.alloc (.cells E.row 26)).cell? ⟨w.heap.size, 3, none⟩ = some (.slice E.sA E.f.slots.length E.sc) := cell_new w E.row 26 3
  have c4 : (w.alloc (.cells E.row 26)).cell? ⟨w.heap.size, 4, none⟩ = some (.slice E.iA E.f.ins.length E.ic) := cell_new w E.row 26 4
  have c5 : (w.alloc (.cells E.row 26)).cell? ⟨w.heap.size, 5, none⟩ = some (.slice E.bA E.f.blocks.length E.bc) := cell_new w E.row 26 5
  have c5m := c5
  rw [hm.out] at c5m
  have C : Hid (_ ∧ _ ∧ _ ∧ _ ∧ _ ∧ _) := ⟨c0, c1, c2, c3, c4, c5⟩
  clear hM hi4 hy0 hy1 hy2 c0 c1 c2 c3 c4 c5
  have hsz : (w.alloc (.cells E.row 26)).heap.size = w.heap.size + 1 := by simp
  unfold FE.v
  go_enter Try.func11, Try.ntmps11
  go_wp2_with (refine wpList_make_full _ rfl (.tmp 10) (.tmp 10) 31 rfl (w.heap.size + 1) 4 i4 _ 1 Try.underlying31 HI4.out HY0.out HY1.out .i64 .i64 m m m rfl rfl rfl rfl HB2.out HB3.out (Nat.le_of_eq hsz.symm) ?_; intro w1 hown1 hg1; refine Hid.out ?_)
  have F1 : Hid (Fl w1 (w.heap.size + 1) m (List.replicate m false)) := by
    refine ⟨List.length_replicate, ?_⟩
    have := hown1
    rw [hsz] at this
    rw [Nat.mul_one, show (Value.bool false).cells = #[.bool false] from rfl, toList_madeCells_one] at this
    unfold boolsOf
    rw [List.map_replicate]; exact this
  have B1 := Lib.hid ((Below.refl (w.heap.size + 1) (w.alloc (.cells E.row 26))).grown hg1 (Nat.le_of_eq hsz.symm) (fun k hk => by cases hk))
  clear hown1 hg1 HB2 HB3 HI4 HY0 HY1
  obtain ⟨g, hg⟩ : ∃ g, w.heap.size + 1 = g := ⟨_, rfl⟩
  rw [hg] at F1 B1 hsz ⊢
  have hgw : w.heap.size < g := by omega
  generalize w.alloc (.cells E.row 26) = w0 at *
  have B2 := Lib.hid (HB.out.trans (B1.out.mono (Nat.le_of_lt hgw)))
  refine Lib.hid ?_
  by_cases hz : m = 0
  · have hF0 : Flags (gr E.f.blocks) m (List.replicate m false) := by rw [hz]; exact flags_nil
    have hF := Lib.hid hF0
    have hz' : (m : Int) = 0 := by omega
    clear hF0
    go_wp2_with fail
    go_ret
    exact ⟨_, g, hF.out, rfl, F1.out, B2.out, Nat.le_of_lt hgw⟩
  · have hz' : ((m : Int) == 0) = false := by simp; omega
    have hm0 : 0 < m := by omega
    have hrep : (List.replicate m false)[0]? = some false := by rw [List.getElem?_replicate, if_pos hm0]
    have hfc := F1.out.cell hrep
    have hfz := F1.out.2.frozenAt 0
    have F3 := Lib.hid (F1.out.set 0)
    have B3 := Lib.hid (B1.out.setCell (p := ⟨g, 0, none⟩) (Nat.le_refl g) (.bool true))
    have S3 : Hid (SoundP (gr E.f.blocks) ((List.replicate m false).set 0 true)) := fun i hi => by
      rcases of_set hi with rfl | h
      · exact .base
      · rw [List.getElem?_replicate] at h
        split at h
        · simp at h
        · cases h
    have J3 : Hid (((List.replicate m false).set 0 true)[0]? = some true) := set_at (by rw [List.length_replicate]; exact hm0)
    have X3 : Hid (FarP (gr E.f.blocks) ((List.replicate m false).set 0 true) 0) := .inr (List.count_pos_iff.2 (List.mem_of_getElem? J3.out))
    clear hrep
    go_wp2_with fail
    clear hfc hfz B2 hz hm0
    go_loopw [4] (fun kv wr => RdRel w0 (gr E.f.blocks) g m kv wr) (fun kv _ => m - (intOf kv).toNat)
    case atStart => exact ⟨0, _, Nat.zero_le _, rfl, F3, S3, J3, X3, B3.out⟩
    case round =>
      obtain ⟨rd, fl0, hrd, rfl, RF, RS, RJ, RX, hbr⟩ := hrel
      by_cases hltr : rd < m
      · have HBR := Lib.hid hbr
        have SW := Lib.hid (Swp.refl RS.out)
        have DS : Hid (DoneS (gr E.f.blocks) fl0 0 fl0) := fun q _ h => absurd h (Nat.not_lt_zero _)
        clear hbr
        go_wp2_with fail
        go_loopw [5] (fun iv wr => SwRel w0 (gr E.f.blocks) g m fl0 iv wr) (fun iv _ => m - (intOf iv).toNat)
        case atStart => exact ⟨0, fl0, Nat.zero_le _, rfl, RF, SW, DS, HBR.out⟩
        case round =>
          obtain ⟨i, fl1, hi, rfl, IF, IS, ID, hbi⟩ := hrel
          by_cases hlti : i < m
          · have HBI := Lib.hid hbi
            have hgw1 : g ≤ wr.heap.size := by have := IF.out.lt; omega
            obtain ⟨c0, c1, c2, c3, c4, c5⟩ := C.out
            have k0 := (hbi.cell (p := ⟨w.heap.size, 0, none⟩) hgw).trans c0
            have k1 := (hbi.cell (p := ⟨w.heap.size, 1, none⟩) hgw).trans c1
            have k2 := (hbi.cell (p := ⟨w.heap.size, 2, none⟩) hgw).trans c2
            have k3 := (hbi.cell (p := ⟨w.heap.size, 3, none⟩) hgw).trans c3
            have k4 := (hbi.cell (p := ⟨w.heap.size, 4, none⟩) hgw).trans c4
            have k5 := (hbi.cell (p := ⟨w.heap.size, 5, none⟩) hgw).trans c5
            have hMr := HM.out.below hbi (Nat.le_of_eq hsz)
            have HMR := Lib.hid hMr
            clear hMr c0 c1 c2 c3 c4 c5 hbi
            go_wp2_with fail
            refine (refNext_any E i wr HMR.out (i64_of hlti hmb)).mono ?_
            rintro e w6 ⟨v, rfl, hO, hb6⟩
            clear k0 k1 k2 k3 k4 k5
            have F6 := Lib.hid (IF.out.below hb6)
            have B6 := Lib.hid (HBI.out.trans (hb6.mono hgw1))
            have HO := Lib.hid hO
            obtain ⟨l, hl⟩ : ∃ l, nextL E.f.blocks i = l := ⟨_, rfl⟩
            have HL := Lib.hid hl
            have hli : ∀ x ∈ l, I64 x := by rw [← hl]; exact next_i64 (by rw [hm.out]; exact hmb)
            have HLI := Lib.hid hli
            obtain ⟨lm, hlm⟩ : ∃ n, l.length = n := ⟨_, rfl⟩
            have HLM := Lib.hid hlm
            have hl2 : lm ≤ 2 := by rw [← hlm, ← hl]; exact next_two _ _
            obtain ⟨A, c, rfl, hlc, -⟩ := hO.sl (by rw [hl]; exact hli)
            obtain ⟨base, hbase⟩ : ∃ b, wr.heap.size = b := ⟨_, rfl⟩
            have hgb : g < base := by have := IF.out.lt; omega
            rw [hbase] at HO
            rw [hl] at HO hlc ⊢
            rw [hlm] at HO hlc ⊢
            have D6 : Hid (DoneF (l.map Int.toNat) 0 fl1) := fun q j h => absurd h (Nat.not_lt_zero _)
            clear hO hb6 hl hli hlm hbase hgw1
            go_wp2_with fail
            go_loopw [7] (fun kv wr => FkRel w0 (gr E.f.blocks) g m fl0 i base (.slice A lm c) l lm kv wr) (fun kv _ => lm - (intOf kv).toNat)
            case atStart => exact ⟨0, fl1, Nat.zero_le _, rfl, F6, IS, ID, D6, B6.out, HO⟩
            case round =>
              obtain ⟨k, fl, hk, rfl, KF, KS, KD, KE, hbk, KO⟩ := hrel
              obtain ⟨b, hfb⟩ : ∃ b, fl[i]? = some b := ⟨_, List.getElem?_eq_getElem (by rw [KF.out.1]; exact hlti)⟩
              have f0 := KF.out.cell hfb
              have HFB := Lib.hid hfb
              have HBK := Lib.hid hbk
              clear hfb hbk
              cases b with
              | false =>
                have DN : Hid (DoneS (gr E.f.blocks) fl0 (i + 1) fl) := KD.out.next (fun h => by have := KS.out.mono i h; rw [HFB.out] at this; cases this)
                go_wp2_with fail
                go_roundw
                case rel => exact ⟨i + 1, fl, by omega, by go_num, KF, KS, DN, HBK.out⟩
                case measure => simp [intOf] <;> omega
              | true =>
                by_cases hltk : k < lm
                · obtain ⟨A2, c2, hv2, -, hsl⟩ := KO.out.sl HLI.out
                  obtain ⟨lb, lo, hA, hlb, hlc2⟩ := hsl (by have := HLM.out; omega)
                  obtain ⟨x, hx⟩ : ∃ x, l[k]? = some x := ⟨_, List.getElem?_eq_getElem (by have := HLM.out; omega)⟩
                  obtain ⟨cs, ⟨rfl, -⟩, h0⟩ := hlc2 k x hx
                  have y0 := h0 0 _ rfl
                  simp only [Nat.mul_one, Nat.add_zero] at y0
                  have hvA : A = some ⟨lb, lo, none⟩ := by injection hv2 with e1 e2 e3; rw [e1, hA]
                  have hxin : 0 ≤ x ∧ x < m := by have h := next_in (l := E.f.blocks) (i := i) (x := x) (by rw [HL.out]; exact List.mem_of_getElem? hx); rwa [hm.out] at h
                  obtain ⟨j, rfl⟩ : ∃ j : Nat, x = j := ⟨x.toNat, by omega⟩
                  have hjm : j < m := by omega
                  obtain ⟨b2, hfj⟩ : ∃ b, fl[j]? = some b := ⟨_, List.getElem?_eq_getElem (by rw [KF.out.1]; exact hjm)⟩
                  have g0 := KF.out.cell hfj
                  have gz := KF.out.2.frozenAt j
                  have F7 := Lib.hid (KF.out.set j)
                  have B7 := Lib.hid (HBK.out.setCell (p := ⟨g, j, none⟩) (Nat.le_refl g) (.bool true))
                  have hjg : j ∈ gr E.f.blocks i := List.mem_map.2 ⟨(j : Int), by rw [HL.out]; exact List.mem_of_getElem? hx, by simp⟩
                  have S7 := Lib.hid (KS.out.set HFB.out hjg)
                  have D7 := Lib.hid (KD.out.set j)
                  have E7 := Lib.hid (KE.out.next (k := k) (j := j) (by rw [List.getElem?_map, hx]; rfl) (by rw [KF.out.1]; exact hjm))
                  have O7 : Hid (OI (wr.setCell ⟨g, j, none⟩ (.bool true)) base (.slice A lm c) l) := KO.out.sv ((Sv.refl (fun q => q = g) wr).setCell (p := ⟨g, j, none⟩) (.inl rfl) (.bool true)) (fun q hq => by have := (KO.out.lo hq).1; omega)
                  have hltk' : (k : Int) < lm := by omega
                  subst hvA
                  clear hv2 hsl hlc2 hx h0 hA hfj hjg hxin
                  go_wp2_with fail
                  go_roundw
                  case rel => exact ⟨k + 1, fl.set j true, by omega, by go_num, F7, S7, D7, E7, B7.out, O7⟩
                  case measure => simp [intOf] <;> omega
                · have hk' : k = lm := by omega
                  have DN : Hid (DoneS (gr E.f.blocks) fl0 (i + 1) fl) := KD.out.next (fun _ => by
                    have := KE.out
                    rw [hk', ← HLM.out] at this
                    unfold gr
                    rw [HL.out, List.length_map]; exact this)
                  have hltk' : ¬ (k : Int) < lm := by omega
                  go_wp2_with fail
                  go_roundw
                  case rel => exact ⟨i + 1, fl, by omega, by go_num, KF, KS, DN, HBK.out⟩
                  case measure => simp [intOf] <;> omega
          · have him : i = m := by omega
            have X5 : Hid (FarP (gr E.f.blocks) fl1 (rd + 1)) := far_next RF.out.1 (fun a b h => by have := gr_lt h; rwa [hm.out] at this) RX.out IS.out (by rw [← him]; exact ID.out)
            have J5 : Hid (fl1[0]? = some true) := IS.out.mono 0 RJ.out
            have S5 := Lib.hid IS.out.sound
            have HBI := Lib.hid hbi
            clear hbi
            go_wp2_with fail
            go_roundw
            case rel => exact ⟨rd + 1, fl1, by omega, by go_num, IF, S5, J5, X5, HBI.out⟩
            case measure => simp [intOf] <;> omega
      · have hrm : rd = m := by omega
        have hFl : Flags (gr E.f.blocks) m fl0 := far_done RF.out.1 (by rw [← hrm]; exact RX.out) RS.out RJ.out
        have HFl := Lib.hid hFl
        have HBR := Lib.hid (HB.out.trans (hbr.mono (Nat.le_of_lt hgw)))
        clear hFl hbr
        go_wp2_with fail
        go_ret
        exact ⟨fl0, g, HFl.out, rfl, RF.out, HBR.out, Nat.le_of_lt hgw⟩

end Go.Proofs.Ytpaddigjjlidcaa
