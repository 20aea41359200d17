/-
  CONTRACT: the reference's Reach at rows of at most 16 structs of at most 12 fields: flags, in new memory. Of what was there nothing has turned.
-/
import Derived.Test.YtpjfooghiclccaaDoorReach
import Derived.Test.YtpjfooghiclccaaDoorSweep
namespace Go.Proofs.YtpjfooghiclccaaDoor
open Go.RowKit

theorem rE_no (t : ByteArray) (w : World) (h : Hid (elemO t = none)) : Calls Tryd.prog 14 #[.string t] w fun e w' => e = .returned (.string ⟨#[]⟩) ∧ Below w.heap.size w w' := refElem_any t none w h
theorem rE_yes (t n : ByteArray) (w : World) (h : Hid (elemO t = some n)) : Calls Tryd.prog 14 #[.string t] w fun e w' => e = .returned (.string n) ∧ Below w.heap.size w w' := refElem_any t (some n) w h
theorem rF_no (A : Option Addr) (c m : Nat) (ss : List Str) (n : ByteArray) (w : World) (hR : Hid (SR w A ss)) (hm : Hid (ss.length = m)) (hl : m ≤ 16) (hr : Hid (fnd ss n = none)) : Calls Tryd.prog 13 #[.slice A m c, .string n] w fun e w' => e = .returned (.int .i64 (-1)) ∧ w = w' :=
  refFind_any A c m ss n none w hR.out hm (by omega) hr
theorem rF_yes (A : Option Addr) (c m : Nat) (ss : List Str) (n : ByteArray) (j : Nat) (w : World) (hR : Hid (SR w A ss)) (hm : Hid (ss.length = m)) (hl : m ≤ 16) (hr : Hid (fnd ss n = some j)) : Calls Tryd.prog 13 #[.slice A m c, .string n] w fun e w' => e = .returned (.int .i64 j) ∧ w = w' :=
  refFind_any A c m ss n (some j) w hR.out hm (by omega) hr
theorem el_pos {t n : ByteArray} (h : elemO t = some n) : 0 < n.size := by
  have hw := (elem_some h).2.2.1
  rcases Nat.eq_zero_or_pos n.size with h0 | h0
  · rw [word_nil (by rw [len_size]; exact h0)] at hw; cases hw
  · exact h0

def RefReachQ (ss : List Str) (t : ByteArray) (m : Nat) (w : World) (e : Ending) (w' : World) : Prop :=
  ∃ fl g, Flags ss t fl ∧ e = .returned (.slice (some ⟨g, 0, none⟩) m m) ∧ Fl w' g m fl ∧ Below w.heap.size w w'
def RdRel (w : World) (ss : List Str) (t : ByteArray) (g m j0 : Nat) (kv : Value) (wr : World) : Prop :=
  ∃ (rd : Nat) (fl : List Bool), rd ≤ m ∧ kv = .int .i64 rd ∧ Hid (Fl wr g m fl) ∧ Hid (SoundP ss t fl) ∧ Hid (fl[j0]? = some true) ∧ Hid (FarP ss fl rd) ∧ Below g w wr
def SwRel (w : World) (ss : List Str) (t : ByteArray) (g m : Nat) (fl0 : List Bool) (iv : Value) (wr : World) : Prop :=
  ∃ (i : Nat) (fl : List Bool), i ≤ m ∧ iv = .int .i64 i ∧ Hid (Fl wr g m fl) ∧ Hid (Swp ss t fl0 fl) ∧ Hid (DoneS ss fl0 i fl) ∧ Below g w wr
def FkRel (w : World) (ss : List Str) (t : ByteArray) (g m : Nat) (fl0 : List Bool) (i : Nat) (fs : List Fld) (fm : Nat) (kv : Value) (wr : World) : Prop :=
  ∃ (k : Nat) (fl : List Bool), k ≤ fm ∧ kv = .int .i64 k ∧ Hid (Fl wr g m fl) ∧ Hid (Swp ss t fl0 fl) ∧ Hid (DoneS ss fl0 i fl) ∧ Hid (DoneF ss fs k fl) ∧ Below g w wr

set_option maxHeartbeats 800000 in
theorem refReach_any (A : Option Addr) (c m : Nat) (ss : List Str) (t : ByteArray) (w : World) (hR : SR w A ss) (hm : Hid (ss.length = m)) (hl : m ≤ 16) (hfl : Hid (∀ s ∈ ss, s.fields.length ≤ 12)) :
    Calls Tryd.prog 19 #[.slice A m c, .string t] w (RefReachQ ss t m w) := by
  obtain ⟨i4, hi4, hy0, hy1, hy2⟩ := info_parts bool_info
  have HI4 := Lib.hid hi4
  have HY0 := Lib.hid hy0
  have HY1 := Lib.hid hy1
  have HR := Lib.hid hR
  have HB2 : Hid (i4.bytes * m ≤ 281474976710656) := by show _ ≤ _; rw [hy2]; omega
  have HB3 : Hid (m ≤ maxLen) := by show _ ≤ _; simp only [maxLen]; omega
  clear hR hi4 hy0 hy1 hy2
  go_enter Tryd.func19, Tryd.ntmps19
  go_wp2_with (refine wpList_make_full _ rfl (.tmp 12) (.tmp 12) 39 rfl w.heap.size 4 i4 _ 1 Tryd.underlying39 HI4.out HY0.out HY1.out .i64 .i64 m m m rfl rfl rfl rfl HB2.out HB3.out (Nat.le_refl _) ?_; intro w1 hown1 hg1; refine Hid.out ?_)
  have F1 : Hid (Fl w1 w.heap.size m (List.replicate m false)) := by
    refine ⟨List.length_replicate, ?_⟩
    have := hown1
    rw [Nat.mul_one, show (Value.bool false).cells = #[.bool false] from rfl, toList_madeCells_one] at this
    unfold boolsOf
    rw [List.map_replicate]; exact this
  have B1 := Lib.hid ((Below.refl w.heap.size w).grown hg1 (Nat.le_refl _) (fun k hk => by cases hk))
  clear hown1 hg1 HB2 HB3 HI4 HY0 HY1
  obtain ⟨g, hg⟩ : ∃ g, w.heap.size = g := ⟨_, rfl⟩
  rw [hg] at F1 B1 ⊢
  have HG := Lib.hid hg
  clear hg
  refine Lib.hid ?_
  cases hel : elemO t with
  | none =>
    have HEL := Lib.hid hel
    have HFL : Hid (Flags ss t (List.replicate m false)) := by rw [← hm.out]; exact none_flags (by unfold tgt; rw [hel]; rfl)
    clear hel
    go_wp2_with fail
    refine (rE_no _ _ HEL).mono ?_
    rintro e w2 ⟨rfl, b2⟩
    have F2 := Lib.hid (F1.out.below b2)
    have B2 : Hid (Below w.heap.size w w2) := by rw [HG.out]; exact B1.out.trans (b2.mono (by have := F1.out.lt; omega))
    clear b2 F1 B1
    go_wp2_with fail
    go_ret
    exact ⟨_, g, HFL.out, rfl, F2.out, B2.out⟩
  | some n =>
    have HEL := Lib.hid hel
    have hpos := el_pos hel
    have hx1 := size_pos_isEmpty hpos
    cases hfn : fnd ss n with
    | none =>
      have HFN := Lib.hid hfn
      have HFL : Hid (Flags ss t (List.replicate m false)) := by rw [← hm.out]; exact none_flags (by unfold tgt; rw [hel]; exact hfn)
      clear hel hfn
      go_wp2_with fail
      refine (rE_yes _ n _ HEL).mono ?_
      rintro e w2 ⟨rfl, b2⟩
      have F2 := Lib.hid (F1.out.below b2)
      have B2 : Hid (Below w.heap.size w w2) := by rw [HG.out]; exact B1.out.trans (b2.mono (by have := F1.out.lt; omega))
      have R2 := Lib.hid (HR.out.below B2.out (Nat.le_refl _))
      clear b2 F1 B1
      go_wp2_with fail
      refine (rF_no _ _ m ss _ _ R2 hm hl HFN).mono ?_
      rintro e w' ⟨rfl, rfl⟩
      go_wp2_with fail
      go_ret
      exact ⟨_, g, HFL.out, rfl, F2.out, B2.out⟩
    | some j0 =>
      have HFN := Lib.hid hfn
      have hjm : j0 < m := by have := fnd_lt hfn; have := hm.out; omega
      have HTG : Hid (tgt ss t = some j0) := by show _ = _; unfold tgt; rw [hel]; exact hfn
      clear hel hfn
      go_wp2_with fail
      refine (rE_yes _ n _ HEL).mono ?_
      rintro e w2 ⟨rfl, b2⟩
      have F2 := Lib.hid (F1.out.below b2)
      have B2 := Lib.hid (B1.out.trans (b2.mono (show g ≤ w1.heap.size by have := F1.out.lt; omega)))
      have R2 := Lib.hid (HR.out.below B2.out (Nat.le_of_eq HG.out))
      clear b2 F1 B1
      go_wp2_with fail
      refine (rF_yes _ _ m ss _ j0 _ R2 hm hl HFN).mono ?_
      rintro e w' ⟨rfl, rfl⟩
      go_wp2_with fail
      refine (rF_yes _ _ m ss _ j0 _ R2 hm hl HFN).mono ?_
      rintro e w' ⟨rfl, rfl⟩
      have hrep : (List.replicate m false)[j0]? = some false := by rw [List.getElem?_replicate, if_pos hjm]
      have hfc := F2.out.cell hrep
      have hfz := F2.out.2.frozenAt j0
      have F3 := Lib.hid (F2.out.set j0)
      have B3 := Lib.hid (B2.out.setCell (p := ⟨g, j0, none⟩) (Nat.le_refl g) (.bool true))
      have S3 : Hid (SoundP ss t ((List.replicate m false).set j0 true)) := fun i hi => by
        rcases of_set hi with rfl | h
        · exact .base HTG.out
        · rw [List.getElem?_replicate] at h
          split at h
          · simp at h
          · cases h
      have J3 : Hid (((List.replicate m false).set j0 true)[j0]? = some true) := set_at (by rw [List.length_replicate]; exact hjm)
      have X3 : Hid (FarP ss ((List.replicate m false).set j0 true) 0) := .inr (List.count_pos_iff.2 (List.mem_of_getElem? J3.out))
      clear hrep
      go_wp2_with fail
      clear hfc hfz F2 B2 R2
      go_loopw [7] (fun kv wr => RdRel w ss t g m j0 kv wr) (fun kv _ => m - (intOf kv).toNat)
      case atStart => exact ⟨0, _, Nat.zero_le _, rfl, F3, S3, J3, X3, B3.out⟩
      case round =>
        obtain ⟨rd, fl0, hrd, rfl, RF, RS, RJ, RX, hbr⟩ := hrel
        by_cases hltr : rd < m
        · have HBR := Lib.hid hbr
          have SW := Lib.hid (Swp.refl RS.out)
          have DS : Hid (DoneS ss fl0 0 fl0) := fun q _ _ _ h => absurd h (Nat.not_lt_zero _)
          clear hbr
          go_wp2_with fail
          go_loopw [8] (fun iv wr => SwRel w ss t g m fl0 iv wr) (fun iv _ => m - (intOf iv).toNat)
          case atStart => exact ⟨0, fl0, Nat.zero_le _, rfl, RF, SW, DS, HBR.out⟩
          case round =>
            obtain ⟨i, fl1, hi, rfl, IF, IS, ID, hbi⟩ := hrel
            by_cases hlti : i < m
            · obtain ⟨lb, lo, hA, hlb, hlc⟩ := HR.out (by have := hm.out; omega)
              obtain ⟨s, hs⟩ : ∃ s, ss[i]? = some s := ⟨_, List.getElem?_eq_getElem (by have := hm.out; omega)⟩
              obtain ⟨FA, fc, C0, C1, -, -, hF⟩ := hlc i s hs
              have hfm12 := hfl.out s (List.mem_of_getElem? hs)
              have HC1 := Lib.hid C1
              have HFR := Lib.hid hF
              have HS := Lib.hid hs
              have HBI := Lib.hid hbi
              clear hlc hs C0 C1 hF hbi
              obtain ⟨sn, fs⟩ := s
              simp only at HC1 HFR hfm12
              obtain ⟨fm, hfm⟩ : ∃ fm, fs.length = fm := ⟨_, rfl⟩
              rw [hfm] at HC1 hfm12
              have HFM := Lib.hid hfm
              have hlbg : lb < g := by have := HG.out; omega
              have DF : Hid (DoneF ss fs 0 fl1) := fun q _ _ h => absurd h (Nat.not_lt_zero _)
              subst hA
              clear hfm
              go_wp2_with fail
              go_loopw [9] (fun kv wr => FkRel w ss t g m fl0 i fs fm kv wr) (fun kv _ => fm - (intOf kv).toNat)
              case atStart => exact ⟨0, fl1, Nat.zero_le _, rfl, IF, IS, ID, DF, HBI.out⟩
              case round =>
                obtain ⟨k, fl, hk, rfl, KF, KS, KD, KE, hbk⟩ := hrel
                have c1 := (hbk.cell (p := ⟨lb, lo + i * 2 + 1, none⟩) hlbg).trans HC1.out
                obtain ⟨b, hfb⟩ : ∃ b, fl[i]? = some b := ⟨_, List.getElem?_eq_getElem (by rw [KF.out.1]; exact hlti)⟩
                have f0 := KF.out.cell hfb
                have HFB := Lib.hid hfb
                have HBK := Lib.hid hbk
                clear hfb hbk
                cases b with
                | false =>
                  have DN : Hid (DoneS ss fl0 (i + 1) fl) := KD.out.next HS.out (fun h => by have := KS.out.mono i h; rw [HFB.out] at this; cases this)
                  go_wp2_with fail
                  go_roundw
                  case rel => exact ⟨i + 1, fl, by omega, by go_num, KF, KS, DN, HBK.out⟩
                  case measure => simp [intOf] <;> omega
                | true =>
                  by_cases hltk : k < fm
                  · obtain ⟨fb, fo, hFA, hfbb, hfcell⟩ := (HFR.out.below HBK.out (Nat.le_of_eq HG.out)) (by have := HFM.out; omega)
                    obtain ⟨f, hf⟩ : ∃ f, fs[k]? = some f := ⟨_, List.getElem?_eq_getElem (by have := HFM.out; omega)⟩
                    obtain ⟨-, f1⟩ := hfcell k f hf
                    have HF := Lib.hid hf
                    have hgk : g ≤ wr.heap.size := by have := KF.out.lt; omega
                    rw [hFA] at c1
                    clear hf hfcell hFA
                    obtain ⟨fn, ft⟩ := f
                    simp only at f1
                    cases hel2 : elemO ft with
                    | none =>
                      have HEL2 := Lib.hid hel2
                      have DN : Hid (DoneF ss fs (k + 1) fl) := KE.out.next HF.out (fun jj h => by unfold tgt at h; simp only at h; rw [hel2] at h; cases h)
                      clear hel2
                      go_wp2_with fail
                      refine (rE_no _ _ HEL2).mono ?_
                      rintro e w6 ⟨rfl, b6⟩
                      have F6 := Lib.hid (KF.out.below b6)
                      have B6 := Lib.hid (HBK.out.trans (b6.mono hgk))
                      clear b6 c1 f0 f1
                      go_wp2_with fail
                      go_roundw
                      case rel => exact ⟨k + 1, fl, by omega, by go_num, F6, KS, KD, DN, B6.out⟩
                      case measure => simp [intOf] <;> omega
                    | some x =>
                      have HEL2 := Lib.hid hel2
                      have hpos2 := el_pos hel2
                      have hx2 := size_pos_isEmpty hpos2
                      cases hfn2 : fnd ss x with
                      | none =>
                        have HFN2 := Lib.hid hfn2
                        have DN : Hid (DoneF ss fs (k + 1) fl) := KE.out.next HF.out (fun jj h => by unfold tgt at h; simp only at h; rw [hel2] at h; rw [show (some x).bind (fnd ss) = fnd ss x from rfl, hfn2] at h; cases h)
                        clear hel2 hfn2
                        go_wp2_with fail
                        refine (rE_yes _ x _ HEL2).mono ?_
                        rintro e w6 ⟨rfl, b6⟩
                        have F6 := Lib.hid (KF.out.below b6)
                        have B6 := Lib.hid (HBK.out.trans (b6.mono hgk))
                        have R6 := Lib.hid (HR.out.below B6.out (Nat.le_of_eq HG.out))
                        clear b6 c1 f0 f1
                        go_wp2_with fail
                        refine (rF_no _ _ m ss _ _ R6 hm hl HFN2).mono ?_
                        rintro e w' ⟨rfl, rfl⟩
                        go_wp2_with fail
                        go_roundw
                        case rel => exact ⟨k + 1, fl, by omega, by go_num, F6, KS, KD, DN, B6.out⟩
                        case measure => simp [intOf] <;> omega
                      | some jj =>
                        have HFN2 := Lib.hid hfn2
                        have hjj : jj < m := by have := fnd_lt hfn2; have := hm.out; omega
                        have htg2 : tgt ss ft = some jj := by unfold tgt; rw [hel2]; exact hfn2
                        have DN : Hid (DoneF ss fs (k + 1) (fl.set jj true)) := (KE.out.set jj).next HF.out (fun j' h => by
                          simp only at h
                          rw [htg2] at h
                          obtain rfl := Option.some.inj h
                          exact set_at (by rw [KF.out.1]; exact hjj))
                        have KS2 := Lib.hid (KS.out.set HFB.out HS.out (List.mem_of_getElem? HF.out) htg2)
                        have KD2 := Lib.hid (KD.out.set jj)
                        obtain ⟨bj, hbj⟩ : ∃ b, fl[jj]? = some b := ⟨_, List.getElem?_eq_getElem (by rw [KF.out.1]; exact hjj)⟩
                        have HBJ := Lib.hid hbj
                        clear hel2 hfn2 htg2 hbj
                        go_wp2_with fail
                        refine (rE_yes _ x _ HEL2).mono ?_
                        rintro e w6 ⟨rfl, b6⟩
                        have F6 := Lib.hid (KF.out.below b6)
                        have B6 := Lib.hid (HBK.out.trans (b6.mono hgk))
                        have R6 := Lib.hid (HR.out.below B6.out (Nat.le_of_eq HG.out))
                        clear b6 c1 f0 f1
                        go_wp2_with fail
                        refine (rF_yes _ _ m ss _ jj _ R6 hm hl HFN2).mono ?_
                        rintro e w' ⟨rfl, rfl⟩
                        go_wp2_with fail
                        refine (rF_yes _ _ m ss _ jj _ R6 hm hl HFN2).mono ?_
                        rintro e w' ⟨rfl, rfl⟩
                        have fj := F6.out.cell HBJ.out
                        have fz := F6.out.2.frozenAt jj
                        have F7 := Lib.hid (F6.out.set jj)
                        have B7 := Lib.hid (B6.out.setCell (p := ⟨g, jj, none⟩) (Nat.le_refl g) (.bool true))
                        go_wp2_with fail
                        go_roundw
                        case rel => exact ⟨k + 1, fl.set jj true, by omega, by go_num, F7, KS2, KD2, DN, B7.out⟩
                        case measure => simp [intOf] <;> omega
                  · obtain rfl : k = fm := by omega
                    have DN : Hid (DoneS ss fl0 (i + 1) fl) := KD.out.next HS.out (fun _ => by have := KE.out; rw [← HFM.out] at this; exact this)
                    go_wp2_with fail
                    go_roundw
                    case rel => exact ⟨i + 1, fl, by omega, by go_num, KF, KS, DN, HBK.out⟩
                    case measure => simp [intOf] <;> omega
            · obtain rfl : i = m := by omega
              have FN : Hid (FarP ss fl1 (rd + 1)) := far_next (by rw [RF.out.1]; exact hm.out.symm) RX.out IS.out (by rw [hm.out]; exact ID.out)
              go_wp2_with fail
              go_roundw
              case rel => exact ⟨rd + 1, fl1, by omega, by go_num, IF, IS.out.sound, IS.out.mono j0 RJ.out, FN, hbi⟩
              case measure => simp [intOf] <;> omega
        · obtain rfl : rd = m := by omega
          have HFL : Hid (Flags ss t fl0) := far_done (by rw [RF.out.1]; exact hm.out.symm) (by rw [hm.out]; exact RX.out) RS.out HTG.out RJ.out
          have hB : Hid (Below w.heap.size w wr) := by rw [HG.out]; exact hbr
          go_wp2_with fail
          go_ret
          exact ⟨fl0, g, HFL.out, rfl, RF.out, hB.out⟩

end Go.Proofs.YtpjfooghiclccaaDoor
