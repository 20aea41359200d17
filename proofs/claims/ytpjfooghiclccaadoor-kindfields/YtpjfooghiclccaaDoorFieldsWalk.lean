/-
  KindFields: THE LAW's CONTRACT: it answers true for every two rows of structs and name, in a world in which the table of keys lies as the program's text lays it; of what was there nothing has turned.
-/
import Derived.Test.YtpjfooghiclccaaDoorReachWalk
import Derived.Test.YtpjfooghiclccaaDoorRefSame
import Derived.Test.YtpjfooghiclccaaDoorBound
namespace Go.Proofs.YtpjfooghiclccaaDoor
open Go.RowKit

theorem links_split (fs : List Fld) {k n : Nat} (h : k ≤ n) : ∃ r, links fs n = links fs k ++ r := by
  induction n with
  | zero => exact ⟨[], by rw [show k = 0 by omega, List.append_nil]⟩
  | succ n ih =>
    rcases Nat.eq_or_lt_of_le h with rfl | hl
    · exact ⟨[], by rw [List.append_nil]⟩
    · obtain ⟨r, hr⟩ := ih (by omega)
      cases hb : linkB fs n with
      | true => exact ⟨r ++ [n], by rw [links_succ_yes hb, hr, List.append_assoc]⟩
      | false => exact ⟨r, by rw [links_succ_no hb, hr]⟩
theorem links_at {fs : List Fld} {k n : Nat} (h : k < n) (hb : linkB fs k = true) : (links fs n)[(links fs k).length]? = some k := by
  obtain ⟨r, hr⟩ := links_split fs (k := k + 1) (n := n) h
  rw [hr, links_succ_yes hb, List.append_assoc, List.getElem?_append_right (Nat.le_refl _), Nat.sub_self]; rfl
theorem refElem_no (t : ByteArray) (w : World) (h : Hid (elemO t = none)) : Calls Tryd.prog 14 #[.string t] w fun e w' => e = .returned (.string ⟨#[]⟩) ∧ Below w.heap.size w w' := refElem_any t none w h
theorem refElem_yes (t n : ByteArray) (w : World) (h : Hid (elemO t = some n)) : Calls Tryd.prog 14 #[.string t] w fun e w' => e = .returned (.string n) ∧ Below w.heap.size w w' := refElem_any t (some n) w h
theorem word_pos {n : ByteArray} (h : wordB n.data.toList = true) : 0 < n.size := by
  rcases Nat.eq_zero_or_pos n.size with h0 | h0
  · rw [word_nil (by rw [len_size]; exact h0)] at h; cases h
  · exact h0
theorem elem_pos {t n : ByteArray} (h : elemO t = some n) : 0 < n.size := word_pos (elem_some h).2.2.1

def DRel (fs : List Fld) (n : ByteArray) (fm : Nat) (av kv : Value) : Prop := ∃ (j : Nat) (kk : Int) (r : Option Nat), j ≤ fm ∧ kv = .int .i64 kk ∧ Hid (kk = (j : Int) - 1) ∧ Hid (fst (fldIs fs n) fm j = r) ∧ av = foundI r
def ERel (w : World) (fs : List Fld) (fm : Nat) (nv kv : Value) (wr : World) : Prop := ∃ (k q : Nat), k ≤ fm ∧ q ≤ k ∧ kv = .int .i64 k ∧ nv = .int .i64 q ∧ Hid ((links fs k).length = q) ∧ Below w.heap.size w wr

set_option maxRecDepth 100000 in
set_option maxHeartbeats 1000000 in
theorem fields_walk (A : Option Addr) (c m : Nat) (ss : List Str) (A' : Option Addr) (c' m' : Nat) (ss' : List Str) (nm : ByteArray) (w : World) (G : KeysIn w) (hR : SR w A ss) (hR' : SR w A' ss') (hm : Hid (ss.length = m)) (hl : m ≤ 281474976710656) (hm' : Hid (ss'.length = m')) (hl' : m' ≤ 281474976710656) :
    Calls Tryd.prog 4 #[.slice A m c, .slice A' m' c', .string nm] w fun e w' => e = .returned (.bool true) ∧ Below w.heap.size w w' := by
  go_enter Tryd.func4, Tryd.ntmps4
  go_wp2_with fail
  refine (awake_true w G).mono ?_
  rintro e w1 ⟨rfl, b1⟩
  have HG := Lib.hid G
  have HR := Lib.hid hR
  have HR' := Lib.hid hR'
  have R1 := Lib.hid (hR.below b1 (Nat.le_refl _))
  have R1' := Lib.hid (hR'.below b1 (Nat.le_refl _))
  have B1 := Lib.hid b1
  clear G hR hR' b1
  obtain ⟨gb, hgb⟩ : ∃ gb, grB ss = gb := ⟨_, rfl⟩
  have HGB := Lib.hid hgb
  obtain ⟨gb', hgb'⟩ : ∃ gb, grB ss' = gb := ⟨_, rfl⟩
  have HGB' := Lib.hid hgb'
  clear hgb hgb'
  cases gb with
  | true =>
    go_wp2_with fail
    refine (great_any A c m ss true _ R1.out hm hl HGB).mono ?_
    rintro e w' ⟨rfl, rfl⟩
    go_wp2_with fail
    go_ret
    exact ⟨rfl, B1.out⟩
  | false =>
    obtain ⟨hg1, hg2⟩ := gr_bd HGB.out
    have hm16 : m ≤ 16 := by have := hm.out; omega
    have HFL := Lib.hid hg2
    clear hg1 hg2
    go_wp2_with fail
    refine (great_any A c m ss false _ R1.out hm hl HGB).mono ?_
    rintro e w' ⟨rfl, rfl⟩
    clear HGB
    cases gb' with
    | true =>
      go_wp2_with fail
      refine (great_any A' c' m' ss' true _ R1'.out hm' hl' HGB').mono ?_
      rintro e w' ⟨rfl, rfl⟩
      go_wp2_with fail
      go_ret
      exact ⟨rfl, B1.out⟩
    | false =>
      go_wp2_with fail
      refine (great_any A' c' m' ss' false _ R1'.out hm' hl' HGB').mono ?_
      rintro e w' ⟨rfl, rfl⟩
      clear HGB' R1 R1'
      by_cases h100 : 100 < nm.size
      · have h100' : (100 : Int) < (nm.size : Int) := by omega
        go_wp2_with fail
        go_ret
        exact ⟨rfl, B1.out⟩
      · have h100' : ¬ (100 : Int) < (nm.size : Int) := by omega
        go_wp2_with fail
        clear h100 h100'
        go_loopw [7] (fun i wr => KRel w m i wr) (fun i _ => m - (intOf i).toNat)
        case atStart => exact ⟨0, Nat.zero_le _, rfl, B1.out⟩
        case round =>
          obtain ⟨k, hk, rfl, hb⟩ := hrel
          by_cases hlt : k < m
          · obtain ⟨lb, lo, hA, hlb, hlc⟩ := HR.out (by have := hm.out; omega)
            obtain ⟨s, hs⟩ : ∃ s, ss[k]? = some s := ⟨_, List.getElem?_eq_getElem (by have := hm.out; omega)⟩
            obtain ⟨FA, fc, C0, C1, -, -, hF⟩ := hlc k s hs
            have hfm12 := HFL.out s (List.mem_of_getElem? hs)
            have HC0 := Lib.hid C0
            have HC1 := Lib.hid C1
            have HFR := Lib.hid hF
            clear hlc hs C0 C1 hF
            obtain ⟨sn, fs⟩ := s
            simp only at HC0 HC1 HFR hfm12
            obtain ⟨fm, hfm⟩ : ∃ fm, fs.length = fm := ⟨_, rfl⟩
            rw [hfm] at HC1 hfm12
            have HFM := Lib.hid hfm
            have c0 := (hb.cell (p := ⟨lb, lo + k * 2, none⟩) hlb).trans HC0.out
            have c1 := (hb.cell (p := ⟨lb, lo + k * 2 + 1, none⟩) hlb).trans HC1.out
            have G3 := Lib.hid (HG.out.below hb (Nat.le_refl _))
            have F3 := Lib.hid (HFR.out.below hb (Nat.le_refl _))
            have HB := Lib.hid hb
            subst hA
            clear hfm hb
            go_wp2_with fail
            refine (links_to _ _ _ fm fs _ G3 F3 HFM (by omega)).mono ?_
            rintro e w4 ⟨LA, lc, nl, hnl, hnlm, rfl, hlc4, hIR, b4⟩
            have D4 := Lib.hid (below_on HB.out b4)
            have HNL := Lib.hid hnl
            have I4 := Lib.hid hIR
            have F4 := Lib.hid (HFR.out.below D4.out (Nat.le_refl _))
            have e0 := (D4.out.cell (p := ⟨lb, lo + k * 2, none⟩) hlb).trans HC0.out
            have e1 := (D4.out.cell (p := ⟨lb, lo + k * 2 + 1, none⟩) hlb).trans HC1.out
            have HP : Hid (fst (fldIs fs nm) fm fm = none) := fst_end (Nat.le_refl _)
            clear HB c0 c1 G3 F3 hnl hIR b4
            go_wp2_with fail
            go_loop [8, 11] (fun av kv => DRel fs nm fm av kv) (fun _ kv => (intOf kv + 1).toNat)
            case atStart => exact ⟨fm, _, none, Nat.le_refl _, rfl, rfl, HP, rfl⟩
            case round =>
              obtain ⟨j, kk, r, hj, rfl, HKK, HJ, rfl⟩ := hrel
              rcases j with _ | j
              · obtain rfl : kk = -1 := by have := HKK.out; omega
                have HPL : Hid (plc fs nm = r) := by
                  show _ = _
                  unfold plc
                  rw [HFM.out]; exact HJ.out
                clear HJ HKK e0 e1
                go_wp2_with fail
                go_loopw [10, 12] (fun nv kv wr => ERel w4 fs fm nv kv wr) (fun _ kv _ => fm - (intOf kv).toNat)
                case atStart => exact ⟨0, 0, Nat.zero_le _, Nat.le_refl _, rfl, rfl, rfl, Below.refl _ _⟩
                case round =>
                  obtain ⟨k3, q, hk3, hq3, rfl, rfl, HQ, hb3⟩ := hrel
                  have D5 := Lib.hid (below_on D4.out hb3)
                  have e0 := (D5.out.cell (p := ⟨lb, lo + k * 2, none⟩) hlb).trans HC0.out
                  have e1 := (D5.out.cell (p := ⟨lb, lo + k * 2 + 1, none⟩) hlb).trans HC1.out
                  by_cases hlt3 : k3 < fm
                  · obtain ⟨fb, fo, hFA, hfb, hfcell⟩ := (HFR.out.below D5.out (Nat.le_refl _)) (by have := HFM.out; omega)
                    obtain ⟨f, hf⟩ : ∃ f, fs[k3]? = some f := ⟨_, List.getElem?_eq_getElem (by have := HFM.out; omega)⟩
                    obtain ⟨-, f1⟩ := hfcell k3 f hf
                    have hlk : linkB fs k3 = (elemO f.typ).isSome := by unfold linkB; rw [hf]
                    have HB3 := Lib.hid hb3
                    rw [hFA] at e1
                    clear hf hfcell hFA hb3
                    obtain ⟨fn, ft⟩ := f
                    simp only at f1 hlk
                    cases hel : elemO ft with
                    | none =>
                      have HEL := Lib.hid hel
                      have HN : Hid ((links fs (k3 + 1)).length = q) := by show _ = _; rw [links_succ_no (hlk.trans (by rw [hel]; rfl))]; exact HQ.out
                      clear hlk hel
                      go_wp2_with fail
                      refine (refElem_no _ _ HEL).mono ?_
                      rintro e w6 ⟨rfl, b6⟩
                      have B6 := Lib.hid (below_on HB3.out b6)
                      clear b6 HB3 e0 e1 f1
                      go_wp2_with fail
                      go_roundw
                      case rel => exact ⟨k3 + 1, q, by omega, by omega, by go_num, rfl, HN, B6.out⟩
                      case measure => simp [intOf] <;> omega
                    | some x =>
                      have HEL := Lib.hid hel
                      have hlt' := hlk.trans (show (elemO ft).isSome = true by rw [hel]; rfl)
                      have HN : Hid ((links fs (k3 + 1)).length = q + 1) := by show _ = _; rw [links_succ_yes hlt', List.length_append, HQ.out]; rfl
                      have hat := links_at hlt3 hlt'
                      rw [HQ.out] at hat
                      have hqn : q < nl := by have := (List.getElem?_eq_some_iff.1 hat).1; have := HNL.out; omega
                      have hpos := elem_pos hel
                      have hx1 := size_pos_isEmpty hpos
                      obtain ⟨gl, hLA, hgl, hlcell⟩ := I4.out (by have := HNL.out; omega)
                      have HL0 := Lib.hid (hlcell q k3 hat)
                      subst hLA
                      clear hlk hel hlt' hat hlcell hpos
                      go_wp2_with fail
                      refine (refElem_yes _ x _ HEL).mono ?_
                      rintro e w6 ⟨rfl, b6⟩
                      have B6 := Lib.hid (below_on HB3.out b6)
                      have l0 := (B6.out.cell (p := ⟨gl, q, none⟩) hgl).trans HL0.out
                      have hq1 : (q : Int) < (nl : Int) := by omega
                      have hq2 : ¬ ((nl : Int) ≤ (q : Int)) := by omega
                      have hq3 : (0 : Int) ≤ (q : Int) := by omega
                      clear b6 HB3 e0 e1 f1
                      go_wp2_with fail
                      go_roundw
                      case rel => exact ⟨k3 + 1, q + 1, by omega, by omega, by go_num, by go_num, HN, B6.out⟩
                      case measure => simp [intOf] <;> omega
                  · obtain rfl : k3 = fm := by omega
                    obtain rfl : q = nl := by have := HQ.out; have := HNL.out; omega
                    have F5 := Lib.hid (HFR.out.below D5.out (Nat.le_refl _))
                    cases r with
                    | none =>
                      go_wp2_with fail
                      refine (place_any _ _ _ k3 fs _ none _ F5.out HFM (by omega) HPL).mono ?_
                      rintro e w6 ⟨rfl, b6⟩
                      unfold foundV foundI
                      have D6 := Lib.hid (below_on D5.out b6)
                      clear b6 e0 e1 F5
                      go_wp2_with fail
                      go_roundw
                      case rel => exact ⟨k + 1, by omega, by go_num, D6.out⟩
                      case measure => simp [intOf] <;> omega
                    | some j =>
                      have p1 : (0 : Int) ≤ (j : Int) := by omega
                      go_wp2_with fail
                      refine (place_any _ _ _ k3 fs _ (some j) _ F5.out HFM (by omega) HPL).mono ?_
                      rintro e w6 ⟨rfl, b6⟩
                      unfold foundV foundI
                      have D6 := Lib.hid (below_on D5.out b6)
                      clear b6 e0 e1 F5
                      go_wp2_with fail
                      go_roundw
                      case rel => exact ⟨k + 1, by omega, by go_num, D6.out⟩
                      case measure => simp [intOf] <;> omega
              · obtain rfl : kk = (j : Int) := by have := HKK.out; omega
                obtain ⟨fb, fo, hFA, hfb, hfcell⟩ := F4.out (by have := HFM.out; omega)
                obtain ⟨f, hf⟩ : ∃ f, fs[j]? = some f := ⟨_, List.getElem?_eq_getElem (by have := HFM.out; omega)⟩
                obtain ⟨f0, -⟩ := hfcell j f hf
                have hni := fldIs_at (n := nm) hf
                have p1 : (0 : Int) ≤ (j : Int) := by omega
                have p2 : (j : Int) < (fm : Int) := by omega
                rw [hFA] at e1
                clear hf hfcell hFA
                obtain ⟨fn, ft⟩ := f
                simp only at f0 hni
                cases he : eqB fn nm with
                | true =>
                  have HN : Hid (fst (fldIs fs nm) fm j = some j) := fst_hit (by omega) (hni.trans he)
                  obtain rfl := eqB_iff.1 he
                  clear hni he
                  go_wp2_with fail
                  go_round
                  case rel => exact ⟨j, _, some j, by omega, rfl, rfl, HN, rfl⟩
                  case measure => simp [intOf] <;> omega
                | false =>
                  have HN : Hid (fst (fldIs fs nm) fm j = r) := (fst_next (by omega) (hni.trans he)).trans HJ.out
                  have hsp := eqB_spell he
                  clear hni he
                  go_wp2_with fail
                  go_round
                  case rel => exact ⟨j, _, r, by omega, rfl, rfl, HN, rfl⟩
                  case measure => simp [intOf] <;> omega
          · have L3 := Lib.hid (HR.out.below hb (Nat.le_refl _))
            have L3' := Lib.hid (HR'.out.below hb (Nat.le_refl _))
            obtain ⟨b, hbb⟩ : ∃ b : Bool, b = true ↔ ss = ss' := by
              by_cases h : ss = ss'
              · exact ⟨true, fun _ => h, fun _ => rfl⟩
              · exact ⟨false, (fun x => by cases x), fun x => absurd x h⟩
            have HBB := Lib.hid hbb
            clear hbb
            go_wp2_with fail
            refine (same_any A A' c c' m m' ss ss' b _ L3.out L3'.out hm hm' hl HBB).mono ?_
            rintro e w4 ⟨rfl, b4⟩
            have D4 := Lib.hid (below_on hb b4)
            have L4 := Lib.hid (HR.out.below D4.out (Nat.le_refl _))
            have L4' := Lib.hid (HR'.out.below D4.out (Nat.le_refl _))
            clear L3 L3' b4 hb
            go_wp2_with fail
            refine (refSame_any A A' c c' m m' ss ss' b _ L4.out L4'.out hm hm' hl HBB).mono ?_
            rintro e w5 ⟨rfl, b5⟩
            have D5 := below_on D4.out b5
            clear L4 L4' b5
            go_wp2_with fail
            go_ret
            exact ⟨ret_bool (by simp), D5⟩

end Go.Proofs.YtpjfooghiclccaaDoor
