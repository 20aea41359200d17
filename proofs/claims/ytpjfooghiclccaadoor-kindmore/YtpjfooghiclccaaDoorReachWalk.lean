/-
  KindReach: THE LAW's CONTRACT: it answers true for every row of structs, in a world in which the table of keys lies as the program's text lays it; of what was there nothing has turned.
-/
import Derived.Test.YtpjfooghiclccaaDoorAwake
import Derived.Test.YtpjfooghiclccaaDoorOkay
namespace Go.Proofs.YtpjfooghiclccaaDoor
open Go.RowKit

theorem tr_own {w : World} {base : Nat} {v : Value} {ts : List ByteArray} (h : w.ownsRow base 9 1 v ts.length (strsOf ts)) : ∃ A c, v = .slice A ts.length c ∧ ts.length ≤ c ∧ TR w A ts := by
  rcases h.2 with ⟨rfl, h0⟩ | ⟨g, cap, cur, rfl, h1, h2, h3, h4⟩
  · exact ⟨none, 0, by rw [h0], by omega, fun h => by omega⟩
  · refine ⟨_, cap, rfl, h3, fun _ => ⟨g, 0, rfl, (h.lt g rfl).2, fun k p hp => ?_⟩⟩
    rw [Nat.zero_add, h.cellAt k (by have := (List.getElem?_eq_some_iff.1 hp).1; omega)]
    unfold strsOf
    rw [List.getElem?_map, hp]; rfl
def ReachT (ss : List Str) (t : ByteArray) (w : World) (e : Ending) (w' : World) : Prop :=
  ∃ fl A c nr, Flags ss t fl ∧ (namesOf ss fl ss.length).length = nr ∧ nr ≤ ss.length ∧ e = .returned (.slice A nr c) ∧ nr ≤ c ∧ TR w' A (namesOf ss fl ss.length) ∧ Below w.heap.size w w'
theorem reach_to (A : Option Addr) (c m : Nat) (ss : List Str) (t : ByteArray) (w : World) (hK : Hid (KeysIn w)) (hR : Hid (SR w A ss)) (hm : Hid (ss.length = m)) (hl : m ≤ 16) (hfl : Hid (∀ s ∈ ss, s.fields.length ≤ 12)) :
    Calls Tryd.prog 18 #[.slice A m c, .string t] w (ReachT ss t w) := by
  refine (reach_any A c m ss t w hK.out hR.out hm hl hfl).mono ?_
  rintro e w' ⟨fl, v, hf, rfl, ho, hb⟩
  obtain ⟨A', c', rfl, hc, ht⟩ := tr_own ho
  exact ⟨fl, A', c', _, hf, rfl, names_len ss fl ss.length, rfl, hc, ht, hb⟩
def LinksT (fs : List Fld) (m : Nat) (w : World) (e : Ending) (w' : World) : Prop :=
  ∃ A c nl, (links fs m).length = nl ∧ nl ≤ m ∧ e = .returned (.slice A nl c) ∧ nl ≤ c ∧ IR w' A (links fs m) ∧ Below w.heap.size w w'
theorem links_to (sn : ByteArray) (A : Option Addr) (c m : Nat) (fs : List Fld) (w : World) (hK : Hid (KeysIn w)) (hR : Hid (FR w A fs)) (hm : Hid (fs.length = m)) (hl : m ≤ 1099511627776) :
    Calls Tryd.prog 20 #[.agg #[.string sn, .slice A m c]] w (LinksT fs m w) := by
  refine (links_any sn A c m fs w hK.out hR.out hm hl).mono ?_
  rintro e w' ⟨v, rfl, ho, hb⟩
  obtain ⟨A', c', rfl, hc, hi, _⟩ := ir_own ho
  exact ⟨A', c', _, rfl, links_len fs m, rfl, hc, hi, hb⟩
theorem IR.below {w w' : World} {B : Nat} {A : Option Addr} {ls : List Nat} (h : IR w A ls) (hb : Below B w w') (hB : w.heap.size ≤ B) : IR w' A ls := by
  intro h0
  obtain ⟨g, hA, hg, hc⟩ := h h0
  exact ⟨g, hA, Nat.lt_of_lt_of_le hg hb.size, fun k t ht => (hb.cell (p := ⟨g, k, none⟩) (Nat.lt_of_lt_of_le hg hB)).trans (hc k t ht)⟩
theorem pointer_to (n : ByteArray) (t : ByteArray) (w : World) (h : n.size ≤ 65536) (ht : Hid (starT ++ n = t)) : Calls Tryd.prog 17 #[.string n] w fun e w' => e = .returned (.string t) ∧ w = w' := by
  have := ht.out
  subst this
  exact pointer_any n w h
theorem word_len {n : ByteArray} (h : wordB n.data.toList = true) : n.size ≤ 12 := by
  unfold wordB at h
  rw [len_size] at h
  simp only [Bool.and_eq_true] at h
  exact of_decide_eq_true h.1.1.1

def KRel (w : World) (m : Nat) (i : Value) (wr : World) : Prop := ∃ k : Nat, k ≤ m ∧ i = .int .i64 k ∧ Below w.heap.size w wr

set_option maxRecDepth 100000 in
set_option maxHeartbeats 1000000 in
theorem reach_walk (A : Option Addr) (c m : Nat) (ss : List Str) (w : World) (G : KeysIn w) (hR : SR w A ss) (hm : Hid (ss.length = m)) (hl : m ≤ 281474976710656) (hmc : m ≤ c) :
    Calls Tryd.prog 5 #[.slice A m c] w fun e w' => e = .returned (.bool true) ∧ Below w.heap.size w w' := by
  go_enter Tryd.func5, Tryd.ntmps5
  go_wp2_with fail
  refine (awake_true w G).mono ?_
  rintro e w1 ⟨rfl, b1⟩
  have HG := Lib.hid G
  have HR := Lib.hid hR
  have G1 := Lib.hid (G.below b1 (Nat.le_refl _))
  have R1 := Lib.hid (hR.below b1 (Nat.le_refl _))
  clear G hR
  obtain ⟨p, er, hch⟩ : ∃ p er, chk ss = (p, er) := ⟨_, _, rfl⟩
  have HCH := Lib.hid hch
  clear hch
  go_wp2_with fail
  refine (check_any A c m ss p er _ G1.out R1.out hm hl hmc HCH).mono ?_
  rintro e w2 ⟨rfl, b2⟩
  have d2 := below_on b1 b2
  have R2 := Lib.hid (HR.out.below d2 (Nat.le_refl _))
  clear b1 b2 G1 R1
  by_cases he : er = 0
  · subst he
    obtain ⟨gb, hgb⟩ : ∃ gb, grB ss = gb := ⟨_, rfl⟩
    have HGB := Lib.hid hgb
    clear hgb
    cases gb with
    | true =>
      go_wp2_with (go_at_call 8; refine (great_any A c m ss true _ R2.out hm hl HGB).mono ?_; rintro e w' ⟨rfl, rfl⟩)
      go_ret
      exact ⟨rfl, d2⟩
    | false =>
      have hm12 : m ≤ 12 := by have := ok_len HCH.out; have := hm.out; omega
      have hfl : Hid (∀ s ∈ ss, s.fields.length ≤ 12) := fun s hs => by
        obtain ⟨i, hi, rfl⟩ := List.mem_iff_getElem.1 hs
        have := (ok_struct HCH.out (List.getElem?_eq_getElem hi)).2.2.1
        omega
      go_wp2_with (go_at_call 8; refine (great_any A c m ss false _ R2.out hm hl HGB).mono ?_; rintro e w' ⟨rfl, rfl⟩)
      clear HGB
      go_loopw [5] (fun i wr => KRel w m i wr) (fun i _ => m - (intOf i).toNat)
      case atStart => exact ⟨0, Nat.zero_le _, rfl, d2⟩
      case round =>
        obtain ⟨k, hk, rfl, hb⟩ := hrel
        have G3 := Lib.hid (HG.out.below hb (Nat.le_refl _))
        have R3 := Lib.hid (HR.out.below hb (Nat.le_refl _))
        by_cases hlt : k < m
        · obtain ⟨lb, lo, hA, hlb, hlc⟩ := HR.out (by have := hm.out; omega)
          obtain ⟨s, hs⟩ : ∃ s, ss[k]? = some s := ⟨_, List.getElem?_eq_getElem (by have := hm.out; omega)⟩
          obtain ⟨FA, fc, C0, C1, -, -, -⟩ := hlc k s hs
          have hwd := (ok_struct HCH.out hs).1
          have hfn := ok_fnd HCH.out hs
          have HLC := Lib.hid hlc
          have HS := Lib.hid hs
          have HC0 := Lib.hid C0
          clear hlc hs C0 C1
          obtain ⟨sn, fs⟩ := s
          simp only at HC0 hwd hfn
          have hsz := word_len hwd
          obtain ⟨t, ht⟩ : ∃ t, starT ++ sn = t := ⟨_, rfl⟩
          have HT := Lib.hid ht
          have HTG : Hid (tgt ss t = some k) := by show _ = _; rw [← ht]; exact tgt_star hwd hfn
          have HIS : Hid (isT ss t = true) := by show _ = _; rw [← ht]; exact star_is hfn
          have c0 := (hb.cell (p := ⟨lb, lo + k * 2, none⟩) hlb).trans HC0.out
          subst hA
          clear ht hwd hfn
          go_wp2_with (go_at_call 17; refine (pointer_to _ t _ (by omega) HT).mono ?_; rintro e w' ⟨rfl, rfl⟩)
          refine (reach_to _ c m ss t _ G3 R3 hm (by omega) hfl).mono ?_
          rintro e w4 ⟨fl, RA, rc, nr, hF, hnr, hnm, rfl, hrc, hTR, b4⟩
          have D4 := below_on hb b4
          have HF := Lib.hid hF
          have HNR := Lib.hid hnr
          have hnr16 : nr ≤ 16 := by have := hm.out; omega
          have T4 := Lib.hid hTR
          have R4 := Lib.hid (HR.out.below D4 (Nat.le_refl _))
          have HAS : Hid (hasB (namesOf ss fl ss.length) sn = true) := has_iff.2 ((names_mem hF).2 ⟨k, _, .base HTG.out, HS.out, rfl⟩)
          have c4 := (D4.cell (p := ⟨lb, lo + k * 2, none⟩) hlb).trans HC0.out
          clear hF hnr hTR G3 R3 c0 b4 hb
          go_wp2_with fail
          refine (has_any RA rc nr _ sn true _ T4.out HNR (by omega) HAS).mono ?_
          rintro e w' ⟨rfl, rfl⟩
          go_wp2_with (go_at_call 17; refine (pointer_to _ t _ (by omega) HT).mono ?_; rintro e w' ⟨rfl, rfl⟩)
          refine (is_any _ c m ss t true _ R4 hm hl HIS).mono ?_
          rintro e w5 ⟨rfl, b5⟩
          have D5 := Lib.hid (below_on D4 b5)
          have T5 := Lib.hid (T4.out.below b5 (Nat.le_refl _))
          clear D4 b5 T4 R4 c4 HAS
          go_wp2_with fail
          go_loopw [7] (fun i wr => KRel w5 nr i wr) (fun i _ => nr - (intOf i).toNat)
          case atStart => exact ⟨0, Nat.zero_le _, rfl, Below.refl _ _⟩
          case round =>
            obtain ⟨k2, hk2, rfl, hb2⟩ := hrel
            have D6 := below_on D5.out hb2
            by_cases hlt2 : k2 < nr
            · obtain ⟨x, hx⟩ : ∃ x, (namesOf ss fl ss.length)[k2]? = some x := ⟨_, List.getElem?_eq_getElem (by have := HNR.out; omega)⟩
              obtain ⟨rb, ro, hRA, hrb, hrc2⟩ := (T5.out.below hb2 (Nat.le_refl _)) (by have := HNR.out; omega)
              have r0 := hrc2 k2 x hx
              obtain ⟨at_, s', hrch, hs', hnx⟩ := (names_mem HF.out).1 (List.mem_of_getElem? hx)
              have hfx := ok_fnd HCH.out hs'
              rw [hnx] at hfx
              have HFX := Lib.hid hfx
              have hat : at_ < m := by have := (List.getElem?_eq_some_iff.1 hs').1; have := hm.out; omega
              obtain ⟨FA', fc', C0', C1', -, hfl', hFR'⟩ := HLC.out at_ s' hs'
              have hf8 := (ok_struct HCH.out hs').2.2.1
              have HRCH := Lib.hid hrch
              have HS' := Lib.hid hs'
              have HC0' := Lib.hid C0'
              have HC1' := Lib.hid C1'
              have HFR' := Lib.hid hFR'
              have R6 := Lib.hid (HR.out.below D6 (Nat.le_refl _))
              clear hrc2 hx hrch hs' hfx C0' C1' hFR' hfl'
              obtain ⟨sn', fs'⟩ := s'
              simp only at HC0' HC1' HFR' hf8 hnx
              obtain ⟨fm, hfm⟩ : ∃ fm, fs'.length = fm := ⟨_, rfl⟩
              rw [hfm] at HC1' hf8
              have HFM := Lib.hid hfm
              have hi1 : (at_ : Int) < (m : Int) := by omega
              subst hRA
              clear hfm hnx
              go_wp2_with fail
              refine (find_any _ c m ss x (some at_) _ R6.out hm hl HFX).mono ?_
              rintro e w7 ⟨rfl, b7⟩
              unfold foundV
              have D7 := below_on D6 b7
              have e0 := (D7.cell (p := ⟨lb, lo + at_ * 2, none⟩) hlb).trans HC0'.out
              have e1 := (D7.cell (p := ⟨lb, lo + at_ * 2 + 1, none⟩) hlb).trans HC1'.out
              have G7 := Lib.hid (HG.out.below D7 (Nat.le_refl _))
              have F7 := Lib.hid (HFR'.out.below D7 (Nat.le_refl _))
              have B7 := Lib.hid (below_on hb2 b7)
              clear r0 R6 D6 b7 hb2
              go_wp2_with fail
              refine (links_to _ _ _ fm fs' _ G7 F7 HFM (by omega)).mono ?_
              rintro e w8 ⟨LA, lc, nl, hnl, hnlm, rfl, hlc8, hIR, b8⟩
              have D8 := Lib.hid (below_on D7 b8)
              have B8 := Lib.hid (below_on B7.out b8)
              have HNL := Lib.hid hnl
              have I8 := Lib.hid hIR
              clear D7 B7 e0 e1 G7 F7 hnl hIR b8
              go_wp2_with fail
              go_loopw [11] (fun i wr => KRel w8 nl i wr) (fun i _ => nl - (intOf i).toNat)
              case atStart => exact ⟨0, Nat.zero_le _, rfl, Below.refl _ _⟩
              case round =>
                obtain ⟨k3, hk3, rfl, hb3⟩ := hrel
                by_cases hlt3 : k3 < nl
                · obtain ⟨p, hp⟩ : ∃ p, (links fs' fm)[k3]? = some p := ⟨_, List.getElem?_eq_getElem (by have := HNL.out; omega)⟩
                  obtain ⟨f, n, hf, hel⟩ := link_elem hp
                  have hpf := (links_fld k3 p hp).1
                  have D9 := Lib.hid (below_on D8.out hb3)
                  obtain ⟨j, hj, htj⟩ := link_to HCH.out HS'.out (List.mem_of_getElem? hf) hel
                  obtain ⟨sj, hsj, hnj⟩ := fnd_name hj
                  have HHAS : Hid (hasB (namesOf ss fl ss.length) n = true) := has_iff.2 ((names_mem HF.out).2 ⟨j, sj, .step HRCH.out HS'.out (List.mem_of_getElem? hf) htj, hsj, hnj⟩)
                  obtain ⟨gl, hLA, hgl, hlcell⟩ := (I8.out.below hb3 (Nat.le_refl _)) (by have := HNL.out; omega)
                  have l0 := hlcell k3 p hp
                  have e1 := (D9.out.cell (p := ⟨lb, lo + at_ * 2 + 1, none⟩) hlb).trans HC1'.out
                  obtain ⟨fb, fo, hFA, hfb, hfcell⟩ := (HFR'.out.below D9.out (Nat.le_refl _)) (by have := HFM.out; omega)
                  obtain ⟨-, f1⟩ := hfcell p f hf
                  obtain ⟨fn, ft⟩ := f
                  simp only at f1 hel
                  have HEL := Lib.hid hel
                  have G9 := Lib.hid (HG.out.below D9.out (Nat.le_refl _))
                  have T9 := Lib.hid (T5.out.below (below_on B8.out hb3) (Nat.le_refl _))
                  have B9 := Lib.hid hb3
                  have hi2 : (k3 : Int) < (nl : Int) := by omega
                  have hi3 : (p : Int) < (fm : Int) := by omega
                  have p1 : (0 : Int) ≤ (at_ : Int) := by omega
                  have p2 : (0 : Int) ≤ (k3 : Int) := by omega
                  have p3 : (0 : Int) ≤ (p : Int) := by omega
                  have HQ : Hid (∀ nn, Calls Tryd.prog 11 #[.string ft] (wr.drewN nn) fun e w' => e = .returned (.tuple #[.string n, .bool true]) ∧ w' = wr.drewN nn) := fun nn => (elem_any ft (some n) (wr.drewN nn) (show Hid (KeysIn (wr.drewN nn)) from G9.out) HEL).mono (fun e w' h => ⟨h.1, h.2.symm⟩)
                  rw [hFA] at e1
                  subst hLA
                  clear hp hf hel hj htj hsj hnj hlcell hfcell hb3 hFA
                  go_wp2_with fail
                  go_quiet ((go_at_call 11; exact Calls.quiet_of_same (HQ.out _)))
                  have T9' : Hid (TR (wr.drewN nq) _ (namesOf ss fl ss.length)) := T9
                  have B9' := Lib.hid (below_drewN B9.out nq)
                  clear HQ l0 e1 f1 T9 B9 G9
                  go_wp2_with fail
                  refine (has_any _ rc nr _ n true _ T9'.out HNR (by omega) HHAS).mono ?_
                  rintro e w' ⟨rfl, rfl⟩
                  go_wp2_with fail
                  go_roundw
                  case rel => exact ⟨k3 + 1, by omega, by go_num, B9'.out⟩
                  case measure => simp [intOf]; omega
                · go_wp2_with fail
                  go_roundw
                  case rel => exact ⟨k2 + 1, by omega, by go_num, below_on B8.out hb3⟩
                  case measure => simp [intOf]; omega
            · go_wp2_with fail
              go_roundw
              case rel => exact ⟨k + 1, by omega, by go_num, D6⟩
              case measure => simp [intOf]; omega
        · go_wp2_with fail
          refine (reach_to A c m ss _ _ G3 R3 hm (by omega) hfl).mono ?_
          rintro e w4 ⟨fl, RA, rc, nr, hF, hnr, hnm, rfl, hrc, hTR, b4⟩
          obtain rfl : nr = 0 := by rw [← hnr, no_names hF (by unfold tgt; rw [show elemO ⟨#[105, 110, 116]⟩ = none by decide +kernel]; rfl)]; rfl
          have D4 := below_on hb b4
          clear hF hnr hTR b4
          go_wp2_with fail
          go_ret
          exact ⟨rfl, D4⟩
  · have hne : ((er : Int) != 0) = true := by simp; omega
    go_wp2_with fail
    go_ret
    exact ⟨rfl, d2⟩

end Go.Proofs.YtpjfooghiclccaaDoor
