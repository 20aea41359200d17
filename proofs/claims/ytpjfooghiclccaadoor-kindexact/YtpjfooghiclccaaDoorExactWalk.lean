/-
  KindExact: THE LAW's CONTRACT: it answers true for every row of structs, type and name, in a world in which the table of keys lies as the program's text lays it; of what was there nothing has turned.
-/
import Derived.Test.YtpjfooghiclccaaDoorReachWalk
import Derived.Test.YtpjfooghiclccaaDoorRefReach
import Derived.Test.YtpjfooghiclccaaDoorRefCheck
import Derived.Test.YtpjfooghiclccaaDoorBound
namespace Go.Proofs.YtpjfooghiclccaaDoor
open Go.RowKit

theorem names_split (ss : List Str) (fl : List Bool) {k n : Nat} (h : k ≤ n) : ∃ r, namesOf ss fl n = namesOf ss fl k ++ r := by
  induction n with
  | zero => exact ⟨[], by rw [show k = 0 by omega, List.append_nil]⟩
  | succ n ih =>
    rcases Nat.eq_or_lt_of_le h with rfl | hl
    · exact ⟨[], by rw [List.append_nil]⟩
    · obtain ⟨r, hr⟩ := ih (by omega)
      unfold namesOf at hr ⊢
      rw [List.range_succ, List.filter_append, List.map_append, hr, List.append_assoc]
      exact ⟨_, rfl⟩
theorem names_at {ss : List Str} {fl : List Bool} {k n : Nat} {s : Str} (h : k < n) (hb : fl[k]? = some true) (hs : ss[k]? = some s) : (namesOf ss fl n)[(namesOf ss fl k).length]? = some s.name := by
  obtain ⟨r, hr⟩ := names_split ss fl (k := k + 1) (n := n) h
  rw [hr, names_yes hb hs, List.append_assoc, List.getElem?_append_right (Nat.le_refl _), Nat.sub_self]; rfl
theorem pointer_x (n : ByteArray) (w : World) (h : n.size ≤ 65536) : Calls Tryd.prog 17 #[.string n] w fun e w' => e = .returned (.string (⟨#[42]⟩ ++ n)) ∧ w = w' := pointer_any n w h
def XRel (w : World) (ss : List Str) (fl : List Bool) (m : Nat) (kv iv : Value) (wr : World) : Prop := ∃ (i k : Nat), i ≤ m ∧ k ≤ i ∧ iv = .int .i64 i ∧ kv = .int .i64 k ∧ Hid ((namesOf ss fl i).length = k) ∧ Below w.heap.size w wr

set_option maxRecDepth 100000 in
set_option maxHeartbeats 1000000 in
theorem exact_walk (A : Option Addr) (c m : Nat) (ss : List Str) (t nm : ByteArray) (w : World) (G : KeysIn w) (hR : SR w A ss) (hm : Hid (ss.length = m)) (hl : m ≤ 281474976710656) (hmc : m ≤ c) :
    Calls Tryd.prog 3 #[.slice A m c, .string t, .string nm] w fun e w' => e = .returned (.bool true) ∧ Below w.heap.size w w' := by
  go_enter Tryd.func3, Tryd.ntmps3
  go_wp2_with fail
  refine (awake_true w G).mono ?_
  rintro e w1 ⟨rfl, b1⟩
  have HG := Lib.hid G
  have HR := Lib.hid hR
  have R1 := Lib.hid (hR.below b1 (Nat.le_refl _))
  have B1 := Lib.hid b1
  clear G hR b1
  obtain ⟨gb, hgb⟩ : ∃ gb, grB ss = gb := ⟨_, rfl⟩
  have HGB := Lib.hid hgb
  clear hgb
  cases gb with
  | true =>
    go_wp2_with fail
    refine (great_any A c m ss true _ R1.out hm hl HGB).mono ?_
    rintro e w' ⟨rfl, rfl⟩
    go_wp2_with fail
    go_ret
    exact ⟨rfl, B1.out⟩
  | false =>
    obtain ⟨hg1, hg2⟩ := gr_bd HGB.out
    have hm16 : m ≤ 16 := by have := hm.out; omega
    have HFL := Lib.hid hg2
    clear hg1 hg2
    go_wp2_with fail
    refine (great_any A c m ss false _ R1.out hm hl HGB).mono ?_
    rintro e w' ⟨rfl, rfl⟩
    clear HGB
    by_cases h100 : 100 < t.size
    · have h100' : (100 : Int) < (t.size : Int) := by omega
      go_wp2_with fail
      go_ret
      exact ⟨rfl, B1.out⟩
    · have h100' : ¬ (100 : Int) < (t.size : Int) := by omega
      by_cases h101 : 100 < nm.size
      · have h101' : (100 : Int) < (nm.size : Int) := by omega
        go_wp2_with fail
        go_ret
        exact ⟨rfl, B1.out⟩
      · have h101' : ¬ (100 : Int) < (nm.size : Int) := by omega
        have hnm : nm.size ≤ 100 := by omega
        have d1 : decide ((100 : Int) < (t.size : Int)) = false := decide_eq_false (by omega)
        have d2 : decide ((100 : Int) < (nm.size : Int)) = false := decide_eq_false (by omega)
        obtain ⟨p, er, hch⟩ : ∃ p er, chk ss = (p, er) := ⟨_, _, rfl⟩
        have HCH := Lib.hid hch
        have G1 := Lib.hid (HG.out.below B1.out (Nat.le_refl _))
        clear hch
        go_wp2_with fail
        refine (check_any A c m ss p er _ G1.out R1.out hm hl hmc HCH).mono ?_
        rintro e w2 ⟨rfl, b2⟩
        have B2 := Lib.hid (below_on B1.out b2)
        have R2 := Lib.hid (HR.out.below B2.out (Nat.le_refl _))
        clear b2 B1 R1 G1 h100 h100' h101 h101' d1 d2
        go_wp2_with fail
        refine (refCheck_any A c m ss p er _ R2.out hm hl HCH).mono ?_
        rintro e w3 ⟨rfl, b3⟩
        have B3 := Lib.hid (below_on B2.out b3)
        have R3 := Lib.hid (HR.out.below B3.out (Nat.le_refl _))
        have G3 := Lib.hid (HG.out.below B3.out (Nat.le_refl _))
        clear b3 B2 R2 HCH
        obtain ⟨r, hel⟩ : ∃ r, elemO t = r := ⟨_, rfl⟩
        obtain ⟨q, hfn⟩ : ∃ q, fnd ss nm = q := ⟨_, rfl⟩
        obtain ⟨b, hbt⟩ : ∃ b, isT ss t = b := ⟨_, rfl⟩
        have HEL := Lib.hid hel
        have HFN := Lib.hid hfn
        have HBT := Lib.hid hbt
        have hposr : Hid (∀ n, r = some n → n.toList.isEmpty = false) := fun n e => size_pos_isEmpty (el_pos (hel.trans e))
        clear hel hfn hbt
        go_wp2_with fail
        refine (elem_any t r _ G3 HEL).mono ?_
        rintro e w' ⟨rfl, rfl⟩
        have key : Hid (∃ el : ByteArray, ∃ is : Bool, elemV r = .tuple #[.string el, .bool is] ∧ elemT r = el ∧ is = !el.toList.isEmpty) := by
          cases r with
          | none => exact ⟨_, _, rfl, rfl, by rw [ByteArray.toList_eq]; rfl⟩
          | some n => exact ⟨n, true, rfl, rfl, by rw [hposr.out n rfl]; rfl⟩
        obtain ⟨el, is, hv, hT, his⟩ := key.out
        rw [hv]
        have HT := Lib.hid hT
        have hrE : Hid (∀ W : World, Calls Tryd.prog 14 #[.string t] W fun e w' => e = .returned (.string el) ∧ Below W.heap.size W w') := fun W => by rw [← hT]; exact refElem_any t r W HEL
        clear hT hv key hposr
        go_wp2_with fail
        refine (find_any A c m ss nm q _ R3.out hm hl HFN).mono ?_
        rintro e w4 ⟨rfl, b4⟩
        have B4 := Lib.hid (below_on B3.out b4)
        have R4 := Lib.hid (HR.out.below B4.out (Nat.le_refl _))
        clear b4 B3 R3 G3
        rcases q with _ | j
        all_goals
          unfold foundV
          go_wp2_with fail
          refine (refFind_any A c m ss nm _ _ R4.out hm hl HFN).mono ?_
          rintro e w' ⟨rfl, rfl⟩
          unfold foundI
          go_wp2_with fail
          refine (hrE.out _).mono ?_
          rintro e w5 ⟨rfl, b5⟩
          have B5 := Lib.hid (below_on B4.out b5)
          have R5 := Lib.hid (HR.out.below B5.out (Nat.le_refl _))
          clear b5 B4 R4
          go_wp2_with fail
          refine (is_any A c m ss t b _ R5 hm hl HBT).mono ?_
          rintro e w6 ⟨rfl, b6⟩
          have B6 := Lib.hid (below_on B5.out b6)
          have R6 := Lib.hid (HR.out.below B6.out (Nat.le_refl _))
          clear b6 B5 R5
          go_wp2_with fail
          refine (rI_any A c m ss t b _ R6 hm hl HBT).mono ?_
          rintro e w' ⟨rfl, rfl⟩
          go_wp2_with fail
          refine (pointer_x nm _ (by omega)).mono ?_
          rintro e w' ⟨rfl, rfl⟩
          have G6 := Lib.hid (HG.out.below B6.out (Nat.le_refl _))
          go_wp2_with fail
          refine (reach_to A c m ss t _ G6 R6 hm hm16 HFL).mono ?_
          rintro e w7 ⟨fl, RA, rc, nr, hFl, hnr, hnrm, rfl, hrc, hTR, b7⟩
          have B7 := Lib.hid (below_on B6.out b7)
          have R7 := Lib.hid (HR.out.below B7.out (Nat.le_refl _))
          have T7 := Lib.hid hTR
          have HFlg := Lib.hid hFl
          have HNR := Lib.hid hnr
          clear b7 B6 R6 G6 hFl hnr hTR hrE
          go_wp2_with fail
          refine (refReach_any A c m ss t _ R7.out hm hm16 HFL).mono ?_
          rintro e w8 ⟨fl', g, hFl', rfl, hFL8, b8⟩
          obtain rfl := HFlg.out.uniq hFl'
          have B8 := Lib.hid (below_on B7.out b8)
          have T8 := Lib.hid (T7.out.below b8 (Nat.le_refl _))
          have F8 := Lib.hid hFL8
          have HNS : Hid (namesOf ss fl ss.length = namesOf ss fl m) := by show _ = _; rw [hm.out]
          clear b8 B7 R7 T7 hFl' hFL8
          go_wp2_with fail
          go_loopw [18, 19] (fun kv iv wr => XRel w8 ss fl m kv iv wr) (fun _ iv _ => m - (intOf iv).toNat)
          case atStart => exact ⟨0, 0, Nat.zero_le _, Nat.le_refl _, rfl, rfl, rfl, Below.refl _ _⟩
          case round =>
            obtain ⟨i, k, hi, hki, rfl, rfl, HK, hb⟩ := hrel
            have F9 := F8.out.below hb
            by_cases hlt : i < m
            · obtain ⟨bv, hbv⟩ : ∃ b, fl[i]? = some b := ⟨_, List.getElem?_eq_getElem (by rw [F9.1]; exact hlt)⟩
              have f0 := F9.cell hbv
              have HB := Lib.hid hb
              clear F9
              cases bv with
              | false =>
                have HN : Hid ((namesOf ss fl (i + 1)).length = k) := by show _ = _; rw [names_no hbv]; exact HK.out
                clear hbv hb
                go_wp2_with fail
                go_roundw
                case rel => exact ⟨i + 1, k, by omega, by omega, by go_num, rfl, HN, HB.out⟩
                case measure => simp [intOf] <;> omega
              | true =>
                obtain ⟨lb, lo, hA, hlb, hlc⟩ := HR.out (by have := hm.out; omega)
                obtain ⟨s, hs⟩ : ∃ s, ss[i]? = some s := ⟨_, List.getElem?_eq_getElem (by have := hm.out; omega)⟩
                obtain ⟨FA, fc, C0, -⟩ := hlc i s hs
                have D9 := below_on B8.out hb
                have c0 := (D9.cell (p := ⟨lb, lo + i * 2, none⟩) hlb).trans C0
                have hat := names_at hlt hbv hs
                rw [HK.out, ← HNS.out] at hat
                have hkn : k < nr := by have := (List.getElem?_eq_some_iff.1 hat).1; have := HNR.out; omega
                obtain ⟨rb, ro, hRA, hrb, hrc1⟩ := (T8.out.below hb (Nat.le_refl _)) (by have := HNR.out; omega)
                have r0 := hrc1 k s.name hat
                have HN : Hid ((namesOf ss fl (i + 1)).length = k + 1) := by show _ = _; rw [names_yes hbv hs, List.length_append, HK.out]; rfl
                have p1 : (0 : Int) ≤ (k : Int) := by omega
                have p2 : (k : Int) < (nr : Int) := by omega
                have p3 : (0 : Int) ≤ (i : Int) := by omega
                have p4 : (i : Int) < (m : Int) := by omega
                have q1 : decide ((nr : Int) ≤ (k : Int)) = false := decide_eq_false (by omega)
                have q2 : decide (nr ≤ k) = false := decide_eq_false (by omega)
                obtain ⟨sn, fs⟩ := s
                simp only at c0 r0
                subst hA
                subst hRA
                clear hbv hb hlc hs C0 hat hrc1 D9
                go_wp2_with fail
                go_quiet (fail)
                have B9 := Lib.hid (below_drewN HB.out nq)
                clear HB f0 c0 r0 q1 q2
                go_wp2_with fail
                refine ⟨⟨i + 1, k + 1, by omega, by omega, by go_num, by go_num, HN, B9.out⟩, ?_⟩
                simp [intOf] <;> omega
            · obtain rfl : i = m := by omega
              obtain rfl : k = nr := by have h1 := HK.out; have h2 := HNR.out; rw [HNS.out] at h2; omega
              have D9 := below_on B8.out hb
              go_wp2_with fail
              go_ret
              exact ⟨ret_bool (by simp), D9⟩

end Go.Proofs.YtpjfooghiclccaaDoor
