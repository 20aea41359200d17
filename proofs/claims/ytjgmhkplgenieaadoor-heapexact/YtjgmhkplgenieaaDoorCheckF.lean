/-
  CONTRACT: checkField of package kind. Of what was there nothing has turned.
-/
import Derived.Test.YtjgmhkplgenieaaDoorLinks
namespace Go.Proofs.YtjgmhkplgenieaaDoor
open Go.RowKit

theorem plc_at {fs : List Fld} {k : Nat} {f : Fld} (h : fs[k]? = some f) : ∃ j, j ≤ k ∧ plc fs f.name = some j := by
  cases hp : plc fs f.name with
  | none =>
    have := fst_none hp k (Nat.zero_le _) (List.getElem?_eq_some_iff.1 h).1
    rw [fldIs_at h, eqB_iff.2 rfl] at this; cases this
  | some j =>
    refine ⟨j, ?_, rfl⟩
    rcases Nat.lt_or_ge k j with hlt | hge
    · have := (fst_some hp).2.2.2 k (Nat.zero_le _) hlt
      rw [fldIs_at h, eqB_iff.2 rfl] at this; cases this
    · exact hge
set_option maxHeartbeats 400000 in
theorem checkField_any (A : Option Addr) (c m : Nat) (ss : List Str) (sn : ByteArray) (FA : Option Addr) (fc fm : Nat) (fs : List Fld) (k r : Nat) (w : World) (hK : KeysIn w) (hR : SR w A ss) (hF : FR w FA fs)
    (hm : Hid (ss.length = m)) (hl : m ≤ 281474976710656) (hfm : Hid (fs.length = fm)) (hfl : fm ≤ 281474976710656) (hk : k < fm) (hr : Hid (chkF ss fs k = r)) :
    Calls Tryd.prog 48 #[.slice A m c, .agg #[.string sn, .slice FA fm fc], .int .i64 k] w fun e w' => e = .returned (.int .i64 r) ∧ Below w.heap.size w w' := by
  obtain ⟨b, o, hFA, hg, hcs⟩ := hF (by have := hfm.out; omega)
  obtain ⟨f, hf⟩ : ∃ f, fs[k]? = some f := ⟨_, List.getElem?_eq_getElem (by have := hfm.out; omega)⟩
  obtain ⟨c0, c1⟩ := hcs k f hf
  obtain ⟨j, hjk, hpl⟩ := plc_at hf
  have hch : chkF ss fs k = if wordB f.name.data.toList = false then 1 else if plc fs f.name = some k then (if isT ss f.typ then 0 else 7) else 6 := by unfold chkF; rw [hf]
  rw [hr.out, hpl] at hch
  have HPL := Lib.hid hpl
  have HF := Lib.hid hF
  have HR := Lib.hid hR
  have HK := Lib.hid hK
  clear hcs hpl hf hF hR hK hr
  obtain ⟨fn, ft⟩ := f
  simp only at c0 c1 hch HPL
  have hk2 := Lib.hid ((HK.out.alloc (.cells #[.string sn, .slice FA fm fc] 52)).alloc (.cells #[.string fn, .string ft] 62))
  have hf2 := Lib.hid (HF.out.below (below2 w (.cells #[.string sn, .slice FA fm fc] 52) (.cells #[.string fn, .string ft] 62)) (Nat.le_refl _))
  have hr2 := Lib.hid (HR.out.below (below2 w (.cells #[.string sn, .slice FA fm fc] 52) (.cells #[.string fn, .string ft] 62)) (Nat.le_refl _))
  subst hFA
  cases h1 : wordB fn.data.toList with
  | false =>
    obtain rfl : r = 1 := by rw [hch, if_pos h1]
    have H1 := Lib.hid h1
    clear hch h1
    go_enter Tryd.func48, Tryd.ntmps48
    go_wp2_with (go_at_call 46; refine (isWord_to _ false _ hk2 H1).mono ?_; rintro e w' ⟨rfl, rfl⟩)
    go_ret
    exact ⟨rfl, below2 _ _ _⟩
  | true =>
    rw [if_neg (by rw [h1]; decide)] at hch
    have H1 := Lib.hid h1
    clear h1
    by_cases h2 : j = k
    · subst h2
      rw [if_pos rfl] at hch
      have HCH := Lib.hid hch
      clear hch
      go_enter Tryd.func48, Tryd.ntmps48
      go_wp2_with (go_at_call 46; refine (isWord_to _ true _ hk2 H1).mono ?_; rintro e w' ⟨rfl, rfl⟩)
      refine (place_any _ _ _ fm fs _ (some j) _ hf2.out hfm hfl HPL).mono ?_
      rintro e w1 ⟨rfl, b1⟩
      unfold foundV
      have d1 : Below w.heap.size w w1 := Below.trans (below2 w _ _) (b1.mono (by rw [heap2]; omega))
      have e1 : w1.cell? ⟨w.heap.size + 1, 1, none⟩ = some (.string ft) := (b1.cell (p := ⟨w.heap.size + 1, 1, none⟩) (by simp)).trans (cell_second _ _ _ _ _ _)
      have hr3 := Lib.hid (hr2.out.below b1 (Nat.le_refl _))
      cases h3 : isT ss ft with
      | true =>
        obtain rfl : r = 0 := by rw [HCH.out, h3]; rfl
        have H3 := Lib.hid h3
        clear h3 HCH
        go_wp2_with (go_at_call 65; refine (is_any _ _ m ss _ true _ hr3 hm hl H3).mono ?_; rintro e w2 ⟨rfl, b2⟩)
        go_ret
        exact ⟨rfl, d1.trans (b2.mono d1.size)⟩
      | false =>
        obtain rfl : r = 7 := by rw [HCH.out, h3]; rfl
        have H3 := Lib.hid h3
        clear h3 HCH
        go_wp2_with (go_at_call 65; refine (is_any _ _ m ss _ false _ hr3 hm hl H3).mono ?_; rintro e w2 ⟨rfl, b2⟩)
        go_ret
        exact ⟨rfl, d1.trans (b2.mono d1.size)⟩
    · obtain rfl : r = 6 := by rw [hch, if_neg (by simp; exact h2)]
      clear hch
      have n1 : ((j : Int) != (k : Int)) = true := by simp; omega
      have n2 : (j != k) = true := by simp; exact h2
      go_enter Tryd.func48, Tryd.ntmps48
      go_wp2_with (go_at_call 46; refine (isWord_to _ true _ hk2 H1).mono ?_; rintro e w' ⟨rfl, rfl⟩)
      refine (place_any _ _ _ fm fs _ (some j) _ hf2.out hfm hfl HPL).mono ?_
      rintro e w1 ⟨rfl, b1⟩
      unfold foundV
      have d1 : Below w.heap.size w w1 := Below.trans (below2 w _ _) (b1.mono (by rw [heap2]; omega))
      go_wp2_with fail
      go_ret
      exact ⟨rfl, d1⟩

end Go.Proofs.YtjgmhkplgenieaaDoor
