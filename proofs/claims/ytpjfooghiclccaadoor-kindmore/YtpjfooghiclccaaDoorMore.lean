/-
  PLAIN: structs with one more behind, to which nobody leads: the same are reached. Nothing of the program stands here. No condition.
-/
import Derived.Test.YtpjfooghiclccaaDoorOkay
namespace Go.Proofs.YtpjfooghiclccaaDoor
open Go.RowKit

def zz : ByteArray := ⟨#[90, 122, 57]⟩
def starZz : ByteArray := ⟨#[42, 90, 122, 57]⟩
theorem star_zz : starT ++ zz = starZz := by decide +kernel
theorem zz_word : wordB zz.data.toList = true := by decide +kernel

section
variable {ss : List Str} {fs : List Fld} {p p' : Nat}

theorem at_old {i : Nat} (h : i < ss.length) : (ss ++ [Str.mk zz fs])[i]? = ss[i]? := List.getElem?_append_left h
theorem at_new' : (ss ++ [Str.mk zz fs])[ss.length]? = some ⟨zz, fs⟩ := by simp
theorem no_zz (h' : chk (ss ++ [Str.mk zz fs]) = (p', 0)) {i : Nat} {s : Str} (hs : ss[i]? = some s) : s.name ≠ zz := by
  have hl := (List.getElem?_eq_some_iff.1 hs).1
  exact fnd_none_take (ok_struct h' (i := ss.length) at_new').2.1 hl ((at_old hl).trans hs)
theorem fnd_more {n : ByteArray} (hn : n ≠ zz) : fnd (ss ++ [Str.mk zz fs]) n = fnd ss n := by
  cases h : fnd ss n with
  | some i =>
    obtain ⟨_, hl, h1, h2⟩ := fst_some h
    refine fst_of (Nat.zero_le _) (by simp; omega) ?_ fun j _ hj => ?_
    · unfold nameIs at h1 ⊢; rw [at_old hl]; exact h1
    · have := h2 j (Nat.zero_le _) hj
      unfold nameIs at this ⊢; rw [at_old (by omega)]; exact this
  | none =>
    refine fst_none_of fun j _ hj => ?_
    rcases Nat.lt_or_ge j ss.length with hl | hl
    · have := fst_none h j (Nat.zero_le _) hl
      unfold nameIs at this ⊢; rw [at_old hl]; exact this
    · obtain rfl : j = ss.length := by simp at hj; omega
      rw [nameIs_at at_new']
      exact eqB_ne (fun e => hn e.symm)
theorem fnd_zz (h' : chk (ss ++ [Str.mk zz fs]) = (p', 0)) : fnd (ss ++ [Str.mk zz fs]) zz = some ss.length := ok_fnd h' (s := ⟨zz, fs⟩) at_new'
theorem tgt_more {t : ByteArray} (ht : t ≠ starZz) : tgt (ss ++ [Str.mk zz fs]) t = tgt ss t := by
  unfold tgt
  cases he : elemO t with
  | none => rfl
  | some n =>
    show fnd _ n = fnd _ n
    refine fnd_more fun e => ht ?_
    rw [(elem_some he).2.2.2, e]; exact star_zz
theorem typ_old (h : chk ss = (p, 0)) (h' : chk (ss ++ [Str.mk zz fs]) = (p', 0)) {i : Nat} {s : Str} (hs : ss[i]? = some s) {f : Fld} (hf : f ∈ s.fields) : f.typ ≠ starZz := by
  intro e
  have ht := ok_type h hs hf
  rw [e, ← star_zz] at ht
  obtain ⟨j, hj⟩ := isT_star (star_star zz) ht
  rw [star_tail] at hj
  obtain ⟨s', hs', hn⟩ := fnd_name hj
  exact no_zz h' hs' hn
theorem rch_lt {t : ByteArray} {i : Nat} (h : Rch ss t i) : i < ss.length := by
  cases h with
  | base h => exact tgt_lt h
  | step _ _ _ h => exact tgt_lt h
theorem rch_up (h : chk ss = (p, 0)) (h' : chk (ss ++ [Str.mk zz fs]) = (p', 0)) {t : ByteArray} (ht : t ≠ starZz) {i : Nat} (hr : Rch ss t i) : Rch (ss ++ [Str.mk zz fs]) t i := by
  induction hr with
  | base hb => exact .base ((tgt_more ht).trans hb)
  | step h1 h2 h3 h4 ih => exact .step ih ((at_old (List.getElem?_eq_some_iff.1 h2).1).trans h2) h3 ((tgt_more (typ_old h h' h2 h3)).trans h4)
theorem rch_down (h : chk ss = (p, 0)) (h' : chk (ss ++ [Str.mk zz fs]) = (p', 0)) {t : ByteArray} (ht : t ≠ starZz) {i : Nat} (hr : Rch (ss ++ [Str.mk zz fs]) t i) : Rch ss t i := by
  induction hr with
  | base hb => exact .base ((tgt_more ht).symm.trans hb)
  | step h1 h2 h3 h4 ih =>
    have hl := rch_lt ih
    rw [at_old hl] at h2
    exact .step ih h2 h3 ((tgt_more (typ_old h h' h2 h3)).symm.trans h4)
theorem names_more (h : chk ss = (p, 0)) (h' : chk (ss ++ [Str.mk zz fs]) = (p', 0)) {t : ByteArray} (ht : t ≠ starZz) {fl fl' : List Bool} (hf : Flags ss t fl) (hf' : Flags (ss ++ [Str.mk zz fs]) t fl') :
    namesOf (ss ++ [Str.mk zz fs]) fl' (ss ++ [Str.mk zz fs]).length = namesOf ss fl ss.length := by
  have hF : Flags (ss ++ [Str.mk zz fs]) t (fl ++ [false]) := by
    refine ⟨by simp [hf.1], fun i => ?_⟩
    constructor
    · intro hi
      refine rch_up h h' ht ((hf.2 i).1 ?_)
      rcases Nat.lt_or_ge i fl.length with hl | hl
      · rwa [List.getElem?_append_left hl] at hi
      · rw [List.getElem?_append_right hl] at hi
        rcases Nat.eq_zero_or_pos (i - fl.length) with h0 | h0
        · rw [h0] at hi; simp at hi
        · rw [List.getElem?_eq_none (by simp; omega)] at hi; cases hi
    · intro hr
      have hr' := rch_down h h' ht hr
      rw [List.getElem?_append_left (by rw [hf.1]; exact rch_lt hr')]
      exact (hf.2 i).2 hr'
  rw [hf'.uniq hF, show (ss ++ [Str.mk zz fs]).length = ss.length + 1 by simp, names_no (by rw [List.getElem?_append_right (by rw [hf.1]; exact Nat.le_refl _), hf.1]; simp)]
  unfold namesOf
  have e1 : (List.range ss.length).filter (fun i => (fl ++ [false]).getD i false) = (List.range ss.length).filter (fun i => fl.getD i false) := by
    apply List.filter_congr
    intro i hi
    rw [List.getD_eq_getElem?_getD, List.getD_eq_getElem?_getD, List.getElem?_append_left (by rw [hf.1]; exact List.mem_range.1 hi)]
  rw [e1]
  apply List.map_congr_left
  intro i hi
  rw [at_old (List.mem_range.1 (List.mem_filter.1 hi).1)]
end

end Go.Proofs.YtpjfooghiclccaaDoor
