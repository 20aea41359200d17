/-
  PLAIN: structs that can be: what follows for names, types and who is reached. Nothing of the program stands here. No condition.
-/
import Derived.Test.YtjgmhkplgenieaaDoorRch
import Derived.Test.YtjgmhkplgenieaaDoorRefElem
namespace Go.Proofs.YtjgmhkplgenieaaDoor
open Go.RowKit

theorem ok_len {ss : List Str} {p : Nat} (h : chk ss = (p, 0)) : ss.length ≤ 12 := by
  unfold chk at h
  split at h
  · cases h
  · omega
theorem ok_chkS {ss : List Str} {p : Nat} (h : chk ss = (p, 0)) {i : Nat} (hi : i < ss.length) : chkS ss i = 0 := by
  unfold chk at h
  split at h
  · cases h
  · exact fir_ok (g := chkS ss) (n := ss.length) (k := 0) (by rw [h]) i (Nat.zero_le _) hi
theorem ok_struct {ss : List Str} {p : Nat} (h : chk ss = (p, 0)) {i : Nat} {s : Str} (hs : ss[i]? = some s) :
    wordB s.name.data.toList = true ∧ fnd (ss.take i) s.name = none ∧ s.fields.length ≤ 8 ∧ ∀ k, k < s.fields.length → chkF ss s.fields k = 0 := by
  have h0 := ok_chkS h (List.getElem?_eq_some_iff.1 hs).1
  unfold chkS at h0
  rw [hs] at h0
  simp only at h0
  split at h0
  · cases h0
  · split at h0
    · cases h0
    · split at h0
      · cases h0
      · rename_i a b c
        refine ⟨by simpa using a, by simpa using b, by omega, fun k hk => fir_ok h0 k (Nat.zero_le _) hk⟩
theorem ok_field {ss : List Str} {fs : List Fld} {k : Nat} {f : Fld} (h : chkF ss fs k = 0) (hf : fs[k]? = some f) : wordB f.name.data.toList = true ∧ isT ss f.typ = true := by
  unfold chkF at h
  rw [hf] at h
  simp only at h
  split at h
  · cases h
  · split at h
    · split at h
      · rename_i a b c
        exact ⟨by simpa using a, c⟩
      · cases h
    · cases h
theorem ok_type {ss : List Str} {p : Nat} (h : chk ss = (p, 0)) {i : Nat} {s : Str} (hs : ss[i]? = some s) {f : Fld} (hf : f ∈ s.fields) : isT ss f.typ = true := by
  obtain ⟨k, hk, rfl⟩ := List.mem_iff_getElem.1 hf
  exact (ok_field ((ok_struct h hs).2.2.2 k hk) (List.getElem?_eq_getElem hk)).2
theorem fnd_none_take {ss : List Str} {n : ByteArray} {i j : Nat} {s : Str} (h : fnd (ss.take i) n = none) (hj : j < i) (hs : ss[j]? = some s) : s.name ≠ n := by
  intro e
  have hl := (List.getElem?_eq_some_iff.1 hs).1
  have := fst_none h j (Nat.zero_le _) (by rw [List.length_take]; omega)
  rw [nameIs_at (s := s) (by rw [List.getElem?_take, if_pos hj]; exact hs), eqB_iff.2 e] at this
  cases this
theorem fnd_self {ss : List Str} {i : Nat} {s : Str} (hs : ss[i]? = some s) (h : fnd (ss.take i) s.name = none) : fnd ss s.name = some i := by
  refine fst_of (Nat.zero_le _) (List.getElem?_eq_some_iff.1 hs).1 (by rw [nameIs_at hs]; exact eqB_iff.2 rfl) fun j _ hj => ?_
  have hl : j < ss.length := by have := (List.getElem?_eq_some_iff.1 hs).1; omega
  rw [nameIs_at (List.getElem?_eq_getElem hl)]
  exact eqB_ne (fnd_none_take h hj (List.getElem?_eq_getElem hl))
theorem ok_fnd {ss : List Str} {p : Nat} (h : chk ss = (p, 0)) {i : Nat} {s : Str} (hs : ss[i]? = some s) : fnd ss s.name = some i := fnd_self hs (ok_struct h hs).2.1

theorem star_list (n : ByteArray) : (starT ++ n).data.toList = 42 :: n.data.toList := by
  rw [ByteArray.data_append, Array.toList_append]; rfl
theorem star_star (n : ByteArray) : starB (starT ++ n) = true := by
  unfold starB; rw [star_list]
  unfold Lib.hasPrefix
  simp [List.isPrefixOf]
theorem star_tail (n : ByteArray) : tailOf (starT ++ n) = n := by
  apply Go.WideShapes.bytes_inj
  unfold tailOf
  rw [ByteArray.data_extract, Array.toList_extract, List.extract_eq_take_drop, star_list, ← len_size, star_list]
  simp
  exact List.take_of_length_le (by rw [len_size]; exact Nat.le_refl _)
theorem star_elem {n : ByteArray} (h : wordB n.data.toList = true) : elemO (starT ++ n) = some n := by
  unfold elemO; rw [star_star, star_tail, h]; rfl
theorem star_is {ss : List Str} {n : ByteArray} {i : Nat} (h : fnd ss n = some i) : isT ss (starT ++ n) = true := by
  unfold isT; rw [star_star, star_tail, h]; simp
theorem star_of {t : ByteArray} (h : starB t = true) : t = starT ++ tailOf t := by
  apply Go.WideShapes.bytes_inj
  rw [star_list]
  have hp := star_size h
  obtain ⟨r, hr⟩ := head_at t hp
  have h0 : t[0] = 42 := by
    have := star_head t hp
    rw [h] at this
    exact UInt8.toNat_inj.1 (of_decide_eq_true this.symm)
  unfold tailOf
  rw [ByteArray.data_extract, Array.toList_extract, List.extract_eq_take_drop, hr, ← len_size, hr, h0]
  simp
theorem elem_some {t n : ByteArray} (h : elemO t = some n) : starB t = true ∧ n = tailOf t ∧ wordB n.data.toList = true ∧ t = starT ++ n := by
  unfold elemO at h
  split at h
  · rename_i a
    rw [Bool.and_eq_true] at a
    obtain rfl := Option.some.inj h
    exact ⟨a.1, rfl, a.2, star_of a.1⟩
  · cases h
theorem star_nint {t : ByteArray} (h : starB t = true) : eqB t tInt = false ∧ eqB t tBool = false := by
  constructor
  · refine eqB_ne fun e => ?_
    rw [e] at h; revert h; decide
  · refine eqB_ne fun e => ?_
    rw [e] at h; revert h; decide
theorem isT_star {ss : List Str} {t : ByteArray} (h : starB t = true) (ht : isT ss t = true) : ∃ i, fnd ss (tailOf t) = some i := by
  unfold isT at ht
  rw [(star_nint h).1, (star_nint h).2, h] at ht
  simpa using Option.isSome_iff_exists.1 (by simpa using ht)
theorem tgt_star {ss : List Str} {n : ByteArray} {i : Nat} (hw : wordB n.data.toList = true) (h : fnd ss n = some i) : tgt ss (starT ++ n) = some i := by
  unfold tgt; rw [star_elem hw]; exact h
theorem link_to {ss : List Str} {p : Nat} (h : chk ss = (p, 0)) {i : Nat} {s : Str} (hs : ss[i]? = some s) {f : Fld} (hf : f ∈ s.fields) {n : ByteArray} (he : elemO f.typ = some n) : ∃ j, fnd ss n = some j ∧ tgt ss f.typ = some j := by
  obtain ⟨h1, h2, h3, h4⟩ := elem_some he
  obtain ⟨j, hj⟩ := isT_star h1 (ok_type h hs hf)
  rw [← h2] at hj
  exact ⟨j, hj, by unfold tgt; rw [he]; exact hj⟩
theorem link_elem {fs : List Fld} {n k p : Nat} (h : (links fs n)[k]? = some p) : ∃ f x, fs[p]? = some f ∧ elemO f.typ = some x := by
  have hm := List.mem_of_getElem? h
  unfold links at hm
  rw [List.mem_filter] at hm
  have := hm.2
  unfold linkB at this
  cases hf : fs[p]? with
  | none => rw [hf] at this; cases this
  | some f =>
    rw [hf] at this
    obtain ⟨x, hx⟩ := Option.isSome_iff_exists.1 this
    exact ⟨f, x, rfl, hx⟩
theorem no_rch {ss : List Str} {t : ByteArray} (h : tgt ss t = none) {i : Nat} : ¬ Rch ss t i := by
  intro hr
  induction hr with
  | base hb => rw [h] at hb; cases hb
  | step _ _ _ _ ih => exact ih
theorem no_names {ss : List Str} {t : ByteArray} {fl : List Bool} (hf : Flags ss t fl) (h : tgt ss t = none) : namesOf ss fl ss.length = [] := by
  cases hn : namesOf ss fl ss.length with
  | nil => rfl
  | cons x r =>
    obtain ⟨i, _, hr, _⟩ := (names_mem hf (x := x)).1 (by rw [hn]; simp)
    exact absurd hr (no_rch h)

end Go.Proofs.YtjgmhkplgenieaaDoor
