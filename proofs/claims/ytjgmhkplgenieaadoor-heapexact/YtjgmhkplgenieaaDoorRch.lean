/-
  PLAIN: who is reached; what a search with a stack keeps, and what it has in the end. Nothing of the program stands here. No condition.
-/
import Derived.Test.YtjgmhkplgenieaaDoorKinds
namespace Go.Proofs.YtjgmhkplgenieaaDoor
open Go.RowKit

/-- Who is reached from a type. -/
inductive Rch (ss : List Str) (t : ByteArray) : Nat → Prop
  | base {i : Nat} : tgt ss t = some i → Rch ss t i
  | step {i j : Nat} {s : Str} {f : Fld} : Rch ss t i → ss[i]? = some s → f ∈ s.fields → tgt ss f.typ = some j → Rch ss t j
structure DfsInv (ss : List Str) (t : ByteArray) (fl : List Bool) (ws : List ByteArray) : Prop where
  len : fl.length = ss.length
  a : ∀ i, fl[i]? = some true → Rch ss t i
  b : ∀ x ∈ ws, ∀ j, tgt ss x = some j → Rch ss t j
  c : ∀ j, tgt ss t = some j → t ∈ ws ∨ fl[j]? = some true
  d : ∀ (i : Nat) (s : Str) (f : Fld) (j : Nat), fl[i]? = some true → ss[i]? = some s → f ∈ s.fields → tgt ss f.typ = some j → f.typ ∈ ws ∨ fl[j]? = some true

theorem fnd_lt {ss : List Str} {n : ByteArray} {i : Nat} (h : fnd ss n = some i) : i < ss.length := (fst_some h).2.1
theorem fnd_name {ss : List Str} {n : ByteArray} {i : Nat} (h : fnd ss n = some i) : ∃ s, ss[i]? = some s ∧ s.name = n := by
  obtain ⟨_, hl, hn, _⟩ := fst_some h
  refine ⟨ss[i], List.getElem?_eq_getElem hl, ?_⟩
  rw [nameIs_at (List.getElem?_eq_getElem hl)] at hn
  exact eqB_iff.1 hn
theorem tgt_lt {ss : List Str} {t : ByteArray} {i : Nat} (h : tgt ss t = some i) : i < ss.length := by
  unfold tgt at h
  obtain ⟨n, _, hn⟩ := Option.bind_eq_some_iff.1 h
  exact fnd_lt hn
theorem tgt_elem {ss : List Str} {t : ByteArray} {i : Nat} (h : tgt ss t = some i) : ∃ n, elemO t = some n ∧ fnd ss n = some i := by
  unfold tgt at h
  exact Option.bind_eq_some_iff.1 h

theorem DfsInv.start (ss : List Str) (t : ByteArray) : DfsInv ss t (List.replicate ss.length false) [t] where
  len := List.length_replicate
  a := fun i h => by
    rw [List.getElem?_replicate] at h
    split at h
    · simp at h
    · cases h
  b := fun x hx j h => by
    rw [List.mem_singleton.1 hx] at h
    exact .base h
  c := fun j h => Or.inl (by simp)
  d := fun i s f j h => by
    rw [List.getElem?_replicate] at h
    split at h
    · simp at h
    · cases h

theorem DfsInv.popNone {ss : List Str} {t : ByteArray} {fl : List Bool} {ws : List ByteArray} {x : ByteArray} (h : DfsInv ss t fl (ws ++ [x])) (hx : tgt ss x = none) : DfsInv ss t fl ws where
  len := h.len
  a := h.a
  b := fun y hy => h.b y (List.mem_append_left _ hy)
  c := fun j hj => by
    rcases h.c j hj with h1 | h1
    · rcases List.mem_append.1 h1 with h2 | h2
      · exact .inl h2
      · rw [List.mem_singleton.1 h2, hx] at hj; cases hj
    · exact .inr h1
  d := fun i s f j h1 h2 h3 h4 => by
    rcases h.d i s f j h1 h2 h3 h4 with h5 | h5
    · rcases List.mem_append.1 h5 with h6 | h6
      · exact .inl h6
      · rw [List.mem_singleton.1 h6, hx] at h4; cases h4
    · exact .inr h5
theorem DfsInv.popOld {ss : List Str} {t : ByteArray} {fl : List Bool} {ws : List ByteArray} {x : ByteArray} {q : Nat} (h : DfsInv ss t fl (ws ++ [x])) (hx : tgt ss x = some q) (hq : fl[q]? = some true) : DfsInv ss t fl ws where
  len := h.len
  a := h.a
  b := fun y hy => h.b y (List.mem_append_left _ hy)
  c := fun j hj => by
    rcases h.c j hj with h1 | h1
    · rcases List.mem_append.1 h1 with h2 | h2
      · exact .inl h2
      · rw [List.mem_singleton.1 h2, hx] at hj
        exact .inr (Option.some.inj hj ▸ hq)
    · exact .inr h1
  d := fun i s f j h1 h2 h3 h4 => by
    rcases h.d i s f j h1 h2 h3 h4 with h5 | h5
    · rcases List.mem_append.1 h5 with h6 | h6
      · exact .inl h6
      · rw [List.mem_singleton.1 h6, hx] at h4
        exact .inr (Option.some.inj h4 ▸ hq)
    · exact .inr h5

def typAt (fs : List Fld) (k : Nat) : ByteArray := match fs[k]? with | some f => f.typ | none => ⟨#[]⟩
theorem mem_links {fs : List Fld} {f : Fld} (h : f ∈ fs) {n : ByteArray} (he : elemO f.typ = some n) : f.typ ∈ (links fs fs.length).map (typAt fs) := by
  obtain ⟨k, hk, rfl⟩ := List.mem_iff_getElem.1 h
  refine List.mem_map.2 ⟨k, ?_, ?_⟩
  · unfold links
    rw [List.mem_filter]
    refine ⟨List.mem_range.2 hk, ?_⟩
    unfold linkB
    rw [List.getElem?_eq_getElem hk]
    simp [he]
  · unfold typAt
    rw [List.getElem?_eq_getElem hk]
theorem of_mem_links {fs : List Fld} {x : ByteArray} (h : x ∈ (links fs fs.length).map (typAt fs)) : ∃ f ∈ fs, f.typ = x := by
  obtain ⟨k, hk, rfl⟩ := List.mem_map.1 h
  unfold links at hk
  rw [List.mem_filter] at hk
  have hl := List.mem_range.1 hk.1
  refine ⟨fs[k], List.getElem_mem hl, ?_⟩
  unfold typAt
  rw [List.getElem?_eq_getElem hl]

theorem set_true {fl : List Bool} {q i : Nat} (h : fl[i]? = some true) : (fl.set q true)[i]? = some true := by
  rw [List.getElem?_set]
  have := (List.getElem?_eq_some_iff.1 h).1
  split
  · subst_vars; simp [this]
  · exact h
theorem set_at {fl : List Bool} {q : Nat} (h : q < fl.length) : (fl.set q true)[q]? = some true := by simp [h]
theorem of_set {fl : List Bool} {q i : Nat} (h : (fl.set q true)[i]? = some true) : i = q ∨ fl[i]? = some true := by
  rw [List.getElem?_set] at h
  split at h
  · subst_vars; exact .inl rfl
  · exact .inr h

theorem DfsInv.popNew {ss : List Str} {t : ByteArray} {fl : List Bool} {ws : List ByteArray} {x : ByteArray} {q : Nat} {s : Str} (h : DfsInv ss t fl (ws ++ [x])) (hx : tgt ss x = some q) (hs : ss[q]? = some s) :
    DfsInv ss t (fl.set q true) (ws ++ (links s.fields s.fields.length).map (typAt s.fields)) := by
  have hq : q < fl.length := by rw [h.len]; exact tgt_lt hx
  have hr : Rch ss t q := h.b x (by simp) q hx
  refine ⟨by rw [List.length_set]; exact h.len, fun i hi => ?_, fun y hy j hj => ?_, fun j hj => ?_, fun i s' f j h1 h2 h3 h4 => ?_⟩
  · rcases of_set hi with rfl | h1
    · exact hr
    · exact h.a i h1
  · rcases List.mem_append.1 hy with h1 | h1
    · exact h.b y (List.mem_append_left _ h1) j hj
    · obtain ⟨f, hf, rfl⟩ := of_mem_links h1
      exact .step hr hs hf hj
  · rcases h.c j hj with h1 | h1
    · rcases List.mem_append.1 h1 with h2 | h2
      · exact .inl (List.mem_append_left _ h2)
      · rw [List.mem_singleton.1 h2, hx] at hj
        exact .inr (Option.some.inj hj ▸ set_at hq)
    · exact .inr (set_true h1)
  · rcases of_set h1 with rfl | h5
    · rw [hs] at h2
      obtain rfl := Option.some.inj h2
      obtain ⟨n, hn, _⟩ := tgt_elem h4
      exact .inl (List.mem_append_right _ (mem_links h3 hn))
    · rcases h.d i s' f j h5 h2 h3 h4 with h6 | h6
      · rcases List.mem_append.1 h6 with h7 | h7
        · exact .inl (List.mem_append_left _ h7)
        · rw [List.mem_singleton.1 h7, hx] at h4
          exact .inr (Option.some.inj h4 ▸ set_at hq)
      · exact .inr (set_true h6)

/-- Flags that are closed, sound and have the first. -/
theorem closed_rch {ss : List Str} {t : ByteArray} {fl : List Bool} (c : ∀ j, tgt ss t = some j → fl[j]? = some true)
    (d : ∀ (i : Nat) (s : Str) (f : Fld) (j : Nat), fl[i]? = some true → ss[i]? = some s → f ∈ s.fields → tgt ss f.typ = some j → fl[j]? = some true) {i : Nat} (h : Rch ss t i) : fl[i]? = some true := by
  induction h with
  | base h => exact c _ h
  | step _ h2 h3 h4 ih => exact d _ _ _ _ ih h2 h3 h4
def Flags (ss : List Str) (t : ByteArray) (fl : List Bool) : Prop := fl.length = ss.length ∧ ∀ i, fl[i]? = some true ↔ Rch ss t i
theorem DfsInv.done {ss : List Str} {t : ByteArray} {fl : List Bool} (h : DfsInv ss t fl []) : Flags ss t fl :=
  ⟨h.len, fun i => ⟨h.a i, closed_rch (fun j hj => (h.c j hj).resolve_left (by simp)) (fun i s f j h1 h2 h3 h4 => (h.d i s f j h1 h2 h3 h4).resolve_left (by simp))⟩⟩
theorem Flags.uniq {ss : List Str} {t : ByteArray} {fl fl' : List Bool} (h : Flags ss t fl) (h' : Flags ss t fl') : fl = fl' := by
  apply List.ext_getElem?
  intro i
  by_cases hi : i < ss.length
  · have e1 := List.getElem?_eq_getElem (l := fl) (i := i) (by rw [h.1]; exact hi)
    have e2 := List.getElem?_eq_getElem (l := fl') (i := i) (by rw [h'.1]; exact hi)
    have k := (h.2 i).trans (h'.2 i).symm
    rw [e1, e2] at k ⊢
    cases h1 : fl[i]'(by rw [h.1]; exact hi) <;> cases h2 : fl'[i]'(by rw [h'.1]; exact hi) <;> simp_all
  · rw [List.getElem?_eq_none (by rw [h.1]; omega), List.getElem?_eq_none (by rw [h'.1]; omega)]

theorem count_set {fl : List Bool} {q : Nat} (h : fl[q]? = some false) : (fl.set q true).count false + 1 = fl.count false := by
  obtain ⟨hq, e⟩ := List.getElem?_eq_some_iff.1 h
  have hp : 0 < fl.count false := List.count_pos_iff.2 (e ▸ List.getElem_mem hq)
  rw [List.count_set hq, e]
  simp
  omega
theorem count_range (fl : List Bool) (p : Nat → Bool) (n : Nat) (hn : n ≤ fl.length) (h : ∀ i b, i < n → fl[i]? = some b → p i = !b) : ((List.range n).filter p).length = (fl.take n).count false := by
  induction n with
  | zero => simp
  | succ n ih =>
    have hl : n < fl.length := by omega
    have hp := h n fl[n] (by omega) (List.getElem?_eq_getElem hl)
    rw [List.range_succ, List.filter_append, List.length_append, ih (by omega) (fun i b hi hb => h i b (by omega) hb), List.take_succ_eq_append_getElem hl, List.count_append]
    congr 1
    cases hb : fl[n] <;> simp [hp, hb]

/-- The names of those that are flagged, of the first k. -/
def namesOf (ss : List Str) (fl : List Bool) (k : Nat) : List ByteArray := ((List.range k).filter fun i => fl.getD i false).map fun i => match ss[i]? with | some s => s.name | none => ⟨#[]⟩
theorem names_yes {ss : List Str} {fl : List Bool} {k : Nat} {s : Str} (h : fl[k]? = some true) (hs : ss[k]? = some s) : namesOf ss fl (k + 1) = namesOf ss fl k ++ [s.name] := by
  unfold namesOf
  rw [List.range_succ, List.filter_append, List.map_append]
  simp [h, hs]
theorem names_no {ss : List Str} {fl : List Bool} {k : Nat} (h : fl[k]? = some false) : namesOf ss fl (k + 1) = namesOf ss fl k := by
  unfold namesOf
  rw [List.range_succ, List.filter_append, List.map_append]
  simp [h]
theorem names_len (ss : List Str) (fl : List Bool) (k : Nat) : (namesOf ss fl k).length ≤ k := by
  unfold namesOf
  rw [List.length_map]
  have := List.length_filter_le (fun i => fl.getD i false) (List.range k)
  simpa using this
theorem mem_names {ss : List Str} {fl : List Bool} {k : Nat} {x : ByteArray} : x ∈ namesOf ss fl k ↔ ∃ i s, i < k ∧ fl.getD i false = true ∧ (match ss[i]? with | some s => s.name | none => ⟨#[]⟩) = x ∧ s = i := by
  unfold namesOf
  simp only [List.mem_map, List.mem_filter, List.mem_range]
  constructor
  · rintro ⟨i, ⟨h1, h2⟩, h3⟩; exact ⟨i, i, h1, h2, h3, rfl⟩
  · rintro ⟨i, _, h1, h2, h3, _⟩; exact ⟨i, ⟨h1, h2⟩, h3⟩
theorem names_mem {ss : List Str} {t : ByteArray} {fl : List Bool} (h : Flags ss t fl) {x : ByteArray} : x ∈ namesOf ss fl ss.length ↔ ∃ i s, Rch ss t i ∧ ss[i]? = some s ∧ s.name = x := by
  rw [mem_names]
  constructor
  · rintro ⟨i, _, h1, h2, h3, _⟩
    have hi : i < fl.length := by rw [h.1]; exact h1
    have e : fl[i]? = some true := by
      rw [List.getD_eq_getElem?_getD, List.getElem?_eq_getElem hi] at h2
      rw [List.getElem?_eq_getElem hi]
      exact congrArg some h2
    rw [List.getElem?_eq_getElem h1] at h3
    exact ⟨i, ss[i], (h.2 i).1 e, List.getElem?_eq_getElem h1, h3⟩
  · rintro ⟨i, s, h1, h2, h3⟩
    have e := (h.2 i).2 h1
    refine ⟨i, i, (List.getElem?_eq_some_iff.1 h2).1, by rw [List.getD_eq_getElem?_getD, e]; rfl, by rw [h2]; exact h3, rfl⟩

end Go.Proofs.YtjgmhkplgenieaaDoor
