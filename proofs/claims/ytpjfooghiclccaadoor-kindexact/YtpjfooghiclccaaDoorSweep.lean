/-
  PLAIN: what sweeps over a row keep, and what they have in the end: who is reached. Nothing of the program stands here. No condition.
-/
import Derived.Test.YtpjfooghiclccaaDoorOkay
namespace Go.Proofs.YtpjfooghiclccaaDoor
open Go.RowKit

def ClosedP (ss : List Str) (fl : List Bool) : Prop := ∀ (i : Nat) (s : Str) (f : Fld) (j : Nat), fl[i]? = some true → ss[i]? = some s → f ∈ s.fields → tgt ss f.typ = some j → fl[j]? = some true
def SoundP (ss : List Str) (t : ByteArray) (fl : List Bool) : Prop := ∀ i : Nat, fl[i]? = some true → Rch ss t i
def MonoP (fl fl' : List Bool) : Prop := ∀ i : Nat, fl[i]? = some true → fl'[i]? = some true
theorem count_mono : ∀ {l l' : List Bool}, l.length = l'.length → MonoP l l' → l.count true ≤ l'.count true := by
  intro l
  induction l with
  | nil => intro l' _ _; simp
  | cons a r ih =>
    intro l' hl hm
    cases l' with
    | nil => simp at hl
    | cons b r' =>
      have h1 := ih (l' := r') (by simpa using hl) (fun i hi => by simpa using hm (i + 1) (by simpa using hi))
      have h0 := hm 0
      cases a <;> cases b <;> simp_all <;> omega
theorem count_more : ∀ {l l' : List Bool} {j : Nat}, l.length = l'.length → MonoP l l' → l[j]? = some false → l'[j]? = some true → l.count true + 1 ≤ l'.count true := by
  intro l
  induction l with
  | nil => intro l' j _ _ h; simp at h
  | cons a r ih =>
    intro l' j hl hm h1 h2
    cases l' with
    | nil => simp at hl
    | cons b r' =>
      have hl' : r.length = r'.length := by simpa using hl
      have hm' : MonoP r r' := fun i hi => by simpa using hm (i + 1) (by simpa using hi)
      cases j with
      | zero =>
        have := count_mono hl' hm'
        simp at h1 h2
        subst h1
        subst h2
        simp; omega
      | succ j =>
        have := ih hl' hm' (j := j) (by simpa using h1) (by simpa using h2)
        have h0 := hm 0
        cases a <;> cases b <;> simp_all <;> omega
theorem set_same {fl : List Bool} {j : Nat} (h : fl[j]? = some true) : fl.set j true = fl := by
  apply List.ext_getElem?
  intro i
  rw [List.getElem?_set]
  split
  · rename_i e
    subst e
    rw [h, if_pos (List.getElem?_eq_some_iff.1 h).1]
  · rfl
theorem count_le (fl : List Bool) : fl.count true ≤ fl.length := List.count_le_length
/-- What a sweep keeps, fl0 at its head. -/
structure Swp (ss : List Str) (t : ByteArray) (fl0 fl : List Bool) : Prop where
  len : fl.length = fl0.length
  mono : MonoP fl0 fl
  sound : SoundP ss t fl
  closed : ClosedP ss fl0 → fl = fl0
theorem Swp.refl {ss : List Str} {t : ByteArray} {fl : List Bool} (h : SoundP ss t fl) : Swp ss t fl fl := ⟨rfl, fun _ h => h, h, fun _ => rfl⟩
theorem Swp.set {ss : List Str} {t : ByteArray} {fl0 fl : List Bool} (h : Swp ss t fl0 fl) {i j : Nat} {s : Str} {f : Fld} (hi : fl[i]? = some true) (hs : ss[i]? = some s) (hf : f ∈ s.fields) (hj : tgt ss f.typ = some j) : Swp ss t fl0 (fl.set j true) where
  len := by rw [List.length_set]; exact h.len
  mono := fun k hk => set_true (h.mono k hk)
  sound := fun k hk => by
    rcases of_set hk with rfl | h1
    · exact .step (h.sound i hi) hs hf hj
    · exact h.sound k h1
  closed := fun hc => by
    have e := h.closed hc
    subst e
    exact set_same (hc i s f j hi hs hf hj)
/-- The fields of struct i, up to k, lead to flagged ones. -/
def DoneF (ss : List Str) (fs : List Fld) (k : Nat) (fl : List Bool) : Prop := ∀ (q : Nat) (f : Fld) (j : Nat), q < k → fs[q]? = some f → tgt ss f.typ = some j → fl[j]? = some true
/-- Those that were flagged at the sweep's head, up to i, lead to flagged ones. -/
def DoneS (ss : List Str) (fl0 : List Bool) (i : Nat) (fl : List Bool) : Prop := ∀ (q : Nat) (s : Str) (f : Fld) (j : Nat), q < i → fl0[q]? = some true → ss[q]? = some s → f ∈ s.fields → tgt ss f.typ = some j → fl[j]? = some true
theorem DoneS.set {ss : List Str} {fl0 fl : List Bool} {i : Nat} (h : DoneS ss fl0 i fl) (j : Nat) : DoneS ss fl0 i (fl.set j true) := fun q s f k a b c d e => set_true (h q s f k a b c d e)
theorem DoneF.set {ss : List Str} {fs : List Fld} {fl : List Bool} {k : Nat} (h : DoneF ss fs k fl) (j : Nat) : DoneF ss fs k (fl.set j true) := fun q f i a b c => set_true (h q f i a b c)
theorem DoneF.next {ss : List Str} {fs : List Fld} {fl : List Bool} {k : Nat} {f : Fld} (h : DoneF ss fs k fl) (hf : fs[k]? = some f) (hn : ∀ j, tgt ss f.typ = some j → fl[j]? = some true) : DoneF ss fs (k + 1) fl := fun q f' j a b c => by
  rcases Nat.lt_or_ge q k with h1 | h1
  · exact h q f' j h1 b c
  · obtain rfl : q = k := by omega
    rw [hf] at b
    obtain rfl := Option.some.inj b
    exact hn j c
theorem DoneS.next {ss : List Str} {fl0 fl : List Bool} {i : Nat} {s : Str} (h : DoneS ss fl0 i fl) (hs : ss[i]? = some s) (hd : fl0[i]? = some true → DoneF ss s.fields s.fields.length fl) : DoneS ss fl0 (i + 1) fl := fun q s' f j a b c d e => by
  rcases Nat.lt_or_ge q i with h1 | h1
  · exact h q s' f j h1 b c d e
  · obtain rfl : q = i := by omega
    rw [hs] at c
    obtain rfl := Option.some.inj c
    obtain ⟨k, hk, rfl⟩ := List.mem_iff_getElem.1 d
    exact hd b k _ j hk (List.getElem?_eq_getElem hk) e
/-- Closed, or so many. -/
def FarP (ss : List Str) (fl : List Bool) (n : Nat) : Prop := ClosedP ss fl ∨ n + 1 ≤ fl.count true
theorem far_next {ss : List Str} {t : ByteArray} {fl0 fl : List Bool} {n : Nat} (hlen : fl0.length = ss.length) (h0 : FarP ss fl0 n) (h : Swp ss t fl0 fl) (hd : DoneS ss fl0 ss.length fl) : FarP ss fl (n + 1) := by
  by_cases hc : ClosedP ss fl0
  · rw [h.closed hc]; exact .inl hc
  · refine .inr ?_
    have h1 : n + 1 ≤ fl0.count true := h0.resolve_left hc
    unfold ClosedP at hc
    simp only [Classical.not_forall] at hc
    obtain ⟨i, s, f, j, a, b, c, d, e⟩ := hc
    have hj := tgt_lt d
    have hf : fl0[j]? = some false := by
      cases hx : fl0[j]? with
      | none => rw [List.getElem?_eq_none_iff] at hx; omega
      | some v => cases v with
        | false => rfl
        | true => exact absurd hx e
    have := count_more h.len.symm h.mono hf (hd i s f j (List.getElem?_eq_some_iff.1 b).1 a b c d)
    omega
theorem far_done {ss : List Str} {t : ByteArray} {fl : List Bool} (hlen : fl.length = ss.length) (h : FarP ss fl ss.length) (hs : SoundP ss t fl) {j : Nat} (hj : tgt ss t = some j) (hfj : fl[j]? = some true) : Flags ss t fl := by
  have hc : ClosedP ss fl := by
    rcases h with h | h
    · exact h
    · have := count_le fl; omega
  refine ⟨hlen, fun i => ⟨hs i, closed_rch (fun k hk => ?_) hc⟩⟩
  rw [hj] at hk
  exact Option.some.inj hk ▸ hfj
theorem none_flags {ss : List Str} {t : ByteArray} (h : tgt ss t = none) : Flags ss t (List.replicate ss.length false) := by
  refine ⟨List.length_replicate, fun i => ⟨fun hi => ?_, fun hr => absurd hr (no_rch h)⟩⟩
  rw [List.getElem?_replicate] at hi
  split at hi
  · simp at hi
  · cases hi

end Go.Proofs.YtpjfooghiclccaaDoor
