/-
  PLAIN: functions that say what the functions of package kind answer, over lists; and facts about them. Nothing of the program stands here. No condition.
-/
import Derived.Test.YtjgmhkplgenieaaDoorLex
namespace Go.Proofs.YtjgmhkplgenieaaDoor
open Go.RowKit

structure Fld where
  name : ByteArray
  typ : ByteArray
structure Str where
  name : ByteArray
  fields : List Fld

def eqB (a b : ByteArray) : Bool := a.data.toList == b.data.toList
theorem eqB_iff {a b : ByteArray} : eqB a b = true ↔ a = b := by
  unfold eqB; rw [beq_iff_eq]
  exact ⟨Go.WideShapes.bytes_inj, fun h => by rw [h]⟩
theorem eqB_ne {a b : ByteArray} (h : a ≠ b) : eqB a b = false := by
  cases he : eqB a b with
  | false => rfl
  | true => exact absurd (eqB_iff.1 he) h
theorem eqB_spell {a b : ByteArray} {x : Bool} (h : eqB a b = x) : (a.toList == b.toList) = x := by
  rw [ByteArray.toList_eq, ByteArray.toList_eq]; exact h

/-- The first place from k on at which f is true, of n. -/
def fstN (f : Nat → Bool) : Nat → Nat → Option Nat
  | 0, _ => none
  | m + 1, k => if f k then some k else fstN f m (k + 1)
def fst (f : Nat → Bool) (n k : Nat) : Option Nat := fstN f (n - k) k
theorem fst_end {f : Nat → Bool} {n k : Nat} (h : n ≤ k) : fst f n k = none := by
  unfold fst; rw [show n - k = 0 by omega]; rfl
theorem fst_hit {f : Nat → Bool} {n k : Nat} (h : k < n) (hf : f k = true) : fst f n k = some k := by
  unfold fst; rw [show n - k = (n - (k + 1)) + 1 by omega, fstN, if_pos hf]
theorem fst_next {f : Nat → Bool} {n k : Nat} (h : k < n) (hf : f k = false) : fst f n k = fst f n (k + 1) := by
  unfold fst; rw [show n - k = (n - (k + 1)) + 1 by omega, fstN, if_neg (by rw [hf]; decide)]
theorem fst_some {f : Nat → Bool} {n k i : Nat} (h : fst f n k = some i) : k ≤ i ∧ i < n ∧ f i = true ∧ ∀ j, k ≤ j → j < i → f j = false := by
  induction hm : n - k generalizing k with
  | zero => rw [fst_end (by omega)] at h; cases h
  | succ m ih =>
    cases hf : f k with
    | true =>
      rw [fst_hit (by omega) hf] at h
      obtain rfl := Option.some.inj h
      exact ⟨Nat.le_refl _, by omega, hf, fun j h1 h2 => by omega⟩
    | false =>
      rw [fst_next (by omega) hf] at h
      obtain ⟨a, b, c, d⟩ := ih h (by omega)
      refine ⟨by omega, b, c, fun j h1 h2 => ?_⟩
      rcases Nat.eq_or_lt_of_le h1 with e | e
      · exact e ▸ hf
      · exact d j e h2
theorem fst_none {f : Nat → Bool} {n k : Nat} (h : fst f n k = none) : ∀ j, k ≤ j → j < n → f j = false := by
  induction hm : n - k generalizing k with
  | zero => intro j h1 h2; omega
  | succ m ih =>
    cases hf : f k with
    | true => rw [fst_hit (by omega) hf] at h; cases h
    | false =>
      rw [fst_next (by omega) hf] at h
      intro j h1 h2
      rcases Nat.eq_or_lt_of_le h1 with e | e
      · exact e ▸ hf
      · exact ih h (by omega) j e h2
theorem fst_of {f : Nat → Bool} {n k i : Nat} (h1 : k ≤ i) (h2 : i < n) (h3 : f i = true) (h4 : ∀ j, k ≤ j → j < i → f j = false) : fst f n k = some i := by
  induction hm : i - k generalizing k with
  | zero =>
    obtain rfl : k = i := by omega
    exact fst_hit h2 h3
  | succ m ih =>
    rw [fst_next (by omega) (h4 k (Nat.le_refl _) (by omega))]
    exact ih (by omega) (fun j a b => h4 j (by omega) b) (by omega)
theorem fst_none_of {f : Nat → Bool} {n k : Nat} (h : ∀ j, k ≤ j → j < n → f j = false) : fst f n k = none := by
  cases hf : fst f n k with
  | none => rfl
  | some i =>
    obtain ⟨a, b, c, _⟩ := fst_some hf
    rw [h i a b] at c; cases c

def nameIs (ss : List Str) (n : ByteArray) (i : Nat) : Bool := match ss[i]? with | some s => eqB s.name n | none => false
def fldIs (fs : List Fld) (n : ByteArray) (k : Nat) : Bool := match fs[k]? with | some f => eqB f.name n | none => false
theorem nameIs_at {ss : List Str} {n : ByteArray} {i : Nat} {s : Str} (h : ss[i]? = some s) : nameIs ss n i = eqB s.name n := by unfold nameIs; rw [h]
theorem fldIs_at {fs : List Fld} {n : ByteArray} {k : Nat} {f : Fld} (h : fs[k]? = some f) : fldIs fs n k = eqB f.name n := by unfold fldIs; rw [h]
/-- The first struct, field of that name. -/
def fnd (ss : List Str) (n : ByteArray) : Option Nat := fst (nameIs ss n) ss.length 0
def plc (fs : List Fld) (n : ByteArray) : Option Nat := fst (fldIs fs n) fs.length 0

def starB (t : ByteArray) : Bool := Lib.hasPrefix t.data.toList [42]
def tailOf (t : ByteArray) : ByteArray := t.extract 1 t.size
def elemO (t : ByteArray) : Option ByteArray := if starB t && wordB (tailOf t).data.toList then some (tailOf t) else none
def tInt : ByteArray := ⟨#[105, 110, 116]⟩
def tBool : ByteArray := ⟨#[98, 111, 111, 108]⟩
def isT (ss : List Str) (t : ByteArray) : Bool := eqB t tInt || eqB t tBool || (starB t && (fnd ss (tailOf t)).isSome)

/-- The first nonzero from k on, with its place. -/
def firN (g : Nat → Nat) : Nat → Nat → Nat × Nat
  | 0, _ => (0, 0)
  | m + 1, k => if g k = 0 then firN g m (k + 1) else (k, g k)
def fir (g : Nat → Nat) (n k : Nat) : Nat × Nat := firN g (n - k) k
theorem fir_end {g : Nat → Nat} {n k : Nat} (h : n ≤ k) : fir g n k = (0, 0) := by unfold fir; rw [show n - k = 0 by omega]; rfl
theorem fir_hit {g : Nat → Nat} {n k : Nat} (h : k < n) (hf : g k ≠ 0) : fir g n k = (k, g k) := by
  unfold fir; rw [show n - k = (n - (k + 1)) + 1 by omega, firN, if_neg hf]
theorem fir_next {g : Nat → Nat} {n k : Nat} (h : k < n) (hf : g k = 0) : fir g n k = fir g n (k + 1) := by
  unfold fir; rw [show n - k = (n - (k + 1)) + 1 by omega, firN, if_pos hf]
theorem fir_ok {g : Nat → Nat} {n k : Nat} (h : (fir g n k).2 = 0) : ∀ j, k ≤ j → j < n → g j = 0 := by
  induction hm : n - k generalizing k with
  | zero => intro j h1 h2; omega
  | succ m ih =>
    by_cases hf : g k = 0
    · rw [fir_next (by omega) hf] at h
      intro j h1 h2
      rcases Nat.eq_or_lt_of_le h1 with e | e
      · exact e ▸ hf
      · exact ih h (by omega) j e h2
    · rw [fir_hit (by omega) hf] at h; exact absurd h hf
theorem fir_ext {g g' : Nat → Nat} {n k : Nat} (h : ∀ j, k ≤ j → j < n → g j = g' j) : fir g n k = fir g' n k := by
  induction hm : n - k generalizing k with
  | zero => rw [fir_end (by omega), fir_end (by omega)]
  | succ m ih =>
    have e := h k (Nat.le_refl _) (by omega)
    by_cases hf : g k = 0
    · rw [fir_next (by omega) hf, fir_next (g := g') (k := k) (by omega) (by rw [← e]; exact hf)]
      exact ih (fun j a b => h j (by omega) b) (by omega)
    · rw [fir_hit (by omega) hf, fir_hit (g := g') (k := k) (by omega) (by rw [← e]; exact hf), e]

/-- What is wrong with a field, a struct, a row: 0 is nothing. -/
def chkF (ss : List Str) (fs : List Fld) (k : Nat) : Nat := match fs[k]? with
  | none => 0
  | some f => if wordB f.name.data.toList = false then 1 else if plc fs f.name = some k then (if isT ss f.typ then 0 else 7) else 6
def chkS (ss : List Str) (i : Nat) : Nat := match ss[i]? with
  | none => 0
  | some s => if wordB s.name.data.toList = false then 1 else if (fnd (ss.take i) s.name).isSome then 6 else if 8 < s.fields.length then 4 else (fir (chkF ss s.fields) s.fields.length 0).2
def chk (ss : List Str) : Nat × Nat := if 12 < ss.length then (0, 4) else fir (chkS ss) ss.length 0

/-- The places of the links. -/
def linkB (fs : List Fld) (k : Nat) : Bool := match fs[k]? with | some f => (elemO f.typ).isSome | none => false
def links (fs : List Fld) (n : Nat) : List Nat := (List.range n).filter (linkB fs)
theorem links_succ_yes {fs : List Fld} {n : Nat} (h : linkB fs n = true) : links fs (n + 1) = links fs n ++ [n] := by
  unfold links; rw [List.range_succ, List.filter_append]; simp [h]
theorem links_succ_no {fs : List Fld} {n : Nat} (h : linkB fs n = false) : links fs (n + 1) = links fs n := by
  unfold links; rw [List.range_succ, List.filter_append]; simp [h]
theorem links_len (fs : List Fld) (n : Nat) : (links fs n).length ≤ n := by
  unfold links; have := List.length_filter_le (linkB fs) (List.range n); simpa using this

def tgt (ss : List Str) (t : ByteArray) : Option Nat := (elemO t).bind (fnd ss)

end Go.Proofs.YtjgmhkplgenieaaDoor
