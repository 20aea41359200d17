/-
  PLAIN: who is found by a search with a queue and flags. No condition.
-/
import Derived.Test.YtjgmhkplgenieaaDoorHRch
namespace Go.Proofs.YtjgmhkplgenieaaDoor
open Go.RowKit

/-- The numbers that the links among the first n fields hold. -/
def lnk (H : Hp) (i : Nat) : Nat → List Int
  | 0 => []
  | k + 1 => lnk H i k ++ if linkB (H.st i).fields k then [fsd H i k] else []
theorem lnk_yes {H : Hp} {i k : Nat} (h : linkB (H.st i).fields k = true) : lnk H i (k + 1) = lnk H i k ++ [fsd H i k] := by rw [lnk, h]; simp
theorem lnk_no {H : Hp} {i k : Nat} (h : linkB (H.st i).fields k = false) : lnk H i (k + 1) = lnk H i k := by rw [lnk, h]; simp
theorem lnk_len (H : Hp) (i : Nat) : ∀ n, (lnk H i n).length ≤ n := by
  intro n
  induction n with
  | zero => simp [lnk]
  | succ n ih => rw [lnk, List.length_append]; split <;> simp <;> omega
theorem lnk_mem {H : Hp} {i : Nat} {x : Int} : ∀ {n : Nat}, x ∈ lnk H i n ↔ ∃ k, k < n ∧ linkB (H.st i).fields k = true ∧ fsd H i k = x := by
  intro n
  induction n with
  | zero => simp [lnk]
  | succ n ih =>
    rw [lnk, List.mem_append, ih]
    constructor
    · rintro (⟨k, h1, h2⟩ | h)
      · exact ⟨k, by omega, h2⟩
      · split at h
        · rename_i hb
          obtain rfl := List.mem_singleton.1 h
          exact ⟨n, by omega, hb, rfl⟩
        · cases h
    · rintro ⟨k, h1, h2, h3⟩
      rcases Nat.lt_or_ge k n with h | h
      · exact .inl ⟨k, h, h2, h3⟩
      · obtain rfl : k = n := by omega
        right; rw [if_pos h2]; simp [h3]
theorem lnk_near {H : Hp} {i : Nat} (hi : i < H.obs.length) (hw : H.wid i ≤ 8) {y : Int} : y ∈ nearO (some H) ((i : Int) + 1) ↔ y ∈ lnk H i (H.wid i) ∧ hasO (some H) y = true := by
  show y ∈ (if hasO (some H) ((i : Int) + 1) = true then nrL H ((i : Int) + 1 - 1).toNat else []) ↔ _
  rw [if_pos (num_has hi), show ((i : Int) + 1 - 1).toNat = i by omega, nrL_mem, lnk_mem]
  constructor
  · rintro ⟨k, h1, h2, rfl⟩
    unfold nrB at h2
    rw [Bool.and_eq_true] at h2
    refine ⟨⟨k, ?_, h2.1, rfl⟩, h2.2⟩
    have h3 := h2.1
    unfold linkB at h3
    cases hf : (H.st i).fields[k]? with
    | none => rw [hf] at h3; cases h3
    | some f => exact (List.getElem?_eq_some_iff.1 hf).1
  · rintro ⟨⟨k, h1, h2, rfl⟩, h3⟩
    exact ⟨k, by omega, by unfold nrB; rw [h2, h3]; rfl, rfl⟩

/-- A flag of a number. -/
def fb (fl : List Bool) (x : Int) : Bool := decide (1 ≤ x) && (fl[x.toNat]? == some true)
theorem fb_iff {fl : List Bool} {x : Int} : fb fl x = true ↔ 1 ≤ x ∧ fl[x.toNat]? = some true := by unfold fb; rw [Bool.and_eq_true, decide_eq_true_eq, beq_iff_eq]
theorem fb_set {fl : List Bool} {x y : Int} (hx : 1 ≤ x) (hl : x.toNat < fl.length) : fb (fl.set x.toNat true) y = true ↔ fb fl y = true ∨ y = x := by
  rw [fb_iff, fb_iff, List.getElem?_set]
  by_cases h : x.toNat = y.toNat
  · rw [if_pos h, if_pos (by omega)]
    constructor
    · intro h2; right; omega
    · rintro (h2 | h2)
      · exact ⟨h2.1, rfl⟩
      · exact ⟨by omega, rfl⟩
  · rw [if_neg h]
    constructor
    · intro h2; exact .inl h2
    · rintro (h2 | h2)
      · exact h2
      · subst h2; exact absurd rfl h
structure BI (H : Hp) (roots : List Int) (fl : List Bool) (ls : List Int) : Prop where
  len : fl.length = H.obs.length + 1
  i1 : ∀ x, fb fl x = true → Rd (some H) roots x
  i2 : ∀ x ∈ ls, hasO (some H) x = true → Rd (some H) roots x
  i3 : ∀ x ∈ roots, hasO (some H) x = true → fb fl x = true ∨ x ∈ ls
  i4 : ∀ x, fb fl x = true → ∀ y ∈ nearO (some H) x, fb fl y = true ∨ y ∈ ls
theorem BI.start (H : Hp) (roots : List Int) : BI H roots (List.replicate (H.obs.length + 1) false) roots := by
  have h0 : ∀ x, fb (List.replicate (H.obs.length + 1) false) x = true → False := by
    intro x h
    have := (fb_iff.1 h).2
    rw [List.getElem?_replicate] at this
    split at this <;> cases this
  exact ⟨by simp, fun x h => (h0 x h).elim, fun x hx hh => .base hx hh, fun x hx _ => .inr hx, fun x h => (h0 x h).elim⟩
theorem BI.skip {H : Hp} {roots ls : List Int} {fl : List Bool} {x : Int} (h : BI H roots fl (x :: ls)) (hx : hasO (some H) x = false ∨ fb fl x = true) : BI H roots fl ls := by
  have hd : ∀ y, hasO (some H) y = true → (fb fl y = true ∨ y ∈ x :: ls) → fb fl y = true ∨ y ∈ ls := by
    intro y hy h2
    rcases h2 with h2 | h2
    · exact .inl h2
    · rcases List.mem_cons.1 h2 with rfl | h2
      · rcases hx with hx | hx
        · rw [hx] at hy; cases hy
        · exact .inl hx
      · exact .inr h2
  exact ⟨h.len, h.i1, fun y hy => h.i2 y (by simp [hy]), fun y hy hh => hd y hh (h.i3 y hy hh), fun y hy z hz => hd z (near_has hz) (h.i4 y hy z hz)⟩
theorem BI.mark {H : Hp} {roots ls : List Int} {fl : List Bool} {i : Nat} (h : BI H roots fl (((i : Int) + 1) :: ls)) (hi : i < H.obs.length) (hw : H.wid i ≤ 8) : BI H roots (fl.set (i + 1) true) (ls ++ lnk H i (H.wid i)) := by
  have hr := h.i2 _ (List.mem_cons_self ..) (num_has hi)
  have hs : ∀ y, fb (fl.set (i + 1) true) y = true ↔ fb fl y = true ∨ y = (i : Int) + 1 := by
    intro y
    have := fb_set (fl := fl) (x := (i : Int) + 1) (y := y) (by omega) (by rw [h.len]; omega)
    rw [show ((i : Int) + 1).toNat = i + 1 by omega] at this
    exact this
  have hd : ∀ y, (fb fl y = true ∨ y ∈ ((i : Int) + 1) :: ls) → fb (fl.set (i + 1) true) y = true ∨ y ∈ ls ++ lnk H i (H.wid i) := by
    intro y h2
    rcases h2 with h2 | h2
    · exact .inl ((hs y).2 (.inl h2))
    · rcases List.mem_cons.1 h2 with h3 | h3
      · exact .inl ((hs y).2 (.inr h3))
      · exact .inr (List.mem_append_left _ h3)
  refine ⟨by rw [List.length_set]; exact h.len, fun y hy => ?_, fun y hy hh => ?_, fun y hy hh => hd y (h.i3 y hy hh), fun y hy z hz => ?_⟩
  · rcases (hs y).1 hy with h2 | rfl
    · exact h.i1 y h2
    · exact hr
  · rcases List.mem_append.1 hy with h2 | h2
    · exact h.i2 y (by simp [h2]) hh
    · exact .step hr ((lnk_near hi hw).2 ⟨h2, hh⟩)
  · rcases (hs y).1 hy with h2 | rfl
    · exact hd z (h.i4 y h2 z hz)
    · exact .inr (List.mem_append_right _ ((lnk_near hi hw).1 hz).1)
theorem BI.done {H : Hp} {roots : List Int} {fl : List Bool} (h : BI H roots fl []) (x : Int) : fb fl x = true ↔ Rd (some H) roots x := by
  refine ⟨h.i1 x, fun hx => ?_⟩
  induction hx with
  | base h1 h2 =>
    rcases h.i3 _ h1 h2 with e | e
    · exact e
    · cases e
  | step _ h2 ih =>
    rcases h.i4 _ ih _ h2 with e | e
    · exact e
    · cases e

end Go.Proofs.YtjgmhkplgenieaaDoor
