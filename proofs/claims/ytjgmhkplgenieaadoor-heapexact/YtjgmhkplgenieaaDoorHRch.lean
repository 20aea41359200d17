/-
  PLAIN: who is reached, and what a search with a stack and with flags finds. Nothing of the program stands here but Near's answer. No condition.
-/
import Derived.Test.YtjgmhkplgenieaaDoorHNear
namespace Go.Proofs.YtjgmhkplgenieaaDoor
open Go.RowKit

inductive Rd (H : Option Hp) (roots : List Int) : Int → Prop
  | base {o : Int} : o ∈ roots → hasO H o = true → Rd H roots o
  | step {x y : Int} : Rd H roots x → y ∈ nearO H x → Rd H roots y
theorem Rd.has {H : Option Hp} {roots : List Int} {x : Int} (h : Rd H roots x) : hasO H x = true := by
  cases h with
  | base _ h => exact h
  | step _ h => exact near_has h
def flB (fl : List Bool) (x : Int) : Bool := decide (1 ≤ x) && (fl[(x - 1).toNat]? == some true)
def addF (H : Option Hp) (s : List Bool × List Int) (x : Int) : List Bool × List Int := if hasO H x && !(flB s.1 x) then (s.1.set (x - 1).toNat true, s.2 ++ [x]) else s
def addS (H : Option Hp) (s : List Bool × List Int) (l : List Int) : List Bool × List Int := l.foldl (addF H) s
theorem flB_iff {fl : List Bool} {x : Int} : flB fl x = true ↔ 1 ≤ x ∧ fl[(x - 1).toNat]? = some true := by unfold flB; rw [Bool.and_eq_true, decide_eq_true_eq, beq_iff_eq]
theorem flB_set {fl : List Bool} {x y : Int} (hx : 1 ≤ x) (hl : (x - 1).toNat < fl.length) : flB (fl.set (x - 1).toNat true) y = true ↔ flB fl y = true ∨ y = x := by
  rw [flB_iff, flB_iff, List.getElem?_set]
  by_cases h : (x - 1).toNat = (y - 1).toNat
  · rw [if_pos h, if_pos (by omega)]
    constructor
    · intro h2; right; omega
    · rintro (h2 | h2)
      · exact ⟨h2.1, rfl⟩
      · exact ⟨by omega, rfl⟩
  · rw [if_neg h]
    constructor
    · intro h2; exact .inl h2
    · rintro (h2 | h2)
      · exact h2
      · subst h2; exact absurd rfl h
theorem hcount_set {fl : List Bool} {k : Nat} (hk : fl[k]? = some false) : (fl.set k true).count false + 1 = fl.count false := by
  induction fl generalizing k with
  | nil => simp at hk
  | cons b r ih =>
    cases k with
    | zero =>
      obtain rfl : b = false := by simpa using hk
      simp
    | succ k =>
      have := ih (k := k) (by simpa using hk)
      cases b <;> simp <;> omega
theorem has_lt {H : Option Hp} {x : Int} (h : hasO H x = true) : 1 ≤ x ∧ (x - 1).toNat < lenO H := by
  unfold hasO at h
  rw [Bool.and_eq_true, decide_eq_true_eq, decide_eq_true_eq] at h
  omega
theorem addS_all {H : Option Hp} {l : List Int} : ∀ {fl : List Bool} {ws : List Int}, fl.length = lenO H →
    (addS H (fl, ws) l).1.length = fl.length ∧ (∀ x, flB (addS H (fl, ws) l).1 x = true ↔ flB fl x = true ∨ (x ∈ l ∧ hasO H x = true)) ∧
    (∀ x, x ∈ (addS H (fl, ws) l).2 ↔ x ∈ ws ∨ (x ∈ l ∧ hasO H x = true ∧ flB fl x = false)) ∧ (addS H (fl, ws) l).1.count false + (addS H (fl, ws) l).2.length = fl.count false + ws.length := by
  induction l with
  | nil => intro fl ws _; simp [addS]
  | cons a r ih =>
    intro fl ws hl
    show (addS H (addF H (fl, ws) a) r).1.length = _ ∧ (∀ x, flB (addS H (addF H (fl, ws) a) r).1 x = true ↔ _) ∧ (∀ x, x ∈ (addS H (addF H (fl, ws) a) r).2 ↔ _) ∧ (addS H (addF H (fl, ws) a) r).1.count false + (addS H (addF H (fl, ws) a) r).2.length = _
    cases hb : (hasO H a && !(flB fl a)) with
    | false =>
      rw [show addF H (fl, ws) a = (fl, ws) by unfold addF; rw [hb]; rfl]
      obtain ⟨h1, h2, h3, h4⟩ := ih (ws := ws) hl
      have hc : hasO H a = true → flB fl a = true := by
        intro h
        rw [h] at hb
        simpa using hb
      refine ⟨h1, fun x => ?_, fun x => ?_, h4⟩
      · rw [h2, List.mem_cons]
        constructor
        · rintro (h | ⟨h, h'⟩)
          · exact .inl h
          · exact .inr ⟨.inr h, h'⟩
        · rintro (h | ⟨rfl | h, h'⟩)
          · exact .inl h
          · exact .inl (hc h')
          · exact .inr ⟨h, h'⟩
      · rw [h3, List.mem_cons]
        constructor
        · rintro (h | ⟨h, h'⟩)
          · exact .inl h
          · exact .inr ⟨.inr h, h'⟩
        · rintro (h | ⟨rfl | h, h', h''⟩)
          · exact .inl h
          · rw [hc h'] at h''; cases h''
          · exact .inr ⟨h, h', h''⟩
    | true =>
      rw [show addF H (fl, ws) a = (fl.set (a - 1).toNat true, ws ++ [a]) by unfold addF; rw [hb]; rfl]
      rw [Bool.and_eq_true, Bool.not_eq_true'] at hb
      obtain ⟨ha, hf⟩ := hb
      obtain ⟨a1, a2⟩ := has_lt ha
      obtain ⟨h1, h2, h3, h4⟩ := ih (ws := ws ++ [a]) (show (fl.set (a - 1).toNat true).length = lenO H by rw [List.length_set]; exact hl)
      have hset : ∀ y, flB (fl.set (a - 1).toNat true) y = true ↔ flB fl y = true ∨ y = a := fun y => flB_set a1 (by omega)
      have hfa : fl[(a - 1).toNat]? = some false := by
        obtain ⟨b, hb⟩ : ∃ b, fl[(a - 1).toNat]? = some b := ⟨_, List.getElem?_eq_getElem (by omega)⟩
        cases b with
        | false => exact hb
        | true => rw [flB_iff.2 ⟨a1, hb⟩] at hf; cases hf
      refine ⟨by rw [h1, List.length_set], fun x => ?_, fun x => ?_, ?_⟩
      · rw [h2, hset, List.mem_cons]
        constructor
        · rintro ((h | rfl) | ⟨h, h'⟩)
          · exact .inl h
          · exact .inr ⟨.inl rfl, ha⟩
          · exact .inr ⟨.inr h, h'⟩
        · rintro (h | ⟨rfl | h, h'⟩)
          · exact .inl (.inl h)
          · exact .inl (.inr rfl)
          · exact .inr ⟨h, h'⟩
      · rw [h3, List.mem_append, List.mem_singleton, List.mem_cons]
        have hx : flB (fl.set (a - 1).toNat true) x = false ↔ flB fl x = false ∧ x ≠ a := by
          constructor
          · intro h
            have := hset x
            rw [h] at this
            refine ⟨?_, fun e => absurd (this.2 (.inr e)) (by decide)⟩
            cases hq : flB fl x with
            | false => rfl
            | true => exact absurd (this.2 (.inl hq)) (by decide)
          · rintro ⟨h, e⟩
            cases hq : flB (fl.set (a - 1).toNat true) x with
            | false => rfl
            | true =>
              rcases (hset x).1 hq with q | q
              · rw [h] at q; cases q
              · exact absurd q e
        rw [hx]
        constructor
        · rintro ((h | rfl) | ⟨h, h', h'', _⟩)
          · exact .inl h
          · exact .inr ⟨.inl rfl, ha, hf⟩
          · exact .inr ⟨.inr h, h', h''⟩
        · rintro (h | ⟨rfl | h, h', h''⟩)
          · exact .inl (.inl h)
          · exact .inl (.inr rfl)
          · by_cases e : x = a
            · exact .inl (.inr e)
            · exact .inr ⟨h, h', h'', e⟩
      · have := hcount_set hfa
        rw [h4, List.length_append]
        simp only [List.length_cons, List.length_nil]
        omega

structure DI (H : Option Hp) (roots : List Int) (fl : List Bool) (ws : List Int) : Prop where
  len : fl.length = lenO H
  i1 : ∀ x ∈ ws, flB fl x = true
  i2 : ∀ x, flB fl x = true → Rd H roots x
  i3 : ∀ x ∈ roots, hasO H x = true → flB fl x = true
  i4 : ∀ x, flB fl x = true → x ∈ ws ∨ ∀ y ∈ nearO H x, flB fl y = true
theorem DI.start (H : Option Hp) (roots : List Int) : DI H roots (addS H (List.replicate (lenO H) false, []) roots).1 (addS H (List.replicate (lenO H) false, []) roots).2 := by
  have h0 : ∀ x, flB (List.replicate (lenO H) false) x = false := by
    intro x
    cases h : flB (List.replicate (lenO H) false) x with
    | false => rfl
    | true =>
      have := (flB_iff.1 h).2
      rw [List.getElem?_replicate] at this
      split at this <;> cases this
  obtain ⟨h1, h2, h3, _⟩ := addS_all (H := H) (l := roots) (fl := List.replicate (lenO H) false) (ws := []) (by simp)
  refine ⟨by rw [h1]; simp, fun x hx => ?_, fun x hx => ?_, fun x hx hh => (h2 x).2 (.inr ⟨hx, hh⟩), fun x hx => ?_⟩
  · rcases (h3 x).1 hx with h | ⟨h, h', _⟩
    · cases h
    · exact (h2 x).2 (.inr ⟨h, h'⟩)
  · rcases (h2 x).1 hx with h | ⟨h, h'⟩
    · rw [h0] at h; cases h
    · exact .base h h'
  · rcases (h2 x).1 hx with h | ⟨h, h'⟩
    · rw [h0] at h; cases h
    · exact .inl ((h3 x).2 (.inr ⟨h, h', h0 x⟩))
theorem DI.pop {H : Option Hp} {roots : List Int} {fl : List Bool} {ws : List Int} {x : Int} (h : DI H roots fl (ws ++ [x])) :
    DI H roots (addS H (fl, ws) (nearO H x)).1 (addS H (fl, ws) (nearO H x)).2 := by
  obtain ⟨h1, h2, h3, _⟩ := addS_all (H := H) (l := nearO H x) (fl := fl) (ws := ws) h.len
  have hx := h.i2 x (h.i1 x (by simp))
  refine ⟨by rw [h1]; exact h.len, fun y hy => ?_, fun y hy => ?_, fun y hy hh => (h2 y).2 (.inl (h.i3 y hy hh)), fun y hy => ?_⟩
  · rcases (h3 y).1 hy with e | ⟨e, e', _⟩
    · exact (h2 y).2 (.inl (h.i1 y (by simp [e])))
    · exact (h2 y).2 (.inr ⟨e, e'⟩)
  · rcases (h2 y).1 hy with e | ⟨e, _⟩
    · exact h.i2 y e
    · exact .step hx e
  · cases hf : flB fl y with
    | true =>
      rcases h.i4 y hf with e | e
      · rcases List.mem_append.1 e with e | e
        · exact .inl ((h3 y).2 (.inl e))
        · obtain rfl := List.mem_singleton.1 e
          exact .inr fun z hz => (h2 z).2 (.inr ⟨hz, near_has hz⟩)
      · exact .inr fun z hz => (h2 z).2 (.inl (e z hz))
    | false =>
      rcases (h2 y).1 hy with e | ⟨e, e'⟩
      · rw [hf] at e; cases e
      · exact .inl ((h3 y).2 (.inr ⟨e, e', hf⟩))
theorem DI.done {H : Option Hp} {roots : List Int} {fl : List Bool} (h : DI H roots fl []) (x : Int) : flB fl x = true ↔ Rd H roots x := by
  refine ⟨h.i2 x, fun hx => ?_⟩
  induction hx with
  | base h1 h2 => exact h.i3 _ h1 h2
  | step _ h2 ih =>
    rcases h.i4 _ ih with e | e
    · cases e
    · exact e _ h2

/-- The numbers whose flags are set, of the first n. -/
def allK (fl : List Bool) : Nat → List Int
  | 0 => []
  | n + 1 => allK fl n ++ if fl[n]? = some true then [(n : Int) + 1] else []
theorem allK_mem {fl : List Bool} {x : Int} : ∀ {n : Nat}, x ∈ allK fl n ↔ ∃ k : Nat, k < n ∧ fl[k]? = some true ∧ x = (k : Int) + 1 := by
  intro n
  induction n with
  | zero => simp [allK]
  | succ n ih =>
    rw [allK, List.mem_append, ih]
    constructor
    · rintro (⟨k, h1, h2⟩ | h)
      · exact ⟨k, by omega, h2⟩
      · split at h
        · rename_i hb
          exact ⟨n, by omega, hb, List.mem_singleton.1 h⟩
        · cases h
    · rintro ⟨k, h1, h2, h3⟩
      rcases Nat.lt_or_ge k n with h | h
      · exact .inl ⟨k, h, h2, h3⟩
      · obtain rfl : k = n := by omega
        right; rw [if_pos h2]; simp [h3]
theorem allK_len (fl : List Bool) : ∀ n, (allK fl n).length ≤ n := by
  intro n
  induction n with
  | zero => simp [allK]
  | succ n ih => rw [allK, List.length_append]; split <;> simp <;> omega
theorem allK_lt (fl : List Bool) : ∀ n, (allK fl n).Pairwise (· < ·) := by
  intro n
  induction n with
  | zero => simp [allK]
  | succ n ih =>
    rw [allK, List.pairwise_append]
    refine ⟨ih, by split <;> simp, fun a ha b hb => ?_⟩
    obtain ⟨k, h1, _, rfl⟩ := allK_mem.1 ha
    split at hb
    · obtain rfl := List.mem_singleton.1 hb; omega
    · cases hb
/-- Who is reached, rising. -/
structure HRc (H : Option Hp) (roots ls : List Int) : Prop where
  mem : ∀ x, x ∈ ls ↔ Rd H roots x
  lt : ls.Pairwise (· < ·)
theorem hrc_of {H : Option Hp} {roots : List Int} {fl : List Bool} (h : DI H roots fl []) : HRc H roots (allK fl (lenO H)) := by
  refine ⟨fun x => ?_, allK_lt _ _⟩
  rw [allK_mem, ← h.done, flB_iff]
  constructor
  · rintro ⟨k, h1, h2, rfl⟩
    exact ⟨by omega, by rw [show ((k : Int) + 1 - 1).toNat = k by omega]; exact h2⟩
  · rintro ⟨h1, h2⟩
    have := (List.getElem?_eq_some_iff.1 h2).1
    rw [h.len] at this
    exact ⟨_, this, h2, by omega⟩

end Go.Proofs.YtjgmhkplgenieaaDoor
