/-
  PLAIN: what the order is: 0 first, all that are reached, each once, each other one behind one that leads to it; there is one such search only. Nothing of the program stands here. No condition.
-/
import Derived.Test.YtpaddigjjlidcaaFlOrdP
namespace Go.Proofs.Ytpaddigjjlidcaa
open Go.RowKit

/-- Each but the first one is a next one of the one ahead of it; the first one is 0. -/
inductive Way (bl : List Blk) : List Int → Prop
  | base : Way bl [0]
  | step {st : List Int} {b x : Int} : Way bl (st ++ [b]) → x ∈ nextL bl b → Way bl (st ++ [b] ++ [x])
theorem Way.ne {bl : List Blk} {st : List Int} (h : Way bl st) : st ≠ [] := by
  cases h <;> simp
theorem Way.pop {bl : List Blk} {st : List Int} {b : Int} (h : Way bl (st ++ [b])) : (st = [] ∧ b = 0) ∨ (∃ s p, st = s ++ [p] ∧ Way bl st ∧ b ∈ nextL bl p) := by
  generalize hl : st ++ [b] = l at h
  cases h with
  | base =>
    have := List.append_inj' (s₁ := st) (s₂ := []) (t₁ := [b]) (t₂ := [0]) (by simpa using hl) rfl
    exact .inl ⟨this.1, by injection this.2⟩
  | @step s p x h1 h2 =>
    have := List.append_inj' hl rfl
    have e : b = x := by injection this.2
    subst e
    exact .inr ⟨s, p, this.1, this.1 ▸ h1, h2⟩
/-- p stands ahead of x in a row. -/
def Ahd (l : List Int) (p x : Int) : Prop := ∃ s t, l = s ++ x :: t ∧ p ∈ s
theorem Ahd.cons {l : List Int} {p x : Int} (h : Ahd l p x) (b : Int) : Ahd (b :: l) p x := by
  obtain ⟨s, t, rfl, hp⟩ := h
  exact ⟨b :: s, t, rfl, List.mem_cons_of_mem _ hp⟩
theorem Ahd.first {l : List Int} {x : Int} (h : x ∈ l) (b : Int) : Ahd (b :: l) b x := by
  obtain ⟨s, t, rfl⟩ := List.append_of_mem h
  exact ⟨b :: s, t, rfl, List.mem_cons_self⟩
/-- What holds all the way. -/
structure OI2 (bl : List Blk) (m : Nat) (c : Mc) : Prop where
  mci : McI m c
  seen : ∀ i : Nat, c.seen[i]? = some true ↔ ((i : Int) ∈ c.st ∨ (i : Int) ∈ c.out)
  nd : (c.st ++ c.out).Nodup
  way : c.st = [] ∨ Way bl c.st
  sound : ∀ i : Nat, c.seen[i]? = some true → Rc (gr bl) i
  clo : ∀ b ∈ c.out, ∀ x ∈ nextL bl b, c.seen[x.toNat]? = some true
  led : ∀ x ∈ c.out, x = 0 ∨ ∃ p, x ∈ nextL bl p ∧ (p ∈ c.st ∨ Ahd c.out p x)
  hd : c.st = [] → c.out.head? = some 0
theorem gr_of {bl : List Blk} {b x : Nat} (h : (x : Int) ∈ nextL bl b) : x ∈ gr bl b := List.mem_map.2 ⟨_, h, by simp⟩
theorem OI2.start {bl : List Blk} {m : Nat} (h : 0 < m) : OI2 bl m (mc0 m) where
  mci := McI.start h
  seen := fun i => by
    show ((List.replicate m false).set 0 true)[i]? = some true ↔ ((i : Int) ∈ [0] ∨ (i : Int) ∈ [])
    rw [List.getElem?_set]
    by_cases h0 : 0 = i
    · subst h0
      rw [if_pos rfl, if_pos (by simpa using h)]
      simp
    · rw [if_neg h0, List.getElem?_replicate]
      have : ¬ i = 0 := fun e => h0 e.symm
      split <;> simp <;> omega
  nd := by simp [mc0]
  way := .inr .base
  sound := fun i hi => by
    have hi : ((List.replicate m false).set 0 true)[i]? = some true := hi
    rw [List.getElem?_set] at hi
    by_cases h0 : 0 = i
    · subst h0; exact .base
    · rw [if_neg h0, List.getElem?_replicate] at hi
      split at hi <;> simp at hi
  clo := fun b hb => by cases hb
  led := fun b hb => by cases hb
  hd := fun h => by cases h
theorem firstU_none {fl : List Bool} : ∀ {l : List Int}, (∀ x ∈ l, 0 ≤ x) → firstU fl l < 0 → ∀ x ∈ l, fl.getD x.toNat false = true
  | [], _, _, x, hx => by cases hx
  | y :: r, hp, h, x, hx => by
    unfold firstU at h
    split at h
    · have := hp y List.mem_cons_self; omega
    · rename_i hy
      rcases List.mem_cons.1 hx with rfl | hx
      · simpa using hy
      · exact firstU_none (fun z hz => hp z (List.mem_cons_of_mem _ hz)) h x hx
theorem OI2.step {bl : List Blk} {m : Nat} (hm : bl.length = m) {c d : Mc} (h : OI2 bl m c) (s : Stp bl c d) : OI2 bl m d := by
  cases s with
  | @down fl st out b hf =>
    obtain ⟨j, hj, hjm, hjf, hI⟩ := h.mci.down hm hf
    have hin := (firstU_some (fun x hx => (next_in hx).1) hf).1
    rw [hj] at hin ⊢
    rw [Int.toNat_natCast]
    have hbn := h.mci.st b (List.mem_append_right _ (List.mem_singleton.2 rfl))
    obtain ⟨nb, rfl⟩ : ∃ n : Nat, b = n := ⟨b.toNat, by omega⟩
    have hnj : ¬ ((j : Int) ∈ st ++ [(nb : Int)] ∨ (j : Int) ∈ out) := fun e => by have := (h.seen j).2 e; rw [hjf] at this; cases this
    refine ⟨hI, fun i => ?_, ?_, ?_, fun i hi => ?_, fun x hx y hy => ?_, fun x hx => ?_, fun e => by simp at e⟩
    · show (fl.set j true)[i]? = some true ↔ ((i : Int) ∈ st ++ [(nb : Int)] ++ [(j : Int)] ∨ (i : Int) ∈ out)
      rw [List.getElem?_set]
      by_cases e : j = i
      · subst e
        rw [if_pos rfl, if_pos (by have := h.mci.len; simp only at this; omega)]
        simp
      · rw [if_neg e, h.seen i]
        have : ¬ (i : Int) = j := by omega
        simp only [List.mem_append, List.mem_singleton, this, or_false]
    · show (st ++ [(nb : Int)] ++ [(j : Int)] ++ out).Nodup
      have hnd := h.nd
      simp only at hnd
      rw [List.append_assoc (st ++ [(nb : Int)]), List.nodup_append] 
      rw [List.nodup_append] at hnd
      refine ⟨hnd.1, ?_, ?_⟩
      · rw [List.singleton_append, List.nodup_cons]
        exact ⟨fun e => hnj (.inr e), hnd.2.1⟩
      · intro a ha b' hb'
        rcases List.mem_cons.1 hb' with e | e
        · intro e2; exact hnj (.inl (by rw [← e, ← e2]; exact ha))
        · exact hnd.2.2 a ha b' e
    · rcases h.way with e | e
      · simp at e
      · exact .inr (.step e hin)
    · rcases of_set (show (fl.set j true)[i]? = some true from hi) with rfl | hi
      · exact .step (h.sound nb ((h.seen nb).2 (.inl (by simp)))) (gr_of hin)
      · exact h.sound i hi
    · exact set_true (h.clo x hx y hy)
    · rcases h.led x hx with e | ⟨p, h1, h2 | h2⟩
      · exact .inl e
      · exact .inr ⟨p, h1, .inl (List.mem_append_left _ h2)⟩
      · exact .inr ⟨p, h1, .inr h2⟩
  | @up fl st out b hf =>
    refine ⟨h.mci.up, fun i => ?_, ?_, ?_, h.sound, fun x hx y hy => ?_, fun x hx => ?_, fun e => ?_⟩
    · show fl[i]? = some true ↔ ((i : Int) ∈ st ∨ (i : Int) ∈ b :: out)
      rw [h.seen i, List.mem_append, List.mem_singleton, List.mem_cons]
      constructor
      · rintro ((h | h) | h)
        · exact .inl h
        · exact .inr (.inl h)
        · exact .inr (.inr h)
      · rintro (h | h | h)
        · exact .inl (.inl h)
        · exact .inl (.inr h)
        · exact .inr h
    · have hnd := h.nd
      simp only [List.append_assoc, List.singleton_append] at hnd
      exact hnd
    · rcases h.way with e | e
      · simp at e
      · rcases e.pop with ⟨e1, -⟩ | ⟨s, p, -, e2, -⟩
        · exact .inl e1
        · exact .inr e2
    · rcases List.mem_cons.1 hx with rfl | hx
      · have h1 := firstU_none (fun z hz => (next_in hz).1) hf y hy
        rw [List.getD_eq_getElem?_getD] at h1
        show fl[y.toNat]? = some true
        cases e : fl[y.toNat]? with
        | none => rw [e] at h1; simp at h1
        | some v => rw [e] at h1; simp at h1; rw [h1]
      · exact h.clo x hx y hy
    · rcases List.mem_cons.1 hx with rfl | hx2
      · rcases h.way with e | e
        · simp at e
        · rcases e.pop with ⟨-, e1⟩ | ⟨s, p, e1, -, e3⟩
          · exact .inl e1
          · exact .inr ⟨p, e3, .inl (by show p ∈ st; rw [e1]; simp)⟩
      · rcases h.led x hx2 with e | ⟨p, h1, h2 | h2⟩
        · exact .inl e
        · rcases List.mem_append.1 h2 with h3 | h3
          · exact .inr ⟨p, h1, .inl h3⟩
          · obtain rfl := List.mem_singleton.1 h3
            exact .inr ⟨p, h1, .inr (show Ahd (p :: out) p x from Ahd.first hx2 p)⟩
        · exact .inr ⟨p, h1, .inr (h2.cons b)⟩
    · have e : st = [] := e
      rcases h.way with e2 | e2
      · simp at e2
      · rcases e2.pop with ⟨-, e1⟩ | ⟨s, p, e1, -⟩
        · rw [e1]; rfl
        · rw [e] at e1; simp at e1
theorem OI2.run {bl : List Blk} {m : Nat} (hm : bl.length = m) {c d : Mc} (s : Stps bl c d) (h : OI2 bl m c) : OI2 bl m d := by
  induction s with
  | refl => exact h
  | step _ s2 ih => exact ih.step hm s2
/-- WHAT THE ORDER IS. -/
structure OrdF (bl : List Blk) (o : List Int) : Prop where
  hd : o.head? = some 0
  nd : o.Nodup
  rc : ∀ i : Nat, (i : Int) ∈ o ↔ (Rc (gr bl) i ∧ i < bl.length)
  rg : ∀ x ∈ o, 0 ≤ x ∧ x < bl.length
  led : ∀ x ∈ o, x = 0 ∨ ∃ p, x ∈ nextL bl p ∧ Ahd o p x
theorem ord_facts {bl : List Blk} {o : List Int} (h : OrdR bl o) (h0 : 0 < bl.length) : OrdF bl o := by
  unfold OrdR at h
  rw [if_neg (by omega)] at h
  obtain ⟨c, hs, hst, rfl⟩ := h
  have hI := OI2.run rfl hs (OI2.start h0)
  have hsn : ∀ i : Nat, c.seen[i]? = some true ↔ (i : Int) ∈ c.out := fun i => by rw [hI.seen i, hst]; simp
  refine ⟨hI.hd hst, ?_, fun i => ?_, hI.mci.out, fun x hx => ?_⟩
  · have := hI.nd; rw [hst] at this; simpa using this
  · rw [← hsn]
    constructor
    · intro h
      exact ⟨hI.sound i h, by have := (List.getElem?_eq_some_iff.1 h).1; rw [hI.mci.len] at this; exact this⟩
    · rintro ⟨h, -⟩
      refine closed_rc ?_ (fun a b ha hb => ?_) h
      · have hh := hI.hd hst
        refine (hsn 0).2 ?_
        cases e : c.out with
        | nil => rw [e] at hh; cases hh
        | cons y r => rw [e] at hh; obtain rfl := Option.some.inj hh; exact List.mem_cons_self
      · obtain ⟨y, hy, rfl⟩ := List.mem_map.1 hb
        exact hI.clo a ((hsn a).1 ha) y hy
  · rcases hI.led x hx with e | ⟨p, h1, h2 | h2⟩
    · exact .inl e
    · rw [hst] at h2; cases h2
    · exact .inr ⟨p, h1, h2⟩
theorem Stp.det {bl : List Blk} {a b c : Mc} (h : Stp bl a b) (k : Stp bl a c) : b = c := by
  cases h with
  | @down fl st out x hf =>
    generalize hs : (⟨fl, st ++ [x], out⟩ : Mc) = q at k
    cases k with
    | @down fl2 st2 out2 y hg =>
      injection hs with e1 e2 e3
      obtain ⟨rfl, e4⟩ := List.append_inj' e2 rfl
      obtain rfl : x = y := by injection e4
      subst e1 e3; rfl
    | @up fl2 st2 out2 y hg =>
      injection hs with e1 e2 e3
      obtain ⟨rfl, e4⟩ := List.append_inj' e2 rfl
      obtain rfl : x = y := by injection e4
      subst e1; omega
  | @up fl st out x hf =>
    generalize hs : (⟨fl, st ++ [x], out⟩ : Mc) = q at k
    cases k with
    | @down fl2 st2 out2 y hg =>
      injection hs with e1 e2 e3
      obtain ⟨rfl, e4⟩ := List.append_inj' e2 rfl
      obtain rfl : x = y := by injection e4
      subst e1; omega
    | @up fl2 st2 out2 y hg =>
      injection hs with e1 e2 e3
      obtain ⟨rfl, e4⟩ := List.append_inj' e2 rfl
      obtain rfl : x = y := by injection e4
      subst e1 e3; rfl
theorem Stps.head {bl : List Blk} {a c : Mc} (h : Stps bl a c) : a = c ∨ ∃ b, Stp bl a b ∧ Stps bl b c := by
  induction h with
  | refl => exact .inl rfl
  | step _ s ih =>
    rcases ih with rfl | ⟨b, h1, h2⟩
    · exact .inr ⟨_, s, .refl _⟩
    · exact .inr ⟨b, h1, h2.step s⟩
theorem Stp.some {bl : List Blk} {a b : Mc} (h : Stp bl a b) : a.st ≠ [] := by cases h <;> simp
/-- There is one end only. -/
theorem Stps.fin {bl : List Blk} {a b c : Mc} (h : Stps bl a b) (k : Stps bl a c) (hc : c.st = []) : Stps bl b c := by
  induction h with
  | refl => exact k
  | step _ s ih =>
    rcases ih.head with e | ⟨d, h1, h2⟩
    · subst e; exact absurd hc s.some
    · rw [s.det h1]; exact h2
theorem ord_uniq {bl : List Blk} {o o' : List Int} (h : OrdR bl o) (k : OrdR bl o') : o = o' := by
  unfold OrdR at h k
  split at h
  · rename_i e
    rw [if_pos e] at k
    rw [h, k]
  · rename_i e
    rw [if_neg e] at k
    obtain ⟨c, h1, h2, rfl⟩ := h
    obtain ⟨d, k1, k2, rfl⟩ := k
    rcases (h1.fin k1 k2).head with e2 | ⟨b, e2, -⟩
    · rw [e2]
    · exact absurd h2 e2.some

end Go.Proofs.Ytpaddigjjlidcaa
