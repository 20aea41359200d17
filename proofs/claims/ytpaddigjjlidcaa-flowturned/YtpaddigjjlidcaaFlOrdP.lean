/-
  PLAIN AND MEMORY: the search in depth that gives the order, step by step; flags that are counted. No condition.
-/
import Derived.Test.YtpaddigjjlidcaaFlAhead
namespace Go.Proofs.Ytpaddigjjlidcaa
open Go.RowKit

theorem count_set {fl : List Bool} {q : Nat} (h : fl[q]? = some false) : (fl.set q true).count false + 1 = fl.count false := by
  obtain ⟨hq, e⟩ := List.getElem?_eq_some_iff.1 h
  have hp : 0 < fl.count false := List.count_pos_iff.2 (e ▸ List.getElem_mem hq)
  rw [List.count_set hq, e]
  simp
  omega
theorem count_range (fl : List Bool) (p : Nat → Bool) (n : Nat) (hn : n ≤ fl.length) (h : ∀ i b, i < n → fl[i]? = some b → p i = !b) : ((List.range n).filter p).length = (fl.take n).count false := by
  induction n with
  | zero => simp
  | succ n ih =>
    have hl : n < fl.length := by omega
    have hp := h n fl[n] (by omega) (List.getElem?_eq_getElem hl)
    rw [List.range_succ, List.filter_append, List.length_append, ih (by omega) (fun i b hi hb => h i b (by omega) hb), List.take_succ_eq_append_getElem hl, List.count_append]
    congr 1
    cases hb : fl[n] <;> simp [hp, hb]

/-- The names of those that are flagged, of the first k. -/
def lenV : Value → Nat | .slice _ n _ => n | _ => 0
def notYet (w : World) (g i : Nat) : Bool := match w.cell? ⟨g, i, none⟩ with | some (.bool true) => false | _ => true
def cntW (w : World) (g m : Nat) : Nat := ((List.range m).filter (notYet w g)).length
theorem Fl.cnt {w : World} {g m : Nat} {fl : List Bool} (h : Fl w g m fl) : cntW w g m = fl.count false := by
  unfold cntW
  rw [count_range fl (notYet w g) m (by rw [h.1]; exact Nat.le_refl _) (fun i b hi hb => by unfold notYet; rw [h.cell hb]; cases b <;> rfl), List.take_of_length_le (by rw [h.1]; exact Nat.le_refl _)]

/-- The first one that isn't seen; -1. -/
def firstU (fl : List Bool) : List Int → Int
  | [] => -1
  | x :: r => if fl.getD x.toNat false = false then x else firstU fl r
theorem firstU_drop {fl : List Bool} {l : List Int} {k : Nat} {x : Int} (h : l[k]? = some x) : firstU fl (l.drop k) = if fl.getD x.toNat false = false then x else firstU fl (l.drop (k + 1)) := by
  obtain ⟨p, e⟩ := List.getElem?_eq_some_iff.1 h
  rw [List.drop_eq_getElem_cons p, e]; rfl
theorem firstU_some {fl : List Bool} : ∀ {l : List Int}, (∀ x ∈ l, 0 ≤ x) → 0 ≤ firstU fl l → firstU fl l ∈ l ∧ fl.getD (firstU fl l).toNat false = false
  | [], _, h => by simp [firstU] at h
  | x :: r, hp, h => by
    unfold firstU at h ⊢
    split at h
    · rename_i hx
      rw [if_pos hx]
      exact ⟨List.mem_cons_self, hx⟩
    · rename_i hx
      rw [if_neg hx]
      have := firstU_some (fun y hy => hp y (List.mem_cons_of_mem _ hy)) h
      exact ⟨List.mem_cons_of_mem _ this.1, this.2⟩
theorem firstU_cases (fl : List Bool) : ∀ (l : List Int), (∀ x ∈ l, 0 ≤ x) → firstU fl l = -1 ∨ 0 ≤ firstU fl l
  | [], _ => .inl rfl
  | x :: r, hp => by
    unfold firstU
    split
    · exact .inr (hp x List.mem_cons_self)
    · exact firstU_cases fl r (fun y hy => hp y (List.mem_cons_of_mem _ hy))
/-- Where a search has come to: who is seen, the way from 0 on, what is done (the last one first). -/
structure Mc where
  seen : List Bool
  st : List Int
  out : List Int
/-- One step, from a way whose last one is b. -/
inductive Stp (bl : List Blk) : Mc → Mc → Prop
  | down {fl : List Bool} {st out : List Int} {b : Int} : 0 ≤ firstU fl (nextL bl b) → Stp bl ⟨fl, st ++ [b], out⟩ ⟨fl.set (firstU fl (nextL bl b)).toNat true, st ++ [b] ++ [firstU fl (nextL bl b)], out⟩
  | up {fl : List Bool} {st out : List Int} {b : Int} : firstU fl (nextL bl b) < 0 → Stp bl ⟨fl, st ++ [b], out⟩ ⟨fl, st, b :: out⟩
inductive Stps (bl : List Blk) : Mc → Mc → Prop
  | refl (c : Mc) : Stps bl c c
  | step {a b c : Mc} : Stps bl a b → Stp bl b c → Stps bl a c
def mc0 (m : Nat) : Mc := ⟨(List.replicate m false).set 0 true, [0], []⟩
/-- The order: what the search has done in the end. -/
def OrdR (bl : List Blk) (o : List Int) : Prop := if bl.length = 0 then o = [] else ∃ c, Stps bl (mc0 bl.length) c ∧ c.st = [] ∧ c.out = o
/-- What holds all the way. -/
structure McI (m : Nat) (c : Mc) : Prop where
  len : c.seen.length = m
  cnt : c.st.length + c.out.length = c.seen.count true
  st : ∀ x ∈ c.st, 0 ≤ x ∧ x < m
  out : ∀ x ∈ c.out, 0 ≤ x ∧ x < m
theorem count_two (l : List Bool) : l.count true + l.count false = l.length := by
  induction l with
  | nil => rfl
  | cons a r ih => cases a <;> simp <;> omega
theorem McI.start {m : Nat} (h : 0 < m) : McI m (mc0 m) where
  len := by simp [mc0]
  cnt := by
    have hz : (List.replicate m false)[0]? = some false := by rw [List.getElem?_replicate, if_pos h]
    have h1 := count_set hz
    have h2 := count_two ((List.replicate m false).set 0 true)
    rw [List.count_replicate_self] at h1
    rw [List.length_set, List.length_replicate] at h2
    show 1 + 0 = List.count true ((List.replicate m false).set 0 true)
    omega
  st := fun x hx => by
    obtain rfl := List.mem_singleton.1 hx
    omega
  out := fun x hx => by cases hx
theorem McI.down {bl : List Blk} {m : Nat} (hm : bl.length = m) {fl : List Bool} {st out : List Int} {b : Int} (h : McI m ⟨fl, st ++ [b], out⟩) (hf : 0 ≤ firstU fl (nextL bl b)) : ∃ j : Nat, firstU fl (nextL bl b) = j ∧ j < m ∧ fl[j]? = some false ∧ McI m ⟨fl.set j true, st ++ [b] ++ [(j : Int)], out⟩ := by
  obtain ⟨hin, hfl⟩ := firstU_some (fun x hx => (next_in hx).1) hf
  have hlt := next_in hin
  rw [hm] at hlt
  obtain ⟨j, hj⟩ : ∃ j : Nat, firstU fl (nextL bl b) = j := ⟨_, (Int.toNat_of_nonneg hf).symm⟩
  rw [hj] at hlt hfl
  have hjm : j < m := by omega
  have hjf : fl[j]? = some false := by
    rw [Int.toNat_natCast, List.getD_eq_getElem?_getD] at hfl
    have hl : j < fl.length := by have := h.len; simp only at this; omega
    rw [List.getElem?_eq_getElem hl] at hfl ⊢
    simpa using hfl
  refine ⟨j, hj, hjm, hjf, ?_, ?_, ?_, h.out⟩
  · show (fl.set j true).length = m
    rw [List.length_set]; exact h.len
  · have h1 := count_set hjf
    have h2 := count_two (fl.set j true)
    have h3 := count_two fl
    have h4 := h.cnt
    rw [List.length_set] at h2
    show (st ++ [b] ++ [(j : Int)]).length + out.length = (fl.set j true).count true
    simp only [List.length_append, List.length_singleton] at h4 ⊢
    omega
  · intro x hx
    rcases List.mem_append.1 hx with h1 | h1
    · exact h.st x h1
    · obtain rfl := List.mem_singleton.1 h1
      exact ⟨by omega, by omega⟩
theorem McI.up {m : Nat} {fl : List Bool} {st out : List Int} {b : Int} (h : McI m ⟨fl, st ++ [b], out⟩) : McI m ⟨fl, st, b :: out⟩ where
  len := h.len
  cnt := by have := h.cnt; simp only [List.length_append, List.length_cons, List.length_nil] at this ⊢; omega
  st := fun x hx => h.st x (List.mem_append_left _ hx)
  out := fun x hx => by
    rcases List.mem_cons.1 hx with rfl | h1
    · exact h.st _ (List.mem_append_right _ (List.mem_singleton.2 rfl))
    · exact h.out x h1

end Go.Proofs.Ytpaddigjjlidcaa
