/-
  PLAIN AND MEMORY: a row of numbers of one's own that is set place by place; places in an order. No condition.
-/
import Derived.Test.YtpaddigjjlidcaaFlC
namespace Go.Proofs.Ytpaddigjjlidcaa
open Go.RowKit

def Nm (w : World) (g m : Nat) (l : List Int) : Prop := l.length = m ∧ w.ownsRow g 3 1 (.slice (some ⟨g, 0, none⟩) m m) m (intsV l)
theorem Nm.cell {w : World} {g m : Nat} {l : List Int} (h : Nm w g m l) {i : Nat} {b : Int} (hb : l[i]? = some b) : w.cell? ⟨g, i, none⟩ = some (.int .i64 b) := by
  have hi : i < m := by rw [← h.1]; exact (List.getElem?_eq_some_iff.1 hb).1
  rw [h.2.cellAt i (by omega)]
  unfold intsV
  rw [List.getElem?_map, hb]; rfl
theorem Nm.below {w w' : World} {g m : Nat} {l : List Int} (h : Nm w g m l) (hb : Below w.heap.size w w') : Nm w' g m l := ⟨h.1, own_below h.2 hb⟩
theorem Nm.lt {w : World} {g m : Nat} {l : List Int} (h : Nm w g m l) : g < w.heap.size := (h.2.lt g rfl).2
theorem Nm.sv {w w' : World} {P : Nat → Prop} {g m : Nat} {l : List Int} (h : Nm w g m l) (hs : Sv P w w') (hp : ¬ P g) : Nm w' g m l := ⟨h.1, own_sv h.2 hs (fun k hk => by have e : some g = some k := hk; obtain rfl := Option.some.inj e; exact hp)⟩
theorem Nm.set {w : World} {g m : Nat} {l : List Int} (h : Nm w g m l) (i : Nat) (x : Int) : Nm (w.setCell ⟨g, i, none⟩ (.int .i64 x)) g m (l.set i x) := by
  refine ⟨by rw [List.length_set]; exact h.1, ?_⟩
  have := (h.2.stored i (.int .i64 x)).1
  rw [show intsV (l.set i x) = (intsV l).set i (.int .i64 x) by unfold intsV; rw [List.map_set]]
  exact this
/-- The places of the first k of an order, from 1 on; 0: it isn't among them. -/
def atL (o : List Int) (m k : Nat) : List Int := (List.range m).map fun (x : Nat) => if (x : Int) ∈ o.take k then (o.idxOf (x : Int) : Int) + 1 else 0
theorem at_len (o : List Int) (m k : Nat) : (atL o m k).length = m := by unfold atL; rw [List.length_map, List.length_range]
theorem at_get {o : List Int} {m k x : Nat} (h : x < m) : (atL o m k)[x]? = some (if (x : Int) ∈ o.take k then (o.idxOf (x : Int) : Int) + 1 else 0) := by
  unfold atL
  rw [List.getElem?_map, List.getElem?_range h]; rfl
theorem at_zero (o : List Int) (m : Nat) : atL o m 0 = List.replicate m 0 := by
  apply List.ext_getElem?
  intro i
  rw [List.getElem?_replicate]
  split
  · rename_i h; rw [at_get h]; simp
  · rename_i h; rw [List.getElem?_eq_none (by rw [at_len]; omega)]
theorem idx_of {o : List Int} {k : Nat} {x : Int} (hn : o.Nodup) (hx : o[k]? = some x) : o.idxOf x = k := by
  obtain ⟨p, e⟩ := List.getElem?_eq_some_iff.1 hx
  have h1 := List.idxOf_lt_length_of_mem (e ▸ List.getElem_mem p)
  have h2 : o[o.idxOf x] = x := List.getElem_idxOf h1
  have hP := List.pairwise_iff_getElem.1 hn
  rcases Nat.lt_trichotomy (o.idxOf x) k with h | h | h
  · exact absurd (h2.trans e.symm) (hP _ _ h1 p h)
  · exact h
  · exact absurd (e.trans h2.symm) (hP _ _ p h1 h)
theorem not_yet {o : List Int} {k : Nat} {x : Int} (hn : o.Nodup) (hx : o[k]? = some x) : ¬ x ∈ o.take k := fun h => by
  obtain ⟨j, hj, hjy⟩ := List.mem_take_iff_getElem.1 h
  obtain ⟨p, e⟩ := List.getElem?_eq_some_iff.1 hx
  have hjl : j < o.length := by omega
  exact absurd (hjy.trans e.symm) (List.pairwise_iff_getElem.1 hn j k hjl p (by omega))
theorem at_up {o : List Int} {m k j : Nat} (hn : o.Nodup) (hx : o[k]? = some (j : Int)) (hj : j < m) : (atL o m k).set j ((k : Int) + 1) = atL o m (k + 1) := by
  obtain ⟨p, e⟩ := List.getElem?_eq_some_iff.1 hx
  apply List.ext_getElem?
  intro i
  rw [List.getElem?_set]
  by_cases hij : j = i
  · subst hij
    rw [if_pos rfl, if_pos (by rw [at_len]; exact hj), at_get hj, if_pos (by rw [List.take_succ_eq_append_getElem p, e]; simp), idx_of hn hx]
  · rw [if_neg hij]
    by_cases hi : i < m
    · rw [at_get hi, at_get hi]
      have : (i : Int) ∈ o.take (k + 1) ↔ (i : Int) ∈ o.take k := by
        rw [List.take_succ_eq_append_getElem p, e, List.mem_append, List.mem_singleton]
        constructor
        · rintro (h | h)
          · exact h
          · exact absurd (show j = i by omega) hij
        · exact .inl
      by_cases h : (i : Int) ∈ o.take k
      · rw [if_pos h, if_pos (this.2 h)]
      · rw [if_neg h, if_neg (fun q => h (this.1 q))]
    · rw [List.getElem?_eq_none (by rw [at_len]; omega), List.getElem?_eq_none (by rw [at_len]; omega)]
/-- The place of a block, 0: it isn't in the order. -/
def plo (o : List Int) (x : Nat) : Int := if (x : Int) ∈ o then (o.idxOf (x : Int) : Int) + 1 else 0
theorem at_all {o : List Int} {m k x : Nat} (h : x < m) (hk : o.length ≤ k) : (atL o m k)[x]? = some (plo o x) := by
  rw [at_get h, List.take_of_length_le hk]; rfl
theorem plo_pos (o : List Int) (x : Nat) : decide (0 < plo o x) = decide ((x : Int) ∈ o) := by
  unfold plo
  split
  · rename_i h; rw [decide_eq_true h]; exact decide_eq_true (by omega)
  · rename_i h; rw [decide_eq_false h]; rfl
theorem flag_ord {bl : List Blk} {fl : List Bool} {o : List Int} {m i : Nat} (hF : Flags (gr bl) bl.length fl) (hm : bl.length = m) (hO : OrdF bl o) (hi : i < m) : fl[i]? = some (decide ((i : Int) ∈ o)) := by
  have hl : i < fl.length := by rw [hF.1]; omega
  obtain ⟨b, hb⟩ : ∃ b, fl[i]? = some b := ⟨_, List.getElem?_eq_getElem hl⟩
  rw [hb]
  have h1 := hF.2 i
  have h2 := hO.rc i
  rw [hb] at h1
  by_cases h : (i : Int) ∈ o
  · rw [decide_eq_true h]; exact h1.2 (h2.1 h)
  · rw [decide_eq_false h]
    cases b with
    | false => rfl
    | true => exact absurd (h2.2 (h1.1 rfl)) h
theorem ahead_mem {bl : List Blk} {n x : Int} : ∀ {i : Nat}, x ∈ aheadTo bl n i ↔ ∃ j : Nat, j < i ∧ x = j ∧ hasJ (nextL bl j) n = true
  | 0 => ⟨fun h => by simp [aheadTo] at h, fun ⟨j, h, _⟩ => by omega⟩
  | i + 1 => by
    unfold aheadTo
    rw [List.mem_append, ahead_mem]
    constructor
    · rintro (⟨j, h1, h2, h3⟩ | h)
      · exact ⟨j, by omega, h2, h3⟩
      · split at h
        · rename_i hh; exact ⟨i, by omega, List.mem_singleton.1 h, hh⟩
        · cases h
    · rintro ⟨j, h1, h2, h3⟩
      by_cases hj : j < i
      · exact .inl ⟨j, hj, h2, h3⟩
      · obtain rfl : j = i := by omega
        right; rw [if_pos h3]; exact List.mem_singleton.2 h2
theorem hasJ_iff {l : List Int} {n : Int} : hasJ l n = true ↔ n ∈ l := by
  unfold hasJ
  rw [List.any_eq_true]
  constructor
  · rintro ⟨x, h1, h2⟩
    rw [← eq_of_beq h2]; exact h1
  · intro h; exact ⟨n, h, by simp⟩
theorem ahd_idx {o : List Int} {p x : Int} (hn : o.Nodup) (h : Ahd o p x) : p ∈ o ∧ o.idxOf p < o.idxOf x := by
  obtain ⟨s, t, rfl, hp⟩ := h
  refine ⟨List.mem_append_left _ hp, ?_⟩
  have h1 : (s ++ x :: t).idxOf x = s.length := idx_of hn (by simp)
  have h2 : (s ++ x :: t).idxOf p = s.idxOf p := by rw [List.idxOf_append, if_pos hp]
  rw [h1, h2]
  exact List.idxOf_lt_length_of_mem hp
/-- Each of the order but 0 has one ahead of it that stands ahead in the order. -/
theorem led_any {bl : List Blk} {o : List Int} {i m : Nat} (hm : bl.length = m) (hO : OrdF bl o) (h0 : i ≠ 0) (hin : (i : Int) ∈ o) :
    ((aheadL bl i).any fun p => decide (p ∈ o) && decide (plo o p.toNat < plo o i)) = true := by
  rcases hO.led i hin with h | ⟨p, h1, h2⟩
  · omega
  · obtain ⟨q1, q2⟩ := ahd_idx hO.nd h2
    have hr := hO.rg p q1
    obtain ⟨j, rfl⟩ : ∃ j : Nat, p = j := ⟨p.toNat, by omega⟩
    refine List.any_eq_true.2 ⟨j, ahead_mem.2 ⟨j, by omega, rfl, hasJ_iff.2 h1⟩, ?_⟩
    rw [decide_eq_true q1, Bool.true_and, Int.toNat_natCast]
    unfold plo
    rw [if_pos q1, if_pos hin]
    exact decide_eq_true (by omega)
/-- Without pairs of Back all that lead to one stand ahead of it. -/
theorem no_back {bl : List Blk} {o : List Int} {i j m : Nat} (hm : bl.length = m) (hb : backL bl o = []) (hi : i < m) (hj : j < m) (h1 : (j : Int) ∈ o) (h2 : (i : Int) ∈ o) (h3 : (i : Int) ∈ nextL bl j) : plo o j < plo o i := by
  unfold plo
  rw [if_pos h1, if_pos h2]
  rcases Nat.lt_or_ge (o.idxOf (j : Int)) (o.idxOf (i : Int)) with h | h
  · omega
  · exfalso
    have : ((j : Int), (i : Int)) ∈ backL bl o := by
      unfold backL
      rw [List.mem_flatMap]
      refine ⟨j, List.mem_range.2 (by omega), ?_⟩
      rw [if_pos h1, List.mem_map]
      refine ⟨i, List.mem_filter.2 ⟨List.mem_range.2 (by omega), ?_⟩, rfl⟩
      rw [decide_eq_true h3, decide_eq_true h]; rfl
    rw [hb] at this; cases this
end Go.Proofs.Ytpaddigjjlidcaa
