/-
  PLAIN: rows of numbers that are set place by place, out of a function; of a place the block whose List has it; the pairs of Back one by one. No condition.
-/
import Derived.Test.YtpaddigjjlidcaaFlNm
namespace Go.Proofs.Ytpaddigjjlidcaa
open Go.RowKit

def mapR (n : Nat) (f : Nat → Int) : List Int := (List.range n).map f
theorem mapR_len (n : Nat) (f : Nat → Int) : (mapR n f).length = n := by unfold mapR; rw [List.length_map, List.length_range]
theorem mapR_get {n i : Nat} {f : Nat → Int} (h : i < n) : (mapR n f)[i]? = some (f i) := by
  unfold mapR
  rw [List.getElem?_map, List.getElem?_range h]; rfl
theorem mapR_congr {n : Nat} {f g : Nat → Int} (h : ∀ x, x < n → f x = g x) : mapR n f = mapR n g := by
  unfold mapR
  exact List.map_congr_left (fun x hx => h x (List.mem_range.1 hx))
theorem mapR_set {n p : Nat} {f : Nat → Int} {v : Int} : (mapR n f).set p v = mapR n (fun x => if x = p then v else f x) := by
  apply List.ext_getElem?
  intro i
  rw [List.getElem?_set]
  by_cases hi : i < n
  · rw [mapR_get hi, mapR_get hi, mapR_len]
    by_cases h : p = i
    · subst h; rw [if_pos rfl, if_pos hi, if_pos rfl]
    · rw [if_neg h, if_neg (fun e => h e.symm)]
  · rw [List.getElem?_eq_none (l := mapR n fun x => if x = p then v else f x) (by rw [mapR_len]; omega), mapR_len, List.getElem?_eq_none (l := mapR n f) (by rw [mapR_len]; omega)]
    by_cases h : p = i
    · rw [if_pos h, if_neg (by omega)]
    · rw [if_neg h]
theorem mapR_zero (n : Nat) : mapR n (fun _ => 0) = List.replicate n 0 := by unfold mapR; rw [List.map_const', List.length_range]
/-- -1 at the first k, 0 behind. -/
def m1 (k x : Nat) : Int := if x < k then -1 else 0
theorem m1_up (n k : Nat) : (mapR n (m1 k)).set k (-1) = mapR n (m1 (k + 1)) := by
  rw [mapR_set]
  apply mapR_congr
  intro x _
  unfold m1
  by_cases h : x = k
  · rw [if_pos h, if_pos (by omega)]
  · rw [if_neg h]
    by_cases h2 : x < k
    · rw [if_pos h2, if_pos (by omega)]
    · rw [if_neg h2, if_neg (by omega)]
theorem m1_start (n : Nat) : mapR n (m1 0) = List.replicate n 0 := by rw [← mapR_zero]; exact mapR_congr fun _ _ => if_neg (by omega)
theorem m1_end (n : Nat) : mapR n (m1 n) = mapR n (fun _ => -1) := mapR_congr fun _ hx => if_pos hx
/-- Of a place the first block from b on whose List has it; -1. -/
def whF (bl : List Blk) (b p : Nat) : Int := match (bl.drop b).findIdx? (fun x => hasJ x.list (p : Int)) with | some i => ((b + i : Nat) : Int) | none => -1
theorem whF_end (bl : List Blk) (p : Nat) : whF bl bl.length p = -1 := by unfold whF; rw [List.drop_length]; rfl
theorem whF_step {bl : List Blk} {b : Nat} {B : Blk} (h : bl[b]? = some B) (p : Nat) : whF bl b p = cond (hasJ B.list (p : Int)) (b : Int) (whF bl (b + 1) p) := by
  obtain ⟨q, e⟩ := List.getElem?_eq_some_iff.1 h
  unfold whF
  rw [List.drop_eq_getElem_cons q, e, List.findIdx?_cons]
  cases hh : hasJ B.list (p : Int) with
  | true => simp
  | false =>
    simp only [Bool.false_eq_true, if_false, cond_false]
    cases (bl.drop (b + 1)).findIdx? (fun x => hasJ x.list (p : Int)) with
    | none => rfl
    | some i => simp only [Option.map_some]; congr 1; omega
theorem whF_zero (bl : List Blk) (p : Nat) : whF bl 0 p = whB bl p := by
  unfold whF whB
  rw [List.drop_zero]
  cases bl.findIdx? (fun x => hasJ x.list (p : Int)) with
  | none => rfl
  | some i => simp
/-- Behind the first k of a block's List. -/
def whK (bl : List Blk) (b : Nat) (l : List Int) (p : Nat) : Int := cond (hasJ l (p : Int)) (b : Int) (whF bl (b + 1) p)
theorem whK_nil (bl : List Blk) (b p : Nat) : whK bl b [] p = whF bl (b + 1) p := rfl
theorem hasJ_app (l : List Int) (x n : Int) : hasJ (l ++ [x]) n = (hasJ l n || (x == n)) := by unfold hasJ; rw [List.any_append]; simp
theorem whK_in {bl : List Blk} {b n q : Nat} {l : List Int} (k : Nat) (h : l[k]? = some (q : Int)) : (mapR n (whK bl b (l.take k))).set q (b : Int) = mapR n (whK bl b (l.take (k + 1))) := by
  rw [mapR_set]
  apply mapR_congr
  intro x _
  rw [List.take_add_one, h]
  unfold whK
  rw [Option.toList_some, hasJ_app]
  by_cases e : x = q
  · subst e; rw [if_pos rfl, beq_self_eq_true, Bool.or_true, cond_true]
  · rw [if_neg e]
    have : ((q : Int) == (x : Int)) = false := beq_eq_false_iff_ne.2 (by omega)
    rw [this, Bool.or_false]
theorem whK_out {bl : List Blk} {b n : Nat} {l : List Int} {y : Int} (k : Nat) (h : l[k]? = some y) (ho : y < 0 ∨ (n : Int) ≤ y) : mapR n (whK bl b (l.take k)) = mapR n (whK bl b (l.take (k + 1))) := by
  apply mapR_congr
  intro x hx
  rw [List.take_add_one, h]
  unfold whK
  rw [Option.toList_some, hasJ_app]
  have : (y == (x : Int)) = false := beq_eq_false_iff_ne.2 (by omega)
  rw [this, Bool.or_false]
theorem whK_all {bl : List Blk} {b n : Nat} {B : Blk} (h : bl[b]? = some B) {k : Nat} (hk : B.list.length ≤ k) : mapR n (whK bl b (B.list.take k)) = mapR n (whF bl b) := by
  apply mapR_congr
  intro x _
  rw [List.take_of_length_le hk, whF_step h]; rfl
theorem whF_whL (f : Fn) : mapR f.ins.length (whF f.blocks 0) = whL f := by
  unfold whL
  exact mapR_congr fun x _ => whF_zero _ _
/-- The places of the first k of an order; -1: it isn't among them. -/
def atN (o : List Int) (k x : Nat) : Int := if (x : Int) ∈ o.take k then (o.idxOf (x : Int) : Int) else -1
theorem atN_up {o : List Int} {m k j : Nat} (hn : o.Nodup) (hx : o[k]? = some (j : Int)) : (mapR m (atN o k)).set j (k : Int) = mapR m (atN o (k + 1)) := by
  obtain ⟨p, e⟩ := List.getElem?_eq_some_iff.1 hx
  rw [mapR_set]
  apply mapR_congr
  intro x _
  unfold atN
  rw [List.take_succ_eq_append_getElem p, e]
  by_cases h : x = j
  · subst h; rw [if_pos rfl, if_pos (by simp), idx_of hn hx]
  · rw [if_neg h]
    have : (x : Int) ∈ o.take k ++ [(j : Int)] ↔ (x : Int) ∈ o.take k := by
      rw [List.mem_append, List.mem_singleton]
      exact ⟨fun q => q.elim id (fun q => absurd (show x = j by omega) h), .inl⟩
    by_cases h2 : (x : Int) ∈ o.take k
    · rw [if_pos h2, if_pos (this.2 h2)]
    · rw [if_neg h2, if_neg (fun q => h2 (this.1 q))]
theorem atN_start (o : List Int) (m : Nat) : mapR m (fun _ => -1) = mapR m (atN o 0) := mapR_congr fun x _ => by unfold atN; rw [List.take_zero]; rfl
def plN (o : List Int) (x : Nat) : Int := if (x : Int) ∈ o then (o.idxOf (x : Int) : Int) else -1
theorem atN_all {o : List Int} {m k x : Nat} (h : x < m) (hk : o.length ≤ k) : (mapR m (atN o k))[x]? = some (plN o x) := by
  rw [mapR_get h]; unfold atN plN; rw [List.take_of_length_le hk]
/-- The pairs of Back, one by one. -/
def rowTo (bl : List Blk) (o : List Int) (i k : Nat) : List (Int × Int) := ((List.range k).filter fun (k : Nat) => decide ((k : Int) ∈ nextL bl i) && decide (o.idxOf (k : Int) ≤ o.idxOf (i : Int))).map fun (k : Nat) => ((i : Int), (k : Int))
def rowB (bl : List Blk) (o : List Int) (i : Nat) : List (Int × Int) := if (i : Int) ∈ o then rowTo bl o i bl.length else []
def backTo (bl : List Blk) (o : List Int) (i : Nat) : List (Int × Int) := (List.range i).flatMap (rowB bl o)
theorem back_eq (bl : List Blk) (o : List Int) : backL bl o = backTo bl o bl.length := rfl
theorem backTo_up (bl : List Blk) (o : List Int) (i : Nat) : backTo bl o (i + 1) = backTo bl o i ++ rowB bl o i := by
  unfold backTo; rw [List.range_succ, List.flatMap_append]; simp
theorem rowTo_up (bl : List Blk) (o : List Int) (i k : Nat) : rowTo bl o i (k + 1) = rowTo bl o i k ++ (if (decide ((k : Int) ∈ nextL bl i) && decide (o.idxOf (k : Int) ≤ o.idxOf (i : Int))) = true then [((i : Int), (k : Int))] else []) := by
  unfold rowTo
  rw [List.range_succ, List.filter_append, List.map_append]
  congr 1
  by_cases h : (decide ((k : Int) ∈ nextL bl i) && decide (o.idxOf (k : Int) ≤ o.idxOf (i : Int))) = true
  · rw [if_pos h, List.filter_cons, if_pos h]; rfl
  · rw [if_neg h, List.filter_cons, if_neg h]; rfl
theorem rowTo_zero (bl : List Blk) (o : List Int) (i : Nat) : rowTo bl o i 0 = [] := rfl
theorem rowTo_pre (bl : List Blk) (o : List Int) (i k : Nat) : ∀ d, rowTo bl o i k <+: rowTo bl o i (k + d)
  | 0 => List.prefix_refl _
  | d + 1 => (rowTo_pre bl o i k d).trans (by rw [← Nat.add_assoc, rowTo_up]; exact List.prefix_append _ _)
theorem backTo_pre (bl : List Blk) (o : List Int) (i : Nat) : ∀ d, backTo bl o i <+: backTo bl o (i + d)
  | 0 => List.prefix_refl _
  | d + 1 => (backTo_pre bl o i d).trans (by rw [← Nat.add_assoc, backTo_up]; exact List.prefix_append _ _)
/-- How many pairs stand ahead of (i, k). -/
def bkN (bl : List Blk) (o : List Int) (i k : Nat) : Nat := (backTo bl o i).length + (if (i : Int) ∈ o then (rowTo bl o i k).length else 0)
theorem bkN_zero (bl : List Blk) (o : List Int) (i : Nat) : bkN bl o i 0 = (backTo bl o i).length := by unfold bkN; rw [rowTo_zero]; simp
theorem bkN_all (bl : List Blk) (o : List Int) (i k : Nat) (hk : k = bl.length) : bkN bl o i k = (backTo bl o (i + 1)).length := by
  unfold bkN
  rw [backTo_up, List.length_append]
  unfold rowB
  subst hk
  split <;> rfl
theorem bkN_off {bl : List Blk} {o : List Int} {i k : Nat} (h : ¬ (i : Int) ∈ o) : bkN bl o i k = (backTo bl o (i + 1)).length := by
  unfold bkN
  rw [backTo_up, List.length_append]
  unfold rowB
  rw [if_neg h, if_neg h]; rfl
theorem bkN_no {bl : List Blk} {o : List Int} {i k : Nat} (h : (decide ((k : Int) ∈ nextL bl i) && decide (o.idxOf (k : Int) ≤ o.idxOf (i : Int))) = false) : bkN bl o i (k + 1) = bkN bl o i k := by
  have e : rowTo bl o i (k + 1) = rowTo bl o i k := by
    rw [rowTo_up, h]
    simp
  unfold bkN
  rw [e]
theorem bkN_yes {bl : List Blk} {o : List Int} {i k : Nat} (ho : (i : Int) ∈ o) (hi : i < bl.length) (hk : k < bl.length) (h : (decide ((k : Int) ∈ nextL bl i) && decide (o.idxOf (k : Int) ≤ o.idxOf (i : Int))) = true) :
    bkN bl o i (k + 1) = bkN bl o i k + 1 ∧ (backL bl o)[bkN bl o i k]? = some ((i : Int), (k : Int)) := by
  have e : rowTo bl o i (k + 1) = rowTo bl o i k ++ [((i : Int), (k : Int))] := by rw [rowTo_up, if_pos h]
  constructor
  · unfold bkN
    rw [if_pos ho, if_pos ho, e, List.length_append]; simp; omega
  · have p1 : rowTo bl o i (k + 1) <+: rowB bl o i := by
      unfold rowB; rw [if_pos ho]
      have := rowTo_pre bl o i (k + 1) (bl.length - (k + 1))
      rwa [show k + 1 + (bl.length - (k + 1)) = bl.length by omega] at this
    have p2 : backTo bl o (i + 1) <+: backL bl o := by
      rw [back_eq]
      have := backTo_pre bl o (i + 1) (bl.length - (i + 1))
      rwa [show i + 1 + (bl.length - (i + 1)) = bl.length by omega] at this
    have p3 : backTo bl o i ++ rowTo bl o i (k + 1) <+: backL bl o := by
      refine List.IsPrefix.trans ?_ p2
      rw [backTo_up]
      exact (List.prefix_append_right_inj _).2 p1
    obtain ⟨t, ht⟩ := p3
    unfold bkN
    rw [if_pos ho, ← ht, e, ← List.append_assoc, List.append_assoc, ← List.length_append, List.getElem?_append_right (Nat.le_refl _)]
    simp
theorem plN_ge (o : List Int) (x : Nat) : decide (0 ≤ plN o x) = decide ((x : Int) ∈ o) := by
  unfold plN
  split
  · rename_i h; rw [decide_eq_true h]; exact decide_eq_true (by omega)
  · rename_i h; rw [decide_eq_false h]; exact decide_eq_false (by omega)
/-- Whoever is next of one of the order stands in the order. -/
theorem next_ord {bl : List Blk} {o : List Int} {i k : Nat} (hO : OrdF bl o) (hi : (i : Int) ∈ o) (hk : (k : Int) ∈ nextL bl i) : (k : Int) ∈ o := by
  have h1 := ((hO.rc i).1 hi).1
  have h2 := next_in hk
  exact (hO.rc k).2 ⟨.step h1 (gr_of hk), by omega⟩
end Go.Proofs.Ytpaddigjjlidcaa
