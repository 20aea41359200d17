/-
  CONTRACTS: slices.Sort and slices.Compact on a row of numbers that lies in a block of its own, in the words of these texts; what they leave, as sets. No condition.
-/
import Derived.Test.YtjgmhkplgenieaaDoorShelf
import Derived.Test.YtjgmhkplgenieaaDoorGreat
import Derived.Test.YtjgmhkplgenieaaDoorHMem
namespace Go.Proofs.YtjgmhkplgenieaaDoor
open Go.RowKit

def intsZ (l : List Int) : List Value := l.map fun n => .int .i64 n
/-- The row at g reads as l, and may be written. -/
abbrev Row (w : World) (g : Nat) (l : List Int) : Prop := Go.Sort.Holds (Value.int .i64) w g 0 l.toArray
theorem getE {l : List Int} {j : Nat} (h : j < l.length) : (l.toArray)[j]! = l[j] := by
  rw [getElem!_pos l.toArray j (by simpa using h)]; simp
theorem row_own {w : World} {base g n c : Nat} {l : List Int} (h : w.ownsRow base 3 1 (.slice (some ⟨g, 0, none⟩) n c) n (intsZ l)) : l.length = n ∧ Row w g l := by
  have hl : l.length = n := by have := h.1; rw [Nat.mul_one] at this; unfold intsZ at this; rwa [List.length_map] at this
  refine ⟨hl, fun j hj => ?_⟩
  have hj' : j < l.length := by simpa using hj
  rw [Nat.zero_add]
  refine ⟨?_, h.frozenAt j⟩
  rw [h.cellAt j (by omega), getE hj']
  unfold intsZ
  rw [List.getElem?_map, List.getElem?_eq_getElem hj']; rfl
theorem row_ir {w : World} {g : Nat} {l : List Int} (h : Row w g l) (hg : g < w.heap.size) : IRz w (some ⟨g, 0, none⟩) l := by
  intro _
  refine ⟨g, 0, rfl, hg, fun k n hk => ?_⟩
  obtain ⟨hk2, rfl⟩ := List.getElem?_eq_some_iff.1 hk
  rw [(h k (by simpa using hk2)).1, getE hk2]
theorem row_take {w : World} {g : Nat} {l r : List Int} (h : Row w g (l ++ r)) : Row w g l := by
  intro j hj
  have hj' : j < l.length := by simpa using hj
  have := h j (by simp; omega)
  rw [getE (by rw [List.length_append]; omega)] at this
  rw [getE hj']
  rw [List.getElem_append_left hj'] at this
  exact this
theorem below_put {w : World} {B g n : Nat} (d : Array Int) (hg : B ≤ g) : Below B w (Go.Sort.putRow (Value.int .i64) (Go.Sort.ahead w n) g 0 d) := by
  refine ⟨rfl, rfl, rfl, by simp, fun k hk => ?_⟩
  show (w.heap.modify g _)[k]? = _
  rw [Array.getElem?_modify, if_neg (by omega)]
theorem below_growS {w : World} {B : Nat} (os : Array Obj) (hB : B ≤ w.heap.size) : Below B w (Go.Sort.grow w os) :=
  ⟨rfl, rfl, rfl, by simp, fun k hk => Go.Sort.heap_grow_old w os (by omega)⟩

theorem sort_row (g c n : Nat) (l : List Int) (B : Nat) (w : World) (h : Row w g l) (hn : Hid (l.length = n)) (hl : n ≤ 65536) (hg : g < w.heap.size) (hB : B ≤ g) :
    Calls Tryd.prog 32 #[.slice (some ⟨g, 0, none⟩) n c] w fun e w' => e = .returned (.tuple #[]) ∧ Below B w w' ∧ Row w' g (l.mergeSort fun x y => decide (x ≤ y)) := by
  have hn := hn.out
  subst hn
  refine (Tryd.slices_Sort_int g 0 c l w h hg (by omega)).mono ?_
  rintro e w' ⟨rfl, q, os, rfl⟩
  have h2 := Go.Sort.holds_putRow (Value.int .i64) (Go.Sort.ahead w q) g 0 l.toArray (l.mergeSort fun x y => decide (x ≤ y)).toArray (Go.Sort.holds_ahead _ w q g 0 _ h) (by simp)
  refine ⟨rfl, (below_put _ hB).trans (below_growS os (by simp; omega)), ?_⟩
  exact Go.Sort.holds_grow _ _ os g 0 _ (by simpa using hg) h2
theorem compact_len (l : List Int) : (Go.Lib.compact l).length ≤ l.length := by
  unfold Go.Lib.compact Go.Lib.compactUpTo
  rw [List.length_map]
  exact Nat.le_trans (List.length_filter_le _ _) (by simp)
theorem compact_row (g c n : Nat) (l : List Int) (B : Nat) (w : World) (h : Row w g l) (hn : Hid (l.length = n)) (hl : n ≤ 65536) (hc : n ≤ c) (hg : g < w.heap.size) (hB : B ≤ g) :
    Calls Tryd.prog 33 #[.slice (some ⟨g, 0, none⟩) n c] w fun e w' => e = .returned (.slice (some ⟨g, 0, none⟩) (Go.Lib.compact l).length c) ∧ Below B w w' ∧ Row w' g (Go.Lib.compact l) := by
  have hn := hn.out
  subst hn
  refine (Tryd.slices_Compact_int g 0 c l w h (by omega) hc).mono ?_
  rintro e w' ⟨rfl, q, rfl⟩
  refine ⟨rfl, below_put _ hB, row_take (r := List.replicate (l.length - (Go.Lib.compact l).length) 0) ?_⟩
  exact Go.Sort.holds_putRow (Value.int .i64) (Go.Sort.ahead w q) g 0 l.toArray _ (Go.Sort.holds_ahead _ w q g 0 _ h) (by have := compact_len l; simp; omega)

theorem upTo_mem (d : Array Int) (x : Int) : ∀ m, x ∈ Go.Lib.compactUpTo d m ↔ ∃ j, j < m ∧ d[j]! = x := by
  intro m
  induction m with
  | zero => simp [Go.Lib.compactUpTo]
  | succ m ih =>
    rw [Go.Lib.compactUpTo_succ, List.mem_append, ih]
    constructor
    · rintro (⟨j, h1, h2⟩ | h)
      · exact ⟨j, by omega, h2⟩
      · split at h
        · obtain rfl := List.mem_singleton.1 h
          exact ⟨m, by omega, rfl⟩
        · cases h
    · rintro ⟨j, h1, h2⟩
      rcases Nat.lt_or_ge j m with h | h
      · exact .inl ⟨j, h, h2⟩
      · obtain rfl : j = m := by omega
        cases hk : Go.Lib.keeps d j with
        | true => right; simp [h2]
        | false =>
          left
          unfold Go.Lib.keeps at hk
          rw [decide_eq_false_iff_not] at hk
          have h3 : j ≠ 0 ∧ d[j]! = d[j - 1]! := by
            constructor
            · intro e; exact hk (.inl e)
            · exact Classical.not_not.1 (fun e => hk (.inr e))
          exact ⟨j - 1, by omega, h3.2.symm.trans h2⟩
theorem compact_mem (l : List Int) (x : Int) : x ∈ Go.Lib.compact l ↔ x ∈ l := by
  unfold Go.Lib.compact
  rw [upTo_mem]
  constructor
  · rintro ⟨j, h1, h2⟩
    rw [getE h1] at h2
    exact h2 ▸ List.getElem_mem h1
  · intro h
    obtain ⟨j, h1, h2⟩ := List.mem_iff_getElem.1 h
    exact ⟨j, h1, (getE h1).trans h2⟩
theorem upTo_lt (d : Array Int) (n : Nat) (hs : ∀ i j, i ≤ j → j < n → d[i]! ≤ d[j]!) : ∀ m, m ≤ n → (Go.Lib.compactUpTo d m).Pairwise (· < ·) := by
  intro m
  induction m with
  | zero => intro _; simp [Go.Lib.compactUpTo]
  | succ m ih =>
    intro hm
    rw [Go.Lib.compactUpTo_succ, List.pairwise_append]
    refine ⟨ih (by omega), by split <;> simp, fun a ha b hb => ?_⟩
    split at hb
    · rename_i hk
      obtain rfl := List.mem_singleton.1 hb
      obtain ⟨j, h1, rfl⟩ := (upTo_mem d a m).1 ha
      unfold Go.Lib.keeps at hk
      rw [decide_eq_true_eq] at hk
      have h3 : d[m]! ≠ d[m - 1]! := by
        rcases hk with h | h
        · omega
        · exact h
      have h4 := hs j (m - 1) (by omega) (by omega)
      have h5 := hs (m - 1) m (by omega) (by omega)
      omega
    · cases hb
theorem compact_lt (l : List Int) : (Go.Lib.compact (l.mergeSort fun x y => decide (x ≤ y))).Pairwise (· < ·) := by
  have h := List.pairwise_mergeSort (le := fun (x y : Int) => decide (x ≤ y)) (by intro a b c; simp; omega) (by intro a b; simp; omega) l
  unfold Go.Lib.compact
  refine upTo_lt _ (l.mergeSort fun x y => decide (x ≤ y)).length (fun i j hij hj => ?_) _ (Nat.le_refl _)
  rw [getE (by omega), getE hj]
  rcases Nat.eq_or_lt_of_le hij with rfl | hlt
  · exact Int.le_refl _
  · exact of_decide_eq_true (List.pairwise_iff_getElem.1 h i j (by omega) hj hlt)
theorem sorted_mem (l : List Int) (x : Int) : x ∈ Go.Lib.compact (l.mergeSort fun x y => decide (x ≤ y)) ↔ x ∈ l := by
  rw [compact_mem, List.mem_mergeSort]

end Go.Proofs.YtjgmhkplgenieaaDoor
