/-
  CONTRACT: the statements' four: a function of four blocks and one that isn't reached. Of what was there nothing has turned.
-/
import Derived.Test.YtpaddigjjlidcaaFlBk
namespace Go.Proofs.Ytpaddigjjlidcaa
open Go.RowKit
theorem ins_info : (Try.prog.info? 93).map (fun i => (i.zero, i.size, i.bytes)) = some (some (.agg #[.int .i64 0, .string ⟨#[]⟩, .slice none 0 0, .int .i64 0, .string ⟨#[]⟩]), 5, 72) := by kernel_rfl
def insZ : Ins := ⟨0, ⟨#[]⟩, [], 0, ⟨#[]⟩⟩
def fourF : Fn := ⟨⟨#[]⟩, [], ⟨#[]⟩, [], [insZ, insZ], [⟨[1], 2, 0, 1, 2⟩, ⟨[], 1, 0, 3, 0⟩, ⟨[], 1, 0, 3, 0⟩, ⟨[], 3, 0, 0, 0⟩, ⟨[], 1, 0, 0, 0⟩]⟩
def Sg (cur : Array Value) (o : Nat) (cs : List Value) : Prop := ∀ k v, cs[k]? = some v → cur[o + k]? = some v
theorem sl_blk {α : Type} {c : Nat} {R : Rdr α} {w : World} {g : Nat} {cur : Array Value} {t : TypeId} {fr : Nat × Nat} {l : List α} (h : w.heap[g]? = some (.cells cur t fr)) (hc : ∀ i x, l[i]? = some x → ∃ cs, R w cs x ∧ Sg cur (i * c) cs) : SL c R w (some ⟨g, 0, none⟩) l := fun _ =>
  ⟨g, 0, rfl, (Array.getElem?_eq_some_iff.1 h).1, fun i x hx => by
    obtain ⟨cs, r, s⟩ := hc i x hx
    refine ⟨cs, r, fun k v hv => ?_⟩
    rw [cell_of_row w g _ cur t _ h, Nat.zero_add]
    exact s k v hv⟩
theorem sg_at {cur : Array Value} {o : Nat} {cs : List Value} (h : (cur.toList.drop o).take cs.length = cs) : Sg cur o cs := fun k v hv => by
  have hk := (List.getElem?_eq_some_iff.1 hv).1
  rw [← h, List.getElem?_take, if_pos hk, List.getElem?_drop, Array.getElem?_toList] at hv
  exact hv
theorem i64_small (x : Int) (h0 : 0 ≤ x) (h1 : x ≤ 100) : I64 x := ⟨by omega, by omega⟩
theorem nil_ints (w : World) : slR 1 intR w (.slice none 0 0) [] := ⟨none, 0, rfl, Nat.le_refl _, Nat.zero_le _, fun h => absurd h (Nat.lt_irrefl _)⟩
set_option maxRecDepth 100000 in
set_option maxHeartbeats 1000000 in
theorem four_any (w : World) : Calls Try.prog 20 #[] w fun e w' => ∃ E : FE, E.f = fourF ∧ e = .returned E.v ∧ FM E w' ∧ Below w.heap.size w w' := by
  obtain ⟨i4, hi4, hy0, hy1, hy2⟩ := info_parts ins_info
  have HI4 := Lib.hid hi4
  have HY0 := Lib.hid hy0
  have HY1 := Lib.hid hy1
  have HB2 : Hid (i4.bytes * 2 ≤ 281474976710656) := by show _ ≤ _; rw [hy2]; omega
  have HB3 : Hid (2 ≤ maxLen) := by show _ ≤ _; simp only [maxLen]; omega
  have hsz : (w.alloc (.cells #[.string ⟨#[]⟩, .slice none 0 0, .string ⟨#[]⟩, .slice none 0 0, .slice none 0 0, .slice none 0 0] 26)).heap.size = w.heap.size + 1 := by simp
  clear hi4 hy0 hy1 hy2
  go_enter Try.func20, Try.ntmps20
  go_wp2_with (refine wpList_make_full _ rfl _ _ 23 rfl (w.heap.size + 1) 93 i4 _ 5 Try.underlying23 HI4.out HY0.out HY1.out .i64 .i64 2 2 2 rfl rfl rfl rfl HB2.out HB3.out (Nat.le_of_eq hsz.symm) ?_; intro w1 hown1 hg1; refine Hid.out ?_)
  have hb0 : (w.alloc (.cells #[.string ⟨#[]⟩, .slice none 0 0, .string ⟨#[]⟩, .slice none 0 0, .slice none 0 0, .slice none 0 0] 26)).heap[w.heap.size]? = some (.cells #[.string ⟨#[]⟩, .slice none 0 0, .string ⟨#[]⟩, .slice none 0 0, .slice none 0 0, .slice none 0 0] 26 (0, 0)) := heap_alloc_last w _
  have hb1 : w1.heap[w.heap.size]? = some (.cells #[.string ⟨#[]⟩, .slice none 0 0, .string ⟨#[]⟩, .slice none 0 0, .slice none 0 0, .slice none 0 0] 26 (0, 0)) := (hg1.block _ (by simp) (by simp)).trans hb0
  have hz1 : w.heap.size + 2 ≤ w1.heap.size := by
    have h := (hown1.lt _ rfl).2
    rw [hsz] at h; exact h
  have hw3 := (below_alloc w1 (.cells #[.int .i64 1] 3)).trans ((below_alloc (w1.alloc (.cells #[.int .i64 1] 3)) (.cells #[.slice (some ⟨w1.heap.size, 0, none⟩) 1 1, .int .i64 2, .int .i64 0, .int .i64 1, .int .i64 2, .slice none 0 0, .int .i64 1, .int .i64 0, .int .i64 3, .int .i64 0, .slice none 0 0, .int .i64 1, .int .i64 0, .int .i64 3, .int .i64 0, .slice none 0 0, .int .i64 3, .int .i64 0, .int .i64 0, .int .i64 0, .slice none 0 0, .int .i64 1, .int .i64 0, .int .i64 0, .int .i64 0] 40)).mono (by simp))
  have hb3 := (hw3.block w.heap.size (by omega)).trans hb1
  have z0 : ((w1.alloc (.cells #[.int .i64 1] 3)).alloc (.cells #[.slice (some ⟨w1.heap.size, 0, none⟩) 1 1, .int .i64 2, .int .i64 0, .int .i64 1, .int .i64 2, .slice none 0 0, .int .i64 1, .int .i64 0, .int .i64 3, .int .i64 0, .slice none 0 0, .int .i64 1, .int .i64 0, .int .i64 3, .int .i64 0, .slice none 0 0, .int .i64 3, .int .i64 0, .int .i64 0, .int .i64 0, .slice none 0 0, .int .i64 1, .int .i64 0, .int .i64 0, .int .i64 0] 40)).cell? ⟨w.heap.size, 0, none⟩ = some (.string ⟨#[]⟩) := (cell_of_row _ _ 0 _ _ _ hb3).trans rfl
  have f0 := frozen_of_row ((w1.alloc (.cells #[.int .i64 1] 3)).alloc (.cells #[.slice (some ⟨w1.heap.size, 0, none⟩) 1 1, .int .i64 2, .int .i64 0, .int .i64 1, .int .i64 2, .slice none 0 0, .int .i64 1, .int .i64 0, .int .i64 3, .int .i64 0, .slice none 0 0, .int .i64 1, .int .i64 0, .int .i64 3, .int .i64 0, .slice none 0 0, .int .i64 3, .int .i64 0, .int .i64 0, .int .i64 0, .slice none 0 0, .int .i64 1, .int .i64 0, .int .i64 0, .int .i64 0] 40)) w.heap.size 0 _ _ hb3
  have z1 : ((w1.alloc (.cells #[.int .i64 1] 3)).alloc (.cells #[.slice (some ⟨w1.heap.size, 0, none⟩) 1 1, .int .i64 2, .int .i64 0, .int .i64 1, .int .i64 2, .slice none 0 0, .int .i64 1, .int .i64 0, .int .i64 3, .int .i64 0, .slice none 0 0, .int .i64 1, .int .i64 0, .int .i64 3, .int .i64 0, .slice none 0 0, .int .i64 3, .int .i64 0, .int .i64 0, .int .i64 0, .slice none 0 0, .int .i64 1, .int .i64 0, .int .i64 0, .int .i64 0] 40)).cell? ⟨w.heap.size, 1, none⟩ = some (.slice none 0 0) := (cell_of_row _ _ 1 _ _ _ hb3).trans rfl
  have f1 := frozen_of_row ((w1.alloc (.cells #[.int .i64 1] 3)).alloc (.cells #[.slice (some ⟨w1.heap.size, 0, none⟩) 1 1, .int .i64 2, .int .i64 0, .int .i64 1, .int .i64 2, .slice none 0 0, .int .i64 1, .int .i64 0, .int .i64 3, .int .i64 0, .slice none 0 0, .int .i64 1, .int .i64 0, .int .i64 3, .int .i64 0, .slice none 0 0, .int .i64 3, .int .i64 0, .int .i64 0, .int .i64 0, .slice none 0 0, .int .i64 1, .int .i64 0, .int .i64 0, .int .i64 0] 40)) w.heap.size 1 _ _ hb3
  have z2 : ((w1.alloc (.cells #[.int .i64 1] 3)).alloc (.cells #[.slice (some ⟨w1.heap.size, 0, none⟩) 1 1, .int .i64 2, .int .i64 0, .int .i64 1, .int .i64 2, .slice none 0 0, .int .i64 1, .int .i64 0, .int .i64 3, .int .i64 0, .slice none 0 0, .int .i64 1, .int .i64 0, .int .i64 3, .int .i64 0, .slice none 0 0, .int .i64 3, .int .i64 0, .int .i64 0, .int .i64 0, .slice none 0 0, .int .i64 1, .int .i64 0, .int .i64 0, .int .i64 0] 40)).cell? ⟨w.heap.size, 2, none⟩ = some (.string ⟨#[]⟩) := (cell_of_row _ _ 2 _ _ _ hb3).trans rfl
  have f2 := frozen_of_row ((w1.alloc (.cells #[.int .i64 1] 3)).alloc (.cells #[.slice (some ⟨w1.heap.size, 0, none⟩) 1 1, .int .i64 2, .int .i64 0, .int .i64 1, .int .i64 2, .slice none 0 0, .int .i64 1, .int .i64 0, .int .i64 3, .int .i64 0, .slice none 0 0, .int .i64 1, .int .i64 0, .int .i64 3, .int .i64 0, .slice none 0 0, .int .i64 3, .int .i64 0, .int .i64 0, .int .i64 0, .slice none 0 0, .int .i64 1, .int .i64 0, .int .i64 0, .int .i64 0] 40)) w.heap.size 2 _ _ hb3
  have z3 : ((w1.alloc (.cells #[.int .i64 1] 3)).alloc (.cells #[.slice (some ⟨w1.heap.size, 0, none⟩) 1 1, .int .i64 2, .int .i64 0, .int .i64 1, .int .i64 2, .slice none 0 0, .int .i64 1, .int .i64 0, .int .i64 3, .int .i64 0, .slice none 0 0, .int .i64 1, .int .i64 0, .int .i64 3, .int .i64 0, .slice none 0 0, .int .i64 3, .int .i64 0, .int .i64 0, .int .i64 0, .slice none 0 0, .int .i64 1, .int .i64 0, .int .i64 0, .int .i64 0] 40)).cell? ⟨w.heap.size, 3, none⟩ = some (.slice none 0 0) := (cell_of_row _ _ 3 _ _ _ hb3).trans rfl
  have f3 := frozen_of_row ((w1.alloc (.cells #[.int .i64 1] 3)).alloc (.cells #[.slice (some ⟨w1.heap.size, 0, none⟩) 1 1, .int .i64 2, .int .i64 0, .int .i64 1, .int .i64 2, .slice none 0 0, .int .i64 1, .int .i64 0, .int .i64 3, .int .i64 0, .slice none 0 0, .int .i64 1, .int .i64 0, .int .i64 3, .int .i64 0, .slice none 0 0, .int .i64 3, .int .i64 0, .int .i64 0, .int .i64 0, .slice none 0 0, .int .i64 1, .int .i64 0, .int .i64 0, .int .i64 0] 40)) w.heap.size 3 _ _ hb3
  have z4 : ((w1.alloc (.cells #[.int .i64 1] 3)).alloc (.cells #[.slice (some ⟨w1.heap.size, 0, none⟩) 1 1, .int .i64 2, .int .i64 0, .int .i64 1, .int .i64 2, .slice none 0 0, .int .i64 1, .int .i64 0, .int .i64 3, .int .i64 0, .slice none 0 0, .int .i64 1, .int .i64 0, .int .i64 3, .int .i64 0, .slice none 0 0, .int .i64 3, .int .i64 0, .int .i64 0, .int .i64 0, .slice none 0 0, .int .i64 1, .int .i64 0, .int .i64 0, .int .i64 0] 40)).cell? ⟨w.heap.size, 4, none⟩ = some (.slice none 0 0) := (cell_of_row _ _ 4 _ _ _ hb3).trans rfl
  have f4 := frozen_of_row ((w1.alloc (.cells #[.int .i64 1] 3)).alloc (.cells #[.slice (some ⟨w1.heap.size, 0, none⟩) 1 1, .int .i64 2, .int .i64 0, .int .i64 1, .int .i64 2, .slice none 0 0, .int .i64 1, .int .i64 0, .int .i64 3, .int .i64 0, .slice none 0 0, .int .i64 1, .int .i64 0, .int .i64 3, .int .i64 0, .slice none 0 0, .int .i64 3, .int .i64 0, .int .i64 0, .int .i64 0, .slice none 0 0, .int .i64 1, .int .i64 0, .int .i64 0, .int .i64 0] 40)) w.heap.size 4 _ _ hb3
  have z5 : ((w1.alloc (.cells #[.int .i64 1] 3)).alloc (.cells #[.slice (some ⟨w1.heap.size, 0, none⟩) 1 1, .int .i64 2, .int .i64 0, .int .i64 1, .int .i64 2, .slice none 0 0, .int .i64 1, .int .i64 0, .int .i64 3, .int .i64 0, .slice none 0 0, .int .i64 1, .int .i64 0, .int .i64 3, .int .i64 0, .slice none 0 0, .int .i64 3, .int .i64 0, .int .i64 0, .int .i64 0, .slice none 0 0, .int .i64 1, .int .i64 0, .int .i64 0, .int .i64 0] 40)).cell? ⟨w.heap.size, 5, none⟩ = some (.slice none 0 0) := (cell_of_row _ _ 5 _ _ _ hb3).trans rfl
  have f5 := frozen_of_row ((w1.alloc (.cells #[.int .i64 1] 3)).alloc (.cells #[.slice (some ⟨w1.heap.size, 0, none⟩) 1 1, .int .i64 2, .int .i64 0, .int .i64 1, .int .i64 2, .slice none 0 0, .int .i64 1, .int .i64 0, .int .i64 3, .int .i64 0, .slice none 0 0, .int .i64 1, .int .i64 0, .int .i64 3, .int .i64 0, .slice none 0 0, .int .i64 3, .int .i64 0, .int .i64 0, .int .i64 0, .slice none 0 0, .int .i64 1, .int .i64 0, .int .i64 0, .int .i64 0] 40)) w.heap.size 5 _ _ hb3
  have HG1 := Lib.hid hg1
  have HO1 := Lib.hid hown1
  have HW3 := Lib.hid hw3
  have hs1 : (w.alloc (.cells #[.string ⟨#[]⟩, .slice none 0 0, .string ⟨#[]⟩, .slice none 0 0, .slice none 0 0, .slice none 0 0] 26)).heap.size = w.heap.size + 1 := hsz
  clear hg1 hown1 hw3 hb0 hb1 hb3
  refine Lib.hid ?_
  go_wp2_with fail
  clear z0 z1 z2 z3 z4 z5 f0 f1 f2 f3 f4 f5
  have hw3 := HW3.out
  have hz3 : ((w1.alloc (.cells #[.int .i64 1] 3)).alloc (.cells #[.slice (some ⟨w1.heap.size, 0, none⟩) 1 1, .int .i64 2, .int .i64 0, .int .i64 1, .int .i64 2, .slice none 0 0, .int .i64 1, .int .i64 0, .int .i64 3, .int .i64 0, .slice none 0 0, .int .i64 1, .int .i64 0, .int .i64 3, .int .i64 0, .slice none 0 0, .int .i64 3, .int .i64 0, .int .i64 0, .int .i64 0, .slice none 0 0, .int .i64 1, .int .i64 0, .int .i64 0, .int .i64 0] 40)).heap.size = w1.heap.size + 2 := by simp
  have hA : ((w1.alloc (.cells #[.int .i64 1] 3)).alloc (.cells #[.slice (some ⟨w1.heap.size, 0, none⟩) 1 1, .int .i64 2, .int .i64 0, .int .i64 1, .int .i64 2, .slice none 0 0, .int .i64 1, .int .i64 0, .int .i64 3, .int .i64 0, .slice none 0 0, .int .i64 1, .int .i64 0, .int .i64 3, .int .i64 0, .slice none 0 0, .int .i64 3, .int .i64 0, .int .i64 0, .int .i64 0, .slice none 0 0, .int .i64 1, .int .i64 0, .int .i64 0, .int .i64 0] 40)).heap[w1.heap.size]? = some (.cells #[.int .i64 1] 3 (0, 0)) := ((below_alloc _ _).block _ (by simp)).trans (heap_alloc_last w1 _)
  have hB : ((w1.alloc (.cells #[.int .i64 1] 3)).alloc (.cells #[.slice (some ⟨w1.heap.size, 0, none⟩) 1 1, .int .i64 2, .int .i64 0, .int .i64 1, .int .i64 2, .slice none 0 0, .int .i64 1, .int .i64 0, .int .i64 3, .int .i64 0, .slice none 0 0, .int .i64 1, .int .i64 0, .int .i64 3, .int .i64 0, .slice none 0 0, .int .i64 3, .int .i64 0, .int .i64 0, .int .i64 0, .slice none 0 0, .int .i64 1, .int .i64 0, .int .i64 0, .int .i64 0] 40)).heap[w1.heap.size + 1]? = some (.cells #[.slice (some ⟨w1.heap.size, 0, none⟩) 1 1, .int .i64 2, .int .i64 0, .int .i64 1, .int .i64 2, .slice none 0 0, .int .i64 1, .int .i64 0, .int .i64 3, .int .i64 0, .slice none 0 0, .int .i64 1, .int .i64 0, .int .i64 3, .int .i64 0, .slice none 0 0, .int .i64 3, .int .i64 0, .int .i64 0, .int .i64 0, .slice none 0 0, .int .i64 1, .int .i64 0, .int .i64 0, .int .i64 0] 40 (0, 0)) := by
    have h := heap_alloc_last (w1.alloc (.cells #[.int .i64 1] 3)) (.cells #[.slice (some ⟨w1.heap.size, 0, none⟩) 1 1, .int .i64 2, .int .i64 0, .int .i64 1, .int .i64 2, .slice none 0 0, .int .i64 1, .int .i64 0, .int .i64 3, .int .i64 0, .slice none 0 0, .int .i64 1, .int .i64 0, .int .i64 3, .int .i64 0, .slice none 0 0, .int .i64 3, .int .i64 0, .int .i64 0, .int .i64 0, .slice none 0 0, .int .i64 1, .int .i64 0, .int .i64 0, .int .i64 0] 40)
    rwa [show (w1.alloc (.cells #[.int .i64 1] 3)).heap.size = w1.heap.size + 1 by simp] at h
  have hb0 : (w.alloc (.cells #[.string ⟨#[]⟩, .slice none 0 0, .string ⟨#[]⟩, .slice none 0 0, .slice none 0 0, .slice none 0 0] 26)).heap[w.heap.size]? = some (.cells #[.string ⟨#[]⟩, .slice none 0 0, .string ⟨#[]⟩, .slice none 0 0, .slice none 0 0, .slice none 0 0] 26 (0, 0)) := heap_alloc_last w _
  have hb1 : w1.heap[w.heap.size]? = some (.cells #[.string ⟨#[]⟩, .slice none 0 0, .string ⟨#[]⟩, .slice none 0 0, .slice none 0 0, .slice none 0 0] 26 (0, 0)) := (HG1.out.block _ (by simp) (by simp)).trans hb0
  have hb3 := (hw3.block w.heap.size (by omega)).trans hb1
  have hI : ∀ j, j < 2 * 5 → ((w1.alloc (.cells #[.int .i64 1] 3)).alloc (.cells #[.slice (some ⟨w1.heap.size, 0, none⟩) 1 1, .int .i64 2, .int .i64 0, .int .i64 1, .int .i64 2, .slice none 0 0, .int .i64 1, .int .i64 0, .int .i64 3, .int .i64 0, .slice none 0 0, .int .i64 1, .int .i64 0, .int .i64 3, .int .i64 0, .slice none 0 0, .int .i64 3, .int .i64 0, .int .i64 0, .int .i64 0, .slice none 0 0, .int .i64 1, .int .i64 0, .int .i64 0, .int .i64 0] 40)).cell? ⟨w.heap.size + 1, j, none⟩ = ([.int .i64 0, .string ⟨#[]⟩, .slice none 0 0, .int .i64 0, .string ⟨#[]⟩, .int .i64 0, .string ⟨#[]⟩, .slice none 0 0, .int .i64 0, .string ⟨#[]⟩] : List Value)[j]? := fun j hj => by
    have h := HO1.out
    rw [hsz] at h
    exact (World.cell?_of_block (hw3.block _ (by show w.heap.size + 1 < _; omega))).trans ((World.ownsRow.cellAt h j hj).trans (by rw [show (madeCells (Value.agg #[.int .i64 0, .string ⟨#[]⟩, .slice none 0 0, .int .i64 0, .string ⟨#[]⟩]).cells (2 * 5)).toList = [.int .i64 0, .string ⟨#[]⟩, .slice none 0 0, .int .i64 0, .string ⟨#[]⟩, .int .i64 0, .string ⟨#[]⟩, .slice none 0 0, .int .i64 0, .string ⟨#[]⟩] from by simp [madeCells, Value.cells, Array.range]]))
  have hBel : Below w.heap.size w ((w1.alloc (.cells #[.int .i64 1] 3)).alloc (.cells #[.slice (some ⟨w1.heap.size, 0, none⟩) 1 1, .int .i64 2, .int .i64 0, .int .i64 1, .int .i64 2, .slice none 0 0, .int .i64 1, .int .i64 0, .int .i64 3, .int .i64 0, .slice none 0 0, .int .i64 1, .int .i64 0, .int .i64 3, .int .i64 0, .slice none 0 0, .int .i64 3, .int .i64 0, .int .i64 0, .int .i64 0, .slice none 0 0, .int .i64 1, .int .i64 0, .int .i64 0, .int .i64 0] 40)) := by
    have h1 := (below_alloc w (.cells #[.string ⟨#[]⟩, .slice none 0 0, .string ⟨#[]⟩, .slice none 0 0, .slice none 0 0, .slice none 0 0] 26)).grown HG1.out (by simp) (fun k hk => by cases hk)
    exact h1.trans (hw3.mono (by omega))
  clear hw3 HW3 HG1 HO1 HI4 HY0 HY1 hb0 hb1
  generalize ((w1.alloc (.cells #[.int .i64 1] 3)).alloc (.cells #[.slice (some ⟨w1.heap.size, 0, none⟩) 1 1, .int .i64 2, .int .i64 0, .int .i64 1, .int .i64 2, .slice none 0 0, .int .i64 1, .int .i64 0, .int .i64 3, .int .i64 0, .slice none 0 0, .int .i64 1, .int .i64 0, .int .i64 3, .int .i64 0, .slice none 0 0, .int .i64 3, .int .i64 0, .int .i64 0, .int .i64 0, .slice none 0 0, .int .i64 1, .int .i64 0, .int .i64 0, .int .i64 0] 40)) = w3 at *
  have hSv := (((((((Sv.refl (fun k => k = w.heap.size) w3).setCell (p := ⟨w.heap.size, 0, none⟩) (.inl rfl) (.string ⟨#[]⟩)).setCell (p := ⟨w.heap.size, 1, none⟩) (.inl rfl) (.slice none 0 0)).setCell (p := ⟨w.heap.size, 2, none⟩) (.inl rfl) (.string ⟨#[]⟩)).setCell (p := ⟨w.heap.size, 3, none⟩) (.inl rfl) (.slice none 0 0)).setCell (p := ⟨w.heap.size, 4, none⟩) (.inl rfl) (.slice (some ⟨w.heap.size + 1, 0, none⟩) 2 2)).setCell (p := ⟨w.heap.size, 5, none⟩) (.inl rfl) (.slice (some ⟨w1.heap.size + 1, 0, none⟩) 5 5))
  have q0 := heap_setCell_same w3 w.heap.size 0 _ 26 (.string ⟨#[]⟩) hb3
  have q1 := heap_setCell_same _ w.heap.size 1 _ 26 (.slice none 0 0) q0
  have q2 := heap_setCell_same _ w.heap.size 2 _ 26 (.string ⟨#[]⟩) q1
  have q3 := heap_setCell_same _ w.heap.size 3 _ 26 (.slice none 0 0) q2
  have q4 := heap_setCell_same _ w.heap.size 4 _ 26 (.slice (some ⟨w.heap.size + 1, 0, none⟩) 2 2) q3
  have q5 := heap_setCell_same _ w.heap.size 5 _ 26 (.slice (some ⟨w1.heap.size + 1, 0, none⟩) 5 5) q4
  clear q0 q1 q2 q3 q4 hb3
  refine bodyPost_ret (results_cell_row rfl _ _ w.heap.size 26 _ (0, 0) _ rfl q5 Try.underlying26 rfl (by kernel_rfl)) rfl ?_
  generalize ((((((w3.setCell ⟨w.heap.size, 0, none⟩ (.string ⟨#[]⟩)).setCell ⟨w.heap.size, 1, none⟩ (.slice none 0 0)).setCell ⟨w.heap.size, 2, none⟩ (.string ⟨#[]⟩)).setCell ⟨w.heap.size, 3, none⟩ (.slice none 0 0)).setCell ⟨w.heap.size, 4, none⟩ (.slice (some ⟨w.heap.size + 1, 0, none⟩) 2 2)).setCell ⟨w.heap.size, 5, none⟩ (.slice (some ⟨w1.heap.size + 1, 0, none⟩) 5 5)) = wf at *
  have hA2 := (hSv.block _ (by omega) (by omega)).trans hA
  have hB2 := (hSv.block _ (by omega) (by omega)).trans hB
  have hI2 : ∀ j v, ([.int .i64 0, .string ⟨#[]⟩, .slice none 0 0, .int .i64 0, .string ⟨#[]⟩, .int .i64 0, .string ⟨#[]⟩, .slice none 0 0, .int .i64 0, .string ⟨#[]⟩] : List Value)[j]? = some v → wf.cell? ⟨w.heap.size + 1, j, none⟩ = some v := fun j v hv => hSv.cell ((hI j (by have := (List.getElem?_eq_some_iff.1 hv).1; simpa using this)).trans hv) (by show ¬ (w.heap.size + 1 = w.heap.size); omega)
  have hone : slR 1 intR wf (.slice (some ⟨w1.heap.size, 0, none⟩) 1 1) [1] := ⟨_, 1, rfl, Nat.le_refl _, by decide, sl_blk hA2 (fun i x hx => by
    match i, hx with
    | 0, hx => obtain rfl := Option.some.inj hx; exact ⟨[.int .i64 1], ⟨rfl, i64_small _ (by omega) (by omega)⟩, sg_at rfl⟩
    | n + 1, hx => simp at hx)⟩
  refine ⟨⟨fourF, none, 0, none, 0, some ⟨w.heap.size + 1, 0, none⟩, 2, some ⟨w1.heap.size + 1, 0, none⟩, 5⟩, rfl, rfl, ?_, hBel.trans (hSv.below (fun i hi => by omega) (by omega))⟩
  refine ⟨fun h => absurd h (Nat.lt_irrefl 0), fun h => absurd h (Nat.lt_irrefl 0), fun _ => ⟨_, _, rfl, by have := hSv.size; omega, fun i x hx => ?_⟩, sl_blk hB2 (fun i x hx => ?_), Nat.le_of_ble_eq_true rfl, Nat.le_of_ble_eq_true rfl, Nat.le_of_ble_eq_true rfl, Nat.le_of_ble_eq_true rfl, Nat.le_of_ble_eq_true rfl, Nat.le_of_ble_eq_true rfl, Nat.le_of_ble_eq_true rfl, Nat.le_of_ble_eq_true rfl, Nat.le_of_ble_eq_true rfl, Nat.le_of_ble_eq_true rfl⟩
  · match i, hx with
    | 0, hx =>
      obtain rfl := Option.some.inj hx
      refine ⟨[.int .i64 0, .string ⟨#[]⟩, .slice none 0 0, .int .i64 0, .string ⟨#[]⟩], ⟨_, rfl, i64_small _ (by decide) (by decide), i64_small _ (by decide) (by decide), by decide, by decide, nil_ints _⟩, fun k v hv => hI2 _ v ?_⟩
      rw [show 0 + 0 * 5 + k = k by omega]
      exact (List.getElem?_append_left (l₂ := ([.int .i64 0, .string ⟨#[]⟩, .slice none 0 0, .int .i64 0, .string ⟨#[]⟩] : List Value)) (List.getElem?_eq_some_iff.1 hv).1).trans hv
    | 1, hx =>
      obtain rfl := Option.some.inj hx
      refine ⟨[.int .i64 0, .string ⟨#[]⟩, .slice none 0 0, .int .i64 0, .string ⟨#[]⟩], ⟨_, rfl, i64_small _ (by decide) (by decide), i64_small _ (by decide) (by decide), by decide, by decide, nil_ints _⟩, fun k v hv => hI2 _ v ?_⟩
      rw [show 0 + 1 * 5 + k = 5 + k by omega]
      exact (List.getElem?_append_right (l₁ := ([.int .i64 0, .string ⟨#[]⟩, .slice none 0 0, .int .i64 0, .string ⟨#[]⟩] : List Value)) (by simp)).trans (by rw [show 5 + k - ([.int .i64 0, .string ⟨#[]⟩, .slice none 0 0, .int .i64 0, .string ⟨#[]⟩] : List Value).length = k by simp]; exact hv)
    | n + 2, hx => simp [fourF] at hx
  · match i, hx with
    | 0, hx => obtain rfl := Option.some.inj hx; exact ⟨[.slice (some ⟨w1.heap.size, 0, none⟩) 1 1, .int .i64 2, .int .i64 0, .int .i64 1, .int .i64 2], ⟨_, rfl, i64_small _ (by decide) (by decide), i64_small _ (by decide) (by decide), i64_small _ (by decide) (by decide), i64_small _ (by decide) (by decide), hone⟩, sg_at rfl⟩
    | 1, hx => obtain rfl := Option.some.inj hx; exact ⟨[.slice none 0 0, .int .i64 1, .int .i64 0, .int .i64 3, .int .i64 0], ⟨_, rfl, i64_small _ (by decide) (by decide), i64_small _ (by decide) (by decide), i64_small _ (by decide) (by decide), i64_small _ (by decide) (by decide), nil_ints _⟩, sg_at rfl⟩
    | 2, hx => obtain rfl := Option.some.inj hx; exact ⟨[.slice none 0 0, .int .i64 1, .int .i64 0, .int .i64 3, .int .i64 0], ⟨_, rfl, i64_small _ (by decide) (by decide), i64_small _ (by decide) (by decide), i64_small _ (by decide) (by decide), i64_small _ (by decide) (by decide), nil_ints _⟩, sg_at rfl⟩
    | 3, hx => obtain rfl := Option.some.inj hx; exact ⟨[.slice none 0 0, .int .i64 3, .int .i64 0, .int .i64 0, .int .i64 0], ⟨_, rfl, i64_small _ (by decide) (by decide), i64_small _ (by decide) (by decide), i64_small _ (by decide) (by decide), i64_small _ (by decide) (by decide), nil_ints _⟩, sg_at rfl⟩
    | 4, hx => obtain rfl := Option.some.inj hx; exact ⟨[.slice none 0 0, .int .i64 1, .int .i64 0, .int .i64 0, .int .i64 0], ⟨_, rfl, i64_small _ (by decide) (by decide), i64_small _ (by decide) (by decide), i64_small _ (by decide) (by decide), i64_small _ (by decide) (by decide), nil_ints _⟩, sg_at rfl⟩
    | n + 5, hx => simp [fourF] at hx
end Go.Proofs.Ytpaddigjjlidcaa
