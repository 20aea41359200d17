/-
  CONTRACT: the statements' own small function. Of what was there nothing has turned.
-/
import Derived.Test.YtcbjcpmkebbfaaaDoorStrP
namespace Go.Proofs.YtcbjcpmkebbfaaaDoor
open Go.RowKit

def intT : ByteArray := ⟨#[105, 110, 116]⟩
def oneF : Fn := ⟨⟨#[102]⟩, [intT, intT], intT, [], [⟨20, intT, [], 0, ⟨#[]⟩⟩, ⟨20, intT, [], 1, ⟨#[]⟩⟩, ⟨1, intT, [0, 1], 0, ⟨#[]⟩⟩], [⟨[0, 1, 2], 3, 2, 0, 0⟩]⟩
theorem sl_blk {α : Type} {c : Nat} {R : Rdr α} {w : World} {g : Nat} {cur : Array Value} {t : TypeId} {fr : Nat × Nat} {l : List α} (h : w.heap[g]? = some (.cells cur t fr)) (hc : ∀ i x, l[i]? = some x → ∃ cs, R w cs x ∧ Sg cur (i * c) cs) : SL c R w (some ⟨g, 0, none⟩) l := fun _ =>
  ⟨g, 0, rfl, (Array.getElem?_eq_some_iff.1 h).1, fun i x hx => by
    obtain ⟨cs, r, s⟩ := hc i x hx
    refine ⟨cs, r, fun k v hv => ?_⟩
    rw [cell_of_row w g _ cur t _ h, Nat.zero_add]
    exact s k v hv⟩
theorem alloc_at : ∀ (os : List Obj) (w : World) (j : Nat) (o : Obj), os[j]? = some o → (os.foldl World.alloc w).heap[w.heap.size + j]? = some o
  | [], _, _, _, h => by simp at h
  | a :: r, w, 0, o, h => by
    obtain rfl := Option.some.inj h
    have b : Below (w.alloc a).heap.size (w.alloc a) (r.foldl World.alloc (w.alloc a)) := by
      generalize w.alloc a = u
      have key : ∀ (r : List Obj) (x : World), u.heap.size ≤ x.heap.size → Below u.heap.size u x → Below u.heap.size u (r.foldl World.alloc x) := by
        intro r
        induction r with
        | nil => intro x _ h; exact h
        | cons o r ih => intro x hx h; exact ih _ (by simp; omega) (h.alloc hx o)
      exact key r u (Nat.le_refl _) (Below.refl _ _)
    exact (b.block w.heap.size (by simp)).trans (heap_alloc_new w a)
  | a :: r, w, j + 1, o, h => by
    have := alloc_at r (w.alloc a) j o (by simpa using h)
    rw [show (w.alloc a).heap.size = w.heap.size + 1 by simp] at this
    rwa [show w.heap.size + (j + 1) = w.heap.size + 1 + j by omega]
theorem alloc_below : ∀ (os : List Obj) {w0 w : World}, Below w0.heap.size w0 w → w0.heap.size ≤ w.heap.size → Below w0.heap.size w0 (os.foldl World.alloc w)
  | [], _, _, h, _ => h
  | a :: r, _, _, h, hs => alloc_below r (h.alloc hs a) (by simp; omega)
def oneObs (s : Nat) : List Obj := [.cells #[.string ⟨#[102]⟩, .slice (some ⟨s + 1, 0, none⟩) 2 2, .string intT, .slice none 0 0, .slice (some ⟨s + 3, 0, none⟩) 3 3, .slice (some ⟨s + 5, 0, none⟩) 1 1] 40,
  .cells #[.string intT, .string intT] 9, .cells #[.int .i64 0, .int .i64 1] 3,
  .cells #[.int .i64 20, .string intT, .slice none 0 0, .int .i64 0, .string ⟨#[]⟩, .int .i64 20, .string intT, .slice none 0 0, .int .i64 1, .string ⟨#[]⟩, .int .i64 1, .string intT, .slice (some ⟨s + 2, 0, none⟩) 2 2, .int .i64 0, .string ⟨#[]⟩] 47,
  .cells #[.int .i64 0, .int .i64 1, .int .i64 2] 3, .cells #[.slice (some ⟨s + 4, 0, none⟩) 3 3, .int .i64 3, .int .i64 2, .int .i64 0, .int .i64 0] 53]
def oneE (s : Nat) : FE := ⟨oneF, some ⟨s + 1, 0, none⟩, 2, none, 0, some ⟨s + 3, 0, none⟩, 3, some ⟨s + 5, 0, none⟩, 1⟩
def oneW (w : World) : World := (oneObs w.heap.size).foldl World.alloc w
theorem ints_row {w : World} {g : Nat} {l : List Int} {cur : Array Value} {t : TypeId} {fr : Nat × Nat} (h : w.heap[g]? = some (.cells cur t fr)) (hc : cur.toList = l.map fun n => Value.int .i64 n) (hi : ∀ x ∈ l, I64 x) : SL 1 intR w (some ⟨g, 0, none⟩) l :=
  sl_blk h (fun i x hx => ⟨[.int .i64 x], ⟨rfl, hi x (List.mem_of_getElem? hx)⟩, fun k v hv => by
    cases k with
    | zero =>
      obtain rfl := Option.some.inj hv
      rw [Nat.mul_one, Nat.add_zero, ← Array.getElem?_toList, hc, List.getElem?_map, hx]; rfl
    | succ k => simp at hv⟩)
theorem i64_small (x : Int) (h0 : 0 ≤ x) (h1 : x ≤ 100) : I64 x := ⟨by omega, by omega⟩
theorem nil_ints (w : World) : slR 1 intR w (.slice none 0 0) [] := ⟨none, 0, rfl, Nat.le_refl _, Nat.zero_le _, fun h => absurd h (Nat.lt_irrefl _)⟩
theorem sg_at {cur : Array Value} {o : Nat} {cs : List Value} (h : (cur.toList.drop o).take cs.length = cs) : Sg cur o cs := fun k v hv => by
  have hk := (List.getElem?_eq_some_iff.1 hv).1
  rw [← h, List.getElem?_take, if_pos hk, List.getElem?_drop, Array.getElem?_toList] at hv
  exact hv
theorem one_fm (w : World) : FM (oneE w.heap.size) (oneW w) := by
  have h1 := alloc_at (oneObs w.heap.size) w 1 _ rfl
  have h2 := alloc_at (oneObs w.heap.size) w 2 _ rfl
  have h3 := alloc_at (oneObs w.heap.size) w 3 _ rfl
  have h4 := alloc_at (oneObs w.heap.size) w 4 _ rfl
  have h5 := alloc_at (oneObs w.heap.size) w 5 _ rfl
  have ha : slR 1 intR (oneW w) (.slice (some ⟨w.heap.size + 2, 0, none⟩) 2 2) [0, 1] := ⟨_, 2, rfl, Nat.le_refl _, by decide, ints_row h2 rfl (fun x hx => by simp at hx; rcases hx with rfl | rfl <;> exact i64_small _ (by omega) (by omega))⟩
  have hl : slR 1 intR (oneW w) (.slice (some ⟨w.heap.size + 4, 0, none⟩) 3 3) [0, 1, 2] := ⟨_, 3, rfl, Nat.le_refl _, by decide, ints_row h4 rfl (fun x hx => by simp at hx; rcases hx with rfl | rfl | rfl <;> exact i64_small _ (by omega) (by omega))⟩
  refine ⟨sl_blk h1 (fun i x hx => ?_), fun h => absurd h (Nat.lt_irrefl 0), sl_blk h3 (fun i x hx => ?_), sl_blk h5 (fun i x hx => ?_), Nat.le_of_ble_eq_true rfl, Nat.le_of_ble_eq_true rfl, Nat.le_of_ble_eq_true rfl, Nat.le_of_ble_eq_true rfl, Nat.le_of_ble_eq_true rfl, Nat.le_of_ble_eq_true rfl, Nat.le_of_ble_eq_true rfl, Nat.le_of_ble_eq_true rfl, Nat.le_of_ble_eq_true rfl, Nat.le_of_ble_eq_true rfl⟩
  · match i, hx with
    | 0, hx => obtain rfl := Option.some.inj hx; exact ⟨[.string intT], ⟨rfl, by decide⟩, sg_at rfl⟩
    | 1, hx => obtain rfl := Option.some.inj hx; exact ⟨[.string intT], ⟨rfl, by decide⟩, sg_at rfl⟩
    | n + 2, hx => simp [oneE, oneF] at hx
  · match i, hx with
    | 0, hx => obtain rfl := Option.some.inj hx; exact ⟨[.int .i64 20, .string intT, .slice none 0 0, .int .i64 0, .string ⟨#[]⟩], ⟨_, rfl, i64_small _ (by decide) (by decide), i64_small _ (by decide) (by decide), by decide, by decide, nil_ints _⟩, sg_at rfl⟩
    | 1, hx => obtain rfl := Option.some.inj hx; exact ⟨[.int .i64 20, .string intT, .slice none 0 0, .int .i64 1, .string ⟨#[]⟩], ⟨_, rfl, i64_small _ (by decide) (by decide), i64_small _ (by decide) (by decide), by decide, by decide, nil_ints _⟩, sg_at rfl⟩
    | 2, hx => obtain rfl := Option.some.inj hx; exact ⟨[.int .i64 1, .string intT, .slice (some ⟨w.heap.size + 2, 0, none⟩) 2 2, .int .i64 0, .string ⟨#[]⟩], ⟨_, rfl, i64_small _ (by decide) (by decide), i64_small _ (by decide) (by decide), by decide, by decide, ha⟩, sg_at rfl⟩
    | n + 3, hx => simp [oneE, oneF] at hx
  · match i, hx with
    | 0, hx => obtain rfl := Option.some.inj hx; exact ⟨[.slice (some ⟨w.heap.size + 4, 0, none⟩) 3 3, .int .i64 3, .int .i64 2, .int .i64 0, .int .i64 0], ⟨_, rfl, i64_small _ (by decide) (by decide), i64_small _ (by decide) (by decide), i64_small _ (by decide) (by decide), i64_small _ (by decide) (by decide), hl⟩, sg_at rfl⟩
    | n + 1, hx => simp [oneE, oneF] at hx
theorem key28 (tmps : Array Value) (W : World) (s : Nat) (v0 v1 v2 v3 v4 v5 : Value) (ht : tmps[0]? = some (.pointer (some ⟨s, 0, none⟩)))
    (c0 : W.cell? ⟨s, 0, none⟩ = some v0) (c1 : W.cell? ⟨s, 1, none⟩ = some v1) (c2 : W.cell? ⟨s, 2, none⟩ = some v2) (c3 : W.cell? ⟨s, 3, none⟩ = some v3) (c4 : W.cell? ⟨s, 4, none⟩ = some v4) (c5 : W.cell? ⟨s, 5, none⟩ = some v5) :
    (results Tryd.f28 tmps).run Tryd.prog W = .ok (.agg #[v0, v1, v2, v3, v4, v5]) W := by
  simp [results, Tryd.results28, go_sem, ht, c0, c1, c2, c3, c4, c5]
set_option maxRecDepth 20000 in
set_option maxHeartbeats 1000000 in
theorem one_any (w : World) : Calls Tryd.prog 28 #[] w fun e w' => e = .returned (oneE w.heap.size).v ∧ w' = oneW w := by
  go_enter Tryd.func28, Tryd.ntmps28
  go_wp2_with fail
  have h0 := alloc_at (oneObs w.heap.size) w 0 _ rfl
  have c : ∀ k, (oneW w).cell? ⟨w.heap.size, k, none⟩ = (oneE w.heap.size).row[k]? := fun k => cell_of_row _ _ k _ _ _ h0
  have c0 := c 0
  have c1 := c 1
  have c2 := c 2
  have c3 := c 3
  have c4 := c 4
  have c5 := c 5
  exact bodyPost_ret (v := (oneE w.heap.size).v) (key28 _ (oneW w) w.heap.size _ _ _ _ _ _ rfl c0 c1 c2 c3 c4 c5) rfl ⟨rfl, rfl⟩

end Go.Proofs.YtcbjcpmkebbfaaaDoor
