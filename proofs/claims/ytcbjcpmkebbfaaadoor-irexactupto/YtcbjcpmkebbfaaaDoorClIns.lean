/-
  CONTRACTS: an instruction, a block, a struct in new memory. Of what was there nothing has turned.
-/
import Derived.Test.YtcbjcpmkebbfaaaDoorClRow
namespace Go.Proofs.YtcbjcpmkebbfaaaDoor
open Go.RowKit

/-- The clone of one element: the same, in memory of its own. -/
def ElQ {α : Type} (O : ORdr α) (x : α) (w : World) (e : Ending) (w' : World) : Prop := ∃ cs : List Value, e = .returned (.agg cs.toArray) ∧ O w' w.heap.size w'.heap.size cs x ∧ Below w.heap.size w w'
/-- A row in memory of its own. -/
def RwQ {α : Type} (c : Nat) (O : ORdr α) (l : List α) (w : World) (e : Ending) (w' : World) : Prop := ∃ A, e = .returned (.slice A l.length l.length) ∧ oR c O w' w.heap.size w'.heap.size (.slice A l.length l.length) l ∧ Below w.heap.size w w'
theorem leaf_row {α : Type} {c : Nat} {R : Rdr α} (hR : Kp R) {w w' : World} {l : List α} {e : TypeId} {FL : List Value} {en : Ending} (hf : Flat c R w l FL) (hl : l.length ≤ 1099511627776) (h : RowN w l.length e FL en w') : RwQ c (lf R) l w en w' := by
  obtain ⟨A, rfl, h1, hb⟩ := h
  refine ⟨A, rfl, ⟨A, _, rfl, Nat.le_refl _, by omega, fun h0 => ?_⟩, hb⟩
  obtain ⟨rfl, hg⟩ := h1 h0
  refine ⟨w.heap.size, e, FL.toArray, fun _ => w.heap.size + 1, rfl, hg, Nat.le_refl _, Nat.lt_succ_self _, fun _ _ => Nat.le_refl _, (Array.getElem?_eq_some_iff.1 hg).1, fun i x hx => ?_⟩
  obtain ⟨cs, h2, h3⟩ := hf.2.2 i x hx
  exact ⟨cs, hR.on h2 hb (Nat.le_refl _), h3⟩
theorem rowInt_any (A : Option Addr) (c0 : Nat) (l : List Int) (w : World) (hR : SL 1 intR w A l) (hl : l.length ≤ 1099511627776) : Calls Tryd.prog 75 #[.slice A l.length c0] w (RwQ 1 (lf intR) l w) := by
  obtain ⟨FL, hf, hs⟩ := flat_of cz_int hR
  exact (rowInt A c0 l.length FL w hl hf.1 hf.2.1 hs).mono fun _ _ h => leaf_row kp_int hf hl h
theorem rowStr_any (A : Option Addr) (c0 : Nat) (l : List ByteArray) (w : World) (hR : SL 1 strR w A l) (hl : l.length ≤ 1099511627776) : Calls Tryd.prog 64 #[.slice A l.length c0] w (RwQ 1 (lf strR) l w) := by
  obtain ⟨FL, hf, hs⟩ := flat_of cz_str hR
  exact (rowStr A c0 l.length FL w hl hf.1 hf.2.1 hs).mono fun _ _ h => leaf_row kp_str hf hl h
theorem rowFd_any (A : Option Addr) (c0 : Nat) (l : List Fd) (w : World) (hR : SL 2 fdR w A l) (hl : l.length ≤ 1099511627776) : Calls Tryd.prog 47 #[.slice A l.length c0] w (RwQ 2 (lf fdR) l w) := by
  obtain ⟨FL, hf, hs⟩ := flat_of cz_fd hR
  exact (rowFd A c0 l.length FL w hl hf.1 hf.2.1 hs).mono fun _ _ h => leaf_row kp_fd hf hl h

theorem frz_of {w : World} {g k : Nat} {cs : Array Value} {t : TypeId} (h : w.heap[g]? = some (.cells cs t (0, 0))) : w.frozen? ⟨g, k, none⟩ = false := by simp [World.frozen?, h]
theorem frz_a {w w3 : World} {A B : Array Value} {t t' : TypeId} (b : Below ((w.alloc (.cells A t)).alloc (.cells B t')).heap.size ((w.alloc (.cells A t)).alloc (.cells B t')) w3) (k : Nat) : w3.frozen? ⟨w.heap.size, k, none⟩ = false := by
  have h1 : (w.alloc (.cells A t)).heap[w.heap.size]? = some (.cells A t (0, 0)) := heap_alloc_last w _
  have h2 := (below_alloc (w.alloc (.cells A t)) (.cells B t')).block w.heap.size (by simp)
  have h3 := b.block w.heap.size (by simp; omega)
  exact frz_of (h3.trans (h2.trans h1))
theorem frz_b {w w3 : World} {A B : Array Value} {t t' : TypeId} (b : Below ((w.alloc (.cells A t)).alloc (.cells B t')).heap.size ((w.alloc (.cells A t)).alloc (.cells B t')) w3) (k : Nat) : w3.frozen? ⟨w.heap.size + 1, k, none⟩ = false := by
  have h1 : ((w.alloc (.cells A t)).alloc (.cells B t')).heap[(w.alloc (.cells A t)).heap.size]? = some (.cells B t' (0, 0)) := heap_alloc_last _ _
  rw [show (w.alloc (.cells A t)).heap.size = w.heap.size + 1 by simp] at h1
  have h3 := b.block (w.heap.size + 1) (by simp)
  exact frz_of (h3.trans h1)
theorem Bt.set {lo hi : Nat} {w w' : World} (h : Bt lo hi w w') {p : Addr} (hp : p.block < lo) (v : Value) : Bt lo hi w (w'.setCell p v) :=
  ⟨by have := h.1; simpa [World.setCell] using this, fun k h1 h2 => (heap_setCell_other w' p k v (by omega)).trans (h.2 k h1 h2)⟩
theorem Bt.refl (lo hi : Nat) (w : World) : Bt lo hi w w := ⟨Nat.le_refl _, fun _ _ _ => rfl⟩
set_option maxHeartbeats 1000000 in
theorem clIns_any (E : IE) (w : World) (hM : IM E w) (hl : E.x.args.length ≤ 1099511627776) : Calls Tryd.prog 66 #[E.v] w (ElQ insO E.x w) := by
  have HM := Lib.hid hM
  have HL := Lib.hid hl
  clear hM hl
  obtain ⟨⟨op, ty, args, n, nm⟩, aA, ac⟩ := E
  unfold IE.v IE.row
  go_enter Tryd.func66, Tryd.ntmps66
  go_wp2_with fail
  have hb2 := below_two w (.cells #[.int .i64 op, .string ty, .slice aA args.length ac, .int .i64 n, .string nm] 47) (.cells #[.int .i64 0, .string ⟨#[]⟩, .slice none 0 0, .int .i64 0, .string ⟨#[]⟩] 47)
  refine (rowInt_any aA ac args _ (HM.out.A.below kp_int hb2 (Nat.le_refl _)) HL.out).mono ?_
  rintro e w3 ⟨A, rfl, hO, b3⟩
  have a0 := keepB (two_a w #[.int .i64 op, .string ty, .slice aA args.length ac, .int .i64 n, .string nm] #[.int .i64 0, .string ⟨#[]⟩, .slice none 0 0, .int .i64 0, .string ⟨#[]⟩] 47 47 0 _ rfl) b3
  have z0 := keepB (two_b w #[.int .i64 op, .string ty, .slice aA args.length ac, .int .i64 n, .string nm] #[.int .i64 0, .string ⟨#[]⟩, .slice none 0 0, .int .i64 0, .string ⟨#[]⟩] 47 47 0 _ rfl) b3
  have a1 := keepB (two_a w #[.int .i64 op, .string ty, .slice aA args.length ac, .int .i64 n, .string nm] #[.int .i64 0, .string ⟨#[]⟩, .slice none 0 0, .int .i64 0, .string ⟨#[]⟩] 47 47 1 _ rfl) b3
  have z1 := keepB (two_b w #[.int .i64 op, .string ty, .slice aA args.length ac, .int .i64 n, .string nm] #[.int .i64 0, .string ⟨#[]⟩, .slice none 0 0, .int .i64 0, .string ⟨#[]⟩] 47 47 1 _ rfl) b3
  have a2 := keepB (two_a w #[.int .i64 op, .string ty, .slice aA args.length ac, .int .i64 n, .string nm] #[.int .i64 0, .string ⟨#[]⟩, .slice none 0 0, .int .i64 0, .string ⟨#[]⟩] 47 47 2 _ rfl) b3
  have z2 := keepB (two_b w #[.int .i64 op, .string ty, .slice aA args.length ac, .int .i64 n, .string nm] #[.int .i64 0, .string ⟨#[]⟩, .slice none 0 0, .int .i64 0, .string ⟨#[]⟩] 47 47 2 _ rfl) b3
  have a3 := keepB (two_a w #[.int .i64 op, .string ty, .slice aA args.length ac, .int .i64 n, .string nm] #[.int .i64 0, .string ⟨#[]⟩, .slice none 0 0, .int .i64 0, .string ⟨#[]⟩] 47 47 3 _ rfl) b3
  have z3 := keepB (two_b w #[.int .i64 op, .string ty, .slice aA args.length ac, .int .i64 n, .string nm] #[.int .i64 0, .string ⟨#[]⟩, .slice none 0 0, .int .i64 0, .string ⟨#[]⟩] 47 47 3 _ rfl) b3
  have a4 := keepB (two_a w #[.int .i64 op, .string ty, .slice aA args.length ac, .int .i64 n, .string nm] #[.int .i64 0, .string ⟨#[]⟩, .slice none 0 0, .int .i64 0, .string ⟨#[]⟩] 47 47 4 _ rfl) b3
  have z4 := keepB (two_b w #[.int .i64 op, .string ty, .slice aA args.length ac, .int .i64 n, .string nm] #[.int .i64 0, .string ⟨#[]⟩, .slice none 0 0, .int .i64 0, .string ⟨#[]⟩] 47 47 4 _ rfl) b3
  have f1 : ∀ k, w3.frozen? ⟨w.heap.size, k, none⟩ = false := frz_a b3
  have f2 : ∀ k, w3.frozen? ⟨w.heap.size + 1, k, none⟩ = false := frz_b b3
  have HO := Lib.hid hO
  have HB := Lib.hid (hb2.trans (b3.mono hb2.size))
  clear hO b3 hb2
  go_wp2_with fail
  refine bodyPost_ret (v := .agg #[.int .i64 op, .string ty, .slice A args.length args.length, .int .i64 n, .string nm]) (by simp [results, Tryd.results66, go_sem, z0, z1, z2, z3, z4]) rfl ⟨[.int .i64 op, .string ty, .slice A args.length args.length, .int .i64 n, .string nm], rfl, ⟨_, rfl, HM.out.iop, HM.out.inn, HM.out.tl, HM.out.nl, ?_⟩, ?_⟩
  · refine (HO.out.on kpo_int ((((((((Bt.refl (w.heap.size + 2) w3.heap.size w3).set (show w.heap.size < w.heap.size + 2 by omega) _).set (show w.heap.size + 1 < w.heap.size + 2 by omega) _).set (show w.heap.size + 1 < w.heap.size + 2 by omega) _).set (show w.heap.size + 1 < w.heap.size + 2 by omega) _).set (show w.heap.size + 1 < w.heap.size + 2 by omega) _).set (show w.heap.size + 1 < w.heap.size + 2 by omega) _).sub (by simp) (Nat.le_refl _))).wide (by simp; omega) ?_
    simp [World.setCell]
  · exact ((((((HB.out.setCell (Nat.le_refl _) _).setCell (Nat.le_succ _) _).setCell (Nat.le_succ _) _).setCell (Nat.le_succ _) _).setCell (Nat.le_succ _) _).setCell (Nat.le_succ _) _)

set_option maxHeartbeats 1000000 in
theorem clBlk_any (E : BE) (w : World) (hM : BM E w) (hl : E.x.list.length ≤ 1099511627776) : Calls Tryd.prog 68 #[E.v] w (ElQ blkO E.x w) := by
  have HM := Lib.hid hM
  have HL := Lib.hid hl
  clear hM hl
  obtain ⟨⟨ls, j, g, t, s⟩, lA, lc⟩ := E
  unfold BE.v BE.row
  go_enter Tryd.func68, Tryd.ntmps68
  go_wp2_with fail
  have hb2 := below_two w (.cells #[.slice lA ls.length lc, .int .i64 j, .int .i64 g, .int .i64 t, .int .i64 s] 53) (.cells #[.slice none 0 0, .int .i64 0, .int .i64 0, .int .i64 0, .int .i64 0] 53)
  refine (rowInt_any lA lc ls _ (HM.out.L.below kp_int hb2 (Nat.le_refl _)) HL.out).mono ?_
  rintro e w3 ⟨A, rfl, hO, b3⟩
  have a0 := keepB (two_a w #[.slice lA ls.length lc, .int .i64 j, .int .i64 g, .int .i64 t, .int .i64 s] #[.slice none 0 0, .int .i64 0, .int .i64 0, .int .i64 0, .int .i64 0] 53 53 0 _ rfl) b3
  have z0 := keepB (two_b w #[.slice lA ls.length lc, .int .i64 j, .int .i64 g, .int .i64 t, .int .i64 s] #[.slice none 0 0, .int .i64 0, .int .i64 0, .int .i64 0, .int .i64 0] 53 53 0 _ rfl) b3
  have a1 := keepB (two_a w #[.slice lA ls.length lc, .int .i64 j, .int .i64 g, .int .i64 t, .int .i64 s] #[.slice none 0 0, .int .i64 0, .int .i64 0, .int .i64 0, .int .i64 0] 53 53 1 _ rfl) b3
  have z1 := keepB (two_b w #[.slice lA ls.length lc, .int .i64 j, .int .i64 g, .int .i64 t, .int .i64 s] #[.slice none 0 0, .int .i64 0, .int .i64 0, .int .i64 0, .int .i64 0] 53 53 1 _ rfl) b3
  have a2 := keepB (two_a w #[.slice lA ls.length lc, .int .i64 j, .int .i64 g, .int .i64 t, .int .i64 s] #[.slice none 0 0, .int .i64 0, .int .i64 0, .int .i64 0, .int .i64 0] 53 53 2 _ rfl) b3
  have z2 := keepB (two_b w #[.slice lA ls.length lc, .int .i64 j, .int .i64 g, .int .i64 t, .int .i64 s] #[.slice none 0 0, .int .i64 0, .int .i64 0, .int .i64 0, .int .i64 0] 53 53 2 _ rfl) b3
  have a3 := keepB (two_a w #[.slice lA ls.length lc, .int .i64 j, .int .i64 g, .int .i64 t, .int .i64 s] #[.slice none 0 0, .int .i64 0, .int .i64 0, .int .i64 0, .int .i64 0] 53 53 3 _ rfl) b3
  have z3 := keepB (two_b w #[.slice lA ls.length lc, .int .i64 j, .int .i64 g, .int .i64 t, .int .i64 s] #[.slice none 0 0, .int .i64 0, .int .i64 0, .int .i64 0, .int .i64 0] 53 53 3 _ rfl) b3
  have a4 := keepB (two_a w #[.slice lA ls.length lc, .int .i64 j, .int .i64 g, .int .i64 t, .int .i64 s] #[.slice none 0 0, .int .i64 0, .int .i64 0, .int .i64 0, .int .i64 0] 53 53 4 _ rfl) b3
  have z4 := keepB (two_b w #[.slice lA ls.length lc, .int .i64 j, .int .i64 g, .int .i64 t, .int .i64 s] #[.slice none 0 0, .int .i64 0, .int .i64 0, .int .i64 0, .int .i64 0] 53 53 4 _ rfl) b3
  have f1 : ∀ k, w3.frozen? ⟨w.heap.size, k, none⟩ = false := frz_a b3
  have f2 : ∀ k, w3.frozen? ⟨w.heap.size + 1, k, none⟩ = false := frz_b b3
  have HO := Lib.hid hO
  have HB := Lib.hid (hb2.trans (b3.mono hb2.size))
  clear hO b3 hb2
  go_wp2_with fail
  refine bodyPost_ret (v := .agg #[.slice A ls.length ls.length, .int .i64 j, .int .i64 g, .int .i64 t, .int .i64 s]) (by simp [results, Tryd.results68, go_sem, z0, z1, z2, z3, z4]) rfl ⟨[.slice A ls.length ls.length, .int .i64 j, .int .i64 g, .int .i64 t, .int .i64 s], rfl, ⟨_, rfl, HM.out.ij, HM.out.ia, HM.out.i0, HM.out.i1, ?_⟩, ?_⟩
  · refine (HO.out.on kpo_int ((((((((Bt.refl (w.heap.size + 2) w3.heap.size w3).set (show w.heap.size < w.heap.size + 2 by omega) _).set (show w.heap.size + 1 < w.heap.size + 2 by omega) _).set (show w.heap.size + 1 < w.heap.size + 2 by omega) _).set (show w.heap.size + 1 < w.heap.size + 2 by omega) _).set (show w.heap.size + 1 < w.heap.size + 2 by omega) _).set (show w.heap.size + 1 < w.heap.size + 2 by omega) _).sub (by simp) (Nat.le_refl _))).wide (by simp; omega) ?_
    simp [World.setCell]
  · exact ((((((HB.out.setCell (Nat.le_refl _) _).setCell (Nat.le_succ _) _).setCell (Nat.le_succ _) _).setCell (Nat.le_succ _) _).setCell (Nat.le_succ _) _).setCell (Nat.le_succ _) _)

set_option maxHeartbeats 1000000 in
theorem clSt_any (E : TE) (w : World) (hM : TM E w) (hl : E.x.fields.length ≤ 1099511627776) : Calls Tryd.prog 46 #[E.v] w (ElQ stO E.x w) := by
  have HM := Lib.hid hM
  have HL := Lib.hid hl
  clear hM hl
  obtain ⟨⟨nm, fs⟩, fA, fc⟩ := E
  unfold TE.v TE.row
  go_enter Tryd.func46, Tryd.ntmps46
  go_wp2_with fail
  have hb2 := below_two w (.cells #[.string nm, .slice fA fs.length fc] 58) (.cells #[.string ⟨#[]⟩, .slice none 0 0] 58)
  refine (rowFd_any fA fc fs _ (HM.out.F.below kp_fd hb2 (Nat.le_refl _)) HL.out).mono ?_
  rintro e w3 ⟨A, rfl, hO, b3⟩
  have a0 := keepB (two_a w #[.string nm, .slice fA fs.length fc] #[.string ⟨#[]⟩, .slice none 0 0] 58 58 0 _ rfl) b3
  have z0 := keepB (two_b w #[.string nm, .slice fA fs.length fc] #[.string ⟨#[]⟩, .slice none 0 0] 58 58 0 _ rfl) b3
  have a1 := keepB (two_a w #[.string nm, .slice fA fs.length fc] #[.string ⟨#[]⟩, .slice none 0 0] 58 58 1 _ rfl) b3
  have z1 := keepB (two_b w #[.string nm, .slice fA fs.length fc] #[.string ⟨#[]⟩, .slice none 0 0] 58 58 1 _ rfl) b3
  have f1 : ∀ k, w3.frozen? ⟨w.heap.size, k, none⟩ = false := frz_a b3
  have f2 : ∀ k, w3.frozen? ⟨w.heap.size + 1, k, none⟩ = false := frz_b b3
  have HO := Lib.hid hO
  have HB := Lib.hid (hb2.trans (b3.mono hb2.size))
  clear hO b3 hb2
  go_wp2_with fail
  refine bodyPost_ret (v := .agg #[.string nm, .slice A fs.length fs.length]) (by simp [results, Tryd.results46, go_sem, z0, z1]) rfl ⟨[.string nm, .slice A fs.length fs.length], rfl, ⟨_, rfl, HM.out.nl, ?_⟩, ?_⟩
  · refine (HO.out.on kpo_fd (((((Bt.refl (w.heap.size + 2) w3.heap.size w3).set (show w.heap.size < w.heap.size + 2 by omega) _).set (show w.heap.size + 1 < w.heap.size + 2 by omega) _).set (show w.heap.size + 1 < w.heap.size + 2 by omega) _).sub (by simp) (Nat.le_refl _))).wide (by simp; omega) ?_
    simp [World.setCell]
  · exact (((HB.out.setCell (Nat.le_refl _) _).setCell (Nat.le_succ _) _).setCell (Nat.le_succ _) _)

end Go.Proofs.YtcbjcpmkebbfaaaDoor
