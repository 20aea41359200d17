/-
  CONTRACTS: a function, a row of functions in new memory. Of what was there nothing has turned.
-/
import Derived.Test.YtcbjcpmkebbfaaaDoorClEach
import Derived.Test.YtcbjcpmkebbfaaaDoorIrRow
namespace Go.Proofs.YtcbjcpmkebbfaaaDoor
open Go.RowKit

/-- No row is longer than memory has room for. -/
structure SmF (f : Fn) : Prop where
  p : f.params.length ≤ 1099511627776
  s : f.slots.length ≤ 1099511627776
  i : f.ins.length ≤ 1099511627776
  b : f.blocks.length ≤ 1099511627776
  ia : ∀ x ∈ f.ins, x.args.length ≤ 1099511627776
  bl : ∀ x ∈ f.blocks, x.list.length ≤ 1099511627776
theorem Sv.bt {P : Nat → Prop} {w w' : World} {lo hi : Nat} (h : Sv P w w') (hp : ∀ k, P k → k < lo) (hi' : hi ≤ w.heap.size) : Bt lo hi w w' := ⟨h.size, fun k h1 h2 => h.block k (by omega) (fun p => by have := hp k p; omega)⟩
def Tw (s k : Nat) : Prop := k = s ∨ k = s + 1
theorem Sv.onSet {P : Nat → Prop} {a w w' : World} {p : Addr} {v : Value} (h : Sv P a w) (b : Below w.heap.size w w') (hp : P p.block) : Sv P a (w'.setCell p v) := (h.on b).setCell (.inl hp) v
set_option maxRecDepth 20000 in
set_option maxHeartbeats 2000000 in
theorem clFn_any (E : FE) (w : World) (hM : FM E w) (hl : SmF E.f) : Calls Tryd.prog 49 #[E.v] w (ElQ fnO E.f w) := by
  have HM := Lib.hid hM
  have HL := Lib.hid hl
  clear hM hl
  obtain ⟨⟨nm, ps, rs, ss, is, bs⟩, pA, pc, sA, sc, iA, ic, bA, bc⟩ := E
  unfold FE.v FE.row
  go_enter Tryd.func49, Tryd.ntmps49
  go_wp2_with fail
  have HB0 := Lib.hid (below_two w (.cells #[.string nm, .slice pA ps.length pc, .string rs, .slice sA ss.length sc, .slice iA is.length ic, .slice bA bs.length bc] 40) (.cells #[.string ⟨#[]⟩, .slice none 0 0, .string ⟨#[]⟩, .slice none 0 0, .slice none 0 0, .slice none 0 0] 40))
  have H1 : Hid (((w.alloc (.cells #[.string nm, .slice pA ps.length pc, .string rs, .slice sA ss.length sc, .slice iA is.length ic, .slice bA bs.length bc] 40)).alloc (.cells #[.string ⟨#[]⟩, .slice none 0 0, .string ⟨#[]⟩, .slice none 0 0, .slice none 0 0, .slice none 0 0] 40)).heap[w.heap.size]? = some (.cells #[.string nm, .slice pA ps.length pc, .string rs, .slice sA ss.length sc, .slice iA is.length ic, .slice bA bs.length bc] 40 (0, 0))) := ((below_alloc (w.alloc (.cells #[.string nm, .slice pA ps.length pc, .string rs, .slice sA ss.length sc, .slice iA is.length ic, .slice bA bs.length bc] 40)) (.cells #[.string ⟨#[]⟩, .slice none 0 0, .string ⟨#[]⟩, .slice none 0 0, .slice none 0 0, .slice none 0 0] 40)).block w.heap.size (by simp)).trans (heap_alloc_last w _)
  have H2 : Hid (((w.alloc (.cells #[.string nm, .slice pA ps.length pc, .string rs, .slice sA ss.length sc, .slice iA is.length ic, .slice bA bs.length bc] 40)).alloc (.cells #[.string ⟨#[]⟩, .slice none 0 0, .string ⟨#[]⟩, .slice none 0 0, .slice none 0 0, .slice none 0 0] 40)).heap[w.heap.size + 1]? = some (.cells #[.string ⟨#[]⟩, .slice none 0 0, .string ⟨#[]⟩, .slice none 0 0, .slice none 0 0, .slice none 0 0] 40 (0, 0))) := by
    have h : ((w.alloc (.cells #[.string nm, .slice pA ps.length pc, .string rs, .slice sA ss.length sc, .slice iA is.length ic, .slice bA bs.length bc] 40)).alloc (.cells #[.string ⟨#[]⟩, .slice none 0 0, .string ⟨#[]⟩, .slice none 0 0, .slice none 0 0, .slice none 0 0] 40)).heap[(w.alloc (.cells #[.string nm, .slice pA ps.length pc, .string rs, .slice sA ss.length sc, .slice iA is.length ic, .slice bA bs.length bc] 40)).heap.size]? = some (.cells #[.string ⟨#[]⟩, .slice none 0 0, .string ⟨#[]⟩, .slice none 0 0, .slice none 0 0, .slice none 0 0] 40 (0, 0)) := heap_alloc_last _ _
    rw [show (w.alloc (.cells #[.string nm, .slice pA ps.length pc, .string rs, .slice sA ss.length sc, .slice iA is.length ic, .slice bA bs.length bc] 40)).heap.size = w.heap.size + 1 by simp] at h
    exact h
  have HZ0 : Hid (((w.alloc (.cells #[.string nm, .slice pA ps.length pc, .string rs, .slice sA ss.length sc, .slice iA is.length ic, .slice bA bs.length bc] 40)).alloc (.cells #[.string ⟨#[]⟩, .slice none 0 0, .string ⟨#[]⟩, .slice none 0 0, .slice none 0 0, .slice none 0 0] 40)).heap.size = w.heap.size + 2) := by show _ = _; simp
  generalize (w.alloc (.cells #[.string nm, .slice pA ps.length pc, .string rs, .slice sA ss.length sc, .slice iA is.length ic, .slice bA bs.length bc] 40)).alloc (.cells #[.string ⟨#[]⟩, .slice none 0 0, .string ⟨#[]⟩, .slice none 0 0, .slice none 0 0, .slice none 0 0] 40) = u0 at *
  refine (rowStr_any pA pc ps u0 (HM.out.P.below kp_str HB0.out (Nat.le_refl _)) HL.out.p).mono ?_
  rintro e w0 ⟨A0, rfl, hO, b⟩
  have HO0 := Lib.hid hO
  have HS00 : Hid (Sv (Tw w.heap.size) w0 w0) := Sv.refl _ _
  have HZL : Hid (w.heap.size + 2 ≤ u0.heap.size) := Nat.le_of_eq HZ0.out.symm
  replace H1 := Lib.hid ((b.block w.heap.size (by have := HZL.out; omega)).trans H1.out)
  replace H2 := Lib.hid ((b.block (w.heap.size + 1) (by have := HZL.out; omega)).trans H2.out)
  have a0 : w0.cell? ⟨w.heap.size, 0, none⟩ = some (.string nm) := cell_of_row _ _ 0 _ _ _ H1.out
  have a1 : w0.cell? ⟨w.heap.size, 1, none⟩ = some (.slice pA ps.length pc) := cell_of_row _ _ 1 _ _ _ H1.out
  have a2 : w0.cell? ⟨w.heap.size, 2, none⟩ = some (.string rs) := cell_of_row _ _ 2 _ _ _ H1.out
  have a3 : w0.cell? ⟨w.heap.size, 3, none⟩ = some (.slice sA ss.length sc) := cell_of_row _ _ 3 _ _ _ H1.out
  have a4 : w0.cell? ⟨w.heap.size, 4, none⟩ = some (.slice iA is.length ic) := cell_of_row _ _ 4 _ _ _ H1.out
  have a5 : w0.cell? ⟨w.heap.size, 5, none⟩ = some (.slice bA bs.length bc) := cell_of_row _ _ 5 _ _ _ H1.out
  have f1 : ∀ k, w0.frozen? ⟨w.heap.size, k, none⟩ = false := fun k => frz_of H1.out
  have f2 : ∀ k, w0.frozen? ⟨w.heap.size + 1, k, none⟩ = false := fun k => frz_of H2.out
  have HW0 : Hid (u0.heap.size ≤ w0.heap.size) := b.size
  have HBW := Lib.hid (HB0.out.trans (b.mono HB0.out.size))
  clear hO b
  go_wp2_with fail
  replace H1 : Hid ((w0.setCell ⟨w.heap.size, 1, none⟩ (.slice A0 ps.length ps.length)).heap[w.heap.size]? = some (.cells #[.string nm, .slice A0 ps.length ps.length, .string rs, .slice sA ss.length sc, .slice iA is.length ic, .slice bA bs.length bc] 40 (0, 0))) := heap_setCell_same w0 w.heap.size 1 _ 40 _ H1.out
  replace H2 := Lib.hid ((heap_setCell_other w0 ⟨w.heap.size, 1, none⟩ (w.heap.size + 1) (.slice A0 ps.length ps.length) (by simp)).trans H2.out)
  have HB1 := Lib.hid (HBW.out.setCell (p := ⟨w.heap.size, 1, none⟩) (Nat.le_refl _) (.slice A0 ps.length ps.length))
  have HSZ0 : Hid ((w0.setCell ⟨w.heap.size, 1, none⟩ (.slice A0 ps.length ps.length)).heap.size = w0.heap.size) := by show _ = _; simp [World.setCell]
  have HS0 := Lib.hid (HS00.out.setCell (p := ⟨w.heap.size, 1, none⟩) (.inl (.inl rfl)) (.slice A0 ps.length ps.length))
  clear a0 a1 a2 a3 a4 a5 f1 f2 HS00 HBW
  generalize w0.setCell ⟨w.heap.size, 1, none⟩ (.slice A0 ps.length ps.length) = u1 at *
  refine (rowStr_any sA sc ss u1 (HM.out.S.below kp_str HB1.out (Nat.le_refl _)) HL.out.s).mono ?_
  rintro e w1 ⟨A1, rfl, hO, b⟩
  have HO1 := Lib.hid hO
  have HS10 : Hid (Sv (Tw w.heap.size) w1 w1) := Sv.refl _ _
  have HZL : Hid (w.heap.size + 2 ≤ u1.heap.size) := Nat.le_trans HZL.out (by have := HSZ0.out; have := HW0.out; omega)
  replace H1 := Lib.hid ((b.block w.heap.size (by have := HZL.out; omega)).trans H1.out)
  replace H2 := Lib.hid ((b.block (w.heap.size + 1) (by have := HZL.out; omega)).trans H2.out)
  replace HS0 := Lib.hid (HS0.out.on b)
  have a0 : w1.cell? ⟨w.heap.size, 0, none⟩ = some (.string nm) := cell_of_row _ _ 0 _ _ _ H1.out
  have a1 : w1.cell? ⟨w.heap.size, 1, none⟩ = some (.slice A0 ps.length ps.length) := cell_of_row _ _ 1 _ _ _ H1.out
  have a2 : w1.cell? ⟨w.heap.size, 2, none⟩ = some (.string rs) := cell_of_row _ _ 2 _ _ _ H1.out
  have a3 : w1.cell? ⟨w.heap.size, 3, none⟩ = some (.slice sA ss.length sc) := cell_of_row _ _ 3 _ _ _ H1.out
  have a4 : w1.cell? ⟨w.heap.size, 4, none⟩ = some (.slice iA is.length ic) := cell_of_row _ _ 4 _ _ _ H1.out
  have a5 : w1.cell? ⟨w.heap.size, 5, none⟩ = some (.slice bA bs.length bc) := cell_of_row _ _ 5 _ _ _ H1.out
  have f1 : ∀ k, w1.frozen? ⟨w.heap.size, k, none⟩ = false := fun k => frz_of H1.out
  have f2 : ∀ k, w1.frozen? ⟨w.heap.size + 1, k, none⟩ = false := fun k => frz_of H2.out
  have HW1 : Hid (u1.heap.size ≤ w1.heap.size) := b.size
  have HBW := Lib.hid (HB1.out.trans (b.mono HB1.out.size))
  clear hO b
  go_wp2_with fail
  replace H1 : Hid ((w1.setCell ⟨w.heap.size, 3, none⟩ (.slice A1 ss.length ss.length)).heap[w.heap.size]? = some (.cells #[.string nm, .slice A0 ps.length ps.length, .string rs, .slice A1 ss.length ss.length, .slice iA is.length ic, .slice bA bs.length bc] 40 (0, 0))) := heap_setCell_same w1 w.heap.size 3 _ 40 _ H1.out
  replace H2 := Lib.hid ((heap_setCell_other w1 ⟨w.heap.size, 3, none⟩ (w.heap.size + 1) (.slice A1 ss.length ss.length) (by simp)).trans H2.out)
  have HB2 := Lib.hid (HBW.out.setCell (p := ⟨w.heap.size, 3, none⟩) (Nat.le_refl _) (.slice A1 ss.length ss.length))
  have HSZ1 : Hid ((w1.setCell ⟨w.heap.size, 3, none⟩ (.slice A1 ss.length ss.length)).heap.size = w1.heap.size) := by show _ = _; simp [World.setCell]
  replace HS0 := Lib.hid (HS0.out.setCell (p := ⟨w.heap.size, 3, none⟩) (.inl (.inl rfl)) (.slice A1 ss.length ss.length))
  have HS1 := Lib.hid (HS10.out.setCell (p := ⟨w.heap.size, 3, none⟩) (.inl (.inl rfl)) (.slice A1 ss.length ss.length))
  clear a0 a1 a2 a3 a4 a5 f1 f2 HS10 HBW
  generalize w1.setCell ⟨w.heap.size, 3, none⟩ (.slice A1 ss.length ss.length) = u2 at *
  refine (eachIns iA ic is u2 (HM.out.I.below kp_ins HB2.out (Nat.le_refl _)) HL.out.i HL.out.ia).mono ?_
  rintro e w2 ⟨A2, rfl, hO, b⟩
  have HO2 := Lib.hid hO
  have HS20 : Hid (Sv (Tw w.heap.size) w2 w2) := Sv.refl _ _
  have HZL : Hid (w.heap.size + 2 ≤ u2.heap.size) := Nat.le_trans HZL.out (by have := HSZ1.out; have := HW1.out; omega)
  replace H1 := Lib.hid ((b.block w.heap.size (by have := HZL.out; omega)).trans H1.out)
  replace H2 := Lib.hid ((b.block (w.heap.size + 1) (by have := HZL.out; omega)).trans H2.out)
  replace HS0 := Lib.hid (HS0.out.on b)
  replace HS1 := Lib.hid (HS1.out.on b)
  have a0 : w2.cell? ⟨w.heap.size, 0, none⟩ = some (.string nm) := cell_of_row _ _ 0 _ _ _ H1.out
  have a1 : w2.cell? ⟨w.heap.size, 1, none⟩ = some (.slice A0 ps.length ps.length) := cell_of_row _ _ 1 _ _ _ H1.out
  have a2 : w2.cell? ⟨w.heap.size, 2, none⟩ = some (.string rs) := cell_of_row _ _ 2 _ _ _ H1.out
  have a3 : w2.cell? ⟨w.heap.size, 3, none⟩ = some (.slice A1 ss.length ss.length) := cell_of_row _ _ 3 _ _ _ H1.out
  have a4 : w2.cell? ⟨w.heap.size, 4, none⟩ = some (.slice iA is.length ic) := cell_of_row _ _ 4 _ _ _ H1.out
  have a5 : w2.cell? ⟨w.heap.size, 5, none⟩ = some (.slice bA bs.length bc) := cell_of_row _ _ 5 _ _ _ H1.out
  have f1 : ∀ k, w2.frozen? ⟨w.heap.size, k, none⟩ = false := fun k => frz_of H1.out
  have f2 : ∀ k, w2.frozen? ⟨w.heap.size + 1, k, none⟩ = false := fun k => frz_of H2.out
  have HW2 : Hid (u2.heap.size ≤ w2.heap.size) := b.size
  have HBW := Lib.hid (HB2.out.trans (b.mono HB2.out.size))
  clear hO b
  go_wp2_with fail
  replace H1 : Hid ((w2.setCell ⟨w.heap.size, 4, none⟩ (.slice A2 is.length is.length)).heap[w.heap.size]? = some (.cells #[.string nm, .slice A0 ps.length ps.length, .string rs, .slice A1 ss.length ss.length, .slice A2 is.length is.length, .slice bA bs.length bc] 40 (0, 0))) := heap_setCell_same w2 w.heap.size 4 _ 40 _ H1.out
  replace H2 := Lib.hid ((heap_setCell_other w2 ⟨w.heap.size, 4, none⟩ (w.heap.size + 1) (.slice A2 is.length is.length) (by simp)).trans H2.out)
  have HB3 := Lib.hid (HBW.out.setCell (p := ⟨w.heap.size, 4, none⟩) (Nat.le_refl _) (.slice A2 is.length is.length))
  have HSZ2 : Hid ((w2.setCell ⟨w.heap.size, 4, none⟩ (.slice A2 is.length is.length)).heap.size = w2.heap.size) := by show _ = _; simp [World.setCell]
  replace HS0 := Lib.hid (HS0.out.setCell (p := ⟨w.heap.size, 4, none⟩) (.inl (.inl rfl)) (.slice A2 is.length is.length))
  replace HS1 := Lib.hid (HS1.out.setCell (p := ⟨w.heap.size, 4, none⟩) (.inl (.inl rfl)) (.slice A2 is.length is.length))
  have HS2 := Lib.hid (HS20.out.setCell (p := ⟨w.heap.size, 4, none⟩) (.inl (.inl rfl)) (.slice A2 is.length is.length))
  clear a0 a1 a2 a3 a4 a5 f1 f2 HS20 HBW
  generalize w2.setCell ⟨w.heap.size, 4, none⟩ (.slice A2 is.length is.length) = u3 at *
  refine (eachBlk bA bc bs u3 (HM.out.B.below kp_blk HB3.out (Nat.le_refl _)) HL.out.b HL.out.bl).mono ?_
  rintro e w3 ⟨A3, rfl, hO, b⟩
  have HO3 := Lib.hid hO
  have HS30 : Hid (Sv (Tw w.heap.size) w3 w3) := Sv.refl _ _
  have HZL : Hid (w.heap.size + 2 ≤ u3.heap.size) := Nat.le_trans HZL.out (by have := HSZ2.out; have := HW2.out; omega)
  replace H1 := Lib.hid ((b.block w.heap.size (by have := HZL.out; omega)).trans H1.out)
  replace H2 := Lib.hid ((b.block (w.heap.size + 1) (by have := HZL.out; omega)).trans H2.out)
  replace HS0 := Lib.hid (HS0.out.on b)
  replace HS1 := Lib.hid (HS1.out.on b)
  replace HS2 := Lib.hid (HS2.out.on b)
  have a0 : w3.cell? ⟨w.heap.size, 0, none⟩ = some (.string nm) := cell_of_row _ _ 0 _ _ _ H1.out
  have a1 : w3.cell? ⟨w.heap.size, 1, none⟩ = some (.slice A0 ps.length ps.length) := cell_of_row _ _ 1 _ _ _ H1.out
  have a2 : w3.cell? ⟨w.heap.size, 2, none⟩ = some (.string rs) := cell_of_row _ _ 2 _ _ _ H1.out
  have a3 : w3.cell? ⟨w.heap.size, 3, none⟩ = some (.slice A1 ss.length ss.length) := cell_of_row _ _ 3 _ _ _ H1.out
  have a4 : w3.cell? ⟨w.heap.size, 4, none⟩ = some (.slice A2 is.length is.length) := cell_of_row _ _ 4 _ _ _ H1.out
  have a5 : w3.cell? ⟨w.heap.size, 5, none⟩ = some (.slice bA bs.length bc) := cell_of_row _ _ 5 _ _ _ H1.out
  have z0 : w3.cell? ⟨w.heap.size + 1, 0, none⟩ = some (.string ⟨#[]⟩) := cell_of_row _ _ 0 _ _ _ H2.out
  have z1 : w3.cell? ⟨w.heap.size + 1, 1, none⟩ = some (.slice none 0 0) := cell_of_row _ _ 1 _ _ _ H2.out
  have z2 : w3.cell? ⟨w.heap.size + 1, 2, none⟩ = some (.string ⟨#[]⟩) := cell_of_row _ _ 2 _ _ _ H2.out
  have z3 : w3.cell? ⟨w.heap.size + 1, 3, none⟩ = some (.slice none 0 0) := cell_of_row _ _ 3 _ _ _ H2.out
  have z4 : w3.cell? ⟨w.heap.size + 1, 4, none⟩ = some (.slice none 0 0) := cell_of_row _ _ 4 _ _ _ H2.out
  have z5 : w3.cell? ⟨w.heap.size + 1, 5, none⟩ = some (.slice none 0 0) := cell_of_row _ _ 5 _ _ _ H2.out
  have f1 : ∀ k, w3.frozen? ⟨w.heap.size, k, none⟩ = false := fun k => frz_of H1.out
  have f2 : ∀ k, w3.frozen? ⟨w.heap.size + 1, k, none⟩ = false := fun k => frz_of H2.out
  have HW3 : Hid (u3.heap.size ≤ w3.heap.size) := b.size
  have HBW := Lib.hid (HB3.out.trans (b.mono HB3.out.size))
  clear hO b
  go_wp2_with fail
  have hT := ((((((((Sv.refl (Tw w.heap.size) w3).setCell (p := ⟨w.heap.size, 5, none⟩) (.inl (.inl rfl)) (.slice A3 bs.length bs.length)).setCell (p := ⟨w.heap.size + 1, 0, none⟩) (.inl (.inr rfl)) (.string nm)).setCell (p := ⟨w.heap.size + 1, 1, none⟩) (.inl (.inr rfl)) (.slice A0 ps.length ps.length)).setCell (p := ⟨w.heap.size + 1, 2, none⟩) (.inl (.inr rfl)) (.string rs)).setCell (p := ⟨w.heap.size + 1, 3, none⟩) (.inl (.inr rfl)) (.slice A1 ss.length ss.length)).setCell (p := ⟨w.heap.size + 1, 4, none⟩) (.inl (.inr rfl)) (.slice A2 is.length is.length)).setCell (p := ⟨w.heap.size + 1, 5, none⟩) (.inl (.inr rfl)) (.slice A3 bs.length bs.length))
  have hT3 := hT
  have hT2 := HS2.out.trans hT (fun i hi => .inl hi)
  have hT1 := HS1.out.trans hT (fun i hi => .inl hi)
  have hT0 := HS0.out.trans hT (fun i hi => .inl hi)
  have hB := (((((((HBW.out.setCell (p := ⟨w.heap.size, 5, none⟩) (Nat.le_refl _) (.slice A3 bs.length bs.length)).setCell (p := ⟨w.heap.size + 1, 0, none⟩) (Nat.le_succ _) (.string nm)).setCell (p := ⟨w.heap.size + 1, 1, none⟩) (Nat.le_succ _) (.slice A0 ps.length ps.length)).setCell (p := ⟨w.heap.size + 1, 2, none⟩) (Nat.le_succ _) (.string rs)).setCell (p := ⟨w.heap.size + 1, 3, none⟩) (Nat.le_succ _) (.slice A1 ss.length ss.length)).setCell (p := ⟨w.heap.size + 1, 4, none⟩) (Nat.le_succ _) (.slice A2 is.length is.length)).setCell (p := ⟨w.heap.size + 1, 5, none⟩) (Nat.le_succ _) (.slice A3 bs.length bs.length))
  have q0 := HZ0.out
  have q1 := HSZ0.out
  have q2 := HSZ1.out
  have q3 := HSZ2.out
  have r0 := HW0.out
  have r1 := HW1.out
  have r2 := HW2.out
  have r3 := HW3.out
  have tw : ∀ lo, w.heap.size + 2 ≤ lo → ∀ k, Tw w.heap.size k → k < lo := fun lo h k hk => by rcases hk with e | e <;> omega
  have hsz := hT3.size
  have o0 := (HO0.out.on kpo_str (hT0.bt (tw _ (by omega)) (Nat.le_refl _))).wide (show w.heap.size ≤ _ by omega) (Nat.le_refl _)
  have o1 := HO1.out.on kpo_str (hT1.bt (tw _ (by omega)) (Nat.le_refl _))
  have o2 := HO2.out.on kpo_ins (hT2.bt (tw _ (by omega)) (Nat.le_refl _))
  have o3 := (HO3.out.on kpo_blk (hT3.bt (tw _ (by omega)) (Nat.le_refl _))).wide (Nat.le_refl _) hsz
  rw [q1] at o1
  rw [q2] at o2
  rw [q3] at o3
  refine bodyPost_ret (v := .agg #[.string nm, .slice A0 ps.length ps.length, .string rs, .slice A1 ss.length ss.length, .slice A2 is.length is.length, .slice A3 bs.length bs.length]) (by simp [results, Tryd.results49, go_sem, z0, z1, z2, z3, z4, z5]) rfl ⟨[.string nm, .slice A0 ps.length ps.length, .string rs, .slice A1 ss.length ss.length, .slice A2 is.length is.length, .slice A3 bs.length bs.length], rfl, ⟨_, _, _, _, w0.heap.size, w1.heap.size, w2.heap.size, rfl, HM.out.nl, HM.out.rl, by omega, by omega, by omega, Nat.le_trans r3 hsz |> fun h => by omega, o0, o1, o2, o3⟩, hB⟩

set_option maxRecDepth 20000 in
set_option maxHeartbeats 1000000 in
theorem eachFn (A : Option Addr) (c0 : Nat) (l : List Fn) (w : World) (hR : SL 6 fnR w A l) (hl : l.length ≤ 1099511627776) (hsm : ∀ x ∈ l, SmF x) :
    Calls Tryd.prog 48 #[.slice A l.length c0, .func (.func 49) #[] #[]] w (RwQ 6 fnO l w) := by
  obtain ⟨FL, hf, hs⟩ := flat_of cz_fn hR
  have HF := Lib.hid hf
  have HS := Lib.hid hs
  have HSM := Lib.hid hsm
  clear hR hf hs hsm
  go_enter Tryd.func48, Tryd.ntmps48
  go_wp2_with fail
  refine (rowFn A c0 l.length FL w hl HF.out.1 HF.out.2.1 HS.out).mono ?_
  rintro e w1 ⟨B, rfl, hg, b1⟩
  have HA := Lib.hid (fun h => (hg h).1)
  have HH := Lib.hid (half_start (O := fnO) (e := 40) HF.out (fun h => (hg h).2))
  have HB := Lib.hid b1
  clear hg b1
  go_wp2_with fail
  go_loopw [11] (fun i wr => CRel 6 fnR fnO w 40 l i wr) (fun i _ => l.length - (intOf i).toNat)
  case atStart => exact ⟨0, Nat.zero_le _, rfl, HH, HB⟩
  case round =>
    obtain ⟨k, hk, rfl, HK, HBR⟩ := hrel
    by_cases hlt : k < l.length
    · obtain ⟨x, hx⟩ : ∃ x, l[k]? = some x := ⟨_, List.getElem?_eq_getElem hlt⟩
      obtain rfl := HA.out (Nat.lt_of_le_of_lt (Nat.zero_le _) hlt)
      obtain ⟨cs, hcr, hc⟩ := half_at HK.out hx
      obtain ⟨E, rfl, rfl, hM⟩ := fe_of hcr
      obtain ⟨hgl, hfz⟩ := half_free HK.out hx
      have x0 := hc 0 _ rfl
      have x1 := hc 1 _ rfl
      have x2 := hc 2 _ rfl
      have x3 := hc 3 _ rfl
      have x4 := hc 4 _ rfl
      have x5 := hc 5 _ rfl
      have HX := Lib.hid hx
      have HM := Lib.hid (hM.drop HBR.out)
      have HE := Lib.hid (HSM.out _ (List.mem_of_getElem? hx))
      clear hc hcr hM hx
      simp only [Nat.add_zero] at x0
      go_wp2_with fail
      refine (clFn_any E wr HM.out HE.out).mono ?_
      rintro e w2 ⟨ds, rfl, hO, b2⟩
      have HO := Lib.hid hO
      obtain ⟨p, s, i, b, -, -, -, rfl, -, -, -, -, -, -, ⟨D0, q0, rfl, -, -, -⟩, ⟨D1, q1, rfl, -, -, -⟩, ⟨D2, q2, rfl, -, -, -⟩, ⟨D3, q3, rfl, -, -, -⟩⟩ := hO
      have x0 := keepB x0 b2
      have x1 := keepB x1 b2
      have x2 := keepB x2 b2
      have x3 := keepB x3 b2
      have x4 := keepB x4 b2
      have x5 := keepB x5 b2
      have hfz2 : ∀ j, w2.frozen? ⟨w.heap.size, j, none⟩ = false := fun j => (b2.frozen (p := ⟨w.heap.size, j, none⟩) hgl).trans (hfz j)
      have HB2 := Lib.hid b2
      clear hfz b2 hgl
      go_wp2_with fail
      have HN := Lib.hid (half_step kpo_fn HK.out HX.out HB2.out HO.out rfl)
      have HB3 := Lib.hid (setCells_below [.string E.f.name, .slice D0 E.f.params.length q0, .string E.f.res, .slice D1 E.f.slots.length q1, .slice D2 E.f.ins.length q2, .slice D3 E.f.blocks.length q3] (k * 6) (HBR.out.trans (HB2.out.mono HBR.out.size)) (Nat.le_refl _))
      go_roundw
      case rel => exact ⟨k + 1, hlt, by go_num, HN, HB3⟩
      case measure => simp [intOf]; omega
    · obtain rfl : k = l.length := by omega
      go_wp2_with fail
      go_ret
      exact ⟨_, rfl, half_end HK.out HA.out hl, HBR.out⟩

end Go.Proofs.YtcbjcpmkebbfaaaDoor
