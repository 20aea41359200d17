/-
  CONTRACT: flow's named: what the end of a block names. Of what was there nothing has turned.
-/
import Derived.Test.YtpaddigjjlidcaaFlP1
namespace Go.Proofs.Ytpaddigjjlidcaa
open Go.RowKit

def nameB (b : Blk) : List Int := if b.jump = 1 then [b.t0] else if b.jump = 2 then [b.t0, b.t1] else []
/-- What the end of a block names. -/
def nameL (l : List Blk) (i : Int) : List Int := if i < 0 then [] else match l[i.toNat]? with
  | none => []
  | some b => nameB b
theorem name_two (l : List Blk) (i : Int) : (nameL l i).length ≤ 2 := by
  unfold nameL
  split
  · exact Nat.zero_le _
  · split
    · exact Nat.zero_le _
    · unfold nameB
      split
      · simp
      · split <;> simp
theorem sl_nil {α : Type} {c : Nat} {R : Rdr α} {w : World} {A : Option Addr} : SL c R w A [] := fun h => absurd h (Nat.lt_irrefl _)
set_option maxRecDepth 100000 in
set_option maxHeartbeats 1000000 in
theorem named_any (E : FE) (n : Int) (w : World) (hM : FM E w) (hn : I64 n) :
    Calls Try.prog 21 #[E.v, .int .i64 n] w (RQ 1 intR (nameL E.f.blocks n) w) := by
  obtain ⟨m, hm⟩ : ∃ m, E.f.blocks.length = m := ⟨_, rfl⟩
  have c0 : (w.alloc (.cells E.row 26)).cell? ⟨w.heap.size, 0, none⟩ = some (.string E.f.name) := cell_new w E.row 26 0
  have c1 : (w.alloc (.cells E.row 26)).cell? ⟨w.heap.size, 1, none⟩ = some (.slice E.pA E.f.params.length E.pc) := cell_new w E.row 26 1
  have c2 : (w.alloc (.cells E.row 26)).cell? ⟨w.heap.size, 2, none⟩ = some (.string E.f.res) := cell_new w E.row 26 2
  have c3 : (w.alloc (.cells E.row 26)).cell? ⟨w.heap.size, 3, none⟩ = some (.slice E.sA E.f.slots.length E.sc) := cell_new w E.row 26 3
  have c4 : (w.alloc (.cells E.row 26)).cell? ⟨w.heap.size, 4, none⟩ = some (.slice E.iA E.f.ins.length E.ic) := cell_new w E.row 26 4
  have c5 : (w.alloc (.cells E.row 26)).cell? ⟨w.heap.size, 5, none⟩ = some (.slice E.bA E.f.blocks.length E.bc) := cell_new w E.row 26 5
  have HB := Lib.hid (below_alloc w (.cells E.row 26))
  have HM := Lib.hid (hM.below HB.out (Nat.le_refl _))
  have hbe := hM.ble
  have hbb := hM.bl
  rw [hm] at hbe hbb
  have Hm := Lib.hid hm
  clear hM hm
  unfold FE.v
  go_enter Try.func21, Try.ntmps21
  go_wp2_with fail
  refine (has_any E n _ HM.out hn).mono ?_
  rintro e w2 ⟨rfl, hb2⟩
  have d5 := keepB c5 hb2
  have HB2 := Lib.hid (HB.out.trans (hb2.mono HB.out.size))
  have HM2 := Lib.hid (HM.out.below hb2 (Nat.le_refl _))
  clear hb2 c0 c1 c2 c3 c4 c5 HM HB
  obtain ⟨q, hq⟩ : ∃ b, hasB E.f.blocks.length n = b := ⟨_, rfl⟩
  rw [hq]
  cases q with
  | false =>
    have hno : nameL E.f.blocks n = [] := by
      unfold nameL
      unfold hasB at hq
      split
      · rfl
      · rw [List.getElem?_eq_none]
        simp at hq
        omega
    go_wp2_with fail
    go_ret
    rw [hno]
    exact ⟨none, 0, rfl, Nat.le_refl _, sl_nil, HB2.out⟩
  | true =>
    unfold hasB at hq
    simp only [Bool.and_eq_true, decide_eq_true_eq] at hq
    have hm := Hm.out
    rw [hm] at d5 hq
    obtain ⟨k, rfl⟩ : ∃ k : Nat, n = k := ⟨n.toNat, by omega⟩
    have hk : k < m := by omega
    obtain ⟨x, hx⟩ : ∃ x, E.f.blocks[k]? = some x := ⟨_, List.getElem?_eq_getElem (by omega)⟩
    have HR : Hid (nameL E.f.blocks (k : Int) = nameB x) := by
      show _ = _
      unfold nameL
      rw [if_neg (by omega), Int.toNat_natCast, hx]
    obtain ⟨g, o, hA, hg, hcs⟩ := HM2.out.B (by omega)
    obtain ⟨cs, ⟨v, rfl, i1, i2, i3, i4, -⟩, h0'⟩ := hcs k x hx
    have d1 := h0' 1 _ rfl
    have d3 := h0' 3 _ rfl
    have d4 := h0' 4 _ rfl
    rw [hA] at d5
    clear hcs hx h0' hA HM2 hq Hm hm
    obtain ⟨li, ju, ar, t0, t1⟩ := x
    simp only at d1 d3 d4 i1 i2 i3 i4
    have ba := below_alloc w2 (.cells #[.int .i64 t0, .int .i64 t1] 38)
    have f5 := keepB d5 ba
    have f1 := keepB d1 ba
    have HB3 := Lib.hid (HB2.out.trans (ba.mono HB2.out.size))
    have HS1 : Hid (SL 1 intR (w2.alloc (.cells #[.int .i64 t0, .int .i64 t1] 38)) (some ⟨w2.heap.size, 0, none⟩) [t0]) := fun _ => ⟨_, _, rfl, by simp, fun i y hy => ⟨[.int .i64 y], ⟨rfl, by
      cases i with
      | zero => obtain rfl := Option.some.inj hy; exact i3
      | succ i => simp at hy⟩, fun j v hj => by
        cases j with
        | succ j => simp at hj
        | zero =>
          obtain rfl := Option.some.inj hj
          cases i with
          | zero => obtain rfl := Option.some.inj hy; exact cell_new w2 _ 38 0
          | succ i => simp at hy⟩⟩
    have HS2 : Hid (SL 1 intR (w2.alloc (.cells #[.int .i64 t0, .int .i64 t1] 38)) (some ⟨w2.heap.size, 0, none⟩) [t0, t1]) := fun _ => ⟨_, _, rfl, by simp, fun i y hy => ⟨[.int .i64 y], ⟨rfl, by
      rcases i with _ | _ | i
      · obtain rfl := Option.some.inj hy; exact i3
      · obtain rfl := Option.some.inj hy; exact i4
      · simp at hy⟩, fun j v hj => by
        cases j with
        | succ j => simp at hj
        | zero =>
          obtain rfl := Option.some.inj hj
          rcases i with _ | _ | i
          · obtain rfl := Option.some.inj hy; exact cell_new w2 _ 38 0
          · obtain rfl := Option.some.inj hy; exact cell_new w2 _ 38 1
          · simp at hy⟩⟩
    clear ba
    by_cases j1 : ju = 1
    · have e1 : (ju == 1) = true := by simp [j1]
      have HS : Hid (nameL E.f.blocks (k : Int) = [t0]) := HR.out.trans (if_pos j1)
      clear j1 HR
      go_wp2_with fail
      go_ret
      rw [HS.out]
      exact ⟨_, 2, rfl, by simp, HS1.out, HB3.out⟩
    · have e1 : (ju == 1) = false := by simp [j1]
      by_cases j2 : ju = 2
      · have e2 : (ju == 2) = true := by simp [j2]
        have HS : Hid (nameL E.f.blocks (k : Int) = [t0, t1]) := HR.out.trans ((if_neg j1).trans (if_pos j2))
        clear j1 j2 HR
        go_wp2_with fail
        go_ret
        rw [HS.out]
        exact ⟨_, 2, rfl, by simp, HS2.out, HB3.out⟩
      · have e2 : (ju == 2) = false := by simp [j2]
        have HS : Hid (nameL E.f.blocks (k : Int) = []) := HR.out.trans ((if_neg j1).trans (if_neg j2))
        clear j1 j2 HR
        go_wp2_with fail
        go_ret
        rw [HS.out]
        exact ⟨none, 0, rfl, Nat.le_refl _, sl_nil, HB3.out⟩
end Go.Proofs.Ytpaddigjjlidcaa
