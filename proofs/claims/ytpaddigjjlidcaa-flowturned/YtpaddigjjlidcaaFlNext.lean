/-
  CONTRACT: the reference's Next: where a block leads. Of what was there nothing has turned; the row is new.
-/
import Derived.Test.YtpaddigjjlidcaaFlMem
namespace Go.Proofs.Ytpaddigjjlidcaa
open Go.RowKit

def to0 (n : Nat) (b : Blk) : Bool := (decide (b.jump = 1) || decide (b.jump = 2)) && decide (0 ≤ b.t0) && decide (b.t0 < n)
def to1 (n : Nat) (b : Blk) : Bool := decide (b.jump = 2) && decide (b.t1 ≠ b.t0) && decide (0 ≤ b.t1) && decide (b.t1 < n)
def nextB (n : Nat) (b : Blk) : List Int := (if to0 n b then [b.t0] else []) ++ (if to1 n b then [b.t1] else [])
/-- Where a block leads. -/
def nextL (l : List Blk) (i : Int) : List Int := if i < 0 then [] else match l[i.toNat]? with
  | none => []
  | some b => nextB l.length b
theorem next_two (l : List Blk) (i : Int) : (nextL l i).length ≤ 2 := by
  unfold nextL
  split
  · exact Nat.zero_le _
  · split
    · exact Nat.zero_le _
    · unfold nextB
      split <;> split <;> simp
theorem OI.made (w : World) (base : Nat) (hb : base ≤ w.heap.size) : OI (w.alloc (.cells #[] 3)) base (.slice (some ⟨w.heap.size, 0, none⟩) 0 0) [] := World.ownsRow_made w #[] 0 hb (Nat.zero_le _) rfl
/-- A walk's state: what is new, the variable, the blocks' row. -/
def NS (w : World) (vb g o bl bc : Nat) (ju t0 t1 : Int) (wd : World) (s : Value) (l : List Int) : Prop := OI wd w.heap.size s l ∧ Below w.heap.size w wd ∧ wd.cell? ⟨w.heap.size, 5, none⟩ = some (.slice (some ⟨g, o, none⟩) bl bc) ∧ wd.cell? ⟨vb, 1, none⟩ = some (.int .i64 ju) ∧ wd.cell? ⟨vb, 3, none⟩ = some (.int .i64 t0) ∧ wd.cell? ⟨vb, 4, none⟩ = some (.int .i64 t1) ∧ (∀ k, Ow s k → k ≠ vb ∧ k ≠ w.heap.size) ∧ vb < wd.heap.size
theorem NS.step {w : World} {vb g o bl bc : Nat} {ju t0 t1 : Int} {wd w4 : World} {s v : Value} {l l' : List Int} (h : NS w vb g o bl bc ju t0 t1 wd s l) (hO : OI w4 w.heap.size v l') (hS : Sv (Ow s) wd w4) (hz : wd.heap.size ≤ w4.heap.size) (hw : ∀ k, Ow v k → Ow s k ∨ wd.heap.size ≤ k) : NS w vb g o bl bc ju t0 t1 w4 v l' := by
  obtain ⟨h1, h2, h3, h4, h5, h6, h7, h8⟩ := h
  have n1 : ¬ Ow s vb := fun e => (h7 _ e).1 rfl
  have n2 : ¬ Ow s w.heap.size := fun e => (h7 _ e).2 rfl
  refine ⟨hO, h2.trans (hS.below (fun i hi => (h1.lo hi).1) h2.size), hS.cell h3 n2, hS.cell h4 n1, hS.cell h5 n1, hS.cell h6 n1, fun k hk => ?_, Nat.lt_of_lt_of_le h8 hz⟩
  rcases hw k hk with e | e
  · exact h7 k e
  · exact ⟨by omega, by have := cell_lt h3; simp at this; omega⟩
/-- A new row of numbers. -/
def NQ (l : List Int) (w : World) (e : Ending) (w' : World) : Prop := ∃ v, e = .returned v ∧ OI w' w.heap.size v l ∧ Below w.heap.size w w'

set_option maxRecDepth 100000 in
set_option maxHeartbeats 1000000 in
theorem refNext_any (E : FE) (n : Int) (w : World) (hM : FM E w) (hn : I64 n) :
    Calls Try.prog 14 #[E.v, .int .i64 n] w (NQ (nextL E.f.blocks n) w) := by
  obtain ⟨bl, hbl⟩ : ∃ m, E.f.blocks.length = m := ⟨_, rfl⟩
  obtain ⟨r, hr⟩ : ∃ r, nextL E.f.blocks n = r := ⟨_, rfl⟩
  rw [hr]
  have HR := Lib.hid hr
  have HB := Lib.hid (below_alloc w (.cells E.row 26))
  have b1 := below_alloc (w.alloc (.cells E.row 26)) (.cells #[] 3)
  have HB2 := Lib.hid (HB.out.trans (b1.mono HB.out.size))
  have HM := Lib.hid (hM.below HB2.out (Nat.le_refl _))
  have c5' : (w.alloc (.cells E.row 26)).cell? ⟨w.heap.size, 5, none⟩ = some (.slice E.bA E.f.blocks.length E.bc) := cell_new w E.row 26 5
  have c5 := keepB c5' b1
  have hO := OI.made (w.alloc (.cells E.row 26)) w.heap.size HB.out.size
  rw [show (w.alloc (.cells E.row 26)).heap.size = w.heap.size + 1 by simp] at hO
  clear b1 c5'
  have hbe := hM.ble
  have hbb := hM.bl
  rw [hbl] at c5 hbe hbb
  have Hbl := Lib.hid hbl
  clear hM hbl hr
  unfold FE.v
  by_cases h0 : n < 0
  · obtain rfl : r = [] := HR.out.symm.trans (if_pos h0)
    go_enter Try.func14, Try.ntmps14
    go_wp2_with fail
    go_ret
    exact ⟨_, rfl, hO, HB2.out⟩
  · by_cases h1 : (bl : Int) ≤ n
    · obtain rfl : r = [] := HR.out.symm.trans (by unfold nextL; rw [if_neg h0, List.getElem?_eq_none (by have := Hbl.out; omega)])
      go_enter Try.func14, Try.ntmps14
      go_wp2_with fail
      go_ret
      exact ⟨_, rfl, hO, HB2.out⟩
    · obtain ⟨k, rfl⟩ : ∃ k : Nat, n = k := ⟨n.toNat, by omega⟩
      obtain ⟨x, hx⟩ : ∃ x, E.f.blocks[k]? = some x := ⟨_, List.getElem?_eq_getElem (by have := Hbl.out; omega)⟩
      have HR2 : Hid (nextB bl x = r) := by
        have := HR.out
        unfold nextL at this
        rw [if_neg h0, Int.toNat_natCast, hx, Hbl.out] at this
        exact this
      obtain ⟨g, o, hA, hg, hcs⟩ := HM.out.B (by have := Hbl.out; omega)
      obtain ⟨cs, ⟨v, rfl, i1, i2, i3, i4, ⟨lA, lc, rfl, l1, l2, HL⟩⟩, h0'⟩ := hcs k x hx
      have d0 := h0' 0 _ rfl
      have d1 := h0' 1 _ rfl
      have d2 := h0' 2 _ rfl
      have d3 := h0' 3 _ rfl
      have d4 := h0' 4 _ rfl
      rw [hA] at c5
      simp only [Nat.add_zero] at d0
      have hk : k < bl := by omega
      clear hcs hx h0' HL hA HM HR
      obtain ⟨li, ju, ar, t0, t1⟩ := x
      simp only at d0 d1 d2 d3 d4 i1 i2 i3 i4
      obtain ⟨j, hj⟩ : ∃ j, li.length = j := ⟨_, rfl⟩
      rw [hj] at d0
      clear hj l1 l2
      go_enter Try.func14, Try.ntmps14
      go_upto_region 5 with fail
      obtain ⟨vb, hvb⟩ : ∃ b, ((w.alloc (.cells E.row 26)).alloc (.cells #[] 3)).heap.size = b := ⟨_, rfl⟩
      have b3 := below_alloc ((w.alloc (.cells E.row 26)).alloc (.cells #[] 3)) (.cells #[.slice lA j lc, .int .i64 ju, .int .i64 ar, .int .i64 t0, .int .i64 t1] 40)
      have c5 := keepB c5 b3
      have hO := hO.keep b3
      have e1 : (((w.alloc (.cells E.row 26)).alloc (.cells #[] 3)).alloc (.cells #[.slice lA j lc, .int .i64 ju, .int .i64 ar, .int .i64 t0, .int .i64 t1] 40)).cell? ⟨((w.alloc (.cells E.row 26)).alloc (.cells #[] 3)).heap.size, 1, none⟩ = some (.int .i64 ju) := cell_new _ _ 40 1
      have e3 : (((w.alloc (.cells E.row 26)).alloc (.cells #[] 3)).alloc (.cells #[.slice lA j lc, .int .i64 ju, .int .i64 ar, .int .i64 t0, .int .i64 t1] 40)).cell? ⟨((w.alloc (.cells E.row 26)).alloc (.cells #[] 3)).heap.size, 3, none⟩ = some (.int .i64 t0) := cell_new _ _ 40 3
      have e4 : (((w.alloc (.cells E.row 26)).alloc (.cells #[] 3)).alloc (.cells #[.slice lA j lc, .int .i64 ju, .int .i64 ar, .int .i64 t0, .int .i64 t1] 40)).cell? ⟨((w.alloc (.cells E.row 26)).alloc (.cells #[] 3)).heap.size, 4, none⟩ = some (.int .i64 t1) := cell_new _ _ 40 4
      have HB3 := Lib.hid (HB2.out.trans (b3.mono HB2.out.size))
      have hz2 : w.heap.size + 1 + 1 = vb := by rw [← hvb]; simp
      have hz3 : vb < (((w.alloc (.cells E.row 26)).alloc (.cells #[] 3)).alloc (.cells #[.slice lA j lc, .int .i64 ju, .int .i64 ar, .int .i64 t0, .int .i64 t1] 40)).heap.size := by rw [← hvb]; simp
      rw [hvb] at e1 e3 e4
      rw [hz2]
      generalize ((w.alloc (.cells E.row 26)).alloc (.cells #[] 3)).alloc (.cells #[.slice lA j lc, .int .i64 ju, .int .i64 ar, .int .i64 t0, .int .i64 t1] 40) = w3 at *
      have hrt : nextB bl ⟨li, ju, ar, t0, t1⟩ = r := HR2.out
      clear b3 d0 d1 d2 d3 d4 HR2 HB HB2
      go_cut [45] from 7 (fun s wc => s = .bool (to0 bl ⟨li, ju, ar, t0, t1⟩) ∧ wc = w3)
      case first =>
        go_wp2_with fail
        all_goals (go_meet; case rel => (refine ⟨congrArg Value.bool ?_, rfl⟩; unfold to0; simp [*] <;> omega))
      case rest =>
      obtain ⟨rfl, rfl⟩ := hcut
      obtain ⟨q0, hq0⟩ : ∃ b, to0 bl ⟨li, ju, ar, t0, t1⟩ = b := ⟨_, rfl⟩
      rw [hq0]
      go_upto_if 45 with (fail)
      have HN : Hid (NS w vb g o bl E.bc ju t0 t1 wc (.slice (some ⟨w.heap.size + 1, 0, none⟩) 0 0) []) := ⟨hO, HB3.out, c5, e1, e3, e4, fun k hk => by have e : some (w.heap.size + 1) = some k := hk; obtain rfl := Option.some.inj e; omega, hz3⟩
      clear hO c5 e1 e3 e4 hz3 HB3
      go_cut [5] from 7 (fun s wd => NS w vb g o bl E.bc ju t0 t1 wd s (if q0 then [t0] else []))
      case first =>
        cases q0 with
        | false =>
          go_wp2_with fail
          go_meet
          case rel => exact HN.out
        | true =>
          obtain ⟨hO, -, c5, e1, e3, e4, -⟩ := HN.out
          go_wp2_with (at_builtin; refine Hid.out ?_)
          refine Lib.hid ?_
          refine app_one rfl (.tmp 46) (.tmp 50) 34 rfl Try.underlying34 _ w.heap.size (.slice (some ⟨w.heap.size + 1, 0, none⟩) 0 0) [] t0 rfl hO rfl (Nat.zero_le _) HN.out.2.1.size ?_
          intro v2 w4 hO4 hS4 hz4 hw4
          have HN4 := Lib.hid (HN.out.step hO4 hS4 hz4 hw4)
          clear hO4 hS4 hw4 hO c5 e1 e3 e4
          go_wp2_with fail
          go_meet
          case rel => exact HN4.out
      case rest =>
      have HC := Lib.hid hcut
      obtain ⟨hO, -, c5, e1, e3, e4, -⟩ := hcut
      have hlen : (if q0 then [t0] else [] : List Int).length ≤ 1 := by cases q0 <;> simp
      go_upto_region 7 with fail
      go_cut [78] from 7 (fun s we => s = .bool (to1 bl ⟨li, ju, ar, t0, t1⟩) ∧ we = wc)
      case first =>
        go_wp2_with fail
        all_goals (go_meet; case rel => (refine ⟨congrArg Value.bool ?_, rfl⟩; unfold to1; simp [*] <;> omega))
      case rest =>
      obtain ⟨rfl, rfl⟩ := hcut
      obtain ⟨q1, hq1⟩ : ∃ b, to1 bl ⟨li, ju, ar, t0, t1⟩ = b := ⟨_, rfl⟩
      rw [hq1]
      have HF : Hid ((if q0 then [t0] else []) ++ (if q1 then [t1] else []) = r) := by
        show _ = _
        rw [← hrt]
        unfold nextB
        rw [hq0, hq1]
      clear hrt hq0 hq1
      go_upto_if 78 with (fail)
      go_cut [5] from 7 (fun s wd => OI wd w.heap.size s r ∧ Below w.heap.size w wd)
      case first =>
        cases q1 with
        | false =>
          go_wp2_with fail
          go_meet
          case rel => rw [← HF.out]; exact ⟨by simpa using HC.out.1, HC.out.2.1⟩
        | true =>
          go_wp2_with (at_builtin; refine Hid.out ?_)
          refine Lib.hid ?_
          refine app_one rfl (.tmp 79) (.tmp 83) 34 rfl Try.underlying34 _ w.heap.size u5 _ t1 rfl hO rfl (Nat.le_trans hlen (by omega)) HC.out.2.1.size ?_
          intro v2 w4 hO4 hS4 hz4 hw4
          have HN4 := Lib.hid (HC.out.step hO4 hS4 hz4 hw4)
          clear hO4 hS4 hw4 hO c5 e1 e3 e4
          go_wp2_with fail
          go_meet
          case rel => rw [← HF.out]; exact ⟨HN4.out.1, HN4.out.2.1⟩
      case rest =>
      have HG := Lib.hid hcut
      clear hcut hO c5 e1 e3 e4
      go_wp2_with fail
      go_ret
      exact ⟨_, rfl, HG.out.1, HG.out.2⟩

end Go.Proofs.Ytpaddigjjlidcaa
