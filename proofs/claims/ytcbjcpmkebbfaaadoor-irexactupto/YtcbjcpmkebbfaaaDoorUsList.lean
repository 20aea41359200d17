/-
  CONTRACT: ir.listed: of each instruction whether some block's List has it. Of what was there nothing has turned.
-/
import Derived.Test.YtcbjcpmkebbfaaaDoorUsHas
import Derived.Test.YtcbjcpmkebbfaaaDoorClRow
namespace Go.Proofs.YtcbjcpmkebbfaaaDoor
open Go Go.RowKit

/-- A row of truth values, in a block of its own. -/
def BoolR (w : World) (g n : Nat) (P : Nat → Bool) : Prop := ∃ cur : Array Value, w.heap[g]? = some (.cells cur 4 (0, 0)) ∧ cur.size = n ∧ ∀ j, j < n → cur[j]? = some (.bool (P j))
theorem BoolR.below {w w' : World} {g n : Nat} {P : Nat → Bool} (h : BoolR w g n P) (hb : Below w.heap.size w w') : BoolR w' g n P := by
  obtain ⟨cur, h1, h2, h3⟩ := h
  exact ⟨cur, (hb.block g (Array.getElem?_eq_some_iff.1 h1).1).trans h1, h2, h3⟩
theorem BoolR.at {w : World} {g n : Nat} {P : Nat → Bool} (h : BoolR w g n P) {j : Nat} (hj : j < n) : w.cell? ⟨g, j, none⟩ = some (.bool (P j)) ∧ w.frozen? ⟨g, j, none⟩ = false ∧ g < w.heap.size := by
  obtain ⟨cur, h1, h2, h3⟩ := h
  exact ⟨(cell_of_row w g j cur 4 _ h1).trans (h3 j hj), by simp [World.frozen?, h1], (Array.getElem?_eq_some_iff.1 h1).1⟩
theorem BoolR.set {w : World} {g n : Nat} {P : Nat → Bool} (h : BoolR w g n P) (j : Nat) (hj : j < n) : BoolR (w.setCell ⟨g, j, none⟩ (.bool true)) g n (fun i => P i || i == j) := by
  obtain ⟨cur, h1, h2, h3⟩ := h
  refine ⟨_, heap_setCell_same w g j cur 4 _ h1, by simpa using h2, fun i hi => ?_⟩
  rw [Array.getElem?_setIfInBounds]
  by_cases e : j = i
  · subst e; rw [if_pos rfl, if_pos (by omega)]; simp
  · rw [if_neg e, h3 i hi]
    have : (i == j) = false := by simp; omega
    show _ = some (Value.bool (P i || i == j))
    rw [this, Bool.or_false]
theorem BoolR.congr {w : World} {g n : Nat} {P Q : Nat → Bool} (h : BoolR w g n P) (e : ∀ i, i < n → P i = Q i) : BoolR w g n Q := by
  obtain ⟨cur, h1, h2, h3⟩ := h
  exact ⟨cur, h1, h2, fun j hj => by rw [h3 j hj, e j hj]⟩
/-- What is marked behind k blocks and q places of the next. -/
def markB (f : Fn) (k : Nat) (q : List Int) (i : Nat) : Bool := (f.blocks.take k).any (fun b => hasL b.list i) || hasL q i
theorem any_up {α : Type} {l : List α} {p : α → Bool} {k : Nat} {x : α} (h : l[k]? = some x) : (l.take (k + 1)).any p = ((l.take k).any p || p x) := by
  obtain ⟨h1, e⟩ := List.getElem?_eq_some_iff.1 h
  rw [List.take_succ_eq_append_getElem h1, List.any_append, e]; simp
theorem has_up {l : List Int} {n : Int} {k : Nat} {x : Int} (h : l[k]? = some x) : hasL (l.take (k + 1)) n = (hasL (l.take k) n || x == n) := any_up (p := fun y => y == n) h
theorem made_bools {w : World} {base n : Nat} {g : Nat} (h : w.ownsRow base 4 1 (.slice (some ⟨g, 0, none⟩) n n) n (madeCells #[.bool false] (n * 1)).toList) : BoolR w g n (fun _ => false) := by
  obtain ⟨cur, h1, h2⟩ := made_cells h
  refine ⟨cur, h1, by omega, fun j hj => ?_⟩
  have := h.cellAt j (by omega)
  rw [cell_of_row w g j cur 4 _ h1] at this
  rw [this, Nat.mul_one, toList_madeCells_one, List.getElem?_replicate, if_pos hj]
theorem bool_info : (Tryd.prog.info? 4).map (fun i => (i.zero, i.size, i.bytes)) = some (some (.bool false), 1, 1) := by kernel_rfl
def MRel (w : World) (g : Nat) (n m : Nat) (P : Nat → Nat → Bool) (i : Value) (wr : World) : Prop := ∃ k : Nat, k ≤ m ∧ i = .int .i64 k ∧ Hid (BoolR wr g n (P k)) ∧ Hid (Below w.heap.size w wr)

theorem no_mark {f : Fn} {y : Int} {i : Nat} (h : hasF f y = false) (hi : i < f.ins.length) : (y == (i : Int)) = false := by
  rw [beq_eq_false_iff_ne]
  intro e
  subst e
  unfold hasF at h
  rw [decide_eq_true (by omega), decide_eq_true (by omega)] at h
  cases h
theorem is_mark {f : Fn} {y : Int} (h : hasF f y = true) : ∃ j : Nat, y = j ∧ j < f.ins.length := by
  unfold hasF at h
  rw [Bool.and_eq_true, decide_eq_true_eq, decide_eq_true_eq] at h
  exact ⟨y.toNat, by omega, by omega⟩
set_option maxRecDepth 20000 in
set_option maxHeartbeats 2000000 in
theorem listed_any (E : FE) (w : World) (hM : FM E w) : Calls Tryd.prog 39 #[E.v] w fun e w' => e = .returned (.slice (some ⟨w.heap.size + 1, 0, none⟩) E.f.ins.length E.f.ins.length) ∧ BoolR w' (w.heap.size + 1) E.f.ins.length (fun i => listedB E.f i) ∧ Below w.heap.size w w' := by
  obtain ⟨i0, hi0, hz0, hz1, hz2⟩ := info_parts bool_info
  have HI0 := Lib.hid hi0
  have HZ0 := Lib.hid hz0
  have HZ1 := Lib.hid hz1
  have HZ2 := Lib.hid hz2
  clear hi0 hz0 hz1 hz2
  have HB := Lib.hid (below_alloc w (.cells E.row 40))
  have HM0 := Lib.hid (hM.below HB.out (Nat.le_refl _))
  have HS : Hid ((w.alloc (.cells E.row 40)).heap.size = w.heap.size + 1) := by show _ = _; simp
  have c0 : (w.alloc (.cells E.row 40)).cell? ⟨w.heap.size, 0, none⟩ = some (.string E.f.name) := cell_new w E.row 40 0
  have c1 : (w.alloc (.cells E.row 40)).cell? ⟨w.heap.size, 1, none⟩ = some (.slice E.pA E.f.params.length E.pc) := cell_new w E.row 40 1
  have c2 : (w.alloc (.cells E.row 40)).cell? ⟨w.heap.size, 2, none⟩ = some (.string E.f.res) := cell_new w E.row 40 2
  have c3 : (w.alloc (.cells E.row 40)).cell? ⟨w.heap.size, 3, none⟩ = some (.slice E.sA E.f.slots.length E.sc) := cell_new w E.row 40 3
  have c4 : (w.alloc (.cells E.row 40)).cell? ⟨w.heap.size, 4, none⟩ = some (.slice E.iA E.f.ins.length E.ic) := cell_new w E.row 40 4
  have c5 : (w.alloc (.cells E.row 40)).cell? ⟨w.heap.size, 5, none⟩ = some (.slice E.bA E.f.blocks.length E.bc) := cell_new w E.row 40 5
  have HIL := Lib.hid hM.il
  have HBL := Lib.hid hM.bl
  clear hM
  unfold FE.v
  go_enter Tryd.func39, Tryd.ntmps39
  go_wp2_with (refine wpList_make_size _ rfl (.tmp 10) (.tmp 10) 70 rfl (w.heap.size + 1) 4 i0 _ 1 Tryd.underlying70 HI0.out HZ0.out HZ1.out .i64 .i64 E.f.ins.length E.f.ins.length E.f.ins.length rfl rfl rfl rfl (by rw [HZ2.out]; have := HIL.out; omega) (by simp only [maxLen]; have := HIL.out; omega) (Nat.le_of_eq HS.out.symm) ?_; intro w1 hown hb1 hs1; refine Hid.out ?_)
  have HO := Lib.hid (show BoolR w1 (w.heap.size + 1) E.f.ins.length (fun _ => false) by have := made_bools (by exact hown); rwa [HS.out] at this)
  have HB1 := Lib.hid hb1
  clear hown hb1 hs1
  refine Lib.hid ?_
  generalize w.alloc (.cells E.row 40) = u0 at *
  have e5 := keepB c5 HB1.out
  go_wp2_with fail
  go_loopw [15] (fun i wr => MRel u0 (w.heap.size + 1) E.f.ins.length E.f.blocks.length (fun k j => markB E.f k [] j) i wr) (fun i _ => E.f.blocks.length - (intOf i).toNat)
  case atStart => exact ⟨0, Nat.zero_le _, rfl, HO.out.congr (fun i _ => rfl), HB1⟩
  case round =>
    obtain ⟨k, hk, rfl, HK, HBR⟩ := hrel
    by_cases hlt : k < E.f.blocks.length
    · have hbl := HBL.out
      obtain ⟨g, o, x, cs, hA, hx, hcr, hcs⟩ := two_at HM0.out.B hlt
      obtain ⟨B, rfl, rfl, hBM⟩ := be_of hcr
      have x0 := keepB (hcs 0 _ rfl) HBR.out
      have x1 := keepB (hcs 1 _ rfl) HBR.out
      have x2 := keepB (hcs 2 _ rfl) HBR.out
      have x3 := keepB (hcs 3 _ rfl) HBR.out
      have x4 := keepB (hcs 4 _ rfl) HBR.out
      simp only [Nat.add_zero] at x0
      rw [hA]
      have HX := Lib.hid hx
      have HBM := Lib.hid hBM
      have HA := Lib.hid hA
      clear hcs hx hcr hBM hA
      go_wp2_with fail
      have hbr := below_alloc wr (.cells #[.slice B.lA B.x.list.length B.lc, .int .i64 B.x.jump, .int .i64 B.x.arg, .int .i64 B.x.t0, .int .i64 B.x.t1] 53)
      have HK1 := Lib.hid (HK.out.below hbr)
      have HB2 := Lib.hid (HBR.out.trans (hbr.mono HBR.out.size))
      clear x0 x1 x2 x3 x4 hbr
      generalize wr.alloc (.cells #[.slice B.lA B.x.list.length B.lc, .int .i64 B.x.jump, .int .i64 B.x.arg, .int .i64 B.x.t0, .int .i64 B.x.t1] 53) = u1 at *
      go_loopw [22] (fun i wr => MRel u0 (w.heap.size + 1) E.f.ins.length B.x.list.length (fun q j => markB E.f k (B.x.list.take q) j) i wr) (fun i _ => B.x.list.length - (intOf i).toNat)
      case atStart => exact ⟨0, Nat.zero_le _, rfl, HK1.out.congr (fun i _ => by show _ = markB _ _ (List.take 0 _) _; rw [List.take_zero]), HB2⟩
      case round =>
        obtain ⟨q, hq, rfl, HQ, HBQ⟩ := hrel
        by_cases hlq : q < B.x.list.length
        · have hbl := HBM.out.ll
          obtain ⟨g2, o2, y, cs2, hA2, hy, ⟨rfl, iy⟩, hcs2⟩ := two_at HBM.out.L hlq
          have y0 := keepB (hcs2 0 _ rfl) HBQ.out
          simp only [Nat.mul_one, Nat.add_zero] at y0
          have q0 := keepB c0 HBQ.out
          have q1 := keepB c1 HBQ.out
          have q2 := keepB c2 HBQ.out
          have q3 := keepB c3 HBQ.out
          have q4 := keepB c4 HBQ.out
          have q5 := keepB c5 HBQ.out
          rw [hA2]
          have HY := Lib.hid hy
          have HA2 := Lib.hid hA2
          clear hcs2 hy hA2
          go_wp2_with fail
          refine (has_any E y wr (HM0.out.drop HBQ.out)).mono ?_
          rintro e w5 ⟨rfl, b5⟩
          have HQ5 := Lib.hid (HQ.out.below b5)
          have HB5 := Lib.hid (HBQ.out.trans (b5.mono HBQ.out.size))
          clear b5 q0 q1 q2 q3 q4 q5 y0
          cases hh : hasF E.f y with
          | false =>
            have HN := Lib.hid (HQ5.out.congr (Q := fun j => markB E.f k (B.x.list.take (q + 1)) j) (fun i hi => by
              show markB _ _ _ _ = markB _ _ _ _
              unfold markB
              rw [has_up HY.out, no_mark hh hi, Bool.or_false]))
            clear hh
            go_wp2_with fail
            go_roundw
            case rel => exact ⟨q + 1, hlq, by go_num, HN, HB5⟩
            case measure => simp [intOf]; omega
          | true =>
            obtain ⟨j, rfl, hj⟩ := is_mark hh
            obtain ⟨m0, m1, m2⟩ := HQ5.out.at hj
            have HN := Lib.hid ((HQ5.out.set j hj).congr (Q := fun j => markB E.f k (B.x.list.take (q + 1)) j) (fun i hi => by
              show (markB _ _ _ _ || _) = markB _ _ _ _
              unfold markB
              rw [has_up HY.out, Bool.or_assoc]
              congr 2
              by_cases e : i = j
              · subst e; simp
              · have h1 : (i == j) = false := by simp; omega
                have h2 : ((j : Int) == (i : Int)) = false := by simp; omega
                rw [h1, h2]))
            have HN2 := Lib.hid (HB5.out.setCell (p := ⟨w.heap.size + 1, j, none⟩) (Nat.le_of_eq HS.out) (.bool true))
            have HJ := Lib.hid hj
            have hnn : ¬ (E.f.ins.length : Int) ≤ (j : Int) := by omega
            clear hh m2
            go_wp2_with fail
            go_roundw
            case rel => exact ⟨q + 1, hlq, by go_num, HN, HN2⟩
            case measure => simp [intOf]; omega
        · obtain rfl : q = B.x.list.length := by omega
          have HN := Lib.hid (HQ.out.congr (Q := fun j => markB E.f (k + 1) [] j) (fun i hi => by
            show markB _ _ _ _ = markB _ _ _ _
            unfold markB
            rw [any_up HX.out, List.take_of_length_le (Nat.le_refl _)]
            exact (Bool.or_false _).symm))
          go_wp2_with fail
          go_roundw
          case rel => exact ⟨k + 1, hlt, by go_num, HN, HBQ⟩
          case measure => simp [intOf]; omega
    · obtain rfl : k = E.f.blocks.length := by omega
      go_wp2_with fail
      go_ret
      refine ⟨rfl, HK.out.congr (fun i hi => ?_), HB.out.trans (HBR.out.mono HB.out.size)⟩
      show markB _ _ _ _ = _
      unfold markB listedB
      rw [List.take_of_length_le (Nat.le_refl _)]
      exact Bool.or_false _

end Go.Proofs.YtcbjcpmkebbfaaaDoor
