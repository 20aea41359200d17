/-
  CONTRACTS: the reference's Has, Listed. Of what was there nothing has turned.
-/
import Derived.Test.YtcbjcpmkebbfaaaDoorProg
import Derived.Test.YtcbjcpmkebbfaaaDoorIrP
import Derived.Lib.Hide
import Derived.Deep.QuietTactic
import Derived.BigQuiet
import Derived.IntWalk
import Derived.Deep.WholeRow
namespace Go.Proofs.YtcbjcpmkebbfaaaDoor
open Go.RowKit

def KRel (w : World) (m : Nat) (Q : Nat → Prop) (i : Value) (wr : World) : Prop := ∃ k : Nat, k ≤ m ∧ i = .int .i64 k ∧ Hid (Q k) ∧ w = wr

set_option maxHeartbeats 400000 in
theorem refHas_any (A : Option Addr) (c m : Nat) (l : List Int) (n : Int) (b : Bool) (w : World) (hR : SL 1 intR w A l) (hm : Hid (l.length = m)) (hl : m ≤ 140737488351232) (hr : Hid (hasL l n = b)) :
    Calls Tryd.prog 24 #[.slice A m c, .int .i64 n] w fun e w' => e = .returned (.bool b) ∧ w = w' := by
  have HR := Lib.hid hR
  clear hR
  go_enter Tryd.func24, Tryd.ntmps24
  go_wp2_with fail
  go_loopw [5] (fun i wr => KRel w m (fun k => hasL (l.drop k) n = b) i wr) (fun i _ => m - (intOf i).toNat)
  case atStart => exact ⟨0, Nat.zero_le _, rfl, hr, rfl⟩
  case round =>
    obtain ⟨k, hk, rfl, HK, rfl⟩ := hrel
    by_cases hlt : k < m
    · obtain ⟨g, o, rfl, hg, hcs⟩ := HR.out (by have := hm.out; omega)
      obtain ⟨x, hx⟩ : ∃ x, l[k]? = some x := ⟨_, List.getElem?_eq_getElem (by have := hm.out; omega)⟩
      obtain ⟨cs, ⟨rfl, -⟩, h0⟩ := hcs k x hx
      have c0 := h0 0 _ rfl
      have hd := has_drop (n := n) hx
      rw [HK.out] at hd
      have HD := Lib.hid hd
      clear hcs hd h0 hx
      simp only [Nat.mul_one, Nat.add_zero] at c0
      by_cases he : x = n
      · subst he
        have hb : b = true := HD.out.trans (by simp)
        subst hb
        go_wp2_with fail
        go_ret
        exact ⟨rfl, rfl⟩
      · have hq : b = hasL (l.drop (k + 1)) n := HD.out.trans (by rw [beq_false_of_ne he, Bool.false_or])
        have HQ := Lib.hid hq.symm
        clear hq
        go_wp2_with fail
        go_roundw
        case rel => exact ⟨k + 1, by omega, by go_num, HQ, rfl⟩
        case measure => simp [intOf]; omega
    · have hb : b = false := HK.out.symm.trans (has_end (by have := hm.out; omega))
      subst hb
      go_wp2_with fail
      go_ret
      exact ⟨rfl, rfl⟩

/-- A function of a program, and where its rows lie. -/
structure FE where
  f : Fn
  pA : Option Addr
  pc : Nat
  sA : Option Addr
  sc : Nat
  iA : Option Addr
  ic : Nat
  bA : Option Addr
  bc : Nat
def FE.row (E : FE) : Array Value := #[.string E.f.name, .slice E.pA E.f.params.length E.pc, .string E.f.res, .slice E.sA E.f.slots.length E.sc, .slice E.iA E.f.ins.length E.ic, .slice E.bA E.f.blocks.length E.bc]
def FE.v (E : FE) : Value := .agg E.row
structure FM (E : FE) (w : World) : Prop where
  P : SL 1 strR w E.pA E.f.params
  S : SL 1 strR w E.sA E.f.slots
  I : SL 5 insR w E.iA E.f.ins
  B : SL 5 blkR w E.bA E.f.blocks
  pl : E.f.params.length ≤ 140737488351232
  sl : E.f.slots.length ≤ 140737488351232
  il : E.f.ins.length ≤ 140737488351232
  bl : E.f.blocks.length ≤ 140737488351232
  ple : E.f.params.length ≤ E.pc
  sle : E.f.slots.length ≤ E.sc
  ile : E.f.ins.length ≤ E.ic
  ble : E.f.blocks.length ≤ E.bc
  nl : E.f.name.size ≤ 140737488351232
  rl : E.f.res.size ≤ 140737488351232
theorem FM.below {E : FE} {w w' : World} {B : Nat} (h : FM E w) (hb : Below B w w') (hB : w.heap.size ≤ B) : FM E w' :=
  { h with P := h.P.below kp_str hb hB, S := h.S.below kp_str hb hB, I := h.I.below kp_ins hb hB, B := h.B.below kp_blk hb hB }
theorem fe_of {w : World} {cs : List Value} {f : Fn} (h : fnR w cs f) : ∃ E : FE, E.f = f ∧ cs = E.row.toList ∧ FM E w := by
  obtain ⟨p, s, i, b, rfl, hn, hr, ⟨pA, pc, rfl, p1, p2, p3⟩, ⟨sA, sc, rfl, s1, s2, s3⟩, ⟨iA, ic, rfl, i1, i2, i3⟩, ⟨bA, bc, rfl, b1, b2, b3⟩⟩ := h
  exact ⟨⟨f, pA, pc, sA, sc, iA, ic, bA, bc⟩, rfl, rfl, ⟨p3, s3, i3, b3, p2, s2, i2, b2, p1, s1, i1, b1, hn, hr⟩⟩
/-- A variable that holds that function. -/
structure FV (E : FE) (w : World) (g : Nat) : Prop where
  lt : g < w.heap.size
  row : ∃ t fr, w.heap[g]? = some (.cells E.row t fr)
theorem FV.new (E : FE) (w : World) (t : TypeId) : FV E (w.alloc (.cells E.row t)) w.heap.size := ⟨by simp, ⟨t, _, heap_alloc_last w _⟩⟩
theorem FV.below {E : FE} {w w' : World} {g B : Nat} (h : FV E w g) (hb : Below B w w') (hB : w.heap.size ≤ B) : FV E w' g := by
  obtain ⟨t, fr, h1⟩ := h.row
  exact ⟨Nat.lt_of_lt_of_le h.lt hb.size, t, fr, (hb.block g (Nat.lt_of_lt_of_le h.lt hB)).trans h1⟩
theorem FV.cell {E : FE} {w : World} {g : Nat} (h : FV E w g) (k : Nat) (v : Value) (hk : E.row[k]? = some v) : w.cell? ⟨g, k, none⟩ = some v := by
  obtain ⟨t, fr, h1⟩ := h.row
  exact (cell_of_row w g k _ t fr h1).trans hk
theorem below_alloc (w : World) (o : Obj) : Below w.heap.size w (w.alloc o) := (Below.refl _ _).alloc (Nat.le_refl _) o

set_option maxHeartbeats 400000 in
theorem refListed_any (E : FE) (n : Int) (r : Bool) (w : World) (hM : FM E w) (hr : Hid (listedB E.f n = r)) :
    Calls Tryd.prog 23 #[E.v, .int .i64 n] w fun e w' => e = .returned (.bool r) ∧ Below w.heap.size w w' := by
  obtain ⟨m, hm⟩ : ∃ m, E.f.blocks.length = m := ⟨_, rfl⟩
  have HB := Lib.hid (below_alloc w (.cells E.row 40))
  have HM := Lib.hid (hM.below HB.out (Nat.le_refl _))
  have HV := Lib.hid (FV.new E w 40)
  have hbl := hM.bl
  have hble := hM.ble
  rw [hm] at hbl hble
  have c5 : (w.alloc (.cells E.row 40)).cell? ⟨w.heap.size, 5, none⟩ = some (.slice E.bA E.f.blocks.length E.bc) := HV.out.cell 5 _ rfl
  rw [hm] at c5
  have Hm := Lib.hid hm
  clear hM hm
  unfold FE.v
  go_enter Tryd.func23, Tryd.ntmps23
  go_wp2_with fail
  generalize w.alloc (.cells E.row 40) = w1 at *
  go_loopw [5] (fun i wr => KRel w1 m (fun k => (E.f.blocks.drop k).any (fun b => hasL b.list n) = r) i wr) (fun i _ => m - (intOf i).toNat)
  case atStart => exact ⟨0, Nat.zero_le _, rfl, hr, rfl⟩
  case round =>
    obtain ⟨k, hk, rfl, HK, rfl⟩ := hrel
    by_cases hlt : k < m
    · obtain ⟨g, o, hA, hg, hcs⟩ := HM.out.B (by have := Hm.out; omega)
      obtain ⟨x, hx⟩ : ∃ x, E.f.blocks[k]? = some x := ⟨_, List.getElem?_eq_getElem (by have := Hm.out; omega)⟩
      obtain ⟨cs, ⟨v, rfl, -, -, -, -, ⟨lA, lc, rfl, l1, l2, HL⟩⟩, h0⟩ := hcs k x hx
      have d0 := h0 0 _ rfl
      have hd := any_drop (p := fun b => hasL b.list n) hx
      rw [HK.out] at hd
      have HD := Lib.hid hd
      have HLL := Lib.hid HL
      obtain ⟨j, hj⟩ : ∃ j, x.list.length = j := ⟨_, rfl⟩
      have HJ := Lib.hid hj
      rw [hj] at d0 l1 l2
      rw [hA] at c5
      clear hcs hd h0 hx HL hj hA
      simp only [Nat.add_zero] at d0
      go_wp2_with fail
      go_loopw [6] (fun i wr => KRel w1 j (fun q => hasL (x.list.drop q) n = hasL x.list n) i wr) (fun i _ => j - (intOf i).toNat)
      case atStart => exact ⟨0, Nat.zero_le _, rfl, Lib.hid rfl, rfl⟩
      case round =>
        obtain ⟨q, hq, rfl, HQ, rfl⟩ := hrel
        by_cases hlq : q < j
        · obtain ⟨g2, o2, hA2, hg2, hcs2⟩ := HLL.out (by have := HJ.out; omega)
          obtain ⟨y, hy⟩ : ∃ y, x.list[q]? = some y := ⟨_, List.getElem?_eq_getElem (by have := HJ.out; omega)⟩
          obtain ⟨cs2, ⟨rfl, -⟩, h2⟩ := hcs2 q y hy
          have e0 := h2 0 _ rfl
          have hd2 := has_drop (n := n) hy
          rw [HQ.out] at hd2
          have HD2 := Lib.hid hd2
          rw [hA2] at d0
          clear hcs2 hd2 h2 hy hA2
          simp only [Nat.mul_one, Nat.add_zero] at e0
          by_cases he : y = n
          · subst he
            have hb : r = true := HD.out.trans (by rw [HD2.out]; simp)
            subst hb
            go_wp2_with fail
            go_ret
            exact ⟨rfl, HB.out⟩
          · have hq2 : hasL (x.list.drop (q + 1)) n = hasL x.list n := by rw [HD2.out, beq_false_of_ne he, Bool.false_or]
            have HQ2 := Lib.hid hq2
            clear hq2
            go_wp2_with fail
            go_roundw
            case rel => exact ⟨q + 1, by omega, by go_num, HQ2, rfl⟩
            case measure => simp [intOf]; omega
        · have hh : hasL x.list n = false := HQ.out.symm.trans (has_end (by have := HJ.out; omega))
          have hq2 : (E.f.blocks.drop (k + 1)).any (fun b => hasL b.list n) = r := by rw [HD.out, hh, Bool.false_or]
          have HQ2 := Lib.hid hq2
          clear hq2 hh
          go_wp2_with fail
          go_roundw
          case rel => exact ⟨k + 1, by omega, by go_num, HQ2, rfl⟩
          case measure => simp [intOf]; omega
    · have hb : r = false := HK.out.symm.trans (any_end (by have := Hm.out; omega))
      subst hb
      go_wp2_with fail
      go_ret
      exact ⟨rfl, HB.out⟩

end Go.Proofs.YtcbjcpmkebbfaaaDoor
