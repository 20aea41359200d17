/-
  CONTRACT: the statements' wide: whether a function is more than is asked. Of what was there nothing has turned.
-/
import Derived.Test.YtcbjcpmkebbfaaaDoorIrEq
namespace Go.Proofs.YtcbjcpmkebbfaaaDoor
open Go.RowKit

/-- How long the rows of the first so many are, together. -/
def sumTo {α : Type} (f : α → List Int) (l : List α) (k : Nat) : Nat := ((l.take k).map fun x => (f x).length).sum
theorem sum_up {α : Type} {f : α → List Int} {l : List α} {k : Nat} {x : α} (h : l[k]? = some x) : sumTo f l (k + 1) = sumTo f l k + (f x).length := by
  obtain ⟨p, e⟩ := List.getElem?_eq_some_iff.1 h
  unfold sumTo
  rw [List.take_succ_eq_append_getElem p, List.map_append, List.sum_append, e]
  simp
theorem sum_le {α : Type} {f : α → List Int} {l : List α} (M : Nat) (h : ∀ x ∈ l, (f x).length ≤ M) : ∀ k, sumTo f l k ≤ k * M
  | 0 => by simp [sumTo]
  | k + 1 => by
    have ih := sum_le M h k
    rcases Nat.lt_or_ge k l.length with hk | hk
    · rw [sum_up (List.getElem?_eq_getElem hk), Nat.succ_mul]
      have := h _ (List.getElem_mem hk)
      omega
    · have e : sumTo f l (k + 1) = sumTo f l k := by unfold sumTo; rw [List.take_of_length_le (by omega), List.take_of_length_le hk]
      rw [e, Nat.succ_mul]; omega
def overB (f : Fn) : Bool := decide (10 < f.params.length) || (decide (100 < f.slots.length) || (decide (300 < f.ins.length) || decide (60 < f.blocks.length)))
def sumB (f : Fn) : Nat := sumTo Blk.list f.blocks f.blocks.length + sumTo Ins.args f.ins f.ins.length
def wideB (f : Fn) : Bool := overB f || decide (1500 < sumB f)
theorem FM.blk_len {E : FE} {w : World} (h : FM E w) : ∀ x ∈ E.f.blocks, x.list.length ≤ 140737488351232 := fun x hx => by
  obtain ⟨i, hi, rfl⟩ := List.getElem_of_mem hx
  obtain ⟨b, o, -, -, hc⟩ := h.B (Nat.lt_of_le_of_lt (Nat.zero_le _) hi)
  obtain ⟨cs, ⟨v, -, -, -, -, -, ⟨_, _, _, _, h2, _⟩⟩, -⟩ := hc i _ (List.getElem?_eq_getElem hi)
  exact h2
theorem FM.ins_len {E : FE} {w : World} (h : FM E w) : ∀ x ∈ E.f.ins, x.args.length ≤ 140737488351232 := fun x hx => by
  obtain ⟨i, hi, rfl⟩ := List.getElem_of_mem hx
  obtain ⟨b, o, -, -, hc⟩ := h.I (Nat.lt_of_le_of_lt (Nat.zero_le _) hi)
  obtain ⟨cs, ⟨v, -, -, -, -, -, ⟨_, _, _, _, h2, _⟩⟩, -⟩ := hc i _ (List.getElem?_eq_getElem hi)
  exact h2
def SRel (w : World) (m : Nat) (S : Nat → Nat) (i s : Value) (wr : World) : Prop := ∃ k : Nat, k ≤ m ∧ i = .int .i64 k ∧ (∃ q : Nat, s = .int .i64 q ∧ Hid (q = S k)) ∧ w = wr

set_option maxHeartbeats 1000000 in
theorem lawWide_any (E : FE) (r : Bool) (w : World) (hM : FM E w) (hr : Hid (wideB E.f = r)) :
    Calls Tryd.prog 21 #[E.v] w fun e w' => e = .returned (.bool r) ∧ Below w.heap.size w w' := by
  obtain ⟨pl, hpl⟩ : ∃ m, E.f.params.length = m := ⟨_, rfl⟩
  obtain ⟨sl, hsl⟩ : ∃ m, E.f.slots.length = m := ⟨_, rfl⟩
  obtain ⟨il, hil⟩ : ∃ m, E.f.ins.length = m := ⟨_, rfl⟩
  obtain ⟨bl, hbl⟩ : ∃ m, E.f.blocks.length = m := ⟨_, rfl⟩
  have HB := Lib.hid (below_alloc w (.cells E.row 40))
  have HM := Lib.hid (hM.below HB.out (Nat.le_refl _))
  have HV := Lib.hid (FV.new E w 40)
  have c1 : (w.alloc (.cells E.row 40)).cell? ⟨w.heap.size, 1, none⟩ = some (.slice E.pA E.f.params.length E.pc) := HV.out.cell 1 _ rfl
  have c3 : (w.alloc (.cells E.row 40)).cell? ⟨w.heap.size, 3, none⟩ = some (.slice E.sA E.f.slots.length E.sc) := HV.out.cell 3 _ rfl
  have c4 : (w.alloc (.cells E.row 40)).cell? ⟨w.heap.size, 4, none⟩ = some (.slice E.iA E.f.ins.length E.ic) := HV.out.cell 4 _ rfl
  have c5 : (w.alloc (.cells E.row 40)).cell? ⟨w.heap.size, 5, none⟩ = some (.slice E.bA E.f.blocks.length E.bc) := HV.out.cell 5 _ rfl
  have hpe := hM.ple
  have hse := hM.sle
  have hie := hM.ile
  have hbe := hM.ble
  rw [hpl] at c1 hpe
  rw [hsl] at c3 hse
  rw [hil] at c4 hie
  rw [hbl] at c5 hbe
  have HBS := Lib.hid (sum_le 140737488351232 hM.blk_len)
  have HIS := Lib.hid (sum_le 140737488351232 hM.ins_len)
  have HR : Hid (((decide (10 < pl) || (decide (100 < sl) || (decide (300 < il) || decide (60 < bl)))) || decide (1500 < sumTo Blk.list E.f.blocks bl + sumTo Ins.args E.f.ins il)) = r) := by
    show _ = _
    have := hr.out
    unfold wideB overB sumB at this
    rwa [hpl, hsl, hil, hbl] at this
  have Hil := Lib.hid hil
  have Hbl := Lib.hid hbl
  clear hM hpl hsl hil hbl hr
  unfold FE.v
  by_cases ho : 10 < pl ∨ 100 < sl ∨ 300 < il ∨ 60 < bl
  · obtain rfl : r = true := HR.out.symm.trans (by
      rcases ho with h | h | h | h <;> simp [h])
    by_cases h1 : (10 : Int) < pl
    · go_enter Tryd.func21, Tryd.ntmps21
      go_wp2_with fail
      go_ret
      exact ⟨rfl, HB.out⟩
    · by_cases h2 : (100 : Int) < sl
      · go_enter Tryd.func21, Tryd.ntmps21
        go_wp2_with fail
        go_ret
        exact ⟨rfl, HB.out⟩
      · by_cases h3 : (300 : Int) < il
        · go_enter Tryd.func21, Tryd.ntmps21
          go_wp2_with fail
          go_ret
          exact ⟨rfl, HB.out⟩
        · have h4 : (60 : Int) < bl := by omega
          go_enter Tryd.func21, Tryd.ntmps21
          go_wp2_with fail
          go_ret
          exact ⟨rfl, HB.out⟩
  · have h1 : ¬ (10 : Int) < pl := by omega
    have h2 : ¬ (100 : Int) < sl := by omega
    have h3 : ¬ (300 : Int) < il := by omega
    have h4 : ¬ (60 : Int) < bl := by omega
    have hq : decide (1500 < sumTo Blk.list E.f.blocks bl + sumTo Ins.args E.f.ins il) = r := by
      rw [← HR.out]
      simp only [show ¬ 10 < pl by omega, show ¬ 100 < sl by omega, show ¬ 300 < il by omega, show ¬ 60 < bl by omega, decide_false, Bool.false_or]
    have HQ := Lib.hid hq
    clear hq HR ho
    go_enter Tryd.func21, Tryd.ntmps21
    go_wp2_with fail
    generalize w.alloc (.cells E.row 40) = w1 at *
    go_loopw [4, 3] (fun i s wr => SRel w1 bl (fun k => sumTo Blk.list E.f.blocks k) i s wr) (fun i _ _ => bl - (intOf i).toNat)
    case atStart => exact ⟨0, Nat.zero_le _, rfl, ⟨0, rfl, by show _ = _; simp [sumTo]⟩, rfl⟩
    case round =>
      obtain ⟨k, hk, rfl, ⟨q, rfl, HK⟩, rfl⟩ := hrel
      have hqb : q ≤ 8444249301319680 := by have h1 : q = sumTo Blk.list E.f.blocks k := HK.out; have h2 := HBS.out k; have h3 := Nat.mul_le_mul_right 140737488351232 (show k ≤ 60 by omega); omega
      by_cases hlt : k < bl
      · obtain ⟨g, o, hA, hg, hcs⟩ := HM.out.B (by have := Hbl.out; omega)
        obtain ⟨x, hx⟩ : ∃ x, E.f.blocks[k]? = some x := ⟨_, List.getElem?_eq_getElem (by have := Hbl.out; omega)⟩
        obtain ⟨cs, ⟨v, rfl, -, -, -, -, ⟨lA, lc, rfl, l1, l2, HL⟩⟩, h0⟩ := hcs k x hx
        have d0 := h0 0 _ rfl
        have hup := sum_up (f := Blk.list) hx
        obtain ⟨j, hj⟩ : ∃ j, x.list.length = j := ⟨_, rfl⟩
        have hup2 : q + j = sumTo Blk.list E.f.blocks (k + 1) := by rw [hup, HK.out, ← hj]
        have HUP := Lib.hid hup2
        rw [hj] at d0 l1 l2
        rw [hA] at c5
        clear hcs h0 hx HL hup hup2 hj
        simp only [Nat.add_zero] at d0
        go_wp2_with fail
        go_roundw
        case rel => exact ⟨k + 1, by omega, by go_num, ⟨q + j, by go_num, HUP⟩, rfl⟩
        case measure => simp [intOf]; omega
      · obtain rfl : k = bl := by omega
        go_wp2_with fail
        go_loopw [5, 3] (fun i s wr => SRel w1 il (fun k2 => q + sumTo Ins.args E.f.ins k2) i s wr) (fun i _ _ => il - (intOf i).toNat)
        case atStart => exact ⟨0, Nat.zero_le _, rfl, ⟨q, rfl, by show _ = _; simp [sumTo]⟩, rfl⟩
        case round =>
          obtain ⟨k2, hk2, rfl, ⟨q2, rfl, HK2⟩, rfl⟩ := hrel
          have hqb2 : q2 ≤ 844424930131968000 := by have h1 : q2 = q + sumTo Ins.args E.f.ins k2 := HK2.out; have h2 := HIS.out k2; have h3 := Nat.mul_le_mul_right 140737488351232 (show k2 ≤ 300 by omega); omega
          by_cases hlt2 : k2 < il
          · obtain ⟨g, o, hA, hg, hcs⟩ := HM.out.I (by have := Hil.out; omega)
            obtain ⟨x, hx⟩ : ∃ x, E.f.ins[k2]? = some x := ⟨_, List.getElem?_eq_getElem (by have := Hil.out; omega)⟩
            obtain ⟨cs, ⟨v, rfl, -, -, -, -, ⟨lA, lc, rfl, l1, l2, HL⟩⟩, h0⟩ := hcs k2 x hx
            have d0 := h0 2 _ rfl
            have hup := sum_up (f := Ins.args) hx
            obtain ⟨j, hj⟩ : ∃ j, x.args.length = j := ⟨_, rfl⟩
            have hup2 : q2 + j = q + sumTo Ins.args E.f.ins (k2 + 1) := by rw [hup, HK2.out, ← hj, Nat.add_assoc]
            have HUP := Lib.hid hup2
            rw [hj] at d0 l1 l2
            rw [hA] at c4
            clear hcs h0 hx HL hup hup2 hj
            go_wp2_with fail
            go_roundw
            case rel => exact ⟨k2 + 1, by omega, by go_num, ⟨q2 + j, by go_num, HUP⟩, rfl⟩
            case measure => simp [intOf]; omega
          · obtain rfl : k2 = il := by omega
            have hq3 : decide (1500 < q2) = r := by rw [← HQ.out, HK2.out, HK.out]
            by_cases h5 : (1500 : Int) < q2
            · obtain rfl : r = true := by rw [← hq3]; exact decide_eq_true (by omega)
              clear hq3
              go_wp2_with fail
              go_ret
              exact ⟨rfl, HB.out⟩
            · obtain rfl : r = false := by rw [← hq3]; exact decide_eq_false (by omega)
              clear hq3
              go_wp2_with fail
              go_ret
              exact ⟨rfl, HB.out⟩

end Go.Proofs.YtcbjcpmkebbfaaaDoor
