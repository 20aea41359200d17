/-
  CONTRACTS: rows of numbers are the same; whether a function is more than is asked: the statements' same and wide of layers 9 and 10. Of what was there nothing has turned.
-/
import Derived.Test.YtpaddigjjlidcaaFlMem
namespace Go.Proofs.Ytpaddigjjlidcaa
open Go.RowKit

theorem take_up {α : Type} {l l' : List α} {k : Nat} {a : α} (h : l.take k = l'.take k) (h1 : l[k]? = some a) (h2 : l'[k]? = some a) : l.take (k + 1) = l'.take (k + 1) := by
  obtain ⟨p1, e1⟩ := List.getElem?_eq_some_iff.1 h1
  obtain ⟨p2, e2⟩ := List.getElem?_eq_some_iff.1 h2
  rw [List.take_succ_eq_append_getElem p1, List.take_succ_eq_append_getElem p2, h, e1, e2]
theorem ne_of {α : Type} {l l' : List α} {k : Nat} {a b : α} (h1 : l[k]? = some a) (h2 : l'[k]? = some b) (h : a ≠ b) : l ≠ l' := fun e => h (by rw [e, h2] at h1; exact (Option.some.inj h1).symm)
theorem all_eq {α : Type} {l l' : List α} {m k : Nat} (h1 : l.length = m) (h2 : l'.length = m) (hk : m ≤ k) (h : l.take k = l'.take k) : l = l' := by
  rwa [List.take_of_length_le (by omega), List.take_of_length_le (by omega)] at h
theorem bool_no {b : Bool} {p : Prop} (h : b = true ↔ p) (n : ¬ p) : b = false := by cases b with | false => rfl | true => exact absurd (h.1 rfl) n
set_option maxHeartbeats 400000 in
theorem lawSame_any (A A' : Option Addr) (c c' m m' : Nat) (l l' : List Int) (b : Bool) (w : World) (hR : SL 1 intR w A l) (hR' : SL 1 intR w A' l') (hm : Hid (l.length = m)) (hm' : Hid (l'.length = m')) (hl : m ≤ 140737488351232) (hl' : m' ≤ 140737488351232)
    (hr : Hid (b = true ↔ l = l')) : Calls Try.prog 12 #[.slice A m c, .slice A' m' c'] w fun e w' => e = .returned (.bool b) ∧ Below w.heap.size w w' := by
  have HR := Lib.hid hR
  have HR' := Lib.hid hR'
  clear hR hR'
  by_cases he : m = m'
  · subst he
    go_enter Try.func12, Try.ntmps12
    go_wp2_with fail
    go_loopw [5] (fun i wr => BRel w m (fun k => l.take k = l'.take k) i wr) (fun i _ => m - (intOf i).toNat)
    case atStart => exact ⟨0, Nat.zero_le _, rfl, rfl, Below.refl _ _⟩
    case round =>
      obtain ⟨k, hk, rfl, HK, hb⟩ := hrel
      by_cases hlt : k < m
      · obtain ⟨g, o, rfl, hg, hcs⟩ := (HR.out.below kp_int hb (Nat.le_refl _)) (by have := hm.out; omega)
        obtain ⟨g', o', rfl, hg', hcs'⟩ := (HR'.out.below kp_int hb (Nat.le_refl _)) (by have := hm'.out; omega)
        obtain ⟨x, hx⟩ : ∃ x, l[k]? = some x := ⟨_, List.getElem?_eq_getElem (by have := hm.out; omega)⟩
        obtain ⟨y, hy⟩ : ∃ y, l'[k]? = some y := ⟨_, List.getElem?_eq_getElem (by have := hm'.out; omega)⟩
        obtain ⟨cs, ⟨rfl, -⟩, h0⟩ := hcs k x hx
        obtain ⟨cs', ⟨rfl, -⟩, h0'⟩ := hcs' k y hy
        have c0 := h0 0 _ rfl
        have d0 := h0' 0 _ rfl
        have HX := Lib.hid hx
        have HY := Lib.hid hy
        have HB := Lib.hid hb
        clear hcs hcs' hx hy h0 h0' hb
        simp only [Nat.mul_one, Nat.add_zero] at c0 d0
        cases h1 : (x == y) with
        | false =>
          have s1 : (x != y) = true := by simp only [bne, h1]; rfl
          obtain rfl : b = false := bool_no hr.out (ne_of HX.out HY.out (fun e => by rw [e, beq_self_eq_true] at h1; cases h1))
          skip
          go_wp2_with fail
          go_quiet (fail)
          go_wp2_with fail
          go_ret
          exact ⟨rfl, below_drewN HB.out _⟩
        | true =>
          obtain rfl := eq_of_beq h1
          clear h1
          have HT := Lib.hid (take_up HK.out HX.out HY.out)
          go_wp2_with fail
          go_quiet (fail)
          go_wp2_with fail
          go_roundw
          case rel => exact ⟨k + 1, by omega, by go_num, HT, below_drewN HB.out _⟩
          case measure => simp [intOf]; omega
      · obtain rfl : b = true := hr.out.2 (all_eq hm.out hm'.out (by omega) HK.out)
        go_wp2_with fail
        go_ret
        exact ⟨rfl, hb⟩
  · have n1 : ((m : Int) != (m' : Int)) = true := by simp; omega
    have n2 : (m != m') = true := by simp; exact he
    obtain rfl : b = false := bool_no hr.out (fun h => he (by have h1 := hm.out; have h2 := hm'.out; rw [h] at h1; omega))
    clear he
    go_enter Try.func12, Try.ntmps12
    go_wp2_with fail
    go_ret
    exact ⟨rfl, Below.refl _ _⟩

/-- How long the rows of the first so many are, together. -/
def sumTo {α : Type} (f : α → List Int) (l : List α) (k : Nat) : Nat := ((l.take k).map fun x => (f x).length).sum
theorem sum_up {α : Type} {f : α → List Int} {l : List α} {k : Nat} {x : α} (h : l[k]? = some x) : sumTo f l (k + 1) = sumTo f l k + (f x).length := by
  obtain ⟨p, e⟩ := List.getElem?_eq_some_iff.1 h
  unfold sumTo
  rw [List.take_succ_eq_append_getElem p, List.map_append, List.sum_append, e]
  simp
theorem sum_le {α : Type} {f : α → List Int} {l : List α} (M : Nat) (h : ∀ x ∈ l, (f x).length ≤ M) : ∀ k, sumTo f l k ≤ k * M
  | 0 => by simp [sumTo]
  | k + 1 => by
    have ih := sum_le M h k
    rcases Nat.lt_or_ge k l.length with hk | hk
    · rw [sum_up (List.getElem?_eq_getElem hk), Nat.succ_mul]
      have := h _ (List.getElem_mem hk)
      omega
    · have e : sumTo f l (k + 1) = sumTo f l k := by unfold sumTo; rw [List.take_of_length_le (by omega), List.take_of_length_le hk]
      rw [e, Nat.succ_mul]; omega
def wideB (f : Fn) : Bool := decide (300 < f.ins.length) || decide (60 < f.blocks.length) || decide (1500 < sumTo Blk.list f.blocks f.blocks.length)
theorem FM.blk_len {E : FE} {w : World} (h : FM E w) : ∀ x ∈ E.f.blocks, x.list.length ≤ 140737488351232 := fun x hx => by
  obtain ⟨i, hi, rfl⟩ := List.getElem_of_mem hx
  obtain ⟨b, o, -, -, hc⟩ := h.B (Nat.lt_of_le_of_lt (Nat.zero_le _) hi)
  obtain ⟨cs, ⟨v, -, -, -, -, -, ⟨_, _, _, _, h2, _⟩⟩, -⟩ := hc i _ (List.getElem?_eq_getElem hi)
  exact h2
def SRel (w : World) (m : Nat) (S : Nat → Nat) (i s : Value) (wr : World) : Prop := ∃ k : Nat, k ≤ m ∧ i = .int .i64 k ∧ (∃ q : Nat, s = .int .i64 q ∧ Hid (q = S k)) ∧ w = wr


set_option maxHeartbeats 1000000 in
theorem lawWide_any (E : FE) (r : Bool) (w : World) (hM : FM E w) (hr : Hid (wideB E.f = r)) :
    Calls Try.prog 8 #[E.v] w fun e w' => e = .returned (.bool r) ∧ Below w.heap.size w w' := by
  obtain ⟨il, hil⟩ : ∃ m, E.f.ins.length = m := ⟨_, rfl⟩
  obtain ⟨bl, hbl⟩ : ∃ m, E.f.blocks.length = m := ⟨_, rfl⟩
  have HB := Lib.hid (below_alloc w (.cells E.row 26))
  have HM := Lib.hid (hM.below HB.out (Nat.le_refl _))
  have c4 : (w.alloc (.cells E.row 26)).cell? ⟨w.heap.size, 4, none⟩ = some (.slice E.iA E.f.ins.length E.ic) := cell_new w E.row 26 4
  have c5 : (w.alloc (.cells E.row 26)).cell? ⟨w.heap.size, 5, none⟩ = some (.slice E.bA E.f.blocks.length E.bc) := cell_new w E.row 26 5
  have hie := hM.ile
  have hbe := hM.ble
  rw [hil] at c4 hie
  rw [hbl] at c5 hbe
  have HBS := Lib.hid (sum_le 140737488351232 hM.blk_len)
  have HR : Hid ((decide (300 < il) || decide (60 < bl) || decide (1500 < sumTo Blk.list E.f.blocks bl)) = r) := by
    show _ = _
    have := hr.out
    unfold wideB at this
    rwa [hil, hbl] at this
  have Hbl := Lib.hid hbl
  clear hM hil hbl hr
  unfold FE.v
  by_cases h3 : (300 : Int) < il
  · obtain rfl : r = true := HR.out.symm.trans (by simp [show 300 < il by omega])
    go_enter Try.func8, Try.ntmps8
    go_wp2_with fail
    go_ret
    exact ⟨rfl, HB.out⟩
  · by_cases h4 : (60 : Int) < bl
    · obtain rfl : r = true := HR.out.symm.trans (by simp [show 60 < bl by omega])
      go_enter Try.func8, Try.ntmps8
      go_wp2_with fail
      go_ret
      exact ⟨rfl, HB.out⟩
    · have HQ : Hid (decide (1500 < sumTo Blk.list E.f.blocks bl) = r) := by
        show _ = _
        rw [← HR.out]
        simp only [show ¬ 300 < il by omega, show ¬ 60 < bl by omega, decide_false, Bool.false_or]
      clear HR
      go_enter Try.func8, Try.ntmps8
      go_wp2_with fail
      generalize w.alloc (.cells E.row 26) = w1 at *
      go_loopw [4, 3] (fun i s wr => SRel w1 bl (fun k => sumTo Blk.list E.f.blocks k) i s wr) (fun i _ _ => bl - (intOf i).toNat)
      case atStart => exact ⟨0, Nat.zero_le _, rfl, ⟨0, rfl, by show _ = _; simp [sumTo]⟩, rfl⟩
      case round =>
        obtain ⟨k, hk, rfl, ⟨q, rfl, HK⟩, rfl⟩ := hrel
        have hqb : q ≤ 8444249301319680 := by have h1 : q = sumTo Blk.list E.f.blocks k := HK.out; have h2 := HBS.out k; have h3 := Nat.mul_le_mul_right 140737488351232 (show k ≤ 60 by omega); omega
        by_cases hlt : k < bl
        · obtain ⟨g, o, hA, hg, hcs⟩ := HM.out.B (by have := Hbl.out; omega)
          obtain ⟨x, hx⟩ : ∃ x, E.f.blocks[k]? = some x := ⟨_, List.getElem?_eq_getElem (by have := Hbl.out; omega)⟩
          obtain ⟨cs, ⟨v, rfl, -, -, -, -, ⟨lA, lc, rfl, l1, l2, HL⟩⟩, h0⟩ := hcs k x hx
          have d0 := h0 0 _ rfl
          have hup := sum_up (f := Blk.list) hx
          obtain ⟨j, hj⟩ : ∃ j, x.list.length = j := ⟨_, rfl⟩
          have hup2 : q + j = sumTo Blk.list E.f.blocks (k + 1) := by rw [hup, HK.out, ← hj]
          have HUP := Lib.hid hup2
          rw [hj] at d0 l1 l2
          rw [hA] at c5
          clear hcs h0 hx HL hup hup2 hj
          simp only [Nat.add_zero] at d0
          go_wp2_with fail
          go_roundw
          case rel => exact ⟨k + 1, by omega, by go_num, ⟨q + j, by go_num, HUP⟩, rfl⟩
          case measure => simp [intOf]; omega
        · obtain rfl : k = bl := by omega
          have hq3 : decide (1500 < q) = r := by rw [← HQ.out, HK.out]
          by_cases h5 : (1500 : Int) < q
          · obtain rfl : r = true := by rw [← hq3]; exact decide_eq_true (by omega)
            clear hq3
            go_wp2_with fail
            go_ret
            exact ⟨rfl, HB.out⟩
          · obtain rfl : r = false := by rw [← hq3]; exact decide_eq_false (by omega)
            clear hq3
            go_wp2_with fail
            go_ret
            exact ⟨rfl, HB.out⟩

def wideD (f : Fn) : Bool := decide (30 < f.blocks.length)
end Go.Proofs.Ytpaddigjjlidcaa
