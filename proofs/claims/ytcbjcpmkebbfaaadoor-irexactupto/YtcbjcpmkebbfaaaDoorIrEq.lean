/-
  CONTRACTS: rows of numbers, rows of texts are the same: the reference's ints and texts, the statements' lines. Of what was there nothing has turned.
-/
import Derived.Test.YtcbjcpmkebbfaaaDoorIrHas
namespace Go.Proofs.YtcbjcpmkebbfaaaDoor
open Go.RowKit

def eqS (a b : ByteArray) : Bool := a.data.toList == b.data.toList
theorem eqS_iff {a b : ByteArray} : eqS a b = true ↔ a = b := by
  unfold eqS; rw [beq_iff_eq]
  exact ⟨Go.WideShapes.bytes_inj, fun h => by rw [h]⟩
theorem eqS_spell {a b : ByteArray} {x : Bool} (h : eqS a b = x) : (a.toList == b.toList) = x := by
  rw [ByteArray.toList_eq, ByteArray.toList_eq]; exact h
theorem take_up {α : Type} {l l' : List α} {k : Nat} {a : α} (h : l.take k = l'.take k) (h1 : l[k]? = some a) (h2 : l'[k]? = some a) : l.take (k + 1) = l'.take (k + 1) := by
  obtain ⟨p1, e1⟩ := List.getElem?_eq_some_iff.1 h1
  obtain ⟨p2, e2⟩ := List.getElem?_eq_some_iff.1 h2
  rw [List.take_succ_eq_append_getElem p1, List.take_succ_eq_append_getElem p2, h, e1, e2]
theorem ne_of {α : Type} {l l' : List α} {k : Nat} {a b : α} (h1 : l[k]? = some a) (h2 : l'[k]? = some b) (h : a ≠ b) : l ≠ l' := fun e => h (by rw [e, h2] at h1; exact (Option.some.inj h1).symm)
theorem all_eq {α : Type} {l l' : List α} {m k : Nat} (h1 : l.length = m) (h2 : l'.length = m) (hk : m ≤ k) (h : l.take k = l'.take k) : l = l' := by
  rwa [List.take_of_length_le (by omega), List.take_of_length_le (by omega)] at h
theorem bool_no {b : Bool} {p : Prop} (h : b = true ↔ p) (n : ¬ p) : b = false := by cases b with | false => rfl | true => exact absurd (h.1 rfl) n
theorem below_drewN {B : Nat} {a w : World} (h : Below B a w) (n : Nat) : Below B a (w.drewN n) := h.trans ⟨rfl, rfl, rfl, Nat.le_refl _, fun _ _ => rfl⟩
def BRel (w : World) (m : Nat) (Q : Nat → Prop) (i : Value) (wr : World) : Prop := ∃ k : Nat, k ≤ m ∧ i = .int .i64 k ∧ Hid (Q k) ∧ Below w.heap.size w wr

set_option maxHeartbeats 400000 in
theorem refInts_any (A A' : Option Addr) (c c' m m' : Nat) (l l' : List Int) (b : Bool) (w : World) (hR : SL 1 intR w A l) (hR' : SL 1 intR w A' l') (hm : Hid (l.length = m)) (hm' : Hid (l'.length = m')) (hl : m ≤ 140737488351232) (hl' : m' ≤ 140737488351232)
    (hr : Hid (b = true ↔ l = l')) : Calls Tryd.prog 38 #[.slice A m c, .slice A' m' c'] w fun e w' => e = .returned (.bool b) ∧ Below w.heap.size w w' := by
  have HR := Lib.hid hR
  have HR' := Lib.hid hR'
  clear hR hR'
  by_cases he : m = m'
  · subst he
    go_enter Tryd.func38, Tryd.ntmps38
    go_wp2_with fail
    go_loopw [5] (fun i wr => BRel w m (fun k => l.take k = l'.take k) i wr) (fun i _ => m - (intOf i).toNat)
    case atStart => exact ⟨0, Nat.zero_le _, rfl, rfl, Below.refl _ _⟩
    case round =>
      obtain ⟨k, hk, rfl, HK, hb⟩ := hrel
      by_cases hlt : k < m
      · obtain ⟨g, o, rfl, hg, hcs⟩ := (HR.out.below kp_int hb (Nat.le_refl _)) (by have := hm.out; omega)
        obtain ⟨g', o', rfl, hg', hcs'⟩ := (HR'.out.below kp_int hb (Nat.le_refl _)) (by have := hm'.out; omega)
        obtain ⟨x, hx⟩ : ∃ x, l[k]? = some x := ⟨_, List.getElem?_eq_getElem (by have := hm.out; omega)⟩
        obtain ⟨y, hy⟩ : ∃ y, l'[k]? = some y := ⟨_, List.getElem?_eq_getElem (by have := hm'.out; omega)⟩
        obtain ⟨cs, ⟨rfl, -⟩, h0⟩ := hcs k x hx
        obtain ⟨cs', ⟨rfl, -⟩, h0'⟩ := hcs' k y hy
        have c0 := h0 0 _ rfl
        have d0 := h0' 0 _ rfl
        have HX := Lib.hid hx
        have HY := Lib.hid hy
        have HB := Lib.hid hb
        clear hcs hcs' hx hy h0 h0' hb
        simp only [Nat.mul_one, Nat.add_zero] at c0 d0
        cases h1 : (x == y) with
        | false =>
          have s1 : (x != y) = true := by simp only [bne, h1]; rfl
          obtain rfl : b = false := bool_no hr.out (ne_of HX.out HY.out (fun e => by rw [e, beq_self_eq_true] at h1; cases h1))
          skip
          go_wp2_with fail
          go_quiet (fail)
          go_wp2_with fail
          go_ret
          exact ⟨rfl, below_drewN HB.out _⟩
        | true =>
          obtain rfl := eq_of_beq h1
          clear h1
          have HT := Lib.hid (take_up HK.out HX.out HY.out)
          go_wp2_with fail
          go_quiet (fail)
          go_wp2_with fail
          go_roundw
          case rel => exact ⟨k + 1, by omega, by go_num, HT, below_drewN HB.out _⟩
          case measure => simp [intOf]; omega
      · obtain rfl : b = true := hr.out.2 (all_eq hm.out hm'.out (by omega) HK.out)
        go_wp2_with fail
        go_ret
        exact ⟨rfl, hb⟩
  · have n1 : ((m : Int) != (m' : Int)) = true := by simp; omega
    have n2 : (m != m') = true := by simp; exact he
    obtain rfl : b = false := bool_no hr.out (fun h => he (by have h1 := hm.out; have h2 := hm'.out; rw [h] at h1; omega))
    clear he
    go_enter Tryd.func38, Tryd.ntmps38
    go_wp2_with fail
    go_ret
    exact ⟨rfl, Below.refl _ _⟩

set_option maxHeartbeats 400000 in
theorem refTexts_any (A A' : Option Addr) (c c' m m' : Nat) (l l' : List ByteArray) (b : Bool) (w : World) (hR : SL 1 strR w A l) (hR' : SL 1 strR w A' l') (hm : Hid (l.length = m)) (hm' : Hid (l'.length = m')) (hl : m ≤ 140737488351232) (hl' : m' ≤ 140737488351232)
    (hr : Hid (b = true ↔ l = l')) : Calls Tryd.prog 37 #[.slice A m c, .slice A' m' c'] w fun e w' => e = .returned (.bool b) ∧ Below w.heap.size w w' := by
  have HR := Lib.hid hR
  have HR' := Lib.hid hR'
  clear hR hR'
  by_cases he : m = m'
  · subst he
    go_enter Tryd.func37, Tryd.ntmps37
    go_wp2_with fail
    go_loopw [5] (fun i wr => BRel w m (fun k => l.take k = l'.take k) i wr) (fun i _ => m - (intOf i).toNat)
    case atStart => exact ⟨0, Nat.zero_le _, rfl, rfl, Below.refl _ _⟩
    case round =>
      obtain ⟨k, hk, rfl, HK, hb⟩ := hrel
      by_cases hlt : k < m
      · obtain ⟨g, o, rfl, hg, hcs⟩ := (HR.out.below kp_str hb (Nat.le_refl _)) (by have := hm.out; omega)
        obtain ⟨g', o', rfl, hg', hcs'⟩ := (HR'.out.below kp_str hb (Nat.le_refl _)) (by have := hm'.out; omega)
        obtain ⟨x, hx⟩ : ∃ x, l[k]? = some x := ⟨_, List.getElem?_eq_getElem (by have := hm.out; omega)⟩
        obtain ⟨y, hy⟩ : ∃ y, l'[k]? = some y := ⟨_, List.getElem?_eq_getElem (by have := hm'.out; omega)⟩
        obtain ⟨cs, ⟨rfl, -⟩, h0⟩ := hcs k x hx
        obtain ⟨cs', ⟨rfl, -⟩, h0'⟩ := hcs' k y hy
        have c0 := h0 0 _ rfl
        have d0 := h0' 0 _ rfl
        have HX := Lib.hid hx
        have HY := Lib.hid hy
        have HB := Lib.hid hb
        clear hcs hcs' hx hy h0 h0' hb
        simp only [Nat.mul_one, Nat.add_zero] at c0 d0
        cases h1 : eqS x y with
        | false =>
          have s1 := eqS_spell h1
          obtain rfl : b = false := bool_no hr.out (ne_of HX.out HY.out (fun e => by rw [e, eqS_iff.2 rfl] at h1; cases h1))
          clear h1
          go_wp2_with fail
          go_quiet (fail)
          go_wp2_with fail
          go_ret
          exact ⟨rfl, below_drewN HB.out _⟩
        | true =>
          obtain rfl := eqS_iff.1 h1
          clear h1
          have HT := Lib.hid (take_up HK.out HX.out HY.out)
          go_wp2_with fail
          go_quiet (fail)
          go_wp2_with fail
          go_roundw
          case rel => exact ⟨k + 1, by omega, by go_num, HT, below_drewN HB.out _⟩
          case measure => simp [intOf]; omega
      · obtain rfl : b = true := hr.out.2 (all_eq hm.out hm'.out (by omega) HK.out)
        go_wp2_with fail
        go_ret
        exact ⟨rfl, hb⟩
  · have n1 : ((m : Int) != (m' : Int)) = true := by simp; omega
    have n2 : (m != m') = true := by simp; exact he
    obtain rfl : b = false := bool_no hr.out (fun h => he (by have h1 := hm.out; have h2 := hm'.out; rw [h] at h1; omega))
    clear he
    go_enter Tryd.func37, Tryd.ntmps37
    go_wp2_with fail
    go_ret
    exact ⟨rfl, Below.refl _ _⟩

/-- A text, as long as it may be. -/
def txtR : Rdr ByteArray := fun _ cs s => cs = [.string s]
theorem kp_txt : Kp txtR := ⟨fun h _ _ => h⟩
set_option maxHeartbeats 400000 in
theorem lawLines_any (A A' : Option Addr) (c c' m m' : Nat) (l l' : List ByteArray) (b : Bool) (w : World) (hR : SL 1 txtR w A l) (hR' : SL 1 txtR w A' l') (hm : Hid (l.length = m)) (hm' : Hid (l'.length = m')) (hl : m ≤ 140737488351232) (hl' : m' ≤ 140737488351232)
    (hr : Hid (b = true ↔ l = l')) : Calls Tryd.prog 10 #[.slice A m c, .slice A' m' c'] w fun e w' => e = .returned (.bool b) ∧ Below w.heap.size w w' := by
  have HR := Lib.hid hR
  have HR' := Lib.hid hR'
  clear hR hR'
  by_cases he : m = m'
  · subst he
    go_enter Tryd.func10, Tryd.ntmps10
    go_wp2_with fail
    go_loopw [5] (fun i wr => BRel w m (fun k => l.take k = l'.take k) i wr) (fun i _ => m - (intOf i).toNat)
    case atStart => exact ⟨0, Nat.zero_le _, rfl, rfl, Below.refl _ _⟩
    case round =>
      obtain ⟨k, hk, rfl, HK, hb⟩ := hrel
      by_cases hlt : k < m
      · obtain ⟨g, o, rfl, hg, hcs⟩ := (HR.out.below kp_txt hb (Nat.le_refl _)) (by have := hm.out; omega)
        obtain ⟨g', o', rfl, hg', hcs'⟩ := (HR'.out.below kp_txt hb (Nat.le_refl _)) (by have := hm'.out; omega)
        obtain ⟨x, hx⟩ : ∃ x, l[k]? = some x := ⟨_, List.getElem?_eq_getElem (by have := hm.out; omega)⟩
        obtain ⟨y, hy⟩ : ∃ y, l'[k]? = some y := ⟨_, List.getElem?_eq_getElem (by have := hm'.out; omega)⟩
        obtain ⟨cs, rfl, h0⟩ := hcs k x hx
        obtain ⟨cs', rfl, h0'⟩ := hcs' k y hy
        have c0 := h0 0 _ rfl
        have d0 := h0' 0 _ rfl
        have HX := Lib.hid hx
        have HY := Lib.hid hy
        have HB := Lib.hid hb
        clear hcs hcs' hx hy h0 h0' hb
        simp only [Nat.mul_one, Nat.add_zero] at c0 d0
        cases h1 : eqS x y with
        | false =>
          have s1 := eqS_spell h1
          obtain rfl : b = false := bool_no hr.out (ne_of HX.out HY.out (fun e => by rw [e, eqS_iff.2 rfl] at h1; cases h1))
          clear h1
          go_wp2_with fail
          go_quiet (fail)
          go_wp2_with fail
          go_ret
          exact ⟨rfl, below_drewN HB.out _⟩
        | true =>
          obtain rfl := eqS_iff.1 h1
          clear h1
          have HT := Lib.hid (take_up HK.out HX.out HY.out)
          go_wp2_with fail
          go_quiet (fail)
          go_wp2_with fail
          go_roundw
          case rel => exact ⟨k + 1, by omega, by go_num, HT, below_drewN HB.out _⟩
          case measure => simp [intOf]; omega
      · obtain rfl : b = true := hr.out.2 (all_eq hm.out hm'.out (by omega) HK.out)
        go_wp2_with fail
        go_ret
        exact ⟨rfl, hb⟩
  · have n1 : ((m : Int) != (m' : Int)) = true := by simp; omega
    have n2 : (m != m') = true := by simp; exact he
    obtain rfl : b = false := bool_no hr.out (fun h => he (by have h1 := hm.out; have h2 := hm'.out; rw [h] at h1; omega))
    clear he
    go_enter Tryd.func10, Tryd.ntmps10
    go_wp2_with fail
    go_ret
    exact ⟨rfl, Below.refl _ _⟩

end Go.Proofs.YtcbjcpmkebbfaaaDoor
