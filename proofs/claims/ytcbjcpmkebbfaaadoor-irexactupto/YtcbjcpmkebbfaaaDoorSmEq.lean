/-
  CONTRACTS: slices.Equal at rows of numbers, of texts, of fields. Of what was there nothing has turned.
-/
import Derived.Test.YtcbjcpmkebbfaaaDoorIrEq
import Derived.Laws.StructEq
namespace Go.Proofs.YtcbjcpmkebbfaaaDoor
open Go.RowKit

set_option maxHeartbeats 400000 in
theorem eqInt_any (A A' : Option Addr) (c c' m m' : Nat) (l l' : List Int) (b : Bool) (w : World) (hR : SL 1 intR w A l) (hR' : SL 1 intR w A' l') (hm : Hid (l.length = m)) (hm' : Hid (l'.length = m')) (hl : m ≤ 140737488351232) (hl' : m' ≤ 140737488351232)
    (hr : Hid (b = true ↔ l = l')) : Calls Tryd.prog 72 #[.slice A m c, .slice A' m' c'] w fun e w' => e = .returned (.bool b) ∧ Below w.heap.size w w' := by
  have HR := Lib.hid hR
  have HR' := Lib.hid hR'
  clear hR hR'
  by_cases he : m = m'
  · subst he
    go_enter Tryd.func72, Tryd.ntmps72
    go_wp2_with fail
    go_loopw [13] (fun i wr => BRel w m (fun k => l.take k = l'.take k) i wr) (fun i _ => m - (intOf i).toNat)
    case atStart => exact ⟨0, Nat.zero_le _, rfl, rfl, Below.refl _ _⟩
    case round =>
      obtain ⟨k, hk, rfl, HK, hb⟩ := hrel
      by_cases hlt : k < m
      · obtain ⟨g, o, rfl, hg, hcs⟩ := (HR.out.below kp_int hb (Nat.le_refl _)) (by have := hm.out; omega)
        obtain ⟨g', o', rfl, hg', hcs'⟩ := (HR'.out.below kp_int hb (Nat.le_refl _)) (by have := hm'.out; omega)
        obtain ⟨x, hx⟩ : ∃ x, l[k]? = some x := ⟨_, List.getElem?_eq_getElem (by have := hm.out; omega)⟩
        obtain ⟨y, hy⟩ : ∃ y, l'[k]? = some y := ⟨_, List.getElem?_eq_getElem (by have := hm'.out; omega)⟩
        obtain ⟨cs, ⟨rfl, -⟩, h0⟩ := hcs k x hx
        obtain ⟨cs', ⟨rfl, -⟩, h0'⟩ := hcs' k y hy
        have c0 := h0 0 _ rfl
        have d0 := h0' 0 _ rfl
        have HX := Lib.hid hx
        have HY := Lib.hid hy
        have HB := Lib.hid hb
        clear hcs hcs' hx hy h0 h0' hb
        simp only [Nat.mul_one, Nat.add_zero] at c0 d0
        cases h1 : (x == y) with
        | false =>
          have s1 : (x != y) = true := by simp only [bne, h1]; rfl
          obtain rfl : b = false := bool_no hr.out (ne_of HX.out HY.out (fun e => by rw [e, beq_self_eq_true] at h1; cases h1))
          skip
          go_wp2_with fail
          go_quiet (fail)
          go_wp2_with fail
          go_ret
          exact ⟨rfl, below_drewN HB.out _⟩
        | true =>
          obtain rfl := eq_of_beq h1
          clear h1
          have HT := Lib.hid (take_up HK.out HX.out HY.out)
          go_wp2_with fail
          go_quiet (fail)
          go_wp2_with fail
          go_roundw
          case rel => exact ⟨k + 1, by omega, by go_num, HT, below_drewN HB.out _⟩
          case measure => simp [intOf]; omega
      · obtain rfl : b = true := hr.out.2 (all_eq hm.out hm'.out (by omega) HK.out)
        go_wp2_with fail
        go_ret
        exact ⟨rfl, hb⟩
  · have n1 : ((m : Int) != (m' : Int)) = true := by simp; omega
    have n2 : (m != m') = true := by simp; exact he
    obtain rfl : b = false := bool_no hr.out (fun h => he (by have h1 := hm.out; have h2 := hm'.out; rw [h] at h1; omega))
    clear he
    go_enter Tryd.func72, Tryd.ntmps72
    go_wp2_with fail
    go_ret
    exact ⟨rfl, Below.refl _ _⟩

set_option maxHeartbeats 400000 in
theorem eqStr_any (A A' : Option Addr) (c c' m m' : Nat) (l l' : List ByteArray) (b : Bool) (w : World) (hR : SL 1 strR w A l) (hR' : SL 1 strR w A' l') (hm : Hid (l.length = m)) (hm' : Hid (l'.length = m')) (hl : m ≤ 140737488351232) (hl' : m' ≤ 140737488351232)
    (hr : Hid (b = true ↔ l = l')) : Calls Tryd.prog 55 #[.slice A m c, .slice A' m' c'] w fun e w' => e = .returned (.bool b) ∧ Below w.heap.size w w' := by
  have HR := Lib.hid hR
  have HR' := Lib.hid hR'
  clear hR hR'
  by_cases he : m = m'
  · subst he
    go_enter Tryd.func55, Tryd.ntmps55
    go_wp2_with fail
    go_loopw [13] (fun i wr => BRel w m (fun k => l.take k = l'.take k) i wr) (fun i _ => m - (intOf i).toNat)
    case atStart => exact ⟨0, Nat.zero_le _, rfl, rfl, Below.refl _ _⟩
    case round =>
      obtain ⟨k, hk, rfl, HK, hb⟩ := hrel
      by_cases hlt : k < m
      · obtain ⟨g, o, rfl, hg, hcs⟩ := (HR.out.below kp_str hb (Nat.le_refl _)) (by have := hm.out; omega)
        obtain ⟨g', o', rfl, hg', hcs'⟩ := (HR'.out.below kp_str hb (Nat.le_refl _)) (by have := hm'.out; omega)
        obtain ⟨x, hx⟩ : ∃ x, l[k]? = some x := ⟨_, List.getElem?_eq_getElem (by have := hm.out; omega)⟩
        obtain ⟨y, hy⟩ : ∃ y, l'[k]? = some y := ⟨_, List.getElem?_eq_getElem (by have := hm'.out; omega)⟩
        obtain ⟨cs, ⟨rfl, -⟩, h0⟩ := hcs k x hx
        obtain ⟨cs', ⟨rfl, -⟩, h0'⟩ := hcs' k y hy
        have c0 := h0 0 _ rfl
        have d0 := h0' 0 _ rfl
        have HX := Lib.hid hx
        have HY := Lib.hid hy
        have HB := Lib.hid hb
        clear hcs hcs' hx hy h0 h0' hb
        simp only [Nat.mul_one, Nat.add_zero] at c0 d0
        cases h1 : eqS x y with
        | false =>
          have s1 := eqS_spell h1
          obtain rfl : b = false := bool_no hr.out (ne_of HX.out HY.out (fun e => by rw [e, eqS_iff.2 rfl] at h1; cases h1))
          clear h1
          go_wp2_with fail
          go_quiet (fail)
          go_wp2_with fail
          go_ret
          exact ⟨rfl, below_drewN HB.out _⟩
        | true =>
          obtain rfl := eqS_iff.1 h1
          clear h1
          have HT := Lib.hid (take_up HK.out HX.out HY.out)
          go_wp2_with fail
          go_quiet (fail)
          go_wp2_with fail
          go_roundw
          case rel => exact ⟨k + 1, by omega, by go_num, HT, below_drewN HB.out _⟩
          case measure => simp [intOf]; omega
      · obtain rfl : b = true := hr.out.2 (all_eq hm.out hm'.out (by omega) HK.out)
        go_wp2_with fail
        go_ret
        exact ⟨rfl, hb⟩
  · have n1 : ((m : Int) != (m' : Int)) = true := by simp; omega
    have n2 : (m != m') = true := by simp; exact he
    obtain rfl : b = false := bool_no hr.out (fun h => he (by have h1 := hm.out; have h2 := hm'.out; rw [h] at h1; omega))
    clear he
    go_enter Tryd.func55, Tryd.ntmps55
    go_wp2_with fail
    go_ret
    exact ⟨rfl, Below.refl _ _⟩

set_option maxHeartbeats 400000 in
theorem eqFd_any (A A' : Option Addr) (c c' m m' : Nat) (l l' : List Fd) (b : Bool) (w : World) (hR : SL 2 fdR w A l) (hR' : SL 2 fdR w A' l') (hm : Hid (l.length = m)) (hm' : Hid (l'.length = m')) (hl : m ≤ 140737488351232) (hl' : m' ≤ 140737488351232)
    (hr : Hid (b = true ↔ l = l')) : Calls Tryd.prog 34 #[.slice A m c, .slice A' m' c'] w fun e w' => e = .returned (.bool b) ∧ Below w.heap.size w w' := by
  have HR := Lib.hid hR
  have HR' := Lib.hid hR'
  clear hR hR'
  by_cases he : m = m'
  · subst he
    go_enter Tryd.func34, Tryd.ntmps34
    go_wp2_with fail
    go_loopw [13] (fun i wr => BRel w m (fun k => l.take k = l'.take k) i wr) (fun i _ => m - (intOf i).toNat)
    case atStart => exact ⟨0, Nat.zero_le _, rfl, rfl, Below.refl _ _⟩
    case round =>
      obtain ⟨k, hk, rfl, HK, hb⟩ := hrel
      by_cases hlt : k < m
      · obtain ⟨g, o, rfl, hg, hcs⟩ := (HR.out.below kp_fd hb (Nat.le_refl _)) (by have := hm.out; omega)
        obtain ⟨g', o', rfl, hg', hcs'⟩ := (HR'.out.below kp_fd hb (Nat.le_refl _)) (by have := hm'.out; omega)
        obtain ⟨x, hx⟩ : ∃ x, l[k]? = some x := ⟨_, List.getElem?_eq_getElem (by have := hm.out; omega)⟩
        obtain ⟨y, hy⟩ : ∃ y, l'[k]? = some y := ⟨_, List.getElem?_eq_getElem (by have := hm'.out; omega)⟩
        obtain ⟨cs, ⟨rfl, -⟩, h0⟩ := hcs k x hx
        obtain ⟨cs', ⟨rfl, -⟩, h0'⟩ := hcs' k y hy
        have c0 := h0 0 _ rfl
        have d0 := h0' 0 _ rfl
        have c1 := h0 1 _ rfl
        have d1 := h0' 1 _ rfl
        have HX := Lib.hid hx
        have HY := Lib.hid hy
        have HB := Lib.hid hb
        clear hcs hcs' hx hy h0 h0' hb
        simp only [Nat.add_zero] at c0 d0
        obtain ⟨xn, xt⟩ := x
        obtain ⟨yn, yt⟩ := y
        simp only at c0 d0 c1 d1
        cases h1 : eqS xn yn with
        | false =>
          have s1 := eqS_spell h1
          obtain rfl : b = false := bool_no hr.out (ne_of HX.out HY.out (fun e => by have e := congrArg Fd.name e; simp only at e; rw [e, eqS_iff.2 rfl] at h1; cases h1))
          clear h1
          go_wp2_with fail
          go_quiet (fail)
          go_wp2_with fail
          go_ret
          exact ⟨rfl, below_drewN HB.out _⟩
        | true =>
          obtain rfl := eqS_iff.1 h1
          clear h1
          cases h2 : eqS xt yt with
          | false =>
            have s1 := eqS_spell h2
            obtain rfl : b = false := bool_no hr.out (ne_of HX.out HY.out (fun e => by have e := congrArg Fd.typ e; simp only at e; rw [e, eqS_iff.2 rfl] at h2; cases h2))
            clear h2
            go_wp2_with fail
            go_quiet (fail)
            go_wp2_with fail
            go_ret
            exact ⟨rfl, below_drewN HB.out _⟩
          | true =>
          obtain rfl := eqS_iff.1 h2
          clear h2
          have HT := Lib.hid (take_up HK.out HX.out HY.out)
          go_wp2_with fail
          go_quiet (fail)
          go_wp2_with fail
          go_roundw
          case rel => exact ⟨k + 1, by omega, by go_num, HT, below_drewN HB.out _⟩
          case measure => simp [intOf]; omega
      · obtain rfl : b = true := hr.out.2 (all_eq hm.out hm'.out (by omega) HK.out)
        go_wp2_with fail
        go_ret
        exact ⟨rfl, hb⟩
  · have n1 : ((m : Int) != (m' : Int)) = true := by simp; omega
    have n2 : (m != m') = true := by simp; exact he
    obtain rfl : b = false := bool_no hr.out (fun h => he (by have h1 := hm.out; have h2 := hm'.out; rw [h] at h1; omega))
    clear he
    go_enter Tryd.func34, Tryd.ntmps34
    go_wp2_with fail
    go_ret
    exact ⟨rfl, Below.refl _ _⟩

end Go.Proofs.YtcbjcpmkebbfaaaDoor
