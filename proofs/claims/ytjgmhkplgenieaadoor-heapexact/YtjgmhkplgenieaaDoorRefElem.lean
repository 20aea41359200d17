/-
  CONTRACTS: the reference's Elem, Is. Of what was there nothing has turned.
-/
import Derived.Test.YtjgmhkplgenieaaDoorElem
namespace Go.Proofs.YtjgmhkplgenieaaDoor
open Go.RowKit

theorem refWord_to (s : ByteArray) (b : Bool) (w : World) (h : Hid (wordB s.data.toList = b)) : Calls Tryd.prog 25 #[.string s] w fun e w' => e = .returned (.bool b) ∧ Below w.heap.size w w' := by rw [← h.out]; exact refWord_any s w
theorem tail_len (t : ByteArray) : (tailOf t).data.toList.length = t.size - 1 := by
  unfold tailOf; rw [ByteArray.data_extract, Array.toList_extract, List.extract_eq_take_drop, List.length_take, List.length_drop, len_size]; omega
theorem word_nil {l : List UInt8} (h : l.length = 0) : wordB l = false := by
  rw [List.length_eq_zero_iff.1 h]; decide
theorem elem_short {t : ByteArray} (h : t.size < 2) : elemO t = none := by
  unfold elemO; rw [word_nil (by rw [tail_len]; omega)]; simp
theorem elem_nostar {t : ByteArray} (h : starB t = false) : elemO t = none := by unfold elemO; rw [h]; rfl
theorem elem_noword {t : ByteArray} (h : wordB (tailOf t).data.toList = false) : elemO t = none := by unfold elemO; rw [h]; simp
theorem elem_yes {t : ByteArray} (h : starB t = true) (h2 : wordB (tailOf t).data.toList = true) : elemO t = some (tailOf t) := by unfold elemO; rw [h, h2]; rfl
def elemT : Option ByteArray → ByteArray
  | some n => n
  | none => ⟨#[]⟩

set_option maxHeartbeats 400000 in
theorem refElem_any (t : ByteArray) (r : Option ByteArray) (w : World) (hr : Hid (elemO t = r)) :
    Calls Tryd.prog 38 #[.string t] w fun e w' => e = .returned (.string (elemT r)) ∧ Below w.heap.size w w' := by
  by_cases h0 : t.size < 2
  · have h0' : (t.size : Int) < 2 := by omega
    obtain rfl : r = none := hr.out.symm.trans (elem_short h0)
    go_enter Tryd.func38, Tryd.ntmps38
    go_wp2_with fail
    go_ret
    exact ⟨rfl, Below.refl _ _⟩
  · have h0' : ¬ (t.size : Int) < 2 := by omega
    have hp : 0 < t.size := by omega
    have hp1 : 1 ≤ t.size := by omega
    have hh := star_head t hp
    cases h1 : starB t with
    | false =>
      obtain rfl : r = none := hr.out.symm.trans (elem_nostar h1)
      have hne : ((t[0].toNat : Int) != 42) = true := by
        rw [h1] at hh
        have := of_decide_eq_false hh.symm
        simp; omega
      clear hh h1 hr
      go_enter Tryd.func38, Tryd.ntmps38
      go_wp2_with fail
      go_ret
      exact ⟨rfl, Below.refl _ _⟩
    | true =>
      have heq : ((t[0].toNat : Int) != 42) = false := by
        rw [h1] at hh
        have := of_decide_eq_true hh.symm
        simp; omega
      cases h2 : wordB (tailOf t).data.toList with
      | false =>
        obtain rfl : r = none := hr.out.symm.trans (elem_noword h2)
        have H2 : Hid (wordB (t.extract 1 t.size).data.toList = false) := h2
        clear hh h1 hr h2
        go_enter Tryd.func38, Tryd.ntmps38
        go_wp2_with (go_at_call 25; refine (refWord_to _ false _ H2).mono ?_; rintro e w1 ⟨rfl, b1⟩)
        go_ret
        exact ⟨rfl, b1⟩
      | true =>
        obtain rfl : r = some (tailOf t) := hr.out.symm.trans (elem_yes h1 h2)
        have H2 : Hid (wordB (t.extract 1 t.size).data.toList = true) := h2
        clear hh h1 hr h2
        go_enter Tryd.func38, Tryd.ntmps38
        go_wp2_with (go_at_call 25; refine (refWord_to _ true _ H2).mono ?_; rintro e w1 ⟨rfl, b1⟩)
        go_ret
        exact ⟨rfl, b1⟩

set_option maxHeartbeats 400000 in
theorem refIs_any (A : Option Addr) (c m : Nat) (ss : List Str) (t : ByteArray) (b : Bool) (w : World) (hR : Hid (SR w A ss)) (hm : Hid (ss.length = m)) (hl : m ≤ 281474976710656) (hr : Hid (isT ss t = b)) :
    Calls Tryd.prog 27 #[.slice A m c, .string t] w fun e w' => e = .returned (.bool b) ∧ w = w' := by
  cases h1 : eqB t tInt with
  | true =>
    obtain rfl : b = true := hr.out.symm.trans (by unfold isT; rw [h1]; rfl)
    have s1 : (t.toList == [105, 110, 116]) = true := by rw [ByteArray.toList_eq]; exact h1
    clear h1 hr
    go_enter Tryd.func27, Tryd.ntmps27
    go_wp2_with fail
    go_ret
    exact ⟨rfl, rfl⟩
  | false =>
    have s1 : (t.toList == [105, 110, 116]) = false := by rw [ByteArray.toList_eq]; exact h1
    cases h2 : eqB t tBool with
    | true =>
      obtain rfl : b = true := hr.out.symm.trans (by unfold isT; rw [h2]; simp)
      have s2 : (t.toList == [98, 111, 111, 108]) = true := by rw [ByteArray.toList_eq]; exact h2
      clear h1 hr h2
      go_enter Tryd.func27, Tryd.ntmps27
      go_wp2_with fail
      go_ret
      exact ⟨rfl, rfl⟩
    | false =>
      have s2 : (t.toList == [98, 111, 111, 108]) = false := by rw [ByteArray.toList_eq]; exact h2
      by_cases h0 : t.size = 0
      · have := size_zero h0
        subst this
        obtain rfl : b = false := hr.out.symm.trans (by unfold isT; rw [h1, h2, star_nil]; rfl)
        clear h1 hr h2 h0 s1 s2
        go_enter Tryd.func27, Tryd.ntmps27
        go_wp2_with fail
        go_ret
        exact ⟨rfl, rfl⟩
      · have hp : 0 < t.size := by omega
        have hp1 : 1 ≤ t.size := by omega
        have hpi : (0 : Int) < (t.size : Int) := by omega
        have hh := star_head t hp
        cases h3 : starB t with
        | false =>
          obtain rfl : b = false := hr.out.symm.trans (by unfold isT; rw [h1, h2, h3]; rfl)
          have hne : ((t[0].toNat : Int) == 42) = false := by
            rw [h3] at hh
            have := of_decide_eq_false hh.symm
            simp; omega
          clear h1 hr h2 h3 hh
          go_enter Tryd.func27, Tryd.ntmps27
          go_wp2_with fail
          go_ret
          exact ⟨rfl, rfl⟩
        | true =>
          have heq : ((t[0].toNat : Int) == 42) = true := by
            rw [h3] at hh
            have := of_decide_eq_true hh.symm
            simp; omega
          have hb : b = (fnd ss (tailOf t)).isSome := hr.out.symm.trans (by unfold isT; rw [h1, h2, h3]; rfl)
          cases h4 : fnd ss (tailOf t) with
          | none =>
            obtain rfl : b = false := by rw [hb, h4]; rfl
            have H4 : Hid (fnd ss (t.extract 1 t.size) = none) := h4
            clear h1 hr h2 h3 hb h4 hh
            go_enter Tryd.func27, Tryd.ntmps27
            go_wp2_with (go_at_call 26; refine (refFind_any _ _ m ss _ none _ hR.out hm hl H4).mono ?_; rintro e w' ⟨rfl, rfl⟩; unfold foundI)
            go_ret
            exact ⟨rfl, rfl⟩
          | some i =>
            obtain rfl : b = true := by rw [hb, h4]; rfl
            have H4 : Hid (fnd ss (t.extract 1 t.size) = some i) := h4
            clear h1 hr h2 h3 hb h4 hh
            go_enter Tryd.func27, Tryd.ntmps27
            go_wp2_with (go_at_call 26; refine (refFind_any _ _ m ss _ (some i) _ hR.out hm hl H4).mono ?_; rintro e w' ⟨rfl, rfl⟩; unfold foundI)
            go_ret
            exact ⟨rfl, rfl⟩

end Go.Proofs.YtjgmhkplgenieaaDoor
