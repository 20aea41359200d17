/-
  CONTRACTS: strings.CutPrefix at *, and Pointer, Elem, Is, target of package kind; the reference's Elem, Is. Of what was there nothing has turned.
-/
import Derived.Test.YtjgmhkplgenieaaDoorFind
import Derived.Test.YtjgmhkplgenieaaDoorRefLex
namespace Go.Proofs.YtjgmhkplgenieaaDoor
open Go.RowKit

def starT : ByteArray := ⟨#[42]⟩
theorem star_nil : starB ⟨#[]⟩ = false := by decide
theorem star_head (s : ByteArray) (h : 0 < s.size) : starB s = decide (s[0].toNat = 42) := by
  obtain ⟨r, hr⟩ := head_at s h
  unfold starB
  rw [hr]
  unfold Lib.hasPrefix
  simp only [List.isPrefixOf, Bool.and_true]
  rw [Bool.eq_iff_iff, beq_iff_eq, decide_eq_true_eq]
  constructor
  · intro e; rw [← e]; rfl
  · intro e; exact (UInt8.toNat_inj.1 (by rw [e]; rfl)).symm
theorem head_extract (s : ByteArray) (h : 0 < s.size) : (s.extract 0 1).data.toList = [s[0]] := by
  obtain ⟨r, hr⟩ := head_at s h
  rw [ByteArray.data_extract, Array.toList_extract, List.extract_eq_take_drop, hr]; rfl

set_option maxHeartbeats 400000 in
theorem hasStar_any (s : ByteArray) (b : Bool) (w : World) (hb : Hid (starB s = b)) :
    Calls Tryd.prog 76 #[.string s, .string ⟨#[42]⟩] w fun e w' => e = .returned (.bool b) ∧ w = w' := by
  by_cases h0 : s.size = 0
  · have := size_zero h0
    subst this
    obtain rfl : b = false := hb.out.symm.trans star_nil
    clear hb h0
    go_enter Tryd.func76, Tryd.ntmps76
    go_wp2_with fail
    go_ret
    exact ⟨rfl, rfl⟩
  · have hp : 0 < s.size := by omega
    have h1 : (1 : Int) ≤ (s.size : Int) := by omega
    have h1' : 1 ≤ s.size := by omega
    have h2 : ((s.extract 0 1).toList == [42]) = b := by
      rw [ByteArray.toList_eq, head_extract s hp, ← hb.out, star_head s hp, Bool.eq_iff_iff, beq_iff_eq, decide_eq_true_eq]
      constructor
      · intro e; injection e with e; rw [e]; rfl
      · intro e; rw [UInt8.toNat_inj.1 (show s[0].toNat = (42 : UInt8).toNat from e)]
    clear hb h0 hp
    go_enter Tryd.func76, Tryd.ntmps76
    go_wp2_with fail
    go_ret
    exact ⟨rfl, rfl⟩

theorem star_size {s : ByteArray} (h : starB s = true) : 0 < s.size := by
  rcases Nat.eq_zero_or_pos s.size with h0 | h0
  · rw [size_zero h0, star_nil] at h; cases h
  · exact h0
theorem cutL_yes (s : ByteArray) (w : World) (hb : Hid (starB s = true)) :
    Calls Tryd.prog 74 #[.string s, .string ⟨#[42]⟩] w fun e w' => e = .returned (.tuple #[.string (tailOf s), .bool true]) ∧ w = w' := by
  have h1 := star_size hb.out
  have h2 : (1 : Int) ≤ (s.size : Int) := by omega
  go_enter Tryd.func74, Tryd.ntmps74
  go_wp2_with (go_at_call 76; refine (hasStar_any _ true _ hb).mono ?_; rintro e w' ⟨rfl, rfl⟩)
  go_ret2
  exact ⟨rfl, rfl⟩
theorem cutL_no (s : ByteArray) (w : World) (hb : Hid (starB s = false)) :
    Calls Tryd.prog 74 #[.string s, .string ⟨#[42]⟩] w fun e w' => e = .returned (.tuple #[.string s, .bool false]) ∧ w = w' := by
  go_enter Tryd.func74, Tryd.ntmps74
  go_wp2_with (go_at_call 76; refine (hasStar_any _ false _ hb).mono ?_; rintro e w' ⟨rfl, rfl⟩)
  go_ret2
  exact ⟨rfl, rfl⟩
theorem cut_yes (s : ByteArray) (w : World) (hb : Hid (starB s = true)) :
    Calls Tryd.prog 66 #[.string s, .string ⟨#[42]⟩] w fun e w' => e = .returned (.tuple #[.string (tailOf s), .bool true]) ∧ w = w' := by
  go_enter Tryd.func66, Tryd.ntmps66
  go_wp2_with (go_at_call 74; refine (cutL_yes _ _ hb).mono ?_; rintro e w' ⟨rfl, rfl⟩)
  go_ret2
  exact ⟨rfl, rfl⟩
theorem cut_no (s : ByteArray) (w : World) (hb : Hid (starB s = false)) :
    Calls Tryd.prog 66 #[.string s, .string ⟨#[42]⟩] w fun e w' => e = .returned (.tuple #[.string s, .bool false]) ∧ w = w' := by
  go_enter Tryd.func66, Tryd.ntmps66
  go_wp2_with (go_at_call 74; refine (cutL_no _ _ hb).mono ?_; rintro e w' ⟨rfl, rfl⟩)
  go_ret2
  exact ⟨rfl, rfl⟩

theorem isWord_to (s : ByteArray) (b : Bool) (w : World) (hK : Hid (KeysIn w)) (h : Hid (wordB s.data.toList = b)) : Calls Tryd.prog 46 #[.string s] w fun e w' => e = .returned (.bool b) ∧ w = w' := by
  by_cases hs : s.size ≤ 281474976710656
  · rw [← h.out]; exact isWord_any s w hs hK.out
  · have h0 : s.toList.isEmpty = false := size_pos_isEmpty (by omega)
    have hi : (12 : Int) < (s.size : Int) := by omega
    obtain rfl : b = false := h.out.symm.trans (by unfold wordB; rw [len_size, decide_eq_false (by omega)]; rfl)
    go_enter Tryd.func46, Tryd.ntmps46
    go_wp2_with fail
    go_ret
    exact ⟨rfl, rfl⟩

def elemV : Option ByteArray → Value
  | some n => .tuple #[.string n, .bool true]
  | none => .tuple #[.string ⟨#[]⟩, .bool false]

set_option maxHeartbeats 400000 in
theorem elem_any (t : ByteArray) (r : Option ByteArray) (w : World) (hK : Hid (KeysIn w)) (hr : Hid (elemO t = r)) :
    Calls Tryd.prog 49 #[.string t] w fun e w' => e = .returned (elemV r) ∧ w = w' := by
  cases h1 : starB t with
  | false =>
    obtain rfl : r = none := hr.out.symm.trans (by unfold elemO; rw [h1]; rfl)
    have H1 := Lib.hid h1
    clear h1 hr
    go_enter Tryd.func49, Tryd.ntmps49
    go_wp2_with (go_at_call 66; refine (cut_no _ _ H1).mono ?_; rintro e w' ⟨rfl, rfl⟩)
    go_ret2
    exact ⟨rfl, rfl⟩
  | true =>
    have H1 := Lib.hid h1
    cases h2 : wordB (tailOf t).data.toList with
    | false =>
      obtain rfl : r = none := hr.out.symm.trans (by unfold elemO; rw [h1, h2]; rfl)
      have H2 := Lib.hid h2
      clear h1 hr h2
      go_enter Tryd.func49, Tryd.ntmps49
      go_wp2_with (first | (go_at_call 66; refine (cut_yes _ _ H1).mono ?_; rintro e w' ⟨rfl, rfl⟩) | (go_at_call 46; refine (isWord_to _ false _ hK H2).mono ?_; rintro e w' ⟨rfl, rfl⟩))
      go_ret2
      exact ⟨rfl, rfl⟩
    | true =>
      obtain rfl : r = some (tailOf t) := hr.out.symm.trans (by unfold elemO; rw [h1, h2]; rfl)
      have H2 := Lib.hid h2
      clear h1 hr h2
      go_enter Tryd.func49, Tryd.ntmps49
      go_wp2_with (first | (go_at_call 66; refine (cut_yes _ _ H1).mono ?_; rintro e w' ⟨rfl, rfl⟩) | (go_at_call 46; refine (isWord_to _ true _ hK H2).mono ?_; rintro e w' ⟨rfl, rfl⟩))
      go_ret2
      exact ⟨rfl, rfl⟩

set_option maxHeartbeats 400000 in
theorem is_any (A : Option Addr) (c m : Nat) (ss : List Str) (t : ByteArray) (b : Bool) (w : World) (hR : Hid (SR w A ss)) (hm : Hid (ss.length = m)) (hl : m ≤ 281474976710656) (hr : Hid (isT ss t = b)) :
    Calls Tryd.prog 65 #[.slice A m c, .string t] w fun e w' => e = .returned (.bool b) ∧ Below w.heap.size w w' := by
  cases h1 : eqB t tInt with
  | true =>
    obtain rfl : b = true := hr.out.symm.trans (by unfold isT; rw [h1]; rfl)
    have s1 : (t.toList == [105, 110, 116]) = true := by rw [ByteArray.toList_eq]; exact h1
    clear h1 hr
    go_enter Tryd.func65, Tryd.ntmps65
    go_wp2_with fail
    go_ret
    exact ⟨rfl, Below.refl _ _⟩
  | false =>
    have s1 : (t.toList == [105, 110, 116]) = false := by rw [ByteArray.toList_eq]; exact h1
    cases h2 : eqB t tBool with
    | true =>
      obtain rfl : b = true := hr.out.symm.trans (by unfold isT; rw [h2]; simp)
      have s2 : (t.toList == [98, 111, 111, 108]) = true := by rw [ByteArray.toList_eq]; exact h2
      clear h1 hr h2
      go_enter Tryd.func65, Tryd.ntmps65
      go_wp2_with fail
      go_ret
      exact ⟨rfl, Below.refl _ _⟩
    | false =>
      have s2 : (t.toList == [98, 111, 111, 108]) = false := by rw [ByteArray.toList_eq]; exact h2
      cases h3 : starB t with
      | false =>
        obtain rfl : b = false := hr.out.symm.trans (by unfold isT; rw [h1, h2, h3]; rfl)
        have H3 := Lib.hid h3
        clear h1 hr h2 h3
        go_enter Tryd.func65, Tryd.ntmps65
        go_wp2_with (go_at_call 66; refine (cut_no _ _ H3).mono ?_; rintro e w' ⟨rfl, rfl⟩)
        go_ret
        exact ⟨rfl, Below.refl _ _⟩
      | true =>
        have H3 := Lib.hid h3
        have hb : b = (fnd ss (tailOf t)).isSome := hr.out.symm.trans (by unfold isT; rw [h1, h2, h3]; rfl)
        cases h4 : fnd ss (tailOf t) with
        | none =>
          obtain rfl : b = false := by rw [hb, h4]; rfl
          have H4 := Lib.hid h4
          clear h1 hr h2 h3 hb h4
          go_enter Tryd.func65, Tryd.ntmps65
          go_wp2_with (first | (go_at_call 66; refine (cut_yes _ _ H3).mono ?_; rintro e w' ⟨rfl, rfl⟩) | (go_at_call 47; refine (find_any _ _ m ss _ none _ hR.out hm hl H4).mono ?_; rintro e w1 ⟨rfl, b1⟩; unfold foundV))
          go_ret
          exact ⟨rfl, b1⟩
        | some i =>
          obtain rfl : b = true := by rw [hb, h4]; rfl
          have H4 := Lib.hid h4
          clear h1 hr h2 h3 hb h4
          go_enter Tryd.func65, Tryd.ntmps65
          go_wp2_with (first | (go_at_call 66; refine (cut_yes _ _ H3).mono ?_; rintro e w' ⟨rfl, rfl⟩) | (go_at_call 47; refine (find_any _ _ m ss _ (some i) _ hR.out hm hl H4).mono ?_; rintro e w1 ⟨rfl, b1⟩; unfold foundV))
          go_ret
          exact ⟨rfl, b1⟩

end Go.Proofs.YtjgmhkplgenieaaDoor
