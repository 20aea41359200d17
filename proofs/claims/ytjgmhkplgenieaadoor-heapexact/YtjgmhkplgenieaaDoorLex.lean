/-
  CONTRACTS: isLetter, isDigit, wordEnd, IsKey, IsWord of package lex, where the table of keys lies as the program's text lays it. The world is as it was.
-/
import Derived.Test.YtjgmhkplgenieaaDoorProg
import Derived.Test.YtjgmhkplgenieaaDoorPlain
import Derived.WalkKit
import Derived.WalkSpells
import Derived.WalkLawsBesides
import Derived.Lib.Hide
import Derived.Laws.Rows
namespace Go.Proofs.YtjgmhkplgenieaaDoor
open Go.RowKit

theorem ret_bool {a b : Bool} (h : a = b) : Ending.returned (.bool a) = .returned (.bool b) := by rw [h]
theorem ret_int {k : IntKind} {a b : Int} (h : a = b) : Ending.returned (.int k a) = .returned (.int k b) := by rw [h]
theorem ret_str {a b : ByteArray} (h : a = b) : Ending.returned (.string a) = .returned (.string b) := by rw [h]
set_option maxHeartbeats 400000 in
theorem isLetter_any (c : UInt8) (w : World) : Calls Tryd.prog 61 #[.int .u8 c.toNat] w fun e w' => e = .returned (.bool (letB c)) ∧ w = w' := by
  obtain ⟨b, hb⟩ : ∃ b, b = letB c := ⟨_, rfl⟩
  rw [← hb]
  have HB := Lib.hid hb
  clear hb
  by_cases h1 : 97 ≤ c.toNat
  · have ih1 : (97 : Int) ≤ (c.toNat : Int) := by first | omega | (simp; omega)
    by_cases h2 : c.toNat ≤ 122
    · have ih2 : (c.toNat : Int) ≤ 122 := by first | omega | (simp; omega)
      go_enter Tryd.func61, Tryd.ntmps61
      go_wp2
      go_ret
      exact ⟨ret_bool (by rw [HB.out]; unfold letB; simp; omega), rfl⟩
    · have ih2 : ¬ (c.toNat : Int) ≤ 122 := by first | omega | (simp; omega)
      by_cases h3 : 65 ≤ c.toNat
      · have ih3 : (65 : Int) ≤ (c.toNat : Int) := by first | omega | (simp; omega)
        by_cases h4 : c.toNat ≤ 90
        · have ih4 : (c.toNat : Int) ≤ 90 := by first | omega | (simp; omega)
          go_enter Tryd.func61, Tryd.ntmps61
          go_wp2
          go_ret
          exact ⟨ret_bool (by rw [HB.out]; unfold letB; simp; omega), rfl⟩
        · have ih4 : ¬ (c.toNat : Int) ≤ 90 := by first | omega | (simp; omega)
          by_cases h5 : c.toNat = 95
          · have ih5 : ((c.toNat : Int) == 95) = true := by first | omega | (simp; omega)
            go_enter Tryd.func61, Tryd.ntmps61
            go_wp2
            go_ret
            exact ⟨ret_bool (by rw [HB.out]; unfold letB; simp; omega), rfl⟩
          · have ih5 : ((c.toNat : Int) == 95) = false := by first | omega | (simp; omega)
            go_enter Tryd.func61, Tryd.ntmps61
            go_wp2
            go_ret
            exact ⟨ret_bool (by rw [HB.out]; unfold letB; simp; omega), rfl⟩
      · have ih3 : ¬ (65 : Int) ≤ (c.toNat : Int) := by first | omega | (simp; omega)
        by_cases h5 : c.toNat = 95
        · have ih5 : ((c.toNat : Int) == 95) = true := by first | omega | (simp; omega)
          go_enter Tryd.func61, Tryd.ntmps61
          go_wp2
          go_ret
          exact ⟨ret_bool (by rw [HB.out]; unfold letB; simp; omega), rfl⟩
        · have ih5 : ((c.toNat : Int) == 95) = false := by first | omega | (simp; omega)
          go_enter Tryd.func61, Tryd.ntmps61
          go_wp2
          go_ret
          exact ⟨ret_bool (by rw [HB.out]; unfold letB; simp; omega), rfl⟩
  · have ih1 : ¬ (97 : Int) ≤ (c.toNat : Int) := by first | omega | (simp; omega)
    by_cases h3 : 65 ≤ c.toNat
    · have ih3 : (65 : Int) ≤ (c.toNat : Int) := by first | omega | (simp; omega)
      by_cases h4 : c.toNat ≤ 90
      · have ih4 : (c.toNat : Int) ≤ 90 := by first | omega | (simp; omega)
        go_enter Tryd.func61, Tryd.ntmps61
        go_wp2
        go_ret
        exact ⟨ret_bool (by rw [HB.out]; unfold letB; simp; omega), rfl⟩
      · have ih4 : ¬ (c.toNat : Int) ≤ 90 := by first | omega | (simp; omega)
        by_cases h5 : c.toNat = 95
        · have ih5 : ((c.toNat : Int) == 95) = true := by first | omega | (simp; omega)
          go_enter Tryd.func61, Tryd.ntmps61
          go_wp2
          go_ret
          exact ⟨ret_bool (by rw [HB.out]; unfold letB; simp; omega), rfl⟩
        · have ih5 : ((c.toNat : Int) == 95) = false := by first | omega | (simp; omega)
          go_enter Tryd.func61, Tryd.ntmps61
          go_wp2
          go_ret
          exact ⟨ret_bool (by rw [HB.out]; unfold letB; simp; omega), rfl⟩
    · have ih3 : ¬ (65 : Int) ≤ (c.toNat : Int) := by first | omega | (simp; omega)
      by_cases h5 : c.toNat = 95
      · have ih5 : ((c.toNat : Int) == 95) = true := by first | omega | (simp; omega)
        go_enter Tryd.func61, Tryd.ntmps61
        go_wp2
        go_ret
        exact ⟨ret_bool (by rw [HB.out]; unfold letB; simp; omega), rfl⟩
      · have ih5 : ((c.toNat : Int) == 95) = false := by first | omega | (simp; omega)
        go_enter Tryd.func61, Tryd.ntmps61
        go_wp2
        go_ret
        exact ⟨ret_bool (by rw [HB.out]; unfold letB; simp; omega), rfl⟩
set_option maxHeartbeats 400000 in
theorem letter_any (c : UInt8) (w : World) : Calls Tryd.prog 41 #[.int .u8 c.toNat] w fun e w' => e = .returned (.bool (letB c)) ∧ w = w' := by
  obtain ⟨b, hb⟩ : ∃ b, b = letB c := ⟨_, rfl⟩
  rw [← hb]
  have HB := Lib.hid hb
  clear hb
  by_cases h1 : 97 ≤ c.toNat
  · have ih1 : (97 : Int) ≤ (c.toNat : Int) := by first | omega | (simp; omega)
    by_cases h2 : c.toNat ≤ 122
    · have ih2 : (c.toNat : Int) ≤ 122 := by first | omega | (simp; omega)
      go_enter Tryd.func41, Tryd.ntmps41
      go_wp2
      go_ret
      exact ⟨ret_bool (by rw [HB.out]; unfold letB; simp; omega), rfl⟩
    · have ih2 : ¬ (c.toNat : Int) ≤ 122 := by first | omega | (simp; omega)
      by_cases h3 : 65 ≤ c.toNat
      · have ih3 : (65 : Int) ≤ (c.toNat : Int) := by first | omega | (simp; omega)
        by_cases h4 : c.toNat ≤ 90
        · have ih4 : (c.toNat : Int) ≤ 90 := by first | omega | (simp; omega)
          go_enter Tryd.func41, Tryd.ntmps41
          go_wp2
          go_ret
          exact ⟨ret_bool (by rw [HB.out]; unfold letB; simp; omega), rfl⟩
        · have ih4 : ¬ (c.toNat : Int) ≤ 90 := by first | omega | (simp; omega)
          by_cases h5 : c.toNat = 95
          · have ih5 : ((c.toNat : Int) == 95) = true := by first | omega | (simp; omega)
            go_enter Tryd.func41, Tryd.ntmps41
            go_wp2
            go_ret
            exact ⟨ret_bool (by rw [HB.out]; unfold letB; simp; omega), rfl⟩
          · have ih5 : ((c.toNat : Int) == 95) = false := by first | omega | (simp; omega)
            go_enter Tryd.func41, Tryd.ntmps41
            go_wp2
            go_ret
            exact ⟨ret_bool (by rw [HB.out]; unfold letB; simp; omega), rfl⟩
      · have ih3 : ¬ (65 : Int) ≤ (c.toNat : Int) := by first | omega | (simp; omega)
        by_cases h5 : c.toNat = 95
        · have ih5 : ((c.toNat : Int) == 95) = true := by first | omega | (simp; omega)
          go_enter Tryd.func41, Tryd.ntmps41
          go_wp2
          go_ret
          exact ⟨ret_bool (by rw [HB.out]; unfold letB; simp; omega), rfl⟩
        · have ih5 : ((c.toNat : Int) == 95) = false := by first | omega | (simp; omega)
          go_enter Tryd.func41, Tryd.ntmps41
          go_wp2
          go_ret
          exact ⟨ret_bool (by rw [HB.out]; unfold letB; simp; omega), rfl⟩
  · have ih1 : ¬ (97 : Int) ≤ (c.toNat : Int) := by first | omega | (simp; omega)
    by_cases h3 : 65 ≤ c.toNat
    · have ih3 : (65 : Int) ≤ (c.toNat : Int) := by first | omega | (simp; omega)
      by_cases h4 : c.toNat ≤ 90
      · have ih4 : (c.toNat : Int) ≤ 90 := by first | omega | (simp; omega)
        go_enter Tryd.func41, Tryd.ntmps41
        go_wp2
        go_ret
        exact ⟨ret_bool (by rw [HB.out]; unfold letB; simp; omega), rfl⟩
      · have ih4 : ¬ (c.toNat : Int) ≤ 90 := by first | omega | (simp; omega)
        by_cases h5 : c.toNat = 95
        · have ih5 : ((c.toNat : Int) == 95) = true := by first | omega | (simp; omega)
          go_enter Tryd.func41, Tryd.ntmps41
          go_wp2
          go_ret
          exact ⟨ret_bool (by rw [HB.out]; unfold letB; simp; omega), rfl⟩
        · have ih5 : ((c.toNat : Int) == 95) = false := by first | omega | (simp; omega)
          go_enter Tryd.func41, Tryd.ntmps41
          go_wp2
          go_ret
          exact ⟨ret_bool (by rw [HB.out]; unfold letB; simp; omega), rfl⟩
    · have ih3 : ¬ (65 : Int) ≤ (c.toNat : Int) := by first | omega | (simp; omega)
      by_cases h5 : c.toNat = 95
      · have ih5 : ((c.toNat : Int) == 95) = true := by first | omega | (simp; omega)
        go_enter Tryd.func41, Tryd.ntmps41
        go_wp2
        go_ret
        exact ⟨ret_bool (by rw [HB.out]; unfold letB; simp; omega), rfl⟩
      · have ih5 : ((c.toNat : Int) == 95) = false := by first | omega | (simp; omega)
        go_enter Tryd.func41, Tryd.ntmps41
        go_wp2
        go_ret
        exact ⟨ret_bool (by rw [HB.out]; unfold letB; simp; omega), rfl⟩
set_option maxHeartbeats 400000 in
theorem isDigit_any (c : UInt8) (w : World) : Calls Tryd.prog 73 #[.int .u8 c.toNat] w fun e w' => e = .returned (.bool (digB c)) ∧ w = w' := by
  obtain ⟨b, hb⟩ : ∃ b, b = digB c := ⟨_, rfl⟩
  rw [← hb]
  have HB := Lib.hid hb
  clear hb
  by_cases h1 : 48 ≤ c.toNat
  · have ih1 : (48 : Int) ≤ (c.toNat : Int) := by first | omega | (simp; omega)
    by_cases h2 : c.toNat ≤ 57
    · have ih2 : (c.toNat : Int) ≤ 57 := by first | omega | (simp; omega)
      go_enter Tryd.func73, Tryd.ntmps73
      go_wp2
      go_ret
      exact ⟨ret_bool (by rw [HB.out]; unfold digB; simp; omega), rfl⟩
    · have ih2 : ¬ (c.toNat : Int) ≤ 57 := by first | omega | (simp; omega)
      go_enter Tryd.func73, Tryd.ntmps73
      go_wp2
      go_ret
      exact ⟨ret_bool (by rw [HB.out]; unfold digB; simp; omega), rfl⟩
  · have ih1 : ¬ (48 : Int) ≤ (c.toNat : Int) := by first | omega | (simp; omega)
    go_enter Tryd.func73, Tryd.ntmps73
    go_wp2
    go_ret
    exact ⟨ret_bool (by rw [HB.out]; unfold digB; simp; omega), rfl⟩
set_option maxHeartbeats 400000 in
theorem digit_any (c : UInt8) (w : World) : Calls Tryd.prog 43 #[.int .u8 c.toNat] w fun e w' => e = .returned (.bool (digB c)) ∧ w = w' := by
  obtain ⟨b, hb⟩ : ∃ b, b = digB c := ⟨_, rfl⟩
  rw [← hb]
  have HB := Lib.hid hb
  clear hb
  by_cases h1 : 48 ≤ c.toNat
  · have ih1 : (48 : Int) ≤ (c.toNat : Int) := by first | omega | (simp; omega)
    by_cases h2 : c.toNat ≤ 57
    · have ih2 : (c.toNat : Int) ≤ 57 := by first | omega | (simp; omega)
      go_enter Tryd.func43, Tryd.ntmps43
      go_wp2
      go_ret
      exact ⟨ret_bool (by rw [HB.out]; unfold digB; simp; omega), rfl⟩
    · have ih2 : ¬ (c.toNat : Int) ≤ 57 := by first | omega | (simp; omega)
      go_enter Tryd.func43, Tryd.ntmps43
      go_wp2
      go_ret
      exact ⟨ret_bool (by rw [HB.out]; unfold digB; simp; omega), rfl⟩
  · have ih1 : ¬ (48 : Int) ≤ (c.toNat : Int) := by first | omega | (simp; omega)
    go_enter Tryd.func43, Tryd.ntmps43
    go_wp2
    go_ret
    exact ⟨ret_bool (by rw [HB.out]; unfold digB; simp; omega), rfl⟩
theorem len_size (s : ByteArray) : s.data.toList.length = s.size := Array.length_toList
theorem endS_step {f : UInt8 → Bool} {s : ByteArray} {k : Nat} (h : k < s.size) (hf : f s[k] = true) : endAt f s.data.toList k = endAt f s.data.toList (k + 1) :=
  endAt_step (by rw [len_size]; exact h) hf
theorem endS_stop {f : UInt8 → Bool} {s : ByteArray} {k : Nat} (h : k < s.size) (hf : f s[k] = false) : endAt f s.data.toList k = k :=
  endAt_stop (by rw [len_size]; exact h) hf
set_option maxHeartbeats 400000 in
theorem wordEnd_any (s : ByteArray) (p q : Nat) (w : World) (hs : s.size ≤ 281474976710656) (hp : p ≤ s.size) (hq : Hid (endAt wchB s.data.toList p = q)) :
    Calls Tryd.prog 62 #[.string s, .int .i64 p] w fun e w' => e = .returned (.int .i64 q) ∧ w = w' := by
  go_enter Tryd.func62, Tryd.ntmps62
  go_wp2_with fail
  go_loop [1] (fun i => ∃ k : Nat, k ≤ s.size ∧ i = .int .i64 k ∧ Hid (endAt wchB s.data.toList k = q)) (fun i => s.size - (intOf i).toNat)
  case atStart => exact ⟨p, hp, rfl, hq⟩
  case round =>
    obtain ⟨k, hk, rfl, HK⟩ := hrel
    by_cases hlt : k < s.size
    · cases h1 : letB s[k] with
      | true =>
        have H1 := Lib.hid h1
        have hc : Calls Tryd.prog 61 #[.int .u8 s[k].toNat] w fun e w' => e = .returned (.bool true) ∧ w = w' := by rw [← h1]; exact isLetter_any _ _
        have HC := Lib.hid hc
        clear h1 hc
        go_wp2_with (go_at_call 61; refine HC.out.mono ?_; rintro e w' ⟨rfl, rfl⟩)
        go_round
        case rel => exact ⟨k + 1, by omega, by go_num, (endS_step hlt (by simp [wchB, H1.out])).symm.trans HK.out⟩
        case measure => simp [intOf]; omega
      | false =>
        have hc : Calls Tryd.prog 61 #[.int .u8 s[k].toNat] w fun e w' => e = .returned (.bool false) ∧ w = w' := by rw [← h1]; exact isLetter_any _ _
        have HC := Lib.hid hc
        have H1 := Lib.hid h1
        clear h1 hc
        cases h2 : digB s[k] with
        | true =>
          have hd : Calls Tryd.prog 73 #[.int .u8 s[k].toNat] w fun e w' => e = .returned (.bool true) ∧ w = w' := by rw [← h2]; exact isDigit_any _ _
          have HD := Lib.hid hd
          have H2 := Lib.hid h2
          clear h2 hd
          go_wp2_with (first | (go_at_call 61; refine HC.out.mono ?_; rintro e w' ⟨rfl, rfl⟩) | (go_at_call 73; refine HD.out.mono ?_; rintro e w' ⟨rfl, rfl⟩))
          go_round
          case rel => exact ⟨k + 1, by omega, by go_num, (endS_step hlt (by simp [wchB, H2.out])).symm.trans HK.out⟩
          case measure => simp [intOf]; omega
        | false =>
          have hd : Calls Tryd.prog 73 #[.int .u8 s[k].toNat] w fun e w' => e = .returned (.bool false) ∧ w = w' := by rw [← h2]; exact isDigit_any _ _
          have HD := Lib.hid hd
          have H2 := Lib.hid h2
          clear h2 hd
          go_wp2_with (first | (go_at_call 61; refine HC.out.mono ?_; rintro e w' ⟨rfl, rfl⟩) | (go_at_call 73; refine HD.out.mono ?_; rintro e w' ⟨rfl, rfl⟩))
          go_ret
          exact ⟨ret_int (by rw [← HK.out, endS_stop hlt (by simp [wchB, H1.out, H2.out])]), rfl⟩
    · go_wp2_with fail
      go_ret
      exact ⟨ret_int (by rw [← HK.out, endAt_end (by rw [len_size]; omega)]), rfl⟩
def tabOf (ls : List (List UInt8)) : Array Value := (ls.map fun l => Value.string ⟨l.toArray⟩).toArray
def tabK : Array Value := tabOf keyTab
def KeysIn (w : World) : Prop := ∃ t fr, w.heap[0]? = some (.cells tabK t fr)
theorem info64 : (Tryd.prog.info? 98).map (·.size) = some tabK.size := by kernel_rfl
theorem tab_at (ls : List (List UInt8)) (k : Nat) (h : k < ls.length) : (tabOf ls)[k]? = some (.string ⟨(ls.getD k []).toArray⟩) := by
  unfold tabOf; rw [List.getElem?_toArray, List.getElem?_map, List.getElem?_eq_getElem h, List.getD_eq_getElem?_getD, List.getElem?_eq_getElem h]; rfl
theorem tab_index (ls : List (List UInt8)) (t n : Nat) (k : Nat) (hk : k < ls.length) (hn : ls.length = n) (hu : Tryd.prog.underlying t = some (.array n 9)) (w : World) :
    (Instr.index t (.agg (tabOf ls)) (.int .i64 k)).run Tryd.prog w = .ok (.string ⟨(ls.getD k []).toArray⟩) w := by
  have h1 := tab_at ls k hk
  have h2 : k < n := by omega
  generalize ls.getD k [] = d at h1 ⊢
  simp [Instr.index, run_underlying hu, asIntOf, go_sem, h2, h1, Tryd.sizeOf9, Tryd.isAgg9]
theorem keys_index (k : Nat) (hk : k < 16) (w : World) : (Instr.index 98 (.agg tabK) (.int .i64 k)).run Tryd.prog w = .ok (.string ⟨(keyTab.getD k []).toArray⟩) w := tab_index keyTab 98 16 k hk rfl Tryd.underlying98 w
theorem str_eq {s : ByteArray} {t : List UInt8} (h : t = s.data.toList) : (⟨t.toArray⟩ : ByteArray) = s := by rw [h]
theorem contains_step (ls : List (List UInt8)) (k : Nat) (l : List UInt8) (h : k < ls.length) : (ls.drop k).contains l = (l == ls.getD k [] || (ls.drop (k + 1)).contains l) := by
  rw [List.drop_eq_getElem_cons h, List.contains_cons, List.getD_eq_getElem?_getD, List.getElem?_eq_getElem h]; rfl
theorem toList_ne {s : ByteArray} {t : List UInt8} (h : (s.data.toList == t) = false) : (s.toList == t) = false := by rw [ByteArray.toList_eq]; exact h
set_option maxHeartbeats 400000 in
theorem isKey_any (s : ByteArray) (w : World) (hK : KeysIn w) : Calls Tryd.prog 63 #[.string s] w fun e w' => e = .returned (.bool (keyB s.data.toList)) ∧ w = w' := by
  obtain ⟨t, fr, hg⟩ := hK
  have HG := Lib.hid hg
  obtain ⟨b, hb⟩ : ∃ b, b = keyB s.data.toList := ⟨_, rfl⟩
  rw [← hb]
  have HB := Lib.hid hb
  clear hg hb
  go_enter Tryd.func63, Tryd.ntmps63
  go_wp2_with (refine wpList_load_row rfl 98 _ rfl 0 rfl t tabK fr _ HG.out Tryd.underlying98 rfl info64 ?_)
  go_loop [6] (fun i => ∃ k : Nat, k ≤ 16 ∧ i = .int .i64 k ∧ Hid (b = (keyTab.drop k).contains s.data.toList)) (fun i => 16 - (intOf i).toNat)
  case atStart => exact ⟨0, by omega, rfl, HB⟩
  case round =>
    obtain ⟨k, hk, rfl, HK⟩ := hrel
    by_cases hlt : k < 16
    · have hix := keys_index k hlt
      have hst := contains_step keyTab k s.data.toList hlt
      rw [← HK.out] at hst
      have HST := Lib.hid hst
      clear hst
      generalize keyTab.getD k [] = d at hix HST
      cases hm : (s.data.toList == d) with
      | true =>
        have hd : d = s.data.toList := (beq_iff_eq.1 hm).symm
        have hbt : b = true := by rw [HST.out, hm]; rfl
        subst hbt
        rw [str_eq hd] at hix
        clear hm hd HST HK
        go_wp2_with fail
        go_ret
        exact ⟨rfl, rfl⟩
      | false =>
        have hne := toList_ne hm
        have HB2 : Hid (b = (keyTab.drop (k + 1)).contains s.data.toList) := by
          show _ = _
          rw [HST.out, hm]; rfl
        clear hm HST HK
        go_wp2_with fail
        go_round
        case rel => exact ⟨k + 1, by omega, by go_num, HB2⟩
        case measure => simp [intOf]; omega
    · have hbf : b = false := by rw [HK.out, show k = 16 by omega]; rfl
      subst hbf
      go_wp2_with fail
      go_ret
      exact ⟨rfl, rfl⟩
def wordB (l : List UInt8) : Bool := decide (l.length ≤ 12) && afterB l && l.all wchB && !keyB l
theorem run_all (f : UInt8 → Bool) (l : List UInt8) : (runN f l = l.length) ↔ l.all f = true := by
  induction l with
  | nil => simp [runN]
  | cons c r ih =>
    cases h : f c with
    | true => rw [runN_pos r h, List.all_cons, h, List.length_cons, Bool.true_and, ← ih]; omega
    | false => rw [runN_zero r h, List.all_cons, h, List.length_cons]; simp
theorem end_all (f : UInt8 → Bool) (l : List UInt8) : (endAt f l 0 = l.length) ↔ l.all f = true := by
  unfold endAt; rw [List.drop_zero, Nat.zero_add]; exact run_all f l
theorem head_at (s : ByteArray) (h : 0 < s.size) : ∃ r, s.data.toList = s[0] :: r := by
  have hl := len_size s
  cases hs : s.data.toList with
  | nil => rw [hs] at hl; simp at hl; omega
  | cons c r =>
    refine ⟨r, ?_⟩
    have h0 : s.data.toList[0]'(by omega) = s[0] := rfl
    simp only [hs, List.getElem_cons_zero] at h0
    rw [← h0]
theorem after_at (s : ByteArray) (h : 0 < s.size) : afterB s.data.toList = letB s[0] := by
  obtain ⟨r, hr⟩ := head_at s h
  rw [hr]; rfl
theorem size_zero {s : ByteArray} (h : s.size = 0) : s = ⟨#[]⟩ := Go.WideShapes.bytes_inj (List.length_eq_zero_iff.1 ((len_size s).trans h))
theorem size_pos_isEmpty {s : ByteArray} (h : 0 < s.size) : s.toList.isEmpty = false := by
  rw [ByteArray.toList_eq]
  obtain ⟨r, hr⟩ := head_at s h
  rw [hr]; rfl
set_option maxHeartbeats 400000 in
theorem isWord_any (s : ByteArray) (w : World) (hs : s.size ≤ 281474976710656) (hK : KeysIn w) : Calls Tryd.prog 46 #[.string s] w fun e w' => e = .returned (.bool (wordB s.data.toList)) ∧ w = w' := by
  obtain ⟨b, hb⟩ : ∃ b, b = wordB s.data.toList := ⟨_, rfl⟩
  rw [← hb]
  have HB := Lib.hid hb
  have HS := Lib.hid hK
  clear hb hK
  by_cases h0 : s.size = 0
  · have := size_zero h0
    subst this
    obtain rfl : b = false := HB.out.trans (by decide)
    clear HB h0 hs
    go_enter Tryd.func46, Tryd.ntmps46
    go_wp2_with fail
    go_ret
    exact ⟨rfl, rfl⟩
  · have hp : 0 < s.size := by omega
    have he := size_pos_isEmpty hp
    by_cases h12 : 12 < s.size
    · have hi : (12 : Int) < (s.size : Int) := by omega
      obtain rfl : b = false := HB.out.trans (by unfold wordB; rw [len_size, decide_eq_false (by omega)]; rfl)
      go_enter Tryd.func46, Tryd.ntmps46
      go_wp2_with fail
      go_ret
      exact ⟨rfl, rfl⟩
    · have hi : ¬ (12 : Int) < (s.size : Int) := by omega
      have hb2 : b = (letB s[0] && s.data.toList.all wchB && !keyB s.data.toList) := by
        rw [HB.out]; unfold wordB; rw [len_size, decide_eq_true (by omega), after_at s hp]; simp
      have HB2 := Lib.hid hb2
      clear hb2 HB h0
      cases h1 : letB s[0] with
      | false =>
        have hc : Calls Tryd.prog 61 #[.int .u8 s[0].toNat] w fun e w' => e = .returned (.bool false) ∧ w = w' := by rw [← h1]; exact isLetter_any _ _
        have HC := Lib.hid hc
        obtain rfl : b = false := by rw [HB2.out, h1]; rfl
        clear h1 hc
        go_enter Tryd.func46, Tryd.ntmps46
        go_wp2_with (go_at_call 61; refine HC.out.mono ?_; rintro e w' ⟨rfl, rfl⟩)
        go_ret
        exact ⟨rfl, rfl⟩
      | true =>
        have hc : Calls Tryd.prog 61 #[.int .u8 s[0].toNat] w fun e w' => e = .returned (.bool true) ∧ w = w' := by rw [← h1]; exact isLetter_any _ _
        have HC := Lib.hid hc
        have H1 := Lib.hid h1
        have ha := end_all wchB s.data.toList
        rw [len_size] at ha
        have hle : endAt wchB s.data.toList 0 ≤ s.size := by rw [← len_size]; exact endAt_le (Nat.zero_le _)
        obtain ⟨q, hq⟩ : ∃ q, endAt wchB s.data.toList 0 = q := ⟨_, rfl⟩
        rw [hq] at ha hle
        have HQ := Lib.hid hq
        have HA := Lib.hid ha
        have hw : Calls Tryd.prog 62 #[.string s, .int .i64 0] w fun e w' => e = .returned (.int .i64 q) ∧ w = w' := wordEnd_any s 0 q w hs (Nat.zero_le _) HQ
        have HW := Lib.hid hw
        clear hq ha h1 hc hw
        by_cases he2 : q = s.size
        · have hall := HA.out.1 he2
          have hb3 : b = !keyB s.data.toList := by rw [HB2.out, H1.out, hall]; simp
          cases hk : keyB s.data.toList with
          | true =>
            obtain rfl : b = false := by rw [hb3, hk]; rfl
            have hkc : Calls Tryd.prog 63 #[.string s] w fun e w' => e = .returned (.bool true) ∧ w = w' := by rw [← hk]; exact isKey_any s w HS.out
            have HKC := Lib.hid hkc
            subst he2
            clear hb3 hk hkc hall HB2 HA HQ
            go_enter Tryd.func46, Tryd.ntmps46
            go_wp2_with (first | (go_at_call 61; refine HC.out.mono ?_; rintro e w' ⟨rfl, rfl⟩) | (go_at_call 62; refine HW.out.mono ?_; rintro e w' ⟨rfl, rfl⟩) | (go_at_call 63; refine HKC.out.mono ?_; rintro e w' ⟨rfl, rfl⟩))
            go_ret
            exact ⟨rfl, rfl⟩
          | false =>
            obtain rfl : b = true := by rw [hb3, hk]; rfl
            have hkc : Calls Tryd.prog 63 #[.string s] w fun e w' => e = .returned (.bool false) ∧ w = w' := by rw [← hk]; exact isKey_any s w HS.out
            have HKC := Lib.hid hkc
            subst he2
            clear hb3 hk hkc hall HB2 HA HQ
            go_enter Tryd.func46, Tryd.ntmps46
            go_wp2_with (first | (go_at_call 61; refine HC.out.mono ?_; rintro e w' ⟨rfl, rfl⟩) | (go_at_call 62; refine HW.out.mono ?_; rintro e w' ⟨rfl, rfl⟩) | (go_at_call 63; refine HKC.out.mono ?_; rintro e w' ⟨rfl, rfl⟩))
            go_ret
            exact ⟨rfl, rfl⟩
        · have hall : s.data.toList.all wchB = false := by
            cases hx : s.data.toList.all wchB with
            | false => rfl
            | true => exact absurd (HA.out.2 hx) he2
          obtain rfl : b = false := by rw [HB2.out, hall]; simp
          have hn : ((q : Int) == (s.size : Int)) = false := beq_eq_false_iff_ne.2 (by omega)
          have hn2 : (q == s.size) = false := beq_eq_false_iff_ne.2 he2
          clear hall HB2 HA HQ he2
          go_enter Tryd.func46, Tryd.ntmps46
          go_wp2_with (first | (go_at_call 61; refine HC.out.mono ?_; rintro e w' ⟨rfl, rfl⟩) | (go_at_call 62; refine HW.out.mono ?_; rintro e w' ⟨rfl, rfl⟩))
          go_ret
          exact ⟨rfl, rfl⟩

end Go.Proofs.YtjgmhkplgenieaaDoor
