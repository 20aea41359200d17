/-
  CONTRACTS: the reference's Key and Word at every text. Of what was there nothing has turned.
-/
import Derived.Test.YtjgmhkplgenieaaDoorLex
import Derived.Test.YtjgmhkplgenieaaDoorArr
namespace Go.Proofs.YtjgmhkplgenieaaDoor
open Go.RowKit

theorem take_snoc (s : ByteArray) (k : Nat) (h : k < s.size) : s.data.toList.take (k + 1) = s.data.toList.take k ++ [s[k]] := by
  rw [List.take_succ_eq_append_getElem (by rw [len_size]; exact h)]; rfl
def zeroK : Array Value := (List.replicate 16 (Value.string ⟨#[]⟩)).toArray
theorem zero64 (w : World) : (zeroValue 98).run Tryd.prog w = .ok (.agg zeroK) w := by kernel_rfl
theorem tabK_one : tabK.all (·.oneCell') = true := by kernel_rfl
theorem tabK_size : zeroK.size = tabK.size := by kernel_rfl
theorem toList_ne' {s : ByteArray} {t : List UInt8} (h : (s.data.toList == t) = false) : (t == s.toList) = false := by
  rw [ByteArray.toList_eq, beq_eq_false_iff_ne]
  intro e
  rw [beq_eq_false_iff_ne] at h
  exact h e.symm
set_option maxHeartbeats 400000 in
theorem refKey_any (s : ByteArray) (w : World) : Calls Tryd.prog 42 #[.string s] w fun e w' => e = .returned (.bool (keyB s.data.toList)) ∧ Below w.heap.size w w' := by
  obtain ⟨b, hb⟩ : ∃ b, b = keyB s.data.toList := ⟨_, rfl⟩
  rw [← hb]
  have HB := Lib.hid hb
  clear hb
  go_enter Tryd.func42, Tryd.ntmps42
  go_wp2_with (first | (refine wpList_build_row rfl 98 _ rfl tabK (by kernel_rfl) ?_; refine wpList_alloc_row rfl 98 rfl zeroK zero64 ?_; refine wpList_store_row rfl 98 _ _ rfl w.heap.size tabK rfl rfl 98 zeroK (at_new w 98 zeroK) info64 tabK_size tabK_one ?_; refine Hid.out ?_))
  have hA := (at_new w 98 zeroK).setSame (cs' := tabK)
  have hB := below_setRow ((Below.refl _ w).alloc (Nat.le_refl _) (.cells zeroK 98)) (Nat.le_refl _) tabK
  generalize (w.alloc (.cells zeroK 98)).setRow w.heap.size tabK = w1 at hA hB ⊢
  have HA := Lib.hid hA
  clear hA
  refine Lib.hid ?_
  go_wp2_with fail
  go_loop [4] (fun i => ∃ k : Nat, k ≤ 16 ∧ i = .int .i64 k ∧ Hid (b = (keyTab.drop k).contains s.data.toList)) (fun i => 16 - (intOf i).toNat)
  case atStart => exact ⟨0, by omega, rfl, HB⟩
  case round =>
    obtain ⟨k, hk, rfl, HK⟩ := hrel
    by_cases hlt : k < 16
    · have hc : w1.cell? ⟨w.heap.size, k, none⟩ = some (.string ⟨(keyTab.getD k []).toArray⟩) := by
        rw [HA.out.cell]; exact tab_at keyTab k hlt
      have hst := contains_step keyTab k s.data.toList hlt
      rw [← HK.out] at hst
      have HST := Lib.hid hst
      clear hst
      generalize keyTab.getD k [] = d at hc HST
      cases hm : (s.data.toList == d) with
      | true =>
        have hd : d = s.data.toList := (beq_iff_eq.1 hm).symm
        have hbt : b = true := by rw [HST.out, hm]; rfl
        subst hbt
        rw [str_eq hd] at hc
        clear hm hd HST HK
        go_wp2_with fail
        go_ret
        exact ⟨rfl, hB⟩
      | false =>
        have hne := toList_ne' hm
        have HB2 : Hid (b = (keyTab.drop (k + 1)).contains s.data.toList) := by
          show _ = _
          rw [HST.out, hm]; rfl
        clear hm HST HK
        go_wp2_with fail
        go_round
        case rel => exact ⟨k + 1, by omega, by go_num, HB2⟩
        case measure => simp [intOf]; omega
    · have hbf : b = false := by rw [HK.out, show k = 16 by omega]; rfl
      subst hbf
      go_wp2_with fail
      go_ret
      exact ⟨rfl, hB⟩
theorem letter_to (c : UInt8) (b : Bool) (w : World) (h : Hid (letB c = b)) : Calls Tryd.prog 41 #[.int .u8 c.toNat] w fun e w' => e = .returned (.bool b) ∧ w = w' := by rw [← h.out]; exact letter_any c w
theorem digit_to (c : UInt8) (b : Bool) (w : World) (h : Hid (digB c = b)) : Calls Tryd.prog 43 #[.int .u8 c.toNat] w fun e w' => e = .returned (.bool b) ∧ w = w' := by rw [← h.out]; exact digit_any c w
theorem refKey_to (s : ByteArray) (b : Bool) (w : World) (h : Hid (keyB s.data.toList = b)) : Calls Tryd.prog 42 #[.string s] w fun e w' => e = .returned (.bool b) ∧ Below w.heap.size w w' := by rw [← h.out]; exact refKey_any s w
theorem all_take (f : UInt8 → Bool) (s : ByteArray) (k : Nat) (h : k < s.size) : (s.data.toList.take (k + 1)).all f = ((s.data.toList.take k).all f && f s[k]) := by
  rw [take_snoc s k h, List.all_append]; simp
set_option maxHeartbeats 400000 in
theorem refWord_any (s : ByteArray) (w : World) : Calls Tryd.prog 25 #[.string s] w fun e w' => e = .returned (.bool (wordB s.data.toList)) ∧ Below w.heap.size w w' := by
  obtain ⟨b, hb⟩ : ∃ b, b = wordB s.data.toList := ⟨_, rfl⟩
  rw [← hb]
  have HB := Lib.hid hb
  clear hb
  by_cases h0 : s.size = 0
  · have := size_zero h0
    subst this
    obtain rfl : b = false := HB.out.trans (by decide)
    clear HB h0
    go_enter Tryd.func25, Tryd.ntmps25
    go_wp2_with fail
    go_ret
    exact ⟨rfl, Below.refl _ _⟩
  · have hp : 0 < s.size := by omega
    have he : (s.size == 0) = false := beq_eq_false_iff_ne.2 h0
    have he' : ((s.size : Int) == 0) = false := beq_eq_false_iff_ne.2 (by omega)
    by_cases h12 : 12 < s.size
    · have hi : (12 : Int) < (s.size : Int) := by omega
      obtain rfl : b = false := HB.out.trans (by unfold wordB; rw [len_size, decide_eq_false (by omega)]; rfl)
      go_enter Tryd.func25, Tryd.ntmps25
      go_wp2_with fail
      go_ret
      exact ⟨rfl, Below.refl _ _⟩
    · have hi : ¬ (12 : Int) < (s.size : Int) := by omega
      have hb2 : b = (letB s[0] && s.data.toList.all wchB && !keyB s.data.toList) := by
        rw [HB.out]; unfold wordB; rw [len_size, decide_eq_true (by omega), after_at s hp]; simp
      have HB2 := Lib.hid hb2
      clear hb2 HB h0
      cases h1 : letB s[0] with
      | false =>
        have H1 := Lib.hid h1
        obtain rfl : b = false := by rw [HB2.out, h1]; rfl
        clear h1
        go_enter Tryd.func25, Tryd.ntmps25
        go_wp2_with (go_at_call 41; refine (letter_to _ false _ H1).mono ?_; rintro e w' ⟨rfl, rfl⟩)
        go_ret
        exact ⟨rfl, Below.refl _ _⟩
      | true =>
        have H1 := Lib.hid h1
        cases hk : keyB s.data.toList with
        | true =>
          have HK := Lib.hid hk
          obtain rfl : b = false := by rw [HB2.out, hk]; simp
          clear h1 hk
          go_enter Tryd.func25, Tryd.ntmps25
          go_wp2_with (first | (go_at_call 41; refine (letter_to _ true _ H1).mono ?_; rintro e w' ⟨rfl, rfl⟩) | (go_at_call 42; refine (refKey_to s true _ HK).mono ?_; rintro e w1 ⟨rfl, bb⟩))
          go_ret
          exact ⟨rfl, bb⟩
        | false =>
          have HK := Lib.hid hk
          have hb3 : b = s.data.toList.all wchB := by rw [HB2.out, h1, hk]; simp
          have HB3 := Lib.hid hb3
          clear h1 hk HB2 hb3
          go_enter Tryd.func25, Tryd.ntmps25
          go_wp2_with (first | (go_at_call 41; refine (letter_to _ true _ H1).mono ?_; rintro e w' ⟨rfl, rfl⟩) | (go_at_call 42; refine (refKey_to s false _ HK).mono ?_; rintro e w1 ⟨rfl, bb⟩))
          go_loop [3] (fun i => ∃ k : Nat, k ≤ s.size ∧ i = .int .i64 k ∧ Hid ((s.data.toList.take k).all wchB = true)) (fun i => s.size - (intOf i).toNat)
          case atStart => exact ⟨0, Nat.zero_le _, rfl, rfl⟩
          case round =>
            obtain ⟨k, hk, rfl, HKK⟩ := hrel
            by_cases hlt : k < s.size
            · have hsn := all_take wchB s k hlt
              rw [HKK.out, Bool.true_and] at hsn
              have HSN := Lib.hid hsn
              clear hsn
              cases hl : letB s[k] with
              | true =>
                have HL := Lib.hid hl
                clear hl
                go_wp2_with (go_at_call 41; refine (letter_to _ true _ HL).mono ?_; rintro e w' ⟨rfl, rfl⟩)
                go_round
                case rel => exact ⟨k + 1, by omega, by go_num, HSN.out.trans (by simp [wchB, HL.out])⟩
                case measure => simp [intOf]; omega
              | false =>
                have HL := Lib.hid hl
                cases hd : digB s[k] with
                | true =>
                  have HD := Lib.hid hd
                  clear hl hd
                  go_wp2_with (first | (go_at_call 41; refine (letter_to _ false _ HL).mono ?_; rintro e w' ⟨rfl, rfl⟩) | (go_at_call 43; refine (digit_to _ true _ HD).mono ?_; rintro e w' ⟨rfl, rfl⟩))
                  go_round
                  case rel => exact ⟨k + 1, by omega, by go_num, HSN.out.trans (by simp [wchB, HD.out])⟩
                  case measure => simp [intOf]; omega
                | false =>
                  have HD := Lib.hid hd
                  have hf : b = false := by
                    rw [HB3.out, ← List.take_append_drop (k + 1) s.data.toList, List.all_append, HSN.out]
                    simp [wchB, hl, hd]
                  subst hf
                  clear hl hd
                  go_wp2_with (first | (go_at_call 41; refine (letter_to _ false _ HL).mono ?_; rintro e w' ⟨rfl, rfl⟩) | (go_at_call 43; refine (digit_to _ false _ HD).mono ?_; rintro e w' ⟨rfl, rfl⟩))
                  go_ret
                  exact ⟨rfl, bb⟩
            · have hf : b = true := by
                rw [HB3.out]; have := HKK.out; rwa [List.take_of_length_le (by rw [len_size]; omega)] at this
              subst hf
              go_wp2_with fail
              go_ret
              exact ⟨rfl, bb⟩

end Go.Proofs.YtjgmhkplgenieaaDoor
