/-
  CONTRACTS: wordEnd, commentEnd, skip at every text of at most 2^48 bytes and every place in it. The world is as it was.
-/
import Derived.Test.YteikheaanefgbaaDoorBytes
import Derived.Test.YteikheaanefgbaaDoorShelf

namespace Go.Proofs.YteikheaanefgbaaDoor
open Go.RowKit

theorem len_size (s : ByteArray) : s.data.toList.length = s.size := Array.length_toList
theorem endS_step {f : UInt8 → Bool} {s : ByteArray} {k : Nat} (h : k < s.size) (hf : f s[k] = true) : endAt f s.data.toList k = endAt f s.data.toList (k + 1) :=
  endAt_step (by rw [len_size]; exact h) hf
theorem endS_stop {f : UInt8 → Bool} {s : ByteArray} {k : Nat} (h : k < s.size) (hf : f s[k] = false) : endAt f s.data.toList k = k :=
  endAt_stop (by rw [len_size]; exact h) hf

set_option maxHeartbeats 400000 in
theorem wordEnd_any (s : ByteArray) (p q : Nat) (w : World) (hs : s.size ≤ 281474976710656) (hp : p ≤ s.size) (hq : Hid (endAt wchB s.data.toList p = q)) :
    Calls Tryd.prog 24 #[.string s, .int .i64 p] w fun e w' => e = .returned (.int .i64 q) ∧ w = w' := by
  go_enter Tryd.func24, Tryd.ntmps24
  go_wp2_with fail
  go_loop [1] (fun i => ∃ k : Nat, k ≤ s.size ∧ i = .int .i64 k ∧ Hid (endAt wchB s.data.toList k = q)) (fun i => s.size - (intOf i).toNat)
  case atStart => exact ⟨p, hp, rfl, hq⟩
  case round =>
    obtain ⟨k, hk, rfl, HK⟩ := hrel
    by_cases hlt : k < s.size
    · cases h1 : letB s[k] with
      | true =>
        have H1 := Lib.hid h1
        have hc : Calls Tryd.prog 23 #[.int .u8 s[k].toNat] w fun e w' => e = .returned (.bool true) ∧ w = w' := by rw [← h1]; exact isLetter_any _ _
        have HC := Lib.hid hc
        clear h1 hc
        go_wp2_with (go_at_call 23; refine HC.out.mono ?_; rintro e w' ⟨rfl, rfl⟩)
        go_round
        case rel => exact ⟨k + 1, by omega, by go_num, (endS_step hlt (by simp [wchB, H1.out])).symm.trans HK.out⟩
        case measure => simp [intOf]; omega
      | false =>
        have hc : Calls Tryd.prog 23 #[.int .u8 s[k].toNat] w fun e w' => e = .returned (.bool false) ∧ w = w' := by rw [← h1]; exact isLetter_any _ _
        have HC := Lib.hid hc
        have H1 := Lib.hid h1
        clear h1 hc
        cases h2 : digB s[k] with
        | true =>
          have hd : Calls Tryd.prog 32 #[.int .u8 s[k].toNat] w fun e w' => e = .returned (.bool true) ∧ w = w' := by rw [← h2]; exact isDigit_any _ _
          have HD := Lib.hid hd
          have H2 := Lib.hid h2
          clear h2 hd
          go_wp2_with (first | (go_at_call 23; refine HC.out.mono ?_; rintro e w' ⟨rfl, rfl⟩) | (go_at_call 32; refine HD.out.mono ?_; rintro e w' ⟨rfl, rfl⟩))
          go_round
          case rel => exact ⟨k + 1, by omega, by go_num, (endS_step hlt (by simp [wchB, H2.out])).symm.trans HK.out⟩
          case measure => simp [intOf]; omega
        | false =>
          have hd : Calls Tryd.prog 32 #[.int .u8 s[k].toNat] w fun e w' => e = .returned (.bool false) ∧ w = w' := by rw [← h2]; exact isDigit_any _ _
          have HD := Lib.hid hd
          have H2 := Lib.hid h2
          clear h2 hd
          go_wp2_with (first | (go_at_call 23; refine HC.out.mono ?_; rintro e w' ⟨rfl, rfl⟩) | (go_at_call 32; refine HD.out.mono ?_; rintro e w' ⟨rfl, rfl⟩))
          go_ret
          exact ⟨ret_int (by rw [← HK.out, endS_stop hlt (by simp [wchB, H1.out, H2.out])]), rfl⟩
    · go_wp2_with fail
      go_ret
      exact ⟨ret_int (by rw [← HK.out, endAt_end (by rw [len_size]; omega)]), rfl⟩

set_option maxHeartbeats 400000 in
theorem commentEnd_any (s : ByteArray) (p q : Nat) (w : World) (hs : s.size ≤ 281474976710656) (hp : p ≤ s.size) (hq : Hid (endAt notNl s.data.toList p = q)) :
    Calls Tryd.prog 30 #[.string s, .int .i64 p] w fun e w' => e = .returned (.int .i64 q) ∧ w = w' := by
  go_enter Tryd.func30, Tryd.ntmps30
  go_wp2_with fail
  go_loop [1] (fun i => ∃ k : Nat, k ≤ s.size ∧ i = .int .i64 k ∧ Hid (endAt notNl s.data.toList k = q)) (fun i => s.size - (intOf i).toNat)
  case atStart => exact ⟨p, hp, rfl, hq⟩
  case round =>
    obtain ⟨k, hk, rfl, HK⟩ := hrel
    by_cases hlt : k < s.size
    · by_cases h1 : s[k].toNat = 10
      · have h2 : ((s[k].toNat : Int) != 10) = false := by simp; omega
        have H1 := Lib.hid h1
        clear h1
        go_wp2_with fail
        go_ret
        exact ⟨ret_int (by rw [← HK.out, endS_stop hlt (by simp [notNl, H1.out])]), rfl⟩
      · have h2 : ((s[k].toNat : Int) != 10) = true := by simp; omega
        have H1 := Lib.hid h1
        clear h1
        go_wp2_with fail
        go_round
        case rel => exact ⟨k + 1, by omega, by go_num, (endS_step hlt (by simp [notNl, H1.out])).symm.trans HK.out⟩
        case measure => simp [intOf]; omega
    · go_wp2_with fail
      go_ret
      exact ⟨ret_int (by rw [← HK.out, endAt_end (by rw [len_size]; omega)]), rfl⟩

theorem drop_extract (s : ByteArray) (k : Nat) : (s.extract k s.size).data.toList = s.data.toList.drop k := by
  rw [ByteArray.data_extract, Array.toList_extract, List.extract_eq_take_drop, List.take_of_length_le (by rw [List.length_drop, len_size]; omega)]
theorem cut_extract (s : ByteArray) (a b : Nat) : (s.extract a b).data.toList = (s.data.toList.drop a).take (b - a) := by
  rw [ByteArray.data_extract, Array.toList_extract, List.extract_eq_take_drop]
theorem com_pre (l : List UInt8) : Lib.hasPrefix l [47, 47] = comB l := by
  match l with
  | [] => rfl
  | [a] => simp [Lib.hasPrefix, comB, List.isPrefixOf]
  | a :: b :: r =>
    unfold Lib.hasPrefix comB
    rw [Bool.eq_iff_iff]
    simp only [List.isPrefixOf, Bool.and_true, Bool.and_eq_true, beq_iff_eq, decide_eq_true_eq]
    constructor
    · rintro ⟨rfl, rfl⟩; exact ⟨rfl, rfl⟩
    · rintro ⟨h1, h2⟩; exact ⟨(UInt8.toNat_inj.1 h1).symm, (UInt8.toNat_inj.1 h2).symm⟩
theorem hasPre (t p : ByteArray) (b : Bool) (w : World) (hb : Hid (Lib.hasPrefix t.data.toList p.data.toList = b)) : Calls Tryd.prog 29 #[.string t, .string p] w fun e w' => e = .returned (.bool b) ∧ w = w' := by
  refine (Tryd.strings_HasPrefix t p w).mono ?_
  rintro e w' ⟨rfl, rfl⟩
  exact ⟨ret_bool hb.out, rfl⟩
theorem com_ext (s : ByteArray) (k : Nat) (b : Bool) (h : comAt s.data.toList k = b) : Hid (Lib.hasPrefix (s.extract k s.size).data.toList (⟨#[47, 47]⟩ : ByteArray).data.toList = b) := by
  show _ = _
  rw [drop_extract, show (⟨#[47, 47]⟩ : ByteArray).data.toList = [47, 47] from rfl, com_pre]
  exact h

set_option maxHeartbeats 400000 in
theorem skip_any (s : ByteArray) (p q : Nat) (w : World) (hs : s.size ≤ 281474976710656) (hp : p ≤ s.size) (hq : Hid (skipAt s.data.toList p = q)) :
    Calls Tryd.prog 17 #[.string s, .int .i64 p] w fun e w' => e = .returned (.int .i64 q) ∧ w = w' := by
  go_enter Tryd.func17, Tryd.ntmps17
  go_wp2_with fail
  go_loop [1] (fun i => ∃ k : Nat, k ≤ s.size ∧ i = .int .i64 k ∧ Hid (skipAt s.data.toList k = q)) (fun i => s.size - (intOf i).toNat)
  case atStart => exact ⟨p, hp, rfl, hq⟩
  case round =>
    obtain ⟨k, hk, rfl, HK⟩ := hrel
    by_cases hlt : k < s.size
    · cases h1 : blkB s[k] with
      | true =>
        have H1 := Lib.hid h1
        have hc : Calls Tryd.prog 28 #[.int .u8 s[k].toNat] w fun e w' => e = .returned (.bool true) ∧ w = w' := by rw [← h1]; exact isBlank_any _ _
        have HC := Lib.hid hc
        clear h1 hc
        go_wp2_with (go_at_call 28; refine HC.out.mono ?_; rintro e w' ⟨rfl, rfl⟩)
        go_round
        case rel => exact ⟨k + 1, by omega, by go_num, (skipAt_blk (l := s.data.toList) (by rw [len_size]; exact hlt) H1.out).symm.trans HK.out⟩
        case measure => simp [intOf]; omega
      | false =>
        have hc : Calls Tryd.prog 28 #[.int .u8 s[k].toNat] w fun e w' => e = .returned (.bool false) ∧ w = w' := by rw [← h1]; exact isBlank_any _ _
        have HC := Lib.hid hc
        have H1 := Lib.hid h1
        clear h1 hc
        cases h2 : comAt s.data.toList k with
        | true =>
          have H2 := Lib.hid h2
          have H3 := com_ext s k true h2
          have h4 := endAt_com (by rw [len_size]; exact hlt) h2
          have h5 : endAt notNl s.data.toList k ≤ s.size := by rw [← len_size]; exact endAt_le (by rw [len_size]; omega)
          have hsk := (skipAt_com (l := s.data.toList) (by rw [len_size]; exact hlt) H1.out H2.out).symm.trans HK.out
          have HSK := Lib.hid hsk
          obtain ⟨m, hm⟩ : ∃ m, endAt notNl s.data.toList k = m := ⟨_, rfl⟩
          have HM := Lib.hid hm
          rw [hm] at h4 h5
          clear h2 hm hsk
          go_wp2_with (first | (go_at_call 28; refine HC.out.mono ?_; rintro e w' ⟨rfl, rfl⟩) | (go_at_call 29; refine (hasPre _ _ true _ H3).mono ?_; rintro e w' ⟨rfl, rfl⟩) | (go_at_call 30; refine (commentEnd_any s k m _ hs hk HM).mono ?_; rintro e w' ⟨rfl, rfl⟩))
          go_round
          case rel => exact ⟨m, h5, rfl, by have := HSK.out; rw [HM.out] at this; exact this⟩
          case measure => simp [intOf]; omega
        | false =>
          have H2 := Lib.hid h2
          have H3 := com_ext s k false h2
          clear h2
          go_wp2_with (first | (go_at_call 28; refine HC.out.mono ?_; rintro e w' ⟨rfl, rfl⟩) | (go_at_call 29; refine (hasPre _ _ false _ H3).mono ?_; rintro e w' ⟨rfl, rfl⟩))
          go_ret
          exact ⟨ret_int (by rw [← HK.out, skipAt_stop (by rw [len_size]; exact hlt) H1.out H2.out]), rfl⟩
    · go_wp2_with fail
      go_ret
      exact ⟨ret_int (by rw [← HK.out, skipAt_end (by rw [len_size]; omega)]), rfl⟩

end Go.Proofs.YteikheaanefgbaaDoor
