/-
  CONTRACTS: isLetter, isDigit, isBlank (and the reference's letter, digit) at every byte; wordEnd, commentEnd at every text and place. The world is as it was.
-/
import Derived.Test.YteikheaanefgbaaDoorProg
import Derived.Test.YteikheaanefgbaaDoorPlain
import Derived.WalkKit
import Derived.WalkSpells
import Derived.WalkLawsBesides
import Derived.Lib.Hide
namespace Go.Proofs.YteikheaanefgbaaDoor
open Go.RowKit

theorem ret_bool {a b : Bool} (h : a = b) : Ending.returned (.bool a) = .returned (.bool b) := by rw [h]
theorem ret_int {k : IntKind} {a b : Int} (h : a = b) : Ending.returned (.int k a) = .returned (.int k b) := by rw [h]
theorem ret_str {a b : ByteArray} (h : a = b) : Ending.returned (.string a) = .returned (.string b) := by rw [h]



set_option maxHeartbeats 400000 in
theorem isLetter_any (c : UInt8) (w : World) : Calls Tryd.prog 23 #[.int .u8 c.toNat] w fun e w' => e = .returned (.bool (letB c)) ∧ w = w' := by
  obtain ⟨b, hb⟩ : ∃ b, b = letB c := ⟨_, rfl⟩
  rw [← hb]
  have HB := Lib.hid hb
  clear hb
  by_cases h1 : 97 ≤ c.toNat
  · have ih1 : (97 : Int) ≤ (c.toNat : Int) := by first | omega | (simp; omega)
    by_cases h2 : c.toNat ≤ 122
    · have ih2 : (c.toNat : Int) ≤ 122 := by first | omega | (simp; omega)
      go_enter Tryd.func23, Tryd.ntmps23
      go_wp2
      go_ret
      exact ⟨ret_bool (by rw [HB.out]; unfold letB; simp; omega), rfl⟩
    · have ih2 : ¬ (c.toNat : Int) ≤ 122 := by first | omega | (simp; omega)
      by_cases h3 : 65 ≤ c.toNat
      · have ih3 : (65 : Int) ≤ (c.toNat : Int) := by first | omega | (simp; omega)
        by_cases h4 : c.toNat ≤ 90
        · have ih4 : (c.toNat : Int) ≤ 90 := by first | omega | (simp; omega)
          go_enter Tryd.func23, Tryd.ntmps23
          go_wp2
          go_ret
          exact ⟨ret_bool (by rw [HB.out]; unfold letB; simp; omega), rfl⟩
        · have ih4 : ¬ (c.toNat : Int) ≤ 90 := by first | omega | (simp; omega)
          by_cases h5 : c.toNat = 95
          · have ih5 : ((c.toNat : Int) == 95) = true := by first | omega | (simp; omega)
            go_enter Tryd.func23, Tryd.ntmps23
            go_wp2
            go_ret
            exact ⟨ret_bool (by rw [HB.out]; unfold letB; simp; omega), rfl⟩
          · have ih5 : ((c.toNat : Int) == 95) = false := by first | omega | (simp; omega)
            go_enter Tryd.func23, Tryd.ntmps23
            go_wp2
            go_ret
            exact ⟨ret_bool (by rw [HB.out]; unfold letB; simp; omega), rfl⟩
      · have ih3 : ¬ (65 : Int) ≤ (c.toNat : Int) := by first | omega | (simp; omega)
        by_cases h5 : c.toNat = 95
        · have ih5 : ((c.toNat : Int) == 95) = true := by first | omega | (simp; omega)
          go_enter Tryd.func23, Tryd.ntmps23
          go_wp2
          go_ret
          exact ⟨ret_bool (by rw [HB.out]; unfold letB; simp; omega), rfl⟩
        · have ih5 : ((c.toNat : Int) == 95) = false := by first | omega | (simp; omega)
          go_enter Tryd.func23, Tryd.ntmps23
          go_wp2
          go_ret
          exact ⟨ret_bool (by rw [HB.out]; unfold letB; simp; omega), rfl⟩
  · have ih1 : ¬ (97 : Int) ≤ (c.toNat : Int) := by first | omega | (simp; omega)
    by_cases h3 : 65 ≤ c.toNat
    · have ih3 : (65 : Int) ≤ (c.toNat : Int) := by first | omega | (simp; omega)
      by_cases h4 : c.toNat ≤ 90
      · have ih4 : (c.toNat : Int) ≤ 90 := by first | omega | (simp; omega)
        go_enter Tryd.func23, Tryd.ntmps23
        go_wp2
        go_ret
        exact ⟨ret_bool (by rw [HB.out]; unfold letB; simp; omega), rfl⟩
      · have ih4 : ¬ (c.toNat : Int) ≤ 90 := by first | omega | (simp; omega)
        by_cases h5 : c.toNat = 95
        · have ih5 : ((c.toNat : Int) == 95) = true := by first | omega | (simp; omega)
          go_enter Tryd.func23, Tryd.ntmps23
          go_wp2
          go_ret
          exact ⟨ret_bool (by rw [HB.out]; unfold letB; simp; omega), rfl⟩
        · have ih5 : ((c.toNat : Int) == 95) = false := by first | omega | (simp; omega)
          go_enter Tryd.func23, Tryd.ntmps23
          go_wp2
          go_ret
          exact ⟨ret_bool (by rw [HB.out]; unfold letB; simp; omega), rfl⟩
    · have ih3 : ¬ (65 : Int) ≤ (c.toNat : Int) := by first | omega | (simp; omega)
      by_cases h5 : c.toNat = 95
      · have ih5 : ((c.toNat : Int) == 95) = true := by first | omega | (simp; omega)
        go_enter Tryd.func23, Tryd.ntmps23
        go_wp2
        go_ret
        exact ⟨ret_bool (by rw [HB.out]; unfold letB; simp; omega), rfl⟩
      · have ih5 : ((c.toNat : Int) == 95) = false := by first | omega | (simp; omega)
        go_enter Tryd.func23, Tryd.ntmps23
        go_wp2
        go_ret
        exact ⟨ret_bool (by rw [HB.out]; unfold letB; simp; omega), rfl⟩

set_option maxHeartbeats 400000 in
theorem letter_any (c : UInt8) (w : World) : Calls Tryd.prog 19 #[.int .u8 c.toNat] w fun e w' => e = .returned (.bool (letB c)) ∧ w = w' := by
  obtain ⟨b, hb⟩ : ∃ b, b = letB c := ⟨_, rfl⟩
  rw [← hb]
  have HB := Lib.hid hb
  clear hb
  by_cases h1 : 97 ≤ c.toNat
  · have ih1 : (97 : Int) ≤ (c.toNat : Int) := by first | omega | (simp; omega)
    by_cases h2 : c.toNat ≤ 122
    · have ih2 : (c.toNat : Int) ≤ 122 := by first | omega | (simp; omega)
      go_enter Tryd.func19, Tryd.ntmps19
      go_wp2
      go_ret
      exact ⟨ret_bool (by rw [HB.out]; unfold letB; simp; omega), rfl⟩
    · have ih2 : ¬ (c.toNat : Int) ≤ 122 := by first | omega | (simp; omega)
      by_cases h3 : 65 ≤ c.toNat
      · have ih3 : (65 : Int) ≤ (c.toNat : Int) := by first | omega | (simp; omega)
        by_cases h4 : c.toNat ≤ 90
        · have ih4 : (c.toNat : Int) ≤ 90 := by first | omega | (simp; omega)
          go_enter Tryd.func19, Tryd.ntmps19
          go_wp2
          go_ret
          exact ⟨ret_bool (by rw [HB.out]; unfold letB; simp; omega), rfl⟩
        · have ih4 : ¬ (c.toNat : Int) ≤ 90 := by first | omega | (simp; omega)
          by_cases h5 : c.toNat = 95
          · have ih5 : ((c.toNat : Int) == 95) = true := by first | omega | (simp; omega)
            go_enter Tryd.func19, Tryd.ntmps19
            go_wp2
            go_ret
            exact ⟨ret_bool (by rw [HB.out]; unfold letB; simp; omega), rfl⟩
          · have ih5 : ((c.toNat : Int) == 95) = false := by first | omega | (simp; omega)
            go_enter Tryd.func19, Tryd.ntmps19
            go_wp2
            go_ret
            exact ⟨ret_bool (by rw [HB.out]; unfold letB; simp; omega), rfl⟩
      · have ih3 : ¬ (65 : Int) ≤ (c.toNat : Int) := by first | omega | (simp; omega)
        by_cases h5 : c.toNat = 95
        · have ih5 : ((c.toNat : Int) == 95) = true := by first | omega | (simp; omega)
          go_enter Tryd.func19, Tryd.ntmps19
          go_wp2
          go_ret
          exact ⟨ret_bool (by rw [HB.out]; unfold letB; simp; omega), rfl⟩
        · have ih5 : ((c.toNat : Int) == 95) = false := by first | omega | (simp; omega)
          go_enter Tryd.func19, Tryd.ntmps19
          go_wp2
          go_ret
          exact ⟨ret_bool (by rw [HB.out]; unfold letB; simp; omega), rfl⟩
  · have ih1 : ¬ (97 : Int) ≤ (c.toNat : Int) := by first | omega | (simp; omega)
    by_cases h3 : 65 ≤ c.toNat
    · have ih3 : (65 : Int) ≤ (c.toNat : Int) := by first | omega | (simp; omega)
      by_cases h4 : c.toNat ≤ 90
      · have ih4 : (c.toNat : Int) ≤ 90 := by first | omega | (simp; omega)
        go_enter Tryd.func19, Tryd.ntmps19
        go_wp2
        go_ret
        exact ⟨ret_bool (by rw [HB.out]; unfold letB; simp; omega), rfl⟩
      · have ih4 : ¬ (c.toNat : Int) ≤ 90 := by first | omega | (simp; omega)
        by_cases h5 : c.toNat = 95
        · have ih5 : ((c.toNat : Int) == 95) = true := by first | omega | (simp; omega)
          go_enter Tryd.func19, Tryd.ntmps19
          go_wp2
          go_ret
          exact ⟨ret_bool (by rw [HB.out]; unfold letB; simp; omega), rfl⟩
        · have ih5 : ((c.toNat : Int) == 95) = false := by first | omega | (simp; omega)
          go_enter Tryd.func19, Tryd.ntmps19
          go_wp2
          go_ret
          exact ⟨ret_bool (by rw [HB.out]; unfold letB; simp; omega), rfl⟩
    · have ih3 : ¬ (65 : Int) ≤ (c.toNat : Int) := by first | omega | (simp; omega)
      by_cases h5 : c.toNat = 95
      · have ih5 : ((c.toNat : Int) == 95) = true := by first | omega | (simp; omega)
        go_enter Tryd.func19, Tryd.ntmps19
        go_wp2
        go_ret
        exact ⟨ret_bool (by rw [HB.out]; unfold letB; simp; omega), rfl⟩
      · have ih5 : ((c.toNat : Int) == 95) = false := by first | omega | (simp; omega)
        go_enter Tryd.func19, Tryd.ntmps19
        go_wp2
        go_ret
        exact ⟨ret_bool (by rw [HB.out]; unfold letB; simp; omega), rfl⟩

set_option maxHeartbeats 400000 in
theorem isDigit_any (c : UInt8) (w : World) : Calls Tryd.prog 32 #[.int .u8 c.toNat] w fun e w' => e = .returned (.bool (digB c)) ∧ w = w' := by
  obtain ⟨b, hb⟩ : ∃ b, b = digB c := ⟨_, rfl⟩
  rw [← hb]
  have HB := Lib.hid hb
  clear hb
  by_cases h1 : 48 ≤ c.toNat
  · have ih1 : (48 : Int) ≤ (c.toNat : Int) := by first | omega | (simp; omega)
    by_cases h2 : c.toNat ≤ 57
    · have ih2 : (c.toNat : Int) ≤ 57 := by first | omega | (simp; omega)
      go_enter Tryd.func32, Tryd.ntmps32
      go_wp2
      go_ret
      exact ⟨ret_bool (by rw [HB.out]; unfold digB; simp; omega), rfl⟩
    · have ih2 : ¬ (c.toNat : Int) ≤ 57 := by first | omega | (simp; omega)
      go_enter Tryd.func32, Tryd.ntmps32
      go_wp2
      go_ret
      exact ⟨ret_bool (by rw [HB.out]; unfold digB; simp; omega), rfl⟩
  · have ih1 : ¬ (48 : Int) ≤ (c.toNat : Int) := by first | omega | (simp; omega)
    go_enter Tryd.func32, Tryd.ntmps32
    go_wp2
    go_ret
    exact ⟨ret_bool (by rw [HB.out]; unfold digB; simp; omega), rfl⟩

set_option maxHeartbeats 400000 in
theorem digit_any (c : UInt8) (w : World) : Calls Tryd.prog 20 #[.int .u8 c.toNat] w fun e w' => e = .returned (.bool (digB c)) ∧ w = w' := by
  obtain ⟨b, hb⟩ : ∃ b, b = digB c := ⟨_, rfl⟩
  rw [← hb]
  have HB := Lib.hid hb
  clear hb
  by_cases h1 : 48 ≤ c.toNat
  · have ih1 : (48 : Int) ≤ (c.toNat : Int) := by first | omega | (simp; omega)
    by_cases h2 : c.toNat ≤ 57
    · have ih2 : (c.toNat : Int) ≤ 57 := by first | omega | (simp; omega)
      go_enter Tryd.func20, Tryd.ntmps20
      go_wp2
      go_ret
      exact ⟨ret_bool (by rw [HB.out]; unfold digB; simp; omega), rfl⟩
    · have ih2 : ¬ (c.toNat : Int) ≤ 57 := by first | omega | (simp; omega)
      go_enter Tryd.func20, Tryd.ntmps20
      go_wp2
      go_ret
      exact ⟨ret_bool (by rw [HB.out]; unfold digB; simp; omega), rfl⟩
  · have ih1 : ¬ (48 : Int) ≤ (c.toNat : Int) := by first | omega | (simp; omega)
    go_enter Tryd.func20, Tryd.ntmps20
    go_wp2
    go_ret
    exact ⟨ret_bool (by rw [HB.out]; unfold digB; simp; omega), rfl⟩

set_option maxHeartbeats 400000 in
theorem isBlank_any (c : UInt8) (w : World) : Calls Tryd.prog 28 #[.int .u8 c.toNat] w fun e w' => e = .returned (.bool (blkB c)) ∧ w = w' := by
  obtain ⟨b, hb⟩ : ∃ b, b = blkB c := ⟨_, rfl⟩
  rw [← hb]
  have HB := Lib.hid hb
  clear hb
  by_cases h1 : c.toNat = 32
  · have ih1 : ((c.toNat : Int) == 32) = true := by first | omega | (simp; omega)
    go_enter Tryd.func28, Tryd.ntmps28
    go_wp2
    go_ret
    exact ⟨ret_bool (by rw [HB.out]; unfold blkB; simp; omega), rfl⟩
  · have ih1 : ((c.toNat : Int) == 32) = false := by first | omega | (simp; omega)
    by_cases h2 : c.toNat = 9
    · have ih2 : ((c.toNat : Int) == 9) = true := by first | omega | (simp; omega)
      go_enter Tryd.func28, Tryd.ntmps28
      go_wp2
      go_ret
      exact ⟨ret_bool (by rw [HB.out]; unfold blkB; simp; omega), rfl⟩
    · have ih2 : ((c.toNat : Int) == 9) = false := by first | omega | (simp; omega)
      by_cases h3 : c.toNat = 10
      · have ih3 : ((c.toNat : Int) == 10) = true := by first | omega | (simp; omega)
        go_enter Tryd.func28, Tryd.ntmps28
        go_wp2
        go_ret
        exact ⟨ret_bool (by rw [HB.out]; unfold blkB; simp; omega), rfl⟩
      · have ih3 : ((c.toNat : Int) == 10) = false := by first | omega | (simp; omega)
        by_cases h4 : c.toNat = 13
        · have ih4 : ((c.toNat : Int) == 13) = true := by first | omega | (simp; omega)
          go_enter Tryd.func28, Tryd.ntmps28
          go_wp2
          go_ret
          exact ⟨ret_bool (by rw [HB.out]; unfold blkB; simp; omega), rfl⟩
        · have ih4 : ((c.toNat : Int) == 13) = false := by first | omega | (simp; omega)
          go_enter Tryd.func28, Tryd.ntmps28
          go_wp2
          go_ret
          exact ⟨ret_bool (by rw [HB.out]; unfold blkB; simp; omega), rfl⟩


end Go.Proofs.YteikheaanefgbaaDoor
