/-
  CONTRACTS: what num.IsBinary, IsUnary, Do, Level and Swap answer, at all arguments; the world is as it was. No condition.
-/
import Derived.Test.YtgdchlgepgbhhaaDoorProg
import Derived.Test.YtgdchlgepgbhhaaDoorPlain
import Derived.WalkKit
import Derived.WalkSpells
import Derived.WalkLawsBesides
namespace Go.Proofs.YtgdchlgepgbhhaaDoor
open Go.RowKit

theorem ret2_int {k : IntKind} {a b c d : Int} (h : a = b) (g : c = d) : Ending.returned (.tuple #[.int k a, .int k c]) = .returned (.tuple #[.int k b, .int k d]) := by rw [h, g]
theorem ret_int {k : IntKind} {a b : Int} (h : a = b) : Ending.returned (.int k a) = .returned (.int k b) := by rw [h]
theorem ret_bool {a b : Bool} (h : a = b) : Ending.returned (.bool a) = .returned (.bool b) := by rw [h]

set_option maxHeartbeats 400000 in
theorem isBinary_any (op : Int) (w : World) : Calls Tryd.prog 13 #[.int .i64 op] w fun e w' => e = .returned (.bool (binB op)) ∧ w = w' := by
  go_enter Tryd.func13, Tryd.ntmps13
  go_wp2
  all_goals go_ret
  all_goals exact ⟨ret_bool (by unfold binB; first | (simp [*]; done) | (simp; omega)), rfl⟩
set_option maxHeartbeats 400000 in
theorem isUnary_any (op : Int) (w : World) : Calls Tryd.prog 14 #[.int .i64 op] w fun e w' => e = .returned (.bool (unB op)) ∧ w = w' := by
  go_enter Tryd.func14, Tryd.ntmps14
  go_wp2
  all_goals go_ret
  all_goals exact ⟨ret_bool (by simp [unB, *]), rfl⟩
set_option maxHeartbeats 400000 in
theorem level_any (op : Int) (w : World) : Calls Tryd.prog 18 #[.int .i64 op] w fun e w' => e = .returned (.int .i64 (levelV op)) ∧ w = w' := by
  go_enter Tryd.func18, Tryd.ntmps18
  go_wp2
  all_goals go_ret
  all_goals (refine ⟨ret_int ?_, rfl⟩; simp only [beq_iff_eq, beq_eq_false_iff_ne, ne_eq] at *; unfold levelV; (repeat' split) <;> omega)
set_option maxHeartbeats 400000 in
theorem swap_any (op : Int) (w : World) : Calls Tryd.prog 24 #[.int .i64 op] w fun e w' => e = .returned (.int .i64 (swapV op)) ∧ w = w' := by
  go_enter Tryd.func24, Tryd.ntmps24
  go_wp2
  all_goals go_ret
  all_goals (refine ⟨ret_int ?_, rfl⟩; simp only [beq_iff_eq, beq_eq_false_iff_ne, ne_eq] at *; unfold swapV; (repeat' split) <;> omega)


theorem op_cases (op : Int) : op = 1 ∨ op = 2 ∨ op = 3 ∨ op = 4 ∨ op = 5 ∨ op = 6 ∨ op = 7 ∨ op = 8 ∨ op = 9 ∨ op = 10 ∨ op = 11 ∨ op = 12 ∨ op = 13 ∨ op = 14 ∨ op = 15 ∨ op = 16 ∨ op = 17 ∨ op = 18 ∨ (op < 1 ∨ 18 < op) := by omega

set_option maxHeartbeats 400000 in
theorem do_none (op x y : Int) (w : World) (h : op < 1 ∨ 18 < op) : Calls Tryd.prog 11 #[.int .i64 op, .int .i64 x, .int .i64 y] w fun e w' => e = .returned (.tuple #[.int .i64 (doV op x y), .int .i64 (doE op y)]) ∧ w = w' := by
  have e1 : binB op = false := by unfold binB; simp; omega
  have e2 : unB op = false := by unfold unB; simp; omega
  go_enter Tryd.func11, Tryd.ntmps11
  go_wp2_with (first | (go_at_call 13; refine (isBinary_any _ _).mono ?_; rintro e w' ⟨rfl, rfl⟩) | (go_at_call 14; refine (isUnary_any _ _).mono ?_; rintro e w' ⟨rfl, rfl⟩))
  go_ret2
  exact ⟨ret2_int (by simp [doV, doE, h]) (by simp [doE, h]), rfl⟩

set_option maxHeartbeats 400000 in
theorem do_1 (x y : Int) (w : World) : Calls Tryd.prog 11 #[.int .i64 1, .int .i64 x, .int .i64 y] w fun e w' => e = .returned (.tuple #[.int .i64 (doV 1 x y), .int .i64 (doE 1 y)]) ∧ w = w' := by
  go_enter Tryd.func11, Tryd.ntmps11
  go_wp2
  all_goals go_ret2
  all_goals exact ⟨ret2_int (by simp [doV, doE, faultV, coreV, *]) (by simp [doE, faultV]), rfl⟩

set_option maxHeartbeats 400000 in
theorem do_2 (x y : Int) (w : World) : Calls Tryd.prog 11 #[.int .i64 2, .int .i64 x, .int .i64 y] w fun e w' => e = .returned (.tuple #[.int .i64 (doV 2 x y), .int .i64 (doE 2 y)]) ∧ w = w' := by
  go_enter Tryd.func11, Tryd.ntmps11
  go_wp2
  all_goals go_ret2
  all_goals exact ⟨ret2_int (by simp [doV, doE, faultV, coreV, *]) (by simp [doE, faultV]), rfl⟩

set_option maxHeartbeats 400000 in
theorem do_3 (x y : Int) (w : World) : Calls Tryd.prog 11 #[.int .i64 3, .int .i64 x, .int .i64 y] w fun e w' => e = .returned (.tuple #[.int .i64 (doV 3 x y), .int .i64 (doE 3 y)]) ∧ w = w' := by
  go_enter Tryd.func11, Tryd.ntmps11
  go_wp2
  all_goals go_ret2
  all_goals exact ⟨ret2_int (by simp [doV, doE, faultV, coreV, *]) (by simp [doE, faultV]), rfl⟩

set_option maxHeartbeats 400000 in
theorem do_6 (x y : Int) (w : World) : Calls Tryd.prog 11 #[.int .i64 6, .int .i64 x, .int .i64 y] w fun e w' => e = .returned (.tuple #[.int .i64 (doV 6 x y), .int .i64 (doE 6 y)]) ∧ w = w' := by
  go_enter Tryd.func11, Tryd.ntmps11
  go_wp2
  all_goals go_ret2
  all_goals exact ⟨ret2_int (by simp [doV, doE, faultV, coreV, *]) (by simp [doE, faultV]), rfl⟩

set_option maxHeartbeats 400000 in
theorem do_7 (x y : Int) (w : World) : Calls Tryd.prog 11 #[.int .i64 7, .int .i64 x, .int .i64 y] w fun e w' => e = .returned (.tuple #[.int .i64 (doV 7 x y), .int .i64 (doE 7 y)]) ∧ w = w' := by
  go_enter Tryd.func11, Tryd.ntmps11
  go_wp2
  all_goals go_ret2
  all_goals exact ⟨ret2_int (by simp [doV, doE, faultV, coreV, *]) (by simp [doE, faultV]), rfl⟩

set_option maxHeartbeats 400000 in
theorem do_8 (x y : Int) (w : World) : Calls Tryd.prog 11 #[.int .i64 8, .int .i64 x, .int .i64 y] w fun e w' => e = .returned (.tuple #[.int .i64 (doV 8 x y), .int .i64 (doE 8 y)]) ∧ w = w' := by
  go_enter Tryd.func11, Tryd.ntmps11
  go_wp2
  all_goals go_ret2
  all_goals exact ⟨ret2_int (by simp [doV, doE, faultV, coreV, *]) (by simp [doE, faultV]), rfl⟩

set_option maxHeartbeats 400000 in
theorem do_11 (x y : Int) (w : World) : Calls Tryd.prog 11 #[.int .i64 11, .int .i64 x, .int .i64 y] w fun e w' => e = .returned (.tuple #[.int .i64 (doV 11 x y), .int .i64 (doE 11 y)]) ∧ w = w' := by
  by_cases h : x = y
  · have hv : doV 11 x y = 1 := by simp [doV, doE, faultV, coreV, h]
    have he : doE 11 y = 0 := by simp [doE, faultV]
    have hb : (x == y) = true := by simpa using h
    rw [hv, he]
    clear h hv he
    go_enter Tryd.func11, Tryd.ntmps11
    go_wp2
    go_ret2
    exact ⟨rfl, rfl⟩
  · have hv : doV 11 x y = 0 := by simp [doV, doE, faultV, coreV, h]
    have he : doE 11 y = 0 := by simp [doE, faultV]
    have hb : (x == y) = false := by simpa using h
    rw [hv, he]
    clear h hv he
    go_enter Tryd.func11, Tryd.ntmps11
    go_wp2
    go_ret2
    exact ⟨rfl, rfl⟩

set_option maxHeartbeats 400000 in
theorem do_12 (x y : Int) (w : World) : Calls Tryd.prog 11 #[.int .i64 12, .int .i64 x, .int .i64 y] w fun e w' => e = .returned (.tuple #[.int .i64 (doV 12 x y), .int .i64 (doE 12 y)]) ∧ w = w' := by
  by_cases h : x = y
  · have hv : doV 12 x y = 0 := by simp [doV, doE, faultV, coreV, h]
    have he : doE 12 y = 0 := by simp [doE, faultV]
    have hb : (x != y) = false := by simpa using h
    rw [hv, he]
    clear h hv he
    go_enter Tryd.func11, Tryd.ntmps11
    go_wp2
    go_ret2
    exact ⟨rfl, rfl⟩
  · have hv : doV 12 x y = 1 := by simp [doV, doE, faultV, coreV, h]
    have he : doE 12 y = 0 := by simp [doE, faultV]
    have hb : (x != y) = true := by simpa using h
    rw [hv, he]
    clear h hv he
    go_enter Tryd.func11, Tryd.ntmps11
    go_wp2
    go_ret2
    exact ⟨rfl, rfl⟩

set_option maxHeartbeats 400000 in
theorem do_13 (x y : Int) (w : World) : Calls Tryd.prog 11 #[.int .i64 13, .int .i64 x, .int .i64 y] w fun e w' => e = .returned (.tuple #[.int .i64 (doV 13 x y), .int .i64 (doE 13 y)]) ∧ w = w' := by
  by_cases h : x < y
  · have hv : doV 13 x y = 1 := by simp [doV, doE, faultV, coreV, h]
    have he : doE 13 y = 0 := by simp [doE, faultV]
    have hb : decide (x < y) = true := by simpa using h
    rw [hv, he]
    clear h hv he
    go_enter Tryd.func11, Tryd.ntmps11
    go_wp2
    go_ret2
    exact ⟨rfl, rfl⟩
  · have hv : doV 13 x y = 0 := by simp [doV, doE, faultV, coreV, h]
    have he : doE 13 y = 0 := by simp [doE, faultV]
    have hb : decide (x < y) = false := by simpa using h
    rw [hv, he]
    clear h hv he
    go_enter Tryd.func11, Tryd.ntmps11
    go_wp2
    go_ret2
    exact ⟨rfl, rfl⟩

set_option maxHeartbeats 400000 in
theorem do_14 (x y : Int) (w : World) : Calls Tryd.prog 11 #[.int .i64 14, .int .i64 x, .int .i64 y] w fun e w' => e = .returned (.tuple #[.int .i64 (doV 14 x y), .int .i64 (doE 14 y)]) ∧ w = w' := by
  by_cases h : x ≤ y
  · have hv : doV 14 x y = 1 := by simp [doV, doE, faultV, coreV, h]
    have he : doE 14 y = 0 := by simp [doE, faultV]
    have hb : decide (x ≤ y) = true := by simpa using h
    rw [hv, he]
    clear h hv he
    go_enter Tryd.func11, Tryd.ntmps11
    go_wp2
    go_ret2
    exact ⟨rfl, rfl⟩
  · have hv : doV 14 x y = 0 := by simp [doV, doE, faultV, coreV, h]
    have he : doE 14 y = 0 := by simp [doE, faultV]
    have hb : decide (x ≤ y) = false := by simpa using h
    rw [hv, he]
    clear h hv he
    go_enter Tryd.func11, Tryd.ntmps11
    go_wp2
    go_ret2
    exact ⟨rfl, rfl⟩

set_option maxHeartbeats 400000 in
theorem do_15 (x y : Int) (w : World) : Calls Tryd.prog 11 #[.int .i64 15, .int .i64 x, .int .i64 y] w fun e w' => e = .returned (.tuple #[.int .i64 (doV 15 x y), .int .i64 (doE 15 y)]) ∧ w = w' := by
  by_cases h : y < x
  · have hv : doV 15 x y = 1 := by simp [doV, doE, faultV, coreV, h]
    have he : doE 15 y = 0 := by simp [doE, faultV]
    have hb : decide (y < x) = true := by simpa using h
    rw [hv, he]
    clear h hv he
    go_enter Tryd.func11, Tryd.ntmps11
    go_wp2
    go_ret2
    exact ⟨rfl, rfl⟩
  · have hv : doV 15 x y = 0 := by simp [doV, doE, faultV, coreV, h]
    have he : doE 15 y = 0 := by simp [doE, faultV]
    have hb : decide (y < x) = false := by simpa using h
    rw [hv, he]
    clear h hv he
    go_enter Tryd.func11, Tryd.ntmps11
    go_wp2
    go_ret2
    exact ⟨rfl, rfl⟩

set_option maxHeartbeats 400000 in
theorem do_16 (x y : Int) (w : World) : Calls Tryd.prog 11 #[.int .i64 16, .int .i64 x, .int .i64 y] w fun e w' => e = .returned (.tuple #[.int .i64 (doV 16 x y), .int .i64 (doE 16 y)]) ∧ w = w' := by
  by_cases h : y ≤ x
  · have hv : doV 16 x y = 1 := by simp [doV, doE, faultV, coreV, h]
    have he : doE 16 y = 0 := by simp [doE, faultV]
    have hb : decide (y ≤ x) = true := by simpa using h
    rw [hv, he]
    clear h hv he
    go_enter Tryd.func11, Tryd.ntmps11
    go_wp2
    go_ret2
    exact ⟨rfl, rfl⟩
  · have hv : doV 16 x y = 0 := by simp [doV, doE, faultV, coreV, h]
    have he : doE 16 y = 0 := by simp [doE, faultV]
    have hb : decide (y ≤ x) = false := by simpa using h
    rw [hv, he]
    clear h hv he
    go_enter Tryd.func11, Tryd.ntmps11
    go_wp2
    go_ret2
    exact ⟨rfl, rfl⟩

set_option maxHeartbeats 400000 in
theorem do_17 (x y : Int) (w : World) : Calls Tryd.prog 11 #[.int .i64 17, .int .i64 x, .int .i64 y] w fun e w' => e = .returned (.tuple #[.int .i64 (doV 17 x y), .int .i64 (doE 17 y)]) ∧ w = w' := by
  go_enter Tryd.func11, Tryd.ntmps11
  go_wp2
  all_goals go_ret2
  all_goals exact ⟨ret2_int (by simp [doV, doE, faultV, coreV, *]) (by simp [doE, faultV]), rfl⟩

set_option maxHeartbeats 400000 in
theorem do_18 (x y : Int) (w : World) : Calls Tryd.prog 11 #[.int .i64 18, .int .i64 x, .int .i64 y] w fun e w' => e = .returned (.tuple #[.int .i64 (doV 18 x y), .int .i64 (doE 18 y)]) ∧ w = w' := by
  by_cases h : x = 0
  · have hv : doV 18 x y = 1 := by simp [doV, doE, faultV, coreV, h]
    have he : doE 18 y = 0 := by simp [doE, faultV]
    have hb : (x == 0) = true := by simpa using h
    rw [hv, he]
    clear h hv he
    go_enter Tryd.func11, Tryd.ntmps11
    go_wp2
    go_ret2
    exact ⟨rfl, rfl⟩
  · have hv : doV 18 x y = 0 := by simp [doV, doE, faultV, coreV, h]
    have he : doE 18 y = 0 := by simp [doE, faultV]
    have hb : (x == 0) = false := by simpa using h
    rw [hv, he]
    clear h hv he
    go_enter Tryd.func11, Tryd.ntmps11
    go_wp2
    go_ret2
    exact ⟨rfl, rfl⟩

set_option maxHeartbeats 400000 in
theorem do_4 (x y : Int) (w : World) : Calls Tryd.prog 11 #[.int .i64 4, .int .i64 x, .int .i64 y] w fun e w' => e = .returned (.tuple #[.int .i64 (doV 4 x y), .int .i64 (doE 4 y)]) ∧ w = w' := by
  by_cases h : y = 0
  · subst h
    go_enter Tryd.func11, Tryd.ntmps11
    go_wp2
    go_ret2
    exact ⟨ret2_int (by simp [doV, doE, faultV]) (by simp [doE, faultV]), rfl⟩
  · have hb : (y == 0) = false := by simpa using h
    go_enter Tryd.func11, Tryd.ntmps11
    go_wp2
    all_goals go_ret2
    all_goals exact ⟨ret2_int (by simp [doV, doE, faultV, coreV, h]) (by simp [doE, faultV, h]), rfl⟩

set_option maxHeartbeats 400000 in
theorem do_5 (x y : Int) (w : World) : Calls Tryd.prog 11 #[.int .i64 5, .int .i64 x, .int .i64 y] w fun e w' => e = .returned (.tuple #[.int .i64 (doV 5 x y), .int .i64 (doE 5 y)]) ∧ w = w' := by
  by_cases h : y = 0
  · subst h
    go_enter Tryd.func11, Tryd.ntmps11
    go_wp2
    go_ret2
    exact ⟨ret2_int (by simp [doV, doE, faultV]) (by simp [doE, faultV]), rfl⟩
  · have hb : (y == 0) = false := by simpa using h
    go_enter Tryd.func11, Tryd.ntmps11
    go_wp2
    all_goals go_ret2
    all_goals exact ⟨ret2_int (by simp [doV, doE, faultV, coreV, h]) (by simp [doE, faultV, h]), rfl⟩

set_option maxHeartbeats 400000 in
theorem do_9 (x y : Int) (w : World) : Calls Tryd.prog 11 #[.int .i64 9, .int .i64 x, .int .i64 y] w fun e w' => e = .returned (.tuple #[.int .i64 (doV 9 x y), .int .i64 (doE 9 y)]) ∧ w = w' := by
  by_cases h : y < 0
  · go_enter Tryd.func11, Tryd.ntmps11
    go_wp2
    go_ret2
    exact ⟨ret2_int (by simp [doV, doE, faultV, h]) (by simp [doE, faultV, h]), rfl⟩
  · go_enter Tryd.func11, Tryd.ntmps11
    go_wp2
    all_goals go_ret2
    all_goals exact ⟨ret2_int (by simp [doV, doE, faultV, coreV, h, shlV]) (by simp [doE, faultV, h]), rfl⟩

set_option maxHeartbeats 400000 in
theorem do_10 (x y : Int) (w : World) : Calls Tryd.prog 11 #[.int .i64 10, .int .i64 x, .int .i64 y] w fun e w' => e = .returned (.tuple #[.int .i64 (doV 10 x y), .int .i64 (doE 10 y)]) ∧ w = w' := by
  by_cases h : y < 0
  · go_enter Tryd.func11, Tryd.ntmps11
    go_wp2
    go_ret2
    exact ⟨ret2_int (by simp [doV, doE, faultV, h]) (by simp [doE, faultV, h]), rfl⟩
  · go_enter Tryd.func11, Tryd.ntmps11
    go_wp2
    all_goals go_ret2
    all_goals exact ⟨ret2_int (by simp [doV, doE, faultV, coreV, h, shrV]) (by simp [doE, faultV, h]), rfl⟩

theorem do_any (op x y : Int) (w : World) : Calls Tryd.prog 11 #[.int .i64 op, .int .i64 x, .int .i64 y] w fun e w' => e = .returned (.tuple #[.int .i64 (doV op x y), .int .i64 (doE op y)]) ∧ w = w' := by
  rcases op_cases op with rfl | rfl | rfl | rfl | rfl | rfl | rfl | rfl | rfl | rfl | rfl | rfl | rfl | rfl | rfl | rfl | rfl | rfl | h
  · exact do_1 x y w
  · exact do_2 x y w
  · exact do_3 x y w
  · exact do_4 x y w
  · exact do_5 x y w
  · exact do_6 x y w
  · exact do_7 x y w
  · exact do_8 x y w
  · exact do_9 x y w
  · exact do_10 x y w
  · exact do_11 x y w
  · exact do_12 x y w
  · exact do_13 x y w
  · exact do_14 x y w
  · exact do_15 x y w
  · exact do_16 x y w
  · exact do_17 x y w
  · exact do_18 x y w
  · exact do_none op x y w h

end Go.Proofs.YtgdchlgepgbhhaaDoor
