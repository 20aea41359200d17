/-
  NumShifts: THE LAW's CONTRACT: it answers true for every x, a and b that an int holds, in a world in which the listed variables lie as the program's text lays them; of what was there nothing has turned.
-/
import Derived.Test.YtgdchlgepgbhhaaDoorLaid
import Derived.Test.YtgdchlgepgbhhaaDoorShift
namespace Go.Proofs.YtgdchlgepgbhhaaDoor
open Go.RowKit

theorem do9_ok (x y z : Int) (w : World) (hy : 0 ≤ y) (h : shlV x y = z) : Calls Tryd.prog 11 #[.int .i64 9, .int .i64 x, .int .i64 y] w fun e w' => e = .returned (.tuple #[.int .i64 z, .int .i64 0]) ∧ w = w' := by
  refine (do_9 x y w).mono ?_
  rintro e w' ⟨rfl, rfl⟩
  have he : doE 9 y = 0 := by simp [doE, faultV]; omega
  exact ⟨ret2_int (by unfold doV; rw [if_pos he]; simpa [coreV] using h) he, rfl⟩
theorem do10_ok (x y z : Int) (w : World) (hy : 0 ≤ y) (h : shrV x y = z) : Calls Tryd.prog 11 #[.int .i64 10, .int .i64 x, .int .i64 y] w fun e w' => e = .returned (.tuple #[.int .i64 z, .int .i64 0]) ∧ w = w' := by
  refine (do_10 x y w).mono ?_
  rintro e w' ⟨rfl, rfl⟩
  have he : doE 10 y = 0 := by simp [doE, faultV]; omega
  exact ⟨ret2_int (by unfold doV; rw [if_pos he]; simpa [coreV] using h) he, rfl⟩
theorem do9_neg (x y : Int) (w : World) (hy : y < 0) : Calls Tryd.prog 11 #[.int .i64 9, .int .i64 x, .int .i64 y] w fun e w' => e = .returned (.tuple #[.int .i64 0, .int .i64 12]) ∧ w = w' := by
  refine (do_9 x y w).mono ?_
  rintro e w' ⟨rfl, rfl⟩
  have he : doE 9 y = 12 := by simp [doE, faultV, hy]
  exact ⟨ret2_int (by unfold doV; rw [he]; rfl) he, rfl⟩

set_option maxHeartbeats 400000 in
theorem shifts_walk (x a b : Int) (w : World) (G : Good w) (hx0 : -9223372036854775808 ≤ x) (hx1 : x ≤ 9223372036854775807) :
    Calls Tryd.prog 9 #[.int .i64 x, .int .i64 a, .int .i64 b] w fun e w' => e = .returned (.bool true) ∧ Below w.heap.size w w' := by
  have HX : Hid (-9223372036854775808 ≤ x ∧ x ≤ 9223372036854775807) := ⟨hx0, hx1⟩
  clear hx0 hx1
  go_enter Tryd.func9, Tryd.ntmps9
  go_wp2_with fail
  refine (awake_true w G).mono ?_
  rintro e w1 ⟨rfl, hb1⟩
  go_wp2_with fail
  obtain ⟨n0, n1⟩ := cnt_bd a
  obtain ⟨m0, m1⟩ := cnt_bd b
  generalize wrap64 ((IntKind.u64.wrap a).tmod 100) = n at *
  generalize wrap64 ((IntKind.u64.wrap b).tmod 100) = m at *
  go_loop [9] (fun o => ∃ k : Nat, 9 ≤ k ∧ k ≤ 11 ∧ o = .int .i64 k) (fun o => 11 - (intOf o).toNat)
  case atStart => exact ⟨9, by omega, by omega, rfl⟩
  case round =>
    obtain ⟨k, hk1, hk2, rfl⟩ := hrel
    rcases (by omega : k = 9 ∨ k = 10 ∨ k = 11) with rfl | rfl | rfl
    · clear hk1 hk2
      obtain ⟨y, hy⟩ : ∃ y, shlV x n = y := ⟨_, rfl⟩
      obtain ⟨z, hz⟩ : ∃ z, shlV x (n + m) = z := ⟨_, rfl⟩
      have HY := Lib.hid hy
      have HZ := Lib.hid hz
      have hz2 : shlV y m = z := by rw [← hy, ← hz, shl_add x n m n0 n1 m0 m1]
      have HZ2 := Lib.hid hz2
      clear hy hz hz2
      go_wp2_with fail
      refine (do9_ok x n y _ n0 HY.out).mono ?_
      rintro e w' ⟨rfl, rfl⟩
      go_wp2_with fail
      refine (do9_ok y m z _ m0 HZ2.out).mono ?_
      rintro e w' ⟨rfl, rfl⟩
      go_wp2_with fail
      refine (do9_ok x (n + m) z _ (by omega) HZ.out).mono ?_
      rintro e w' ⟨rfl, rfl⟩
      go_wp2_with fail
      go_round
      case rel => exact ⟨10, by omega, by omega, rfl⟩
      case measure => simp [intOf]
    · clear hk1 hk2
      obtain ⟨y, hy⟩ : ∃ y, shrV x n = y := ⟨_, rfl⟩
      obtain ⟨z, hz⟩ : ∃ z, shrV x (n + m) = z := ⟨_, rfl⟩
      have HY := Lib.hid hy
      have HZ := Lib.hid hz
      have hz2 : shrV y m = z := by rw [← hy, ← hz, shr_add x n m HX.out.1 HX.out.2 n0 n1 m0 m1]
      have HZ2 := Lib.hid hz2
      clear hy hz hz2
      go_wp2_with fail
      refine (do10_ok x n y _ n0 HY.out).mono ?_
      rintro e w' ⟨rfl, rfl⟩
      go_wp2_with fail
      refine (do10_ok y m z _ m0 HZ2.out).mono ?_
      rintro e w' ⟨rfl, rfl⟩
      go_wp2_with fail
      refine (do10_ok x (n + m) z _ (by omega) HZ.out).mono ?_
      rintro e w' ⟨rfl, rfl⟩
      go_wp2_with fail
      go_round
      case rel => exact ⟨11, by omega, by omega, rfl⟩
      case measure => simp [intOf]
    · clear hk1 hk2
      go_wp2_with fail
      refine (do9_neg x _ _ (by omega)).mono ?_
      rintro e w' ⟨rfl, rfl⟩
      go_wp2_with fail
      go_ret
      exact ⟨rfl, hb1⟩

end Go.Proofs.YtgdchlgepgbhhaaDoor
