/-
  LexLines: THE LAW's CONTRACT: it answers true for every text and every number that an int holds, in a world in which the listed variables lie as the program's text lays them; of what was there nothing has turned.
-/
import Derived.Test.YteikheaanefgbaaDoorLaid
namespace Go.Proofs.YteikheaanefgbaaDoor
open Go.RowKit

theorem mod_place (n : Int) (m : Nat) (hm : m ≤ 4096) (i : Int) (h : wrap64 ((IntKind.u64.wrap n).tmod ((m : Int) + 1)) = i) : ∃ k : Nat, k ≤ m ∧ i = k := by
  have h1 : IntKind.u64.wrap n = n % 18446744073709551616 := rfl
  have h2 : 0 ≤ n % 18446744073709551616 := Int.emod_nonneg _ (by omega)
  rw [h1, Int.tmod_eq_emod_of_nonneg h2] at h
  have h3 := Int.emod_nonneg (n % 18446744073709551616) (show ((m : Int) + 1) ≠ 0 by omega)
  have h4 := Int.emod_lt_of_pos (n % 18446744073709551616) (show 0 < ((m : Int) + 1) by omega)
  generalize n % 18446744073709551616 % ((m : Int) + 1) = j at h h3 h4
  obtain ⟨k, rfl⟩ := Int.eq_ofNat_of_zero_le h3
  refine ⟨k, by omega, ?_⟩
  rw [← h]; unfold wrap64; omega
theorem line_to (s : ByteArray) (p a b : Int) (w : World) (hs : s.size ≤ 281474976710656) (hp : p ≤ 9223372036854775807) (h : Hid (lineV s.data.toList p = (a, b))) :
    Calls Tryd.prog 14 #[.string s, .int .i64 p] w fun e w' => e = .returned (.tuple #[.int .i64 a, .int .i64 b]) ∧ w = w' := by
  refine (line_any s p w hs hp).mono ?_
  rintro e w' ⟨rfl, rfl⟩
  exact ⟨(ret_pair h.out).symm, rfl⟩

set_option maxRecDepth 20000 in
set_option maxHeartbeats 800000 in
theorem lines_walk (s : ByteArray) (n : Int) (w : World) (G : Good w) :
    Calls Tryd.prog 6 #[.string s, .int .i64 n] w fun e w' => e = .returned (.bool true) ∧ Below w.heap.size w w' := by
  go_enter Tryd.func6, Tryd.ntmps6
  go_wp2_with fail
  refine (awake_true w G).mono ?_
  rintro e w1 ⟨rfl, b1⟩
  clear G
  by_cases hl : 4096 < s.size
  · have hl' : (4096 : Int) < (s.size : Int) := by omega
    go_wp2_with fail
    go_ret
    exact ⟨rfl, b1⟩
  · have hl' : ¬ (4096 : Int) < (s.size : Int) := by omega
    go_wp2_with fail
    generalize hx : wrap64 ((IntKind.u64.wrap n).tmod ((s.size : Int) + 1)) = i
    obtain ⟨k, hk, rfl⟩ : ∃ k : Nat, k ≤ s.size ∧ i = k := mod_place n s.size (by omega) i hx
    clear hx
    have hin := line_in s.data.toList k (by rw [len_size]; exact hk)
    have hpos := lcN_pos (s.data.toList.take k)
    have hle := lcN_le (s.data.toList.take k)
    rw [List.length_take, len_size] at hle
    obtain ⟨q, hq⟩ : ∃ q, lcN (s.data.toList.take k) = q := ⟨_, rfl⟩
    rw [hq] at hin hpos hle
    obtain ⟨ln, cn⟩ := q
    simp only at hin hpos hle
    have HIN := Lib.hid hin
    have HQ := Lib.hid hq
    clear hin hq
    refine (line_to s k ln cn _ (by omega) (by omega) HIN).mono ?_
    rintro e w' ⟨rfl, rfl⟩
    by_cases he : k = s.size
    · subst he
      have hout : lineV s.data.toList ((s.size : Int) + 1) = (0, 0) := line_out (Or.inr (by rw [len_size]; omega))
      have HOUT := Lib.hid hout
      have g1 : (1 : Int) ≤ (ln : Int) := by omega
      have g2 : (1 : Int) ≤ (cn : Int) := by omega
      clear hout
      go_wp2_with fail
      refine (line_to s _ 0 0 _ (by omega) (by omega) HOUT).mono ?_
      rintro e w' ⟨rfl, rfl⟩
      go_wp2_with fail
      go_ret
      exact ⟨rfl, b1⟩
    · have hlt : k < s.size := by omega
      have e1 : ((k : Int) == (s.size : Int)) = false := beq_eq_false_iff_ne.2 (by omega)
      have e2 : (k == s.size) = false := beq_eq_false_iff_ne.2 he
      have hnx := lcN_next s k hlt
      rw [HQ.out] at hnx
      have hin2 := line_in s.data.toList (k + 1) (by rw [len_size]; omega)
      rw [hnx] at hin2
      by_cases h10 : s[k] = 10
      · have hin3 : lineV s.data.toList ((k : Int) + 1) = ((ln : Int) + 1, 1) := by
          have : ((k + 1 : Nat) : Int) = (k : Int) + 1 := by omega
          rw [← this, hin2, lcStep, if_pos h10]; rfl
        have HIN3 := Lib.hid hin3
        have h10a : ((s[k].toNat : Int) == 10) = true := by rw [h10]; rfl
        clear hin3 hin2 hnx h10 he
        go_wp2_with fail
        refine (line_to s _ _ _ _ (by omega) (by omega) HIN3).mono ?_
        rintro e w' ⟨rfl, rfl⟩
        go_wp2_with fail
        go_ret
        exact ⟨rfl, b1⟩
      · have hin3 : lineV s.data.toList ((k : Int) + 1) = ((ln : Int), (cn : Int) + 1) := by
          have : ((k + 1 : Nat) : Int) = (k : Int) + 1 := by omega
          rw [← this, hin2, lcStep, if_neg h10]; rfl
        have HIN3 := Lib.hid hin3
        have h10a : ((s[k].toNat : Int) == 10) = false := by
          simp; intro e; exact h10 (UInt8.toNat_inj.1 (by show s[k].toNat = 10; omega))
        clear hin3 hin2 hnx h10 he
        go_wp2_with fail
        refine (line_to s _ _ _ _ (by omega) (by omega) HIN3).mono ?_
        rintro e w' ⟨rfl, rfl⟩
        go_wp2_with fail
        go_ret
        exact ⟨rfl, b1⟩

end Go.Proofs.YteikheaanefgbaaDoor
