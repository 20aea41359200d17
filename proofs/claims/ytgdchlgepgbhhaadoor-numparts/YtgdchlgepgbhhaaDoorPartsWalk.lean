/-
  NumParts: THE LAW's CONTRACT: it answers true for every x and y that an int holds, in a world in which the listed variables lie as the program's text lays them; of what was there nothing has turned.
-/
import Derived.Test.YtgdchlgepgbhhaaDoorLaid
import Derived.Test.YtgdchlgepgbhhaaDoorPart
namespace Go.Proofs.YtgdchlgepgbhhaaDoor
open Go.RowKit

theorem do_at (op x y v f : Int) (w : World) (hv : Hid (doV op x y = v)) (hf : Hid (doE op y = f)) : Calls Tryd.prog 11 #[.int .i64 op, .int .i64 x, .int .i64 y] w fun e w' => e = .returned (.tuple #[.int .i64 v, .int .i64 f]) ∧ w = w' := by
  refine (do_any op x y w).mono ?_
  rintro e w' ⟨rfl, rfl⟩
  exact ⟨ret2_int hv.out hf.out, rfl⟩

/-- How the law goes on behind its first test: what x divided by y comes to. -/
structure Div (x y : Int) : Prop where
  any : y = 0 ∨ (y ≠ 0 ∧ ∃ q r p : Int, doV 4 x y = q ∧ doV 5 x y = r ∧ doV 3 q y = p ∧ doV 1 p r = x ∧ (r = 0 ∨ (r < 0 ∧ x < 0) ∨ (0 < r ∧ 0 ≤ x)))

theorem div_of (x y : Int) (h0 : -9223372036854775808 ≤ x) (h1 : x ≤ 9223372036854775807) : Div x y := by
  refine ⟨?_⟩
  by_cases hy : y = 0
  · exact Or.inl hy
  · refine Or.inr ⟨hy, wrap64 (x.tdiv y), x.tmod y, wrap64 (wrap64 (x.tdiv y) * y), ?_, ?_, ?_, ?_, ?_⟩
    · simp [doV, doE, faultV, coreV, hy]
    · simp [doV, doE, faultV, coreV, hy]
    · simp [doV, doE, faultV, coreV]
    · have := p_all x y h0 h1
      simpa [doV, doE, faultV, coreV] using this
    · obtain ⟨a, b⟩ := p_sign x y
      omega

set_option maxHeartbeats 1000000 in
theorem parts_walk (x y : Int) (w : World) (G : Good w) (hx0 : -9223372036854775808 ≤ x) (hx1 : x ≤ 9223372036854775807) :
    Calls Tryd.prog 6 #[.int .i64 x, .int .i64 y] w fun e w' => e = .returned (.bool true) ∧ Below w.heap.size w w' := by
  have D := div_of x y hx0 hx1
  obtain ⟨s, hs⟩ : ∃ s, doV 1 x y = s := ⟨_, rfl⟩
  have hb : doV 2 s y = x := by
    have := p_back x y hx0 hx1
    rw [← hs]; simpa [doV, doE, faultV, coreV] using this
  obtain ⟨t, ht⟩ : ∃ t, doV 9 x 1 = t := ⟨_, rfl⟩
  have ht1 : t = wrap64 (x + x) := by rw [← ht]; simpa [doV, doE, faultV, coreV] using p_twice x
  have ht2 : doV 1 x x = t := by rw [ht1]; simp [doV, doE, faultV, coreV]
  obtain ⟨f, hf⟩ : ∃ f, doV 10 t 1 = f := ⟨_, rfl⟩
  have hf2 : f = x ∨ (-4611686018427387904 ≤ x → ¬ x < 4611686018427387904) := by
    by_cases a : -4611686018427387904 ≤ x
    · by_cases b : x < 4611686018427387904
      · refine Or.inl ?_
        have := p_half x a b
        rw [← hf, ht1]; simpa [doV, doE, faultV, coreV] using this
      · exact Or.inr fun _ => b
    · exact Or.inr fun c => absurd c a
  have e1 : ∀ y, doE 1 y = 0 := fun y => by simp [doE, faultV]
  have e2 : doE 2 y = 0 := by simp [doE, faultV]
  have e3 : doE 3 y = 0 := by simp [doE, faultV]
  have e9 : doE 9 1 = 0 := by decide
  have e10 : doE 10 1 = 0 := by decide
  have HS := Lib.hid hs
  have HB := Lib.hid hb
  have HT := Lib.hid ht
  have HT2 := Lib.hid ht2
  have HF := Lib.hid hf
  have E1 : ∀ y, Hid (doE 1 y = 0) := fun y => e1 y
  have E1' := Lib.hid E1
  have E2 := Lib.hid e2
  have E3 := Lib.hid e3
  have E9 := Lib.hid e9
  have E10 := Lib.hid e10
  clear hs hb ht ht1 ht2 hf e1 e2 e3 e9 e10 E1 hx0 hx1
  have hf3 : ¬ -4611686018427387904 ≤ x ∨ (-4611686018427387904 ≤ x ∧ ¬ x < 4611686018427387904) ∨ (-4611686018427387904 ≤ x ∧ x < 4611686018427387904 ∧ f = x) := by omega
  clear hf2
  go_enter Tryd.func6, Tryd.ntmps6
  go_wp2_with fail
  refine (awake_true w G).mono ?_
  rintro e w1 ⟨rfl, hb1⟩
  clear G
  go_wp2_with fail
  refine (do_at 1 x y s 0 _ HS (E1'.out y)).mono ?_
  rintro e w' ⟨rfl, rfl⟩
  go_wp2_with fail
  refine (do_at 2 s y x 0 _ HB E2).mono ?_
  rintro e w' ⟨rfl, rfl⟩
  go_wp2_with fail
  refine (do_at 9 x 1 t 0 _ HT E9).mono ?_
  rintro e w' ⟨rfl, rfl⟩
  go_wp2_with fail
  refine (do_at 1 x x t 0 _ HT2 (E1'.out x)).mono ?_
  rintro e w' ⟨rfl, rfl⟩
  go_wp2_with fail
  refine (do_at 10 t 1 f 0 _ HF E10).mono ?_
  rintro e w' ⟨rfl, rfl⟩
  have hd : decide (-4611686018427387904 ≤ x) = false ∨ (decide (-4611686018427387904 ≤ x) = true ∧ decide (x < 4611686018427387904) = false) ∨ (decide (-4611686018427387904 ≤ x) = true ∧ decide (x < 4611686018427387904) = true ∧ (f != x) = false) := by simpa using hf3
  clear hf3
  rcases D.any with rfl | ⟨hy, q, r, p, hq, hr, hp, ha, hrx⟩
  · have HQ : Hid (doV 4 x 0 = 0) := by simp [Hid, doV, doE, faultV]
    have HR : Hid (doV 5 x 0 = 0) := by simp [Hid, doV, doE, faultV]
    have E4 : Hid (doE 4 0 = 11) := by simp [Hid, doE, faultV]
    have E5 : Hid (doE 5 0 = 11) := by simp [Hid, doE, faultV]
    rcases hd with hd | ⟨hd, hd2⟩ | ⟨hd, hd2, hd3⟩
    all_goals
      go_wp2_with fail
      refine (do_at 4 x 0 0 11 _ HQ E4).mono ?_
      rintro e w' ⟨rfl, rfl⟩
      go_wp2_with fail
      refine (do_at 5 x 0 0 11 _ HR E5).mono ?_
      rintro e w' ⟨rfl, rfl⟩
      go_wp2_with fail
      go_ret
      exact ⟨rfl, hb1⟩
  · have HQ := Lib.hid hq
    have HR := Lib.hid hr
    have HP := Lib.hid hp
    have HA := Lib.hid ha
    have e4 : doE 4 y = 0 := by simp [doE, faultV, hy]
    have e5 : doE 5 y = 0 := by simp [doE, faultV, hy]
    have E4 := Lib.hid e4
    have E5 := Lib.hid e5
    have hyb : (y == 0) = false := by simpa using hy
    clear hq hr hp ha e4 e5 hy
    have hc : (r == 0) = true ∨ ((r == 0) = false ∧ decide (r < 0) = true ∧ decide (x < 0) = true) ∨ ((r == 0) = false ∧ decide (r < 0) = false ∧ decide (x < 0) = false) := by
      simp; omega
    clear hrx
    rcases hd with hd | ⟨hd, hd2⟩ | ⟨hd, hd2, hd3⟩
    all_goals
      go_wp2_with fail
      refine (do_at 4 x y q 0 _ HQ E4).mono ?_
      rintro e w' ⟨rfl, rfl⟩
      go_wp2_with fail
      refine (do_at 5 x y r 0 _ HR E5).mono ?_
      rintro e w' ⟨rfl, rfl⟩
      go_wp2_with fail
      refine (do_at 3 q y p 0 _ HP E3).mono ?_
      rintro e w' ⟨rfl, rfl⟩
      go_wp2_with fail
      refine (do_at 1 p r x 0 _ HA (E1'.out r)).mono ?_
      rintro e w' ⟨rfl, rfl⟩
      rcases hc with hc | ⟨hc, hc2, hc3⟩ | ⟨hc, hc2, hc3⟩
      all_goals
        go_wp2_with fail
        go_ret
        exact ⟨rfl, hb1⟩

end Go.Proofs.YtgdchlgepgbhhaaDoor
