/-
  CONTRACT: what the reference's Do answers: the value and the fault that the program's Do answers; of what was there nothing has turned. Condition: an int holds both numbers.
-/
import Derived.Test.YtgdchlgepgbhhaaDoorExact
import Derived.Test.YtgdchlgepgbhhaaDoorNum
import Derived.Test.YtgdchlgepgbhhaaDoorRefDo1
import Derived.Test.YtgdchlgepgbhhaaDoorRefDo3
import Derived.Test.YtgdchlgepgbhhaaDoorRefDo5
import Derived.Test.YtgdchlgepgbhhaaDoorRefDo6
import Derived.Test.YtgdchlgepgbhhaaDoorRefDo9
namespace Go.Proofs.YtgdchlgepgbhhaaDoor
open Go.RowKit

/-- Two answers that are the wanted ones. -/
theorem as_want {fs : FuncId} {vs : Array Value} {w : World} {v f v' f' : Int} (h : Calls Tryd.prog fs vs w fun e w' => e = .returned (.tuple #[.int .i64 v, .int .i64 f]) ∧ Below w.heap.size w w') (hv : v = v') (hf : f = f') :
    Calls Tryd.prog fs vs w fun e w' => e = .returned (.tuple #[.int .i64 v', .int .i64 f']) ∧ Below w.heap.size w w' := by
  subst hv
  subst hf
  exact h
theorem doV_fine (op x y : Int) (h : doE op y = 0) : doV op x y = coreV op x y := by unfold doV; rw [if_pos h]
theorem doV_bad (op x y : Int) (h : doE op y ≠ 0) : doV op x y = 0 := by unfold doV; rw [if_neg h]

abbrev bv (x : Int) : B64 := BitVec.ofInt 64 x

theorem ref_div (x y : Int) (hx : Int64 x) (hy : Int64 y) (w : World) : Calls Tryd.prog 12 #[.int .i64 4, .int .i64 x, .int .i64 y] w fun e w' => e = .returned (.tuple #[.int .i64 (doV 4 x y), .int .i64 (doE 4 y)]) ∧ Below w.heap.size w w' := by
  by_cases h0 : y = 0
  · have he : doE 4 y = 11 := by simp [doE, faultV, h0]
    refine as_want (refDo_4z x y (bv x) (bv y) w (Lib.hid rfl) (Lib.hid rfl) (Lib.hid ?_)) (doV_bad 4 x y (by rw [he]; decide)).symm he.symm
    rw [ofInt_zero' y hy, decide_eq_true h0]
  · have he : doE 4 y = 0 := by simp [doE, faultV, h0]
    have hb : (bv y == 0#64) = false := by rw [ofInt_zero' y hy, decide_eq_false h0]
    have hv : doV 4 x y = wrap64 (x.tdiv y) := by rw [doV_fine 4 x y he]; simp [coreV]
    cases ha : (bv x).getLsbD 63
    · cases hs : (bv y).getLsbD 63
      · exact as_want (refDo_4pp x y (bv x) (bv y) w (Lib.hid rfl) (Lib.hid rfl) _ _ _ _ (Lib.hid rfl) (Lib.hid rfl) (Lib.hid (size_pos _ hb)) (Lib.hid rfl) (Lib.hid rfl) (Lib.hid hb) ha hs _ (Lib.hid rfl)) (by rw [hv, sdiv_pp _ _ ha hs, v_div x y hx hy]) he.symm
      · exact as_want (refDo_4pn x y (bv x) (bv y) w (Lib.hid rfl) (Lib.hid rfl) _ _ _ _ (Lib.hid rfl) (Lib.hid rfl) (Lib.hid (size_pos _ hb)) (Lib.hid rfl) (Lib.hid rfl) (Lib.hid hb) _ (Lib.hid rfl) ha hs _ (Lib.hid rfl)) (by rw [hv, sdiv_pn _ _ ha hs, v_div x y hx hy]) he.symm
    · cases hs : (bv y).getLsbD 63
      · exact as_want (refDo_4np x y (bv x) (bv y) w (Lib.hid rfl) (Lib.hid rfl) _ _ _ _ (Lib.hid rfl) (Lib.hid rfl) (Lib.hid (size_pos _ hb)) (Lib.hid rfl) (Lib.hid rfl) (Lib.hid hb) _ (Lib.hid rfl) ha hs _ (Lib.hid rfl)) (by rw [hv, sdiv_np _ _ ha hs, v_div x y hx hy]) he.symm
      · exact as_want (refDo_4nn x y (bv x) (bv y) w (Lib.hid rfl) (Lib.hid rfl) _ _ _ _ (Lib.hid rfl) (Lib.hid rfl) (Lib.hid (size_pos _ hb)) (Lib.hid rfl) (Lib.hid rfl) (Lib.hid hb) ha hs _ (Lib.hid rfl)) (by rw [hv, sdiv_nn _ _ ha hs, v_div x y hx hy]) he.symm
theorem ref_rem (x y : Int) (hx : Int64 x) (hy : Int64 y) (w : World) : Calls Tryd.prog 12 #[.int .i64 5, .int .i64 x, .int .i64 y] w fun e w' => e = .returned (.tuple #[.int .i64 (doV 5 x y), .int .i64 (doE 5 y)]) ∧ Below w.heap.size w w' := by
  by_cases h0 : y = 0
  · have he : doE 5 y = 11 := by simp [doE, faultV, h0]
    refine as_want (refDo_5z x y (bv x) (bv y) w (Lib.hid rfl) (Lib.hid rfl) (Lib.hid ?_)) (doV_bad 5 x y (by rw [he]; decide)).symm he.symm
    rw [ofInt_zero' y hy, decide_eq_true h0]
  · have he : doE 5 y = 0 := by simp [doE, faultV, h0]
    have hb : (bv y == 0#64) = false := by rw [ofInt_zero' y hy, decide_eq_false h0]
    have hv : doV 5 x y = x.tmod y := by rw [doV_fine 5 x y he]; simp [coreV]
    cases ha : (bv x).getLsbD 63
    · cases hs : (bv y).getLsbD 63
      · exact as_want (refDo_5pp x y (bv x) (bv y) w (Lib.hid rfl) (Lib.hid rfl) _ _ _ _ (Lib.hid rfl) (Lib.hid rfl) (Lib.hid (size_pos _ hb)) (Lib.hid rfl) (Lib.hid rfl) (Lib.hid hb) ha hs _ (Lib.hid rfl)) (by rw [hv, srem_p _ _ ha, v_rem x y hx hy]) he.symm
      · exact as_want (refDo_5pn x y (bv x) (bv y) w (Lib.hid rfl) (Lib.hid rfl) _ _ _ _ (Lib.hid rfl) (Lib.hid rfl) (Lib.hid (size_pos _ hb)) (Lib.hid rfl) (Lib.hid rfl) (Lib.hid hb) _ (Lib.hid rfl) ha hs _ (Lib.hid rfl)) (by rw [hv, srem_p _ _ ha, v_rem x y hx hy]) he.symm
    · cases hs : (bv y).getLsbD 63
      · exact as_want (refDo_5np x y (bv x) (bv y) w (Lib.hid rfl) (Lib.hid rfl) _ _ _ _ (Lib.hid rfl) (Lib.hid rfl) (Lib.hid (size_pos _ hb)) (Lib.hid rfl) (Lib.hid rfl) (Lib.hid hb) _ (Lib.hid rfl) _ (Lib.hid rfl) ha hs _ (Lib.hid rfl)) (by rw [hv, srem_n _ _ ha, v_rem x y hx hy]) he.symm
      · exact as_want (refDo_5nn x y (bv x) (bv y) w (Lib.hid rfl) (Lib.hid rfl) _ _ _ _ (Lib.hid rfl) (Lib.hid rfl) (Lib.hid (size_pos _ hb)) (Lib.hid rfl) (Lib.hid rfl) (Lib.hid hb) _ (Lib.hid rfl) ha hs _ (Lib.hid rfl)) (by rw [hv, srem_n _ _ ha, v_rem x y hx hy]) he.symm
theorem ref_shl (x y : Int) (hy : Int64 y) (w : World) : Calls Tryd.prog 12 #[.int .i64 9, .int .i64 x, .int .i64 y] w fun e w' => e = .returned (.tuple #[.int .i64 (doV 9 x y), .int .i64 (doE 9 y)]) ∧ Below w.heap.size w w' := by
  by_cases h0 : y < 0
  · have he : doE 9 y = 12 := by simp [doE, faultV, h0]
    exact as_want (refDo_9z x y (bv x) (bv y) w (Lib.hid rfl) (Lib.hid rfl) (by rw [top_bit y hy, decide_eq_true h0])) (doV_bad 9 x y (by rw [he]; decide)).symm he.symm
  · have he : doE 9 y = 0 := by simp [doE, faultV, h0]
    have hb : (bv y).getLsbD 63 = false := by rw [top_bit y hy, decide_eq_false h0]
    have hv : doV 9 x y = shlV x y := by rw [doV_fine 9 x y he]; simp [coreV]
    by_cases h1 : y < 64
    · obtain ⟨n, rfl⟩ : ∃ n : Nat, y = (n : Int) := ⟨y.toNat, by omega⟩
      exact as_want (refDo_9s x n (bv x) (bv n) w (Lib.hid rfl) (Lib.hid rfl) hb h1 _ _ (Lib.hid rfl) (Lib.hid rfl)) (by rw [hv, v_shl x n (by omega)]) he.symm
    · exact as_want (refDo_9b x y (bv x) (bv y) w (Lib.hid rfl) (Lib.hid rfl) hb h1 _ _ (Lib.hid rfl) (Lib.hid rfl)) (by rw [hv, v_shl0 x y h1 hy]) he.symm
theorem ref_shr (x y : Int) (hx : Int64 x) (hy : Int64 y) (w : World) : Calls Tryd.prog 12 #[.int .i64 10, .int .i64 x, .int .i64 y] w fun e w' => e = .returned (.tuple #[.int .i64 (doV 10 x y), .int .i64 (doE 10 y)]) ∧ Below w.heap.size w w' := by
  by_cases h0 : y < 0
  · have he : doE 10 y = 12 := by simp [doE, faultV, h0]
    exact as_want (refDo_10z x y (bv x) (bv y) w (Lib.hid rfl) (Lib.hid rfl) (by rw [top_bit y hy, decide_eq_true h0])) (doV_bad 10 x y (by rw [he]; decide)).symm he.symm
  · have he : doE 10 y = 0 := by simp [doE, faultV, h0]
    have hb : (bv y).getLsbD 63 = false := by rw [top_bit y hy, decide_eq_false h0]
    have hv : doV 10 x y = shrV x y := by rw [doV_fine 10 x y he]; simp [coreV]
    by_cases h1 : y < 64
    · obtain ⟨n, rfl⟩ : ∃ n : Nat, y = (n : Int) := ⟨y.toNat, by omega⟩
      exact as_want (refDo_10s x n (bv x) (bv n) w (Lib.hid rfl) (Lib.hid rfl) hb h1 _ _ (Lib.hid rfl) (Lib.hid rfl)) (by rw [hv, v_shr x n n hy (by omega) (by omega) hx]) he.symm
    · exact as_want (refDo_10b x y (bv x) (bv y) w (Lib.hid rfl) (Lib.hid rfl) hb h1 _ _ (Lib.hid rfl) (Lib.hid rfl)) (by rw [hv, v_shr x 64 y hy (by omega) (by omega) hx]) he.symm
theorem eq_one (p : Prop) [Decidable p] (t : Bool) (h : t = decide p) : (if t = true then (1 : Int) else 0) = if p then 1 else 0 := by
  subst h
  by_cases hp : p
  · rw [if_pos hp, if_pos (decide_eq_true hp)]
  · rw [if_neg hp, if_neg (by rw [decide_eq_false hp]; exact Bool.false_ne_true)]

theorem refDo_any (op x y : Int) (hx : Int64 x) (hy : Int64 y) (w : World) : Calls Tryd.prog 12 #[.int .i64 op, .int .i64 x, .int .i64 y] w fun e w' => e = .returned (.tuple #[.int .i64 (doV op x y), .int .i64 (doE op y)]) ∧ Below w.heap.size w w' := by
  rcases op_cases op with rfl | rfl | rfl | rfl | rfl | rfl | rfl | rfl | rfl | rfl | rfl | rfl | rfl | rfl | rfl | rfl | rfl | rfl | h
  · exact as_want (refDo_1 x y (bv x) (bv y) w (Lib.hid rfl) (Lib.hid rfl) _ _ (Lib.hid rfl) (Lib.hid rfl)) (by rw [v_add, doV_fine 1 x y rfl]; rfl) rfl
  · exact as_want (refDo_2 x y (bv x) (bv y) w (Lib.hid rfl) (Lib.hid rfl) _ _ _ (Lib.hid rfl) (Lib.hid rfl) (Lib.hid rfl)) (by rw [v_sub, doV_fine 2 x y rfl]; rfl) rfl
  · exact as_want (refDo_3 x y (bv x) (bv y) w (Lib.hid rfl) (Lib.hid rfl) _ _ (Lib.hid rfl) (Lib.hid rfl)) (by rw [v_mul, doV_fine 3 x y rfl]; rfl) rfl
  · exact ref_div x y hx hy w
  · exact ref_rem x y hx hy w
  · exact as_want (refDo_6 x y (bv x) (bv y) w (Lib.hid rfl) (Lib.hid rfl) _ _ (Lib.hid rfl) (Lib.hid rfl)) (by rw [v_and, doV_fine 6 x y rfl]; rfl) rfl
  · exact as_want (refDo_7 x y (bv x) (bv y) w (Lib.hid rfl) (Lib.hid rfl) _ _ (Lib.hid rfl) (Lib.hid rfl)) (by rw [v_or, doV_fine 7 x y rfl]; rfl) rfl
  · exact as_want (refDo_8 x y (bv x) (bv y) w (Lib.hid rfl) (Lib.hid rfl) _ _ (Lib.hid rfl) (Lib.hid rfl)) (by rw [v_xor, doV_fine 8 x y rfl]; rfl) rfl
  · exact ref_shl x y hy w
  · exact ref_shr x y hx hy w
  · exact as_want (refDo_11 x y (bv x) (bv y) w (Lib.hid rfl) (Lib.hid rfl) _ _ (Lib.hid rfl) (Lib.hid rfl)) (by rw [eq_one (x = y) _ (ofInt_inj x y hx hy), doV_fine 11 x y rfl]; rfl) rfl
  · refine as_want (refDo_12 x y (bv x) (bv y) w (Lib.hid rfl) (Lib.hid rfl) _ _ (Lib.hid rfl) (Lib.hid rfl)) ?_ rfl
    rw [eq_one (¬ x = y) _ (by show (!(bv x == bv y)) = _; rw [ofInt_inj x y hx hy]; simp), doV_fine 12 x y rfl]
    show _ = (if x = y then (0 : Int) else 1)
    by_cases h : x = y <;> simp [h]
  · exact as_want (refDo_13 x y (bv x) (bv y) w (Lib.hid rfl) (Lib.hid rfl) _ _ (Lib.hid rfl) (Lib.hid rfl)) (by rw [eq_one (x < y) _ (v_slt x y hx hy), doV_fine 13 x y rfl]; rfl) rfl
  · refine as_want (refDo_14 x y (bv x) (bv y) w (Lib.hid rfl) (Lib.hid rfl) _ _ (Lib.hid rfl) (Lib.hid rfl)) ?_ rfl
    rw [eq_one (x ≤ y) _ (by rw [v_slt y x hy hx, ← decide_not]; exact decide_eq_decide.2 (by omega)), doV_fine 14 x y rfl]; rfl
  · exact as_want (refDo_15 x y (bv x) (bv y) w (Lib.hid rfl) (Lib.hid rfl) _ _ (Lib.hid rfl) (Lib.hid rfl)) (by rw [eq_one (y < x) _ (v_slt y x hy hx), doV_fine 15 x y rfl]; rfl) rfl
  · refine as_want (refDo_16 x y (bv x) (bv y) w (Lib.hid rfl) (Lib.hid rfl) _ _ (Lib.hid rfl) (Lib.hid rfl)) ?_ rfl
    rw [eq_one (y ≤ x) _ (by rw [v_slt x y hx hy, ← decide_not]; exact decide_eq_decide.2 (by omega)), doV_fine 16 x y rfl]; rfl
  · exact as_want (refDo_17 x y (bv x) (bv y) w (Lib.hid rfl) (Lib.hid rfl) _ _ (Lib.hid rfl) (Lib.hid rfl)) (by rw [v_neg, doV_fine 17 x y rfl]; rfl) rfl
  · exact as_want (refDo_18 x y (bv x) (bv y) w (Lib.hid rfl) (Lib.hid rfl) _ _ (Lib.hid rfl) (Lib.hid rfl)) (by rw [eq_one (x = 0) _ (ofInt_zero' x hx), doV_fine 18 x y rfl]; rfl) rfl
  · have he : doE op y = 9 := by unfold doE; rw [if_pos h]
    exact as_want (refDo_none op x y (bv x) (bv y) w (Lib.hid rfl) (Lib.hid rfl) h) (doV_bad op x y (by rw [he]; decide)).symm he.symm

end Go.Proofs.YtgdchlgepgbhhaaDoor
