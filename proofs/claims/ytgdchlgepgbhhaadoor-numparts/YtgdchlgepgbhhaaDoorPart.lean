/-
  PLAIN: a number is its quotient times the other one, and its rest; what is added is taken away again; a shift by one is twice: on 64 bits. Condition: the number is one that an int holds.
-/
import Derived.Test.YtgdchlgepgbhhaaDoorShift
namespace Go.Proofs.YtgdchlgepgbhhaaDoor
open Go.RowKit
theorem wrap64_id (x : Int) (h0 : -9223372036854775808 ≤ x) (h1 : x ≤ 9223372036854775807) : wrap64 x = x := by unfold wrap64; omega
theorem p_back (x y : Int) (h0 : -9223372036854775808 ≤ x) (h1 : x ≤ 9223372036854775807) : wrap64 (wrap64 (x + y) - y) = x := by unfold wrap64; omega
theorem p_twice (x : Int) : shlV x 1 = wrap64 (x + x) := by
  rw [shlV_eq x 1 (by omega) (by omega), show min (1 : Int).toNat 64 = 1 from rfl, show x * 2 ^ 1 = x + x by omega]
theorem p_half (x : Int) (h0 : -4611686018427387904 ≤ x) (h1 : x < 4611686018427387904) : shrV (wrap64 (x + x)) 1 = x := by
  rw [shrV_eq _ 1 (by omega) (by omega), show min (1 : Int).toNat 64 = 1 from rfl, wrap64_id _ (by omega) (by omega)]
  omega
theorem wrap64_add2 (a b : Int) : wrap64 (wrap64 a + b) = wrap64 (a + b) := by unfold wrap64; omega
theorem p_all (x y : Int) (h0 : -9223372036854775808 ≤ x) (h1 : x ≤ 9223372036854775807) : wrap64 (wrap64 (wrap64 (x.tdiv y) * y) + x.tmod y) = x := by
  rw [wrap64_mul, wrap64_add2, Int.mul_comm, Int.mul_tdiv_add_tmod]
  exact wrap64_id x h0 h1
theorem p_sign (x y : Int) : (0 ≤ x → 0 ≤ x.tmod y) ∧ (x ≤ 0 → x.tmod y ≤ 0) := by
  refine ⟨fun h => Int.tmod_nonneg _ h, fun h => ?_⟩
  have := Int.tmod_nonneg y (show 0 ≤ -x by omega)
  rw [Int.neg_tmod] at this
  omega

end Go.Proofs.YtgdchlgepgbhhaaDoor
