/-
  PLAIN: shifts add up, on 64 bits. No condition but that the counts are within bounds.
-/
import Derived.Test.YtgdchlgepgbhhaaDoorPlain
namespace Go.Proofs.YtgdchlgepgbhhaaDoor
open Go.RowKit
theorem uwrap (z : Int) : IntKind.u64.wrap z = z % 18446744073709551616 := rfl
theorem wrap64_add (a b : Int) : wrap64 (a + 18446744073709551616 * b) = wrap64 a := by unfold wrap64; omega
theorem wrap64_ex (a : Int) : ∃ q, wrap64 a = a + 18446744073709551616 * q := ⟨-((a + 9223372036854775808) / 18446744073709551616), by unfold wrap64; omega⟩
theorem wrap64_mul (a P : Int) : wrap64 (wrap64 a * P) = wrap64 (a * P) := by
  obtain ⟨q, hq⟩ := wrap64_ex a
  rw [hq, Int.add_mul, Int.mul_assoc, wrap64_add]
theorem wrap64_umod (a : Int) : wrap64 (a % 18446744073709551616) = wrap64 a := by unfold wrap64; omega
theorem shlV_eq (x y : Int) (h0 : 0 ≤ y) (h1 : y < 18446744073709551616) : shlV x y = wrap64 (x * 2 ^ min y.toNat 64) := by
  unfold shlV
  rw [uwrap, uwrap, uwrap, wrap64_umod, Int.emod_eq_of_lt h0 h1]
  have e : x % 18446744073709551616 = x + 18446744073709551616 * (-(x / 18446744073709551616)) := by omega
  rw [e, Int.add_mul, Int.mul_assoc, wrap64_add]
theorem shrV_eq (x y : Int) (h0 : 0 ≤ y) (h1 : y < 18446744073709551616) : shrV x y = x / 2 ^ min y.toNat 64 := by
  unfold shrV
  rw [uwrap, Int.emod_eq_of_lt h0 h1]
theorem wrap64_high (x : Int) (k : Nat) (h : 64 ≤ k) : wrap64 (x * 2 ^ k) = 0 := by
  obtain ⟨j, rfl⟩ : ∃ j, k = 64 + j := ⟨k - 64, by omega⟩
  rw [Int.pow_add, show (2 : Int) ^ 64 = 18446744073709551616 from by decide +kernel, ← Int.mul_assoc, Int.mul_comm x, Int.mul_assoc, ← Int.zero_add (18446744073709551616 * _), wrap64_add]
  decide +kernel
theorem shl_add (x n m : Int) (a0 : 0 ≤ n) (a1 : n < 100) (b0 : 0 ≤ m) (b1 : m < 100) : shlV (shlV x n) m = shlV x (n + m) := by
  rw [shlV_eq _ m b0 (by omega), shlV_eq x n a0 (by omega), shlV_eq x (n + m) (by omega) (by omega), wrap64_mul, Int.mul_assoc, ← Int.pow_add]
  by_cases h : n + m ≤ 64
  · rw [show min n.toNat 64 + min m.toNat 64 = min (n + m).toNat 64 by omega]
  · rw [wrap64_high _ _ (by omega), wrap64_high _ _ (by omega)]
theorem pow_big (k : Nat) (h : 64 ≤ k) : (18446744073709551616 : Int) ≤ 2 ^ k := by
  obtain ⟨j, rfl⟩ : ∃ j, k = 64 + j := ⟨k - 64, by omega⟩
  rw [Int.pow_add, show (2 : Int) ^ 64 = 18446744073709551616 from by decide +kernel]
  have : (0 : Int) < 2 ^ j := Int.pow_pos (by decide)
  omega
theorem div_big (x b : Int) (h0 : -9223372036854775808 ≤ x) (h1 : x ≤ 9223372036854775807) (hb : 18446744073709551616 ≤ b) : x / b = if x < 0 then -1 else 0 := by
  split
  · exact ((Int.ediv_emod_unique (r := x + b) (by omega)).2 ⟨by omega, by omega, by omega⟩).1
  · exact Int.ediv_eq_zero_of_lt (by omega) (by omega)
theorem div_div (x b c : Int) (h : 0 < b) : x / b / c = x / (b * c) := by
  rw [Int.ediv_ediv, if_neg (by omega), Int.sub_zero]
theorem shr_add (x n m : Int) (h0 : -9223372036854775808 ≤ x) (h1 : x ≤ 9223372036854775807) (a0 : 0 ≤ n) (a1 : n < 100) (b0 : 0 ≤ m) (b1 : m < 100) : shrV (shrV x n) m = shrV x (n + m) := by
  rw [shrV_eq _ m b0 (by omega), shrV_eq x n a0 (by omega), shrV_eq x (n + m) (by omega) (by omega), div_div _ _ _ (Int.pow_pos (by decide)), ← Int.pow_add]
  by_cases h : n + m ≤ 64
  · rw [show min n.toNat 64 + min m.toNat 64 = min (n + m).toNat 64 by omega]
  · rw [div_big x _ h0 h1 (pow_big _ (by omega)), div_big x _ h0 h1 (pow_big _ (by omega))]
theorem cnt_bd (a : Int) : 0 ≤ wrap64 ((IntKind.u64.wrap a).tmod 100) ∧ wrap64 ((IntKind.u64.wrap a).tmod 100) < 100 := by
  rw [uwrap, Int.tmod_eq_emod_of_nonneg (by omega)]
  unfold wrap64
  omega

end Go.Proofs.YtgdchlgepgbhhaaDoor
