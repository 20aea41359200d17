/-
  PLAIN: what the ops answer on plain numbers is what they answer on bits. Condition: the numbers are ones that an int holds, where stated.
-/
import Derived.Test.YtgdchlgepgbhhaaDoorShift
import Derived.Test.YtgdchlgepgbhhaaDoorBitFns
namespace Go.Proofs.YtgdchlgepgbhhaaDoor
open Go.RowKit

def Int64 (x : Int) : Prop := -9223372036854775808 ≤ x ∧ x ≤ 9223372036854775807
theorem wrap_ofInt (z : Int) : (BitVec.ofInt 64 z).toInt = wrap64 z := by
  rw [BitVec.toInt_ofInt]
  unfold wrap64 Int.bmod
  have e : ((2 ^ 64 : Nat) : Int) = 18446744073709551616 := rfl
  simp only [e]
  split <;> omega
theorem toInt_in (x : Int) (h : Int64 x) : (BitVec.ofInt 64 x).toInt = x := by
  obtain ⟨h0, h1⟩ := h
  rw [wrap_ofInt]; unfold wrap64; omega
theorem ofInt_inj (x y : Int) (hx : Int64 x) (hy : Int64 y) : (BitVec.ofInt 64 x == BitVec.ofInt 64 y) = decide (x = y) := by
  by_cases h : x = y
  · subst h; simp
  · rw [decide_eq_false h]
    refine beq_eq_false_iff_ne.2 fun c => h ?_
    rw [← toInt_in x hx, ← toInt_in y hy, c]
theorem ofInt_zero' (x : Int) (hx : Int64 x) : (BitVec.ofInt 64 x == 0#64) = decide (x = 0) := ofInt_inj x 0 hx ⟨by omega, by omega⟩
theorem top_bit (x : Int) (hx : Int64 x) : (BitVec.ofInt 64 x).getLsbD 63 = decide (x < 0) := by
  have h := BitVec.msb_eq_toInt (x := BitVec.ofInt 64 x)
  rw [toInt_in x hx, BitVec.msb_eq_getLsbD_last] at h
  exact h
theorem v_add (x y : Int) : (BitVec.ofInt 64 x + BitVec.ofInt 64 y + BitVec.setWidth 64 (BitVec.ofBool false)).toInt = wrap64 (x + y) := by
  have e : BitVec.setWidth 64 (BitVec.ofBool false) = 0#64 := rfl
  rw [e, BitVec.add_zero, ← BitVec.ofInt_add, wrap_ofInt]
theorem v_sub (x y : Int) : (BitVec.ofInt 64 x + ~~~(BitVec.ofInt 64 y) + BitVec.setWidth 64 (BitVec.ofBool true)).toInt = wrap64 (x - y) := by
  have e : BitVec.ofInt 64 x + ~~~(BitVec.ofInt 64 y) + BitVec.setWidth 64 (BitVec.ofBool true) = BitVec.ofInt 64 (x - y) := by
    rw [Int.sub_eq_add_neg, BitVec.ofInt_add, BitVec.ofInt_neg, BitVec.neg_eq_not_add, BitVec.add_assoc]; rfl
  rw [e, wrap_ofInt]
theorem v_mul (x y : Int) : (BitVec.ofInt 64 x * BitVec.ofInt 64 y).toInt = wrap64 (x * y) := by
  rw [← BitVec.ofInt_mul, wrap_ofInt]
theorem v_neg (x : Int) : (-BitVec.ofInt 64 x).toInt = wrap64 (-x) := by
  rw [← BitVec.ofInt_neg, wrap_ofInt]
theorem bmod_wrap (z : Int) : z.bmod (2 ^ 64) = wrap64 z := by rw [← BitVec.toInt_ofInt, wrap_ofInt]
theorem v_div (x y : Int) (hx : Int64 x) (hy : Int64 y) : ((BitVec.ofInt 64 x).sdiv (BitVec.ofInt 64 y)).toInt = wrap64 (x.tdiv y) := by
  rw [BitVec.toInt_sdiv, toInt_in x hx, toInt_in y hy, bmod_wrap]
theorem v_rem (x y : Int) (hx : Int64 x) (hy : Int64 y) : ((BitVec.ofInt 64 x).srem (BitVec.ofInt 64 y)).toInt = x.tmod y := by
  rw [BitVec.toInt_srem, toInt_in x hx, toInt_in y hy]
theorem wrap_toNat (v : B64) : IntKind.i64.wrap (v.toNat : Int) = v.toInt := by
  have h : (BitVec.ofInt 64 (v.toNat : Int)) = v := by simp
  have := wrap_ofInt (v.toNat : Int)
  rw [h] at this
  rw [this]
  unfold IntKind.wrap wrap64
  have e1 : (IntKind.i64.bits : Nat) = 64 := rfl
  have e2 : IntKind.i64.signed = true := rfl
  simp only [e1, e2, Bool.true_and, decide_eq_true_eq]
  have p1 : (2 : Int) ^ 64 = 18446744073709551616 := by decide
  have p2 : (2 : Int) ^ (64 - 1) = 9223372036854775808 := by decide
  rw [p1, p2]
  split <;> omega
theorem v_and (x y : Int) : (BitVec.ofInt 64 x &&& BitVec.ofInt 64 y).toInt = bits .and .i64 x y := (wrap_toNat _).symm
theorem v_or (x y : Int) : (BitVec.ofInt 64 x ||| BitVec.ofInt 64 y).toInt = bits .or .i64 x y := (wrap_toNat _).symm
theorem v_xor (x y : Int) : (BitVec.ofInt 64 x ^^^ BitVec.ofInt 64 y).toInt = bits .xor .i64 x y := (wrap_toNat _).symm
theorem v_shl (x : Int) (n : Nat) (hn : n < 64) : (BitVec.ofInt 64 x <<< n).toInt = shlV x (n : Int) := by
  rw [shlV_eq x n (by omega) (by omega), Int.toNat_natCast, Nat.min_eq_left (by omega), ← wrap_ofInt]
  congr 1
  rw [BitVec.ofInt_mul, BitVec.shiftLeft_eq_mul_twoPow]
  congr 1
  refine BitVec.eq_of_toNat_eq ?_
  rw [BitVec.toNat_twoPow]
  have e : ((2 : Int) ^ n) = ((2 ^ n : Nat) : Int) := by simp
  rw [e, BitVec.toNat_ofInt]
  norm_cast
theorem v_shl0 (x y : Int) (h : ¬ y < 64) (hy : Int64 y) : (0#64 : B64).toInt = shlV x y := by
  have := hy.2
  rw [shlV_eq x y (by omega) (by omega), Nat.min_eq_right (by omega)]
  have e : wrap64 (x * 2 ^ 64) = 0 := by unfold wrap64; omega
  rw [e]; rfl
theorem v_shr (x : Int) (n : Nat) (y : Int) (hy : Int64 y) (h0 : 0 ≤ y) (h : min y.toNat 64 = n) (hx : Int64 x) : ((BitVec.ofInt 64 x).sshiftRight n).toInt = shrV x y := by
  have := hy.2
  rw [shrV_eq x y h0 (by omega), h, BitVec.toInt_sshiftRight, toInt_in x hx, Int.shiftRight_eq_div_pow]
  simp
theorem v_slt (x y : Int) (hx : Int64 x) (hy : Int64 y) : BitVec.slt (BitVec.ofInt 64 x) (BitVec.ofInt 64 y) = decide (x < y) := by
  unfold BitVec.slt
  rw [toInt_in x hx, toInt_in y hy]
/-- Quotient and rest of sizes, with the sign laid on again. -/
theorem sdiv_pp (a b : B64) (ha : a.getLsbD 63 = false) (hb : b.getLsbD 63 = false) : sizeV a / sizeV b = a.sdiv b := by
  have h1 : a.msb = false := by rw [BitVec.msb_eq_getLsbD_last]; exact ha
  have h2 : b.msb = false := by rw [BitVec.msb_eq_getLsbD_last]; exact hb
  unfold sizeV BitVec.sdiv
  rw [ha, hb, h1, h2]; rfl
theorem sdiv_pn (a b : B64) (ha : a.getLsbD 63 = false) (hb : b.getLsbD 63 = true) : -(sizeV a / sizeV b) = a.sdiv b := by
  have h1 : a.msb = false := by rw [BitVec.msb_eq_getLsbD_last]; exact ha
  have h2 : b.msb = true := by rw [BitVec.msb_eq_getLsbD_last]; exact hb
  unfold sizeV BitVec.sdiv
  rw [ha, hb, h1, h2]; rfl
theorem sdiv_np (a b : B64) (ha : a.getLsbD 63 = true) (hb : b.getLsbD 63 = false) : -(sizeV a / sizeV b) = a.sdiv b := by
  have h1 : a.msb = true := by rw [BitVec.msb_eq_getLsbD_last]; exact ha
  have h2 : b.msb = false := by rw [BitVec.msb_eq_getLsbD_last]; exact hb
  unfold sizeV BitVec.sdiv
  rw [ha, hb, h1, h2]; rfl
theorem sdiv_nn (a b : B64) (ha : a.getLsbD 63 = true) (hb : b.getLsbD 63 = true) : sizeV a / sizeV b = a.sdiv b := by
  have h1 : a.msb = true := by rw [BitVec.msb_eq_getLsbD_last]; exact ha
  have h2 : b.msb = true := by rw [BitVec.msb_eq_getLsbD_last]; exact hb
  unfold sizeV BitVec.sdiv
  rw [ha, hb, h1, h2]; rfl
theorem srem_p (a b : B64) (ha : a.getLsbD 63 = false) : sizeV a % sizeV b = a.srem b := by
  have h1 : a.msb = false := by rw [BitVec.msb_eq_getLsbD_last]; exact ha
  cases hb : b.getLsbD 63
  · have h2 : b.msb = false := by rw [BitVec.msb_eq_getLsbD_last]; exact hb
    unfold sizeV BitVec.srem
    rw [ha, hb, h1, h2]; rfl
  · have h2 : b.msb = true := by rw [BitVec.msb_eq_getLsbD_last]; exact hb
    unfold sizeV BitVec.srem
    rw [ha, hb, h1, h2]; rfl
theorem srem_n (a b : B64) (ha : a.getLsbD 63 = true) : -(sizeV a % sizeV b) = a.srem b := by
  have h1 : a.msb = true := by rw [BitVec.msb_eq_getLsbD_last]; exact ha
  cases hb : b.getLsbD 63
  · have h2 : b.msb = false := by rw [BitVec.msb_eq_getLsbD_last]; exact hb
    unfold sizeV BitVec.srem
    rw [ha, hb, h1, h2]; rfl
  · have h2 : b.msb = true := by rw [BitVec.msb_eq_getLsbD_last]; exact hb
    unfold sizeV BitVec.srem
    rw [ha, hb, h1, h2]; rfl
theorem size_pos (b : B64) (h : (b == 0#64) = false) : 0 < (sizeV b).toNat := by
  have hb : b ≠ 0#64 := beq_eq_false_iff_ne.1 h
  have : sizeV b ≠ 0#64 := by
    unfold sizeV
    split
    · intro c; exact hb (by simpa using c)
    · exact hb
  have h2 : (sizeV b).toNat ≠ 0 := fun c => this (BitVec.eq_of_toNat_eq c)
  omega

end Go.Proofs.YtgdchlgepgbhhaaDoor
