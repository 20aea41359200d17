/-
  PLAIN: an op that has a Swap comes to the same with both arguments changed; a comparison and its opposite are never both so. No condition.
-/
import Derived.Test.YtgdchlgepgbhhaaDoorPlain
namespace Go.Proofs.YtgdchlgepgbhhaaDoor
open Go.RowKit

theorem and_comm64 (x y : Int) : bits .and .i64 x y = bits .and .i64 y x := by
  show IntKind.i64.wrap ((BitVec.ofInt 64 x &&& BitVec.ofInt 64 y).toNat : Int) = IntKind.i64.wrap ((BitVec.ofInt 64 y &&& BitVec.ofInt 64 x).toNat : Int)
  rw [BitVec.and_comm]
theorem or_comm64 (x y : Int) : bits .or .i64 x y = bits .or .i64 y x := by
  show IntKind.i64.wrap ((BitVec.ofInt 64 x ||| BitVec.ofInt 64 y).toNat : Int) = IntKind.i64.wrap ((BitVec.ofInt 64 y ||| BitVec.ofInt 64 x).toNat : Int)
  rw [BitVec.or_comm]
theorem xor_comm64 (x y : Int) : bits .xor .i64 x y = bits .xor .i64 y x := by
  show IntKind.i64.wrap ((BitVec.ofInt 64 x ^^^ BitVec.ofInt 64 y).toNat : Int) = IntKind.i64.wrap ((BitVec.ofInt 64 y ^^^ BitVec.ofInt 64 x).toNat : Int)
  rw [BitVec.xor_comm]

theorem swap_facts (op x y : Int) (h : swapV op ≠ 0) : doV (swapV op) y x = doV op x y ∧ doE (swapV op) x = doE op y ∧ swapV (swapV op) = op := by
  have hc : op = 1 ∨ op = 3 ∨ op = 6 ∨ op = 7 ∨ op = 8 ∨ op = 11 ∨ op = 12 ∨ op = 13 ∨ op = 15 ∨ op = 14 ∨ op = 16 := by
    unfold swapV at h
    omega
  rcases hc with rfl | rfl | rfl | rfl | rfl | rfl | rfl | rfl | rfl | rfl | rfl
  · exact ⟨by simp [swapV, doV, doE, faultV, coreV, Int.add_comm], by simp [swapV, doE, faultV], by decide⟩
  · exact ⟨by simp [swapV, doV, doE, faultV, coreV, Int.mul_comm], by simp [swapV, doE, faultV], by decide⟩
  · exact ⟨by simp [swapV, doV, doE, faultV, coreV, and_comm64 y x], by simp [swapV, doE, faultV], by decide⟩
  · exact ⟨by simp [swapV, doV, doE, faultV, coreV, or_comm64 y x], by simp [swapV, doE, faultV], by decide⟩
  · exact ⟨by simp [swapV, doV, doE, faultV, coreV, xor_comm64 y x], by simp [swapV, doE, faultV], by decide⟩
  · exact ⟨by simp [swapV, doV, doE, faultV, coreV, eq_comm], by simp [swapV, doE, faultV], by decide⟩
  · exact ⟨by simp [swapV, doV, doE, faultV, coreV, eq_comm], by simp [swapV, doE, faultV], by decide⟩
  · exact ⟨by simp [swapV, doV, doE, faultV, coreV], by simp [swapV, doE, faultV], by decide⟩
  · exact ⟨by simp [swapV, doV, doE, faultV, coreV], by simp [swapV, doE, faultV], by decide⟩
  · exact ⟨by simp [swapV, doV, doE, faultV, coreV], by simp [swapV, doE, faultV], by decide⟩
  · exact ⟨by simp [swapV, doV, doE, faultV, coreV], by simp [swapV, doE, faultV], by decide⟩

theorem cmp_facts (x y : Int) : ∃ lt ge eq ne : Int, doV 13 x y = lt ∧ doV 16 x y = ge ∧ doV 11 x y = eq ∧ doV 12 x y = ne ∧ doV 18 eq 0 = ne ∧ 0 ≤ lt ∧ lt ≤ 1 ∧ 0 ≤ ge ∧ ge ≤ 1 ∧ 0 ≤ eq ∧ eq ≤ 1 ∧ 0 ≤ ne ∧ ne ≤ 1 ∧ lt + ge = 1 ∧ eq + ne = 1 := by
  refine ⟨_, _, _, _, rfl, rfl, rfl, rfl, ?_⟩
  have h1 : doV 13 x y = if x < y then 1 else 0 := by simp [doV, doE, faultV, coreV]
  have h2 : doV 16 x y = if y ≤ x then 1 else 0 := by simp [doV, doE, faultV, coreV]
  have h3 : doV 11 x y = if x = y then 1 else 0 := by simp [doV, doE, faultV, coreV]
  have h4 : doV 12 x y = if x = y then 0 else 1 := by simp [doV, doE, faultV, coreV]
  have h5 : ∀ z, doV 18 z 0 = if z = 0 then 1 else 0 := fun z => by simp [doV, doE, faultV, coreV]
  rw [h5, h1, h2, h3, h4]
  by_cases a : x < y
  · have b : ¬ x = y := by omega
    have c : ¬ y ≤ x := by omega
    simp [a, b, c]
  · have c : y ≤ x := by omega
    by_cases b : x = y
    · subst b; simp
    · simp [a, b, c]

theorem sign_kind (op : Int) : (binB op = true ∧ (signS op).toList.isEmpty = false) ∨ (binB op = false ∧ unB op = true ∧ (signS op).toList.isEmpty = false) ∨ (binB op = false ∧ unB op = false ∧ signS op = ⟨#[]⟩) := by
  by_cases h : op < 1 ∨ 18 < op
  · exact Or.inr (Or.inr ⟨by unfold binB; simp; omega, by unfold unB; simp; omega, by simp [signS, signL, h]⟩)
  · rcases (by omega : op = 1 ∨ op = 2 ∨ op = 3 ∨ op = 4 ∨ op = 5 ∨ op = 6 ∨ op = 7 ∨ op = 8 ∨ op = 9 ∨ op = 10 ∨ op = 11 ∨ op = 12 ∨ op = 13 ∨ op = 14 ∨ op = 15 ∨ op = 16 ∨ op = 17 ∨ op = 18) with rfl | rfl | rfl | rfl | rfl | rfl | rfl | rfl | rfl | rfl | rfl | rfl | rfl | rfl | rfl | rfl | rfl | rfl <;> rw [ByteArray.toList_eq] <;> decide

end Go.Proofs.YtgdchlgepgbhhaaDoor
