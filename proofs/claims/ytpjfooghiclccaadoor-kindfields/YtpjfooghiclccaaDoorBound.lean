/-
  PLAIN: what is not 'great' is small. No condition.
-/
import Derived.Test.YtpjfooghiclccaaDoorGreat
namespace Go.Proofs.YtpjfooghiclccaaDoor
open Go.RowKit

theorem gr_bd {ss : List Str} (h : grB ss = false) : ss.length ≤ 16 ∧ ∀ s ∈ ss, s.fields.length ≤ 12 := by
  unfold grB at h
  rw [Bool.or_eq_false_iff] at h
  refine ⟨by have := of_decide_eq_false h.1; omega, fun s hs => ?_⟩
  have := List.any_eq_false.1 h.2 s hs
  unfold grS at this
  simp at this
  omega

end Go.Proofs.YtpjfooghiclccaaDoor
