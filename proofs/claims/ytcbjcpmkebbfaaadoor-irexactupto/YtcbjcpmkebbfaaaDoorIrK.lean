/-
  CONTRACTS: ir.Word, IsOp, Args, IsQuiet, has. Condition: the table of words lies as the program's text lays it. Of what was there nothing has turned.
-/
import Derived.Test.YtcbjcpmkebbfaaaDoorIrOps
import Derived.Test.YtcbjcpmkebbfaaaDoorIrLine
namespace Go.Proofs.YtcbjcpmkebbfaaaDoor
open Go.RowKit

/-- The table of words lies where it is laid. -/
def WordsIn (w : World) : Prop := ∃ t fr, w.heap[0]? = some (.cells tabW t fr)
theorem WordsIn.below {w w' : World} (h : WordsIn w) (hb : Below w.heap.size w w') : WordsIn w' := by
  obtain ⟨t, fr, h⟩ := h
  exact ⟨t, fr, (hb.block 0 (by rcases Nat.lt_or_ge 0 w.heap.size with h1 | h1; exact h1; rw [Array.getElem?_eq_none h1] at h; cases h)).trans h⟩
theorem WordsIn.cell {w : World} (h : WordsIn w) {k : Nat} (hk : k < 35) : w.cell? ⟨0, k, none⟩ = some (.string (wordS k)) := by
  obtain ⟨t, fr, h⟩ := h
  rw [cell_of_row _ _ _ _ _ _ h]; exact tabW_at k hk
set_option maxRecDepth 20000 in
set_option maxHeartbeats 1000000 in
theorem word_any (op : Int) (w : World) (hG : WordsIn w) : Calls Tryd.prog 15 #[.int .i64 op] w fun e w' => e = .returned (.string (wordS op)) ∧ w = w' := by
  obtain ⟨r, hr⟩ : ∃ r, wordS op = r := ⟨_, rfl⟩
  rw [hr]
  have HR := Lib.hid hr
  have HG := Lib.hid hG
  clear hr hG
  by_cases h0 : op < 0
  · obtain rfl : r = ⟨#[]⟩ := HR.out.symm.trans (by unfold wordS wordL; rw [if_pos (.inl h0)]; rfl)
    go_enter Tryd.func15, Tryd.ntmps15
    go_wp2_with fail
    go_ret
    exact ⟨rfl, rfl⟩
  · by_cases h1 : 35 ≤ op
    · obtain rfl : r = ⟨#[]⟩ := HR.out.symm.trans (by unfold wordS wordL; rw [if_pos (.inr (by omega))]; rfl)
      go_enter Tryd.func15, Tryd.ntmps15
      go_wp2_with fail
      go_ret
      exact ⟨rfl, rfl⟩
    · obtain ⟨k, rfl⟩ : ∃ k : Nat, op = k := ⟨op.toNat, by omega⟩
      have hk : k < 35 := by omega
      have c0 := HG.out.cell hk
      rw [HR.out] at c0
      go_enter Tryd.func15, Tryd.ntmps15
      go_wp2_with fail
      go_ret
      exact ⟨rfl, rfl⟩
def isOpB (op : Int) : Bool := !decide (wordS op = ⟨#[]⟩)
set_option maxHeartbeats 400000 in
theorem isOp_any (op : Int) (w : World) (hG : WordsIn w) : Calls Tryd.prog 16 #[.int .i64 op] w fun e w' => e = .returned (.bool (!(wordS op).toList.isEmpty)) ∧ w = w' := by
  go_enter Tryd.func16, Tryd.ntmps16
  go_wp2_with fail
  refine (word_any op w hG).mono ?_
  rintro e w2 ⟨rfl, rfl⟩
  go_wp2_with fail
  go_ret
  exact ⟨rfl, rfl⟩
set_option maxRecDepth 20000 in
set_option maxHeartbeats 1000000 in
theorem args_any (op : Int) (w : World) : Calls Tryd.prog 17 #[.int .i64 op] w fun e w' => e = .returned (.int .i64 (argsV op)) ∧ w = w' := by
  go_enter Tryd.func17, Tryd.ntmps17
  go_wp2
  all_goals go_ret
  all_goals (refine ⟨ret_int ?_, rfl⟩; simp only [beq_iff_eq, beq_eq_false_iff_ne, ne_eq] at *; unfold argsV; (repeat' split) <;> omega)

set_option maxRecDepth 20000 in
set_option maxHeartbeats 1000000 in
theorem quiet_any (op : Int) (w : World) : Calls Tryd.prog 19 #[.int .i64 op] w fun e w' => e = .returned (.bool (quietB op)) ∧ w = w' := by
  go_enter Tryd.func19, Tryd.ntmps19
  go_wp2
  all_goals go_ret
  all_goals refine ⟨ret_bool ?_, rfl⟩
  all_goals first | (simp only [beq_iff_eq] at *; subst_vars; rfl) | (simp only [beq_eq_false_iff_ne, ne_eq] at *; unfold quietB hasL quietTab; rw [Bool.eq_iff_iff]; simp only [List.any_cons, List.any_nil, beq_iff_eq, Bool.or_eq_true, decide_eq_true_eq, Bool.false_eq_true, or_false, false_iff]; omega)

end Go.Proofs.YtcbjcpmkebbfaaaDoor
