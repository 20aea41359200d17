/-
  CONTRACTS: the reference's Word, Args, Quiet. Of what was there nothing has turned.
-/
import Derived.Test.YtcbjcpmkebbfaaaDoorIrHas
import Derived.Test.YtcbjcpmkebbfaaaDoorArr
namespace Go.Proofs.YtcbjcpmkebbfaaaDoor
open Go.RowKit

theorem ret_int {k : IntKind} {a b : Int} (h : a = b) : Ending.returned (.int k a) = .returned (.int k b) := by rw [h]
theorem ret_bool {a b : Bool} (h : a = b) : Ending.returned (.bool a) = .returned (.bool b) := by rw [h]
theorem args_up {op a : Int} (h : argsV op = a) : argsV op = a := h
set_option maxRecDepth 20000 in
set_option maxHeartbeats 1000000 in
theorem refArgs_any (op : Int) (w : World) : Calls Tryd.prog 18 #[.int .i64 op] w fun e w' => e = .returned (.int .i64 (argsV op)) ∧ w = w' := by
  go_enter Tryd.func18, Tryd.ntmps18
  go_wp2
  all_goals go_ret
  all_goals (refine ⟨ret_int ?_, rfl⟩; simp only [beq_iff_eq, beq_eq_false_iff_ne, ne_eq] at *; unfold argsV; (repeat' split) <;> omega)

set_option maxRecDepth 20000 in
set_option maxHeartbeats 1000000 in
theorem refQuiet_any (op : Int) (w : World) : Calls Tryd.prog 20 #[.int .i64 op] w fun e w' => e = .returned (.bool (quietB op)) ∧ w = w' := by
  go_enter Tryd.func20, Tryd.ntmps20
  go_wp2
  all_goals go_ret
  all_goals refine ⟨ret_bool ?_, rfl⟩
  all_goals first | (simp only [beq_iff_eq] at *; subst_vars; rfl) | (simp only [beq_eq_false_iff_ne, ne_eq] at *; unfold quietB hasL quietTab; simp; omega)

def zeroW : Array Value := (List.replicate 35 (Value.string ⟨#[]⟩)).toArray
def tabW : Array Value := (wordTab.map fun l => Value.string (bs l)).toArray
theorem zeroW_run (w : World) : (zeroValue 59).run Tryd.prog w = .ok (.agg zeroW) w := by kernel_rfl
theorem tabW_one : tabW.all (·.oneCell') = true := by kernel_rfl
theorem tabW_size : zeroW.size = tabW.size := by kernel_rfl
theorem infoW : (Tryd.prog.info? 59).map (·.size) = some tabW.size := by kernel_rfl
theorem tabW_at (k : Nat) (h : k < 35) : tabW[k]? = some (.string (wordS k)) := by
  have hl : k < wordTab.length := h
  unfold tabW wordS wordL
  rw [if_neg (by omega), List.getElem?_toArray, List.getElem?_map, Int.toNat_natCast, List.getD_eq_getElem?_getD, List.getElem?_eq_getElem hl]
  rfl
set_option maxRecDepth 20000 in
set_option maxHeartbeats 1000000 in
theorem refWord_any (op : Int) (w : World) : Calls Tryd.prog 9 #[.int .i64 op] w fun e w' => e = .returned (.string (wordS op)) ∧ Below w.heap.size w w' := by
  obtain ⟨r, hr⟩ : ∃ r, wordS op = r := ⟨_, rfl⟩
  rw [hr]
  have HR := Lib.hid hr
  clear hr
  go_enter Tryd.func9, Tryd.ntmps9
  go_wp2_with (first | (refine wpList_build_row rfl 59 _ rfl tabW (by kernel_rfl) ?_; refine wpList_alloc_row rfl 59 rfl zeroW zeroW_run ?_; refine wpList_store_row rfl 59 _ _ rfl w.heap.size tabW rfl rfl 59 zeroW (at_new w 59 zeroW) infoW tabW_size tabW_one ?_; refine Hid.out ?_))
  have hA := (at_new w 59 zeroW).setSame (cs' := tabW)
  have hB := below_setRow ((Below.refl _ w).alloc (Nat.le_refl _) (.cells zeroW 59)) (Nat.le_refl _) tabW
  generalize (w.alloc (.cells zeroW 59)).setRow w.heap.size tabW = w1 at hA hB ⊢
  have HA := Lib.hid hA
  have HB := Lib.hid hB
  clear hA hB
  refine Lib.hid ?_
  by_cases h0 : op < 0
  · obtain rfl : r = ⟨#[]⟩ := HR.out.symm.trans (by unfold wordS wordL; rw [if_pos (.inl h0)]; rfl)
    go_wp2_with fail
    go_ret
    exact ⟨rfl, HB.out⟩
  · by_cases h1 : 34 < op
    · obtain rfl : r = ⟨#[]⟩ := HR.out.symm.trans (by unfold wordS wordL; rw [if_pos (.inr h1)]; rfl)
      go_wp2_with fail
      go_ret
      exact ⟨rfl, HB.out⟩
    · obtain ⟨k, rfl⟩ : ∃ k : Nat, op = k := ⟨op.toNat, by omega⟩
      have hk : k < 35 := by omega
      have c0 : w1.cell? ⟨w.heap.size, k, none⟩ = some (.string r) := by rw [HA.out.cell, tabW_at k hk, HR.out]
      have hs1 : tabW.size = 35 := tabW_size
      go_wp2_with fail
      go_ret
      exact ⟨rfl, HB.out⟩

end Go.Proofs.YtcbjcpmkebbfaaaDoor
