/-
  CONTRACTS: what the reference's Sign and Level answer, at all arguments; of what was there nothing has turned. No condition.
-/
import Derived.Test.YtgdchlgepgbhhaaDoorText
import Derived.Test.YtgdchlgepgbhhaaDoorArr
namespace Go.Proofs.YtgdchlgepgbhhaaDoor
open Go.RowKit

def tabS : Array Value := (signTab.map fun l => Value.string ⟨l.toArray⟩).toArray
def zeroS : Array Value := (List.replicate 19 (Value.string ⟨#[]⟩)).toArray
theorem zero53 (w : World) : (zeroValue 53).run Tryd.prog w = .ok (.agg zeroS) w := by kernel_rfl
theorem info53 : (Tryd.prog.info? 53).map (·.size) = some tabS.size := by kernel_rfl
theorem tabS_one : tabS.all (·.oneCell') = true := by kernel_rfl
theorem tabS_size : zeroS.size = tabS.size := by kernel_rfl
theorem tabS_at (k : Nat) (h : k < 19) : tabS[k]? = some (.string ⟨(signTab.getD k []).toArray⟩) := by
  rcases (by omega : k = 0 ∨ k = 1 ∨ k = 2 ∨ k = 3 ∨ k = 4 ∨ k = 5 ∨ k = 6 ∨ k = 7 ∨ k = 8 ∨ k = 9 ∨ k = 10 ∨ k = 11 ∨ k = 12 ∨ k = 13 ∨ k = 14 ∨ k = 15 ∨ k = 16 ∨ k = 17 ∨ k = 18) with rfl | rfl | rfl | rfl | rfl | rfl | rfl | rfl | rfl | rfl | rfl | rfl | rfl | rfl | rfl | rfl | rfl | rfl | rfl <;> rfl

def levelTab : List Int := [0, 4, 4, 5, 5, 5, 5, 4, 4, 5, 5, 3, 3, 3, 3, 3, 3, 0, 0]
def tabL : Array Value := (levelTab.map fun n => Value.int .i64 n).toArray
def zeroL : Array Value := (List.replicate 19 (Value.int .i64 0)).toArray
theorem zero55 (w : World) : (zeroValue 55).run Tryd.prog w = .ok (.agg zeroL) w := by kernel_rfl
theorem info55 : (Tryd.prog.info? 55).map (·.size) = some tabL.size := by kernel_rfl
theorem tabL_one : tabL.all (·.oneCell') = true := by kernel_rfl
theorem tabL_size : zeroL.size = tabL.size := by kernel_rfl
theorem tabL_at (k : Nat) (h : k < 19) : tabL[k]? = some (.int .i64 (levelV k)) := by
  rcases (by omega : k = 0 ∨ k = 1 ∨ k = 2 ∨ k = 3 ∨ k = 4 ∨ k = 5 ∨ k = 6 ∨ k = 7 ∨ k = 8 ∨ k = 9 ∨ k = 10 ∨ k = 11 ∨ k = 12 ∨ k = 13 ∨ k = 14 ∨ k = 15 ∨ k = 16 ∨ k = 17 ∨ k = 18) with rfl | rfl | rfl | rfl | rfl | rfl | rfl | rfl | rfl | rfl | rfl | rfl | rfl | rfl | rfl | rfl | rfl | rfl | rfl <;> rfl

set_option maxHeartbeats 400000 in
theorem refSign_any (op : Int) (w : World) : Calls Tryd.prog 15 #[.int .i64 op] w fun e w' => e = .returned (.string (signS op)) ∧ Below w.heap.size w w' := by
  obtain ⟨d, hd⟩ : ∃ d, signS op = d := ⟨_, rfl⟩
  rw [hd]
  have HD := Lib.hid hd
  clear hd
  go_enter Tryd.func15, Tryd.ntmps15
  go_wp2_with (first | (refine wpList_build_row rfl 53 _ rfl tabS (by kernel_rfl) ?_; refine wpList_alloc_row rfl 53 rfl zeroS zero53 ?_; refine wpList_store_row rfl 53 _ _ rfl w.heap.size tabS rfl rfl 53 zeroS (at_new w 53 zeroS) info53 tabS_size tabS_one ?_; refine Hid.out ?_))
  have hA := (at_new w 53 zeroS).setSame (cs' := tabS)
  have hB := below_setRow ((Below.refl _ w).alloc (Nat.le_refl _) (.cells zeroS 53)) (Nat.le_refl _) tabS
  generalize (w.alloc (.cells zeroS 53)).setRow w.heap.size tabS = w1 at hA hB ⊢
  have HA := Lib.hid hA
  clear hA
  refine Lib.hid ?_
  by_cases h1 : op < 1
  · have hd : d = ⟨#[]⟩ := by rw [← HD.out]; simp [signS, signL, h1]
    subst hd
    go_wp2_with fail
    go_ret
    exact ⟨rfl, hB⟩
  · by_cases h2 : 18 < op
    · have hd : d = ⟨#[]⟩ := by rw [← HD.out]; simp [signS, signL, h2]
      subst hd
      go_wp2_with fail
      go_ret
      exact ⟨rfl, hB⟩
    · obtain ⟨k, rfl⟩ := Int.eq_ofNat_of_zero_le (show 0 ≤ op by omega)
      have hc : w1.cell? ⟨w.heap.size, k, none⟩ = some (.string d) := by
        rw [HA.out.cell, tabS_at k (by omega), ← HD.out]
        unfold signS signL; rw [if_neg (by omega), Int.toNat_natCast]
      have hk : k < 19 := by omega
      go_wp2_with fail
      go_ret
      exact ⟨rfl, hB⟩

set_option maxHeartbeats 400000 in
theorem refLevel_any (op : Int) (w : World) : Calls Tryd.prog 19 #[.int .i64 op] w fun e w' => e = .returned (.int .i64 (levelV op)) ∧ Below w.heap.size w w' := by
  obtain ⟨d, hd⟩ : ∃ d, levelV op = d := ⟨_, rfl⟩
  rw [hd]
  have HD := Lib.hid hd
  clear hd
  go_enter Tryd.func19, Tryd.ntmps19
  go_wp2_with (first | (refine wpList_build_row rfl 55 _ rfl tabL (by kernel_rfl) ?_; refine wpList_alloc_row rfl 55 rfl zeroL zero55 ?_; refine wpList_store_row rfl 55 _ _ rfl w.heap.size tabL rfl rfl 55 zeroL (at_new w 55 zeroL) info55 tabL_size tabL_one ?_; refine Hid.out ?_))
  have hA := (at_new w 55 zeroL).setSame (cs' := tabL)
  have hB := below_setRow ((Below.refl _ w).alloc (Nat.le_refl _) (.cells zeroL 55)) (Nat.le_refl _) tabL
  generalize (w.alloc (.cells zeroL 55)).setRow w.heap.size tabL = w1 at hA hB ⊢
  have HA := Lib.hid hA
  clear hA
  refine Lib.hid ?_
  by_cases h1 : op < 1
  · have hd : d = 0 := by rw [← HD.out]; unfold levelV; (repeat' split) <;> omega
    subst hd
    go_wp2_with fail
    go_ret
    exact ⟨rfl, hB⟩
  · by_cases h2 : 18 < op
    · have hd : d = 0 := by rw [← HD.out]; unfold levelV; (repeat' split) <;> omega
      subst hd
      go_wp2_with fail
      go_ret
      exact ⟨rfl, hB⟩
    · obtain ⟨k, rfl⟩ := Int.eq_ofNat_of_zero_le (show 0 ≤ op by omega)
      have hc : w1.cell? ⟨w.heap.size, k, none⟩ = some (.int .i64 d) := by
        rw [HA.out.cell, tabL_at k (by omega), ← HD.out]
      have hk : k < 19 := by omega
      go_wp2_with fail
      go_ret
      exact ⟨rfl, hB⟩

end Go.Proofs.YtgdchlgepgbhhaaDoor
