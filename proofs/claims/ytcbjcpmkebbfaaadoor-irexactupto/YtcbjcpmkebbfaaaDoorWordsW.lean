/-
  WALK: IrWords answers true at every two numbers, where the listed tables lie as they are laid. Of what was there nothing has turned.
-/
import Derived.Test.YtcbjcpmkebbfaaaDoorAwk
namespace Go.Proofs.YtcbjcpmkebbfaaaDoor
open Go.RowKit

theorem word_inj {a b : Int} (h : wordS a = wordS b) : a = b ∨ (wordS a = ⟨#[]⟩ ∧ wordS b = ⟨#[]⟩) := by
  have key : ∀ i j : Fin 35, wordTab[i.val]? = wordTab[j.val]? → i = j ∨ (wordTab[i.val]? = some [] ∧ wordTab[j.val]? = some []) := by decide
  by_cases ha : a < 0 ∨ 34 < a
  · have e1 : wordS a = ⟨#[]⟩ := by unfold wordS wordL; rw [if_pos ha]; rfl
    exact .inr ⟨e1, by rw [← h, e1]⟩
  · by_cases hb : b < 0 ∨ 34 < b
    · have e1 : wordS b = ⟨#[]⟩ := by unfold wordS wordL; rw [if_pos hb]; rfl
      exact .inr ⟨by rw [h, e1], e1⟩
    · obtain ⟨i, rfl⟩ : ∃ k : Nat, a = k := ⟨a.toNat, by omega⟩
      obtain ⟨j, rfl⟩ : ∃ k : Nat, b = k := ⟨b.toNat, by omega⟩
      have hi : i < 35 := by omega
      have hj : j < 35 := by omega
      have e : wordL i = wordL j := by
        have := congrArg (fun s : ByteArray => s.data.toList) h
        exact this
      have ei : wordTab[i]? = some (wordL i) := by
        unfold wordL; rw [if_neg ha, Int.toNat_natCast, List.getD_eq_getElem?_getD, List.getElem?_eq_getElem (show i < wordTab.length from hi)]; rfl
      have ej : wordTab[j]? = some (wordL j) := by
        unfold wordL; rw [if_neg hb, Int.toNat_natCast, List.getD_eq_getElem?_getD, List.getElem?_eq_getElem (show j < wordTab.length from hj)]; rfl
      rcases key ⟨i, hi⟩ ⟨j, hj⟩ (by show wordTab[i]? = wordTab[j]?; rw [ei, ej, e]) with q | ⟨q1, q2⟩
      · left; have := congrArg Fin.val q; simp at this; omega
      · right
        have q1 : wordTab[i]? = some [] := q1
        have q2 : wordTab[j]? = some [] := q2
        rw [ei] at q1
        rw [ej] at q2
        exact ⟨by unfold wordS; rw [Option.some.inj q1]; rfl, by unfold wordS; rw [Option.some.inj q2]; rfl⟩
def opB (a : Int) : Bool := !(wordS a).toList.isEmpty
theorem opB_iff (a : Int) : opB a = true ↔ wordS a ≠ ⟨#[]⟩ := by
  unfold opB
  rw [ByteArray.toList_eq]
  constructor
  · intro h e; rw [e] at h; simp at h
  · intro h
    cases hl : (wordS a).data.toList with
    | nil => exact absurd (Go.WideShapes.bytes_inj (by rw [hl])) h
    | cons x r => rfl
theorem args_rng (a : Int) : -1 ≤ argsV a ∧ argsV a ≤ 2 := by unfold argsV; (repeat' split) <;> omega
theorem args_no {a : Int} (h : opB a = false) : argsV a = -1 := by
  have h0 : wordS a = ⟨#[]⟩ := by
    rcases Classical.em (wordS a = ⟨#[]⟩) with e | e
    · exact e
    · rw [(opB_iff a).2 e] at h; cases h
  by_cases ha : a < 0 ∨ 34 < a
  · unfold argsV; (repeat' split) <;> omega
  · obtain ⟨i, rfl⟩ : ∃ k : Nat, a = k := ⟨a.toNat, by omega⟩
    have key : ∀ i : Fin 35, opB ((i.val : Nat) : Int) = false → argsV ((i.val : Nat) : Int) = -1 := by decide +kernel
    exact key ⟨i, by omega⟩ h
theorem quiet_op {a : Int} (h : quietB a = true) : opB a = true := by
  by_cases ha : a < 0 ∨ 34 < a
  · exfalso
    unfold quietB hasL quietTab at h
    simp at h
    omega
  · obtain ⟨i, rfl⟩ : ∃ k : Nat, a = k := ⟨a.toNat, by omega⟩
    have key : ∀ i : Fin 35, quietB ((i.val : Nat) : Int) = true → opB ((i.val : Nat) : Int) = true := by decide +kernel
    exact key ⟨i, by omega⟩ h
theorem word_eq (a b : Int) : ((wordS a).toList == (wordS b).toList) = (a == b || (!opB a && !opB b)) := by
  rw [ByteArray.toList_eq, ByteArray.toList_eq, Bool.eq_iff_iff, beq_iff_eq, Bool.or_eq_true, beq_iff_eq, Bool.and_eq_true, Bool.not_eq_true', Bool.not_eq_true']
  have no : ∀ x, opB x = false ↔ wordS x = ⟨#[]⟩ := fun x => by
    rw [← Bool.not_eq_true, opB_iff]; exact Classical.not_not
  rw [no, no]
  constructor
  · intro h
    rcases word_inj (Go.WideShapes.bytes_inj h) with q | q
    · exact .inl q
    · exact .inr q
  · rintro (q | ⟨q1, q2⟩)
    · rw [q]
    · rw [q1, q2]

set_option maxRecDepth 20000 in
set_option maxHeartbeats 2000000 in
theorem irWords_true (a b : Int) (w : World) (hG : Gd w) : Calls Tryd.prog 6 #[.int .i64 a, .int .i64 b] w fun e w' => e = .returned (.bool true) ∧ Below w.heap.size w w' := by
  have HG := Lib.hid hG
  clear hG
  obtain ⟨oa, hoa⟩ : ∃ x, opB a = x := ⟨_, rfl⟩
  obtain ⟨ob, hob⟩ : ∃ x, opB b = x := ⟨_, rfl⟩
  obtain ⟨qa, hqa⟩ : ∃ x, quietB a = x := ⟨_, rfl⟩
  obtain ⟨na, hna⟩ : ∃ x, argsV a = x := ⟨_, rfl⟩
  obtain ⟨wa, hwa⟩ : ∃ x, wordS a = x := ⟨_, rfl⟩
  obtain ⟨wb, hwb⟩ : ∃ x, wordS b = x := ⟨_, rfl⟩
  have hr := args_rng a
  have hno : oa = false → na = -1 := fun h => by rw [← hna]; exact args_no (hoa.trans h)
  have hq : qa = true → oa = true := fun h => by rw [← hoa]; exact quiet_op (hqa.trans h)
  have he : wa.toList.isEmpty = !oa := by rw [← hwa, ← hoa]; unfold opB; simp
  have hw := word_eq a b
  rw [hwa, hwb, hoa, hob] at hw
  rw [hna] at hr
  have K15a : Hid (∀ w', Gd w' → Calls Tryd.prog 15 #[.int .i64 a] w' fun e w2 => e = .returned (.string wa) ∧ w' = w2) := fun w' g => by rw [← hwa]; exact word_any a w' g.words
  have K15b : Hid (∀ w', Gd w' → Calls Tryd.prog 15 #[.int .i64 b] w' fun e w2 => e = .returned (.string wb) ∧ w' = w2) := fun w' g => by rw [← hwb]; exact word_any b w' g.words
  have K16a : Hid (∀ w', Gd w' → Calls Tryd.prog 16 #[.int .i64 a] w' fun e w2 => e = .returned (.bool oa) ∧ w' = w2) := fun w' g => by rw [← hoa]; exact isOp_any a w' g.words
  have K16b : Hid (∀ w', Gd w' → Calls Tryd.prog 16 #[.int .i64 b] w' fun e w2 => e = .returned (.bool ob) ∧ w' = w2) := fun w' g => by rw [← hob]; exact isOp_any b w' g.words
  have K17 : Hid (∀ w', Calls Tryd.prog 17 #[.int .i64 a] w' fun e w2 => e = .returned (.int .i64 na) ∧ w' = w2) := fun w' => by rw [← hna]; exact args_any a w'
  have K19 : Hid (∀ w', Calls Tryd.prog 19 #[.int .i64 a] w' fun e w2 => e = .returned (.bool qa) ∧ w' = w2) := fun w' => by rw [← hqa]; exact quiet_any a w'
  clear hoa hob hqa hna hwa hwb
  have h1 : ¬ na < -1 := by omega
  have h2 : ¬ 2 < na := by omega
  obtain ⟨d, hd⟩ : ∃ d, (a == b) = d := ⟨_, rfl⟩
  rw [hd] at hw
  go_enter Tryd.func6, Tryd.ntmps6
  go_wp2_with fail
  refine (awake_true w HG.out).mono ?_
  rintro e w1 ⟨rfl, b1⟩
  have HB1 := Lib.hid b1
  have HG1 := Lib.hid (HG.out.drop b1)
  clear b1
  cases oa with
  | false =>
    obtain rfl : qa = false := by cases qa with | false => rfl | true => cases hq rfl
    obtain rfl := hno rfl
    clear hno hq hr
    cases d <;> cases ob
    all_goals (
      go_wp2_with (first | (go_at_call 16; with_reducible refine (K16a.out _ HG1.out).mono ?_; rintro e w' ⟨rfl, rfl⟩) | (go_at_call 16; with_reducible refine (K16b.out _ HG1.out).mono ?_; rintro e w' ⟨rfl, rfl⟩) | (go_at_call 15; with_reducible refine (K15a.out _ HG1.out).mono ?_; rintro e w' ⟨rfl, rfl⟩) | (go_at_call 15; with_reducible refine (K15b.out _ HG1.out).mono ?_; rintro e w' ⟨rfl, rfl⟩) | (go_at_call 17; with_reducible refine (K17.out _).mono ?_; rintro e w' ⟨rfl, rfl⟩) | (go_at_call 19; with_reducible refine (K19.out _).mono ?_; rintro e w' ⟨rfl, rfl⟩))
      go_ret
      exact ⟨rfl, HB1.out⟩)
  | true =>
    clear hno hq hr
    cases d <;> cases ob <;> cases qa
    all_goals (
      go_wp2_with (first | (go_at_call 16; with_reducible refine (K16a.out _ HG1.out).mono ?_; rintro e w' ⟨rfl, rfl⟩) | (go_at_call 16; with_reducible refine (K16b.out _ HG1.out).mono ?_; rintro e w' ⟨rfl, rfl⟩) | (go_at_call 15; with_reducible refine (K15a.out _ HG1.out).mono ?_; rintro e w' ⟨rfl, rfl⟩) | (go_at_call 15; with_reducible refine (K15b.out _ HG1.out).mono ?_; rintro e w' ⟨rfl, rfl⟩) | (go_at_call 17; with_reducible refine (K17.out _).mono ?_; rintro e w' ⟨rfl, rfl⟩) | (go_at_call 19; with_reducible refine (K19.out _).mono ?_; rintro e w' ⟨rfl, rfl⟩))
      go_ret
      exact ⟨rfl, HB1.out⟩)

end Go.Proofs.YtcbjcpmkebbfaaaDoor
