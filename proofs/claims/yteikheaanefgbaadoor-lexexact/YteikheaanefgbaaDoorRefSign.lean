/-
  CONTRACT: the reference's sign at every text of at most 2^48 bytes and every place in it: how long the sign there is. The world is as it was.
-/
import Derived.Test.YteikheaanefgbaaDoorSign
import Derived.Test.YteikheaanefgbaaDoorMath
namespace Go.Proofs.YteikheaanefgbaaDoor
open Go.RowKit

def shortN (c : UInt8) : Int := if shortB c then 1 else 0
def signN (l : List UInt8) (c : UInt8) : Int := if longB l then 2 else shortN c
theorem short_iff (c : UInt8) : shortB c = true ↔ (c.toNat = 43 ∨ c.toNat = 45 ∨ c.toNat = 42 ∨ c.toNat = 47 ∨ c.toNat = 37 ∨ c.toNat = 38 ∨ c.toNat = 124 ∨ c.toNat = 94 ∨ c.toNat = 60 ∨ c.toNat = 62 ∨ c.toNat = 33 ∨ c.toNat = 61 ∨ c.toNat = 46 ∨ c.toNat = 44 ∨ c.toNat = 59 ∨ c.toNat = 40 ∨ c.toNat = 41 ∨ c.toNat = 123 ∨ c.toNat = 125) := by
  simp only [shortB, shortTab, List.contains_cons, List.contains_nil, Bool.or_false, Bool.or_eq_true, beq_iff_eq, ← UInt8.toNat_inj]
  rfl
theorem shortN_yes {c : UInt8} (h : c.toNat = 43 ∨ c.toNat = 45 ∨ c.toNat = 42 ∨ c.toNat = 47 ∨ c.toNat = 37 ∨ c.toNat = 38 ∨ c.toNat = 124 ∨ c.toNat = 94 ∨ c.toNat = 60 ∨ c.toNat = 62 ∨ c.toNat = 33 ∨ c.toNat = 61 ∨ c.toNat = 46 ∨ c.toNat = 44 ∨ c.toNat = 59 ∨ c.toNat = 40 ∨ c.toNat = 41 ∨ c.toNat = 123 ∨ c.toNat = 125) : shortN c = 1 := by
  unfold shortN; rw [if_pos ((short_iff c).2 h)]

theorem shortN_no {c : UInt8} (h : ¬ (c.toNat = 43 ∨ c.toNat = 45 ∨ c.toNat = 42 ∨ c.toNat = 47 ∨ c.toNat = 37 ∨ c.toNat = 38 ∨ c.toNat = 124 ∨ c.toNat = 94 ∨ c.toNat = 60 ∨ c.toNat = 62 ∨ c.toNat = 33 ∨ c.toNat = 61 ∨ c.toNat = 46 ∨ c.toNat = 44 ∨ c.toNat = 59 ∨ c.toNat = 40 ∨ c.toNat = 41 ∨ c.toNat = 123 ∨ c.toNat = 125)) : shortN c = 0 := by
  unfold shortN; rw [if_neg (fun e => h ((short_iff c).1 e))]

set_option maxHeartbeats 400000 in
theorem refSign_none (s : ByteArray) (k : Nat) (m : Int) (w : World) (hs : s.size ≤ 281474976710656) (hk : k < s.size) (h2 : s.size < k + 2) (hm : Hid (m = shortN s[k])) :
    Calls Tryd.prog 22 #[.string s, .int .i64 k] w fun e w' => e = .returned (.int .i64 m) ∧ w = w' := by
  have i2 : ¬ (k : Int) + 2 ≤ (s.size : Int) := by omega
  go_enter Tryd.func22, Tryd.ntmps22
  go_wp2_with fail
  all_goals (go_ret; refine ⟨ret_int ?_, rfl⟩; simp only [beq_iff_eq, beq_eq_false_iff_ne, ne_eq] at *; rw [hm.out]; first | exact (shortN_yes (by omega)).symm | exact (shortN_no (by omega)).symm)

theorem sign_slice (s : ByteArray) (k : Nat) (h : k + 2 ≤ s.size) (W : World) : (Instr.slice 9 (.string s) (some (.int .i64 k)) (some (.int .i64 ((k : Int) + 2))) none).run Tryd.prog W = .ok (.string (s.extract k (k + 2))) W := slice_run s k (k + 2) (by omega) h W
theorem long_ne {x : ByteArray} (h : longTab.contains x.data.toList = false) : (x.toList == [60, 60]) = false ∧ (x.toList == [62, 62]) = false ∧ (x.toList == [61, 61]) = false ∧ (x.toList == [33, 61]) = false ∧ (x.toList == [60, 61]) = false ∧ (x.toList == [62, 61]) = false ∧ (x.toList == [38, 38]) = false ∧ (x.toList == [124, 124]) = false ∧ (x.toList == [58, 61]) = false := by
  rw [ByteArray.toList_eq]
  simpa [longTab] using h
theorem long_in {x : ByteArray} (h : longTab.contains x.data.toList = true) : x = ⟨#[60, 60]⟩ ∨ x = ⟨#[62, 62]⟩ ∨ x = ⟨#[61, 61]⟩ ∨ x = ⟨#[33, 61]⟩ ∨ x = ⟨#[60, 61]⟩ ∨ x = ⟨#[62, 61]⟩ ∨ x = ⟨#[38, 38]⟩ ∨ x = ⟨#[124, 124]⟩ ∨ x = ⟨#[58, 61]⟩ := by
  have e : ∀ l : List UInt8, x.data.toList = l → x = ⟨l.toArray⟩ := fun l hl => (str_eq hl.symm).symm
  simp only [longTab, List.contains_cons, List.contains_nil, Bool.or_false, Bool.or_eq_true, beq_iff_eq] at h
  rcases h with h | h | h | h | h | h | h | h | h
  · exact Or.inl (e _ h)
  · exact Or.inr (Or.inl (e _ h))
  · exact Or.inr (Or.inr (Or.inl (e _ h)))
  · exact Or.inr (Or.inr (Or.inr (Or.inl (e _ h))))
  · exact Or.inr (Or.inr (Or.inr (Or.inr (Or.inl (e _ h)))))
  · exact Or.inr (Or.inr (Or.inr (Or.inr (Or.inr (Or.inl (e _ h))))))
  · exact Or.inr (Or.inr (Or.inr (Or.inr (Or.inr (Or.inr (Or.inl (e _ h)))))))
  · exact Or.inr (Or.inr (Or.inr (Or.inr (Or.inr (Or.inr (Or.inr (Or.inl (e _ h))))))))
  · exact Or.inr (Or.inr (Or.inr (Or.inr (Or.inr (Or.inr (Or.inr (Or.inr (e _ h))))))))

set_option maxHeartbeats 400000 in
theorem refSign_short (s : ByteArray) (k : Nat) (m : Int) (w : World) (hs : s.size ≤ 281474976710656) (hk : k < s.size) (h2 : k + 2 ≤ s.size) (hl : longTab.contains (s.extract k (k + 2)).data.toList = false) (hm : Hid (m = shortN s[k])) :
    Calls Tryd.prog 22 #[.string s, .int .i64 k] w fun e w' => e = .returned (.int .i64 m) ∧ w = w' := by
  have i2 : (k : Int) + 2 ≤ (s.size : Int) := by omega
  have hsl := sign_slice s k h2
  generalize s.extract k (k + 2) = x at hsl hl
  obtain ⟨n1, n2, n3, n4, n5, n6, n7, n8, n9⟩ := long_ne hl
  clear hl
  go_enter Tryd.func22, Tryd.ntmps22
  go_wp2_with fail
  all_goals (go_ret; refine ⟨ret_int ?_, rfl⟩; simp only [beq_iff_eq, beq_eq_false_iff_ne, ne_eq] at *; rw [hm.out]; first | exact (shortN_yes (by omega)).symm | exact (shortN_no (by omega)).symm)

set_option maxHeartbeats 400000 in
theorem refSign_long (s : ByteArray) (k : Nat) (w : World) (hs : s.size ≤ 281474976710656) (h2 : k + 2 ≤ s.size) (hl : longTab.contains (s.extract k (k + 2)).data.toList = true) :
    Calls Tryd.prog 22 #[.string s, .int .i64 k] w fun e w' => e = .returned (.int .i64 2) ∧ w = w' := by
  have i2 : (k : Int) + 2 ≤ (s.size : Int) := by omega
  have hsl := sign_slice s k h2
  generalize s.extract k (k + 2) = x at hsl hl
  rcases long_in hl with rfl | rfl | rfl | rfl | rfl | rfl | rfl | rfl | rfl
  all_goals
    clear hl
    go_enter Tryd.func22, Tryd.ntmps22
    go_wp2_with fail
    go_ret
    exact ⟨rfl, rfl⟩

theorem refSign_any (s : ByteArray) (k : Nat) (m : Int) (w : World) (hs : s.size ≤ 281474976710656) (hk : k < s.size) (hm : Hid (signN (s.data.toList.drop k) s[k] = m)) :
    Calls Tryd.prog 22 #[.string s, .int .i64 k] w fun e w' => e = .returned (.int .i64 m) ∧ w = w' := by
  have hx := cut_extract s k (k + 2)
  rw [show k + 2 - k = 2 by omega] at hx
  have hlx : longB (s.data.toList.drop k) = longTab.contains (s.extract k (k + 2)).data.toList := by rw [hx]; rfl
  have h := hm.out
  unfold signN at h
  rw [hlx] at h
  by_cases h2 : k + 2 ≤ s.size
  · cases hl : longTab.contains (s.extract k (k + 2)).data.toList with
    | true =>
      rw [hl] at h
      have : m = 2 := h.symm
      subst this
      exact refSign_long s k w hs h2 hl
    | false =>
      rw [hl] at h
      exact refSign_short s k m w hs hk h2 hl (Lib.hid h.symm)
  · have hf : longTab.contains (s.extract k (k + 2)).data.toList = false := by
      have hlen : (s.extract k (k + 2)).data.toList.length = 1 := by rw [hx, List.length_take, List.length_drop, len_size]; omega
      generalize (s.extract k (k + 2)).data.toList = l at hlen
      match l, hlen with
      | [c], _ => exact long_no1 c
    rw [hf] at h
    exact refSign_none s k m w hs hk (by omega) (Lib.hid h.symm)

end Go.Proofs.YteikheaanefgbaaDoor
