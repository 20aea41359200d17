/-
  CONTRACTS: the library's slices.Index and slices.Contains on a row of numbers: whether it has one. Of what was there nothing has turned.
-/
import Derived.Test.YtpaddigjjlidcaaFlP2
namespace Go.Proofs.Ytpaddigjjlidcaa
open Go.RowKit

theorem hasJ_take {l : List Int} {k : Nat} {x n : Int} (h : l[k]? = some x) (h2 : hasJ (l.take k) n = false) (hne : (n == x) = false) : hasJ (l.take (k + 1)) n = false := by
  rw [hasJ_up h, h2, Bool.false_or, Bool.beq_comm, hne]
set_option maxHeartbeats 400000 in
theorem index_any (A : Option Addr) (c m : Nat) (l : List Int) (n : Int) (w : World) (hR : SL 1 intR w A l) (hm : Hid (l.length = m)) (hl : m ≤ 140737488351232) :
    Calls Try.prog 27 #[.slice A m c, .int .i64 n] w fun e w' => ∃ i : Int, e = .returned (.int .i64 i) ∧ (decide (0 ≤ i)) = hasJ l n ∧ Below w.heap.size w w' := by
  have HR := Lib.hid hR
  clear hR
  go_enter Try.func27, Try.ntmps27
  go_wp2_with fail
  go_loopw [5, 8] (fun _ i wr => BRel w m (fun k => hasJ (l.take k) n = false) i wr) (fun _ i _ => m - (intOf i).toNat)
  case atStart => exact ⟨0, Nat.zero_le _, rfl, rfl, Below.refl _ _⟩
  case round =>
    obtain ⟨k, hk, rfl, HK, hb⟩ := hrel
    by_cases hlt : k < m
    · obtain ⟨g, o, rfl, hg, hcs⟩ := (HR.out.below kp_int hb (Nat.le_refl _)) (by have := hm.out; omega)
      obtain ⟨x, hx⟩ : ∃ x, l[k]? = some x := ⟨_, List.getElem?_eq_getElem (by have := hm.out; omega)⟩
      obtain ⟨cs, ⟨rfl, -⟩, h0⟩ := hcs k x hx
      have c0 := h0 0 _ rfl
      have HX := Lib.hid hx
      have HB := Lib.hid hb
      clear hcs hx h0 hb
      simp only [Nat.mul_one, Nat.add_zero] at c0
      cases h1 : (n == x) with
      | true =>
        have HH : Hid (hasJ l n = true) := by
          obtain rfl := eq_of_beq h1
          exact List.any_eq_true.2 ⟨n, List.mem_of_getElem? HX.out, by simp⟩
        go_wp2_with fail
        go_ret
        exact ⟨k, rfl, by rw [HH.out]; simp, HB.out⟩
      | false =>
        have HT := Lib.hid (hasJ_take HX.out HK.out h1)
        go_wp2_with fail
        go_roundw
        case rel => exact ⟨k + 1, by omega, by go_num, HT, HB.out⟩
        case measure => simp [intOf]; omega
    · have HH : Hid (hasJ l n = false) := by
        have h : hasJ (l.take k) n = false := HK.out
        rw [List.take_of_length_le (by have := hm.out; omega)] at h
        exact h
      go_wp2_with fail
      go_ret
      exact ⟨-1, rfl, by rw [HH.out]; simp, hb⟩
set_option maxHeartbeats 400000 in
theorem contains_any (A : Option Addr) (c m : Nat) (l : List Int) (n : Int) (w : World) (hR : SL 1 intR w A l) (hm : Hid (l.length = m)) (hl : m ≤ 140737488351232) :
    Calls Try.prog 23 #[.slice A m c, .int .i64 n] w fun e w' => e = .returned (.bool (hasJ l n)) ∧ Below w.heap.size w w' := by
  go_enter Try.func23, Try.ntmps23
  go_wp2_with fail
  refine (index_any A c m l n w hR hm hl).mono ?_
  rintro e w2 ⟨i, rfl, hi, hb⟩
  have HI := Lib.hid hi
  have HB := Lib.hid hb
  clear hi hb hR
  obtain ⟨q, hq⟩ : ∃ b, decide (0 ≤ i) = b := ⟨_, rfl⟩
  have HQ : Hid (hasJ l n = q) := HI.out.symm.trans hq
  clear HI
  go_wp2_with fail
  go_ret
  rw [HQ.out]
  exact ⟨by simp, HB.out⟩
end Go.Proofs.Ytpaddigjjlidcaa
