/-
  CONTRACTS: slices.Index, Contains at rows of numbers; ir.has. Of what was there nothing has turned.
-/
import Derived.Test.YtcbjcpmkebbfaaaDoorSmIns
namespace Go.Proofs.YtcbjcpmkebbfaaaDoor
open Go.RowKit

set_option maxHeartbeats 400000 in
theorem index_any (A : Option Addr) (c m : Nat) (l : List Int) (n : Int) (b : Bool) (w : World) (hR : SL 1 intR w A l) (hm : Hid (l.length = m)) (hl : m ≤ 140737488351232) (hr : Hid (hasL l n = b)) :
    Calls Tryd.prog 60 #[.slice A m c, .int .i64 n] w fun e w' => ∃ i : Int, e = .returned (.int .i64 i) ∧ I64 i ∧ decide (0 ≤ i) = b ∧ w = w' := by
  have HR := Lib.hid hR
  clear hR
  go_enter Tryd.func60, Tryd.ntmps60
  go_wp2_with fail
  go_loopw [8] (fun i wr => KRel w m (fun k => hasL (l.drop k) n = b) i wr) (fun i _ => m - (intOf i).toNat)
  case atStart => exact ⟨0, Nat.zero_le _, rfl, hr, rfl⟩
  case round =>
    obtain ⟨k, hk, rfl, HK, rfl⟩ := hrel
    by_cases hlt : k < m
    · obtain ⟨g, o, rfl, hg, hcs⟩ := HR.out (by have := hm.out; omega)
      obtain ⟨x, hx⟩ : ∃ x, l[k]? = some x := ⟨_, List.getElem?_eq_getElem (by have := hm.out; omega)⟩
      obtain ⟨cs, ⟨rfl, -⟩, h0⟩ := hcs k x hx
      have c0 := h0 0 _ rfl
      have hd := has_drop (n := n) hx
      rw [HK.out] at hd
      have HD := Lib.hid hd
      clear hcs hd h0 hx
      simp only [Nat.mul_one, Nat.add_zero] at c0
      by_cases he : x = n
      · subst he
        have hb : b = true := HD.out.trans (by simp)
        subst hb
        go_wp2_with fail
        go_ret
        exact ⟨k, rfl, ⟨by omega, by omega⟩, by simp, rfl⟩
      · have hq : b = hasL (l.drop (k + 1)) n := HD.out.trans (by rw [beq_false_of_ne he, Bool.false_or])
        have HQ := Lib.hid hq.symm
        have he2 : ¬ n = x := fun e => he e.symm
        clear hq
        go_wp2_with fail
        go_roundw
        case rel => exact ⟨k + 1, by omega, by go_num, HQ, rfl⟩
        case measure => simp [intOf]; omega
    · have hb : b = false := HK.out.symm.trans (has_end (by have := hm.out; omega))
      subst hb
      go_wp2_with fail
      go_ret
      exact ⟨-1, rfl, ⟨by omega, by omega⟩, by decide, rfl⟩
set_option maxHeartbeats 400000 in
theorem contains_any (A : Option Addr) (c m : Nat) (l : List Int) (n : Int) (b : Bool) (w : World) (hR : SL 1 intR w A l) (hm : Hid (l.length = m)) (hl : m ≤ 140737488351232) (hr : Hid (hasL l n = b)) :
    Calls Tryd.prog 40 #[.slice A m c, .int .i64 n] w fun e w' => e = .returned (.bool b) ∧ w = w' := by
  go_enter Tryd.func40, Tryd.ntmps40
  go_wp2_with fail
  refine (index_any A c m l n b w hR hm hl hr).mono ?_
  rintro e w2 ⟨i, rfl, hi, hb, rfl⟩
  have HB := Lib.hid hb
  clear hb
  go_wp2_with fail
  go_ret
  exact ⟨ret_bool HB.out, rfl⟩
def hasF (f : Fn) (n : Int) : Bool := decide (0 ≤ n) && decide (n < f.ins.length)
set_option maxHeartbeats 400000 in
theorem has_any (E : FE) (n : Int) (w : World) (hM : FM E w) : Calls Tryd.prog 41 #[E.v, .int .i64 n] w fun e w' => e = .returned (.bool (hasF E.f n)) ∧ Below w.heap.size w w' := by
  have HB := Lib.hid (below_alloc w (.cells E.row 40))
  have hib := hM.il
  unfold FE.v FE.row
  clear hM
  by_cases h0 : 0 ≤ n
  · have hq : hasF E.f n = decide (n < E.f.ins.length) := by unfold hasF; rw [decide_eq_true h0]; rfl
    have HQ := Lib.hid hq
    clear hq
    go_enter Tryd.func41, Tryd.ntmps41
    go_wp2_with fail
    go_ret
    exact ⟨ret_bool HQ.out.symm, HB.out⟩
  · have hq : hasF E.f n = false := by unfold hasF; rw [decide_eq_false h0]; rfl
    have HQ := Lib.hid hq
    clear hq
    go_enter Tryd.func41, Tryd.ntmps41
    go_wp2_with fail
    go_ret
    exact ⟨ret_bool HQ.out.symm, HB.out⟩

end Go.Proofs.YtcbjcpmkebbfaaaDoor
