/-
  CONTRACTS: the statements' own 'great' and 'has'. The world is as it was.
-/
import Derived.Test.YtjgmhkplgenieaaDoorMem
namespace Go.Proofs.YtjgmhkplgenieaaDoor
open Go.RowKit

def grS (s : Str) : Bool := decide (12 < s.fields.length)
def grB (ss : List Str) : Bool := decide (16 < ss.length) || ss.any grS
theorem any_drop {α : Type} {f : α → Bool} {l : List α} {k : Nat} {a : α} (h : l[k]? = some a) : (l.drop k).any f = (f a || (l.drop (k + 1)).any f) := by
  obtain ⟨hk, rfl⟩ := List.getElem?_eq_some_iff.1 h
  rw [List.drop_eq_getElem_cons hk, List.any_cons]

set_option maxHeartbeats 400000 in
theorem great_any (A : Option Addr) (c m : Nat) (ss : List Str) (b : Bool) (w : World) (hR : SR w A ss) (hm : Hid (ss.length = m)) (hl : m ≤ 281474976710656) (hr : Hid (grB ss = b)) :
    Calls Tryd.prog 7 #[.slice A m c] w fun e w' => e = .returned (.bool b) ∧ w = w' := by
  have HR := Lib.hid hR
  clear hR
  by_cases h16 : 16 < m
  · have h16' : (16 : Int) < (m : Int) := by omega
    obtain rfl : b = true := hr.out.symm.trans (by unfold grB; rw [hm.out, decide_eq_true h16]; rfl)
    clear hr
    go_enter Tryd.func7, Tryd.ntmps7
    go_wp2_with fail
    go_ret
    exact ⟨rfl, rfl⟩
  · have h16' : ¬ (16 : Int) < (m : Int) := by omega
    have HQ : Hid ((ss.drop 0).any grS = b) := by show _ = _; rw [← hr.out, grB, hm.out, decide_eq_false h16]; rfl
    clear hr
    go_enter Tryd.func7, Tryd.ntmps7
    go_wp2_with fail
    go_loop [3] (fun i => ∃ k : Nat, k ≤ m ∧ i = .int .i64 k ∧ Hid ((ss.drop k).any grS = b)) (fun i => m - (intOf i).toNat)
    case atStart => exact ⟨0, Nat.zero_le _, rfl, HQ⟩
    case round =>
      obtain ⟨k, hk, rfl, HK⟩ := hrel
      by_cases hlt : k < m
      · obtain ⟨b2, o, rfl, hg, hcs⟩ := HR.out (by have := hm.out; omega)
        obtain ⟨s, hs⟩ : ∃ s, ss[k]? = some s := ⟨_, List.getElem?_eq_getElem (by have := hm.out; omega)⟩
        obtain ⟨FA, fc, c0, c1, c2, c3, -⟩ := hcs k s hs
        have hst := (any_drop (f := grS) hs).symm.trans HK.out
        have HCS := Lib.hid hcs
        have HS := Lib.hid hs
        have HST := Lib.hid hst
        clear hcs hs hst
        obtain ⟨sn, sf⟩ := s
        simp only at c0 c1 c2 c3
        have hgr : grS ⟨sn, sf⟩ = decide (12 < sf.length) := rfl
        generalize sf.length = fm at c1 c2 c3 hgr
        by_cases h12 : 12 < fm
        · have h12' : (12 : Int) < (fm : Int) := by omega
          obtain rfl : b = true := HST.out.symm.trans (by rw [hgr, decide_eq_true h12]; rfl)
          clear hgr HST
          go_wp2_with fail
          go_ret
          exact ⟨rfl, rfl⟩
        · have h12' : ¬ (12 : Int) < (fm : Int) := by omega
          have HN : Hid ((ss.drop (k + 1)).any grS = b) := by show _ = _; rw [← HST.out, hgr, decide_eq_false h12]; rfl
          clear hgr HST
          go_wp2_with fail
          go_round
          case rel => exact ⟨k + 1, by omega, by go_num, HN⟩
          case measure => simp [intOf]; omega
      · obtain rfl : b = false := HK.out.symm.trans (by rw [List.drop_eq_nil_of_le (by have := hm.out; omega)]; rfl)
        go_wp2_with fail
        go_ret
        exact ⟨rfl, rfl⟩

/-- The slice reads as these numbers. -/
def IRz (w : World) (A : Option Addr) (l : List Int) : Prop := 0 < l.length → ∃ b o, A = some ⟨b, o, none⟩ ∧ b < w.heap.size ∧ ∀ (k : Nat) (n : Int), l[k]? = some n → w.cell? ⟨b, o + k, none⟩ = some (.int .i64 n)
theorem IRz.below {w w' : World} {B : Nat} {A : Option Addr} {l : List Int} (h : IRz w A l) (hb : Below B w w') (hB : w.heap.size ≤ B) : IRz w' A l := by
  intro h0
  obtain ⟨b, o, hA, hg, hc⟩ := h h0
  exact ⟨b, o, hA, Nat.lt_of_lt_of_le hg hb.size, fun k n hn => (hb.cell (p := ⟨b, o + k, none⟩) (Nat.lt_of_lt_of_le hg hB)).trans (hc k n hn)⟩

set_option maxHeartbeats 400000 in
theorem has_any (A : Option Addr) (c m : Nat) (l : List Int) (n : Int) (b : Bool) (w : World) (hR : IRz w A l) (hm : Hid (l.length = m)) (hl : m ≤ 281474976710656) (hr : Hid (l.contains n = b)) :
    Calls Tryd.prog 22 #[.slice A m c, .int .i64 n] w fun e w' => e = .returned (.bool b) ∧ w = w' := by
  have HR := Lib.hid hR
  clear hR
  have HQ : Hid ((l.drop 0).any (· == n) = b) := by show _ = _; rw [← hr.out, List.contains_eq_any_beq]; simp [BEq.comm]
  clear hr
  go_enter Tryd.func22, Tryd.ntmps22
  go_wp2_with fail
  go_loop [5] (fun i => ∃ k : Nat, k ≤ m ∧ i = .int .i64 k ∧ Hid ((l.drop k).any (· == n) = b)) (fun i => m - (intOf i).toNat)
  case atStart => exact ⟨0, Nat.zero_le _, rfl, HQ⟩
  case round =>
    obtain ⟨k, hk, rfl, HK⟩ := hrel
    by_cases hlt : k < m
    · obtain ⟨b2, o, rfl, hg, hcs⟩ := HR.out (by have := hm.out; omega)
      obtain ⟨x, hx⟩ : ∃ x, l[k]? = some x := ⟨_, List.getElem?_eq_getElem (by have := hm.out; omega)⟩
      have c0 := hcs k x hx
      have hst := (any_drop (f := (· == n)) hx).symm.trans HK.out
      have HCS := Lib.hid hcs
      have HX := Lib.hid hx
      have HST := Lib.hid hst
      clear hcs hx hst
      cases hxn : (x == n) with
      | true =>
        obtain rfl : b = true := HST.out.symm.trans (by rw [hxn]; rfl)
        clear HST
        go_wp2_with fail
        go_ret
        exact ⟨rfl, rfl⟩
      | false =>
        have HN : Hid ((l.drop (k + 1)).any (· == n) = b) := by show _ = _; rw [← HST.out, hxn]; rfl
        clear HST
        go_wp2_with fail
        go_round
        case rel => exact ⟨k + 1, by omega, by go_num, HN⟩
        case measure => simp [intOf]; omega
    · obtain rfl : b = false := HK.out.symm.trans (by rw [List.drop_eq_nil_of_le (by have := hm.out; omega)]; rfl)
      go_wp2_with fail
      go_ret
      exact ⟨rfl, rfl⟩

end Go.Proofs.YtjgmhkplgenieaaDoor
