/-
  CONTRACTS: Check, Get, Set of the document's own heap (truantref06). Conditions: none of our own.
-/
import Derived.Test.YtjgmhkplgenieaaDoorUMem
namespace Go.Proofs.YtjgmhkplgenieaaDoor
open Go.RowKit

set_option maxRecDepth 100000 in
set_option maxHeartbeats 1000000 in
theorem ucheck_any (P : Nat → Prop) (ub m c : Nat) (A : Option Addr) (H : Hp) (lv : Value) (zs : List (Ob × Nat)) (o f : Int) (r : Nat) (w : World) (h : UM w P ub A m c H lv zs) (hr : Hid (askO (some H) o f = r)) :
    Calls Tryd.prog 37 #[.pointer (some ⟨ub, 0, none⟩), .int .i64 o, .int .i64 f] w fun e w' => e = .returned (.int .i64 r) ∧ w = w' := by
  have hq : askH H o f = r := hr.out
  clear hr
  unfold askH at hq
  have hno := h.ok.no
  obtain ⟨B, k, rfl, hk⟩ := h.lform
  have c1 := h.c1
  by_cases h0 : o = 0
  · subst h0
    rw [if_pos rfl] at hq
    subst hq
    clear h
    go_enter Tryd.func37, Tryd.ntmps37
    go_wp2_with fail
    go_ret
    exact ⟨rfl, rfl⟩
  · rw [if_neg h0] at hq
    by_cases h1 : o < 0
    · have hh : hasO (some H) o = false := by unfold hasO; rw [decide_eq_false (show ¬ (1 : Int) ≤ o by omega)]; rfl
      rw [if_pos hh] at hq
      subst hq
      clear h
      generalize H.obs.length = n at *
      go_enter Tryd.func37, Tryd.ntmps37
      go_wp2_with fail
      go_ret
      exact ⟨rfl, rfl⟩
    · cases hh : hasO (some H) o with
      | false =>
        rw [if_pos hh] at hq
        subst hq
        have h2 : (H.obs.length : Int) < o := by
          unfold hasO at hh
          rw [decide_eq_true (show (1 : Int) ≤ o by omega), Bool.true_and] at hh
          have := of_decide_eq_false hh
          have e : lenO (some H) = H.obs.length := rfl
          omega
        clear h hh
        generalize H.obs.length = n at *
        go_enter Tryd.func37, Tryd.ntmps37
        go_wp2_with fail
        go_ret
        exact ⟨rfl, rfl⟩
      | true =>
        obtain ⟨i, hi, hoi, hti⟩ := has_num hh
        rw [hh, if_neg (by decide), hti] at hq
        obtain ⟨g, k', e1, e2, hg⟩ := h.lform' hi
        injection e1 with e3 e4 e5
        subst e3 e5
        obtain ⟨fg, d0, d1, d2, hz, hfg⟩ := h.row hi
        have hw8 : H.wid i ≤ 8 := by
          have h1 := h.ok.wd
          have hob : H.obs[i]? = some (H.ob i) := by rw [← h.hz, List.getElem?_map, hz]; rfl
          have h3 := h.ok.sh _ (List.mem_of_getElem? hob)
          unfold Hp.wid Hp.st
          rw [List.getD_eq_getElem?_getD, List.getElem?_eq_getElem h3]
          exact h1 _ (List.getElem_mem _)
        subst hoi
        have hw : IntKind.i64.wrap ((i : Int) + 1 - 1) = (i : Int) := by rw [show (i : Int) + 1 - 1 = i by omega]; exact IntWalk.i64_in _ (by omega)
        have hle : ¬ (H.obs.length : Int) < (i : Int) + 1 := by omega
        have hlt : (i : Int) < (H.obs.length : Int) := by omega
        clear h hh hti d2 hz hfg
        generalize H.obs.length = n at *
        generalize H.wid i = wd at *
        by_cases hf : f < 0
        · rw [if_pos (.inl hf)] at hq
          subst hq
          go_enter Tryd.func37, Tryd.ntmps37
          go_wp2_with fail
          go_ret
          exact ⟨rfl, rfl⟩
        · by_cases hk2 : (wd : Int) ≤ f
          · rw [if_pos (.inr hk2)] at hq
            subst hq
            go_enter Tryd.func37, Tryd.ntmps37
            go_wp2_with fail
            go_ret
            exact ⟨rfl, rfl⟩
          · rw [if_neg (by omega)] at hq
            subst hq
            go_enter Tryd.func37, Tryd.ntmps37
            go_wp2_with fail
            go_ret
            exact ⟨rfl, rfl⟩

set_option maxRecDepth 100000 in
set_option maxHeartbeats 1000000 in
theorem uget_any (P : Nat → Prop) (ub m c : Nat) (A : Option Addr) (H : Hp) (lv : Value) (zs : List (Ob × Nat)) (o f n : Int) (r : Nat) (w : World) (h : UM w P ub A m c H lv zs) (hr : Hid (askO (some H) o f = r)) (hn : Hid (getO (some H) o f = n)) :
    Calls Tryd.prog 20 #[.pointer (some ⟨ub, 0, none⟩), .int .i64 o, .int .i64 f] w fun e w' => e = .returned (.tuple #[.int .i64 n, .int .i64 r]) ∧ w = w' := by
  have HU := Lib.hid h
  by_cases h0 : r = 0
  · subst h0
    obtain ⟨H', i, k, e, hi, rfl, rfl, hk⟩ := ask_zero hr.out
    cases e
    obtain ⟨g, q, rfl, hq, hg⟩ := h.lform' hi
    obtain ⟨fg, d0, d1, d2, hz, hfg⟩ := h.row hi
    have d3 := d2 k hk
    rw [← get_in hi hk, hn.out] at d3
    have c1 := h.c1
    have hno := h.ok.no
    have hw : IntKind.i64.wrap ((i : Int) + 1 - 1) = (i : Int) := by rw [show (i : Int) + 1 - 1 = i by omega]; exact IntWalk.i64_in _ (by omega)
    have hlt : (i : Int) < (H.obs.length : Int) := by omega
    have hlt2 : (k : Int) < (H.wid i : Int) := by omega
    clear h d2 hz
    generalize hL : H.obs.length = len at *
    generalize hW : H.wid i = wd at *
    have HL := Lib.hid hL
    have HW := Lib.hid hW
    clear hL hW
    go_enter Tryd.func20, Tryd.ntmps20
    go_wp2_with (go_at_call 37; refine (ucheck_any P ub m c A H _ zs _ _ 0 _ HU.out hr).mono ?_; rintro e w' ⟨rfl, rfl⟩)
    go_ret2
    exact ⟨rfl, rfl⟩
  · have hn0 := hn.out
    rw [get_no (by rw [hr.out]; exact h0)] at hn0
    subst hn0
    have n1 : ((r : Int) != 0) = true := by simp; omega
    clear h0 h
    go_enter Tryd.func20, Tryd.ntmps20
    go_wp2_with (go_at_call 37; refine (ucheck_any P ub m c A H _ zs _ _ r _ HU.out hr).mono ?_; rintro e w' ⟨rfl, rfl⟩)
    go_ret2
    exact ⟨rfl, rfl⟩

set_option maxRecDepth 100000 in
set_option maxHeartbeats 1000000 in
theorem uset_any (P : Nat → Prop) (ub m c : Nat) (A : Option Addr) (H H' : Hp) (lv : Value) (zs : List (Ob × Nat)) (o f n : Int) (r : Nat) (w : World) (h : UM w P ub A m c H lv zs) (hr : Hid (askO (some H) o f = r)) (hs : Hid (setO (some H) o f n = some H')) :
    Calls Tryd.prog 19 #[.pointer (some ⟨ub, 0, none⟩), .int .i64 o, .int .i64 f, .int .i64 n] w fun e w' => e = .returned (.int .i64 r) ∧ Sv P w w' ∧ w.heap.size = w'.heap.size ∧ ∃ zs', UM w' P ub A m c H' lv zs' := by
  have HU := Lib.hid h
  by_cases h0 : r = 0
  · subst h0
    obtain ⟨H2, i, k, e, hi, rfl, rfl, hk⟩ := ask_zero hr.out
    cases e
    have hs' := hs.out
    rw [set_in hi hk] at hs'
    cases hs'
    obtain ⟨g, q, rfl, hq, hg⟩ := h.lform' hi
    obtain ⟨fg, d0, d1, d2, hz, hfg⟩ := h.row hi
    have d3 := d2 k hk
    have c1 := h.c1
    have hno := h.ok.no
    have hfz := (h.fr i _ _ hz).frozenAt k
    obtain ⟨hset, hsv⟩ := h.set hz hk n
    have HSET := Lib.hid hset
    have hw : IntKind.i64.wrap ((i : Int) + 1 - 1) = (i : Int) := by rw [show (i : Int) + 1 - 1 = i by omega]; exact IntWalk.i64_in _ (by omega)
    have hlt : (i : Int) < (H.obs.length : Int) := by omega
    have hlt2 : (k : Int) < (H.wid i : Int) := by omega
    clear h d2 hz hset hs
    generalize hL : H.obs.length = len at *
    generalize hW : H.wid i = wd at *
    have HL := Lib.hid hL
    have HW := Lib.hid hW
    clear hL hW
    go_enter Tryd.func19, Tryd.ntmps19
    go_wp2_with (go_at_call 37; refine (ucheck_any P ub m c A H _ zs _ _ 0 _ HU.out hr).mono ?_; rintro e w' ⟨rfl, rfl⟩)
    go_ret
    exact ⟨rfl, hsv, by simp [World.setCell], _, HSET.out⟩
  · have hs0 := hs.out
    rw [set_no (by rw [hr.out]; exact h0)] at hs0
    cases hs0
    have n1 : ((r : Int) != 0) = true := by simp; omega
    clear h0 h
    go_enter Tryd.func19, Tryd.ntmps19
    go_wp2_with (go_at_call 37; refine (ucheck_any P ub m c A H _ zs _ _ r _ HU.out hr).mono ?_; rintro e w' ⟨rfl, rfl⟩)
    go_ret
    exact ⟨rfl, Sv.refl _ _, rfl, zs, HU.out⟩

end Go.Proofs.YtjgmhkplgenieaaDoor
