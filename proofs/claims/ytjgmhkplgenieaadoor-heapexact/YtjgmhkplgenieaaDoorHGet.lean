/-
  CONTRACTS: ask, Get, Of of package heap, at whatever heap, nil too.
-/
import Derived.Test.YtjgmhkplgenieaaDoorHShape
namespace Go.Proofs.YtjgmhkplgenieaaDoor
open Go.RowKit

def askH (H : Hp) (o f : Int) : Nat := if o = 0 then 10 else if hasO (some H) o = false then 13 else if f < 0 ∨ (H.wid (o - 1).toNat : Int) ≤ f then 2 else 0
def askO : Option Hp → Int → Int → Nat
  | none, _, _ => 13
  | some H, o, f => askH H o f
theorem has_num {H : Hp} {o : Int} (h : hasO (some H) o = true) : ∃ i : Nat, i < H.obs.length ∧ o = (i : Int) + 1 ∧ (o - 1).toNat = i := by
  unfold hasO at h
  rw [Bool.and_eq_true, decide_eq_true_eq, decide_eq_true_eq] at h
  have h2 : o ≤ (H.obs.length : Int) := h.2
  exact ⟨(o - 1).toNat, by omega, by omega, rfl⟩
theorem num_has {H : Hp} {i : Nat} (h : i < H.obs.length) : hasO (some H) ((i : Int) + 1) = true := by
  unfold hasO
  rw [Bool.and_eq_true, decide_eq_true_eq, decide_eq_true_eq]
  exact ⟨by omega, by show _ ≤ (H.obs.length : Int); omega⟩

theorem fld0 (a : ByteArray) (n : Int) (b0 b1 b2 b3 b4 b5 b6 b7 : Bool) (w : World) : (Instr.field 70 (.agg #[.string a, .int .i64 n, .bool b0, .bool b1, .bool b2, .bool b3, .bool b4, .bool b5, .bool b6, .bool b7]) 0).run Tryd.prog w = .ok (.string a) w := by kernel_rfl
theorem fld1 (a : ByteArray) (n : Int) (b0 b1 b2 b3 b4 b5 b6 b7 : Bool) (w : World) : (Instr.field 70 (.agg #[.string a, .int .i64 n, .bool b0, .bool b1, .bool b2, .bool b3, .bool b4, .bool b5, .bool b6, .bool b7]) 1).run Tryd.prog w = .ok (.int .i64 n) w := by kernel_rfl
theorem fld2 (a : ByteArray) (n : Int) (b0 b1 b2 b3 b4 b5 b6 b7 : Bool) (w : World) : (Instr.field 70 (.agg #[.string a, .int .i64 n, .bool b0, .bool b1, .bool b2, .bool b3, .bool b4, .bool b5, .bool b6, .bool b7]) 2).run Tryd.prog w = .ok (.agg #[.bool b0, .bool b1, .bool b2, .bool b3, .bool b4, .bool b5, .bool b6, .bool b7]) w := by kernel_rfl

set_option maxRecDepth 100000 in
set_option maxHeartbeats 1000000 in
theorem ask_any (P : Nat → Prop) (v : Value) (H : Option Hp) (o f : Int) (r : Nat) (w : World) (h : PM w P v H) (hr : Hid (askO H o f = r)) :
    Calls Tryd.prog 29 #[v, .int .i64 o, .int .i64 f] w fun e w' => e = .returned (.int .i64 r) ∧ Below w.heap.size w w' := by
  cases H with
  | none =>
    obtain rfl : v = .pointer none := h
    obtain rfl : 13 = r := hr.out
    go_enter Tryd.func29, Tryd.ntmps29
    go_wp2_with fail
    go_ret
    exact ⟨rfl, Below.refl _ _⟩
  | some H =>
    obtain ⟨hb, sv, ov, rfl, hm⟩ := h
    have hq : askH H o f = r := hr.out
    unfold askH at hq
    have HM := Lib.hid hm
    have HPM : Hid (PM w P (.pointer (some ⟨hb, 0, none⟩)) (some H)) := ⟨hb, sv, ov, rfl, hm⟩
    clear hm
    by_cases h0 : o = 0
    · subst h0
      rw [if_pos rfl] at hq
      subst hq
      go_enter Tryd.func29, Tryd.ntmps29
      go_wp2_with fail
      go_ret
      exact ⟨rfl, Below.refl _ _⟩
    · rw [if_neg h0] at hq
      cases hh : hasO (some H) o with
      | false =>
        have HH := Lib.hid hh
        rw [hh, if_pos rfl] at hq
        subst hq
        clear hh
        go_enter Tryd.func29, Tryd.ntmps29
        go_wp2_with (go_at_call 30; refine (has_obj P _ _ o false _ HPM.out HH).mono ?_; rintro e w' ⟨rfl, rfl⟩)
        go_ret
        exact ⟨rfl, Below.refl _ _⟩
      | true =>
        obtain ⟨i, hi, hoi, hti⟩ := has_num hh
        have HH := Lib.hid hh
        have HO := Lib.hid hoi
        rw [hh, if_neg (by decide), hti] at hq
        clear hh hoi hti
        by_cases hf : f < 0
        · rw [if_pos (.inl hf)] at hq
          subst hq
          go_enter Tryd.func29, Tryd.ntmps29
          go_wp2_with (go_at_call 30; refine (has_obj P _ _ o true _ HPM.out HH).mono ?_; rintro e w' ⟨rfl, rfl⟩)
          go_ret
          exact ⟨rfl, Below.refl _ _⟩
        · have hsa : shA (H.st i) = .agg #[.string (H.st i).name, .int .i64 (H.wid i), .bool (linkB (H.st i).fields 0), .bool (linkB (H.st i).fields 1), .bool (linkB (H.st i).fields 2), .bool (linkB (H.st i).fields 3), .bool (linkB (H.st i).fields 4), .bool (linkB (H.st i).fields 5), .bool (linkB (H.st i).fields 6), .bool (linkB (H.st i).fields 7)] := rfl
          by_cases hk : (H.wid i : Int) ≤ f
          · rw [if_pos (.inr hk)] at hq
            subst hq
            have HS := Lib.hid hsa
            clear hsa
            have hfd := fld1 (H.st i).name (H.wid i) (linkB (H.st i).fields 0) (linkB (H.st i).fields 1) (linkB (H.st i).fields 2) (linkB (H.st i).fields 3) (linkB (H.st i).fields 4) (linkB (H.st i).fields 5) (linkB (H.st i).fields 6) (linkB (H.st i).fields 7)
            go_enter Tryd.func29, Tryd.ntmps29
            go_wp2_with (first | (go_at_call 30; refine (has_obj P _ _ o true _ HPM.out HH).mono ?_; rintro e w' ⟨rfl, rfl⟩) | (go_at_call 31; refine (shape_any P hb sv ov H i o _ HM.out hi HO).mono ?_; rintro e w' ⟨rfl, hw⟩; rw [HS.out]))
            go_ret
            exact ⟨rfl, hw⟩
          · rw [if_neg (by omega)] at hq
            subst hq
            have HS := Lib.hid hsa
            clear hsa
            have hfd := fld1 (H.st i).name (H.wid i) (linkB (H.st i).fields 0) (linkB (H.st i).fields 1) (linkB (H.st i).fields 2) (linkB (H.st i).fields 3) (linkB (H.st i).fields 4) (linkB (H.st i).fields 5) (linkB (H.st i).fields 6) (linkB (H.st i).fields 7)
            go_enter Tryd.func29, Tryd.ntmps29
            go_wp2_with (first | (go_at_call 30; refine (has_obj P _ _ o true _ HPM.out HH).mono ?_; rintro e w' ⟨rfl, rfl⟩) | (go_at_call 31; refine (shape_any P hb sv ov H i o _ HM.out hi HO).mono ?_; rintro e w' ⟨rfl, hw⟩; rw [HS.out]))
            go_ret
            exact ⟨rfl, hw⟩

theorem ask_zero {H : Option Hp} {o f : Int} (h : askO H o f = 0) : ∃ (H' : Hp) (i k : Nat), H = some H' ∧ i < H'.obs.length ∧ o = (i : Int) + 1 ∧ f = (k : Int) ∧ k < H'.wid i := by
  cases H with
  | none => cases h
  | some H =>
    replace h : askH H o f = 0 := h
    unfold askH at h
    by_cases h0 : o = 0
    · rw [if_pos h0] at h; cases h
    · rw [if_neg h0] at h
      cases hh : hasO (some H) o with
      | false => rw [hh, if_pos rfl] at h; cases h
      | true =>
        obtain ⟨i, hi, hoi, hti⟩ := has_num hh
        rw [hh, if_neg (by decide), hti] at h
        by_cases hf : f < 0 ∨ (H.wid i : Int) ≤ f
        · rw [if_pos hf] at h; cases h
        · exact ⟨H, i, f.toNat, rfl, hi, hoi, by omega, by omega⟩
theorem ask_in {H : Hp} {i k : Nat} (hi : i < H.obs.length) (hk : k < H.wid i) : askO (some H) ((i : Int) + 1) (k : Int) = 0 := by
  show askH _ _ _ = _
  unfold askH
  rw [if_neg (by omega), num_has hi, if_neg (by decide), show ((i : Int) + 1 - 1).toNat = i by omega, if_neg (by omega)]
def getO (H : Option Hp) (o f : Int) : Int := if askO H o f = 0 then match H with | none => 0 | some H => (H.ob (o - 1).toNat).fs.getD f.toNat 0 else 0
theorem get_in {H : Hp} {i k : Nat} (hi : i < H.obs.length) (hk : k < H.wid i) : getO (some H) ((i : Int) + 1) (k : Int) = (H.ob i).fs.getD k 0 := by
  unfold getO
  rw [if_pos (ask_in hi hk), show ((i : Int) + 1 - 1).toNat = i by omega]; rfl
theorem get_no {H : Option Hp} {o f : Int} (h : askO H o f ≠ 0) : getO H o f = 0 := by unfold getO; rw [if_neg h]

set_option maxRecDepth 100000 in
set_option maxHeartbeats 1000000 in
theorem get_any (P : Nat → Prop) (v : Value) (H : Option Hp) (o f n : Int) (r : Nat) (w : World) (h : PM w P v H) (hr : Hid (askO H o f = r)) (hn : Hid (getO H o f = n)) :
    Calls Tryd.prog 11 #[v, .int .i64 o, .int .i64 f] w fun e w' => e = .returned (.tuple #[.int .i64 n, .int .i64 r]) ∧ Below w.heap.size w w' := by
  have HP := Lib.hid h
  clear h
  by_cases h0 : r = 0
  · subst h0
    obtain ⟨H, i, k, rfl, hi, rfl, rfl, hk⟩ := ask_zero hr.out
    obtain ⟨hb, sv, ov, rfl, hm⟩ := HP.out
    obtain ⟨ob, s, h1, h2, h3, h4, h5, h6⟩ := ob_at hm hi
    have hk8 : k < 8 := by unfold Hp.wid at hk; rw [h4] at hk; omega
    obtain ⟨og, oc, rfl, ho2, ho3⟩ := hm.oform hi
    obtain ⟨x, hx⟩ : ∃ x, ob.fs[k]? = some x := ⟨_, List.getElem?_eq_getElem (by omega)⟩
    have hno := hm.ok.no
    obtain rfl : x = n := by rw [← hn.out, get_in hi hk, h3, List.getD_eq_getElem?_getD, hx]; rfl
    have HM := Lib.hid hm
    have HX := Lib.hid hx
    have H1 := Lib.hid h1
    clear hm hx h1 h2 h3 h4
    have hw : IntKind.i64.wrap ((i : Int) + 1 - 1) = (i : Int) := by rw [show (i : Int) + 1 - 1 = i by omega]; exact IntWalk.i64_in _ (by omega)
    go_enter Tryd.func11, Tryd.ntmps11
    go_wp2_with (go_at_call 29; refine (ask_any P _ _ _ _ 0 _ HP.out hr).mono ?_; rintro e w' ⟨rfl, hb2⟩; refine Hid.out ?_)
    have hm2 := HM.out.below hb2
    have c1 := hm2.c1
    obtain ⟨-, d⟩ := hm2.orow H1.out
    have d1 := d k x HX.out
    clear hm2 d
    generalize H.obs.length = m at *
    refine Lib.hid ?_
    go_wp2_with fail
    go_ret2
    exact ⟨rfl, hb2⟩
  · have hn0 := hn.out
    rw [get_no (by rw [hr.out]; exact h0)] at hn0
    subst hn0
    have n1 : ((r : Int) != 0) = true := by simp; omega
    clear h0
    go_enter Tryd.func11, Tryd.ntmps11
    go_wp2_with (go_at_call 29; refine (ask_any P _ _ _ _ r _ HP.out hr).mono ?_; rintro e w' ⟨rfl, hb2⟩)
    go_ret2
    exact ⟨rfl, hb2⟩

def ofO (H : Option Hp) (o : Int) : ByteArray := match H with | none => ⟨#[]⟩ | some H => if hasO (some H) o = true then (H.st (o - 1).toNat).name else ⟨#[]⟩
set_option maxRecDepth 100000 in
set_option maxHeartbeats 1000000 in
theorem of_any (P : Nat → Prop) (v : Value) (H : Option Hp) (o : Int) (t : ByteArray) (w : World) (h : PM w P v H) (ht : Hid (ofO H o = t)) :
    Calls Tryd.prog 13 #[v, .int .i64 o] w fun e w' => e = .returned (.string t) ∧ Below w.heap.size w w' := by
  have HP := Lib.hid h
  clear h
  cases hh : hasO H o with
  | false =>
    obtain rfl : t = ⟨#[]⟩ := by
      rw [← ht.out]
      unfold ofO
      cases H with
      | none => rfl
      | some H => show (if hasO (some H) o = true then _ else _) = _; rw [hh, if_neg (by decide)]
    have HH := Lib.hid hh
    clear hh
    go_enter Tryd.func13, Tryd.ntmps13
    go_wp2_with (go_at_call 30; refine (has_obj P _ _ o false _ HP.out HH).mono ?_; rintro e w' ⟨rfl, rfl⟩)
    go_ret
    exact ⟨rfl, Below.refl _ _⟩
  | true =>
    cases H with
    | none =>
      unfold hasO at hh
      rw [Bool.and_eq_true, decide_eq_true_eq, decide_eq_true_eq] at hh
      have h2 : o ≤ ((0 : Nat) : Int) := hh.2
      omega
    | some H =>
      obtain ⟨hb, sv, ov, rfl, hm⟩ := HP.out
      obtain ⟨i, hi, hoi, hti⟩ := has_num hh
      obtain rfl : t = (H.st i).name := by
        rw [← ht.out]
        show (if hasO (some H) o = true then _ else _) = _
        rw [hh, if_pos rfl, hti]
      have hsa : shA (H.st i) = .agg #[.string (H.st i).name, .int .i64 (H.wid i), .bool (linkB (H.st i).fields 0), .bool (linkB (H.st i).fields 1), .bool (linkB (H.st i).fields 2), .bool (linkB (H.st i).fields 3), .bool (linkB (H.st i).fields 4), .bool (linkB (H.st i).fields 5), .bool (linkB (H.st i).fields 6), .bool (linkB (H.st i).fields 7)] := rfl
      have HH := Lib.hid hh
      have HO := Lib.hid hoi
      have HM := Lib.hid hm
      have HS := Lib.hid hsa
      clear hh hoi hti hm hsa
      have hfd := fld0 (H.st i).name (H.wid i) (linkB (H.st i).fields 0) (linkB (H.st i).fields 1) (linkB (H.st i).fields 2) (linkB (H.st i).fields 3) (linkB (H.st i).fields 4) (linkB (H.st i).fields 5) (linkB (H.st i).fields 6) (linkB (H.st i).fields 7)
      go_enter Tryd.func13, Tryd.ntmps13
      go_wp2_with (first | (go_at_call 30; refine (has_obj P _ _ o true _ HP.out HH).mono ?_; rintro e w' ⟨rfl, rfl⟩) | (go_at_call 31; refine (shape_any P hb sv ov H i o _ HM.out hi HO).mono ?_; rintro e w' ⟨rfl, hw⟩; rw [HS.out]))
      go_ret
      exact ⟨rfl, hw⟩

end Go.Proofs.YtjgmhkplgenieaaDoor
