/-
  CONTRACTS: Len, has, find of package heap, at whatever heap, nil too.
-/
import Derived.Test.YtjgmhkplgenieaaDoorHMem
namespace Go.Proofs.YtjgmhkplgenieaaDoor
open Go.RowKit

def lenO : Option Hp → Nat | none => 0 | some H => H.obs.length
def hasO (H : Option Hp) (o : Int) : Bool := decide (1 ≤ o) && decide (o ≤ (lenO H : Int))

set_option maxHeartbeats 400000 in
theorem len_any (P : Nat → Prop) (v : Value) (H : Option Hp) (w : World) (h : PM w P v H) :
    Calls Tryd.prog 14 #[v] w fun e w' => e = .returned (.int .i64 (lenO H)) ∧ w = w' := by
  cases H with
  | none =>
    obtain rfl : v = .pointer none := h
    go_enter Tryd.func14, Tryd.ntmps14
    go_wp2_with fail
    go_ret
    exact ⟨rfl, rfl⟩
  | some H =>
    obtain ⟨hb, sv, ov, rfl, hm⟩ := h
    obtain ⟨A, c, rfl, hc⟩ := own_form hm.oo
    have c1 := hm.c1
    have HM := Lib.hid hm
    clear hm
    show Calls _ _ _ _ fun e w' => e = .returned (.int .i64 (H.obs.length : Nat)) ∧ w = w'
    generalize H.obs.length = n at c1 hc
    go_enter Tryd.func14, Tryd.ntmps14
    go_wp2_with fail
    go_ret
    exact ⟨rfl, rfl⟩

set_option maxHeartbeats 400000 in
theorem has_obj (P : Nat → Prop) (v : Value) (H : Option Hp) (o : Int) (b : Bool) (w : World) (h : PM w P v H) (hr : Hid (hasO H o = b)) :
    Calls Tryd.prog 30 #[v, .int .i64 o] w fun e w' => e = .returned (.bool b) ∧ w = w' := by
  have HP := Lib.hid h
  clear h
  have hq := hr.out
  unfold hasO at hq
  generalize hn : lenO H = n at hq
  have HN := Lib.hid hn
  clear hn
  by_cases h1 : 1 ≤ o
  · by_cases h2 : o ≤ (n : Int)
    · obtain rfl : b = true := by rw [← hq, decide_eq_true h1, decide_eq_true h2]; rfl
      clear hq
      go_enter Tryd.func30, Tryd.ntmps30
      go_wp2_with (go_at_call 14; refine (len_any P v H _ HP.out).mono ?_; rintro e w' ⟨rfl, rfl⟩; rw [HN.out])
      go_ret
      exact ⟨rfl, rfl⟩
    · obtain rfl : b = false := by rw [← hq, decide_eq_true h1, decide_eq_false h2]; rfl
      clear hq
      go_enter Tryd.func30, Tryd.ntmps30
      go_wp2_with (go_at_call 14; refine (len_any P v H _ HP.out).mono ?_; rintro e w' ⟨rfl, rfl⟩; rw [HN.out])
      go_ret
      exact ⟨by rw [decide_eq_false (Int.not_le.2 h2)]; rfl, rfl⟩
  · obtain rfl : b = false := by rw [← hq, decide_eq_false h1]; rfl
    clear hq
    go_enter Tryd.func30, Tryd.ntmps30
    go_wp2_with fail
    go_ret
    exact ⟨rfl, rfl⟩

def blV (s : Str) : Array Value := ((List.range 8).map fun k => .bool (linkB s.fields k)).toArray
theorem HM.srow {w : World} {P : Nat → Prop} {hb : Nat} {H : Hp} {ov : Value} {g c n : Nat} (h : HM w P hb H (.slice (some ⟨g, 0, none⟩) n c) ov) {i : Nat} {s : Str} (hs : H.ss[i]? = some s) :
    w.cell? ⟨g, i * 10, none⟩ = some (.string s.name) ∧ w.cell? ⟨g, i * 10 + 1, none⟩ = some (.int .i64 s.fields.length) ∧ ∀ k, k < 8 → w.cell? ⟨g, i * 10 + 2 + k, none⟩ = some (.bool (linkB s.fields k)) := by
  refine ⟨h.scell hs 0 (by omega), h.scell hs 1 (by omega), fun k hk => ?_⟩
  rw [Nat.add_assoc, h.scell hs (2 + k) (by omega)]
  rw [show 2 + k = k + 1 + 1 by omega]
  unfold shV
  rw [List.getElem?_cons_succ, List.getElem?_cons_succ, List.getElem?_map, List.getElem?_range hk]; rfl

def nameO (H : Hp) (n : ByteArray) : Option Nat := fnd H.ss n
set_option maxHeartbeats 400000 in
theorem hfind_any (P : Nat → Prop) (hb : Nat) (sv ov : Value) (H : Hp) (nm : ByteArray) (r : Option Nat) (w : World) (h : HM w P hb H sv ov) (hr : Hid (fnd H.ss nm = r)) :
    Calls Tryd.prog 28 #[.pointer (some ⟨hb, 0, none⟩), .string nm] w fun e w' => e = .returned (foundV r) ∧ Below w.heap.size w w' := by
  obtain ⟨A, c, rfl, hc⟩ := own_form h.so
  have c0 := h.c0
  have hl := h.ok.ns
  obtain ⟨m, hm⟩ : ∃ m, H.ss.length = m := ⟨_, rfl⟩
  have HF : Hid (fst (nameIs H.ss nm) m 0 = r) := by
    show _ = _
    rw [← hr.out, fnd, hm]
  rw [hm] at c0 hc hl
  have HB := Lib.hid h
  rw [hm] at HB
  have HN := Lib.hid hm
  clear h hm
  go_enter Tryd.func28, Tryd.ntmps28
  go_wp2_with fail
  go_loopw [15] (fun i wr => FRel w (nameIs H.ss nm) m r i wr) (fun i _ => m - (intOf i).toNat)
  case atStart => exact ⟨0, Nat.zero_le _, rfl, HF, Below.refl _ _⟩
  case round =>
    obtain ⟨k, hk, rfl, HK, hb⟩ := hrel
    by_cases hlt : k < m
    · obtain ⟨g, c2, e1, e2, hg⟩ := HB.out.sform (i := k) (by have := HN.out; omega)
      rw [HN.out] at e1
      cases e1
      obtain ⟨s, hs⟩ : ∃ s, H.ss[k]? = some s := ⟨_, List.getElem?_eq_getElem (by have := HN.out; omega)⟩
      obtain ⟨d0, d1, d2⟩ := (HB.out.below hb).srow hs
      have d20 := d2 0 (by omega)
      have d21 := d2 1 (by omega)
      have d22 := d2 2 (by omega)
      have d23 := d2 3 (by omega)
      have d24 := d2 4 (by omega)
      have d25 := d2 5 (by omega)
      have d26 := d2 6 (by omega)
      have d27 := d2 7 (by omega)
      have hni := nameIs_at (n := nm) hs
      have HS := Lib.hid hs
      clear hs d2
      obtain ⟨sn, sf⟩ := s
      simp only at d0 d1 d20 d21 d22 d23 d24 d25 d26 d27 hni
      cases he : eqB sn nm with
      | true =>
        have hq : r = some k := HK.out.symm.trans (fst_hit hlt (hni.trans he))
        subst hq
        obtain rfl := eqB_iff.1 he
        clear hni he
        go_wp2_with fail
        go_ret2
        exact ⟨rfl, hb.alloc hb.size _⟩
      | false =>
        have hq : fst (nameIs H.ss nm) m (k + 1) = r := (fst_next hlt (hni.trans he)).symm.trans HK.out
        have HQ := Lib.hid hq
        have hsp := eqB_spell he
        clear hq hni he
        go_wp2_with fail
        go_roundw
        case rel => exact ⟨k + 1, by omega, by go_num, HQ, hb.alloc hb.size _⟩
        case measure => simp [intOf]; omega
    · have hq : r = none := HK.out.symm.trans (fst_end (by omega))
      subst hq
      go_wp2_with fail
      go_ret2
      exact ⟨rfl, hb⟩

end Go.Proofs.YtjgmhkplgenieaaDoor
