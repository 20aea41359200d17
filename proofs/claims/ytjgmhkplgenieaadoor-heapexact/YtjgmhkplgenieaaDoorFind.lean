/-
  CONTRACTS: Find, Place of package kind and the reference's Find, at every row. Of what was there nothing has turned.
-/
import Derived.Test.YtjgmhkplgenieaaDoorMem
namespace Go.Proofs.YtjgmhkplgenieaaDoor
open Go.RowKit

def foundV : Option Nat → Value
  | some i => .tuple #[.int .i64 i, .bool true]
  | none => .tuple #[.int .i64 0, .bool false]

def FRel (w : World) (f : Nat → Bool) (m : Nat) (r : Option Nat) (i : Value) (wr : World) : Prop :=
  ∃ k : Nat, k ≤ m ∧ i = .int .i64 k ∧ Hid (fst f m k = r) ∧ Below w.heap.size w wr

set_option maxHeartbeats 400000 in
theorem find_any (A : Option Addr) (c m : Nat) (ss : List Str) (n : ByteArray) (r : Option Nat) (w : World) (hR : SR w A ss) (hm : Hid (ss.length = m)) (hl : m ≤ 281474976710656) (hr : Hid (fnd ss n = r)) :
    Calls Tryd.prog 47 #[.slice A m c, .string n] w fun e w' => e = .returned (foundV r) ∧ Below w.heap.size w w' := by
  have HR := Lib.hid hR
  clear hR
  have HF : Hid (fst (nameIs ss n) m 0 = r) := by
    show _ = _
    rw [← hr.out, fnd, hm.out]
  go_enter Tryd.func47, Tryd.ntmps47
  go_wp2_with fail
  go_loopw [10] (fun i wr => FRel w (nameIs ss n) m r i wr) (fun i _ => m - (intOf i).toNat)
  case atStart => exact ⟨0, Nat.zero_le _, rfl, HF, Below.refl _ _⟩
  case round =>
    obtain ⟨k, hk, rfl, HK, hb⟩ := hrel
    by_cases hlt : k < m
    · obtain ⟨b, o, rfl, hg, hcs⟩ := HR.out (by have := hm.out; omega)
      obtain ⟨s, hs⟩ : ∃ s, ss[k]? = some s := ⟨_, List.getElem?_eq_getElem (by have := hm.out; omega)⟩
      obtain ⟨FA, fc, c0, c1, -⟩ := (hcs k s hs).below hg hb (Nat.le_refl _)
      have hni := nameIs_at (n := n) hs
      have HCS := Lib.hid hcs
      have HS := Lib.hid hs
      clear hcs hs
      obtain ⟨sn, sf⟩ := s
      simp only at c0 c1 hni
      cases he : eqB sn n with
      | true =>
        have hq : r = some k := HK.out.symm.trans (fst_hit hlt (hni.trans he))
        subst hq
        obtain rfl := eqB_iff.1 he
        clear hni he
        go_wp2_with fail
        go_ret2
        exact ⟨rfl, hb.alloc hb.size _⟩
      | false =>
        have hq : fst (nameIs ss n) m (k + 1) = r := (fst_next hlt (hni.trans he)).symm.trans HK.out
        have HQ := Lib.hid hq
        have hsp := eqB_spell he
        clear hq hni he
        go_wp2_with fail
        go_roundw
        case rel => exact ⟨k + 1, by omega, by go_num, HQ, hb.alloc hb.size _⟩
        case measure => simp [intOf]; omega
    · have hq : r = none := HK.out.symm.trans (fst_end (by omega))
      subst hq
      go_wp2_with fail
      go_ret2
      exact ⟨rfl, hb⟩

set_option maxHeartbeats 400000 in
theorem place_any (sn : ByteArray) (A : Option Addr) (c m : Nat) (fs : List Fld) (n : ByteArray) (r : Option Nat) (w : World) (hR : FR w A fs) (hm : Hid (fs.length = m)) (hl : m ≤ 281474976710656) (hr : Hid (plc fs n = r)) :
    Calls Tryd.prog 64 #[.agg #[.string sn, .slice A m c], .string n] w fun e w' => e = .returned (foundV r) ∧ Below w.heap.size w w' := by
  have HR := Lib.hid hR
  clear hR
  have HF : Hid (fst (fldIs fs n) m 0 = r) := by
    show _ = _
    rw [← hr.out, plc, hm.out]
  go_enter Tryd.func64, Tryd.ntmps64
  go_wp2_with fail
  go_loopw [11] (fun i wr => FRel w (fldIs fs n) m r i wr) (fun i _ => m - (intOf i).toNat)
  case atStart => exact ⟨0, Nat.zero_le _, rfl, HF, (Below.refl _ _).alloc (Nat.le_refl _) _⟩
  case round =>
    obtain ⟨k, hk, rfl, HK, hb⟩ := hrel
    by_cases hlt : k < m
    · obtain ⟨b, o, rfl, hg, hcs⟩ := (HR.out.below hb (Nat.le_refl _)) (by have := hm.out; omega)
      obtain ⟨s, hs⟩ : ∃ s, fs[k]? = some s := ⟨_, List.getElem?_eq_getElem (by have := hm.out; omega)⟩
      obtain ⟨c0, c1⟩ := hcs k s hs
      have hni := fldIs_at (n := n) hs
      have HCS := Lib.hid hcs
      have HS := Lib.hid hs
      clear hcs hs
      obtain ⟨sn, sf⟩ := s
      simp only at c0 c1 hni
      cases he : eqB sn n with
      | true =>
        have hq : r = some k := HK.out.symm.trans (fst_hit hlt (hni.trans he))
        subst hq
        obtain rfl := eqB_iff.1 he
        clear hni he
        go_wp2_with fail
        go_ret2
        exact ⟨rfl, hb.alloc hb.size _⟩
      | false =>
        have hq : fst (fldIs fs n) m (k + 1) = r := (fst_next hlt (hni.trans he)).symm.trans HK.out
        have HQ := Lib.hid hq
        have hsp := eqB_spell he
        clear hq hni he
        go_wp2_with fail
        go_roundw
        case rel => exact ⟨k + 1, by omega, by go_num, HQ, hb.alloc hb.size _⟩
        case measure => simp [intOf]; omega
    · have hq : r = none := HK.out.symm.trans (fst_end (by omega))
      subst hq
      go_wp2_with fail
      go_ret2
      exact ⟨rfl, hb⟩

def foundI : Option Nat → Value
  | some i => .int .i64 i
  | none => .int .i64 (-1)

set_option maxHeartbeats 400000 in
theorem refFind_any (A : Option Addr) (c m : Nat) (ss : List Str) (n : ByteArray) (r : Option Nat) (w : World) (hR : SR w A ss) (hm : Hid (ss.length = m)) (hl : m ≤ 281474976710656) (hr : Hid (fnd ss n = r)) :
    Calls Tryd.prog 26 #[.slice A m c, .string n] w fun e w' => e = .returned (foundI r) ∧ w = w' := by
  have HR := Lib.hid hR
  clear hR
  have HF : Hid (fst (nameIs ss n) m 0 = r) := by
    show _ = _
    rw [← hr.out, fnd, hm.out]
  go_enter Tryd.func26, Tryd.ntmps26
  go_wp2_with fail
  go_loop [5] (fun i => ∃ k : Nat, k ≤ m ∧ i = .int .i64 k ∧ Hid (fst (nameIs ss n) m k = r)) (fun i => m - (intOf i).toNat)
  case atStart => exact ⟨0, Nat.zero_le _, rfl, HF⟩
  case round =>
    obtain ⟨k, hk, rfl, HK⟩ := hrel
    by_cases hlt : k < m
    · obtain ⟨b, o, rfl, hg, hcs⟩ := HR.out (by have := hm.out; omega)
      obtain ⟨s, hs⟩ : ∃ s, ss[k]? = some s := ⟨_, List.getElem?_eq_getElem (by have := hm.out; omega)⟩
      obtain ⟨FA, fc, c0, c1, -⟩ := hcs k s hs
      have hni := nameIs_at (n := n) hs
      have HCS := Lib.hid hcs
      have HS := Lib.hid hs
      clear hcs hs
      obtain ⟨sn, sf⟩ := s
      simp only at c0 c1 hni
      cases he : eqB sn n with
      | true =>
        have hq : r = some k := HK.out.symm.trans (fst_hit hlt (hni.trans he))
        subst hq
        obtain rfl := eqB_iff.1 he
        clear hni he
        go_wp2_with fail
        go_ret
        exact ⟨rfl, rfl⟩
      | false =>
        have hq : fst (nameIs ss n) m (k + 1) = r := (fst_next hlt (hni.trans he)).symm.trans HK.out
        have HQ := Lib.hid hq
        have hsp := eqB_spell he
        clear hq hni he
        go_wp2_with fail
        go_round
        case rel => exact ⟨k + 1, by omega, by go_num, HQ⟩
        case measure => simp [intOf]; omega
    · have hq : r = none := HK.out.symm.trans (fst_end (by omega))
      subst hq
      go_wp2_with fail
      go_ret
      exact ⟨rfl, rfl⟩

end Go.Proofs.YtjgmhkplgenieaaDoor
