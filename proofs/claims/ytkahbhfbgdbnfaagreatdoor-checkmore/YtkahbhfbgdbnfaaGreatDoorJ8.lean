/-
  CONTRACTS: findField, Fun, Global, local, isDeclared, isPointer, fits, mayBeEqual of package check. Of what was there nothing has turned.
-/
import Derived.Test.YtkahbhfbgdbnfaaGreatDoorJ7
import Derived.Deep.RegionHeld3
namespace Go.Proofs.YtkahbhfbgdbnfaaGreatDoor
open Go.RowKit

set_option maxRecDepth 100000 in
set_option maxHeartbeats 400000 in
theorem findField_any (A : Option Addr) (c m : Nat) (fs : List Fld) (n : ByteArray) (r : Option Nat) (w : World) (hR : FR w A fs) (hm : Hid (fs.length = m)) (hl : m ≤ 281474976710656) (hr : Hid (plc fs n = r)) :
    Calls Tryz.prog 48 #[.slice A m c, .string n] w fun e w' => e = .returned (foundV r) ∧ Below w.heap.size w w' := by
  have HR := Lib.hid hR
  clear hR
  have HF : Hid (fst (fldIs fs n) m 0 = r) := by
    show _ = _
    rw [← hr.out, plc, hm.out]
  go_enter Tryz.func48, Tryz.ntmps48
  go_wp2_with fail
  go_loopw [10] (fun i wr => FRel w (fldIs fs n) m r i wr) (fun i _ => m - (intOf i).toNat)
  case atStart => exact ⟨0, Nat.zero_le _, rfl, HF, Below.refl _ _⟩
  case round =>
    obtain ⟨k, hk, rfl, HK, hb⟩ := hrel
    by_cases hlt : k < m
    · obtain ⟨b, o, rfl, hg, hcs⟩ := (HR.out.below hb (Nat.le_refl _)) (by have := hm.out; omega)
      obtain ⟨s, hs⟩ : ∃ s, fs[k]? = some s := ⟨_, List.getElem?_eq_getElem (by have := hm.out; omega)⟩
      obtain ⟨c0, c1⟩ := hcs k s hs
      have hni := fldIs_at (n := n) hs
      have HCS := Lib.hid hcs
      have HS := Lib.hid hs
      clear hcs hs
      obtain ⟨sn, sf⟩ := s
      simp only at c0 c1 hni
      cases he : eqB sn n with
      | true =>
        have hq : r = some k := HK.out.symm.trans (fst_hit hlt (hni.trans he))
        subst hq
        obtain rfl := eqB_iff.1 he
        clear hni he
        go_wp2_with fail
        go_ret2
        exact ⟨rfl, hb.alloc hb.size _⟩
      | false =>
        have hq : fst (fldIs fs n) m (k + 1) = r := (fst_next hlt (hni.trans he)).symm.trans HK.out
        have HQ := Lib.hid hq
        have hsp := eqB_spell he
        clear hq hni he
        go_wp2_with fail
        go_roundw
        case rel => exact ⟨k + 1, by omega, by go_num, HQ, hb.alloc hb.size _⟩
        case measure => simp [intOf]; omega
    · have hq : r = none := HK.out.symm.trans (fst_end (by omega))
      subst hq
      go_wp2_with fail
      go_ret2
      exact ⟨rfl, hb⟩

theorem sgIs_at {fs : List Sg} {n : ByteArray} {k : Nat} {f : Sg} (h : fs[k]? = some f) : sgIs fs n k = eqB f.name n := by unfold sgIs; rw [h]
set_option maxRecDepth 100000 in
set_option maxHeartbeats 400000 in
theorem cfun_any (E : CE) (n : ByteArray) (r : Option Nat) (w : World) (I : IM E w) (hr : Hid (funO E.x n = r)) :
    Calls Tryz.prog 22 #[infV E, .string n] w fun e w' => e = .returned (foundV r) ∧ Below w.heap.size w w' := by
  obtain ⟨m, hm⟩ : ∃ m, E.x.funs.length = m := ⟨_, rfl⟩
  have HR := Lib.hid I.F
  have hl := I.fl
  unfold infV
  rw [hm] at hl ⊢
  have hm := Lib.hid hm
  have HF : Hid (fst (sgIs E.x.funs n) m 0 = r) := by
    show _ = _
    rw [← hr.out, funO, hm.out]
  clear I
  go_enter Tryz.func22, Tryz.ntmps22
  go_wp2_with fail
  go_loopw [11] (fun i wr => FRel w (sgIs E.x.funs n) m r i wr) (fun i _ => m - (intOf i).toNat)
  case atStart => exact ⟨0, Nat.zero_le _, rfl, HF, b1 _ _⟩
  case round =>
    obtain ⟨k, hk, rfl, HK, hb⟩ := hrel
    by_cases hlt : k < m
    · obtain ⟨b, o, hfa, hg, hcs⟩ := (HR.out.below hb (Nat.le_refl _)) (by have := hm.out; omega)
      obtain ⟨s, hs⟩ : ∃ s, E.x.funs[k]? = some s := ⟨_, List.getElem?_eq_getElem (by have := hm.out; omega)⟩
      obtain ⟨PA, pc, c0, c1, c2, -⟩ := hcs k s hs
      have hni := sgIs_at (n := n) hs
      rw [hfa]
      clear hcs hs hfa
      obtain ⟨sn, sp, sr⟩ := s
      simp only at c0 c1 c2 hni
      cases he : eqB sn n with
      | true =>
        have hq : r = some k := HK.out.symm.trans (fst_hit hlt (hni.trans he))
        subst hq
        obtain rfl := eqB_iff.1 he
        clear hni he
        go_wp2_with fail
        go_ret2
        exact ⟨rfl, hb.alloc hb.size _⟩
      | false =>
        have hq : fst (sgIs E.x.funs n) m (k + 1) = r := (fst_next hlt (hni.trans he)).symm.trans HK.out
        have HQ := Lib.hid hq
        have hsp := eqB_spell he
        clear hq hni he
        go_wp2_with fail
        go_roundw
        case rel => exact ⟨k + 1, by omega, by go_num, HQ, hb.alloc hb.size _⟩
        case measure => simp [intOf]; omega
    · have hq : r = none := HK.out.symm.trans (fst_end (by omega))
      subst hq
      go_wp2_with fail
      go_ret2
      exact ⟨rfl, hb⟩

set_option maxRecDepth 100000 in
set_option maxHeartbeats 400000 in
theorem cglobal_any (E : CE) (n : ByteArray) (r : Option Nat) (w : World) (I : IM E w) (hr : Hid (plc E.x.globals n = r)) :
    Calls Tryz.prog 23 #[infV E, .string n] w fun e w' => e = .returned (foundV r) ∧ Below w.heap.size w w' := by
  obtain ⟨m, hm⟩ : ∃ m, E.x.globals.length = m := ⟨_, rfl⟩
  have HR := Lib.hid (I.below (b1 w (.cells #[.slice E.sA E.x.structs.length E.sc, .slice E.gA E.x.globals.length E.gc, .slice E.fA E.x.funs.length E.fc] 44))).G
  have hl := I.gl
  have HB := Lib.hid (b1 w (.cells #[.slice E.sA E.x.structs.length E.sc, .slice E.gA E.x.globals.length E.gc, .slice E.fA E.x.funs.length E.fc] 44))
  unfold infV
  rw [hm] at hl HR HB ⊢
  have hm := Lib.hid hm
  clear I
  go_enter Tryz.func23, Tryz.ntmps23
  go_wp2_with fail
  generalize w.alloc (.cells #[.slice E.sA E.x.structs.length E.sc, .slice E.gA m E.gc, .slice E.fA E.x.funs.length E.fc] 44) = wa at *
  refine (findField_any _ _ _ _ _ r _ HR.out hm (by omega) hr).mono ?_
  rintro e w1 ⟨rfl, hb⟩
  cases r with
  | none =>
    unfold foundV
    go_wp2_with fail
    go_ret2
    exact ⟨rfl, HB.out.trans (hb.mono HB.out.size)⟩
  | some i =>
    unfold foundV
    go_wp2_with fail
    go_ret2
    exact ⟨rfl, HB.out.trans (hb.mono HB.out.size)⟩

end Go.Proofs.YtkahbhfbgdbnfaaGreatDoor

/-
  CONTRACTS: local, isDeclared, isPointer, fits, mayBeEqual of package check. Of what was there nothing has turned.
-/
namespace Go.Proofs.YtkahbhfbgdbnfaaGreatDoor
open Go.RowKit

def locV (K : List Fld) : Option Nat → Value
  | some i => .tuple #[.string (typAt K i), .bool true]
  | none => .tuple #[.string ⟨#[]⟩, .bool false]
theorem typAt_at {K : List Fld} {k : Nat} {f : Fld} (h : K[k]? = some f) : typAt K k = f.typ := by
  unfold typAt; rw [List.getD_eq_getElem?_getD, h]; rfl

set_option maxRecDepth 100000 in
set_option maxHeartbeats 400000 in
theorem clocal_any (E : CE) (v : Value) (K : List Fld) (f : Nat) (n : ByteArray) (r : Option Nat) (w : World) (H : SC E w v K f) (hr : Hid (locO K n = r)) :
    Calls Tryz.prog 210 #[.pointer (some ⟨E.sb, 0, none⟩), .string n] w fun e w' => e = .returned (locV K r) ∧ w = w' := by
  obtain ⟨A, c, rfl, hc, hR⟩ := fr_own H.own
  have HR := Lib.hid hR
  have c4 := H.c4
  have hl := H.kl
  obtain ⟨m, hm⟩ : ∃ m, K.length = m := ⟨_, rfl⟩
  have HL : Hid (locN K n m = r) := by rw [← hm]; exact hr
  rw [hm] at c4 hl hc
  have HM := Lib.hid hm
  clear H hR hm hr
  go_enter Tryz.func210, Tryz.ntmps210
  go_wp2_with fail
  go_loop [6] (fun i => ∃ k : Nat, k ≤ m ∧ i = .int .i64 ((k : Int) - 1) ∧ Hid (locN K n k = r)) (fun i => (intOf i + 1).toNat)
  case atStart => exact ⟨m, Nat.le_refl _, by go_num, HL⟩
  case round =>
    obtain ⟨k, hk, rfl, HK⟩ := hrel
    cases k with
    | zero =>
      have hq : r = none := HK.out.symm
      subst hq
      go_wp2_with fail
      go_ret2
      exact ⟨rfl, rfl⟩
    | succ k =>
      obtain ⟨b, o, rfl, hg, hcs⟩ := HR.out (by have := HM.out; omega)
      obtain ⟨s, hs⟩ : ∃ s, K[k]? = some s := ⟨_, List.getElem?_eq_getElem (by have := HM.out; omega)⟩
      obtain ⟨c0, c1⟩ := hcs k s hs
      have hni := fldIs_at (n := n) hs
      have hty := typAt_at hs
      have hkk : ((k + 1 : Nat) : Int) - 1 = (k : Int) := by omega
      rw [hkk]
      have k0 : (0 : Int) ≤ (k : Int) := by omega
      have k1 : (k : Int) < (m : Int) := by omega
      clear hcs hs hkk
      obtain ⟨sn, sf⟩ := s
      simp only at c0 c1 hni hty
      have HK' := HK.out
      unfold locN at HK'
      cases he : eqB sn n with
      | true =>
        rw [if_pos (hni.trans he)] at HK'
        subst HK'
        obtain rfl := eqB_iff.1 he
        clear hni he HK
        go_wp2_with fail
        go_ret2
        exact ⟨by subst hty; rfl, rfl⟩
      | false =>
        rw [if_neg (by rw [hni.trans he]; decide)] at HK'
        have HQ := Lib.hid HK'
        have hsp := eqB_spell he
        clear hni he HK' HK hty
        go_wp2_with fail
        go_round
        case rel => exact ⟨k, by omega, by go_num, HQ⟩
        case measure => simp [intOf]

set_option maxRecDepth 100000 in
set_option maxHeartbeats 400000 in
theorem cdecl_any (E : CE) (v : Value) (K : List Fld) (f : Nat) (n : ByteArray) (d : Bool) (w : World) (H : SC E w v K f) (hd : Hid (declB E.x n = d)) :
    Calls Tryz.prog 211 #[.pointer (some ⟨E.sb, 0, none⟩), .string n] w fun e w' => e = .returned (.bool d) ∧ Below w.heap.size w w' := by
  obtain ⟨a, ha⟩ : ∃ a, fnd E.x.structs n = a := ⟨_, rfl⟩
  obtain ⟨b, hb⟩ : ∃ a, plc E.x.globals n = a := ⟨_, rfl⟩
  obtain ⟨c, hc⟩ : ∃ a, funO E.x n = a := ⟨_, rfl⟩
  obtain rfl : d = (a.isSome || b.isSome || c.isSome) := by rw [← hd.out, declB, ha, hb, hc]
  have HS := Lib.hid H
  have c0 := H.c0
  have c1 := H.c1
  have c2 := H.c2
  have HA := Lib.hid ha
  have HB := Lib.hid hb
  have HC := Lib.hid hc
  clear H ha hb hc hd
  have ea : foundV a = .tuple #[.int .i64 (a.getD 0 : Nat), .bool a.isSome] := by cases a <;> rfl
  have eb : foundV b = .tuple #[.int .i64 (b.getD 0 : Nat), .bool b.isSome] := by cases b <;> rfl
  have ec : foundV c = .tuple #[.int .i64 (c.getD 0 : Nat), .bool c.isSome] := by cases c <;> rfl
  generalize a.isSome = A at *
  generalize b.isSome = B at *
  generalize c.isSome = C at *
  go_enter Tryz.func211, Tryz.ntmps211
  go_wp2_with fail
  refine (find_any _ _ _ E.x.structs n a w HS.out.imw.S (Lib.hid rfl) (by have := HS.out.im.sl; omega) HA).mono ?_
  rintro e w1 ⟨rfl, hb1⟩
  rw [ea]
  have H1 := Lib.hid (HS.out.below hb1)
  have b1' := Lib.hid hb1
  clear hb1 HS c0 c1 c2
  have c0 := H1.out.c0
  have c1 := H1.out.c1
  have c2 := H1.out.c2
  go_wp2_with fail
  refine (cglobal_any E n b w1 H1.out.imw HB).mono ?_
  rintro e w2 ⟨rfl, hb1⟩
  rw [eb]
  have H2 := Lib.hid (H1.out.below hb1)
  have b2' := Lib.hid (b1'.out.trans (hb1.mono b1'.out.size))
  clear hb1 H1 c0 c1 c2 b1'
  have c0 := H2.out.c0
  have c1 := H2.out.c1
  have c2 := H2.out.c2
  go_wp2_with fail
  refine (cfun_any E n c w2 H2.out.imw HC).mono ?_
  rintro e w3 ⟨rfl, hb1⟩
  rw [ec]
  have b3' := Lib.hid (b2'.out.trans (hb1.mono b2'.out.size))
  clear hb1 H2 c0 c1 c2 b2'
  cases A <;> cases B <;> cases C <;> (go_wp2_with fail; go_ret; exact ⟨rfl, b3'.out⟩)

set_option maxRecDepth 100000 in
set_option maxHeartbeats 400000 in
theorem cptr_any (t : ByteArray) (b : Bool) (w : World) (hK : Hid (KeysIn w)) (hb : Hid (ptrB t = b)) :
    Calls Tryz.prog 209 #[.string t] w fun e w' => e = .returned (.bool b) ∧ w = w' := by
  obtain ⟨r, hr⟩ : ∃ r, elemO t = r := ⟨_, rfl⟩
  obtain rfl : b = r.isSome := by rw [← hb.out, ptrB, hr]
  have HE := Lib.hid (elem_any t r w hK (Lib.hid hr))
  clear hr hb
  go_enter Tryz.func209, Tryz.ntmps209
  go_wp2_with fail
  refine HE.out.mono ?_
  rintro e w' ⟨rfl, rfl⟩
  clear HE
  cases r <;> (unfold elemV; go_wp2_with fail; go_ret; exact ⟨rfl, rfl⟩)

set_option maxRecDepth 100000 in
set_option maxHeartbeats 400000 in
theorem cfits_any (a b : ByteArray) (r : Bool) (w : World) (hK : Hid (KeysIn w)) (hr : Hid (fitB a b = r)) :
    Calls Tryz.prog 188 #[.string a, .string b] w fun e w' => e = .returned (.bool r) ∧ w = w' := by
  obtain ⟨p, hp⟩ : ∃ r, ptrB b = r := ⟨_, rfl⟩
  have HP := Lib.hid (cptr_any b p w hK (Lib.hid hp))
  have hr := hr.out
  unfold fitB at hr
  rw [hp] at hr
  clear hp
  cases h1 : eqB a b with
  | true =>
    rw [h1] at hr
    obtain rfl : r = true := by rw [← hr]; rfl
    have s1 := eqB_spell h1
    clear h1 hr
    go_enter Tryz.func188, Tryz.ntmps188
    go_wp2_with fail
    go_ret
    exact ⟨rfl, rfl⟩
  | false =>
    have s1 := eqB_spell h1
    cases h2 : eqB a tNil with
    | false =>
      rw [h1, h2] at hr
      obtain rfl : r = false := by rw [← hr]; rfl
      have s2 : (a.toList == [110, 105, 108]) = false := by rw [ByteArray.toList_eq]; exact h2
      clear h1 h2 hr
      go_enter Tryz.func188, Tryz.ntmps188
      go_wp2_with fail
      go_ret
      exact ⟨rfl, rfl⟩
    | true =>
      rw [h1, h2] at hr
      obtain rfl : r = p := by rw [← hr]; simp
      have s2 : (a.toList == [110, 105, 108]) = true := by rw [ByteArray.toList_eq]; exact h2
      clear h1 h2 hr
      go_enter Tryz.func188, Tryz.ntmps188
      go_wp2_with fail
      refine HP.out.mono ?_
      rintro e w' ⟨rfl, rfl⟩
      clear HP
      go_wp2_with fail
      go_ret
      exact ⟨rfl, rfl⟩

set_option maxRecDepth 100000 in
set_option maxHeartbeats 400000 in
theorem cmayEq_any (a b : ByteArray) (r : Bool) (w : World) (hK : Hid (KeysIn w)) (hr : Hid (eqMay a b = r)) :
    Calls Tryz.prog 231 #[.string a, .string b] w fun e w' => e = .returned (.bool r) ∧ w = w' := by
  obtain ⟨p, hp⟩ : ∃ r, ptrB a = r := ⟨_, rfl⟩
  obtain ⟨q, hq⟩ : ∃ r, ptrB b = r := ⟨_, rfl⟩
  obtain ⟨x, hx⟩ : ∃ r, fitB b a = r := ⟨_, rfl⟩
  obtain ⟨y, hy⟩ : ∃ r, fitB a b = r := ⟨_, rfl⟩
  have HP := Lib.hid (cptr_any a p w hK (Lib.hid hp))
  have HQ := Lib.hid (cptr_any b q w hK (Lib.hid hq))
  have HX := Lib.hid (cfits_any b a x w hK (Lib.hid hx))
  have HY := Lib.hid (cfits_any a b y w hK (Lib.hid hy))
  have hr := hr.out
  unfold eqMay at hr
  rw [hp, hq, hx, hy] at hr
  clear hp hq hx hy
  cases h2 : eqB a tBool with
  | true =>
    rw [h2] at hr
    obtain rfl : r = x := by rw [← hr]; simp
    have s2 : (a.toList == [98, 111, 111, 108]) = true := by rw [ByteArray.toList_eq]; exact h2
    clear h2 hr
    go_enter Tryz.func231, Tryz.ntmps231
    go_wp2_with (go_at_call 188; refine HX.out.mono ?_; rintro e w' ⟨rfl, rfl⟩)
    go_ret
    exact ⟨rfl, rfl⟩
  | false =>
    have s2 : (a.toList == [98, 111, 111, 108]) = false := by rw [ByteArray.toList_eq]; exact h2
    rw [h2] at hr
    cases p with
    | true =>
      obtain rfl : r = x := by rw [← hr]; simp
      clear h2 hr
      go_enter Tryz.func231, Tryz.ntmps231
      go_wp2_with (first | (go_at_call 188; refine HX.out.mono ?_; rintro e w' ⟨rfl, rfl⟩) | (go_at_call 209; refine HP.out.mono ?_; rintro e w' ⟨rfl, rfl⟩))
      go_ret
      exact ⟨rfl, rfl⟩
    | false =>
      obtain rfl : r = (q && y) := by rw [← hr]; simp
      clear h2 hr
      cases q with
      | true =>
        go_enter Tryz.func231, Tryz.ntmps231
        go_wp2_with fail
        refine HP.out.mono ?_
        rintro e w' ⟨rfl, rfl⟩
        go_wp2_with fail
        refine HQ.out.mono ?_
        rintro e w' ⟨rfl, rfl⟩
        go_wp2_with fail
        refine HY.out.mono ?_
        rintro e w' ⟨rfl, rfl⟩
        go_wp2_with fail
        go_ret
        exact ⟨rfl, rfl⟩
      | false =>
        go_enter Tryz.func231, Tryz.ntmps231
        go_wp2_with fail
        refine HP.out.mono ?_
        rintro e w' ⟨rfl, rfl⟩
        go_wp2_with fail
        refine HQ.out.mono ?_
        rintro e w' ⟨rfl, rfl⟩
        go_wp2_with fail
        go_ret
        exact ⟨rfl, rfl⟩

end Go.Proofs.YtkahbhfbgdbnfaaGreatDoor

/-
  RULES: a region that draws its order, taken step by step, where a callee may throw. No condition.
-/
namespace Go.Proofs.YtkahbhfbgdbnfaaGreatDoor
open Go.RowKit

theorem put_df (a : Act) (d : Option Tmp) (v : Value) : (a.put d v).defers = a.defers := by cases d <;> rfl
section
variable {P : Program} {ops : Array Oper} {Q : Exit → Act → World → Prop} {S : World → Prop} {fuel : Nat} {listed : Array Bool} {a : Act} {w : World}
/-- What is asked at a panic hangs on no slot. -/
def PutOk (Q : Exit → Act → World → Prop) : Prop := ∀ c a d v w, Q (.panic c) (a.put d v) w → Q (.panic c) a w
theorem rgS (S : World → Prop) {id : Nat} (hm : P.follows .mixedOrders = true) (hS : S w.drew) (hq : PutOk Q)
    (h : S w.drew → PutOk Q → wpAnyH P .any ops Q S ops.size (Array.replicate ops.size false) a w.drew) : (Code.region id ops true).wp P Q a w :=
  wp_region_held hm (h hS hq)
theorem tkS (i : Nat) (oi : Oper) {v : Value} (hq : PutOk Q) (hS : S w) (hi : ops[i]? = some oi) (hb : (Region.noSelect ops && Region.free .any ops listed i && (Region.ready .any ops listed).contains i && Region.wanted oi (yielded ops a.tmps)) = true)
    (hy : ∀ w, S w → (execOp a.eval oi).run P w = .ok (.value v) w)
    (h : wpAnyH P .any ops Q S fuel (listed.setIfInBounds i true) (a.put oi.dst v) w) : wpAnyH P .any ops Q S (fuel + 1) listed a w := by
  simp only [Bool.and_eq_true] at hb
  exact wpAnyH_take hi hb.1.1.1 hb.1.1.2 hb.1.2 (fun c a w => hq c a _ _ w) (.inl ⟨hb.2, hy⟩) hS h
theorem skS (i : Nat) (oi : Oper) (hq : PutOk Q) (hS : S w) (hi : ops[i]? = some oi) (hb : (Region.noSelect ops && Region.free .any ops listed i && (Region.ready .any ops listed).contains i && !Region.wanted oi (yielded ops a.tmps)) = true)
    (h : wpAnyH P .any ops Q S fuel (listed.setIfInBounds i true) (a.put oi.dst undef) w) : wpAnyH P .any ops Q S (fuel + 1) listed a w := by
  simp only [Bool.and_eq_true, Bool.not_eq_true'] at hb
  exact wpAnyH_take hi hb.1.1.1 hb.1.1.2 hb.1.2 (fun c a w => hq c a _ _ w) (.inr ⟨hb.2, rfl⟩) hS h
theorem clS (i : Nat) (o : Oper) (ho : ops[i]? = some o) (hr : Region.ready .any ops listed = [i]) (hw : Region.wanted o (yielded ops a.tmps) = true)
    (h : ∀ K' : Act → World → Prop, Shut (∀ a w, S w → (S w → wpAnyH P .any ops Q S fuel (listed.setIfInBounds i true) a w) → K' a w) → Oper.wp P o a w K' Q) : wpAnyH P .any ops Q S (fuel + 1) listed a w :=
  wpAnyH_ready hr (by simp) (AllReadyH.cons ho (fun K hK => by rw [if_pos hw]; exact h K hK) AllReadyH.nil)
end
theorem putOkB {P : Program} {fn : Func} {R : Ending → World → Prop} : PutOk (bodyPost P fn R) := fun _ a d v _ h => ⟨(put_df a d v).symm.trans h.1, h.2⟩
theorem putOkT {K : Act → World → Prop} {Q : Exit → Act → World → Prop} (h : PutOk Q) : PutOk (Exit.then K Q) := fun c a d v w h' => h c a d v w h'
theorem putOkI {n : Nat} {Q : Exit → Act → World → Prop} (h : PutOk Q) : PutOk (Exit.inBlock n Q) := fun c a d v w h' => h c a d v w h'

/-- What a world that has grown keeps. -/
theorem keepC {wa w' w'' : World} {p : Addr} {x : Value} (h : Below wa.heap.size wa w') (hc : w'.cell? p = some x) (hl : p.block < wa.heap.size) (hb : Below w'.heap.size w' w'') : w''.cell? p = some x :=
  (hb.cell (Nat.lt_of_lt_of_le hl h.size)).trans hc
/-- On, by a world that has grown. -/
theorem onB {w wa w' w'' : World} (h : Below w.heap.size w wa) (h1 : Below wa.heap.size wa w') (hb : Below w'.heap.size w' w'') : Below w.heap.size w w'' := h.trans ((h1.trans (hb.mono h1.size)).mono h.size)
theorem sameB {f : Nat} {args : Array Value} {w : World} {x : Ending} (h : Calls Tryz.prog f args w fun e w' => e = x ∧ w = w') : Calls Tryz.prog f args w fun e w' => e = x ∧ Below w.heap.size w w' := h.mono fun _ _ h => ⟨h.1, by rw [← h.2]; exact Below.refl _ _⟩
theorem cneed_any {pl : Nat → Nat} {ok : Nat → Prop} (w : World) (b : Nat) (t : Tree) (d : Bool) (er : Int) (hn : NodeAt ok pl w b t) :
    Calls Tryz.prog 148 #[.agg #[.pointer (some ⟨b, 0, none⟩)], .bool d, .int .i64 er] w fun e w' => Below w.heap.size w w' ∧ e = (if d then .returned (.tuple #[]) else cfE (pl t.pos) er) := by
  cases d with
  | true => exact (cneed_ok w _ er).mono fun e w' h => ⟨h.2, h.1⟩
  | false => exact (cneed_bad w b t er hn).mono fun e w' h => ⟨h.2, h.1⟩
section
variable {E : CE} {b : Nat} {t : Tree} {wa : World}
theorem cname_at (N : Nd E b t) (hB : Below E.w0.heap.size E.w0 wa) (w : World) (h : Below wa.heap.size wa w) :
    Calls Tryz.prog 42 #[.agg #[.pointer (some ⟨b, 0, none⟩)]] w fun e w' => e = .returned (.string (nm t)) ∧ Below w.heap.size w w' := by
  obtain ⟨A, c, hr⟩ := (N.bl (hB.trans (h.mono hB.size))).rowOf
  exact name_of _ _ _ _ _ _ _ _ _ _ hr
theorem cn_at (N : Nd E b t) (hB : Below E.w0.heap.size E.w0 wa) (w : World) (h : Below wa.heap.size wa w) :
    Calls Tryz.prog 30 #[.agg #[.pointer (some ⟨b, 0, none⟩)]] w fun e w' => e = .returned (.int .i64 t.n) ∧ Below w.heap.size w w' := by
  obtain ⟨A, c, hr⟩ := (N.bl (hB.trans (h.mono hB.size))).rowOf
  exact n_of _ _ _ _ _ _ _ _ _ _ hr
theorem cop_at (N : Nd E b t) (hB : Below E.w0.heap.size E.w0 wa) (w : World) (h : Below wa.heap.size wa w) :
    Calls Tryz.prog 10 #[.agg #[.pointer (some ⟨b, 0, none⟩)]] w fun e w' => e = .returned (.int .i64 t.op) ∧ Below w.heap.size w w' := by
  obtain ⟨A, c, hr⟩ := (N.bl (hB.trans (h.mono hB.size))).rowOf
  exact op_of _ _ _ _ _ _ _ _ _ _ hr
theorem ckids_at (N : Nd E b t) (hB : Below E.w0.heap.size E.w0 wa) (w : World) (h : Below wa.heap.size wa w) :
    Calls Tryz.prog 11 #[.agg #[.pointer (some ⟨b, 0, none⟩)]] w fun e w' => e = .returned (.int .i64 t.kids.length) ∧ Below w.heap.size w w' := by
  obtain ⟨A, c, hr⟩ := (N.bl (hB.trans (h.mono hB.size))).rowOf
  exact kids_of _ _ _ _ _ _ _ _ _ _ hr
theorem ctyp_at (N : Nd E b t) (hB : Below E.w0.heap.size E.w0 wa) (w : World) (h : Below wa.heap.size wa w) :
    Calls Tryz.prog 43 #[.agg #[.pointer (some ⟨b, 0, none⟩)]] w fun e w' => e = .returned (.string (tp t)) ∧ Below w.heap.size w w' := by
  obtain ⟨A, c, hr⟩ := (N.bl (hB.trans (h.mono hB.size))).rowOf
  exact typ_of _ _ _ _ _ _ _ _ _ _ hr
theorem cat_at (N : Nd E b t) (hB : Below E.w0.heap.size E.w0 wa) (w : World) (h : Below wa.heap.size wa w) :
    Calls Tryz.prog 31 #[.agg #[.pointer (some ⟨b, 0, none⟩)]] w fun e w' => e = .returned (.int .i64 (E.pl t.pos)) ∧ Below w.heap.size w w' := by
  obtain ⟨A, c, hr⟩ := (N.bl (hB.trans (h.mono hB.size))).rowOf
  exact at_of _ _ _ _ _ _ _ _ _ _ hr
theorem ckid_at (N : Nd E b t) (hB : Below E.w0.heap.size E.w0 wa) (k : Nat) (u : Tree) (hu : t.kids[k]? = some u) : ∃ nb, Nd E nb u ∧ ∀ (w : World), Below wa.heap.size wa w →
    Calls Tryz.prog 29 #[.agg #[.pointer (some ⟨b, 0, none⟩)], .int .i64 k] w fun e w' => e = .returned (.agg #[.pointer (some ⟨nb, 0, none⟩)]) ∧ Below w.heap.size w w' := by
  obtain ⟨A, c, hr, h1, h2, h3⟩ := N.kid
  obtain ⟨g, x, rfl, hg, -, hc, hn⟩ := h3 k u hu
  refine ⟨x, hn, fun w h => ?_⟩
  have hb := hB.trans (h.mono hB.size)
  exact kid_some w _ _ _ _ _ _ g _ c k x (.inl ⟨b, rfl, hr.below hb⟩) (List.getElem?_eq_some_iff.1 hu).1 h1 h2 (Nat.lt_of_lt_of_le hg hb.size) ((hb.cell (p := ⟨g, k, none⟩) hg).trans hc)
theorem cneed_at (N : Nd E b t) (hB : Below E.w0.heap.size E.w0 wa) (d : Bool) (er : Int) (w : World) (h : Below wa.heap.size wa w) :
    Calls Tryz.prog 148 #[.agg #[.pointer (some ⟨b, 0, none⟩)], .bool d, .int .i64 er] w fun e w' => Below w.heap.size w w' ∧ e = (if d then .returned (.tuple #[]) else cfE (E.pl t.pos) er) :=
  cneed_any w b t d er (N.bl (hB.trans (h.mono hB.size)))
end

end Go.Proofs.YtkahbhfbgdbnfaaGreatDoor

/-
  CONTRACTS: creation, variable of package check. Of what was there nothing has turned.
-/
namespace Go.Proofs.YtkahbhfbgdbnfaaGreatDoor
open Go.RowKit

theorem fst_lt {f : Nat → Bool} {n k i : Nat} (h : fst f n k = some i) : i < n := (fst_some h).2.1
theorem plc_lt {fs : List Fld} {n : ByteArray} {i : Nat} (h : plc fs n = some i) : i < fs.length := fst_lt h
theorem fnd_lt {fs : List Str} {n : ByteArray} {i : Nat} (h : fnd fs n = some i) : i < fs.length := fst_lt h
theorem locN_lt {K : List Fld} {n : ByteArray} : ∀ {m i : Nat}, locN K n m = some i → i < m
  | 0, i, h => by cases h
  | m + 1, i, h => by
    unfold locN at h
    split at h
    · obtain rfl := Option.some.inj h; omega
    · have := locN_lt h; omega
theorem found_eq (a : Option Nat) : foundV a = .tuple #[.int .i64 (a.getD 0 : Nat), .bool a.isSome] := by cases a <;> rfl
theorem SC.c {E : CE} {w w' : World} {v : Value} {K : List Fld} {f : Nat} (h : SC E w v K f) (hb : Below w.heap.size w w') : SC E w' v K f := h.below hb
/-- A field out of a row. -/
theorem fld_at {w : World} {A : Option Addr} {fs : List Fld} {g : Nat} (h : FR w A fs) (hg : g < fs.length) : ∃ b o, A = some ⟨b, o, none⟩ ∧ b < w.heap.size ∧ w.cell? ⟨b, o + g * 2 + 1, none⟩ = some (.string (typAt fs g)) := by
  obtain ⟨b, o, e, hb, h1⟩ := h (by omega)
  have := h1 g _ (List.getElem?_eq_getElem hg)
  exact ⟨b, o, e, hb, by rw [typAt_at (List.getElem?_eq_getElem hg)]; exact this.2⟩
set_option maxRecDepth 100000 in
set_option maxHeartbeats 400000 in
theorem ccreation_any (E : CE) (v : Value) (K : List Fld) (f b : Nat) (t : Tree) (w : World) (H : SC E w v K f) (N : Nd E b t) (hs : (nm t).size ≤ 65536) :
    Calls Tryz.prog 204 #[.pointer (some ⟨E.sb, 0, none⟩), .agg #[.pointer (some ⟨b, 0, none⟩)]] w (XQ E w (makeC E.x t.pos (nm t))) := by
  have B0 := Lib.hid (b1 w (.cells #[.pointer (some ⟨b, 0, none⟩)] 25))
  have H0 := Lib.hid (H.below (b1 w (.cells #[.pointer (some ⟨b, 0, none⟩)] 25)))
  have U0 := Lib.hid (PtrAt.new w (some ⟨b, 0, none⟩))
  have NN := Lib.hid N
  obtain ⟨d, hd⟩ : ∃ d, declB E.x (nm t) = d := ⟨_, rfl⟩
  obtain ⟨a, ha⟩ : ∃ d, fnd E.x.structs (nm t) = d := ⟨_, rfl⟩
  have HD := Lib.hid hd
  have HA := Lib.hid ha
  have HM : makeC E.x t.pos (nm t) = nd t.pos d 5 (nd t.pos a.isSome 7 (.ok (ptrTo (nm t)))) := by unfold makeC; rw [hd, ha]
  rw [HM]
  have ea := found_eq a
  generalize a.isSome = d2 at *
  clear hd ha H N HM
  go_enter Tryz.func204, Tryz.ntmps204
  go_wp2_with fail
  generalize w.alloc (.cells #[.pointer (some ⟨b, 0, none⟩)] 25) = wa at *
  have u0 := U0.out.c0
  have ul := U0.out.lt
  have sl := H0.out.lt
  have c0 := H0.out.c0
  have c1 := H0.out.c1
  have c2 := H0.out.c2
  refine rgS (fun w' => Below wa.heap.size wa w' ∧ w'.cell? ⟨w.heap.size, 0, none⟩ = some (.pointer (some ⟨b, 0, none⟩))) (by kernel_rfl) (⟨(Below.refl _ _).drew, u0⟩) (by repeat first | exact putOkB | apply putOkT) fun hHeld hq => ?_
  refine tkS 0 { dst := some 7, op := .load 25 (.tmp 3), type := 25, pos := "expr.go:74", after := #[], guard := none } (v := ?v1_0) hq hHeld rfl (by kernel_rfl) ?y1_0 ?_
  case y1_0 => (intro w h; try dsimp only at h); go_simp <;> with_reducible rfl
  try simp only [Act.put, List.setIfInBounds_toArray, List.set_cons_zero, List.set_cons_succ]
  refine tkS 1 { dst := some 8, op := .move (.tmp 0), type := 185, pos := "expr.go:74", after := #[], guard := none } (v := ?v1_1) hq hHeld rfl (by kernel_rfl) ?y1_1 ?_
  case y1_1 => (intro w h; try dsimp only at h); go_simp <;> with_reducible rfl
  try simp only [Act.put, List.setIfInBounds_toArray, List.set_cons_zero, List.set_cons_succ]
  refine tkS 2 { dst := some 9, op := .load 25 (.tmp 3), type := 25, pos := "expr.go:74", after := #[], guard := none } (v := ?v1_2) hq hHeld rfl (by kernel_rfl) ?y1_2 ?_
  case y1_2 => (intro w h; try dsimp only at h); go_simp <;> with_reducible rfl
  try simp only [Act.put, List.setIfInBounds_toArray, List.set_cons_zero, List.set_cons_succ]
  refine clS 3 { dst := some 10, op := .call { callee := .value (.func 42), args := #[.tmp 9], argTypes := #[25] }, type := 9, pos := "expr.go:74", after := #[{ on := 2, ground := .data }], guard := none } rfl (by kernel_rfl) (by kernel_rfl) fun Kc hK => ?_
  go_simp
  refine (cname_at NN.out H0.out.B _ hHeld.1).mono ?_
  rintro e w1 ⟨rfl, hb⟩
  refine hK.out _ _ ⟨hHeld.1.trans (hb.mono hHeld.1.size), keepC hHeld.1 hHeld.2 ul hb⟩ fun hHeld => ?_
  clear hb
  clear hK Kc
  try simp only [Act.put, List.setIfInBounds_toArray, List.set_cons_zero, List.set_cons_succ]
  refine clS 4 { dst := some 11, op := .call { callee := .value (.func 211), args := #[.tmp 8, .tmp 10], argTypes := #[185, 9] }, type := 4, pos := "expr.go:74", after := #[{ on := 1, ground := .data }, { on := 3, ground := .data }, { on := 3, ground := .chain }], guard := none } rfl (by kernel_rfl) (by kernel_rfl) fun Kc hK => ?_
  go_simp
  refine (cdecl_any E v K f (nm t) d _ (H0.out.below hHeld.1) HD).mono ?_
  rintro e w1 ⟨rfl, hb⟩
  refine hK.out _ _ ⟨hHeld.1.trans (hb.mono hHeld.1.size), keepC hHeld.1 hHeld.2 ul hb⟩ fun hHeld => ?_
  clear hb
  clear hK Kc
  try simp only [Act.put, List.setIfInBounds_toArray, List.set_cons_zero, List.set_cons_succ]
  refine clS 5 { dst := some 12, op := .call { callee := .value (.func 148), args := #[.tmp 7, .tmp 11, .const (Value.int IntKind.i64 5)], argTypes := #[25, 4, 26] }, type := 0, pos := "expr.go:74", after := #[{ on := 0, ground := .data }, { on := 4, ground := .data }, { on := 4, ground := .chain }], guard := none } rfl (by kernel_rfl) (by kernel_rfl) fun Kc hK => ?_
  go_simp
  refine (cneed_at NN.out H0.out.B d 5 _ hHeld.1).mono ?_
  rintro e w1 ⟨hb, he⟩
  cases d with
  | false => obtain rfl := he; exact ⟨rfl, onB B0.out hHeld.1 hb, rfl⟩
  | true =>
  obtain rfl := he
  refine hK.out _ _ ⟨hHeld.1.trans (hb.mono hHeld.1.size), keepC hHeld.1 hHeld.2 ul hb⟩ fun hHeld => ?_
  clear hb
  clear hK Kc
  try simp only [Act.put, List.setIfInBounds_toArray, List.set_cons_zero, List.set_cons_succ]
  refine wpAnyH_done (by kernel_rfl) ?_ _
  go_wp2_with fail
  have u0 := hHeld.2
  have c0 := keepC (Below.refl _ _) c0 sl hHeld.1
  refine rgS (fun w' => Below wa.heap.size wa w' ∧ w'.cell? ⟨w.heap.size, 0, none⟩ = some (.pointer (some ⟨b, 0, none⟩)) ∧ w'.cell? ⟨E.sb, 0, none⟩ = some (.slice E.sA E.x.structs.length E.sc)) (by kernel_rfl) (⟨hHeld.1.drew, u0, c0⟩) (by repeat first | exact putOkB | apply putOkT) fun hHeld hq => ?_
  refine tkS 0 { dst := some 14, op := .move (.tmp 0), type := 185, pos := "expr.go:75", after := #[], guard := none } (v := ?v2_0) hq hHeld rfl (by kernel_rfl) ?y2_0 ?_
  case y2_0 => (intro w h; try dsimp only at h); go_simp <;> with_reducible rfl
  try simp only [Act.put, List.setIfInBounds_toArray, List.set_cons_zero, List.set_cons_succ]
  refine tkS 1 { dst := some 15, op := .nilCheck (.tmp 14), type := 0, pos := "expr.go:75", after := #[{ on := 0, ground := .data }], guard := none } (v := ?v2_1) hq hHeld rfl (by kernel_rfl) ?y2_1 ?_
  case y2_1 => (intro w h; try dsimp only at h); go_simp <;> with_reducible rfl
  try simp only [Act.put, List.setIfInBounds_toArray, List.set_cons_zero, List.set_cons_succ]
  refine tkS 2 { dst := some 16, op := .fieldAddr 179 (.tmp 15) 0, type := 0, pos := "expr.go:75", after := #[{ on := 1, ground := .data }], guard := none } (v := ?v2_2) hq hHeld rfl (by kernel_rfl) ?y2_2 ?_
  case y2_2 => (intro w h; try dsimp only at h); go_simp <;> with_reducible rfl
  try simp only [Act.put, List.setIfInBounds_toArray, List.set_cons_zero, List.set_cons_succ]
  refine tkS 3 { dst := some 17, op := .fieldAddr 44 (.tmp 16) 0, type := 0, pos := "expr.go:75", after := #[{ on := 2, ground := .data }], guard := none } (v := ?v2_3) hq hHeld rfl (by kernel_rfl) ?y2_3 ?_
  case y2_3 => (intro w h; try dsimp only at h); go_simp <;> with_reducible rfl
  try simp only [Act.put, List.setIfInBounds_toArray, List.set_cons_zero, List.set_cons_succ]
  refine tkS 4 { dst := some 18, op := .load 40 (.tmp 17), type := 40, pos := "expr.go:75", after := #[{ on := 3, ground := .data }], guard := none } (v := ?v2_4) hq hHeld rfl (by kernel_rfl) ?y2_4 ?_
  case y2_4 => (intro w h; try dsimp only at h); go_simp <;> with_reducible rfl
  try simp only [Act.put, List.setIfInBounds_toArray, List.set_cons_zero, List.set_cons_succ]
  refine tkS 5 { dst := some 19, op := .load 25 (.tmp 3), type := 25, pos := "expr.go:75", after := #[], guard := none } (v := ?v2_5) hq hHeld rfl (by kernel_rfl) ?y2_5 ?_
  case y2_5 => (intro w h; try dsimp only at h); go_simp <;> with_reducible rfl
  try simp only [Act.put, List.setIfInBounds_toArray, List.set_cons_zero, List.set_cons_succ]
  refine clS 6 { dst := some 20, op := .call { callee := .value (.func 42), args := #[.tmp 19], argTypes := #[25] }, type := 9, pos := "expr.go:75", after := #[{ on := 5, ground := .data }], guard := none } rfl (by kernel_rfl) (by kernel_rfl) fun Kc hK => ?_
  go_simp
  refine (cname_at NN.out H0.out.B _ hHeld.1).mono ?_
  rintro e w1 ⟨rfl, hb⟩
  refine hK.out _ _ ⟨hHeld.1.trans (hb.mono hHeld.1.size), keepC hHeld.1 hHeld.2.1 ul hb, keepC hHeld.1 hHeld.2.2 sl hb⟩ fun hHeld => ?_
  clear hb
  clear hK Kc
  try simp only [Act.put, List.setIfInBounds_toArray, List.set_cons_zero, List.set_cons_succ]
  refine clS 7 { dst := some 21, op := .call { callee := .value (.func 52), args := #[.tmp 18, .tmp 20], argTypes := #[40, 9] }, type := 57, pos := "expr.go:75", after := #[{ on := 4, ground := .data }, { on := 6, ground := .data }, { on := 6, ground := .chain }], guard := none } rfl (by kernel_rfl) (by kernel_rfl) fun Kc hK => ?_
  go_simp
  refine (find_any _ _ _ E.x.structs (nm t) a _ (H0.out.below hHeld.1).imw.S (Lib.hid rfl) (by have := H0.out.im.sl; omega) HA).mono ?_
  rintro e w1 ⟨rfl, hb⟩
  rw [ea]
  refine hK.out _ _ ⟨hHeld.1.trans (hb.mono hHeld.1.size), keepC hHeld.1 hHeld.2.1 ul hb, keepC hHeld.1 hHeld.2.2 sl hb⟩ fun hHeld => ?_
  clear hb
  clear hK Kc
  try simp only [Act.put, List.setIfInBounds_toArray, List.set_cons_zero, List.set_cons_succ]
  refine tkS 8 { dst := some 13, op := .move (.tmp 21), type := 57, pos := "expr.go:75", after := #[{ on := 7, ground := .data }], guard := none } (v := ?v2_8) hq hHeld rfl (by kernel_rfl) ?y2_8 ?_
  case y2_8 => (intro w h; try dsimp only at h); go_simp <;> with_reducible rfl
  try simp only [Act.put, List.setIfInBounds_toArray, List.set_cons_zero, List.set_cons_succ]
  refine tkS 9 { dst := some 22, op := .extract (.tmp 13) 0, type := 3, pos := "expr.go:75", after := #[{ on := 8, ground := .data }], guard := none } (v := ?v2_9) hq hHeld rfl (by kernel_rfl) ?y2_9 ?_
  case y2_9 => (intro w h; try dsimp only at h); go_simp <;> with_reducible rfl
  try simp only [Act.put, List.setIfInBounds_toArray, List.set_cons_zero, List.set_cons_succ]
  refine tkS 10 { dst := some 23, op := .extract (.tmp 13) 1, type := 4, pos := "expr.go:75", after := #[{ on := 8, ground := .data }, { on := 11, ground := .gcOnly Departure.lateStores }], guard := none } (v := ?v2_10) hq hHeld rfl (by kernel_rfl) ?y2_10 ?_
  case y2_10 => (intro w h; try dsimp only at h); go_simp <;> with_reducible rfl
  try simp only [Act.put, List.setIfInBounds_toArray, List.set_cons_zero, List.set_cons_succ]
  refine tkS 11 { dst := some 5, op := .assign (.tmp 22), type := 3, pos := "expr.go:75", after := #[{ on := 9, ground := .data }, { on := 7, ground := .chain }, { on := 0, ground := .phase }, { on := 1, ground := .phase }, { on := 2, ground := .phase }, { on := 3, ground := .phase }, { on := 4, ground := .phase }, { on := 5, ground := .phase }, { on := 6, ground := .phase }, { on := 7, ground := .phase }, { on := 8, ground := .phase }, { on := 9, ground := .phase }, { on := 10, ground := .textOnly Departure.lateStores }], guard := none } (v := ?v2_11) hq hHeld rfl (by kernel_rfl) ?y2_11 ?_
  case y2_11 => (intro w h; try dsimp only at h); go_simp <;> with_reducible rfl
  try simp only [Act.put, List.setIfInBounds_toArray, List.set_cons_zero, List.set_cons_succ]
  refine tkS 12 { dst := some 6, op := .assign (.tmp 23), type := 4, pos := "expr.go:75", after := #[{ on := 10, ground := .data }, { on := 11, ground := .chain }, { on := 0, ground := .phase }, { on := 1, ground := .phase }, { on := 2, ground := .phase }, { on := 3, ground := .phase }, { on := 4, ground := .phase }, { on := 5, ground := .phase }, { on := 6, ground := .phase }, { on := 7, ground := .phase }, { on := 8, ground := .phase }, { on := 9, ground := .phase }, { on := 10, ground := .phase }, { on := 11, ground := .phase }], guard := none } (v := ?v2_12) hq hHeld rfl (by kernel_rfl) ?y2_12 ?_
  case y2_12 => (intro w h; try dsimp only at h); go_simp <;> with_reducible rfl
  try simp only [Act.put, List.setIfInBounds_toArray, List.set_cons_zero, List.set_cons_succ]
  refine wpAnyH_done (by kernel_rfl) ?_ _
  go_wp2_with fail
  have u0 := hHeld.2.1
  have hh := Lib.hid hHeld.1
  clear c0 c1 c2
  refine (cneed_at NN.out H0.out.B d2 7 _ hh.out).mono ?_
  rintro e w5 ⟨hb, he⟩
  cases d2 with
  | false => obtain rfl := he; exact ⟨rfl, onB B0.out hh.out hb, rfl⟩
  | true =>
    obtain rfl := he
    have u0 := keepC hh.out u0 ul hb
    have hh := Lib.hid (hh.out.trans (hb.mono hh.out.size))
    go_wp2_with fail
    refine (cname_at NN.out H0.out.B _ hh.out).mono ?_
    rintro e w6 ⟨rfl, hb⟩
    have hh := Lib.hid (hh.out.trans (hb.mono hh.out.size))
    go_wp2_with (go_at_call 162; refine (pointer_any _ _ (by omega)).mono ?_; rintro e w7 ⟨rfl, rfl⟩)
    go_ret
    exact ⟨B0.out.trans (hh.out.mono B0.out.size), rfl⟩

set_option maxRecDepth 100000 in
set_option maxHeartbeats 400000 in
theorem cvariable_any (E : CE) (v : Value) (K : List Fld) (f b : Nat) (t : Tree) (w : World) (H : SC E w v K f) (N : Nd E b t) :
    Calls Tryz.prog 189 #[.pointer (some ⟨E.sb, 0, none⟩), .agg #[.pointer (some ⟨b, 0, none⟩)]] w (XQ E w (varC E.x K t.pos (nm t))) := by
  have B0 := Lib.hid (b1 w (.cells #[.pointer (some ⟨b, 0, none⟩)] 25))
  have H0 := Lib.hid (H.below (b1 w (.cells #[.pointer (some ⟨b, 0, none⟩)] 25)))
  have U0 := Lib.hid (PtrAt.new w (some ⟨b, 0, none⟩))
  have NN := Lib.hid N
  obtain ⟨d, hd⟩ : ∃ d, declB E.x (nm t) = d := ⟨_, rfl⟩
  obtain ⟨a, ha⟩ : ∃ d, locO K (nm t) = d := ⟨_, rfl⟩
  obtain ⟨g, hg⟩ : ∃ d, plc E.x.globals (nm t) = d := ⟨_, rfl⟩
  have HD := Lib.hid hd
  have HA := Lib.hid ha
  have HG := Lib.hid hg
  rw [show varC E.x K t.pos (nm t) = varOf E.x K t.pos d a g by unfold varC; rw [hd, ha, hg]]
  have ea := found_eq g
  clear hd ha hg H N
  go_enter Tryz.func189, Tryz.ntmps189
  go_wp2_with fail
  generalize w.alloc (.cells #[.pointer (some ⟨b, 0, none⟩)] 25) = wa at *
  have u0 := U0.out.c0
  have ul := U0.out.lt
  have sl := H0.out.lt
  have c0 := H0.out.c0
  have c1 := H0.out.c1
  have c2 := H0.out.c2
  refine (cname_at NN.out H0.out.B _ (Below.refl _ _)).mono ?_
  rintro e w1 ⟨rfl, hb⟩
  go_wp2_with fail
  refine (clocal_any E v K f (nm t) a w1 (H0.out.below hb) HA).mono ?_
  rintro e w2 ⟨rfl, rfl⟩
  cases a with
  | some i =>
    unfold locV
    go_wp2_with fail
    go_ret
    exact ⟨B0.out.trans (hb.mono B0.out.size), rfl⟩
  | none =>
    unfold locV
    have hHeld := hb
    clear hb
    have u0 := keepC (Below.refl _ _) u0 ul hHeld
    have c0 := keepC (Below.refl _ _) c0 sl hHeld
    have c1 := keepC (Below.refl _ _) c1 sl hHeld
    have c2 := keepC (Below.refl _ _) c2 sl hHeld
    go_wp2_with fail
    refine rgS (fun w' => Below wa.heap.size wa w' ∧ w'.cell? ⟨w.heap.size, 0, none⟩ = some (.pointer (some ⟨b, 0, none⟩)) ∧ w'.cell? ⟨E.sb, 0, none⟩ = some (.slice E.sA E.x.structs.length E.sc) ∧ w'.cell? ⟨E.sb, 1, none⟩ = some (.slice E.gA E.x.globals.length E.gc) ∧ w'.cell? ⟨E.sb, 2, none⟩ = some (.slice E.fA E.x.funs.length E.fc)) (by kernel_rfl) (⟨hHeld.drew, u0, c0, c1, c2⟩) (by repeat first | exact putOkB | apply putOkT) fun hHeld hq => ?_
    refine tkS 0 { dst := some 19, op := .move (.tmp 0), type := 185, pos := "expr.go:58", after := #[], guard := none } (v := ?v3_0) hq hHeld rfl (by kernel_rfl) ?y3_0 ?_
    case y3_0 => (intro w h; try dsimp only at h); go_simp <;> with_reducible rfl
    try simp only [Act.put, List.setIfInBounds_toArray, List.set_cons_zero, List.set_cons_succ]
    refine tkS 1 { dst := some 20, op := .nilCheck (.tmp 19), type := 0, pos := "expr.go:58", after := #[{ on := 0, ground := .data }], guard := none } (v := ?v3_1) hq hHeld rfl (by kernel_rfl) ?y3_1 ?_
    case y3_1 => (intro w h; try dsimp only at h); go_simp <;> with_reducible rfl
    try simp only [Act.put, List.setIfInBounds_toArray, List.set_cons_zero, List.set_cons_succ]
    refine tkS 2 { dst := some 21, op := .fieldAddr 179 (.tmp 20) 0, type := 0, pos := "expr.go:58", after := #[{ on := 1, ground := .data }], guard := none } (v := ?v3_2) hq hHeld rfl (by kernel_rfl) ?y3_2 ?_
    case y3_2 => (intro w h; try dsimp only at h); go_simp <;> with_reducible rfl
    try simp only [Act.put, List.setIfInBounds_toArray, List.set_cons_zero, List.set_cons_succ]
    refine tkS 3 { dst := some 22, op := .load 44 (.tmp 21), type := 44, pos := "expr.go:58", after := #[{ on := 2, ground := .data }], guard := none } (v := ?v3_3) hq hHeld rfl (by kernel_rfl) ?y3_3 ?_
    case y3_3 => (intro w h; try dsimp only at h); go_simp <;> with_reducible rfl
    try simp only [Act.put, List.setIfInBounds_toArray, List.set_cons_zero, List.set_cons_succ]
    refine tkS 4 { dst := some 23, op := .load 25 (.tmp 3), type := 25, pos := "expr.go:58", after := #[], guard := none } (v := ?v3_4) hq hHeld rfl (by kernel_rfl) ?y3_4 ?_
    case y3_4 => (intro w h; try dsimp only at h); go_simp <;> with_reducible rfl
    try simp only [Act.put, List.setIfInBounds_toArray, List.set_cons_zero, List.set_cons_succ]
    refine clS 5 { dst := some 24, op := .call { callee := .value (.func 42), args := #[.tmp 23], argTypes := #[25] }, type := 9, pos := "expr.go:58", after := #[{ on := 4, ground := .data }], guard := none } rfl (by kernel_rfl) (by kernel_rfl) fun Kc hK => ?_
    go_simp
    refine (cname_at NN.out H0.out.B _ hHeld.1).mono ?_
    rintro e w1 ⟨rfl, hb⟩
    refine hK.out _ _ ⟨hHeld.1.trans (hb.mono hHeld.1.size), keepC hHeld.1 hHeld.2.1 ul hb, keepC hHeld.1 hHeld.2.2.1 sl hb, keepC hHeld.1 hHeld.2.2.2.1 sl hb, keepC hHeld.1 hHeld.2.2.2.2 sl hb⟩ fun hHeld => ?_
    clear hb
    clear hK Kc
    try simp only [Act.put, List.setIfInBounds_toArray, List.set_cons_zero, List.set_cons_succ]
    refine clS 6 { dst := some 25, op := .call { callee := .value (.func 23), args := #[.tmp 22, .tmp 24], argTypes := #[44, 9] }, type := 57, pos := "expr.go:58", after := #[{ on := 3, ground := .data }, { on := 5, ground := .data }, { on := 5, ground := .chain }], guard := none } rfl (by kernel_rfl) (by kernel_rfl) fun Kc hK => ?_
    go_simp
    refine (cglobal_any E (nm t) g _ (H0.out.below hHeld.1).imw HG).mono ?_
    rintro e w1 ⟨rfl, hb⟩
    rw [ea]
    refine hK.out _ _ ⟨hHeld.1.trans (hb.mono hHeld.1.size), keepC hHeld.1 hHeld.2.1 ul hb, keepC hHeld.1 hHeld.2.2.1 sl hb, keepC hHeld.1 hHeld.2.2.2.1 sl hb, keepC hHeld.1 hHeld.2.2.2.2 sl hb⟩ fun hHeld => ?_
    clear hb
    clear hK Kc
    try simp only [Act.put, List.setIfInBounds_toArray, List.set_cons_zero, List.set_cons_succ]
    refine tkS 7 { dst := some 18, op := .move (.tmp 25), type := 57, pos := "expr.go:58", after := #[{ on := 6, ground := .data }], guard := none } (v := ?v3_7) hq hHeld rfl (by kernel_rfl) ?y3_7 ?_
    case y3_7 => (intro w h; try dsimp only at h); go_simp <;> with_reducible rfl
    try simp only [Act.put, List.setIfInBounds_toArray, List.set_cons_zero, List.set_cons_succ]
    refine tkS 8 { dst := some 26, op := .extract (.tmp 18) 0, type := 3, pos := "expr.go:58", after := #[{ on := 7, ground := .data }], guard := none } (v := ?v3_8) hq hHeld rfl (by kernel_rfl) ?y3_8 ?_
    case y3_8 => (intro w h; try dsimp only at h); go_simp <;> with_reducible rfl
    try simp only [Act.put, List.setIfInBounds_toArray, List.set_cons_zero, List.set_cons_succ]
    refine tkS 9 { dst := some 27, op := .extract (.tmp 18) 1, type := 4, pos := "expr.go:58", after := #[{ on := 7, ground := .data }, { on := 10, ground := .gcOnly Departure.lateStores }], guard := none } (v := ?v3_9) hq hHeld rfl (by kernel_rfl) ?y3_9 ?_
    case y3_9 => (intro w h; try dsimp only at h); go_simp <;> with_reducible rfl
    try simp only [Act.put, List.setIfInBounds_toArray, List.set_cons_zero, List.set_cons_succ]
    refine tkS 10 { dst := some 7, op := .assign (.tmp 26), type := 3, pos := "expr.go:58", after := #[{ on := 8, ground := .data }, { on := 6, ground := .chain }, { on := 0, ground := .phase }, { on := 1, ground := .phase }, { on := 2, ground := .phase }, { on := 3, ground := .phase }, { on := 4, ground := .phase }, { on := 5, ground := .phase }, { on := 6, ground := .phase }, { on := 7, ground := .phase }, { on := 8, ground := .phase }, { on := 9, ground := .textOnly Departure.lateStores }], guard := none } (v := ?v3_10) hq hHeld rfl (by kernel_rfl) ?y3_10 ?_
    case y3_10 => (intro w h; try dsimp only at h); go_simp <;> with_reducible rfl
    try simp only [Act.put, List.setIfInBounds_toArray, List.set_cons_zero, List.set_cons_succ]
    refine tkS 11 { dst := some 8, op := .assign (.tmp 27), type := 4, pos := "expr.go:58", after := #[{ on := 9, ground := .data }, { on := 10, ground := .chain }, { on := 0, ground := .phase }, { on := 1, ground := .phase }, { on := 2, ground := .phase }, { on := 3, ground := .phase }, { on := 4, ground := .phase }, { on := 5, ground := .phase }, { on := 6, ground := .phase }, { on := 7, ground := .phase }, { on := 8, ground := .phase }, { on := 9, ground := .phase }, { on := 10, ground := .phase }], guard := none } (v := ?v3_11) hq hHeld rfl (by kernel_rfl) ?y3_11 ?_
    case y3_11 => (intro w h; try dsimp only at h); go_simp <;> with_reducible rfl
    try simp only [Act.put, List.setIfInBounds_toArray, List.set_cons_zero, List.set_cons_succ]
    refine wpAnyH_done (by kernel_rfl) ?_ _
    cases g with
    | some j =>
      have c1 := hHeld.2.2.2.1
      have hgl := plc_lt HG.out
      have hgc := H0.out.im.gle
      have hgm := H0.out.im.gl
      obtain ⟨gb, go, hga, -, hcell⟩ := fld_at (H0.out.below hHeld.1).imw.G hgl
      have hh := Lib.hid hHeld.1
      rw [hga] at c1 ⊢
      clear hHeld hga
      generalize E.x.globals.length = gm at *
      simp only [Option.getD_some, Option.isSome_some]
      go_wp2_with fail
      go_ret
      exact ⟨B0.out.trans (hh.out.mono B0.out.size), rfl⟩
    | none =>
      have u0 := hHeld.2.1
      have hh := hHeld.1
      clear hHeld
      go_wp2_with fail
      refine rgS (fun w' => Below wa.heap.size wa w' ∧ w'.cell? ⟨w.heap.size, 0, none⟩ = some (.pointer (some ⟨b, 0, none⟩))) (by kernel_rfl) (⟨hh.drew, u0⟩) (by repeat first | exact putOkB | apply putOkT) fun hHeld hq => ?_
      refine tkS 0 { dst := some 38, op := .load 25 (.tmp 3), type := 25, pos := "expr.go:61", after := #[], guard := none } (v := ?v4_0) hq hHeld rfl (by kernel_rfl) ?y4_0 ?_
      case y4_0 => (intro w h; try dsimp only at h); go_simp <;> with_reducible rfl
      try simp only [Act.put, List.setIfInBounds_toArray, List.set_cons_zero, List.set_cons_succ]
      refine tkS 1 { dst := some 39, op := .move (.tmp 0), type := 185, pos := "expr.go:61", after := #[], guard := none } (v := ?v4_1) hq hHeld rfl (by kernel_rfl) ?y4_1 ?_
      case y4_1 => (intro w h; try dsimp only at h); go_simp <;> with_reducible rfl
      try simp only [Act.put, List.setIfInBounds_toArray, List.set_cons_zero, List.set_cons_succ]
      refine tkS 2 { dst := some 40, op := .load 25 (.tmp 3), type := 25, pos := "expr.go:61", after := #[], guard := none } (v := ?v4_2) hq hHeld rfl (by kernel_rfl) ?y4_2 ?_
      case y4_2 => (intro w h; try dsimp only at h); go_simp <;> with_reducible rfl
      try simp only [Act.put, List.setIfInBounds_toArray, List.set_cons_zero, List.set_cons_succ]
      refine clS 3 { dst := some 41, op := .call { callee := .value (.func 42), args := #[.tmp 40], argTypes := #[25] }, type := 9, pos := "expr.go:61", after := #[{ on := 2, ground := .data }], guard := none } rfl (by kernel_rfl) (by kernel_rfl) fun Kc hK => ?_
      go_simp
      refine (cname_at NN.out H0.out.B _ hHeld.1).mono ?_
      rintro e w1 ⟨rfl, hb⟩
      refine hK.out _ _ ⟨hHeld.1.trans (hb.mono hHeld.1.size), keepC hHeld.1 hHeld.2 ul hb⟩ fun hHeld => ?_
      clear hb
      clear hK Kc
      try simp only [Act.put, List.setIfInBounds_toArray, List.set_cons_zero, List.set_cons_succ]
      refine clS 4 { dst := some 42, op := .call { callee := .value (.func 211), args := #[.tmp 39, .tmp 41], argTypes := #[185, 9] }, type := 4, pos := "expr.go:61", after := #[{ on := 1, ground := .data }, { on := 3, ground := .data }, { on := 3, ground := .chain }], guard := none } rfl (by kernel_rfl) (by kernel_rfl) fun Kc hK => ?_
      go_simp
      refine (cdecl_any E v K f (nm t) d _ (H0.out.below hHeld.1) HD).mono ?_
      rintro e w1 ⟨rfl, hb⟩
      refine hK.out _ _ ⟨hHeld.1.trans (hb.mono hHeld.1.size), keepC hHeld.1 hHeld.2 ul hb⟩ fun hHeld => ?_
      clear hb
      clear hK Kc
      try simp only [Act.put, List.setIfInBounds_toArray, List.set_cons_zero, List.set_cons_succ]
      refine clS 5 { dst := some 43, op := .call { callee := .value (.func 148), args := #[.tmp 38, .tmp 42, .const (Value.int IntKind.i64 5)], argTypes := #[25, 4, 26] }, type := 0, pos := "expr.go:61", after := #[{ on := 0, ground := .data }, { on := 4, ground := .data }, { on := 4, ground := .chain }], guard := none } rfl (by kernel_rfl) (by kernel_rfl) fun Kc hK => ?_
      go_simp
      refine (cneed_at NN.out H0.out.B d 5 _ hHeld.1).mono ?_
      rintro e w1 ⟨hb, he⟩
      cases d with
      | false => obtain rfl := he; exact ⟨rfl, onB B0.out hHeld.1 hb, rfl⟩
      | true =>
      obtain rfl := he
      refine hK.out _ _ ⟨hHeld.1.trans (hb.mono hHeld.1.size), keepC hHeld.1 hHeld.2 ul hb⟩ fun hHeld => ?_
      clear hb
      clear hK Kc
      try simp only [Act.put, List.setIfInBounds_toArray, List.set_cons_zero, List.set_cons_succ]
      refine wpAnyH_done (by kernel_rfl) ?_ _
      have u0 := hHeld.2
      go_wp2_with fail
      refine (cat_at NN.out H0.out.B _ hHeld.1).mono ?_
      rintro e w6 ⟨rfl, hb⟩
      go_wp2_with fail
      exact ⟨rfl, onB B0.out hHeld.1 hb, rfl⟩

end Go.Proofs.YtkahbhfbgdbnfaaGreatDoor
