/-
  WORDS FOR MEMORY: a slice that reads as a list of fields, of structs, of texts; what keeps it. No condition.
-/
import Derived.Test.YtkahbhfbgdbnfaaGreatDoorJ3
import Derived.Below
import Derived.Laws.OwnMore
import Derived.Deep.AppendLies
import Derived.Deep.Draws
import Derived.Maps.AppendAt
import Derived.OwnWalk
import Derived.RegionTactic
import Derived.BigQuiet
import Derived.Deep.QuietTactic
import Derived.IntWalk
import Derived.Test.YtkahbhfbgdbnfaaGreatDoorJ6
namespace Go.Proofs.YtkahbhfbgdbnfaaGreatDoor
open Go.RowKit

def FldAt (w : World) (b o k : Nat) (f : Fld) : Prop := w.cell? ⟨b, o + k * 2, none⟩ = some (.string f.name) ∧ w.cell? ⟨b, o + k * 2 + 1, none⟩ = some (.string f.typ)
def FR (w : World) (A : Option Addr) (fs : List Fld) : Prop := 0 < fs.length → ∃ b o, A = some ⟨b, o, none⟩ ∧ b < w.heap.size ∧ ∀ k f, fs[k]? = some f → FldAt w b o k f
def StrAt (w : World) (b o i : Nat) (s : Str) : Prop := ∃ A c, w.cell? ⟨b, o + i * 2, none⟩ = some (.string s.name) ∧ w.cell? ⟨b, o + i * 2 + 1, none⟩ = some (.slice A s.fields.length c) ∧ s.fields.length ≤ c ∧ s.fields.length ≤ 281474976710656 ∧ FR w A s.fields
def SR (w : World) (A : Option Addr) (ss : List Str) : Prop := 0 < ss.length → ∃ b o, A = some ⟨b, o, none⟩ ∧ b < w.heap.size ∧ ∀ i s, ss[i]? = some s → StrAt w b o i s

theorem FR.below {w w' : World} {B : Nat} {A : Option Addr} {fs : List Fld} (h : FR w A fs) (hb : Below B w w') (hB : w.heap.size ≤ B) : FR w' A fs := by
  intro h0
  obtain ⟨b, o, hA, hg, hc⟩ := h h0
  refine ⟨b, o, hA, Nat.lt_of_lt_of_le hg hb.size, fun k f hf => ?_⟩
  obtain ⟨x, y⟩ := hc k f hf
  exact ⟨(hb.cell (p := ⟨b, o + k * 2, none⟩) (Nat.lt_of_lt_of_le hg hB)).trans x, (hb.cell (p := ⟨b, o + k * 2 + 1, none⟩) (Nat.lt_of_lt_of_le hg hB)).trans y⟩
theorem StrAt.below {w w' : World} {B b o i : Nat} {s : Str} (h : StrAt w b o i s) (hg : b < w.heap.size) (hb : Below B w w') (hB : w.heap.size ≤ B) : StrAt w' b o i s := by
  obtain ⟨A, c, x, y, z, z2, hf⟩ := h
  exact ⟨A, c, (hb.cell (p := ⟨b, o + i * 2, none⟩) (Nat.lt_of_lt_of_le hg hB)).trans x, (hb.cell (p := ⟨b, o + i * 2 + 1, none⟩) (Nat.lt_of_lt_of_le hg hB)).trans y, z, z2, hf.below hb hB⟩
theorem SR.below {w w' : World} {B : Nat} {A : Option Addr} {ss : List Str} (h : SR w A ss) (hb : Below B w w') (hB : w.heap.size ≤ B) : SR w' A ss := by
  intro h0
  obtain ⟨b, o, hA, hg, hc⟩ := h h0
  exact ⟨b, o, hA, Nat.lt_of_lt_of_le hg hb.size, fun k f hf => (hc k f hf).below hg hb hB⟩
theorem SR.take {w : World} {A : Option Addr} {ss : List Str} (h : SR w A ss) (n : Nat) : SR w A (ss.take n) := by
  intro h0
  obtain ⟨b, o, hA, hg, hc⟩ := h (by rw [List.length_take] at h0; omega)
  refine ⟨b, o, hA, hg, fun k f hf => hc k f ?_⟩
  rw [List.getElem?_take] at hf
  split at hf
  · exact hf
  · cases hf
theorem below_on {W w w1 : World} (h : Below W.heap.size W w) (b : Below w.heap.size w w1) : Below W.heap.size W w1 := h.trans (b.mono h.size)

theorem cell_second (w : World) (A B : Array Value) (t e : TypeId) (j : Nat) : ((w.alloc (.cells A t)).alloc (.cells B e)).cell? ⟨w.heap.size + 1, j, none⟩ = B[j]? := by
  have h := heap_alloc_new (w.alloc (.cells A t)) (.cells B e)
  rw [show (w.alloc (.cells A t)).heap.size = w.heap.size + 1 by simp] at h
  exact cell_of_row _ (w.heap.size + 1) j B e (0, 0) h
theorem cell_new (w : World) (B : Array Value) (e : TypeId) (j : Nat) : (w.alloc (.cells B e)).cell? ⟨w.heap.size, j, none⟩ = B[j]? :=
  cell_of_row _ w.heap.size j B e (0, 0) (heap_alloc_new w (.cells B e))
theorem below2 (w : World) (o o' : Obj) : Below w.heap.size w ((w.alloc o).alloc o') := ((Below.refl _ _).alloc (Nat.le_refl _) _).alloc (by simp) _
theorem heap2 (w : World) (o o' : Obj) : ((w.alloc o).alloc o').heap.size = w.heap.size + 2 := by simp


end Go.Proofs.YtkahbhfbgdbnfaaGreatDoor

/-
  CONTRACTS: Find, Place of package kind and the reference's Find, at every row. Of what was there nothing has turned.
-/
namespace Go.Proofs.YtkahbhfbgdbnfaaGreatDoor
open Go.RowKit

def foundV : Option Nat → Value
  | some i => .tuple #[.int .i64 i, .bool true]
  | none => .tuple #[.int .i64 0, .bool false]

def FRel (w : World) (f : Nat → Bool) (m : Nat) (r : Option Nat) (i : Value) (wr : World) : Prop :=
  ∃ k : Nat, k ≤ m ∧ i = .int .i64 k ∧ Hid (fst f m k = r) ∧ Below w.heap.size w wr

set_option maxRecDepth 100000 in
set_option maxHeartbeats 400000 in
theorem find_any (A : Option Addr) (c m : Nat) (ss : List Str) (n : ByteArray) (r : Option Nat) (w : World) (hR : SR w A ss) (hm : Hid (ss.length = m)) (hl : m ≤ 281474976710656) (hr : Hid (fnd ss n = r)) :
    Calls Tryz.prog 52 #[.slice A m c, .string n] w fun e w' => e = .returned (foundV r) ∧ Below w.heap.size w w' := by
  have HR := Lib.hid hR
  clear hR
  have HF : Hid (fst (nameIs ss n) m 0 = r) := by
    show _ = _
    rw [← hr.out, fnd, hm.out]
  go_enter Tryz.func52, Tryz.ntmps52
  go_wp2_with fail
  go_loopw [10] (fun i wr => FRel w (nameIs ss n) m r i wr) (fun i _ => m - (intOf i).toNat)
  case atStart => exact ⟨0, Nat.zero_le _, rfl, HF, Below.refl _ _⟩
  case round =>
    obtain ⟨k, hk, rfl, HK, hb⟩ := hrel
    by_cases hlt : k < m
    · obtain ⟨b, o, rfl, hg, hcs⟩ := HR.out (by have := hm.out; omega)
      obtain ⟨s, hs⟩ : ∃ s, ss[k]? = some s := ⟨_, List.getElem?_eq_getElem (by have := hm.out; omega)⟩
      obtain ⟨FA, fc, c0, c1, -⟩ := (hcs k s hs).below hg hb (Nat.le_refl _)
      have hni := nameIs_at (n := n) hs
      have HCS := Lib.hid hcs
      have HS := Lib.hid hs
      clear hcs hs
      obtain ⟨sn, sf⟩ := s
      simp only at c0 c1 hni
      cases he : eqB sn n with
      | true =>
        have hq : r = some k := HK.out.symm.trans (fst_hit hlt (hni.trans he))
        subst hq
        obtain rfl := eqB_iff.1 he
        clear hni he
        go_wp2_with fail
        go_ret2
        exact ⟨rfl, hb.alloc hb.size _⟩
      | false =>
        have hq : fst (nameIs ss n) m (k + 1) = r := (fst_next hlt (hni.trans he)).symm.trans HK.out
        have HQ := Lib.hid hq
        have hsp := eqB_spell he
        clear hq hni he
        go_wp2_with fail
        go_roundw
        case rel => exact ⟨k + 1, by omega, by go_num, HQ, hb.alloc hb.size _⟩
        case measure => simp [intOf]; omega
    · have hq : r = none := HK.out.symm.trans (fst_end (by omega))
      subst hq
      go_wp2_with fail
      go_ret2
      exact ⟨rfl, hb⟩

set_option maxRecDepth 100000 in
set_option maxHeartbeats 400000 in
theorem place_any (sn : ByteArray) (A : Option Addr) (c m : Nat) (fs : List Fld) (n : ByteArray) (r : Option Nat) (w : World) (hR : FR w A fs) (hm : Hid (fs.length = m)) (hl : m ≤ 281474976710656) (hr : Hid (plc fs n = r)) :
    Calls Tryz.prog 117 #[.agg #[.string sn, .slice A m c], .string n] w fun e w' => e = .returned (foundV r) ∧ Below w.heap.size w w' := by
  have HR := Lib.hid hR
  clear hR
  have HF : Hid (fst (fldIs fs n) m 0 = r) := by
    show _ = _
    rw [← hr.out, plc, hm.out]
  go_enter Tryz.func117, Tryz.ntmps117
  go_wp2_with fail
  go_loopw [11] (fun i wr => FRel w (fldIs fs n) m r i wr) (fun i _ => m - (intOf i).toNat)
  case atStart => exact ⟨0, Nat.zero_le _, rfl, HF, (Below.refl _ _).alloc (Nat.le_refl _) _⟩
  case round =>
    obtain ⟨k, hk, rfl, HK, hb⟩ := hrel
    by_cases hlt : k < m
    · obtain ⟨b, o, rfl, hg, hcs⟩ := (HR.out.below hb (Nat.le_refl _)) (by have := hm.out; omega)
      obtain ⟨s, hs⟩ : ∃ s, fs[k]? = some s := ⟨_, List.getElem?_eq_getElem (by have := hm.out; omega)⟩
      obtain ⟨c0, c1⟩ := hcs k s hs
      have hni := fldIs_at (n := n) hs
      have HCS := Lib.hid hcs
      have HS := Lib.hid hs
      clear hcs hs
      obtain ⟨sn, sf⟩ := s
      simp only at c0 c1 hni
      cases he : eqB sn n with
      | true =>
        have hq : r = some k := HK.out.symm.trans (fst_hit hlt (hni.trans he))
        subst hq
        obtain rfl := eqB_iff.1 he
        clear hni he
        go_wp2_with fail
        go_ret2
        exact ⟨rfl, hb.alloc hb.size _⟩
      | false =>
        have hq : fst (fldIs fs n) m (k + 1) = r := (fst_next hlt (hni.trans he)).symm.trans HK.out
        have HQ := Lib.hid hq
        have hsp := eqB_spell he
        clear hq hni he
        go_wp2_with fail
        go_roundw
        case rel => exact ⟨k + 1, by omega, by go_num, HQ, hb.alloc hb.size _⟩
        case measure => simp [intOf]; omega
    · have hq : r = none := HK.out.symm.trans (fst_end (by omega))
      subst hq
      go_wp2_with fail
      go_ret2
      exact ⟨rfl, hb⟩

def foundI : Option Nat → Value
  | some i => .int .i64 i
  | none => .int .i64 (-1)

set_option maxRecDepth 100000 in
set_option maxHeartbeats 400000 in
theorem refFind_any (A : Option Addr) (c m : Nat) (ss : List Str) (n : ByteArray) (r : Option Nat) (w : World) (hR : SR w A ss) (hm : Hid (ss.length = m)) (hl : m ≤ 281474976710656) (hr : Hid (fnd ss n = r)) :
    Calls Tryz.prog 112 #[.slice A m c, .string n] w fun e w' => e = .returned (foundI r) ∧ w = w' := by
  have HR := Lib.hid hR
  clear hR
  have HF : Hid (fst (nameIs ss n) m 0 = r) := by
    show _ = _
    rw [← hr.out, fnd, hm.out]
  go_enter Tryz.func112, Tryz.ntmps112
  go_wp2_with fail
  go_loop [5] (fun i => ∃ k : Nat, k ≤ m ∧ i = .int .i64 k ∧ Hid (fst (nameIs ss n) m k = r)) (fun i => m - (intOf i).toNat)
  case atStart => exact ⟨0, Nat.zero_le _, rfl, HF⟩
  case round =>
    obtain ⟨k, hk, rfl, HK⟩ := hrel
    by_cases hlt : k < m
    · obtain ⟨b, o, rfl, hg, hcs⟩ := HR.out (by have := hm.out; omega)
      obtain ⟨s, hs⟩ : ∃ s, ss[k]? = some s := ⟨_, List.getElem?_eq_getElem (by have := hm.out; omega)⟩
      obtain ⟨FA, fc, c0, c1, -⟩ := hcs k s hs
      have hni := nameIs_at (n := n) hs
      have HCS := Lib.hid hcs
      have HS := Lib.hid hs
      clear hcs hs
      obtain ⟨sn, sf⟩ := s
      simp only at c0 c1 hni
      cases he : eqB sn n with
      | true =>
        have hq : r = some k := HK.out.symm.trans (fst_hit hlt (hni.trans he))
        subst hq
        obtain rfl := eqB_iff.1 he
        clear hni he
        go_wp2_with fail
        go_ret
        exact ⟨rfl, rfl⟩
      | false =>
        have hq : fst (nameIs ss n) m (k + 1) = r := (fst_next hlt (hni.trans he)).symm.trans HK.out
        have HQ := Lib.hid hq
        have hsp := eqB_spell he
        clear hq hni he
        go_wp2_with fail
        go_round
        case rel => exact ⟨k + 1, by omega, by go_num, HQ⟩
        case measure => simp [intOf]; omega
    · have hq : r = none := HK.out.symm.trans (fst_end (by omega))
      subst hq
      go_wp2_with fail
      go_ret
      exact ⟨rfl, rfl⟩

end Go.Proofs.YtkahbhfbgdbnfaaGreatDoor

/-
  CONTRACTS: Is of package kind; the struct that a type leads to.
-/
namespace Go.Proofs.YtkahbhfbgdbnfaaGreatDoor
open Go.RowKit

theorem keysIn_below {w w' : World} (h : KeysIn w) (hb : Below w.heap.size w w') : KeysIn w' := by
  obtain ⟨t, fr, hg⟩ := h
  exact ⟨t, fr, (hb.block 0 (Array.getElem?_eq_some_iff.1 hg).1).trans hg⟩

set_option maxRecDepth 100000 in
set_option maxHeartbeats 400000 in
theorem is_any (A : Option Addr) (c m : Nat) (ss : List Str) (t : ByteArray) (b : Bool) (w : World) (hR : Hid (SR w A ss)) (hm : Hid (ss.length = m)) (hl : m ≤ 281474976710656) (hr : Hid (isT ss t = b)) :
    Calls Tryz.prog 118 #[.slice A m c, .string t] w fun e w' => e = .returned (.bool b) ∧ Below w.heap.size w w' := by
  cases h1 : eqB t tInt with
  | true =>
    obtain rfl : b = true := hr.out.symm.trans (by unfold isT; rw [h1]; rfl)
    have s1 : (t.toList == [105, 110, 116]) = true := by rw [ByteArray.toList_eq]; exact h1
    clear h1 hr
    go_enter Tryz.func118, Tryz.ntmps118
    go_wp2_with fail
    go_ret
    exact ⟨rfl, Below.refl _ _⟩
  | false =>
    have s1 : (t.toList == [105, 110, 116]) = false := by rw [ByteArray.toList_eq]; exact h1
    cases h2 : eqB t tBool with
    | true =>
      obtain rfl : b = true := hr.out.symm.trans (by unfold isT; rw [h2]; simp)
      have s2 : (t.toList == [98, 111, 111, 108]) = true := by rw [ByteArray.toList_eq]; exact h2
      clear h1 hr h2
      go_enter Tryz.func118, Tryz.ntmps118
      go_wp2_with fail
      go_ret
      exact ⟨rfl, Below.refl _ _⟩
    | false =>
      have s2 : (t.toList == [98, 111, 111, 108]) = false := by rw [ByteArray.toList_eq]; exact h2
      cases h3 : starB t with
      | false =>
        obtain rfl : b = false := hr.out.symm.trans (by unfold isT; rw [h1, h2, h3]; rfl)
        have H3 := Lib.hid h3
        clear h1 hr h2 h3
        go_enter Tryz.func118, Tryz.ntmps118
        go_wp2_with (go_at_call 159; refine (cut_no _ _ H3).mono ?_; rintro e w' ⟨rfl, rfl⟩)
        go_ret
        exact ⟨rfl, Below.refl _ _⟩
      | true =>
        have H3 := Lib.hid h3
        have hb : b = (fnd ss (tailOf t)).isSome := hr.out.symm.trans (by unfold isT; rw [h1, h2, h3]; rfl)
        cases h4 : fnd ss (tailOf t) with
        | none =>
          obtain rfl : b = false := by rw [hb, h4]; rfl
          have H4 := Lib.hid h4
          clear h1 hr h2 h3 hb h4
          go_enter Tryz.func118, Tryz.ntmps118
          go_wp2_with (first | (go_at_call 159; refine (cut_yes _ _ H3).mono ?_; rintro e w' ⟨rfl, rfl⟩) | (go_at_call 52; refine (find_any _ _ m ss _ none _ hR.out hm hl H4).mono ?_; rintro e w1 ⟨rfl, b1⟩; unfold foundV))
          go_ret
          exact ⟨rfl, b1⟩
        | some i =>
          obtain rfl : b = true := by rw [hb, h4]; rfl
          have H4 := Lib.hid h4
          clear h1 hr h2 h3 hb h4
          go_enter Tryz.func118, Tryz.ntmps118
          go_wp2_with (first | (go_at_call 159; refine (cut_yes _ _ H3).mono ?_; rintro e w' ⟨rfl, rfl⟩) | (go_at_call 52; refine (find_any _ _ m ss _ (some i) _ hR.out hm hl H4).mono ?_; rintro e w1 ⟨rfl, b1⟩; unfold foundV))
          go_ret
          exact ⟨rfl, b1⟩


end Go.Proofs.YtkahbhfbgdbnfaaGreatDoor

/-
  WORDS FOR MEMORY, of package check: rows of signatures, what a program declares, the scope of a function's block; what keeps them. No condition.
-/
namespace Go.Proofs.YtkahbhfbgdbnfaaGreatDoor
open Go.RowKit

def SgAt (w : World) (b o i : Nat) (s : Sg) : Prop := ∃ A c, w.cell? ⟨b, o + i * 3, none⟩ = some (.string s.name) ∧ w.cell? ⟨b, o + i * 3 + 1, none⟩ = some (.slice A s.params.length c) ∧ w.cell? ⟨b, o + i * 3 + 2, none⟩ = some (.string s.res) ∧ s.params.length ≤ c ∧ s.params.length ≤ 100000 ∧ FR w A s.params
/-- A slice reads as those signatures. -/
def GR (w : World) (A : Option Addr) (fs : List Sg) : Prop := 0 < fs.length → ∃ b o, A = some ⟨b, o, none⟩ ∧ b < w.heap.size ∧ ∀ i s, fs[i]? = some s → SgAt w b o i s
theorem SgAt.below {w w' : World} {B b o i : Nat} {s : Sg} (h : SgAt w b o i s) (hg : b < w.heap.size) (hb : Below B w w') (hB : w.heap.size ≤ B) : SgAt w' b o i s := by
  obtain ⟨A, c, h0, h1, h2, h3, h4, h5⟩ := h
  exact ⟨A, c, (hb.cell (p := ⟨b, _, none⟩) (Nat.lt_of_lt_of_le hg hB)).trans h0, (hb.cell (p := ⟨b, _, none⟩) (Nat.lt_of_lt_of_le hg hB)).trans h1, (hb.cell (p := ⟨b, _, none⟩) (Nat.lt_of_lt_of_le hg hB)).trans h2, h3, h4, h5.below hb hB⟩
theorem GR.below {w w' : World} {B : Nat} {A : Option Addr} {fs : List Sg} (h : GR w A fs) (hb : Below B w w') (hB : w.heap.size ≤ B) : GR w' A fs := fun hn => by
  obtain ⟨b, o, h0, hg, h1⟩ := h hn
  exact ⟨b, o, h0, Nat.lt_of_lt_of_le hg hb.size, fun i s hs => (h1 i s hs).below hg hb hB⟩

/-- What stays while a block is asked: the world that was there, the places, what is declared and where it lies, the function's result, the scope's block. -/
structure CE where
  w0 : World
  pl : Nat → Nat
  x : Inf
  res : ByteArray
  sA : Option Addr
  gA : Option Addr
  fA : Option Addr
  sc : Nat
  gc : Nat
  fc : Nat
  sb : Nat
def CE.sV (E : CE) : Value := .slice E.sA E.x.structs.length E.sc
def CE.gV (E : CE) : Value := .slice E.gA E.x.globals.length E.gc
def CE.fV (E : CE) : Value := .slice E.fA E.x.funs.length E.fc
def infV (E : CE) : Value := .agg #[.slice E.sA E.x.structs.length E.sc, .slice E.gA E.x.globals.length E.gc, .slice E.fA E.x.funs.length E.fc]
/-- What is declared lies in a world as E says. -/
structure IM (E : CE) (w : World) : Prop where
  good : Good w
  S : SR w E.sA E.x.structs
  G : FR w E.gA E.x.globals
  F : GR w E.fA E.x.funs
  sl : E.x.structs.length ≤ 100000
  gl : E.x.globals.length ≤ 100000
  fl : E.x.funs.length ≤ 100000
  sle : E.x.structs.length ≤ E.sc
  gle : E.x.globals.length ≤ E.gc
  fle : E.x.funs.length ≤ E.fc
theorem IM.below {E : CE} {w w' : World} (h : IM E w) (hb : Below w.heap.size w w') : IM E w' :=
  { h with good := h.good.below hb, S := h.S.below hb (Nat.le_refl _), G := h.G.below hb (Nat.le_refl _), F := h.F.below hb (Nat.le_refl _) }

def cellsF : List Fld → List Value
  | [] => []
  | f :: r => .string f.name :: .string f.typ :: cellsF r
theorem cellsF_len : ∀ K : List Fld, (cellsF K).length = K.length * 2
  | [] => rfl
  | f :: r => by simp only [cellsF, List.length_cons, cellsF_len r]; omega
theorem cellsF_app : ∀ (K L : List Fld), cellsF (K ++ L) = cellsF K ++ cellsF L
  | [], L => rfl
  | f :: r, L => by simp only [List.cons_append, cellsF, cellsF_app r L]
theorem cellsF_at : ∀ (K : List Fld) (k : Nat) (f : Fld), K[k]? = some f → (cellsF K)[k * 2]? = some (.string f.name) ∧ (cellsF K)[k * 2 + 1]? = some (.string f.typ)
  | [], k, f, h => by simp at h
  | g :: r, 0, f, h => by obtain rfl := Option.some.inj h; exact ⟨rfl, rfl⟩
  | g :: r, k + 1, f, h => by
    have := cellsF_at r k f h
    rw [show (k + 1) * 2 = k * 2 + 1 + 1 by omega]
    simp only [cellsF, List.getElem?_cons_succ]
    exact this

/-- The scope as it stands: the variables, where this block's begin. -/
structure SC (E : CE) (w : World) (v : Value) (K : List Fld) (f : Nat) : Prop where
  B : Below E.w0.heap.size E.w0 w
  sb0 : E.w0.heap.size ≤ E.sb
  lt : E.sb < w.heap.size
  c0 : w.cell? ⟨E.sb, 0, none⟩ = some (.slice E.sA E.x.structs.length E.sc)
  c1 : w.cell? ⟨E.sb, 1, none⟩ = some (.slice E.gA E.x.globals.length E.gc)
  c2 : w.cell? ⟨E.sb, 2, none⟩ = some (.slice E.fA E.x.funs.length E.fc)
  c3 : w.cell? ⟨E.sb, 3, none⟩ = some (.string E.res)
  c4 : w.cell? ⟨E.sb, 4, none⟩ = some v
  c5 : w.cell? ⟨E.sb, 5, none⟩ = some (.int .i64 f)
  fr : ∀ k, w.frozen? ⟨E.sb, k, none⟩ = false
  own : w.ownsRow E.w0.heap.size 97 2 v K.length (cellsF K)
  ne : v.ownBlock ≠ some E.sb
  im : IM E E.w0
  kl : K.length ≤ 100000
  fle : f ≤ K.length
theorem own_below2 {w w' : World} {base size n : Nat} {e : TypeId} {v : Value} {xs : List Value} (h : w.ownsRow base e size v n xs) (hb : Below w.heap.size w w') : w'.ownsRow base e size v n xs :=
  h.kept (row := none) ⟨hb.os, hb.tape, hb.output, hb.size, fun k hk _ => hb.block k hk⟩ (by cases v.ownBlock with | none => exact .inl rfl | some g => exact .inr (by simp))
theorem SC.below {E : CE} {w w' : World} {v : Value} {K : List Fld} {f : Nat} (h : SC E w v K f) (hb : Below w.heap.size w w') : SC E w' v K f :=
  have c : ∀ k, w'.cell? ⟨E.sb, k, none⟩ = w.cell? ⟨E.sb, k, none⟩ := fun k => hb.cell (p := ⟨E.sb, k, none⟩) h.lt
  { h with B := h.B.trans (hb.mono h.B.size), lt := Nat.lt_of_lt_of_le h.lt hb.size, c0 := (c 0).trans h.c0, c1 := (c 1).trans h.c1, c2 := (c 2).trans h.c2, c3 := (c 3).trans h.c3, c4 := (c 4).trans h.c4, c5 := (c 5).trans h.c5, fr := fun k => (hb.frozen (p := ⟨E.sb, k, none⟩) h.lt).trans (h.fr k), own := own_below2 h.own hb }
theorem SC.imw {E : CE} {w : World} {v : Value} {K : List Fld} {f : Nat} (h : SC E w v K f) : IM E w := h.im.below h.B
abbrev Nd (E : CE) (b : Nat) (t : Tree) : Prop := NodeAt (fun _ => True) E.pl E.w0 b t
theorem SC.node {E : CE} {w : World} {v : Value} {K : List Fld} {f b : Nat} {t : Tree} (h : SC E w v K f) (n : Nd E b t) : NodeAt (fun _ => True) E.pl w b t := n.bl h.B
/-- The variables, out of their slice. -/
theorem fr_own {w : World} {base : Nat} {v : Value} {K : List Fld} (h : w.ownsRow base 97 2 v K.length (cellsF K)) : ∃ A c, v = .slice A K.length c ∧ K.length ≤ c ∧ FR w A K := by
  rcases h.2 with ⟨rfl, h0⟩ | ⟨g, cap, cur, rfl, hb, hg, hn, hc, hs, ht⟩
  · rw [h0]; exact ⟨none, 0, rfl, Nat.le_refl _, fun h => by omega⟩
  · refine ⟨_, cap, rfl, hn, fun hp => ⟨g, 0, rfl, ?_, fun k f hf => ?_⟩⟩
    · rcases Nat.lt_or_ge g w.heap.size with h1 | h1
      · exact h1
      · rw [Array.getElem?_eq_none h1] at hg; cases hg
    · have hk := (List.getElem?_eq_some_iff.1 hf).1
      have hc := cellsF_at K k f hf
      refine ⟨?_, ?_⟩
      · rw [Nat.zero_add]; exact (h.cellAt (k * 2) (by omega)).trans hc.1
      · rw [Nat.zero_add]; exact (h.cellAt (k * 2 + 1) (by omega)).trans hc.2
theorem FR.drop {w : World} {g o : Nat} {K : List Fld} (h : FR w (some ⟨g, o, none⟩) K) (f : Nat) : FR w (some ⟨g, o + f * 2, none⟩) (K.drop f) := fun hn => by
  have hl : f < K.length := by rw [List.length_drop] at hn; omega
  obtain ⟨b, o', he, hb, h1⟩ := h (by omega)
  cases he
  refine ⟨g, _, rfl, hb, fun k s hs => ?_⟩
  rw [List.getElem?_drop] at hs
  have := h1 _ s hs
  unfold FldAt at this ⊢
  rw [show o + f * 2 + k * 2 = o + (f + k) * 2 by omega]
  exact this
/-- A prefix of a row of one's own is one's own. -/
theorem own_take {w : World} {base : Nat} {K : List Fld} {L : List Fld} {A : Option Addr} {c : Nat} (h : w.ownsRow base 97 2 (.slice A (K ++ L).length c) (K ++ L).length (cellsF (K ++ L))) (hA : A.isSome) : w.ownsRow base 97 2 (.slice A K.length c) K.length (cellsF K) := by
  rcases h.2 with ⟨h0, h1⟩ | ⟨g, cap, cur, hv, hb, hg, hn, hc, hs, ht⟩
  · simp only [Value.slice.injEq] at h0; rw [h0.1] at hA; cases hA
  · simp only [Value.slice.injEq] at hv
    obtain ⟨rfl, -, rfl⟩ := hv
    refine ⟨cellsF_len K, .inr ⟨g, c, cur, rfl, hb, hg, by rw [List.length_append] at hn; omega, hc, hs, ?_⟩⟩
    have e := congrArg (List.take (K.length * 2)) ht
    rw [List.take_take, Nat.min_eq_left (by rw [List.length_append]; omega), cellsF_app] at e
    rw [e, ← cellsF_len K, List.take_left']
    rfl

/-- A fault that is thrown. -/
def cfE (p : Nat) (e : Int) : Ending := .panicked [{ v := .iface 133 (.agg #[.int .i64 p, .int .i64 e]), recovered := false }]
/-- What an expression's method answers. -/
def XQ (E : CE) (w : World) (r : CR ByteArray) (e : Ending) (w' : World) : Prop := Below w.heap.size w w' ∧ (match r with
  | .ok a => e = .returned (.string a)
  | .bad p er => e = cfE (E.pl p) er)

set_option maxRecDepth 100000 in
set_option maxHeartbeats 400000 in
theorem cneed_ok (w : World) (x : Option Addr) (er : Int) :
    Calls Tryz.prog 148 #[.agg #[.pointer x], .bool true, .int .i64 er] w fun e w' => e = .returned (.tuple #[]) ∧ Below w.heap.size w w' := by
  go_enter Tryz.func148, Tryz.ntmps148
  go_wp2_with fail
  first | refine bodyPost_end (v := .tuple #[]) (by simp [results, Tryz.results148, go_sem]) rfl ?_ | refine bodyPost_ret (v := .tuple #[]) (by simp [results, Tryz.results148, go_sem]) rfl ?_
  exact ⟨rfl, b1 _ _⟩
set_option maxRecDepth 100000 in
set_option maxHeartbeats 400000 in
theorem cneed_bad {pl : Nat → Nat} {ok : Nat → Prop} (w : World) (b : Nat) (t : Tree) (er : Int) (hn : NodeAt ok pl w b t) :
    Calls Tryz.prog 148 #[.agg #[.pointer (some ⟨b, 0, none⟩)], .bool false, .int .i64 er] w fun e w' => e = cfE (pl t.pos) er ∧ Below w.heap.size w w' := by
  have N := Lib.hid (hn.bl (b1 w (.cells #[.pointer (some ⟨b, 0, none⟩)] 25)))
  clear hn
  go_enter Tryz.func148, Tryz.ntmps148
  go_wp2_with fail
  obtain ⟨Ao, co, hro⟩ := N.out.rowOf
  refine (at_of _ _ _ _ _ _ _ _ _ _ hro).mono ?_
  rintro e w1 ⟨rfl, hb⟩
  clear hro
  go_wp2_with fail
  exact ⟨rfl, rfl, b1t hb⟩

end Go.Proofs.YtkahbhfbgdbnfaaGreatDoor
