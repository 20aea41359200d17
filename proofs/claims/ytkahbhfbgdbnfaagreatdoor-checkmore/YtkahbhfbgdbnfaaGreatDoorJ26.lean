/-
  PLAIN: a right source with one of three short functions behind it. Nothing of the program stands here. No condition.
-/
import Derived.Test.YtkahbhfbgdbnfaaGreatDoorJ24
import Derived.Test.YtkahbhfbgdbnfaaGreatDoorJ25
import Derived.Test.YtkahbhfbgdbnfaaGreatDoorCards
import Derived.Test.YtkahbhfbgdbnfaaGreatDoorTie
import Derived.Test.YtkahbhfbgdbnfaaGreatDoorJ10
import Derived.WalkKit
import Derived.ProofKit
import Derived.OpenShut
import Derived.LaidMore
import Derived.Deep.DeepHandedRow
import Derived.Deep.DeepWitnessRowRef
import Derived.Lib.LaidTab
import Derived.Stop.LaidErr
namespace Go.Proofs.YtkahbhfbgdbnfaaGreatDoor
open Go.RowKit

def zz9 : ByteArray := ⟨#[122, 122, 57]⟩
theorem types1 (ss : List Str) (q : List UInt8) (N : Nat) : typesC ss (dx1 q N) = .ok () := by
  have h : firC (dx1 q N).kids (partE ss (dx1 q N)) 1 = .ok () := firC_all fun j hj => by
    obtain rfl : j = 0 := by omega
    rfl
  show (firC (dx1 q N).kids (partE ss (dx1 q N)) 1).bind (fun _ => _) = _
  rw [h]; rfl
theorem types2 (ss : List Str) (q : List UInt8) (N : Nat) : typesC ss (dx2 q N) = .ok () := rfl
theorem types3 (ss : List Str) (q : List UInt8) (N : Nat) : typesC ss (dx3 q N) = .ok () := rfl
theorem body1 (x : Inf) (q : List UInt8) (N : Nat) : bodyC x (dx1 q N) = .ok () := rfl
theorem body2 {x : Inf} {q : List UInt8} (N : Nat) (hd : declB x ⟨q.toArray⟩ = true) (hg : plc x.globals ⟨q.toArray⟩ = none) : bodyC x (dx2 q N) = .bad (N + 5) 7 := by
  show ((stmtC x tNone (.mk 8 q [] 0 (N + 5) [.mk 15 [] [] 1 (N + 7) []]) [] 0).bind fun K' => stmtsC x tNone [] K' 0).bind (fun _ => _) = _
  rw [stmtC_eq]
  show ((((varC x [] (N + 5) ⟨q.toArray⟩).bind fun v => _).bind fun K' => stmtsC x tNone [] K' 0).bind (fun _ => _) : CR Unit) = _
  have : varC x [] (N + 5) ⟨q.toArray⟩ = .bad (N + 5) 7 := by
    unfold varC
    rw [hd, hg]
    rfl
  rw [this]
  rfl
theorem body3 {x : Inf} (q : List UInt8) (N : Nat) (hg : plc x.globals zz9 = none) : ∃ p e, bodyC x (dx3 q N) = .bad p e := by
  show ∃ p e, ((stmtC x tNone (.mk 12 [] [] 0 (N + 5) [.mk 18 [122, 122, 57] [] 0 (N + 7) []]) [] 0).bind fun K' => stmtsC x tNone [] K' 0).bind (fun _ => _) = _
  rw [stmtC_eq]
  show ∃ p e, ((((varC x [] (N + 7) zz9).bind fun v => _).bind fun K' => stmtsC x tNone [] K' 0).bind (fun _ => _) : CR Unit) = _
  have : ∃ p e, varC x [] (N + 7) zz9 = .bad p e := by
    unfold varC
    rw [hg]
    cases declB x zz9
    · exact ⟨_, _, rfl⟩
    · exact ⟨_, _, rfl⟩
  obtain ⟨p, e, h⟩ := this
  rw [h]
  exact ⟨p, e, rfl⟩
theorem src_ok {a : List UInt8} {ts : List Tok} {ks : List Tree} {x : Inf} (h : sourceR a = .ok ts ks x) : parseR a = .ok ts ks ∧ checkC (root ts ks) = .ok x := by
  unfold sourceR srcOf at h
  cases hp : parseR a with
  | bad p e => rw [hp] at h; cases h
  | ok ts' ks' =>
    rw [hp] at h
    dsimp only at h
    cases hc : checkC (root ts' ks') with
    | bad j e => rw [hc] at h; cases h
    | ok y => rw [hc] at h; cases h; exact ⟨rfl, hc⟩
theorem funO_last {x : Inf} {g : Sg} {n : ByteArray} (hn : eqB g.name n = true) : (funO (addF x g) n).isSome = true := by
  cases h : funO (addF x g) n with
  | some i => rfl
  | none =>
    have := fst_none h x.funs.length (Nat.zero_le _) (by simp [addF])
    unfold sgIs at this
    simp only [addF, List.getElem?_concat_length] at this
    rw [hn] at this; cases this
theorem eqB_self (a : ByteArray) : eqB a a = true := eqB_iff.2 rfl
section
variable {a q : List UInt8} {ts : List Tok} {ks : List Tree} {x : Inf}
theorem src_more1 (h : sourceR a = .ok ts ks x) (hl : a.length ≤ 2048) (hq : qOk q) (hh : hasB x ⟨q.toArray⟩ = false) (hf : x.funs.length < 24) : ∃ ts' ks' ps r, sourceR (a ++ 10 :: sx1 q) = .ok ts' ks' (addF x ⟨⟨q.toArray⟩, ps, r⟩) := by
  obtain ⟨hp, hc⟩ := src_ok h
  obtain ⟨-, hA, -⟩ := parsed hp
  have hm := more1 hp hl hq
  obtain ⟨-, -, hk⟩ := check_more (tc := ts ++ (tx1 q).map (moved (a.length + 1))) (d := dx1 q ts.length) hc (fun d hd => (hA d hd).2) rfl hh hf (types1 _ _ _)
  rw [body1] at hk
  refine ⟨ts ++ (tx1 q).map (moved (a.length + 1)), ks ++ [dx1 q ts.length], partsL (dx1 q ts.length), tp (dx1 q ts.length), ?_⟩
  unfold sourceR srcOf
  rw [hm]
  dsimp only
  rw [hk]
  rfl
theorem src_more2 (h : sourceR a = .ok ts ks x) (hl : a.length ≤ 2048) (hq : qOk q) (hh : hasB x ⟨q.toArray⟩ = false) (hf : x.funs.length < 24) : ∃ p, sourceR (a ++ 10 :: sx2 q) = .bad p 7 ∧ a.length < p := by
  obtain ⟨hp, hc⟩ := src_ok h
  obtain ⟨-, hA, -⟩ := parsed hp
  have hm := more2 hp hl hq
  obtain ⟨-, -, hk⟩ := check_more (tc := ts ++ (tx2 q).map (moved (a.length + 1))) (d := dx2 q ts.length) hc (fun d hd => (hA d hd).2) rfl hh hf (types2 _ _ _)
  have hg : plc x.globals ⟨q.toArray⟩ = none := by
    unfold hasB at hh
    simp only [Bool.or_eq_false_iff, Option.isSome_eq_false_iff, Option.isNone_iff_eq_none] at hh
    exact hh.2.1
  rw [body2 (x := addF x ⟨nm (dx2 q ts.length), partsL (dx2 q ts.length), tp (dx2 q ts.length)⟩) ts.length (by unfold declB; rw [funO_last (n := ⟨q.toArray⟩) (eqB_self _)]; simp) hg] at hk
  refine ⟨plf (ts ++ (tx2 q).map (moved (a.length + 1))) (a ++ 10 :: sx2 q).length (ts.length + 5), ?_, more2_at _⟩
  unfold sourceR srcOf
  rw [hm]
  dsimp only
  rw [hk]
  rfl
theorem src_more3 (h : sourceR a = .ok ts ks x) (hl : a.length ≤ 2048) (hq : qOk q) (hh : hasB x ⟨q.toArray⟩ = false) (hf : x.funs.length < 24) (hg : plc x.globals zz9 = none) : errS (sourceR (a ++ 10 :: sx3 q)) ≠ 0 := by
  obtain ⟨hp, hc⟩ := src_ok h
  obtain ⟨-, hA, -⟩ := parsed hp
  have hm := more3 hp hl hq
  obtain ⟨-, -, hk⟩ := check_more (tc := ts ++ (tx3 q).map (moved (a.length + 1))) (d := dx3 q ts.length) hc (fun d hd => (hA d hd).2) rfl hh hf (types3 _ _ _)
  obtain ⟨p, e, hb⟩ := body3 (x := addF x ⟨nm (dx3 q ts.length), partsL (dx3 q ts.length), tp (dx3 q ts.length)⟩) q ts.length hg
  rw [hb] at hk
  have he := chk_ne (hk.trans rfl)
  unfold sourceR srcOf
  rw [hm]
  dsimp only
  rw [hk]
  exact he
end

end Go.Proofs.YtkahbhfbgdbnfaaGreatDoor

/-
  FROM A ROW's LIST OF VARIABLES TO THE CONTRACTS' CONDITION: what the listed package-level variables hold ('Good', 'PowIn'); the witness' world.
-/
namespace Go.Proofs.YtkahbhfbgdbnfaaGreatDoor
open Go.ChangeShapes Go.WideShapes Go.ChangeAt Go.RowKit

theorem own : ownKnob Tryz.prog.godebug = none := by kernel_rfl
theorem gKeys : Tryz.prog.globalNamed "truant/lex.keys" = some 0 := by kernel_rfl
theorem gLongs : Tryz.prog.globalNamed "truant/lex.longSigns" = some 1 := by kernel_rfl
theorem gSigns : Tryz.prog.globalNamed "truant/num.signs" = some 2 := by kernel_rfl
theorem tKeys : (Tryz.prog.globals[0]?).map (·.type) = some 150 := by kernel_rfl
theorem tLongs : (Tryz.prog.globals[1]?).map (·.type) = some 183 := by kernel_rfl
theorem tSigns : (Tryz.prog.globals[2]?).map (·.type) = some 121 := by kernel_rfl
theorem tRange : (Tryz.prog.globals[5]?).map (·.type) = some 129 := by kernel_rfl
theorem tPow : (Tryz.prog.globals[6]?).map (·.type) = some 213 := by kernel_rfl
theorem cells9 : Tryz.prog.cellsOf 9 = 1 := by kernel_rfl
theorem cells121 : Tryz.prog.cellsOf 121 = 19 := by kernel_rfl
theorem cells150 : Tryz.prog.cellsOf 150 = 16 := by kernel_rfl
theorem cells151 : Tryz.prog.cellsOf 151 = 1 := by kernel_rfl
theorem cells183 : Tryz.prog.cellsOf 183 = 9 := by kernel_rfl
theorem cells220 : Tryz.prog.cellsOf 220 = 1 := by kernel_rfl
theorem cells213 : Tryz.prog.cellsOf 213 = 20 := by kernel_rfl
theorem row218 (u : TypeId) (h : Tryz.prog.typeName? 3 u = some "*errors.errorString") : u = 218 :=
  typeName_ptr_named (nm := "errors.errorString") (by kernel_rfl) (by kernel_rfl) (by decide) u h

/-- An array of strings that is listed holds just these strings. -/
theorem tabs_of_laid {P : Program} {W : World} {name : String} {ls : List (List UInt8)} {rest : List (String × DataW Unit)} {g n : Nat} {t e : TypeId}
    (hg : P.globalNamed name = some g) (hty : (P.globals[g]?).map (·.type) = some t) (ht : P.underlying t = some (.array n e)) (he : P.underlying e = some .string) (hce : P.cellsOf e = 1) (hct : P.cellsOf t = n)
    (h : laidMet P ((name, .agg (ls.map fun l => .lit (.string l))) :: rest) W) : ∃ t fr, W.heap[g]? = some (.cells (tabOf ls) t fr) := by
  obtain ⟨ps, ⟨g0, t0, cs0, f0, p0, q0, hg0, ht0, hv0, hd0, _, _⟩, _, _⟩ := h
  obtain rfl := Option.some.inj (hg.symm.trans hg0)
  obtain rfl := Option.some.inj (hty.symm.trans ht0)
  obtain ⟨xs, m1, rfl, hx1, hlen, hn, hel⟩ := DataW.trod_array ht hd0
  simp only [Prod.mk.injEq, DataW.agg.injEq] at hx1
  have hll : ls.length = n := by have := congrArg List.length hx1.1; simpa [hn] using this
  have hcs : cs0 = tabOf ls := by
    obtain ⟨l0⟩ := cs0
    unfold tabOf
    congr 1
    apply List.ext_getElem?
    intro i
    by_cases hi : i < n
    · have hxi : i < xs.length := by omega
      have h0 := hel i hi
      rw [List.getElem?_eq_getElem hxi, hce] at h0
      obtain ⟨s, e1, e2, _⟩ := DataW.trod_string he h0
      have hl := congrArg (fun l => l[i]?) hx1.1
      simp only [List.getElem?_map, List.getElem?_eq_getElem hxi, Option.map_some] at hl
      rw [e2] at hl
      obtain ⟨l, hl1, hl2⟩ := Option.map_eq_some_iff.1 hl
      have hl3 : l = s.data.toList := by simpa using hl2
      have hs : (⟨l.toArray⟩ : ByteArray) = s := bytes_inj (by rw [hl3])
      rw [List.getElem?_map, hl1, Option.map_some, hs]
      have e3 := congrArg (fun l => l[0]?) e1
      simpa using e3
    · rw [List.getElem?_eq_none (by rw [hct] at hlen; simp at hlen; omega), List.getElem?_eq_none (by simp; omega)]
  subst hcs
  simp only [World.var?, hg, Option.bind_some] at hv0
  split at hv0
  · rename_i cs t' fr hh
    have := Option.some.inj hv0
    subst this
    exact ⟨_, _, hh⟩
  · cases hv0

/-- An array of strings that is listed holds just these strings. -/
theorem strs_of_laid {P : Program} {W : World} {name : String} {ls : List (List UInt8)} {rest : List (String × DataW Unit)} {g n : Nat} {t e : TypeId}
    (hg : P.globalNamed name = some g) (hty : (P.globals[g]?).map (·.type) = some t) (ht : P.underlying t = some (.array n e)) (he : P.underlying e = some .string) (hce : P.cellsOf e = 1)
    (h : laidMet P ((name, .agg (ls.map fun l => .lit (.string l))) :: rest) W) (i : Nat) (hi : i < n) : W.cell? ⟨g, i, none⟩ = some (.string ⟨(ls.getD i []).toArray⟩) := by
  obtain ⟨ps, ⟨g0, t0, cs0, f0, p0, q0, hg0, ht0, hv0, hd0, _, _⟩, _, _⟩ := h
  obtain rfl := Option.some.inj (hg.symm.trans hg0)
  obtain rfl := Option.some.inj (hty.symm.trans ht0)
  obtain ⟨xs, m1, rfl, hx1, hlen, hn, hel⟩ := DataW.trod_array ht hd0
  simp only [Prod.mk.injEq, DataW.agg.injEq] at hx1
  have hxi : i < xs.length := by omega
  have h0 := hel i hi
  rw [List.getElem?_eq_getElem hxi, hce] at h0
  obtain ⟨s, e1, e2, _⟩ := DataW.trod_string he h0
  have hl := congrArg (fun l => l[i]?) hx1.1
  simp only [List.getElem?_map, List.getElem?_eq_getElem hxi, Option.map_some] at hl
  rw [e2] at hl
  obtain ⟨l, hl1, hl2⟩ := Option.map_eq_some_iff.1 hl
  have hl3 : l = s.data.toList := by simpa using hl2
  have hs : s = ⟨(ls.getD i []).toArray⟩ := bytes_inj (by rw [List.getD_eq_getElem?_getD, hl1, hl3]; simp)
  have hv := World.var?_cell hg0 hv0 i
  rw [hv, ← hs]
  have e3 := congrArg (fun l => l[0]?) e1
  simpa using e3

/-- WHAT THE ROWS' LIST GIVES. -/
theorem good_of {W : World} (h0 : laidMetH Tryz.prog Rows.parseExactRow.laid W) : Good W ∧ PowIn W := by
  have h : laidMet Tryz.prog Rows.parseExactRow.laid W := by rwa [MakeChecks.laidMetH_plain _ _ _ (by kernel_rfl)] at h0
  have hp : Lib.TabIs Tryz.prog W "internal/strconv.uint64pow10" .u64 Lib.pow10Tab := Lib.tabIs_of_head gPow6 tPow Tryz.underlying213 Tryz.underlying151 cells151 cells213 h.tail.tail
  obtain ⟨a0, s0, hv0, -, -, -⟩ := laid_sentinel h.tail.tail.tail gRange tRange Tryz.underlying129 row218 Tryz.underlying218 Tryz.underlying220 rfl rfl Tryz.underlying9 cells220 cells9
  have hs : SignsIn W := strs_of_laid (ls := signTab) gSigns tSigns Tryz.underlying121 Tryz.underlying9 cells9 h.tail.tail.tail.tail.tail
  have hl : LongsIn W := tabs_of_laid (ls := longTab) gLongs tLongs Tryz.underlying183 Tryz.underlying9 cells9 cells183 h.tail.tail.tail.tail.tail.tail
  have hk : KeysIn W := tabs_of_laid (ls := keyTab) gKeys tKeys Tryz.underlying150 Tryz.underlying9 cells9 cells150 h.tail.tail.tail.tail.tail.tail.tail
  obtain ⟨ps, ⟨g1, t1, cs1, f1, p1, q1, hg1, ht1, hv1, hd1, hrest⟩, _, _⟩ := h.tail
  refine ⟨⟨hs, hk, hl, ⟨_, _, hv0⟩, ?_⟩, hp⟩
  have g8 : Tryz.prog.globalNamed "math/bits.deBruijn64tab" = some 8 := by kernel_rfl
  obtain rfl := Option.some.inj (g8.symm.trans hg1)
  simp only [World.var?, hg1, Option.bind_some] at hv1
  rcases Nat.lt_or_ge 8 W.heap.size with h' | h'
  · omega
  · simp [Array.getElem?_eq_none h'] at hv1

/-- The world that the door's own run leaves meets the list. -/
theorem door_met (os : Os) (args : Array Value) : laidMetH Tryz.prog Rows.parseExactRow.laid ((World.doorLaid Tryz.prog 77 os).forCall (fun _ _ => 0) ⟨#[], args, []⟩).memory :=
  laidMetH_of_parts3 (fuel := 8) (laidMet_of_run' 8 (by kernel_rfl) (by kernel_rfl)) (by kernel_rfl) (by kernel_rfl)

end Go.Proofs.YtkahbhfbgdbnfaaGreatDoor

/-
  CheckMore, where it ends soon (a long text, a wrong one, one with all functions that may be); the name that it takes; in a world in which the listed variables lie as the program's text lays them. Blocks from the world's end on alone are new.
-/
namespace Go.Proofs.YtkahbhfbgdbnfaaGreatDoor
open Go.RowKit

set_option maxRecDepth 100000 in
set_option maxHeartbeats 1000000 in
theorem more_long (s : ByteArray) (w : World) (g : Good w) (hs : 2048 < s.size) : Calls Tryz.prog 6 #[.string s] w fun e w' => e = .returned (.bool true) ∧ Below w.heap.size w w' := by
  have AW := Lib.hid (awake5 w g)
  clear g
  go_enter Tryz.func6, Tryz.ntmps6
  go_wp2_with fail
  refine AW.out.mono ?_
  rintro e w1 ⟨rfl, hb⟩
  have hli : (2048 : Int) < (s.size : Int) := by omega
  go_wp2_with fail
  go_ret
  exact ⟨rfl, hb⟩
set_option maxRecDepth 100000 in
set_option maxHeartbeats 1000000 in
theorem more_bad (s : ByteArray) (p er : Nat) (w : World) (g : Good w) (hs : s.size ≤ 2048) (h : Hid (sourceR s.data.toList = .bad p er)) (he : er ≠ 0) : Calls Tryz.prog 6 #[.string s] w fun e w' => e = .returned (.bool true) ∧ Below w.heap.size w w' := by
  have AW := Lib.hid (awake5 w g)
  have G := Lib.hid g
  clear g
  have hne : ((er : Int) != 0) = true := by simp; omega
  go_enter Tryz.func6, Tryz.ntmps6
  go_wp2_with fail
  refine AW.out.mono ?_
  rintro e w1 ⟨rfl, hb⟩
  have B1 := Lib.hid hb
  have G1 := Lib.hid (G.out.below hb)
  clear hb AW G
  have hli : ¬ (2048 : Int) < (s.size : Int) := by omega
  go_wp2_with fail
  refine Calls.mono (R := SU (.bad p er) w1) (source_uni s _ w1 G1.out (by omega) h) ?_
  rintro e w2 ⟨hb, q, E, rfl, -, -⟩
  have B2 := Lib.hid ((B1.out.trans (hb.mono B1.out.size)).trans ((b2 w2 (.cells #[.pointer q] 25) (.cells #[.slice E.sA E.x.structs.length E.sc, .slice E.gA E.x.globals.length E.gc, .slice E.fA E.x.funs.length E.fc] 44)).mono (B1.out.trans (hb.mono B1.out.size)).size))
  clear hb
  unfold infV
  simp only [plcS, errS]
  go_wp2_with fail
  go_ret
  exact ⟨rfl, B2.out⟩
set_option maxRecDepth 100000 in
set_option maxHeartbeats 1000000 in
theorem more_full (s : ByteArray) (ts : List Tok) (ks : List Tree) (x : Inf) (w : World) (g : Good w) (hs : s.size ≤ 2048) (h : Hid (sourceR s.data.toList = .ok ts ks x)) (hf : 24 ≤ x.funs.length) : Calls Tryz.prog 6 #[.string s] w fun e w' => e = .returned (.bool true) ∧ Below w.heap.size w w' := by
  have AW := Lib.hid (awake5 w g)
  have G := Lib.hid g
  clear g
  go_enter Tryz.func6, Tryz.ntmps6
  go_wp2_with fail
  refine AW.out.mono ?_
  rintro e w1 ⟨rfl, hb⟩
  have B1 := Lib.hid hb
  have G1 := Lib.hid (G.out.below hb)
  clear hb AW G
  have hli : ¬ (2048 : Int) < (s.size : Int) := by omega
  go_wp2_with fail
  refine Calls.mono (R := SU (.ok ts ks x) w1) (source_uni s _ w1 G1.out (by omega) h) ?_
  rintro e w2 ⟨hb, q, E, rfl, hx, -⟩
  have hff : (24 : Int) ≤ (E.x.funs.length : Int) := by rw [show E.x = x from hx]; omega
  have B2 := Lib.hid ((B1.out.trans (hb.mono B1.out.size)).trans ((b2 w2 (.cells #[.pointer q] 25) (.cells #[.slice E.sA E.x.structs.length E.sc, .slice E.gA E.x.globals.length E.gc, .slice E.fA E.x.funs.length E.fc] 44)).mono (B1.out.trans (hb.mono B1.out.size)).size))
  have V := VI.two E w2 q
  obtain ⟨c0, c1, c2⟩ := (show _ ∧ _ ∧ _ from ⟨V.c0, V.c1, V.c2⟩)
  clear hb V hx
  unfold infV
  simp only [plcS, errS]
  go_wp2_with fail
  go_ret
  exact ⟨rfl, B2.out⟩

def qs (k : Nat) : ByteArray := if k = 0 then ⟨#[113, 97]⟩ else if k = 1 then ⟨#[113, 98]⟩ else if k = 2 then ⟨#[113, 99]⟩ else ⟨#[113, 100]⟩
def nameK (x : Inf) : Nat → ByteArray
  | 0 => ⟨#[]⟩
  | k + 1 => if hasB x (qs k) then nameK x k else qs k
theorem qs_ok (k : Nat) : ∃ q, qOk q ∧ qs k = ⟨q.toArray⟩ := by
  unfold qs qOk
  split
  · exact ⟨_, .inl rfl, rfl⟩
  · split
    · exact ⟨_, .inr (.inl rfl), rfl⟩
    · split
      · exact ⟨_, .inr (.inr (.inl rfl)), rfl⟩
      · exact ⟨_, .inr (.inr (.inr rfl)), rfl⟩
theorem nameK_yes {x : Inf} {k : Nat} (h : hasB x (qs k) = true) : nameK x (k + 1) = nameK x k := by rw [nameK, if_pos h]
theorem nameK_no {x : Inf} {k : Nat} (h : hasB x (qs k) = false) : nameK x (k + 1) = qs k := by rw [nameK, if_neg (by rw [h]; decide)]
theorem nameK_is (x : Inf) : ∀ k, nameK x k = ⟨#[]⟩ ∨ ∃ q, qOk q ∧ nameK x k = ⟨q.toArray⟩ ∧ hasB x ⟨q.toArray⟩ = false
  | 0 => .inl rfl
  | k + 1 => by
    cases hh : hasB x (qs k) with
    | true => rw [nameK_yes hh]; exact nameK_is x k
    | false =>
      rw [nameK_no hh]
      obtain ⟨q, h1, h2⟩ := qs_ok k
      exact .inr ⟨q, h1, h2, by rw [← h2]; exact hh⟩


end Go.Proofs.YtkahbhfbgdbnfaaGreatDoor

/-
  CheckMore: THE LAW's CONTRACT: it answers true for every text, in a world in which the listed variables lie as the program's text lays them. Blocks from the world's end on alone are new.
-/
namespace Go.Proofs.YtkahbhfbgdbnfaaGreatDoor
open Go.RowKit

theorem cat1 (s n : ByteArray) : (s ++ (⟨#[10, 102, 117, 110, 99, 32]⟩ : ByteArray) ++ n ++ (⟨#[40, 112, 32, 105, 110, 116, 41, 32, 123, 32, 125]⟩ : ByteArray)).data.toList = s.data.toList ++ 10 :: sx1 n.data.toList := by
  simp only [ByteArray.data_append]; simp [sx1]
theorem cat1_le {s n : ByteArray} {q : List UInt8} (hs : s.size ≤ 2048) (hq : qOk q) (hn : (⟨q.toArray⟩ : ByteArray) = n) : (s ++ (⟨#[10, 102, 117, 110, 99, 32]⟩ : ByteArray) ++ n ++ (⟨#[40, 112, 32, 105, 110, 116, 41, 32, 123, 32, 125]⟩ : ByteArray)).size ≤ 281474976710656 := by
  subst hn
  rw [← len_size, cat1, List.length_append, List.length_cons, len_size]
  have := sx1_len hq
  simp only
  omega
theorem cat2 (s n : ByteArray) : (s ++ (⟨#[10, 102, 117, 110, 99, 32]⟩ : ByteArray) ++ n ++ (⟨#[40, 41, 32, 123, 32]⟩ : ByteArray) ++ n ++ (⟨#[32, 61, 32, 49, 59, 32, 125]⟩ : ByteArray)).data.toList = s.data.toList ++ 10 :: sx2 n.data.toList := by
  simp only [ByteArray.data_append]; simp [sx2]
theorem cat2_le {s n : ByteArray} {q : List UInt8} (hs : s.size ≤ 2048) (hq : qOk q) (hn : (⟨q.toArray⟩ : ByteArray) = n) : (s ++ (⟨#[10, 102, 117, 110, 99, 32]⟩ : ByteArray) ++ n ++ (⟨#[40, 41, 32, 123, 32]⟩ : ByteArray) ++ n ++ (⟨#[32, 61, 32, 49, 59, 32, 125]⟩ : ByteArray)).size ≤ 281474976710656 := by
  subst hn
  rw [← len_size, cat2, List.length_append, List.length_cons, len_size]
  have := sx2_len hq
  simp only
  omega
theorem cat3 (s n : ByteArray) : (s ++ (⟨#[10, 102, 117, 110, 99, 32]⟩ : ByteArray) ++ n ++ (⟨#[40, 41, 32, 123, 32, 112, 114, 105, 110, 116, 40, 122, 122, 57, 41, 59, 32, 125]⟩ : ByteArray)).data.toList = s.data.toList ++ 10 :: sx3 n.data.toList := by
  simp only [ByteArray.data_append]; simp [sx3]
theorem cat3_le {s n : ByteArray} {q : List UInt8} (hs : s.size ≤ 2048) (hq : qOk q) (hn : (⟨q.toArray⟩ : ByteArray) = n) : (s ++ (⟨#[10, 102, 117, 110, 99, 32]⟩ : ByteArray) ++ n ++ (⟨#[40, 41, 32, 123, 32, 112, 114, 105, 110, 116, 40, 122, 122, 57, 41, 59, 32, 125]⟩ : ByteArray)).size ≤ 281474976710656 := by
  subst hn
  rw [← len_size, cat3, List.length_append, List.length_cons, len_size]
  have := sx3_len hq
  simp only
  omega
theorem src_ne {l : List UInt8} {p e : Nat} (h : sourceR l = .bad p e) : e ≠ 0 := by
  unfold sourceR srcOf at h
  cases hp : parseR l with
  | bad p' e' => rw [hp] at h; cases h; exact parse_err hp
  | ok ts ks =>
    rw [hp] at h
    dsimp only at h
    cases hc : checkC (root ts ks) with
    | ok x => rw [hc] at h; cases h
    | bad j e' => rw [hc] at h; cases h; exact chk_ne hc
theorem names_run (w : World) : (Instr.buildSlice 63 4 #[(0, .string ⟨#[113, 97]⟩), (1, .string ⟨#[113, 98]⟩), (2, .string ⟨#[113, 99]⟩), (3, .string ⟨#[113, 100]⟩)]).run Tryz.prog w = .ok (.slice (some ⟨w.heap.size, 0, none⟩) 4 4) (w.alloc (.cells #[.string ⟨#[113, 97]⟩, .string ⟨#[113, 98]⟩, .string ⟨#[113, 99]⟩, .string ⟨#[113, 100]⟩] 9)) := by
  kernel_rfl

set_option maxRecDepth 100000 in
set_option maxHeartbeats 1000000 in
theorem more_go (s : ByteArray) (ts : List Tok) (ks : List Tree) (x : Inf) (w : World) (g : Good w) (hs : s.size ≤ 2048) (h : Hid (sourceR s.data.toList = .ok ts ks x)) (hf : Hid (x.funs.length < 24)) : Calls Tryz.prog 6 #[.string s] w fun e w' => e = .returned (.bool true) ∧ Below w.heap.size w w' := by
  have AW := Lib.hid (awake5 w g)
  have G := Lib.hid g
  clear g
  go_enter Tryz.func6, Tryz.ntmps6
  go_wp2_with fail
  refine AW.out.mono ?_
  rintro e w1 ⟨rfl, hb⟩
  have B1 := Lib.hid hb
  have G1 := Lib.hid (G.out.below hb)
  clear hb AW G
  have hli : ¬ (2048 : Int) < (s.size : Int) := by omega
  go_wp2_with fail
  refine Calls.mono (R := SU (.ok ts ks x) w1) (source_uni s _ w1 G1.out (by omega) h) ?_
  rintro e w2 ⟨hb, q, E, rfl, hx, hI⟩
  have hx2 : E.x = x := hx
  clear hx
  subst hx2
  have hff : ¬ (24 : Int) ≤ (E.x.funs.length : Int) := by have := hf.out; omega
  have B2 := Lib.hid ((B1.out.trans (hb.mono B1.out.size)).trans ((b2 w2 (.cells #[.pointer q] 25) (.cells #[.slice E.sA E.x.structs.length E.sc, .slice E.gA E.x.globals.length E.gc, .slice E.fA E.x.funs.length E.fc] 44)).mono (B1.out.trans (hb.mono B1.out.size)).size))
  have I2 := Lib.hid (hI.below (b2 w2 (.cells #[.pointer q] 25) (.cells #[.slice E.sA E.x.structs.length E.sc, .slice E.gA E.x.globals.length E.gc, .slice E.fA E.x.funs.length E.fc] 44)))
  have V := VI.two E w2 q
  obtain ⟨c0, c1, c2⟩ := (show _ ∧ _ ∧ _ from ⟨V.c0, V.c1, V.c2⟩)
  have V2 := Lib.hid V
  clear hb V hI B1 G1
  unfold infV
  simp only [plcS, errS]
  have hnr := names_run
  have BN := Lib.hid (b1 ((w2.alloc (.cells #[.pointer q] 25)).alloc (.cells #[.slice E.sA E.x.structs.length E.sc, .slice E.gA E.x.globals.length E.gc, .slice E.fA E.x.funs.length E.fc] 44)) (.cells #[.string ⟨#[113, 97]⟩, .string ⟨#[113, 98]⟩, .string ⟨#[113, 99]⟩, .string ⟨#[113, 100]⟩] 9))
  have B3 := Lib.hid (B2.out.trans (BN.out.mono B2.out.size))
  have I3 := Lib.hid (I2.out.below BN.out)
  have V3 := Lib.hid (V2.out.below BN.out)
  have N3 : Hid (∀ k, k < 4 → (((w2.alloc (.cells #[.pointer q] 25)).alloc (.cells #[.slice E.sA E.x.structs.length E.sc, .slice E.gA E.x.globals.length E.gc, .slice E.fA E.x.funs.length E.fc] 44)).alloc (.cells #[.string ⟨#[113, 97]⟩, .string ⟨#[113, 98]⟩, .string ⟨#[113, 99]⟩, .string ⟨#[113, 100]⟩] 9)).cell? ⟨w2.heap.size + 1 + 1, k, none⟩ = some (.string (qs k))) := by
    intro k hk
    have h9 : ((w2.alloc (.cells #[.pointer q] 25)).alloc (.cells #[.slice E.sA E.x.structs.length E.sc, .slice E.gA E.x.globals.length E.gc, .slice E.fA E.x.funs.length E.fc] 44)).heap.size = w2.heap.size + 1 + 1 := by simp
    rw [← h9]
    rcases k with _ | _ | _ | _ | k
    · exact cell_new _ _ 9 0
    · exact cell_new _ _ 9 1
    · exact cell_new _ _ 9 2
    · exact cell_new _ _ 9 3
    · omega
  have hsz : Hid (w2.heap.size + 1 + 1 < (((w2.alloc (.cells #[.pointer q] 25)).alloc (.cells #[.slice E.sA E.x.structs.length E.sc, .slice E.gA E.x.globals.length E.gc, .slice E.fA E.x.funs.length E.fc] 44)).alloc (.cells #[.string ⟨#[113, 97]⟩, .string ⟨#[113, 98]⟩, .string ⟨#[113, 99]⟩, .string ⟨#[113, 100]⟩] 9)).heap.size) := by show _ < _; simp
  clear BN B2 I2 V2
  go_wp2_with fail
  clear hnr c0 c1 c2
  generalize ((w2.alloc (.cells #[.pointer q] 25)).alloc (.cells #[.slice E.sA E.x.structs.length E.sc, .slice E.gA E.x.globals.length E.gc, .slice E.fA E.x.funs.length E.fc] 44)).alloc (.cells #[.string ⟨#[113, 97]⟩, .string ⟨#[113, 98]⟩, .string ⟨#[113, 99]⟩, .string ⟨#[113, 100]⟩] 9) = wS at *
  go_loopw [8, 9] (fun n i wr => ∃ k, k ≤ 4 ∧ i = .int .i64 (k : Nat) ∧ n = .string (nameK E.x k) ∧ Below wS.heap.size wS wr) (fun _ i _ => 4 - (intOf i).toNat)
  case atStart => exact ⟨0, Nat.zero_le _, rfl, rfl, Below.refl _ _⟩
  case round =>
    obtain ⟨k, hk, rfl, rfl, hb⟩ := hrel
    have B4 := Lib.hid (B3.out.trans (hb.mono B3.out.size))
    have I4 := Lib.hid (I3.out.below hb)
    have V4 := Lib.hid (V3.out.below hb)
    have hb0 := Lib.hid hb
    by_cases hlt : k < 4
    · have n4 := (hb.cell (p := ⟨w2.heap.size + 1 + 1, k, none⟩) hsz.out).trans (N3.out k hlt)
      have hlt2 : (k : Int) < 4 := by omega
      obtain ⟨c0, c1, c2⟩ := (show _ ∧ _ ∧ _ from ⟨V4.out.c0, V4.out.c1, V4.out.c2⟩)
      clear hb
      cases hh : hasB E.x (qs k) with
      | true =>
        have HH := Lib.hid hh
        have hn := Lib.hid (nameK_yes hh)
        clear hh
        go_wp2_with fail
        go_region_with (first | (go_at_call 28; refine (has_any E (qs k) true _ (I4.out.below (Below.refl _ _).drew) HH).mono ?_; rintro e w5 ⟨rfl, b5⟩))
        all_goals
          have d5 := Lib.hid (hb0.out.trans (((Below.refl wr.heap.size wr).drew.trans (b5.mono (Nat.le_refl _))).mono hb0.out.size))
          clear b5 c0 c1 c2 n4
          go_wp2_with fail
          exact ⟨⟨k + 1, by omega, by go_num, by rw [hn.out], d5.out⟩, by simp [intOf]; omega⟩
      | false =>
        have HH := Lib.hid hh
        have hn := Lib.hid (nameK_no hh)
        clear hh
        go_wp2_with fail
        go_region_with (first | (go_at_call 28; refine (has_any E (qs k) false _ (I4.out.below (Below.refl _ _).drew) HH).mono ?_; rintro e w5 ⟨rfl, b5⟩))
        all_goals
          have d4 := (Below.refl wr.heap.size wr).drew.trans (b5.mono (Nat.le_refl _))
          have n5 := (d4.cell (p := ⟨w2.heap.size + 1 + 1, k, none⟩) (Nat.lt_of_lt_of_le hsz.out hb0.out.size)).trans n4
          have d5 := Lib.hid (hb0.out.trans (d4.mono hb0.out.size))
          clear b5 c0 c1 c2 n4 d4
          go_wp2_with fail
          exact ⟨⟨k + 1, by omega, by go_num, by rw [hn.out], d5.out⟩, by simp [intOf]; omega⟩
    · obtain rfl : k = 4 := by omega
      clear hb
      rcases nameK_is E.x 4 with h0 | ⟨q2, hq, h1, h2⟩
      · rw [h0]
        go_wp2_with fail
        go_ret
        exact ⟨rfl, B4.out⟩
      · rw [h1]
        have hem : (⟨q2.toArray⟩ : ByteArray).toList.isEmpty = false := size_pos_isEmpty (by rcases hq with rfl | rfl | rfl | rfl <;> decide)
        have HQ := Lib.hid hq
        have H2 := Lib.hid h2
        obtain ⟨n, hn⟩ : ∃ n : ByteArray, (⟨q2.toArray⟩ : ByteArray) = n := ⟨_, rfl⟩
        rw [hn] at hem
        rw [hn]
        have HN := Lib.hid hn
        clear hn hq h1 h2
        have hn2 : n.size ≤ 2 := by rw [← HN.out]; rcases HQ.out with rfl | rfl | rfl | rfl <;> decide
        have hl : s.data.toList.length ≤ 2048 := by rw [len_size]; exact hs
        have hnl : n.data.toList = q2 := by rw [← HN.out]
        obtain ⟨ts1, ks1, ps1, r1, hs1⟩ := src_more1 h.out hl HQ.out H2.out hf.out
        obtain ⟨pp, hs2, hpp⟩ := src_more2 h.out hl HQ.out H2.out hf.out
        obtain ⟨r3, hr3⟩ : ∃ r, sourceR (s.data.toList ++ 10 :: sx3 q2) = r := ⟨_, rfl⟩
        have hz3 : plc E.x.globals zz9 = none → errS r3 ≠ 0 := fun hg => by rw [← hr3]; exact src_more3 h.out hl HQ.out H2.out hf.out hg
        have HS1 : Hid (sourceR (s ++ (⟨#[10, 102, 117, 110, 99, 32]⟩ : ByteArray) ++ n ++ (⟨#[40, 112, 32, 105, 110, 116, 41, 32, 123, 32, 125]⟩ : ByteArray)).data.toList = .ok ts1 ks1 (addF E.x ⟨⟨q2.toArray⟩, ps1, r1⟩)) := by show _ = _; rw [cat1, hnl]; exact hs1
        have HS2 : Hid (sourceR (s ++ (⟨#[10, 102, 117, 110, 99, 32]⟩ : ByteArray) ++ n ++ (⟨#[40, 41, 32, 123, 32]⟩ : ByteArray) ++ n ++ (⟨#[32, 61, 32, 49, 59, 32, 125]⟩ : ByteArray)).data.toList = .bad pp 7) := by show _ = _; rw [cat2, hnl]; exact hs2
        have HS3 : Hid (sourceR (s ++ (⟨#[10, 102, 117, 110, 99, 32]⟩ : ByteArray) ++ n ++ (⟨#[40, 41, 32, 123, 32, 112, 114, 105, 110, 116, 40, 122, 122, 57, 41, 59, 32, 125]⟩ : ByteArray)).data.toList = r3) := by show _ = _; rw [cat3, hnl]; exact hr3
        have hp2 : (s.size : Int) < (pp : Int) := by rw [len_size] at hpp; omega
        have HZ3 := Lib.hid hz3
        have G4 := Lib.hid I4.out.good
        clear hs1 hs2 hr3 hpp hz3 hnl hl
        go_wp2_with fail
        refine Calls.mono (R := SU (.ok ts1 ks1 (addF E.x ⟨⟨q2.toArray⟩, ps1, r1⟩)) wr) (source_uni (s ++ (⟨#[10, 102, 117, 110, 99, 32]⟩ : ByteArray) ++ n ++ (⟨#[40, 112, 32, 105, 110, 116, 41, 32, 123, 32, 125]⟩ : ByteArray)) _ wr G4.out (cat1_le hs HQ.out HN.out) HS1) ?_
        rintro e u1 ⟨hb, p1, E1, rfl, hx, hI⟩
        have b9 := hb.trans ((b2 u1 (.cells #[.pointer p1] 25) (.cells #[.slice E1.sA E1.x.structs.length E1.sc, .slice E1.gA E1.x.globals.length E1.gc, .slice E1.fA E1.x.funs.length E1.fc] 44)).mono hb.size)
        have B5 := Lib.hid (B4.out.trans (b9.mono B4.out.size))
        have G5 := Lib.hid (G4.out.below b9)
        have V4n := Lib.hid (V4.out.below b9)
        have I4n := Lib.hid (I4.out.below b9)
        clear B4 G4 V4 I4
        have B4 := B5
        have G4 := G5
        have V4 := V4n
        have I4 := I4n
        clear B5 G5 b9 hb V4n I4n
        have HX1 := Lib.hid hx
        have IA := Lib.hid (hI.below (b2 u1 (.cells #[.pointer p1] 25) (.cells #[.slice E1.sA E1.x.structs.length E1.sc, .slice E1.gA E1.x.globals.length E1.gc, .slice E1.fA E1.x.funs.length E1.fc] 44)))
        have VA := Lib.hid (VI.two E1 u1 p1)
        clear hx hI
        unfold infV
        simp only [plcS, errS]
        go_wp2_with fail
        generalize ((u1.alloc (.cells #[.pointer p1] 25)).alloc (.cells #[.slice E1.sA E1.x.structs.length E1.sc, .slice E1.gA E1.x.globals.length E1.gc, .slice E1.fA E1.x.funs.length E1.fc] 44)) = y1 at *
        refine Calls.mono (R := SU (.bad pp 7) y1) (source_uni (s ++ (⟨#[10, 102, 117, 110, 99, 32]⟩ : ByteArray) ++ n ++ (⟨#[40, 41, 32, 123, 32]⟩ : ByteArray) ++ n ++ (⟨#[32, 61, 32, 49, 59, 32, 125]⟩ : ByteArray)) _ y1 G4.out (cat2_le hs HQ.out HN.out) HS2) ?_
        rintro e u2 ⟨hb, p2, E2, rfl, hx, hI⟩
        have b9 := hb.trans ((b2 u2 (.cells #[.pointer p2] 25) (.cells #[.slice E2.sA E2.x.structs.length E2.sc, .slice E2.gA E2.x.globals.length E2.gc, .slice E2.fA E2.x.funs.length E2.fc] 44)).mono hb.size)
        have B5 := Lib.hid (B4.out.trans (b9.mono B4.out.size))
        have G5 := Lib.hid (G4.out.below b9)
        have V4n := Lib.hid (V4.out.below b9)
        have I4n := Lib.hid (I4.out.below b9)
        have VAn := Lib.hid (VA.out.below b9)
        have IAn := Lib.hid (IA.out.below b9)
        clear B4 G4 V4 I4 VA IA
        have B4 := B5
        have G4 := G5
        have V4 := V4n
        have I4 := I4n
        have VA := VAn
        have IA := IAn
        clear B5 G5 b9 hb V4n I4n VAn IAn
        clear hx hI
        unfold infV
        simp only [plcS, errS]
        go_wp2_with fail
        generalize ((u2.alloc (.cells #[.pointer p2] 25)).alloc (.cells #[.slice E2.sA E2.x.structs.length E2.sc, .slice E2.gA E2.x.globals.length E2.gc, .slice E2.fA E2.x.funs.length E2.fc] 44)) = y2 at *
        refine Calls.mono (R := SU r3 y2) (source_uni (s ++ (⟨#[10, 102, 117, 110, 99, 32]⟩ : ByteArray) ++ n ++ (⟨#[40, 41, 32, 123, 32, 112, 114, 105, 110, 116, 40, 122, 122, 57, 41, 59, 32, 125]⟩ : ByteArray)) _ y2 G4.out (cat3_le hs HQ.out HN.out) HS3) ?_
        rintro e u3 ⟨hb, p3, E3, rfl, hx, hI⟩
        have b9 := hb.trans ((b2 u3 (.cells #[.pointer p3] 25) (.cells #[.slice E3.sA E3.x.structs.length E3.sc, .slice E3.gA E3.x.globals.length E3.gc, .slice E3.fA E3.x.funs.length E3.fc] 44)).mono hb.size)
        have B5 := Lib.hid (B4.out.trans (b9.mono B4.out.size))
        have G5 := Lib.hid (G4.out.below b9)
        have V4n := Lib.hid (V4.out.below b9)
        have I4n := Lib.hid (I4.out.below b9)
        have VAn := Lib.hid (VA.out.below b9)
        have IAn := Lib.hid (IA.out.below b9)
        clear B4 G4 V4 I4 VA IA
        have B4 := B5
        have G4 := G5
        have V4 := V4n
        have I4 := I4n
        have VA := VAn
        have IA := IAn
        clear B5 G5 b9 hb V4n I4n VAn IAn
        clear hx hI
        unfold infV
        obtain ⟨c0, c1, c2⟩ := (show _ ∧ _ ∧ _ from ⟨V4.out.c0, V4.out.c1, V4.out.c2⟩)
        obtain ⟨e3, he3⟩ : ∃ e, errS r3 = e := ⟨_, rfl⟩
        have HE3 := Lib.hid he3
        rw [he3]
        clear he3
        generalize plcS r3 = p3n
        go_wp2_with fail
        clear c0 c1 c2
        generalize ((u3.alloc (.cells #[.pointer p3] 25)).alloc (.cells #[.slice E3.sA E3.x.structs.length E3.sc, .slice E3.gA E3.x.globals.length E3.gc, .slice E3.fA E3.x.funs.length E3.fc] 44)) = y3 at *
        refine Calls.mono (R := fun e w' => e = .returned (foundV (plc E.x.globals zz9)) ∧ Below y3.heap.size y3 w') (cglobal_any E zz9 _ y3 I4.out (Lib.hid rfl)) ?_
        rintro e y4 ⟨rfl, hb⟩
        have b9 := hb
        have B5 := Lib.hid (B4.out.trans (b9.mono B4.out.size))
        have V5 := Lib.hid (V4.out.below b9)
        have VB := Lib.hid (VA.out.below b9)
        have IB := Lib.hid (IA.out.below b9)
        clear B4 G4 V4 I4 VA IA b9 hb
        have hB : ∃ i, foundV (plc E.x.globals zz9) = .tuple #[.int .i64 i, .bool (plc E.x.globals zz9).isSome] := by cases plc E.x.globals zz9 <;> exact ⟨_, rfl⟩
        obtain ⟨iB, hB⟩ := hB
        rw [hB]
        clear hB
        have hz : e3 = 0 → (plc E.x.globals zz9).isSome = true := fun h0 => by
          cases hg : plc E.x.globals zz9 with
          | some _ => rfl
          | none => exact absurd (HE3.out.trans h0) (HZ3.out hg)
        have hl1 : E1.x.funs.length = E.x.funs.length + 1 := by rw [HX1.out]; simp [infS, addF]
        have hg1 : E1.x.funs[E.x.funs.length]? = some ⟨⟨q2.toArray⟩, ps1, r1⟩ := by rw [HX1.out]; simp [infS, addF]
        obtain ⟨fb, fo, hfa, hfl, hfc⟩ := IB.out.F (by omega)
        obtain ⟨PA, pc, f0, -, -, -⟩ := hfc _ _ hg1
        obtain ⟨c0, c1, c2⟩ := (show _ ∧ _ ∧ _ from ⟨V5.out.c0, V5.out.c1, V5.out.c2⟩)
        obtain ⟨d0, d1, d2⟩ := (show _ ∧ _ ∧ _ from ⟨VB.out.c0, VB.out.c1, VB.out.c2⟩)
        simp only [HN.out] at f0
        rw [hfa, hl1] at d2
        have hm := hf.out
        clear hfc hg1 hfa hl1 V5 VB IB
        generalize (plc E.x.globals zz9).isSome = zb at *
        by_cases h3 : e3 = 0
        · have hz := hz h3
          subst hz h3
          go_wp2_with fail
          go_ret
          exact ⟨rfl, B5.out⟩
        · have hne : ((e3 : Int) != 0) = true := by simp; omega
          clear hz
          go_wp2_with fail
          go_ret
          exact ⟨rfl, B5.out⟩

theorem more_true (s : ByteArray) (w : World) (g : Good w) : Calls Tryz.prog 6 #[.string s] w fun e w' => e = .returned (.bool true) ∧ Below w.heap.size w w' := by
  by_cases hl : 2048 < s.size
  · exact more_long s w g hl
  · obtain ⟨r, hr⟩ : ∃ r, sourceR s.data.toList = r := ⟨_, rfl⟩
    cases r with
    | bad p er => exact more_bad s p er w g (by omega) hr (src_ne hr)
    | ok ts ks x =>
      by_cases hf : x.funs.length < 24
      · exact more_go s ts ks x w g (by omega) hr hf
      · exact more_full s ts ks x w g (by omega) hr (by omega)

end Go.Proofs.YtkahbhfbgdbnfaaGreatDoor
