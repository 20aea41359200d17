/-
  FROM A ROW's LIST OF VARIABLES TO THE CONTRACTS' CONDITION: what the listed package-level variables hold ('Good'); the witness' world; the law's two last steps, for whatever law of this seat.
-/
import Derived.Test.YteikheaanefgbaaDoorCards
import Derived.Test.YteikheaanefgbaaDoorTie
import Derived.Test.YteikheaanefgbaaDoorAwake
import Derived.WalkKit
import Derived.ProofKit
import Derived.OpenShut
import Derived.LaidMore
import Derived.Deep.DeepHandedRow
import Derived.Deep.DeepWitnessRowRef
import Derived.Lib.LaidTab
import Derived.Stop.LaidErr
namespace Go.Proofs.YteikheaanefgbaaDoor
open Go.ChangeShapes Go.WideShapes Go.ChangeAt Go.RowKit

theorem own : ownKnob Tryd.prog.godebug = none := by kernel_rfl
theorem gKeys : Tryd.prog.globalNamed "truant/lex.keys" = some 0 := by kernel_rfl
theorem gLongs : Tryd.prog.globalNamed "truant/lex.longSigns" = some 1 := by kernel_rfl
theorem tKeys : (Tryd.prog.globals[0]?).map (·.type) = some 45 := by kernel_rfl
theorem tLongs : (Tryd.prog.globals[1]?).map (·.type) = some 64 := by kernel_rfl
theorem tRange : (Tryd.prog.globals[4]?).map (·.type) = some 58 := by kernel_rfl
theorem cells9 : Tryd.prog.cellsOf 9 = 1 := by kernel_rfl

theorem cells91 : Tryd.prog.cellsOf 91 = 1 := by kernel_rfl
theorem cells45 : Tryd.prog.cellsOf 45 = 16 := by kernel_rfl
theorem cells64 : Tryd.prog.cellsOf 64 = 9 := by kernel_rfl
theorem row89 (u : TypeId) (h : Tryd.prog.typeName? 3 u = some "*errors.errorString") : u = 89 :=
  typeName_ptr_named (nm := "errors.errorString") (by kernel_rfl) (by kernel_rfl) (by decide) u h

/-- An array of strings that is listed holds just these strings. -/
theorem strs_of_laid {P : Program} {W : World} {name : String} {ls : List (List UInt8)} {rest : List (String × DataW Unit)} {g n : Nat} {t e : TypeId}
    (hg : P.globalNamed name = some g) (hty : (P.globals[g]?).map (·.type) = some t) (ht : P.underlying t = some (.array n e)) (he : P.underlying e = some .string) (hce : P.cellsOf e = 1) (hct : P.cellsOf t = n)
    (h : laidMet P ((name, .agg (ls.map fun l => .lit (.string l))) :: rest) W) : ∃ t fr, W.heap[g]? = some (.cells (tabOf ls) t fr) := by
  obtain ⟨ps, ⟨g0, t0, cs0, f0, p0, q0, hg0, ht0, hv0, hd0, _, _⟩, _, _⟩ := h
  obtain rfl := Option.some.inj (hg.symm.trans hg0)
  obtain rfl := Option.some.inj (hty.symm.trans ht0)
  obtain ⟨xs, m1, rfl, hx1, hlen, hn, hel⟩ := DataW.trod_array ht hd0
  simp only [Prod.mk.injEq, DataW.agg.injEq] at hx1
  have hll : ls.length = n := by have := congrArg List.length hx1.1; simpa [hn] using this
  have hcs : cs0 = tabOf ls := by
    obtain ⟨l0⟩ := cs0
    unfold tabOf
    congr 1
    apply List.ext_getElem?
    intro i
    by_cases hi : i < n
    · have hxi : i < xs.length := by omega
      have h0 := hel i hi
      rw [List.getElem?_eq_getElem hxi, hce] at h0
      obtain ⟨s, e1, e2, _⟩ := DataW.trod_string he h0
      have hl := congrArg (fun l => l[i]?) hx1.1
      simp only [List.getElem?_map, List.getElem?_eq_getElem hxi, Option.map_some] at hl
      rw [e2] at hl
      obtain ⟨l, hl1, hl2⟩ := Option.map_eq_some_iff.1 hl
      have hl3 : l = s.data.toList := by simpa using hl2
      have hs : (⟨l.toArray⟩ : ByteArray) = s := bytes_inj (by rw [hl3])
      rw [List.getElem?_map, hl1, Option.map_some, hs]
      have e3 := congrArg (fun l => l[0]?) e1
      simpa using e3
    · rw [List.getElem?_eq_none (by rw [hct] at hlen; simp at hlen; omega), List.getElem?_eq_none (by simp; omega)]
  subst hcs
  simp only [World.var?, hg, Option.bind_some] at hv0
  split at hv0
  · rename_i cs t' fr hh
    have := Option.some.inj hv0
    subst this
    exact ⟨_, _, hh⟩
  · cases hv0

/-- WHAT THE ROWS' LIST GIVES. -/
theorem good_of {W : World} (h0 : laidMetH Tryd.prog Rows.lexExactRow.laid W) : Good W := by
  have h : laidMet Tryd.prog Rows.lexExactRow.laid W := by rwa [MakeChecks.laidMetH_plain _ _ _ (by kernel_rfl)] at h0
  obtain ⟨a0, s0, hv0, -, -, -⟩ := laid_sentinel h.tail.tail.tail gRange tRange Tryd.underlying58 row89 Tryd.underlying89 Tryd.underlying91 rfl rfl Tryd.underlying9 cells91 cells9
  have hk : KeysIn W := strs_of_laid (ls := keyTab) gKeys tKeys Tryd.underlying45 Tryd.underlying9 cells9 cells45 h.tail.tail.tail.tail.tail.tail
  have hl : LongsIn W := strs_of_laid (ls := longTab) gLongs tLongs Tryd.underlying64 Tryd.underlying9 cells9 cells64 h.tail.tail.tail.tail.tail
  obtain ⟨ps, ⟨g1, t1, cs1, f1, p1, q1, hg1, ht1, hv1, hd1, hrest⟩, _, _⟩ := h.tail
  refine ⟨hk, hl, ⟨_, _, hv0⟩, ?_⟩
  have g7 : Tryd.prog.globalNamed "math/bits.deBruijn64tab" = some 7 := by kernel_rfl
  obtain rfl := Option.some.inj (g7.symm.trans hg1)
  simp only [World.var?, hg1, Option.bind_some] at hv1
  rcases Nat.lt_or_ge 7 W.heap.size with h' | h'
  · exact h'
  · simp [Array.getElem?_eq_none h'] at hv1

/-- The world that the door's own run leaves meets the list. -/
theorem door_met (os : Os) (args : Array Value) : laidMetH Tryd.prog Rows.lexExactRow.laid ((World.doorLaid Tryd.prog 72 os).forCall (fun _ _ => 0) ⟨#[], args, []⟩).memory :=
  laidMetH_of_parts3 (fuel := 8) (laidMet_of_run' 8 (by kernel_rfl) (by kernel_rfl)) (by kernel_rfl) (by kernel_rfl)

end Go.Proofs.YteikheaanefgbaaDoor
