/-
  FROM A ROW's LIST OF VARIABLES TO THE CONTRACTS' CONDITION: what the listed package-level variables hold (Gd); the witness' world.
-/
import Derived.Test.YtcbjcpmkebbfaaaDoorCards
import Derived.Test.YtcbjcpmkebbfaaaDoorTie
import Derived.Test.YtcbjcpmkebbfaaaDoorAwk
import Derived.WalkKit
import Derived.ProofKit
import Derived.OpenShut
import Derived.LaidMore
import Derived.Deep.DeepHandedRow
import Derived.Deep.DeepWitnessRowRef
import Derived.Lib.LaidTab
import Derived.Stop.LaidErr
namespace Go.Proofs.YtcbjcpmkebbfaaaDoor
open Go.ChangeShapes Go.WideShapes Go.ChangeAt Go.RowKit

theorem own : ownKnob Tryd.prog.godebug = none := by kernel_rfl
theorem laidOut : laidOutB Tryd.prog = true := by kernel_rfl
theorem gWords : Tryd.prog.globalNamed "truant/ir.opWords" = some 0 := by kernel_rfl
theorem tWords : (Tryd.prog.globals[0]?).map (·.type) = some 59 := by kernel_rfl
theorem tPow : (Tryd.prog.globals[1]?).map (·.type) = some 120 := by kernel_rfl
theorem cells9 : Tryd.prog.cellsOf 9 = 1 := by kernel_rfl
theorem cells59 : Tryd.prog.cellsOf 59 = 35 := by kernel_rfl
theorem cells111 : Tryd.prog.cellsOf 111 = 1 := by kernel_rfl
theorem cells120 : Tryd.prog.cellsOf 120 = 20 := by kernel_rfl

def tabOf (ls : List (List UInt8)) : Array Value := (ls.map fun l => Value.string ⟨l.toArray⟩).toArray
/-- An array of strings that is listed holds just these strings. -/
theorem strs_of_laid {P : Program} {W : World} {name : String} {ls : List (List UInt8)} {rest : List (String × DataW Unit)} {g n : Nat} {t e : TypeId}
    (hg : P.globalNamed name = some g) (hty : (P.globals[g]?).map (·.type) = some t) (ht : P.underlying t = some (.array n e)) (he : P.underlying e = some .string) (hce : P.cellsOf e = 1) (hct : P.cellsOf t = n)
    (h : laidMet P ((name, .agg (ls.map fun l => .lit (.string l))) :: rest) W) : ∃ t fr, W.heap[g]? = some (.cells (tabOf ls) t fr) := by
  obtain ⟨ps, ⟨g0, t0, cs0, f0, p0, q0, hg0, ht0, hv0, hd0, _, _⟩, _, _⟩ := h
  obtain rfl := Option.some.inj (hg.symm.trans hg0)
  obtain rfl := Option.some.inj (hty.symm.trans ht0)
  obtain ⟨xs, m1, rfl, hx1, hlen, hn, hel⟩ := DataW.trod_array ht hd0
  simp only [Prod.mk.injEq, DataW.agg.injEq] at hx1
  have hll : ls.length = n := by have := congrArg List.length hx1.1; simpa [hn] using this
  have hcs : cs0 = tabOf ls := by
    obtain ⟨l0⟩ := cs0
    unfold tabOf
    congr 1
    apply List.ext_getElem?
    intro i
    by_cases hi : i < n
    · have hxi : i < xs.length := by omega
      have h0 := hel i hi
      rw [List.getElem?_eq_getElem hxi, hce] at h0
      obtain ⟨s, e1, e2, _⟩ := DataW.trod_string he h0
      have hl := congrArg (fun l => l[i]?) hx1.1
      simp only [List.getElem?_map, List.getElem?_eq_getElem hxi, Option.map_some] at hl
      rw [e2] at hl
      obtain ⟨l, hl1, hl2⟩ := Option.map_eq_some_iff.1 hl
      have hl3 : l = s.data.toList := by simpa using hl2
      have hs : (⟨l.toArray⟩ : ByteArray) = s := bytes_inj (by rw [hl3])
      rw [List.getElem?_map, hl1, Option.map_some, hs]
      have e3 := congrArg (fun l => l[0]?) e1
      simpa using e3
    · rw [List.getElem?_eq_none (by rw [hct] at hlen; simp at hlen; omega), List.getElem?_eq_none (by simp; omega)]
  subst hcs
  simp only [World.var?, hg, Option.bind_some] at hv0
  split at hv0
  · rename_i cs t' fr hh
    have := Option.some.inj hv0
    subst this
    exact ⟨_, _, hh⟩
  · cases hv0

abbrev KeysIn (W : World) : Prop := Gd W
/-- WHAT THE ROWS' LIST GIVES. -/
theorem good_of {W : World} (h0 : laidMetH Tryd.prog Rows.irExactRow.laid W) : Gd W := by
  have h : laidMet Tryd.prog Rows.irExactRow.laid W := by rwa [MakeChecks.laidMetH_plain _ _ _ (by kernel_rfl)] at h0
  have hp : PowIn W := Lib.tabIs_of_head gPow tPow Tryd.underlying120 Tryd.underlying111 cells111 cells120 h.tail.tail
  have hk : WordsIn W := strs_of_laid (ls := wordTab) gWords tWords Tryd.underlying59 Tryd.underlying9 cells9 cells59 h.tail.tail.tail
  refine ⟨hk, hp, ?_⟩
  simp only [Lib.TabIs, World.var?, gPow, Option.bind_some] at hp
  rcases Nat.lt_or_ge 1 W.heap.size with h' | h'
  · exact h'
  · simp [Array.getElem?_eq_none h'] at hp

/-- The world that the door's own run leaves meets the list. -/
theorem door_met (os : Os) (args : Array Value) : laidMetH Tryd.prog Rows.irExactRow.laid ((World.doorLaid Tryd.prog 29 os).forCall (fun _ _ => 0) ⟨#[], args, []⟩).memory :=
  laidMetH_of_parts3 (fuel := 8) (laidMet_of_run' 8 (by kernel_rfl) (by kernel_rfl)) (by kernel_rfl) (by kernel_rfl)

end Go.Proofs.YtcbjcpmkebbfaaaDoor
