/-
  FROM A ROW's LIST OF VARIABLES TO THE CONTRACTS' CONDITION: what the listed package-level variables hold ('Good'); the witness' world; the law's two last steps, for whatever law of this seat.
-/
import Derived.Test.YtgdchlgepgbhhaaDoorCards
import Derived.Test.YtgdchlgepgbhhaaDoorTie
import Derived.Test.YtgdchlgepgbhhaaDoorAwake
import Derived.WalkKit
import Derived.ProofKit
import Derived.OpenShut
import Derived.LaidMore
import Derived.Deep.DeepHandedRow
import Derived.Deep.DeepWitnessRowRef
import Derived.Lib.LaidTab
import Derived.Stop.LaidErr
namespace Go.Proofs.YtgdchlgepgbhhaaDoor
open Go.ChangeShapes Go.WideShapes Go.ChangeAt Go.RowKit

theorem own : ownKnob Tryd.prog.godebug = none := by kernel_rfl
theorem tSigns : (Tryd.prog.globals[0]?).map (·.type) = some 53 := by kernel_rfl
theorem tRange : (Tryd.prog.globals[2]?).map (·.type) = some 58 := by kernel_rfl
theorem tPow : (Tryd.prog.globals[3]?).map (·.type) = some 89 := by kernel_rfl
theorem cells53 : Tryd.prog.cellsOf 53 = 19 := by kernel_rfl
theorem cells9 : Tryd.prog.cellsOf 9 = 1 := by kernel_rfl
theorem cells88 : Tryd.prog.cellsOf 88 = 1 := by kernel_rfl
theorem cells89 : Tryd.prog.cellsOf 89 = 20 := by kernel_rfl
theorem cells61 : Tryd.prog.cellsOf 61 = 1 := by kernel_rfl
theorem row86 (u : TypeId) (h : Tryd.prog.typeName? 3 u = some "*errors.errorString") : u = 86 :=
  typeName_ptr_named (nm := "errors.errorString") (by kernel_rfl) (by kernel_rfl) (by decide) u h

/-- An array of strings that is listed holds just these strings. -/
theorem strs_of_laid {P : Program} {W : World} {name : String} {ls : List (List UInt8)} {rest : List (String × DataW Unit)} {g n : Nat} {t e : TypeId}
    (hg : P.globalNamed name = some g) (hty : (P.globals[g]?).map (·.type) = some t) (ht : P.underlying t = some (.array n e)) (he : P.underlying e = some .string) (hce : P.cellsOf e = 1)
    (h : laidMet P ((name, .agg (ls.map fun l => .lit (.string l))) :: rest) W) (i : Nat) (hi : i < n) : W.cell? ⟨g, i, none⟩ = some (.string ⟨(ls.getD i []).toArray⟩) := by
  obtain ⟨ps, ⟨g0, t0, cs0, f0, p0, q0, hg0, ht0, hv0, hd0, _, _⟩, _, _⟩ := h
  obtain rfl := Option.some.inj (hg.symm.trans hg0)
  obtain rfl := Option.some.inj (hty.symm.trans ht0)
  obtain ⟨xs, m1, rfl, hx1, hlen, hn, hel⟩ := DataW.trod_array ht hd0
  simp only [Prod.mk.injEq, DataW.agg.injEq] at hx1
  have hxi : i < xs.length := by omega
  have h0 := hel i hi
  rw [List.getElem?_eq_getElem hxi, hce] at h0
  obtain ⟨s, e1, e2, _⟩ := DataW.trod_string he h0
  have hl := congrArg (fun l => l[i]?) hx1.1
  simp only [List.getElem?_map, List.getElem?_eq_getElem hxi, Option.map_some] at hl
  rw [e2] at hl
  obtain ⟨l, hl1, hl2⟩ := Option.map_eq_some_iff.1 hl
  have hl3 : l = s.data.toList := by simpa using hl2
  have hs : s = ⟨(ls.getD i []).toArray⟩ := bytes_inj (by rw [List.getD_eq_getElem?_getD, hl1, hl3]; simp)
  have hv := World.var?_cell hg0 hv0 i
  rw [hv, ← hs]
  have e3 := congrArg (fun l => l[0]?) e1
  simpa using e3

/-- WHAT THE ROWS' LIST GIVES. -/
theorem good_of {W : World} (h0 : laidMetH Tryd.prog Rows.numExactRow.laid W) : Good W := by
  have h : laidMet Tryd.prog Rows.numExactRow.laid W := by rwa [MakeChecks.laidMetH_plain _ _ _ (by kernel_rfl)] at h0
  have hp : Lib.TabIs Tryd.prog W "internal/strconv.uint64pow10" .u64 Lib.pow10Tab := Lib.tabIs_of_head gPow tPow Tryd.underlying89 Tryd.underlying61 cells61 cells89 h.tail.tail
  obtain ⟨a0, s0, hv0, -, -, -⟩ := laid_sentinel h.tail.tail.tail gRange tRange Tryd.underlying58 row86 Tryd.underlying86 Tryd.underlying88 rfl rfl Tryd.underlying9 cells88 cells9
  have hs : SignsIn W := strs_of_laid (ls := signTab) gSigns tSigns Tryd.underlying53 Tryd.underlying9 cells9 h.tail.tail.tail.tail.tail
  obtain ⟨ps, ⟨g1, t1, cs1, f1, p1, q1, hg1, ht1, hv1, hd1, hrest⟩, _, _⟩ := h.tail
  refine ⟨hs, hp, ⟨_, _, hv0⟩, ?_⟩
  have g5 : Tryd.prog.globalNamed "math/bits.deBruijn64tab" = some 5 := by kernel_rfl
  obtain rfl := Option.some.inj (g5.symm.trans hg1)
  simp only [World.var?, hg1, Option.bind_some] at hv1
  rcases Nat.lt_or_ge 5 W.heap.size with h' | h'
  · exact h'
  · simp [Array.getElem?_eq_none h'] at hv1

/-- The world that the door's own run leaves meets the list. -/
theorem door_met (os : Os) (args : Array Value) : laidMetH Tryd.prog Rows.numExactRow.laid ((World.doorLaid Tryd.prog 67 os).forCall (fun _ _ => 0) ⟨#[], args, []⟩).memory :=
  laidMetH_of_parts3 (fuel := 8) (laidMet_of_run' 8 (by kernel_rfl) (by kernel_rfl)) (by kernel_rfl) (by kernel_rfl)

end Go.Proofs.YtgdchlgepgbhhaaDoor
