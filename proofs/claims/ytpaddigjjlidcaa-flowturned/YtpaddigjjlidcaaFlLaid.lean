/-
  FROM A ROW's ARGUMENTS: a function of a program is read. No condition.
-/
import Derived.Test.YtpaddigjjlidcaaRows
import Derived.Test.YtpaddigjjlidcaaFlMem
import Derived.WalkKit
import Derived.ProofKit
import Derived.OpenShut
import Derived.LaidMore
import Derived.Carry
import Derived.SizedLaws
import Derived.Deep.DeepHandedRow
import Derived.Deep.DeepWitnessRowRef
namespace Go.Proofs.Ytpaddigjjlidcaa
open Go.ChangeShapes Go.WideShapes Go.ChangeAt Go.RowKit Go.Deep

theorem own : ownKnob Try.prog.godebug = none := by kernel_rfl
theorem laidOut : laidOutB Try.prog = true := by kernel_rfl
section
variable {H : Type} {enc : TypeId × Value → H} {W : World}
theorem o3 : Opens enc Try.prog W 3 intR := opens_int Try.underlying3
theorem o9 : Opens enc Try.prog W 9 strR := opens_str Try.underlying9
theorem o34 : Opens enc Try.prog W 34 (slC 1 intR) := opens_sl (k := 8) Try.underlying34 (by kernel_rfl) (by kernel_rfl) (by omega) (by omega) (fun cs a h => by rw [h.1]; rfl) o3
theorem o22 : Opens enc Try.prog W 22 (slC 1 strR) := by
  haveI : Inhabited ByteArray := ⟨⟨#[]⟩⟩
  exact opens_sl (k := 16) Try.underlying22 (by kernel_rfl) (by kernel_rfl) (by omega) (by omega) (fun cs a h => by rw [h.1]; rfl) o9
theorem o38 : Opens enc Try.prog W 38 prR := opens_pr Try.underlying38 Try.underlying3 (by kernel_rfl) (by kernel_rfl)
theorem o93 : Opens enc Try.prog W 93 insR := opens_ins Try.underlying93 (by kernel_rfl) ⟨rfl, rfl, rfl, rfl, rfl⟩ ⟨by kernel_rfl, by kernel_rfl, by kernel_rfl, by kernel_rfl, by kernel_rfl⟩ o3 o9 o34 o3 o9
theorem o40 : Opens enc Try.prog W 40 blkR := opens_blk Try.underlying40 (by kernel_rfl) ⟨rfl, rfl, rfl, rfl⟩ ⟨by kernel_rfl, by kernel_rfl, by kernel_rfl, by kernel_rfl⟩ o34 o3 o3 o38
theorem o23 : Opens enc Try.prog W 23 (slC 5 insR) := by
  haveI : Inhabited Ins := ⟨⟨0, ⟨#[]⟩, [], 0, ⟨#[]⟩⟩⟩
  exact opens_sl (k := 72) Try.underlying23 (by kernel_rfl) (by kernel_rfl) (by omega) (by omega) (fun cs a h => by obtain ⟨v, rfl, -⟩ := h; rfl) o93
theorem o24 : Opens enc Try.prog W 24 (slC 5 blkR) := by
  haveI : Inhabited Blk := ⟨⟨[], 0, 0, 0, 0⟩⟩
  exact opens_sl (k := 56) Try.underlying24 (by kernel_rfl) (by kernel_rfl) (by omega) (by omega) (fun cs a h => by obtain ⟨v, rfl, -⟩ := h; rfl) o40
theorem o26 : Opens enc Try.prog W 26 fnR := opens_fn Try.underlying26 (by kernel_rfl) ⟨rfl, rfl, rfl, rfl, rfl, rfl⟩ ⟨by kernel_rfl, by kernel_rfl, by kernel_rfl, by kernel_rfl, by kernel_rfl, by kernel_rfl⟩ o9 o22 o9 o22 o23 o24
/-- A function that is handed in. -/
theorem open_fun {base : Nat} {v : Value} {d : DataW H} {p : List MemPlace} (hval : Value.okWide Try.prog W .any base 26 v) (h : DataW.Trod enc Try.prog W 0 (fun _ => true) true 26 v d p) (hw : ∀ n ∈ d.weights Try.prog 26, n ≤ reachBytes) : ∃ E : FE, v = E.v ∧ FM E W := by
  obtain ⟨cs, rfl, -⟩ := okWide_struct Try.underlying26 hval
  obtain ⟨fuel, hf⟩ := h
  obtain ⟨f, hr⟩ := o26 fuel _ _ hf hw
  obtain ⟨E, -, hc, hM⟩ := fe_of hr
  have hc : cs.toList = E.row.toList := hc
  exact ⟨E, by unfold FE.v; rw [Array.toList_inj.1 hc], hM⟩
end

theorem weights_at {H : Type} {ts : List TypeId} {ds : List (DataW H)} (h : (DataW.weightsEach Try.prog ts ds).all (· ≤ reachBytes) = true) {j : Nat} {t : TypeId} {d : DataW H} (ht : ts[j]? = some t) (hd : ds[j]? = some d) :
    ∀ n ∈ d.weights Try.prog t, n ≤ reachBytes := fun n hn => by
  have := List.all_eq_true.1 h _ (DataW.weights_mem_each ht hd n hn)
  simpa using this

theorem laid_none (P : Program) (W : World) : laidMetH P [] W := ⟨[], rfl, by simp, fun _ _ h => by cases h⟩
end Go.Proofs.Ytpaddigjjlidcaa
