/-
  RULES: a region that draws its order, taken step by step, over a predicate of worlds that is kept. No condition.
-/
import Derived.Test.YtpaddigjjlidcaaFlMem
import Derived.Deep.RegionHeld3
namespace Go.Proofs.Ytpaddigjjlidcaa
open Go.RowKit

theorem put_df (a : Act) (d : Option Tmp) (v : Value) : (a.put d v).defers = a.defers := by cases d <;> rfl
section
variable {P : Program} {ops : Array Oper} {Q : Exit → Act → World → Prop} {S : World → Prop} {fuel : Nat} {listed : Array Bool} {a : Act} {w : World}
/-- What is asked at a panic hangs on no slot. -/
def PutOk (Q : Exit → Act → World → Prop) : Prop := ∀ c a d v w, Q (.panic c) (a.put d v) w → Q (.panic c) a w
theorem rgS (S : World → Prop) {id : Nat} (hm : P.follows .mixedOrders = true) (hS : S w.drew) (hq : PutOk Q)
    (h : S w.drew → PutOk Q → wpAnyH P .any ops Q S ops.size (Array.replicate ops.size false) a w.drew) : (Code.region id ops true).wp P Q a w :=
  wp_region_held hm (h hS hq)
theorem tkS (i : Nat) (oi : Oper) {v : Value} (hq : PutOk Q) (hS : S w) (hi : ops[i]? = some oi) (hb : (Region.noSelect ops && Region.free .any ops listed i && (Region.ready .any ops listed).contains i && Region.wanted oi (yielded ops a.tmps)) = true)
    (hy : ∀ w, S w → (execOp a.eval oi).run P w = .ok (.value v) w)
    (h : wpAnyH P .any ops Q S fuel (listed.setIfInBounds i true) (a.put oi.dst v) w) : wpAnyH P .any ops Q S (fuel + 1) listed a w := by
  simp only [Bool.and_eq_true] at hb
  exact wpAnyH_take hi hb.1.1.1 hb.1.1.2 hb.1.2 (fun c a w => hq c a _ _ w) (.inl ⟨hb.2, hy⟩) hS h
theorem skS (i : Nat) (oi : Oper) (hq : PutOk Q) (hS : S w) (hi : ops[i]? = some oi) (hb : (Region.noSelect ops && Region.free .any ops listed i && (Region.ready .any ops listed).contains i && !Region.wanted oi (yielded ops a.tmps)) = true)
    (h : wpAnyH P .any ops Q S fuel (listed.setIfInBounds i true) (a.put oi.dst undef) w) : wpAnyH P .any ops Q S (fuel + 1) listed a w := by
  simp only [Bool.and_eq_true, Bool.not_eq_true'] at hb
  exact wpAnyH_take hi hb.1.1.1 hb.1.1.2 hb.1.2 (fun c a w => hq c a _ _ w) (.inr ⟨hb.2, rfl⟩) hS h
theorem clS (i : Nat) (o : Oper) (ho : ops[i]? = some o) (hr : Region.ready .any ops listed = [i]) (hw : Region.wanted o (yielded ops a.tmps) = true)
    (h : ∀ K' : Act → World → Prop, Shut (∀ a w, S w → (S w → wpAnyH P .any ops Q S fuel (listed.setIfInBounds i true) a w) → K' a w) → Oper.wp P o a w K' Q) : wpAnyH P .any ops Q S (fuel + 1) listed a w :=
  wpAnyH_ready hr (by simp) (AllReadyH.cons ho (fun K hK => by rw [if_pos hw]; exact h K hK) AllReadyH.nil)
end
theorem putOkB {P : Program} {fn : Func} {R : Ending → World → Prop} : PutOk (bodyPost P fn R) := fun _ a d v _ h => ⟨(put_df a d v).symm.trans h.1, h.2⟩
theorem putOkT {K : Act → World → Prop} {Q : Exit → Act → World → Prop} (h : PutOk Q) : PutOk (Exit.then K Q) := fun c a d v w h' => h c a d v w h'
theorem putOkI {n : Nat} {Q : Exit → Act → World → Prop} (h : PutOk Q) : PutOk (Exit.inBlock n Q) := fun c a d v w h' => h c a d v w h'

end Go.Proofs.Ytpaddigjjlidcaa
