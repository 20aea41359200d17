/-
  WHAT THE PROGRAM's OWN FUNCTIONS OF flow ANSWER, as premises of the walks: readers, shapes. No condition.
-/
import Derived.Test.YtpaddigjjlidcaaFlReg
import Derived.Test.YtpaddigjjlidcaaFlOrder
import Derived.Test.YtpaddigjjlidcaaOrdF
import Derived.Test.YtpaddigjjlidcaaFlEq
namespace Go.Proofs.Ytpaddigjjlidcaa
open Go.RowKit

def boolR : Rdr Bool := fun _ cs b => cs = [.bool b]
theorem kp_bool : Kp boolR := ⟨fun h _ _ => h⟩
theorem kp_pr : Kp prR := ⟨fun h _ _ => h⟩
theorem kp_slC {α : Type} {c : Nat} {R : Rdr α} (h : Kp R) : Kp (slC c R) := ⟨fun ⟨v, e, q⟩ hb hB => ⟨v, e, q.below h hb hB⟩⟩
theorem FM.drop {E : FE} {w w' : World} (h : FM E w) (hb : Below w.heap.size w w') : FM E w' := h.below hb (Nat.le_refl _)
theorem SL.drop {α : Type} {c : Nat} {R : Rdr α} (hR : Kp R) {w w' : World} {A : Option Addr} {l : List α} (h : SL c R w A l) (hb : Below w.heap.size w w') : SL c R w' A l := h.below hR hb (Nat.le_refl _)
theorem SL.at {α : Type} {c : Nat} {R : Rdr α} {w : World} {g o : Nat} {l : List α} (h : SL c R w (some ⟨g, o, none⟩) l) {k : Nat} {x : α} (hx : l[k]? = some x) : ∃ cs, R w cs x ∧ ∀ j v, cs[j]? = some v → w.cell? ⟨g, o + k * c + j, none⟩ = some v := by
  obtain ⟨g2, o2, e, -, hc⟩ := h (by have := (List.getElem?_eq_some_iff.1 hx).1; omega)
  injection e with e
  injection e with e1 e2
  subst e1 e2
  exact hc k x hx
theorem SL.some {α : Type} {c : Nat} {R : Rdr α} {w : World} {A : Option Addr} {l : List α} (h : SL c R w A l) (h0 : 0 < l.length) : ∃ g o, A = .some ⟨g, o, none⟩ := by
  obtain ⟨g, o, e, -⟩ := h h0
  exact ⟨g, o, e⟩
/-- A row that a function answers. -/
def RQ {α : Type} (c : Nat) (R : Rdr α) (l : List α) (w : World) (e : Ending) (w' : World) : Prop := ∃ A k, e = .returned (.slice A l.length k) ∧ l.length ≤ k ∧ SL c R w' A l ∧ Below w.heap.size w w'
theorem NQ.rq {l : List Int} {w w' : World} {e : Ending} (h : NQ l w e w') (hi : ∀ x ∈ l, I64 x) : RQ 1 intR l w e w' := by
  obtain ⟨v, rfl, hO, hb⟩ := h
  obtain ⟨A, c, rfl, hc, hS⟩ := hO.sl hi
  exact ⟨A, c, rfl, hc, hS, hb⟩
def ahL (bl : List Blk) : List (List Int) := (List.range bl.length).map fun (i : Nat) => aheadL bl i
/-- Of a place the first block whose List has it; -1. -/
def whB (bl : List Blk) (p : Int) : Int := match bl.findIdx? (fun x => hasJ x.list p) with | some i => (i : Int) | none => -1
def whL (f : Fn) : List Int := (List.range f.ins.length).map fun (p : Nat) => whB f.blocks p
/-- All pairs of a block of the order and a next one that stands not behind it. -/
def backL (bl : List Blk) (o : List Int) : List (Int × Int) :=
  (List.range bl.length).flatMap fun (i : Nat) => if (i : Int) ∈ o then ((List.range bl.length).filter fun (k : Nat) => decide ((k : Int) ∈ nextL bl i) && decide (o.idxOf (k : Int) ≤ o.idxOf (i : Int))).map fun (k : Nat) => ((i : Int), (k : Int)) else []
/-- What the program's functions answer. -/
structure FlC : Prop where
  awake : ∀ w : World, Calls Try.prog 7 #[] w fun e w' => e = .returned (.bool true) ∧ Below w.heap.size w w'
  next : ∀ (E : FE) (n : Int) (w : World), FM E w → I64 n → wideB E.f = false → Calls Try.prog 13 #[E.v, .int .i64 n] w (RQ 1 intR (nextL E.f.blocks n) w)
  ahead : ∀ (E : FE) (w : World), FM E w → wideB E.f = false → Calls Try.prog 9 #[E.v] w (RQ 1 (slC 1 intR) (ahL E.f.blocks) w)
  reached : ∀ (E : FE) (w : World), FM E w → wideB E.f = false → Calls Try.prog 10 #[E.v] w fun e w' => ∃ fl, Flags (gr E.f.blocks) E.f.blocks.length fl ∧ RQ 1 boolR fl w e w'
  order : ∀ (E : FE) (w : World), FM E w → wideB E.f = false → Calls Try.prog 15 #[E.v] w fun e w' => ∃ o, OrdR E.f.blocks o ∧ RQ 1 intR o w e w'
  whr : ∀ (E : FE) (w : World), FM E w → wideB E.f = false → Calls Try.prog 18 #[E.v] w (RQ 1 intR (whL E.f) w)
  back : ∀ (E : FE) (w : World), FM E w → wideB E.f = false → Calls Try.prog 19 #[E.v] w fun e w' => ∃ o, OrdR E.f.blocks o ∧ RQ 2 prR (backL E.f.blocks o) w e w'

theorem ahead_in {bl : List Blk} {n : Int} : ∀ {i : Nat} {x : Int}, x ∈ aheadTo bl n i → 0 ≤ x ∧ x < i
  | 0, x, h => by cases h
  | i + 1, x, h => by
    unfold aheadTo at h
    rcases List.mem_append.1 h with h | h
    · have := ahead_in h; omega
    · split at h
      · obtain rfl := List.mem_singleton.1 h
        omega
      · cases h
theorem ahead_i64 {bl : List Blk} {n : Int} (hl : bl.length ≤ 1000000) : ∀ x ∈ aheadL bl n, I64 x := fun x hx => by
  have := ahead_in (i := bl.length) hx
  exact ⟨by omega, by omega⟩
theorem wide_le {f : Fn} (h : wideB f = false) : f.ins.length ≤ 300 ∧ f.blocks.length ≤ 60 ∧ sumTo Blk.list f.blocks f.blocks.length ≤ 1500 := by
  unfold wideB at h
  simp only [Bool.or_eq_false_iff, decide_eq_false_iff_not] at h
  omega
theorem ord_in {bl : List Blk} {o : List Int} (h : OrdR bl o) : ∀ x ∈ o, 0 ≤ x ∧ x < bl.length := fun x hx => by
  by_cases h0 : 0 < bl.length
  · exact (ord_facts h h0).rg x hx
  · unfold OrdR at h
    rw [if_pos (by omega)] at h
    rw [h] at hx; cases hx
theorem ord_i64 {bl : List Blk} {o : List Int} (h : OrdR bl o) (hl : bl.length ≤ 1000000) : ∀ x ∈ o, I64 x := fun x hx => by
  have := ord_in h x hx
  exact ⟨by omega, by omega⟩
theorem nodup_le : ∀ (m : Nat) (l : List Int), l.Nodup → (∀ x ∈ l, 0 ≤ x ∧ x < m) → l.length ≤ m
  | 0, [], _, _ => Nat.le_refl _
  | 0, x :: r, _, h => by have := h x List.mem_cons_self; omega
  | m + 1, l, hn, h => by
    have h1 := nodup_le m (l.erase (m : Int)) (hn.erase _) (fun x hx => by
      have h2 := (hn.mem_erase_iff).1 hx
      have := h x h2.2
      have := h2.1
      omega)
    rw [List.length_erase] at h1
    split at h1 <;> omega
theorem ord_len {bl : List Blk} {o : List Int} (h : OrdR bl o) : o.length ≤ bl.length := by
  by_cases h0 : 0 < bl.length
  · have hf := ord_facts h h0
    exact nodup_le _ _ hf.nd hf.rg
  · unfold OrdR at h
    rw [if_pos (by omega)] at h
    rw [h]; simp
end Go.Proofs.Ytpaddigjjlidcaa
