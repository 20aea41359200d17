/-
  THE DEEDS of the statements, as plain data and in memory; what they make of a heap; a field that is set. No condition.
-/
import Derived.Test.YtjgmhkplgenieaaDoorHAwake
namespace Go.Proofs.YtjgmhkplgenieaaDoor
open Go.RowKit

structure Deed where
  kind : Int
  name : ByteArray
  obj : Int
  field : Int
  n : Int
def DeedAt (w : World) (b o k : Nat) (a : Deed) : Prop := w.cell? ⟨b, o + k * 5, none⟩ = some (.int .i64 a.kind) ∧ w.cell? ⟨b, o + k * 5 + 1, none⟩ = some (.string a.name) ∧ w.cell? ⟨b, o + k * 5 + 2, none⟩ = some (.int .i64 a.obj) ∧ w.cell? ⟨b, o + k * 5 + 3, none⟩ = some (.int .i64 a.field) ∧ w.cell? ⟨b, o + k * 5 + 4, none⟩ = some (.int .i64 a.n)
def AR (w : World) (A : Option Addr) (l : List Deed) : Prop := 0 < l.length → ∃ b o, A = some ⟨b, o, none⟩ ∧ b < w.heap.size ∧ ∀ k a, l[k]? = some a → DeedAt w b o k a
theorem AR.below {w w' : World} {B : Nat} {A : Option Addr} {l : List Deed} (h : AR w A l) (hb : Below B w w') (hB : w.heap.size ≤ B) : AR w' A l := by
  intro h0
  obtain ⟨b, o, hA, hg, hc⟩ := h h0
  refine ⟨b, o, hA, Nat.lt_of_lt_of_le hg hb.size, fun k a ha => ?_⟩
  have c (j : Nat) := hb.cell (p := ⟨b, j, none⟩) (Nat.lt_of_lt_of_le hg hB)
  obtain ⟨x0, x1, x2, x3, x4⟩ := hc k a ha
  exact ⟨(c _).trans x0, (c _).trans x1, (c _).trans x2, (c _).trans x3, (c _).trans x4⟩
def actO (H : Option Hp) (a : Deed) : Option Hp := if a.kind ≤ 2 then (makeO H a.name).1 else setO H a.obj a.field a.n
def runA (H : Option Hp) (l : List Deed) : Option Hp := l.foldl actO H
theorem runA_take {H : Option Hp} {l : List Deed} {k : Nat} {a : Deed} (h : l[k]? = some a) : runA H (l.take (k + 1)) = actO (runA H (l.take k)) a := by
  unfold runA
  rw [List.take_succ_eq_append_getElem (List.getElem?_eq_some_iff.1 h).1, (List.getElem?_eq_some_iff.1 h).2, List.foldl_append]; rfl

section
variable {H : Option Hp} {o f n i k : Int}
theorem set_len : lenO (setO H o f n) = lenO H := by
  unfold setO
  split
  · cases H with
    | none => rfl
    | some H => exact List.length_set
  · rfl
theorem set_has : hasO (setO H o f n) i = hasO H i := by unfold hasO; rw [set_len]
theorem set_ob {H : Hp} {i k j : Nat} {n : Int} : (setH H i k n).ob j = if i = j ∧ i < H.obs.length then { H.ob i with fs := (H.ob i).fs.set k n } else H.ob j := by
  unfold Hp.ob setH
  rw [List.getD_eq_getElem?_getD, List.getElem?_set]
  by_cases h : i = j
  · subst h
    by_cases h2 : i < H.obs.length
    · rw [if_pos rfl, if_pos h2, if_pos ⟨rfl, h2⟩]; rfl
    · rw [if_pos rfl, if_neg h2, if_neg (fun e => h2 e.2), List.getD_eq_getElem?_getD, List.getElem?_eq_none (by omega)]
  · rw [if_neg h, if_neg (fun e => h e.1), List.getD_eq_getElem?_getD]
theorem set_wid {H : Hp} {i k j : Nat} {n : Int} : (setH H i k n).wid j = H.wid j := by
  unfold Hp.wid Hp.st
  rw [set_ob]
  split
  · rename_i h
    rw [← h.1]; rfl
  · rfl
theorem set_ask : askO (setO H o f n) i k = askO H i k := by
  cases H with
  | none => unfold setO; split <;> rfl
  | some H =>
    unfold setO
    split
    · show askH (setH H _ _ n) i k = askH H i k
      have hh := set_has (H := some H) (o := o) (f := f) (n := n) (i := i)
      unfold setO at hh
      rw [if_pos (by assumption)] at hh
      unfold askH
      rw [show hasO (some (setH H (o - 1).toNat f.toNat n)) i = hasO (some H) i from hh, set_wid]
    · rfl
theorem set_same (hok : ∀ H', H = some H' → H'.Ok) (h : askO H o f = 0) : getO (setO H o f n) o f = n := by
  obtain ⟨H', a, b, rfl, ha, rfl, rfl, hb⟩ := ask_zero h
  rw [set_in ha hb, get_in (by show a < (List.set _ _ _).length; rw [List.length_set]; exact ha) (by rw [set_wid]; exact hb), set_ob, if_pos ⟨rfl, ha⟩]
  show (List.set _ _ _).getD _ _ = _
  have h8 : b < (H'.ob a).fs.length := by
    have h1 := (hok H' rfl).fl
    have h2 := (hok H' rfl).wd
    have h3 := (hok H' rfl).sh
    obtain ⟨ob, hob⟩ : ∃ ob, H'.obs[a]? = some ob := ⟨_, List.getElem?_eq_getElem ha⟩
    have e1 : H'.ob a = ob := by unfold Hp.ob; rw [List.getD_eq_getElem?_getD, hob]; rfl
    have hm := List.mem_of_getElem? hob
    rw [e1, h1 ob hm]
    have hs : H'.st a ∈ H'.ss := by
      unfold Hp.st
      rw [e1, List.getD_eq_getElem?_getD, List.getElem?_eq_getElem (h3 ob hm)]
      exact List.getElem_mem _
    have := h2 _ hs
    unfold Hp.wid at hb
    omega
  rw [List.getD_eq_getElem?_getD, List.getElem?_set_self h8]; rfl
theorem set_other (h : askO H o f ≠ 0 ∨ i ≠ o ∨ k ≠ f) : getO (setO H o f n) i k = getO H i k := by
  by_cases h0 : askO H o f = 0
  · have h := h.resolve_left (fun e => e h0)
    by_cases h1 : askO H i k = 0
    · obtain ⟨H', a, b, rfl, ha, rfl, rfl, hb⟩ := ask_zero h0
      obtain ⟨H2, a2, b2, e, ha2, rfl, rfl, hb2⟩ := ask_zero h1
      cases e
      rw [set_in ha hb, get_in (by show a2 < (List.set _ _ _).length; rw [List.length_set]; exact ha2) (by rw [set_wid]; exact hb2), get_in ha2 hb2, set_ob]
      split
      · rename_i e
        obtain rfl := e.1
        show (List.set _ _ _).getD _ _ = _
        rw [List.getD_eq_getElem?_getD, List.getElem?_set_ne (by rcases h with h | h <;> omega), ← List.getD_eq_getElem?_getD]
      · rfl
    · rw [get_no h1, get_no (by rw [set_ask]; exact h1)]
  · rw [set_no h0]
end
theorem PM.ok {w : World} {P : Nat → Prop} {v : Value} {H : Option Hp} (h : PM w P v H) : ∀ H', H = some H' → H'.Ok := by
  intro H' e
  subst e
  obtain ⟨_, _, _, _, h2⟩ := h
  exact h2.ok
theorem SP.ok {W w : World} {F : Nat → Prop} {v : Value} {H : Option Hp} (h : SP W w F v H) : ∀ H', H = some H' → H'.Ok := by
  obtain ⟨P, _, h2⟩ := h
  exact h2.ok
theorem SP.beside {W w w' : World} {v : Value} {H : Option Hp} (h : SP W w NoF v H) (hb : Below w.heap.size w w') : SP W w' (Nw w w') v H := by
  obtain ⟨P, h1, h2⟩ := h
  exact ⟨P, fun i hi => ⟨(h1 i hi).1, Nat.lt_of_lt_of_le (h1 i hi).2.1 hb.size, fun e => by have := (h1 i hi).2.1; have := e.1; omega⟩, h2.below hb⟩

end Go.Proofs.YtjgmhkplgenieaaDoor
