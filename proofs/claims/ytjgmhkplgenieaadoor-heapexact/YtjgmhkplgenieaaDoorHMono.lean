/-
  PLAIN: more roots reach no less; with a link set to nil nobody more is reached. No condition.
-/
import Derived.Test.YtjgmhkplgenieaaDoorHLaw
namespace Go.Proofs.YtjgmhkplgenieaaDoor
open Go.RowKit

theorem rd_roots {H : Option Hp} {r r' : List Int} (h : ∀ x ∈ r, x ∈ r') {x : Int} (hx : Rd H r x) : Rd H r' x := by
  induction hx with
  | base h1 h2 => exact .base (h _ h1) h2
  | step _ h2 ih => exact .step ih h2
theorem set_st {H : Hp} {i k j : Nat} {n : Int} : (setH H i k n).st j = H.st j := by
  unfold Hp.st
  rw [set_ob]
  split
  · rename_i h
    rw [← h.1]; rfl
  · rfl
theorem set0_near {H : Option Hp} {o f x y : Int} (h : y ∈ nearO (setO H o f 0) x) : y ∈ nearO H x := by
  by_cases h0 : askO H o f = 0
  · obtain ⟨H', a, b, rfl, ha, rfl, rfl, hb⟩ := ask_zero h0
    have hs : ∀ z, hasO (some (setH H' a b 0)) z = hasO (some H') z := fun z => by
      have := set_has (H := some H') (o := (a : Int) + 1) (f := b) (n := 0) (i := z)
      rwa [set_in ha hb] at this
    rw [set_in ha hb] at h
    replace h : y ∈ (if hasO (some (setH H' a b 0)) x = true then nrL (setH H' a b 0) (x - 1).toNat else []) := h
    show y ∈ (if hasO (some H') x = true then nrL H' (x - 1).toNat else [])
    rw [hs] at h
    split at h
    · rename_i hx
      rw [if_pos hx]
      obtain ⟨k, hk, h1, h2⟩ := nrL_mem.1 h
      refine nrL_mem.2 ⟨k, hk, ?_⟩
      unfold nrB at h1 ⊢
      rw [set_st, hs, h2] at h1
      have hf : fsd H' (x - 1).toNat k = y := by
        unfold fsd at h2 ⊢
        rw [set_ob] at h2
        split at h2
        · rename_i e
          obtain rfl := e.1
          by_cases hkb : b = k
          · subst hkb
            exfalso
            replace h2 : (List.set (H'.ob (x - 1).toNat).fs b 0).getD b 0 = y := h2
            have hy : y = 0 := by
              rw [← h2, List.getD_eq_getElem?_getD, List.getElem?_set]
              split
              · split <;> rfl
              · rename_i e2; exact absurd rfl e2
            rw [Bool.and_eq_true, hy] at h1
            have := h1.2
            unfold hasO at this
            rw [Bool.and_eq_true, decide_eq_true_eq] at this
            omega
          · replace h2 : (List.set (H'.ob (x - 1).toNat).fs b 0).getD k 0 = y := h2
            rwa [List.getD_eq_getElem?_getD, List.getElem?_set_ne hkb, ← List.getD_eq_getElem?_getD] at h2
        · exact h2
      rw [hf]
      exact ⟨h1, rfl⟩
    · cases h
  · rwa [set_no h0] at h
theorem rd_set0 {H : Option Hp} {o f : Int} {r : List Int} {x : Int} (hx : Rd (setO H o f 0) r x) : Rd H r x := by
  induction hx with
  | base h1 h2 => exact .base h1 (by rwa [set_has] at h2)
  | step _ h2 ih => exact .step ih (set0_near h2)
def ledB (H : Option Hp) (roots rs : List Int) (x : Int) (k : Nat) : Bool := roots.contains x || (rs.take k).any fun y => (nearO H y).contains x
theorem led_all {H : Option Hp} {roots rs : List Int} (h : HRc H roots rs) {x : Int} (hx : x ∈ rs) : ledB H roots rs x rs.length = true := by
  unfold ledB
  rw [List.take_length, Bool.or_eq_true, List.any_eq_true]
  have h1 := (h.mem x).1 hx
  cases h1 with
  | base h2 _ => left; simpa using h2
  | step h2 h3 => exact .inr ⟨_, (h.mem _).2 h2, by simpa using h3⟩
theorem led_step {H : Option Hp} {roots rs : List Int} {x y : Int} {k : Nat} (h : rs[k]? = some y) : ledB H roots rs x (k + 1) = (ledB H roots rs x k || (nearO H y).contains x) := by
  unfold ledB
  rw [List.take_succ_eq_append_getElem (List.getElem?_eq_some_iff.1 h).1, (List.getElem?_eq_some_iff.1 h).2, List.any_append, List.any_cons, List.any_nil, Bool.or_false, Bool.or_assoc]
theorem near_len8 (H : Option Hp) (x : Int) : (nearO H x).length ≤ 8 := by
  unfold nearO
  cases H with
  | none => simp
  | some H => simp only; split
              · exact nrL_len _ _
              · simp
theorem IRz.sv {w w' : World} {Q : Nat → Prop} {A : Option Addr} {l : List Int} (h : IRz w A l) (hb : Sv Q w w') (hq : 0 < l.length → ∀ a, A = some a → ¬ Q a.block) : IRz w' A l := by
  intro h0
  obtain ⟨b, o, hA, hg, hc⟩ := h h0
  refine ⟨b, o, hA, Nat.lt_of_lt_of_le hg hb.size, fun k n hn => ?_⟩
  have e : w'.heap[b]? = w.heap[b]? := hb.block b hg (hq h0 _ hA)
  rw [← hc k n hn]
  exact World.cell?_of_block (w := w) (a := ⟨b, o + k, none⟩) e

end Go.Proofs.YtjgmhkplgenieaaDoor
