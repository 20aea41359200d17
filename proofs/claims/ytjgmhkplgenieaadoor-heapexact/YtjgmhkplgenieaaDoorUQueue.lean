/-
  A QUEUE IN MEMORY: a slice of numbers of which the first ones may have been cut off; the law of 'append' for it. No condition.
-/
import Derived.Test.YtjgmhkplgenieaaDoorHAdd
import Derived.ArgAppend
namespace Go.Proofs.YtjgmhkplgenieaaDoor
open Go Go.RowKit

/-- The value reads as these numbers; where it has room, that is its own (blocks from base on). -/
def QS (w : World) (base : Nat) (v : Value) (ls : List Int) : Prop :=
  (∃ ao, v = .slice ao 0 0 ∧ ls = []) ∨ ∃ g off cap cur, v = .slice (some ⟨g, off, none⟩) ls.length cap ∧ base ≤ g ∧ w.heap[g]? = some (.cells cur 3 (0, 0)) ∧ ls.length ≤ cap ∧ cap ≤ maxLen ∧ cur.size = off + cap ∧ ∀ (j : Nat) n, ls[j]? = some n → cur[off + j]? = some (.int .i64 n)
theorem QS.sv {w w' : World} {P : Nat → Prop} {base : Nat} {v : Value} {ls : List Int} (h : QS w base v ls) (hs : Sv P w w') (hp : ∀ g, base ≤ g → ¬ P g) : QS w' base v ls := by
  rcases h with h | ⟨g, off, cap, cur, h1, h2, h3, h4⟩
  · exact .inl h
  · exact .inr ⟨g, off, cap, cur, h1, h2, (hs.block g (Array.getElem?_eq_some_iff.1 h3).1 (hp g h2)).trans h3, h4⟩
theorem QS.below {w w' : World} {base : Nat} {v : Value} {ls : List Int} (h : QS w base v ls) (hs : Below w.heap.size w w') : QS w' base v ls := h.sv (Sv.of (P := fun _ => False) hs) (fun _ _ h => h)
theorem QS.form {w : World} {base : Nat} {v : Value} {ls : List Int} (h : QS w base v ls) : ∃ ao cap, v = .slice ao ls.length cap ∧ ls.length ≤ cap := by
  rcases h with ⟨ao, rfl, rfl⟩ | ⟨g, off, cap, cur, h1, _, _, h2, _⟩
  · exact ⟨ao, 0, rfl, Nat.le_refl _⟩
  · exact ⟨_, cap, h1, h2⟩
theorem QS.head {w : World} {base : Nat} {v : Value} {x : Int} {ls : List Int} (h : QS w base v (x :: ls)) : ∃ g off cap, v = .slice (some ⟨g, off, none⟩) (ls.length + 1) cap ∧ ls.length + 1 ≤ cap ∧ w.cell? ⟨g, off, none⟩ = some (.int .i64 x) ∧
    (1 < cap → QS w base (.slice (some ⟨g, off + 1, none⟩) ls.length (cap - 1)) ls) ∧ (cap = 1 → ls = []) := by
  rcases h with ⟨ao, _, e⟩ | ⟨g, off, cap, cur, rfl, h2, h3, h4, h5, h6, h7⟩
  · cases e
  · have hl : ls.length + 1 ≤ cap := h4
    refine ⟨g, off, cap, rfl, hl, ?_, fun h => .inr ⟨g, off + 1, cap - 1, cur, rfl, h2, h3, by omega, by omega, by omega, fun j n hn => ?_⟩, fun h => List.eq_nil_of_length_eq_zero (by omega)⟩
    · rw [cell_of_row w g off cur 3 (0, 0) h3]
      exact h7 0 x rfl
    · rw [show off + 1 + j = off + (j + 1) by omega]
      exact h7 (j + 1) n (by simpa using hn)
theorem qs_nil (w : World) (base : Nat) (ao : Option Addr) : QS w base (.slice ao 0 0) [] := .inl ⟨ao, rfl, rfl⟩
theorem own_qs {w : World} {base n : Nat} {v : Value} {ls : List Int} (h : w.ownsRow base 3 1 v n (intsZ ls)) : QS w base v ls := by
  obtain ⟨h1, h2⟩ := h
  have hl : ls.length = n := by unfold intsZ at h1; simpa using h1
  rcases h2 with ⟨rfl, h0⟩ | ⟨g, cap, cur, rfl, h3, h4, h5, h6, h7, h8⟩
  · exact .inl ⟨none, rfl, List.eq_nil_of_length_eq_zero (by omega)⟩
  · refine .inr ⟨g, 0, cap, cur, by rw [hl], h3, h4, by omega, h6, by omega, fun j x hx => ?_⟩
    have hj : j < ls.length := (List.getElem?_eq_some_iff.1 hx).1
    have e : (intsZ ls)[j]? = some (.int .i64 x) := by unfold intsZ; rw [List.getElem?_map, hx]; rfl
    rw [← h8, List.getElem?_take, if_pos (by omega)] at e
    rw [Nat.zero_add]
    simpa using e

theorem ownM {w : World} {base base' : Nat} {e : TypeId} {size : Nat} {v : Value} {n : Nat} {xs : List Value} (h : w.ownsRow base e size v n xs) (hb : base' ≤ base) : w.ownsRow base' e size v n xs :=
  ⟨h.1, h.2.imp id fun ⟨g, cap, cur, h1, h2, h3⟩ => ⟨g, cap, cur, h1, Nat.le_trans hb h2, h3⟩⟩
/-- ONE NUMBER MORE. -/
theorem wpList_append_q {P : Program} (w : World) {ops : Array Oper} {rest : List Oper} {o : Oper} {a : Act} {Q : Exit → Act → World → Prop} (hgd : o.guard = none) (s x : Operand) (t : TypeId)
    (ho : o.op = .call { callee := .builtin .append, args := #[s, x], argTypes := #[t, t] })
    (base : Nat) (i : TypeInfo) (z : Value) (ht : P.underlying t = some (.slice 3)) (hi : P.info? 3 = some i) (hz : i.zero = some z) (hsize : i.size = 1) (hby : i.bytes = 8) (hzs : z.cells.size = 1)
    {v : Value} {ls : List Int} (hs : a.eval s = v) (h : QS w base v ls) (ad : Addr) (c : Nat) (k : Int) (hx : a.eval x = .slice (some ad) 1 c) (hnews : w.cell? ad = some (.int .i64 k)) (hl : ls.length < 1099511627776) (hb : base ≤ w.heap.size)
    (hK : ∀ v' w', QS w' base v' (ls ++ [k]) → Below base w w' → wpList P ops Q rest (a.put o.dst v') w') : wpList P ops Q (o :: rest) a w := by
  refine wpList_plain hgd fun K hK' => ?_
  have hn : ∀ (j : Nat) u, [Value.int .i64 k][j]? = some u → w.cell? (ad.add j) = some u := by
    intro j u hu
    cases j with
    | zero => cases hu; rw [Go.Addr.add_zero']; exact hnews
    | succ j => simp at hu
  have h1c : ∀ u ∈ [Value.int .i64 k], u.oneCell' = true := by simp [Value.oneCell']
  have main : ∃ v' w', (Builtin.append_ #[t, t] o.type #[v, .slice (some ad) 1 c]).run P w = .ok v' w' ∧ QS w' base v' (ls ++ [k]) ∧ Below base w w' := by
    rcases h with ⟨ao, rfl, rfl⟩ | ⟨g, off, cap, cur, rfl, h2, h3, h4, h5, h6, h7⟩
    · cases ao with
      | none =>
        obtain ⟨v', w', hrun, r1, r2, _⟩ := run_append_own (P := P) w w.heap.size t o.type 3 i z 1 8 ht hi hz hsize hby hzs (by omega) (.slice none 0 0) 0 [] (World.ownsRow_nil w _ 3 1) ad 1 c [.int .i64 k] rfl hn h1c (by simp [maxLen]) (by omega) (Nat.le_refl _)
        exact ⟨v', w', hrun, own_qs (n := 1) (ls := [k]) ((ownM r1 hb)), (Below.refl _ _).grown r2 hb (fun _ e => by simp [Value.ownBlock] at e)⟩
      | some b =>
        obtain ⟨v', w', hrun, r1, r2⟩ := run_append_arg_grows (P := P) w t o.type 3 i z 1 8 ht hi hz hsize hby hzs (by omega) b 0 0 [] rfl (fun _ _ h => by simp at h) ad 1 c [.int .i64 k] rfl hn (by omega) (by simp [maxLen]) (by omega)
        exact ⟨v', w', hrun, own_qs (n := 1) (ls := [k]) ((ownM r1 hb)), (Below.refl _ _).grown r2 hb (fun _ e => by cases e)⟩
    · by_cases hr : ls.length + 1 ≤ cap
      · have hcs : ∀ j, j < [Value.int .i64 k].length → (w.cell? ⟨g, off + ls.length * i.size + j, none⟩).isSome = true := by
          intro j hj
          have : j = 0 := by simpa using hj
          subst this
          rw [hsize, Nat.mul_one, Nat.add_zero, cell_of_row w g _ cur 3 (0, 0) h3, Array.getElem?_eq_getElem (by omega)]; rfl
        have hfz : ∀ j, j < [Value.int .i64 k].length → w.frozen? ⟨g, off + ls.length * i.size + j, none⟩ = false := fun j _ => frozen_of_row w g _ cur 3 h3
        have hrun := run_append_room_cells (P := P) w t o.type 3 i ht hi g off ls.length cap ad 1 c [.int .i64 k] (by rw [hsize]; rfl) hn h1c hr hcs hfz
        rw [hsize, Nat.mul_one] at hrun
        refine ⟨_, _, hrun, .inr ⟨g, off, cap, cur.setIfInBounds (off + ls.length) (.int .i64 k), by rw [List.length_append]; rfl, h2, heap_setCell_same w g (off + ls.length) cur 3 _ h3, by rw [List.length_append]; exact hr, h5, by simpa using h6, fun j n hj => ?_⟩, (Below.refl _ _).setCell (p := ⟨g, off + ls.length, none⟩) h2 _⟩
        rw [List.getElem?_append] at hj
        rw [Array.getElem?_setIfInBounds]
        split at hj
        · rename_i hjl
          rw [if_neg (by omega)]
          exact h7 j n hj
        · rename_i hjl
          have hj0 : j - ls.length = 0 := by
            have := (List.getElem?_eq_some_iff.1 hj).1
            simp at this; omega
          rw [hj0] at hj
          cases hj
          rw [if_pos (by omega), if_pos (by omega)]
      · obtain ⟨v', w', hrun, r1, r2⟩ := run_append_arg_grows (P := P) w t o.type 3 i z 1 8 ht hi hz hsize hby hzs (by omega) ⟨g, off, none⟩ ls.length cap (intsZ ls) (by unfold intsZ; simp)
          (fun j u hu => by
            rw [Addr.add_lit, cell_of_row w g _ cur 3 (0, 0) h3]
            unfold intsZ at hu
            rw [List.getElem?_map] at hu
            obtain ⟨n, hn1, rfl⟩ := Option.map_eq_some_iff.1 hu
            exact h7 j n hn1) ad 1 c [.int .i64 k] rfl hn (by omega) (by simp only [maxLen]; omega) (by omega)
        refine ⟨v', w', hrun, own_qs (n := ls.length + 1) (ls := ls ++ [k]) ?_, (Below.refl _ _).grown r2 hb (fun _ e => by cases e)⟩
        have := ownM r1 hb
        unfold intsZ at this ⊢
        rw [List.map_append]; exact this
  obtain ⟨v', w', hrun, q1, q2⟩ := main
  unfold Oper.wp
  simp [execOp, ho, resolve, invoke, builtin, hs, hx, hrun, Result.andThen]
  exact hK' _ _ (hK v' w' q1 q2)

end Go.Proofs.YtjgmhkplgenieaaDoor
