/-
  CONTRACT: ir.Clone: a program in new memory. Of what was there nothing has turned.
-/
import Derived.Test.YtcbjcpmkebbfaaaDoorClFn
namespace Go.Proofs.YtcbjcpmkebbfaaaDoor
open Go.RowKit

/-- No row is longer than memory has room for. -/
structure SmP (p : Pg) : Prop where
  s : p.structs.length ≤ 1099511627776
  g : p.globals.length ≤ 1099511627776
  f : p.funs.length ≤ 1099511627776
  sf : ∀ x ∈ p.structs, x.fields.length ≤ 1099511627776
  ff : ∀ x ∈ p.funs, SmF x
def cellV (w : World) (g k : Nat) : Value := (w.cell? ⟨g, k, none⟩).getD undef
theorem cellV_some {w : World} {g k : Nat} {v : Value} (h : w.cell? ⟨g, k, none⟩ = some v) : w.cell? ⟨g, k, none⟩ = some (cellV w g k) := by unfold cellV; rw [h]; rfl
theorem cellV_keep {w w' : World} {g k : Nat} {x : Value} (h : w.cell? ⟨g, k, none⟩ = some x) (b : Below w.heap.size w w') : w'.cell? ⟨g, k, none⟩ = some (cellV w' g k) := cellV_some (keepB h b)
theorem keep3 {u w w' : World} {s : Nat} {v0 v1 v2 : Value} (h : Below u.heap.size u w ∧ w.cell? ⟨s, 0, none⟩ = some v0 ∧ w.cell? ⟨s, 1, none⟩ = some v1 ∧ w.cell? ⟨s, 2, none⟩ = some v2 ∧ w.cell? ⟨s + 1, 0, none⟩ = some (cellV w (s + 1) 0) ∧ w.cell? ⟨s + 1, 1, none⟩ = some (cellV w (s + 1) 1) ∧ w.cell? ⟨s + 1, 2, none⟩ = some (cellV w (s + 1) 2) ∧ w.frozen? ⟨s + 1, 0, none⟩ = false ∧ w.frozen? ⟨s + 1, 1, none⟩ = false ∧ w.frozen? ⟨s + 1, 2, none⟩ = false) (b : Below w.heap.size w w') :
    Below u.heap.size u w' ∧ w'.cell? ⟨s, 0, none⟩ = some v0 ∧ w'.cell? ⟨s, 1, none⟩ = some v1 ∧ w'.cell? ⟨s, 2, none⟩ = some v2 ∧ w'.cell? ⟨s + 1, 0, none⟩ = some (cellV w' (s + 1) 0) ∧ w'.cell? ⟨s + 1, 1, none⟩ = some (cellV w' (s + 1) 1) ∧ w'.cell? ⟨s + 1, 2, none⟩ = some (cellV w' (s + 1) 2) ∧ w'.frozen? ⟨s + 1, 0, none⟩ = false ∧ w'.frozen? ⟨s + 1, 1, none⟩ = false ∧ w'.frozen? ⟨s + 1, 2, none⟩ = false := by
  obtain ⟨h0, h1, h2, h3, h4, h5, h6, h7, h8, h9⟩ := h
  have hl : s + 1 < w.heap.size := cell_lt h4
  exact ⟨h0.trans (b.mono h0.size), keepB h1 b, keepB h2 b, keepB h3 b, cellV_keep h4 b, cellV_keep h5 b, cellV_keep h6 b, (b.frozen (p := ⟨s + 1, 0, none⟩) hl).trans h7, (b.frozen (p := ⟨s + 1, 1, none⟩) hl).trans h8, (b.frozen (p := ⟨s + 1, 2, none⟩) hl).trans h9⟩
theorem cell_set_ne {w : World} {g g' k k' : Nat} {v x : Value} (h : w.cell? ⟨g, k, none⟩ = some x) (hn : g ≠ g') : (w.setCell ⟨g', k', none⟩ v).cell? ⟨g, k, none⟩ = some x := by
  rw [World.cell?_setCell_other]
  · exact h
  · intro e; injection e with e; exact hn e.symm
theorem cell_set_any {w : World} {g k k' : Nat} {v x : Value} (h : w.cell? ⟨g, k, none⟩ = some x) : ∃ y, (w.setCell ⟨g, k', none⟩ v).cell? ⟨g, k, none⟩ = some y := by
  by_cases e : k = k'
  · subst e; exact ⟨v, World.cell?_setCell_same _ _ _ h⟩
  · refine ⟨x, ?_⟩
    rw [World.cell?_setCell_other]
    · exact h
    · intro q; injection q with _ q; exact e q.symm
theorem set3 {u w : World} {s : Nat} {v0 v1 v2 x0 x1 x2 : Value} (h : Below u.heap.size u w ∧ w.cell? ⟨s, 0, none⟩ = some v0 ∧ w.cell? ⟨s, 1, none⟩ = some v1 ∧ w.cell? ⟨s, 2, none⟩ = some v2 ∧ w.cell? ⟨s + 1, 0, none⟩ = some (cellV w (s + 1) 0) ∧ w.cell? ⟨s + 1, 1, none⟩ = some (cellV w (s + 1) 1) ∧ w.cell? ⟨s + 1, 2, none⟩ = some (cellV w (s + 1) 2) ∧ w.frozen? ⟨s + 1, 0, none⟩ = false ∧ w.frozen? ⟨s + 1, 1, none⟩ = false ∧ w.frozen? ⟨s + 1, 2, none⟩ = false) (hs : u.heap.size ≤ s) :
    Below u.heap.size u (((w.setCell ⟨s + 1, 0, none⟩ x0).setCell ⟨s + 1, 1, none⟩ x1).setCell ⟨s + 1, 2, none⟩ x2) ∧ (((w.setCell ⟨s + 1, 0, none⟩ x0).setCell ⟨s + 1, 1, none⟩ x1).setCell ⟨s + 1, 2, none⟩ x2).cell? ⟨s, 0, none⟩ = some v0 ∧ (((w.setCell ⟨s + 1, 0, none⟩ x0).setCell ⟨s + 1, 1, none⟩ x1).setCell ⟨s + 1, 2, none⟩ x2).cell? ⟨s, 1, none⟩ = some v1 ∧ (((w.setCell ⟨s + 1, 0, none⟩ x0).setCell ⟨s + 1, 1, none⟩ x1).setCell ⟨s + 1, 2, none⟩ x2).cell? ⟨s, 2, none⟩ = some v2 ∧ (((w.setCell ⟨s + 1, 0, none⟩ x0).setCell ⟨s + 1, 1, none⟩ x1).setCell ⟨s + 1, 2, none⟩ x2).cell? ⟨s + 1, 0, none⟩ = some (cellV (((w.setCell ⟨s + 1, 0, none⟩ x0).setCell ⟨s + 1, 1, none⟩ x1).setCell ⟨s + 1, 2, none⟩ x2) (s + 1) 0) ∧ (((w.setCell ⟨s + 1, 0, none⟩ x0).setCell ⟨s + 1, 1, none⟩ x1).setCell ⟨s + 1, 2, none⟩ x2).cell? ⟨s + 1, 1, none⟩ = some (cellV (((w.setCell ⟨s + 1, 0, none⟩ x0).setCell ⟨s + 1, 1, none⟩ x1).setCell ⟨s + 1, 2, none⟩ x2) (s + 1) 1) ∧ (((w.setCell ⟨s + 1, 0, none⟩ x0).setCell ⟨s + 1, 1, none⟩ x1).setCell ⟨s + 1, 2, none⟩ x2).cell? ⟨s + 1, 2, none⟩ = some (cellV (((w.setCell ⟨s + 1, 0, none⟩ x0).setCell ⟨s + 1, 1, none⟩ x1).setCell ⟨s + 1, 2, none⟩ x2) (s + 1) 2) ∧ (((w.setCell ⟨s + 1, 0, none⟩ x0).setCell ⟨s + 1, 1, none⟩ x1).setCell ⟨s + 1, 2, none⟩ x2).frozen? ⟨s + 1, 0, none⟩ = false ∧ (((w.setCell ⟨s + 1, 0, none⟩ x0).setCell ⟨s + 1, 1, none⟩ x1).setCell ⟨s + 1, 2, none⟩ x2).frozen? ⟨s + 1, 1, none⟩ = false ∧ (((w.setCell ⟨s + 1, 0, none⟩ x0).setCell ⟨s + 1, 1, none⟩ x1).setCell ⟨s + 1, 2, none⟩ x2).frozen? ⟨s + 1, 2, none⟩ = false := by
  obtain ⟨h0, h1, h2, h3, h4, h5, h6, h7, h8, h9⟩ := h
  have any : ∀ (k : Nat) (v : Value), w.cell? ⟨s + 1, k, none⟩ = some v → (((w.setCell ⟨s + 1, 0, none⟩ x0).setCell ⟨s + 1, 1, none⟩ x1).setCell ⟨s + 1, 2, none⟩ x2).cell? ⟨s + 1, k, none⟩ = some (cellV (((w.setCell ⟨s + 1, 0, none⟩ x0).setCell ⟨s + 1, 1, none⟩ x1).setCell ⟨s + 1, 2, none⟩ x2) (s + 1) k) := fun k v hv => by
    obtain ⟨y, hy⟩ := cell_set_any (k' := 0) (v := x0) hv
    obtain ⟨z, hz⟩ := cell_set_any (k' := 1) (v := x1) hy
    obtain ⟨q, hq⟩ := cell_set_any (k' := 2) (v := x2) hz
    exact cellV_some hq
  refine ⟨((h0.setCell (p := ⟨s + 1, 0, none⟩) (show _ ≤ s + 1 by omega) _).setCell (p := ⟨s + 1, 1, none⟩) (show _ ≤ s + 1 by omega) _).setCell (p := ⟨s + 1, 2, none⟩) (show _ ≤ s + 1 by omega) _, ?_, ?_, ?_, any 0 _ h4, any 1 _ h5, any 2 _ h6, ?_, ?_, ?_⟩
  · exact cell_set_ne (cell_set_ne (cell_set_ne h1 (by omega)) (by omega)) (by omega)
  · exact cell_set_ne (cell_set_ne (cell_set_ne h2 (by omega)) (by omega)) (by omega)
  · exact cell_set_ne (cell_set_ne (cell_set_ne h3 (by omega)) (by omega)) (by omega)
  · rw [World.frozen?_setCell, World.frozen?_setCell, World.frozen?_setCell]; exact h7
  · rw [World.frozen?_setCell, World.frozen?_setCell, World.frozen?_setCell]; exact h8
  · rw [World.frozen?_setCell, World.frozen?_setCell, World.frozen?_setCell]; exact h9
set_option maxRecDepth 20000 in
set_option maxHeartbeats 2000000 in
theorem clone_any (E : PE) (w : World) (hM : PM E w) (hl : SmP E.p) : Calls Tryd.prog 27 #[E.v] w (ElQ pgO E.p w) := by
  have HM := Lib.hid hM
  have HL := Lib.hid hl
  clear hM hl
  obtain ⟨⟨ss, gs, fs⟩, sA, sc, gA, gc, fA, fc⟩ := E
  unfold PE.v PE.row
  go_enter Tryd.func27, Tryd.ntmps27
  have HB0 := Lib.hid (below_two w (.cells #[.slice sA ss.length sc, .slice gA gs.length gc, .slice fA fs.length fc] 26) (.cells #[.slice none 0 0, .slice none 0 0, .slice none 0 0] 26))
  have a0 := two_a w #[.slice sA ss.length sc, .slice gA gs.length gc, .slice fA fs.length fc] #[.slice none 0 0, .slice none 0 0, .slice none 0 0] 26 26 0 _ rfl
  have a1 := two_a w #[.slice sA ss.length sc, .slice gA gs.length gc, .slice fA fs.length fc] #[.slice none 0 0, .slice none 0 0, .slice none 0 0] 26 26 1 _ rfl
  have a2 := two_a w #[.slice sA ss.length sc, .slice gA gs.length gc, .slice fA fs.length fc] #[.slice none 0 0, .slice none 0 0, .slice none 0 0] 26 26 2 _ rfl
  have HSZ : Hid (((w.alloc (.cells #[.slice sA ss.length sc, .slice gA gs.length gc, .slice fA fs.length fc] 26)).alloc (.cells #[.slice none 0 0, .slice none 0 0, .slice none 0 0] 26)).heap.size = w.heap.size + 2) := by show _ = _; simp
  have H2 : Hid (((w.alloc (.cells #[.slice sA ss.length sc, .slice gA gs.length gc, .slice fA fs.length fc] 26)).alloc (.cells #[.slice none 0 0, .slice none 0 0, .slice none 0 0] 26)).heap[w.heap.size + 1]? = some (.cells #[.slice none 0 0, .slice none 0 0, .slice none 0 0] 26 (0, 0))) := by
    have h : ((w.alloc (.cells #[.slice sA ss.length sc, .slice gA gs.length gc, .slice fA fs.length fc] 26)).alloc (.cells #[.slice none 0 0, .slice none 0 0, .slice none 0 0] 26)).heap[(w.alloc (.cells #[.slice sA ss.length sc, .slice gA gs.length gc, .slice fA fs.length fc] 26)).heap.size]? = some (.cells #[.slice none 0 0, .slice none 0 0, .slice none 0 0] 26 (0, 0)) := heap_alloc_last _ _
    rw [show (w.alloc (.cells #[.slice sA ss.length sc, .slice gA gs.length gc, .slice fA fs.length fc] 26)).heap.size = w.heap.size + 1 by simp] at h
    exact h
  go_wp2_with fail
  generalize (w.alloc (.cells #[.slice sA ss.length sc, .slice gA gs.length gc, .slice fA fs.length fc] 26)).alloc (.cells #[.slice none 0 0, .slice none 0 0, .slice none 0 0] 26) = u0 at *
  have z0 : u0.cell? ⟨w.heap.size + 1, 0, none⟩ = some (cellV u0 (w.heap.size + 1) 0) := cellV_some (cell_of_row _ _ 0 _ _ _ H2.out)
  have z1 : u0.cell? ⟨w.heap.size + 1, 1, none⟩ = some (cellV u0 (w.heap.size + 1) 1) := cellV_some (cell_of_row _ _ 1 _ _ _ H2.out)
  have z2 : u0.cell? ⟨w.heap.size + 1, 2, none⟩ = some (cellV u0 (w.heap.size + 1) 2) := cellV_some (cell_of_row _ _ 2 _ _ _ H2.out)
  have f0 : u0.frozen? ⟨w.heap.size + 1, 0, none⟩ = false := frz_of H2.out
  have f1 : u0.frozen? ⟨w.heap.size + 1, 1, none⟩ = false := frz_of H2.out
  have f2 : u0.frozen? ⟨w.heap.size + 1, 2, none⟩ = false := frz_of H2.out
  go_region_held3 (fun w' => Below w.heap.size w w' ∧ w'.cell? ⟨w.heap.size, 0, none⟩ = some (.slice sA ss.length sc) ∧ w'.cell? ⟨w.heap.size, 1, none⟩ = some (.slice gA gs.length gc) ∧ w'.cell? ⟨w.heap.size, 2, none⟩ = some (.slice fA fs.length fc) ∧ w'.cell? ⟨w.heap.size + 1, 0, none⟩ = some (cellV w' (w.heap.size + 1) 0) ∧ w'.cell? ⟨w.heap.size + 1, 1, none⟩ = some (cellV w' (w.heap.size + 1) 1) ∧ w'.cell? ⟨w.heap.size + 1, 2, none⟩ = some (cellV w' (w.heap.size + 1) 2) ∧ w'.frozen? ⟨w.heap.size + 1, 0, none⟩ = false ∧ w'.frozen? ⟨w.heap.size + 1, 1, none⟩ = false ∧ w'.frozen? ⟨w.heap.size + 1, 2, none⟩ = false) (first | exact ⟨HB0.out.drew, a0, a1, a2, z0, z1, z2, f0, f1, f2⟩ | exact HK.out | exact set3 HK.out (Nat.le_refl _))
    (first
      | (go_at_call 45; have h0 := ‹Below w.heap.size w _ ∧ _›; refine (eachSt sA sc ss _ (HM.out.S.below kp_st h0.1 (Nat.le_refl _)) HL.out.s HL.out.sf).mono ?_; rintro e w4 ⟨A0, rfl, hO0, b4⟩; have HO0 := Lib.hid hO0; have HQ0 := Lib.hid b4; have HK := Lib.hid (keep3 h0 b4); clear hO0 b4)
      | (go_at_call 47; have h0 := ‹Below w.heap.size w _ ∧ _›; refine (rowFd_any gA gc gs _ (HM.out.G.below kp_fd h0.1 (Nat.le_refl _)) HL.out.g).mono ?_; rintro e w5 ⟨A1, rfl, hO1, b5⟩; have HO1 := Lib.hid hO1; have HQ1 := Lib.hid b5; have HK := Lib.hid (keep3 h0 b5); clear hO1 b5)
      | (go_at_call 48; have h0 := ‹Below w.heap.size w _ ∧ _›; refine (eachFn fA fc fs _ (HM.out.F.below kp_fn h0.1 (Nat.le_refl _)) HL.out.f HL.out.ff).mono ?_; rintro e w6 ⟨A2, rfl, hO2, b6⟩; have HO2 := Lib.hid hO2; have HQ2 := Lib.hid b6; have HK := Lib.hid (keep3 h0 b6); clear hO2 b6))
  have hL := HK.out.2.2.2.2
  obtain ⟨y0, y1, y2, -, -, -⟩ := hL
  have hW := set3 (x0 := .slice A0 ss.length ss.length) (x1 := .slice A1 gs.length gs.length) (x2 := .slice A2 fs.length fs.length) HK.out (Nat.le_refl _)
  have HW := Lib.hid hW.1
  have HT := Lib.hid ((((Sv.refl (Tw w.heap.size) w6).setCell (p := ⟨w.heap.size + 1, 0, none⟩) (.inl (.inr rfl)) (.slice A0 ss.length ss.length)).setCell (p := ⟨w.heap.size + 1, 1, none⟩) (.inl (.inr rfl)) (.slice A1 gs.length gs.length)).setCell (p := ⟨w.heap.size + 1, 2, none⟩) (.inl (.inr rfl)) (.slice A2 fs.length fs.length))
  have HY := Lib.hid (show ∃ a b c, w6.cell? ⟨w.heap.size + 1, 0, none⟩ = some a ∧ w6.cell? ⟨w.heap.size + 1, 1, none⟩ = some b ∧ w6.cell? ⟨w.heap.size + 1, 2, none⟩ = some c from ⟨_, _, _, y0, y1, y2⟩)
  have HSZ0 : Hid (u0.drew.heap.size = w.heap.size + 2) := HSZ.out
  clear hW y0 y1 y2 h0 a0 a1 a2 z0 z1 z2 f0 f1 f2 HK
  go_wp2_with fail
  obtain ⟨ya, yb, yc, z0, z1, z2⟩ := HY.out
  have r0 := HQ0.out.size
  have r1 := HQ1.out.size
  have r2 := HQ2.out.size
  have q0 := HSZ0.out
  have hT3 := HT.out
  have hT2 := ((Sv.of (P := Tw w.heap.size) HQ2.out).trans hT3 (fun i hi => .inl hi))
  have hT1 := ((Sv.of (P := Tw w.heap.size) HQ1.out).trans hT2 (fun i hi => .inl hi))
  have hsz := hT3.size
  have tw : ∀ lo, w.heap.size + 2 ≤ lo → ∀ k, Tw w.heap.size k → k < lo := fun lo h k hk => by rcases hk with e | e <;> omega
  have o0 := (HO0.out.on kpo_st (hT1.bt (tw _ (by omega)) (Nat.le_refl _))).wide (show w.heap.size ≤ _ by omega) (Nat.le_refl _)
  have o1 := HO1.out.on kpo_fd (hT2.bt (tw _ (by omega)) (Nat.le_refl _))
  have o2 := (HO2.out.on kpo_fn (hT3.bt (tw _ (by omega)) (Nat.le_refl _))).wide (Nat.le_refl _) hsz
  refine bodyPost_ret (v := .agg #[.slice A0 ss.length ss.length, .slice A1 gs.length gs.length, .slice A2 fs.length fs.length]) (by simp [results, Tryd.results27, go_sem, z0, z1, z2]) rfl ⟨[.slice A0 ss.length ss.length, .slice A1 gs.length gs.length, .slice A2 fs.length fs.length], rfl, ⟨_, _, _, w4.heap.size, w5.heap.size, rfl, by omega, by omega, by omega, o0, o1, o2⟩, HW.out⟩

end Go.Proofs.YtcbjcpmkebbfaaaDoor
