/-
  CONTRACT: flow's Ahead: of each block who leads to it. Of what was there nothing has turned; the rows are new.
-/
import Derived.Test.YtpaddigjjlidcaaFlOrd
namespace Go.Proofs.Ytpaddigjjlidcaa
open Go.RowKit

theorem row_info : (Try.prog.info? 34).map (fun i => (i.zero, i.size, i.bytes)) = some (some (.slice none 0 0), 1, 24) := by kernel_rfl
def up {α : Type} (f : Nat → α) (x : Nat) (a : α) (y : Nat) : α := if y = x then a else f y
theorem up_at {α : Type} (f : Nat → α) (x : Nat) (a : α) : up f x a x = a := if_pos rfl
theorem up_ne {α : Type} (f : Nat → α) {x y : Nat} (a : α) (h : y ≠ x) : up f x a y = f y := if_neg h
/-- Rows of numbers of one's own, in a row of one's own at g. -/
structure AR (w : World) (g m : Nat) (vs : Nat → Value) (ls : Nat → List Int) : Prop where
  row : w.ownsRow g 34 1 (.slice (some ⟨g, 0, none⟩) m m) m ((List.range m).map vs)
  own : ∀ x, x < m → OI w (g + 1) (vs x) (ls x)
  dis : ∀ x y, x < m → y < m → x ≠ y → ∀ q, Ow (vs x) q → ¬ Ow (vs y) q
def AN (g m : Nat) (vs : Nat → Value) (b : Nat) : Prop := b ≤ g ∨ ∃ x, x < m ∧ Ow (vs x) b
theorem AR.cell {w : World} {g m : Nat} {vs : Nat → Value} {ls : Nat → List Int} (h : AR w g m vs ls) {x : Nat} (hx : x < m) : w.cell? ⟨g, x, none⟩ = some (vs x) := by
  rw [h.row.cellAt x (by omega), List.getElem?_map, List.getElem?_range hx]; rfl
theorem AR.lt {w : World} {g m : Nat} {vs : Nat → Value} {ls : Nat → List Int} (h : AR w g m vs ls) : g < w.heap.size := (h.row.lt g rfl).2
theorem AR.below {w w' : World} {g m : Nat} {vs : Nat → Value} {ls : Nat → List Int} (h : AR w g m vs ls) (hb : Below w.heap.size w w') : AR w' g m vs ls :=
  ⟨own_below h.row hb, fun x hx => (h.own x hx).keep hb, h.dis⟩
theorem AR.an {w : World} {g m : Nat} {vs : Nat → Value} {ls : Nat → List Int} (h : AR w g m vs ls) {b : Nat} (hb : AN g m vs b) : b < w.heap.size := by
  rcases hb with hb | ⟨x, hx, hb⟩
  · have := h.lt; omega
  · exact ((h.own x hx).lo hb).2
theorem AR.step {w w4 : World} {g m : Nat} {vs : Nat → Value} {ls : Nat → List Int} (h : AR w g m vs ls) {x : Nat} (hx : x < m) {v' : Value} {l' : List Int} (hO : OI w4 (g + 1) v' l') (hS : Sv (Ow (vs x)) w w4) (hw : ∀ k, Ow v' k → Ow (vs x) k ∨ w.heap.size ≤ k) :
    AR (w4.setCell ⟨g, x, none⟩ v') g m (up vs x v') (up ls x l') := by
  have hS2 : Sv (fun k => k = g) w4 (w4.setCell ⟨g, x, none⟩ v') := (Sv.refl (fun k => k = g) w4).setCell (p := ⟨g, x, none⟩) (.inl rfl) v'
  refine ⟨?_, fun y hy => ?_, fun y z hy hz hne q h1 h2 => ?_⟩
  · have h1 : w4.ownsRow g 34 1 (.slice (some ⟨g, 0, none⟩) m m) m ((List.range m).map vs) := own_sv h.row hS (fun k hk h2 => by
      have e : some g = some k := hk
      obtain rfl := Option.some.inj e
      have := ((h.own x hx).lo h2).1
      omega)
    have h2 := (h1.stored x v').1
    have e : ((List.range m).map vs).set x v' = (List.range m).map (up vs x v') := by
      apply List.ext_getElem?
      intro i
      rw [List.getElem?_set, List.getElem?_map, List.getElem?_map, List.length_map, List.length_range]
      by_cases hi : i < m
      · rw [List.getElem?_range hi]
        by_cases e : x = i
        · subst e; rw [if_pos rfl, if_pos hx]; simp [up_at]
        · rw [if_neg e]; simp [up_ne vs v' (fun h => e h.symm)]
      · rw [List.getElem?_eq_none (by rw [List.length_range]; omega)]
        by_cases e : x = i
        · omega
        · rw [if_neg e]; rfl
    rw [e] at h2
    exact h2
  · by_cases e : y = x
    · subst e
      rw [up_at, up_at]
      exact hO.sv hS2 (fun k hk e => by have := (hO.lo hk).1; omega)
    · rw [up_ne _ _ e, up_ne _ _ e]
      have h1 := (h.own y hy).sv hS (fun k hk h2 => h.dis y x hy hx e k hk h2)
      exact h1.sv hS2 (fun k hk e => by have := (h1.lo hk).1; omega)
  · by_cases e : y = x
    · subst e
      rw [up_at] at h1
      rw [up_ne _ _ (fun h => hne h.symm)] at h2
      rcases hw q h1 with h3 | h3
      · exact h.dis y z hy hz hne q h3 h2
      · have := ((h.own z hz).lo h2).2; omega
    · rw [up_ne _ _ e] at h1
      by_cases e2 : z = x
      · subst e2
        rw [up_at] at h2
        rcases hw q h2 with h3 | h3
        · exact h.dis y z hy hz hne q h1 h3
        · have := ((h.own y hy).lo h1).2; omega
      · rw [up_ne _ _ e2] at h2
        exact h.dis y z hy hz hne q h1 h2
/-- What stands there: of each the first i that lead to it, and i where it is among the first k. -/
def ahK (bl : List Blk) (i : Nat) (l : List Int) (x : Nat) : List Int := aheadTo bl x i ++ if hasJ l x then [(i : Int)] else []
theorem ahK_zero (bl : List Blk) (i x : Nat) : ahK bl i [] x = aheadTo bl x i := by unfold ahK; simp [hasJ]
theorem ahK_all (bl : List Blk) (i x : Nat) : ahK bl i (nextL bl i) x = aheadTo bl x (i + 1) := rfl
theorem ahK_up {bl : List Blk} {i k j : Nat} {l : List Int} (h : l[k]? = some (j : Int)) (x : Nat) : ahK bl i (l.take (k + 1)) x = up (ahK bl i (l.take k)) j (aheadTo bl j i ++ [(i : Int)]) x := by
  unfold ahK
  rw [hasJ_up h]
  by_cases e : x = j
  · subst e
    rw [up_at]; simp
  · rw [up_ne _ _ e, show (((j : Int) == (x : Int)) = false) by rw [beq_eq_false_iff_ne]; omega, Bool.or_false]
theorem AR.congr {w : World} {g m : Nat} {vs : Nat → Value} {ls ls' : Nat → List Int} (h : AR w g m vs ls) (e : ∀ x, ls x = ls' x) : AR w g m vs ls' := by
  have : ls = ls' := funext e
  exact this ▸ h
theorem OI.form {w : World} {base : Nat} {v : Value} {l : List Int} (h : OI w base v l) : ∃ A c, v = .slice A l.length c ∧ l.length ≤ c := by
  rcases h.2 with ⟨rfl, h0⟩ | ⟨g, cap, cur, rfl, hb, hg, hn, -⟩
  · exact ⟨none, 0, by rw [h0], by omega⟩
  · exact ⟨_, cap, rfl, hn⟩
theorem aheadTo_in {bl : List Blk} {n : Int} {i : Nat} {x : Int} (h : x ∈ aheadTo bl n i) : 0 ≤ x ∧ x < i := ahead_in h
def HRel (w0 : World) (bl : List Blk) (g m : Nat) (kv : Value) (wr : World) : Prop :=
  ∃ i : Nat, i ≤ m ∧ kv = .int .i64 i ∧ (∃ vs, Hid (AR wr g m vs (fun x => aheadTo bl x i))) ∧ Below g w0 wr
def HRel2 (w0 : World) (bl : List Blk) (g m i : Nat) (nv : Value) (l : List Int) (lm : Nat) (kv : Value) (wr : World) : Prop :=
  ∃ k : Nat, k ≤ lm ∧ kv = .int .i64 k ∧ (∃ vs, Hid (AR wr g m vs (ahK bl i (l.take k))) ∧ Hid (LV (AN g m vs) wr nv l)) ∧ Below g w0 wr

set_option maxRecDepth 100000 in
set_option maxHeartbeats 1000000 in
theorem ahead_any (E : FE) (m : Nat) (w : World) (hM : FM E w) (hm : Hid (E.f.blocks.length = m)) (hlim : Hid (m ≤ 1000000)) :
    Calls Try.prog 9 #[E.v] w (RQ 1 (slC 1 intR) (ahL E.f.blocks) w) := by
  obtain ⟨i4, hi4, hy0, hy1, hy2⟩ := info_parts row_info
  have HI4 := Lib.hid hi4
  have HY0 := Lib.hid hy0
  have HY1 := Lib.hid hy1
  have hmb := hlim.out
  have HB2 : Hid (i4.bytes * m ≤ 281474976710656) := by show _ ≤ _; rw [hy2]; omega
  have HB3 : Hid (m ≤ maxLen) := by show _ ≤ _; simp only [maxLen]; omega
  have HB := Lib.hid (below_alloc w (.cells E.row 26))
  have HM := Lib.hid (hM.below HB.out (Nat.le_refl _))
  have c0 : (w.alloc (.cells E.row 26)).cell? ⟨w.heap.size, 0, none⟩ = some (.string E.f.name) := cell_new w E.row 26 0
  have c1 : (w.alloc (.cells E.row 26)).cell? ⟨w.heap.size, 1, none⟩ = some (.slice E.pA E.f.params.length E.pc) := cell_new w E.row 26 1
  have c2 : (w.alloc (.cells E.row 26)).cell? ⟨w.heap.size, 2, none⟩ = some (.string E.f.res) := cell_new w E.row 26 2
  have c3 : (w.alloc (.cells E.row 26)).cell? ⟨w.heap.size, 3, none⟩ = some (.slice E.sA E.f.slots.length E.sc) := cell_new w E.row 26 3
  have c4 : (w.alloc (.cells E.row 26)).cell? ⟨w.heap.size, 4, none⟩ = some (.slice E.iA E.f.ins.length E.ic) := cell_new w E.row 26 4
  have c5 : (w.alloc (.cells E.row 26)).cell? ⟨w.heap.size, 5, none⟩ = some (.slice E.bA E.f.blocks.length E.bc) := cell_new w E.row 26 5
  have c5m := c5
  rw [hm.out] at c5m
  have C : Hid (_ ∧ _ ∧ _ ∧ _ ∧ _ ∧ _) := ⟨c0, c1, c2, c3, c4, c5⟩
  clear hM hi4 hy0 hy1 hy2 c0 c1 c2 c3 c4 c5
  have hsz : (w.alloc (.cells E.row 26)).heap.size = w.heap.size + 1 := by simp
  unfold FE.v
  go_enter Try.func9, Try.ntmps9
  go_wp2_with (refine wpList_make_full _ rfl (.tmp 9) (.tmp 9) 29 rfl (w.heap.size + 1) 34 i4 _ 1 Try.underlying29 HI4.out HY0.out HY1.out .i64 .i64 m m m rfl rfl rfl rfl HB2.out HB3.out (Nat.le_of_eq hsz.symm) ?_; intro w1 hown1 hg1; refine Hid.out ?_)
  have R1 : Hid (AR w1 (w.heap.size + 1) m (fun _ => .slice none 0 0) (fun x => aheadTo E.f.blocks x 0)) := by
    refine ⟨?_, fun x _ => OI.nil _ _, fun x y _ _ _ q h => by cases h⟩
    have := hown1
    rw [hsz] at this
    rw [Nat.mul_one, show (Value.slice none 0 0).cells = #[.slice none 0 0] from rfl, toList_madeCells_one] at this
    rw [List.map_const', List.length_range]; exact this
  have B1 := Lib.hid ((Below.refl (w.heap.size + 1) (w.alloc (.cells E.row 26))).grown hg1 (Nat.le_of_eq hsz.symm) (fun k hk => by cases hk))
  clear hown1 hg1 HB2 HB3 HI4 HY0 HY1
  obtain ⟨g, hg⟩ : ∃ g, w.heap.size + 1 = g := ⟨_, rfl⟩
  rw [hg] at R1 B1 hsz ⊢
  have hgw : w.heap.size < g := by omega
  generalize w.alloc (.cells E.row 26) = w0 at *
  have k5m := (B1.out.cell (p := ⟨w.heap.size, 5, none⟩) hgw).trans c5m
  refine Lib.hid ?_
  go_wp2_with fail
  go_loopw [14] (fun kv wr => HRel w0 E.f.blocks g m kv wr) (fun kv _ => m - (intOf kv).toNat)
  case atStart => exact ⟨0, Nat.zero_le _, rfl, ⟨_, R1⟩, B1.out⟩
  case round =>
    obtain ⟨i, hi, rfl, ⟨vs, RA⟩, hbr⟩ := hrel
    have HBR := Lib.hid hbr
    have hgs := RA.out.lt
    by_cases hlt : i < m
    · obtain ⟨c0, c1, c2, c3, c4, c5⟩ := C.out
      have k0 := (hbr.cell (p := ⟨w.heap.size, 0, none⟩) hgw).trans c0
      have k1 := (hbr.cell (p := ⟨w.heap.size, 1, none⟩) hgw).trans c1
      have k2 := (hbr.cell (p := ⟨w.heap.size, 2, none⟩) hgw).trans c2
      have k3 := (hbr.cell (p := ⟨w.heap.size, 3, none⟩) hgw).trans c3
      have k4 := (hbr.cell (p := ⟨w.heap.size, 4, none⟩) hgw).trans c4
      have k5 := (hbr.cell (p := ⟨w.heap.size, 5, none⟩) hgw).trans c5
      have HMR := Lib.hid (HM.out.below hbr (Nat.le_of_eq hsz))
      clear c0 c1 c2 c3 c4 c5 hbr
      go_wp2_with fail
      refine (next_any E i wr HMR.out ⟨by omega, by omega⟩).mono ?_
      rintro e w5 ⟨nv, rfl, hO5, hb5⟩
      obtain ⟨l, hl⟩ : ∃ l, nextL E.f.blocks i = l := ⟨_, rfl⟩
      have HL := Lib.hid hl
      obtain ⟨lm, hlm⟩ : ∃ n, l.length = n := ⟨_, rfl⟩
      have HLM := Lib.hid hlm
      have hl2 : lm ≤ 2 := by rw [← hlm, ← hl]; exact next_two _ _
      have HND : Hid l.Nodup := by show l.Nodup; rw [← hl]; exact next_nodup _ _
      have HIN : Hid (∀ x ∈ l, 0 ≤ x ∧ x < m) := by show ∀ x ∈ l, 0 ≤ x ∧ x < m; rw [← hl, ← hm.out]; exact fun x hx => next_in hx
      rw [hl] at hO5
      have RA5 : Hid (AR w5 g m vs (ahK E.f.blocks i (l.take 0))) := (RA.out.below hb5).congr (fun x => (ahK_zero _ _ _).symm)
      have HV5 : Hid (LV (AN g m vs) w5 nv l) := .of hO5 (fun b hb h => by have := RA.out.an h; omega)
      have B5 := Lib.hid (HBR.out.trans (hb5.mono (by omega)))
      obtain ⟨A5, c5, hnv, -, -⟩ := id HV5.out
      rw [hlm] at hnv
      subst hnv
      clear hO5 hb5 hl hlm k0 k1 k2 k3 k4 k5 HMR RA
      go_wp2_with fail
      go_loopw [21] (fun kv wr => HRel2 w0 E.f.blocks g m i (.slice A5 lm c5) l lm kv wr) (fun kv _ => lm - (intOf kv).toNat)
      case atStart => exact ⟨0, Nat.zero_le _, rfl, ⟨vs, RA5, HV5⟩, B5.out⟩
      case round =>
        obtain ⟨k, hk, rfl, ⟨vs2, RB, HV⟩, hbr2⟩ := hrel
        have HBR2 := Lib.hid hbr2
        have hgs2 := RB.out.lt
        clear hbr2
        by_cases hkl : k < lm
        · obtain ⟨A, kc, hvv, -, hlc⟩ := id HV.out
          have HLC := Lib.hid hlc
          clear hlc
          injection hvv with e1 e2 e3
          subst e1 e3
          clear e2
          obtain ⟨lb, lo, rfl, hlb, -, hcs⟩ := HLC.out (by have := HLM.out; omega)
          obtain ⟨x, hx⟩ : ∃ x, l[k]? = some x := ⟨_, List.getElem?_eq_getElem (by have := HLM.out; omega)⟩
          have hxin := HIN.out x (List.mem_of_getElem? hx)
          obtain ⟨j, rfl⟩ : ∃ j : Nat, x = j := ⟨x.toNat, by omega⟩
          have x0 := hcs k _ hx
          have hjm : j < m := by omega
          have g0 := RB.out.cell hjm
          have HX := Lib.hid hx
          have HO := Lib.hid (RB.out.own j hjm)
          have hlk : (ahK E.f.blocks i (l.take k) j).length ≤ i + 1 := by
            unfold ahK
            have := ahead_len E.f.blocks j i
            rw [List.length_append]
            split <;> simp <;> omega
          have HN : Hid (ahK E.f.blocks i (l.take k) j = aheadTo E.f.blocks j i) := by
            show _ = _
            unfold ahK
            rw [hasJ_before HND.out HX.out]; simp
          clear hcs hx hxin HLC
          go_wp2_with (at_builtin; refine Hid.out ?_)
          refine Lib.hid ?_
          refine app_one rfl (.tmp 30) (.tmp 32) 34 rfl Try.underlying34 _ (g + 1) _ _ i rfl HO.out rfl (by omega) (by omega) ?_
          intro v2 w4 hO4 hS4 hz4 hw4
          have hO4' : OI w4 (g + 1) v2 (aheadTo E.f.blocks j i ++ [(i : Int)]) := by rw [← HN.out]; exact hO4
          have RC := Lib.hid ((RB.out.step hjm hO4' hS4 hw4).congr (fun x => (ahK_up HX.out x).symm))
          have HV2 : Hid (LV (AN g m (up vs2 j v2)) (w4.setCell ⟨g, j, none⟩ v2) (.slice (some ⟨lb, lo, none⟩) lm c5) l) := by
            have h1 : LV (fun b => AN g m vs2 b) w4 (.slice (some ⟨lb, lo, none⟩) lm c5) l := HV.out.sv hS4 (fun b h => .inr ⟨j, hjm, h⟩) (fun _ _ h => h)
            have h2 := HV.out.sv (N' := fun b => AN g m (up vs2 j v2) b) hS4 (fun b h => .inr ⟨j, hjm, h⟩) (fun b hb h => by
              rcases h with h | ⟨y, hy, h⟩
              · exact .inl h
              · by_cases e : y = j
                · subst e
                  rw [up_at] at h
                  rcases hw4 b h with h | h
                  · exact .inr ⟨y, hy, h⟩
                  · omega
                · rw [up_ne _ _ e] at h
                  exact .inr ⟨y, hy, h⟩)
            exact h2.sv ((Sv.refl (fun k => k = g) w4).setCell (p := ⟨g, j, none⟩) (.inl rfl) v2) (fun b h => .inl (by omega)) (fun _ _ h => h)
          have hfz := (by have h := RB.out.row; exact own_sv h hS4 (fun k hk h2 => by
            have e : some g = some k := hk
            obtain rfl := Option.some.inj e
            have := ((RB.out.own j hjm).lo h2).1
            omega) : w4.ownsRow g 34 1 (.slice (some ⟨g, 0, none⟩) m m) m ((List.range m).map vs2)).frozenAt j
          have g4 := hS4.cell g0 (fun h => by have h2 : g + 1 ≤ g := ((RB.out.own j hjm).lo h).1; omega)
          have B4 := Lib.hid ((HBR2.out.trans (hS4.below (fun k hk => by have := (HO.out.lo hk).1; omega) (by omega))).setCell (p := ⟨g, j, none⟩) (Nat.le_refl g) v2)
          obtain ⟨A9, c9, hv2, -⟩ := hO4.form
          obtain ⟨n9, hn9⟩ : ∃ n, (ahK E.f.blocks i (l.take k) j ++ [(i : Int)]).length = n := ⟨_, rfl⟩
          rw [hn9] at hv2
          subst hv2
          clear hO4 hO4' hS4 hz4 hw4 hn9 g0
          go_wp2_with fail
          go_roundw
          case rel => exact ⟨k + 1, by omega, by go_num, ⟨_, RC, HV2⟩, B4.out⟩
          case measure => simp [intOf]; omega
        · have HH : Hid (AR wr g m vs2 (fun x => aheadTo E.f.blocks x (i + 1))) := RB.out.congr (fun x => by
            rw [List.take_of_length_le (by have := HLM.out; omega), ← HL.out, ahK_all])
          clear RB HV
          go_wp2_with fail
          go_roundw
          case rel => exact ⟨i + 1, by omega, by go_num, ⟨vs2, HH⟩, HBR2.out⟩
          case measure => simp [intOf]; omega
    · obtain rfl : i = m := by omega
      have HW := Lib.hid (HB.out.trans (HBR.out.mono (Nat.le_of_lt hgw)))
      have HS : Hid (SL 1 (slC 1 intR) wr (some ⟨g, 0, none⟩) (ahL E.f.blocks)) := fun _ => by
        refine ⟨g, 0, rfl, hgs, fun x l hx => ?_⟩
        unfold ahL at hx
        rw [List.getElem?_map, hm.out] at hx
        have hxm : x < i := by
          rcases Nat.lt_or_ge x i with h | h
          · exact h
          · rw [List.getElem?_eq_none (by rw [List.length_range]; exact h)] at hx
            cases hx
        rw [List.getElem?_range hxm] at hx
        obtain rfl : aheadL E.f.blocks x = l := Option.some.inj hx
        have hO := RA.out.own x hxm
        have hal := ahead_len E.f.blocks x i
        obtain ⟨A, c, e, hc, hS⟩ := hO.sl (fun y hy => by have := ahead_in hy; exact ⟨by omega, by omega⟩)
        have hal2 : aheadTo E.f.blocks x i = aheadL E.f.blocks x := by unfold aheadL; rw [hm.out]
        rw [hal2] at e hc hS hal
        refine ⟨[vs x], ⟨_, rfl, A, c, e, hc, by omega, hS⟩, fun q v hv => ?_⟩
        cases q with
        | succ q => simp at hv
        | zero =>
          obtain rfl := Option.some.inj hv
          rw [Nat.mul_one, Nat.add_zero, Nat.zero_add]
          exact RA.out.cell hxm
      have hlen : (ahL E.f.blocks).length = i := by unfold ahL; rw [List.length_map, List.length_range, hm.out]
      have HLE := Lib.hid hlen
      clear hlen hbr RA
      go_wp2_with fail
      go_ret
      exact ⟨some ⟨g, 0, none⟩, i, by rw [HLE.out]; rfl, Nat.le_of_eq HLE.out, HS.out, HW.out⟩
end Go.Proofs.Ytpaddigjjlidcaa
