/-
  CONTRACT: flow's Where: of each instruction its block. Of what was there nothing has turned; the row is new.
-/
import Derived.Test.YtpaddigjjlidcaaFlSt
namespace Go.Proofs.Ytpaddigjjlidcaa
open Go.RowKit

/-- Of a place: the first of the first b blocks whose List has it; b, if l has it; -1. -/
def whP (bl : List Blk) (b : Nat) (l : List Int) (p : Nat) : Int := match (bl.take b).findIdx? (fun x => hasJ x.list (p : Int)) with | some i => (i : Int) | none => cond (hasJ l (p : Int)) (b : Int) (-1)
theorem whP_start (bl : List Blk) (n : Nat) : mapR n (fun _ => -1) = mapR n (whP bl 0 []) := mapR_congr fun x _ => by unfold whP; rw [List.take_zero]; rfl
theorem whP_ge {bl : List Blk} {b : Nat} {l : List Int} {p : Nat} : whP bl b l p = -1 ∨ 0 ≤ whP bl b l p := by
  unfold whP
  split
  · exact .inr (by omega)
  · cases hasJ l (p : Int) with
    | true => exact .inr (by simp)
    | false => exact .inl rfl
theorem whP_in {bl : List Blk} {b n q : Nat} {l : List Int} (k : Nat) (h : l[k]? = some (q : Int)) (h1 : whP bl b (l.take k) q = -1) : (mapR n (whP bl b (l.take k))).set q (b : Int) = mapR n (whP bl b (l.take (k + 1))) := by
  rw [mapR_set]
  apply mapR_congr
  intro x _
  rw [List.take_add_one, h]
  by_cases e : x = q
  · subst e
    rw [if_pos rfl]
    unfold whP at h1 ⊢
    split at h1
    · omega
    · rw [Option.toList_some, hasJ_app, beq_self_eq_true, Bool.or_true, cond_true]
  · rw [if_neg e]
    unfold whP
    have : ((q : Int) == (x : Int)) = false := beq_eq_false_iff_ne.2 (by omega)
    rw [Option.toList_some, hasJ_app, this, Bool.or_false]
theorem whP_had {bl : List Blk} {b n q : Nat} {l : List Int} (k : Nat) (h : l[k]? = some (q : Int)) (h1 : whP bl b (l.take k) q ≠ -1) : mapR n (whP bl b (l.take k)) = mapR n (whP bl b (l.take (k + 1))) := by
  apply mapR_congr
  intro x _
  rw [List.take_add_one, h]
  by_cases e : x = q
  · subst e
    unfold whP at h1 ⊢
    split
    · rfl
    · rename_i hn
      rw [hn] at h1
      rw [Option.toList_some, hasJ_app, beq_self_eq_true, Bool.or_true, cond_true]
      cases hh : hasJ (l.take k) (x : Int) with
      | true => rfl
      | false => simp only [hh, cond_false] at h1; exact absurd rfl h1
  · unfold whP
    have : ((q : Int) == (x : Int)) = false := beq_eq_false_iff_ne.2 (by omega)
    rw [Option.toList_some, hasJ_app, this, Bool.or_false]
theorem whP_out {bl : List Blk} {b n : Nat} {l : List Int} {y : Int} (k : Nat) (h : l[k]? = some y) (ho : y < 0 ∨ (n : Int) ≤ y) : mapR n (whP bl b (l.take k)) = mapR n (whP bl b (l.take (k + 1))) := by
  apply mapR_congr
  intro x hx
  rw [List.take_add_one, h]
  unfold whP
  have : (y == (x : Int)) = false := beq_eq_false_iff_ne.2 (by omega)
  rw [Option.toList_some, hasJ_app, this, Bool.or_false]
theorem hasJ_nil (n : Int) : hasJ [] n = false := rfl
theorem whP_all {bl : List Blk} {b n : Nat} {B : Blk} (h : bl[b]? = some B) {k : Nat} (hk : B.list.length ≤ k) : mapR n (whP bl b (B.list.take k)) = mapR n (whP bl (b + 1) []) := by
  obtain ⟨p, e⟩ := List.getElem?_eq_some_iff.1 h
  have hb : (bl.take b).length = b := by rw [List.length_take]; omega
  apply mapR_congr
  intro x _
  rw [List.take_of_length_le hk]
  unfold whP
  rw [List.take_succ_eq_append_getElem p, e, List.findIdx?_append]
  cases hf : (bl.take b).findIdx? (fun x' => hasJ x'.list (x : Int)) with
  | some i => simp
  | none =>
    cases hh : hasJ B.list (x : Int) with
    | true => simp [List.findIdx?_cons, hh, hb]
    | false => simp [List.findIdx?_cons, hh, hasJ_nil]
theorem whP_end (f : Fn) (b : Nat) (hb : f.blocks.length ≤ b) : mapR f.ins.length (whP f.blocks b []) = whL f := by
  unfold whL
  refine mapR_congr fun x _ => ?_
  unfold whP whB
  rw [List.take_of_length_le hb]
  rfl
def WRel (w0 : World) (bl : List Blk) (g n m : Nat) (kv : Value) (wr : World) : Prop := ∃ b : Nat, b ≤ m ∧ kv = .int .i64 b ∧ Hid (Nm wr g n (mapR n (whP bl b []))) ∧ Below g w0 wr
def WRel2 (w0 : World) (bl : List Blk) (g n b : Nat) (l : List Int) (ln : Nat) (kv : Value) (wr : World) : Prop := ∃ k : Nat, k ≤ ln ∧ kv = .int .i64 k ∧ Hid (Nm wr g n (mapR n (whP bl b (l.take k)))) ∧ Below g w0 wr
set_option maxRecDepth 100000 in
set_option maxHeartbeats 1000000 in
theorem where_any (E : FE) (n m : Nat) (w : World) (hM : FM E w) (hn : Hid (E.f.ins.length = n)) (hm : Hid (E.f.blocks.length = m)) (hlim : Hid (n ≤ 1000000)) (hlim2 : Hid (m ≤ 1000000)) :
    Calls Try.prog 18 #[E.v] w (RQ 1 intR (whL E.f) w) := by
  obtain ⟨i4, hi4, hy0, hy1, hy2⟩ := info_parts int_info
  have HI4 := Lib.hid hi4
  have HY0 := Lib.hid hy0
  have HY1 := Lib.hid hy1
  have hmb := hlim.out
  have HB2 : Hid (i4.bytes * n ≤ 281474976710656) := by show _ ≤ _; rw [hy2]; omega
  have HB3 : Hid (n ≤ maxLen) := by show _ ≤ _; simp only [maxLen]; omega
  have HB := Lib.hid (below_alloc w (.cells E.row 26))
  have HM := Lib.hid (hM.below HB.out (Nat.le_refl _))
  have c0 : (w.alloc (.cells E.row 26)).cell? ⟨w.heap.size, 0, none⟩ = some (.string E.f.name) := cell_new w E.row 26 0
  have c1 : (w.alloc (.cells E.row 26)).cell? ⟨w.heap.size, 1, none⟩ = some (.slice E.pA E.f.params.length E.pc) := cell_new w E.row 26 1
  have c2 : (w.alloc (.cells E.row 26)).cell? ⟨w.heap.size, 2, none⟩ = some (.string E.f.res) := cell_new w E.row 26 2
  have c3 : (w.alloc (.cells E.row 26)).cell? ⟨w.heap.size, 3, none⟩ = some (.slice E.sA E.f.slots.length E.sc) := cell_new w E.row 26 3
  have c4 : (w.alloc (.cells E.row 26)).cell? ⟨w.heap.size, 4, none⟩ = some (.slice E.iA E.f.ins.length E.ic) := cell_new w E.row 26 4
  have c5 : (w.alloc (.cells E.row 26)).cell? ⟨w.heap.size, 5, none⟩ = some (.slice E.bA E.f.blocks.length E.bc) := cell_new w E.row 26 5
  have C : Hid (_ ∧ _ ∧ _ ∧ _ ∧ _ ∧ _) := ⟨c0, c1, c2, c3, c4, c5⟩
  have hsz : (w.alloc (.cells E.row 26)).heap.size = w.heap.size + 1 := by simp
  have hmb2 := hlim2.out
  have c4m := c4
  have c5m := c5
  rw [hn.out] at c4m
  rw [hm.out] at c5m
  have hbe := HM.out.ble
  rw [hm.out] at hbe
  clear hM hi4 hy0 hy1 hy2 c0 c1 c2 c3 c4 c5
  unfold FE.v
  go_enter Try.func18, Try.ntmps18
  go_wp2_with (refine wpList_make_full _ rfl (.tmp 11) (.tmp 11) 34 rfl (w.heap.size + 1) 3 i4 _ 1 Try.underlying34 HI4.out HY0.out HY1.out .i64 .i64 n n n rfl rfl rfl rfl HB2.out HB3.out (Nat.le_of_eq hsz.symm) ?_; intro w1 hown1 hg1; refine Hid.out ?_)
  have F1 : Hid (Nm w1 (w.heap.size + 1) n (mapR n (m1 0))) := by
    refine ⟨mapR_len _ _, ?_⟩
    have := hown1
    rw [hsz] at this
    rw [Nat.mul_one, show (Value.int .i64 0).cells = #[.int .i64 0] from rfl, toList_madeCells_one] at this
    rw [m1_start]
    unfold intsV
    rw [List.map_replicate]; exact this
  have B1 := Lib.hid ((Below.refl (w.heap.size + 1) (w.alloc (.cells E.row 26))).grown hg1 (Nat.le_of_eq hsz.symm) (fun k hk => by cases hk))
  clear hown1 hg1 HB2 HB3 HI4 HY0 HY1
  obtain ⟨g, hg⟩ : ∃ g, w.heap.size + 1 = g := ⟨_, rfl⟩
  rw [hg] at F1 B1 hsz ⊢
  have hgw : w.heap.size < g := by omega
  generalize w.alloc (.cells E.row 26) = w0 at *
  refine Lib.hid ?_
  go_wp2_with fail
  go_loopw [15] (fun kv wr => M1Rel w0 g n kv wr) (fun kv _ => n - (intOf kv).toNat)
  case atStart => exact ⟨0, Nat.zero_le _, rfl, F1, B1.out⟩
  case round =>
    obtain ⟨k, hk, rfl, RN, hbr⟩ := hrel
    have HBR := Lib.hid hbr
    by_cases hlt : k < n
    · have g0 := RN.out.cell (mapR_get hlt)
      have gz := RN.out.2.frozenAt k
      have F3 : Hid (Nm (wr.setCell ⟨g, k, none⟩ (.int .i64 (-1))) g n (mapR n (m1 (k + 1)))) := by
        have := RN.out.set k (-1)
        rw [m1_up] at this
        exact this
      have B3 := Lib.hid (HBR.out.setCell (p := ⟨g, k, none⟩) (Nat.le_refl g) (.int .i64 (-1)))
      clear hbr
      go_wp2_with fail
      go_roundw
      case rel => exact ⟨k + 1, by omega, by go_num, F3, B3.out⟩
      case measure => simp [intOf]; omega
    · obtain rfl : k = n := by omega
      have k5 := (hbr.cell (p := ⟨w.heap.size, 5, none⟩) hgw).trans c5m
      have F2 : Hid (Nm wr g k (mapR k (whP E.f.blocks 0 []))) := by
        have := RN.out
        rw [m1_end, whP_start E.f.blocks] at this
        exact this
      clear hbr RN F1 B1
      go_wp2_with fail
      clear k5
      go_loopw [25] (fun kv wr => WRel w0 E.f.blocks g k m kv wr) (fun kv _ => m - (intOf kv).toNat)
      case atStart => exact ⟨0, Nat.zero_le _, rfl, F2, HBR.out⟩
      case round =>
        obtain ⟨b, hb, rfl, RN2, hbr⟩ := hrel
        have HBR2 := Lib.hid hbr
        have hgs := RN2.out.lt
        by_cases hlt2 : b < m
        · obtain ⟨gb, ob, hA, hgb, hcs⟩ := HM.out.B (by have := hm.out; omega)
          obtain ⟨x, hx⟩ : ∃ x, E.f.blocks[b]? = some x := ⟨_, List.getElem?_eq_getElem (by have := hm.out; omega)⟩
          have HX := Lib.hid hx
          obtain ⟨cs, ⟨v, rfl, i1, i2, i3, i4, ⟨lA, lc, rfl, l1, l2, HLs⟩⟩, h0⟩ := hcs b x hx
          have hgb2 : gb < g := by omega
          have d0 := (hbr.cell (p := ⟨gb, ob + b * 5 + 0, none⟩) hgb2).trans (h0 0 _ rfl)
          have d1 := (hbr.cell (p := ⟨gb, ob + b * 5 + 1, none⟩) hgb2).trans (h0 1 _ rfl)
          have d2 := (hbr.cell (p := ⟨gb, ob + b * 5 + 2, none⟩) hgb2).trans (h0 2 _ rfl)
          have d3 := (hbr.cell (p := ⟨gb, ob + b * 5 + 3, none⟩) hgb2).trans (h0 3 _ rfl)
          have d4 := (hbr.cell (p := ⟨gb, ob + b * 5 + 4, none⟩) hgb2).trans (h0 4 _ rfl)
          simp only [Nat.add_zero] at d0
          obtain ⟨j, hj⟩ : ∃ j, x.list.length = j := ⟨_, rfl⟩
          have HJ := Lib.hid hj
          rw [hj] at d0 l1 l2
          have HL := Lib.hid HLs
          have F3 := Lib.hid (RN2.out.below (below_alloc wr (.cells #[.slice lA j lc, .int .i64 x.jump, .int .i64 x.arg, .int .i64 x.t0, .int .i64 x.t1] 40)))
          have B3 := Lib.hid (HBR2.out.alloc (by omega) (.cells #[.slice lA j lc, .int .i64 x.jump, .int .i64 x.arg, .int .i64 x.t0, .int .i64 x.t1] 40))
          clear hcs hx h0 hbr hj HLs i1 i2 i3 i4
          generalize hAA : E.bA = bA at *
          subst hA
          go_wp2_with fail
          go_loopw [33] (fun kv wr => WRel2 w0 E.f.blocks g k b x.list j kv wr) (fun kv _ => j - (intOf kv).toNat)
          case atStart => exact ⟨0, Nat.zero_le _, rfl, F3, B3.out⟩
          case round =>
            obtain ⟨q, hq, rfl, RN3, hbr3⟩ := hrel
            have HBR3 := Lib.hid hbr3
            by_cases hlq : q < j
            · obtain ⟨lb, lo, rfl, hlb, hlcs⟩ := HL.out (by have := HJ.out; omega)
              obtain ⟨y, hy⟩ : ∃ y, x.list[q]? = some y := ⟨_, List.getElem?_eq_getElem (by have := HJ.out; omega)⟩
              obtain ⟨cs, ⟨rfl, -⟩, h0⟩ := hlcs q y hy
              have y0 := (hbr3.cell (p := ⟨lb, lo + q * 1 + 0, none⟩) (by show lb < g; omega)).trans (h0 0 _ rfl)
              simp only [Nat.mul_one, Nat.add_zero] at y0
              have HY := Lib.hid hy
              clear hlcs hy h0 hbr3
              have hgs3 := RN3.out.lt
              by_cases hy0 : y < 0
              · have F4 : Hid (Nm wr g k (mapR k (whP E.f.blocks b (x.list.take (q + 1))))) := by
                  show Nm _ _ _ _
                  rw [← whP_out q HY.out (.inl hy0)]; exact RN3.out
                go_wp2_with fail
                go_roundw
                case rel => exact ⟨q + 1, by omega, by go_num, F4, HBR3.out⟩
                case measure => simp [intOf]; omega
              · by_cases hy1 : (k : Int) ≤ y
                · have F4 : Hid (Nm wr g k (mapR k (whP E.f.blocks b (x.list.take (q + 1))))) := by
                    show Nm _ _ _ _
                    rw [← whP_out q HY.out (.inr hy1)]; exact RN3.out
                  go_wp2_with fail
                  go_roundw
                  case rel => exact ⟨q + 1, by omega, by go_num, F4, HBR3.out⟩
                  case measure => simp [intOf]; omega
                · obtain ⟨p, rfl⟩ : ∃ p : Nat, y = p := ⟨y.toNat, by omega⟩
                  have hpk : p < k := by omega
                  have g0 := RN3.out.cell (mapR_get hpk)
                  have gz := RN3.out.2.frozenAt p
                  obtain ⟨v0, hv0⟩ : ∃ v, whP E.f.blocks b (x.list.take q) p = v := ⟨_, rfl⟩
                  have HV0 := Lib.hid hv0
                  rw [hv0] at g0
                  clear hv0
                  by_cases h1 : v0 = -1
                  · subst h1
                    have F4 : Hid (Nm (wr.setCell ⟨g, p, none⟩ (.int .i64 b)) g k (mapR k (whP E.f.blocks b (x.list.take (q + 1))))) := by
                      have := RN3.out.set p b
                      rw [whP_in q HY.out HV0.out] at this
                      exact this
                    have B4 := Lib.hid (HBR3.out.setCell (p := ⟨g, p, none⟩) (Nat.le_refl g) (.int .i64 b))
                    go_wp2_with fail
                    go_roundw
                    case rel => exact ⟨q + 1, by omega, by go_num, F4, B4.out⟩
                    case measure => simp [intOf]; omega
                  · have h1' : (v0 == -1) = false := beq_eq_false_iff_ne.2 h1
                    have F4 : Hid (Nm wr g k (mapR k (whP E.f.blocks b (x.list.take (q + 1))))) := by
                      show Nm _ _ _ _
                      rw [← whP_had q HY.out (by rw [HV0.out]; exact h1)]; exact RN3.out
                    clear h1
                    go_wp2_with fail
                    go_roundw
                    case rel => exact ⟨q + 1, by omega, by go_num, F4, HBR3.out⟩
                    case measure => simp [intOf]; omega
            · have F4 : Hid (Nm wr g k (mapR k (whP E.f.blocks (b + 1) []))) := by
                show Nm _ _ _ _
                rw [← whP_all HX.out (k := q) (by have := HJ.out; omega)]; exact RN3.out
              clear hbr3
              go_wp2_with fail
              go_roundw
              case rel => exact ⟨b + 1, by omega, by go_num, F4, HBR3.out⟩
              case measure => simp [intOf]; omega
        · have F4 := RN2.out
          rw [← hn.out, whP_end E.f b (by have := hm.out; omega), hn.out] at F4
          have HW := Lib.hid (HB.out.trans (HBR2.out.mono (Nat.le_of_lt hgw)))
          have HS : Hid (SL 1 intR wr (some ⟨g, 0, none⟩) (whL E.f)) := fun _ => ⟨g, 0, rfl, hgs, fun i x hx => ⟨[.int .i64 x], ⟨rfl, by
            have hx2 := hx
            rw [← whP_end E.f b (by have := hm.out; omega)] at hx2
            have hi : i < E.f.ins.length := by
              have := (List.getElem?_eq_some_iff.1 hx2).1
              rwa [mapR_len] at this
            rw [mapR_get hi] at hx2
            have e := Option.some.inj hx2
            have : x ≤ b ∧ -1 ≤ x := by
              rw [← e]
              unfold whP
              split
              · rename_i i' h'
                have h2 := (List.findIdx?_eq_some_iff_getElem.1 h').1
                rw [List.length_take] at h2
                omega
              · cases hasJ [] (i : Int) with
                | true => simp
                | false => simp
            exact ⟨by omega, by omega⟩⟩, fun j v hj => by
            cases j with
            | succ j => simp at hj
            | zero =>
              obtain rfl := Option.some.inj hj
              rw [Nat.mul_one, Nat.add_zero, Nat.zero_add]
              exact F4.cell hx⟩⟩
          have hlen : (whL E.f).length = k := F4.1
          have HLE := Lib.hid hlen
          clear hlen F4 hbr RN2
          go_wp2_with fail
          go_ret
          exact ⟨some ⟨g, 0, none⟩, k, by rw [HLE.out]; rfl, Nat.le_of_eq HLE.out, HS.out, HW.out⟩
end Go.Proofs.Ytpaddigjjlidcaa
