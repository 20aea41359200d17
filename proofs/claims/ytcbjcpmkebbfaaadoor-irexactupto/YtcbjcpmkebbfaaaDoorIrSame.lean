/-
  CONTRACT: the reference's Same of layer 8: whether two programs are the same. Of what was there nothing has turned.
-/
import Derived.Test.YtcbjcpmkebbfaaaDoorIrGreat
import Derived.Laws.StructEq
namespace Go.Proofs.YtcbjcpmkebbfaaaDoor
open Go.RowKit

theorem below_two (w : World) (o o' : Obj) : Below w.heap.size w ((w.alloc o).alloc o') := ((Below.refl _ _).alloc (Nat.le_refl _) _).alloc (by simp) _
theorem pg_ne {p q : Pg} (h : p.structs ≠ q.structs ∨ p.globals ≠ q.globals ∨ p.funs ≠ q.funs) : p ≠ q := fun e => by
  subst e
  rcases h with h | h | h <;> exact h rfl
theorem drewN_b {B : Nat} {a w : World} (h : Below B a w) (n : Nat) : Below B a (w.drewN n) := below_drewN h n
theorem fn_ne {f g : Fn} (h : f.name ≠ g.name ∨ f.res ≠ g.res ∨ f.params ≠ g.params ∨ f.slots ≠ g.slots ∨ f.ins ≠ g.ins ∨ f.blocks ≠ g.blocks) : f ≠ g := fun e => by
  subst e
  rcases h with h | h | h | h | h | h <;> exact h rfl
theorem eq51 (a b c d : Int) (w : World) : (Op.equalIn 10000 51 (.agg #[.int .i64 a, .int .i64 b]) (.agg #[.int .i64 c, .int .i64 d])).run Tryd.prog w = .ok (a == c && b == d) w := by
  have u3 := Tryd.underlying3
  have a3 := Tryd.isAgg3
  have z3 := Tryd.sizeOf3
  rw [show (10000 : Nat) = 9999 + 1 from rfl, Op.equalIn]
  simp only [Sem.run_bind, run_underlying Tryd.underlying51, Result.andThen_ok]
  simp only [Std.Legacy.Range.forIn_eq_forIn_range', Std.Legacy.Range.size, Nat.sub_zero, Nat.add_sub_cancel, Nat.div_one, List.range'_succ, List.range'_zero, List.forIn_cons, List.forIn_nil]
  go_simp
  by_cases h1 : a = c <;> by_cases h2 : b = d <;> simp [h1, h2]
theorem bool_ex (p : Prop) : ∃ r : Bool, Hid (r = true ↔ p) := by
  by_cases h : p
  · exact ⟨true, ⟨fun _ => h, fun _ => rfl⟩⟩
  · exact ⟨false, ⟨fun e => absurd e (by simp), fun e => absurd e h⟩⟩
/-- Two at the same place of two rows. -/
theorem two_at {α : Type} {c : Nat} {R : Rdr α} {w : World} {A : Option Addr} {l : List α} (h : SL c R w A l) {k : Nat} (hk : k < l.length) : ∃ g o x cs, A = some ⟨g, o, none⟩ ∧ l[k]? = some x ∧ R w cs x ∧ Cs w g (o + k * c) cs := by
  obtain ⟨g, o, hA, -, hc⟩ := h (Nat.lt_of_le_of_lt (Nat.zero_le _) hk)
  obtain ⟨cs, h1, h2⟩ := hc k _ (List.getElem?_eq_getElem hk)
  exact ⟨g, o, _, cs, hA, List.getElem?_eq_getElem hk, h1, h2⟩

set_option maxRecDepth 100000 in
set_option maxHeartbeats 4000000 in
theorem refSame_any (E E' : PE) (b : Bool) (w : World) (h1 : PM E w) (h2 : PM E' w) (hr : Hid (b = true ↔ E.p = E'.p)) :
    Calls Tryd.prog 14 #[E.v, E'.v] w fun e w' => e = .returned (.bool b) ∧ Below w.heap.size w w' := by
  obtain ⟨sm, hsm⟩ : ∃ m, E.p.structs.length = m := ⟨_, rfl⟩
  obtain ⟨gm, hgm⟩ : ∃ m, E.p.globals.length = m := ⟨_, rfl⟩
  obtain ⟨fm, hfm⟩ : ∃ m, E.p.funs.length = m := ⟨_, rfl⟩
  obtain ⟨sm', hsm'⟩ : ∃ m, E'.p.structs.length = m := ⟨_, rfl⟩
  obtain ⟨gm', hgm'⟩ : ∃ m, E'.p.globals.length = m := ⟨_, rfl⟩
  obtain ⟨fm', hfm'⟩ : ∃ m, E'.p.funs.length = m := ⟨_, rfl⟩
  have HB := Lib.hid (below_two w (.cells E.row 26) (.cells E'.row 26))
  have H1 := Lib.hid (h1.below HB.out (Nat.le_refl _))
  have H2 := Lib.hid (h2.below HB.out (Nat.le_refl _))
  have bb := below_alloc (w.alloc (.cells E.row 26)) (.cells E'.row 26)
  have c0 : (w.alloc (.cells E.row 26)).cell? ⟨w.heap.size, 0, none⟩ = some (.slice E.sA E.p.structs.length E.sc) := cell_new w E.row 26 0
  have c1 : (w.alloc (.cells E.row 26)).cell? ⟨w.heap.size, 1, none⟩ = some (.slice E.gA E.p.globals.length E.gc) := cell_new w E.row 26 1
  have c2 : (w.alloc (.cells E.row 26)).cell? ⟨w.heap.size, 2, none⟩ = some (.slice E.fA E.p.funs.length E.fc) := cell_new w E.row 26 2
  have c0 := keepB c0 bb
  have c1 := keepB c1 bb
  have c2 := keepB c2 bb
  have d0 : ((w.alloc (.cells E.row 26)).alloc (.cells E'.row 26)).cell? ⟨(w.alloc (.cells E.row 26)).heap.size, 0, none⟩ = some (.slice E'.sA E'.p.structs.length E'.sc) := cell_new (w.alloc (.cells E.row 26)) E'.row 26 0
  have d1 : ((w.alloc (.cells E.row 26)).alloc (.cells E'.row 26)).cell? ⟨(w.alloc (.cells E.row 26)).heap.size, 1, none⟩ = some (.slice E'.gA E'.p.globals.length E'.gc) := cell_new (w.alloc (.cells E.row 26)) E'.row 26 1
  have d2 : ((w.alloc (.cells E.row 26)).alloc (.cells E'.row 26)).cell? ⟨(w.alloc (.cells E.row 26)).heap.size, 2, none⟩ = some (.slice E'.fA E'.p.funs.length E'.fc) := cell_new (w.alloc (.cells E.row 26)) E'.row 26 2
  rw [show (w.alloc (.cells E.row 26)).heap.size = w.heap.size + 1 by simp] at d0 d1 d2
  rw [hsm] at c0
  rw [hgm] at c1
  rw [hfm] at c2
  rw [hsm'] at d0
  rw [hgm'] at d1
  rw [hfm'] at d2
  have Hs := Lib.hid hsm
  have Hg := Lib.hid hgm
  have Hf := Lib.hid hfm
  have Hs' := Lib.hid hsm'
  have Hg' := Lib.hid hgm'
  have Hf' := Lib.hid hfm'
  have lb1 := h1.sl
  have lb2 := h1.gl
  have lb3 := h1.fl
  have le1 := h1.sle
  have le2 := h1.gle
  have le3 := h1.fle
  have lf1 := h2.sle
  have lf2 := h2.gle
  have lf3 := h2.fle
  rw [hsm] at lb1 le1
  rw [hgm] at lb2 le2
  rw [hfm] at lb3 le3
  rw [hsm'] at lf1
  rw [hgm'] at lf2
  rw [hfm'] at lf3
  clear h1 h2 bb hsm hgm hfm hsm' hgm' hfm'
  unfold PE.v
  by_cases q1 : sm = sm'
  · subst q1
    by_cases q2 : gm = gm'
    · subst q2
      by_cases q3 : fm = fm'
      · subst q3
        go_enter Tryd.func14, Tryd.ntmps14
        go_wp2_with fail
        generalize (w.alloc (.cells E.row 26)).alloc (.cells E'.row 26) = w2 at *
        go_loopw [5] (fun i wr => BRel w2 sm (fun k => E.p.structs.take k = E'.p.structs.take k) i wr) (fun i _ => sm - (intOf i).toNat)
        case atStart => exact ⟨0, Nat.zero_le _, rfl, rfl, Below.refl _ _⟩
        case round =>
          as_aux_lemma =>
          obtain ⟨k, hk, rfl, HK, hb⟩ := hrel
          have c0 := keepB c0 hb
          have d0 := keepB d0 hb
          have BW := Lib.hid (HB.out.trans (hb.mono HB.out.size))
          have HBK := Lib.hid hb
          by_cases hlt : k < sm
          · obtain ⟨g, o, x, cs, hA, hx, ⟨v, rfl, -, ⟨xA, xc, rfl, l1, l2, hL⟩⟩, hc⟩ := two_at (H1.out.S.below kp_st hb (Nat.le_refl _)) (show k < E.p.structs.length by have := Hs.out; omega)
            obtain ⟨g', o', x', cs', hA', hx', ⟨v', rfl, -, ⟨xA', xc', rfl, l1', l2', hL'⟩⟩, hc'⟩ := two_at (H2.out.S.below kp_st hb (Nat.le_refl _)) (show k < E'.p.structs.length by have := Hs'.out; omega)
            have e0 := hc 0 _ rfl
            have e1 := hc 1 _ rfl
            have i0 := hc' 0 _ rfl
            have i1 := hc' 1 _ rfl
            simp only [Nat.add_zero] at e0 i0
            rw [hA] at c0
            rw [hA'] at d0
            have HX := Lib.hid hx
            have HX' := Lib.hid hx'
            have HL := Lib.hid hL
            have HL' := Lib.hid hL'
            clear hc hc' hx hx' hL hL' hA hA' hb
            obtain ⟨sn, fs⟩ := x
            obtain ⟨sn', fs'⟩ := x'
            simp only at e0 e1 i0 i1 HL HL' l1 l1' l2 l2'
            obtain ⟨u1, hn1⟩ : ∃ n, fs.length = n := ⟨_, rfl⟩
            obtain ⟨u1', hn1'⟩ : ∃ n, fs'.length = n := ⟨_, rfl⟩
            rw [hn1] at e1 l1 l2
            rw [hn1'] at i1 l1' l2'
            have HN := Lib.hid hn1
            have HN' := Lib.hid hn1'
            clear hn1 hn1'
            cases hq1 : eqS sn sn' with
            | false =>
              have s1 := eqS_spell hq1
              obtain rfl : b = false := bool_no hr.out (pg_ne (.inl (ne_of HX.out HX'.out (fun e => by injection e with e1 e2; rw [e1, eqS_iff.2 rfl] at hq1; cases hq1))))
              clear hq1
              go_wp2_with fail
              go_quiet (fail)
              have HZ := drewN_b (BW.out) nq
              go_wp2_with fail
              go_ret
              exact ⟨rfl, HZ⟩
            | true =>
              obtain rfl := eqS_iff.1 hq1
              clear hq1
              by_cases hq2 : u1 = u1'
              · subst hq2
                go_wp2_with fail
                go_quiet (fail)
                have HB' := Lib.hid (drewN_b HBK.out nq)
                generalize hwq : wr.drewN nq = w3 at *
                have hd3 : Below wr.heap.size wr w3 := by rw [← hwq]; exact drewN_b (Below.refl _ _) nq
                have HLq := Lib.hid (HL.out.below kp_fd hd3 (Nat.le_refl _))
                have HLq' := Lib.hid (HL'.out.below kp_fd hd3 (Nat.le_refl _))
                have c0 := keepB c0 hd3
                have d0 := keepB d0 hd3
                have e1 := keepB e1 hd3
                have i1 := keepB i1 hd3
                clear hwq hd3 HL HL' HBK BW
                go_wp2_with fail
                go_loopw [6] (fun i wr => BRel w3 u1 (fun q => fs.take q = fs'.take q) i wr) (fun i _ => u1 - (intOf i).toNat)
                case atStart => exact ⟨0, Nat.zero_le _, rfl, rfl, Below.refl _ _⟩
                case round =>
                  as_aux_lemma =>
                  obtain ⟨q, hq, rfl, HQ, hb⟩ := hrel
                  have c0 := keepB c0 hb
                  have d0 := keepB d0 hb
                  have e1 := keepB e1 hb
                  have i1 := keepB i1 hb
                  have HB2 := Lib.hid (HB'.out.trans (hb.mono HB'.out.size))
                  have HBW := Lib.hid (HB.out.trans (HB2.out.mono HB.out.size))
                  by_cases hlt2 : q < u1
                  · obtain ⟨gf, of, y, ys, hyA, hy, ⟨rfl, -, -⟩, hyc⟩ := two_at (HLq.out.below kp_fd hb (Nat.le_refl _)) (show q < fs.length by have := HN.out; omega)
                    obtain ⟨gf', of', y', ys', hyA', hy', ⟨rfl, -, -⟩, hyc'⟩ := two_at (HLq'.out.below kp_fd hb (Nat.le_refl _)) (show q < fs'.length by have := HN'.out; omega)
                    have f0 := hyc 0 _ rfl
                    have f1 := hyc 1 _ rfl
                    have j0 := hyc' 0 _ rfl
                    have j1 := hyc' 1 _ rfl
                    simp only [Nat.add_zero] at f0 j0
                    rw [hyA] at e1
                    rw [hyA'] at i1
                    have HY := Lib.hid hy
                    have HY' := Lib.hid hy'
                    have HBQ := Lib.hid hb
                    clear hyc hyc' hy hy' hyA hyA' hb
                    obtain ⟨fn, ft⟩ := y
                    obtain ⟨fn', ft'⟩ := y'
                    simp only at f0 f1 j0 j1
                    cases hz1 : eqS fn fn' with
                    | false =>
                      have s1 := eqS_spell hz1
                      have hff : (⟨fn, ft⟩ : Fd) ≠ ⟨fn', ft'⟩ := fun e => by injection e with e1 e2; rw [e1, eqS_iff.2 rfl] at hz1; cases hz1
                      obtain rfl : b = false := bool_no hr.out (pg_ne (.inl (ne_of HX.out HX'.out (fun e => by injection e with e1 e2; exact ne_of HY.out HY'.out hff e2))))
                      clear hz1 hff
                      go_wp2_with fail
                      go_quiet (fail)
                      have HZ := drewN_b (HBW.out) nq
                      go_wp2_with fail
                      go_ret
                      exact ⟨rfl, HZ⟩
                    | true =>
                      obtain rfl := eqS_iff.1 hz1
                      clear hz1
                      cases hz2 : eqS ft ft' with
                      | false =>
                        have s1 := eqS_spell hz2
                        have hff : (⟨fn, ft⟩ : Fd) ≠ ⟨fn, ft'⟩ := fun e => by injection e with e1 e2; rw [e2, eqS_iff.2 rfl] at hz2; cases hz2
                        obtain rfl : b = false := bool_no hr.out (pg_ne (.inl (ne_of HX.out HX'.out (fun e => by injection e with e1 e2; exact ne_of HY.out HY'.out hff e2))))
                        clear hz2 hff
                        go_wp2_with fail
                        go_quiet (fail)
                        have HZ := drewN_b (HBW.out) nq
                        go_wp2_with fail
                        go_ret
                        exact ⟨rfl, HZ⟩
                      | true =>
                        obtain rfl := eqS_iff.1 hz2
                        clear hz2
                        have HT := Lib.hid (take_up HQ.out HY.out HY'.out)
                        go_wp2_with fail
                        go_quiet (fail)
                        have HZ := Lib.hid (drewN_b HBQ.out nq)
                        clear c0 d0 e1 i1 f0 f1 j0 j1
                        go_wp2_with fail
                        refine ⟨⟨q + 1, by omega, by go_num, HT, HZ.out⟩, ?_⟩
                        simp [intOf]; omega
                  · have hfe : fs = fs' := all_eq HN.out HN'.out (by omega) HQ.out
                    subst hfe
                    have HT := Lib.hid (take_up HK.out HX.out HX'.out)
                    go_wp2_with fail
                    go_roundw
                    case rel => exact ⟨k + 1, by omega, by go_num, HT, HB2.out⟩
                    case measure => simp [intOf]; omega
              · have n1 : ((u1 : Int) != (u1' : Int)) = true := by simp; omega
                have n2 : (u1 != u1') = true := by simp; exact hq2
                obtain rfl : b = false := bool_no hr.out (pg_ne (.inl (ne_of HX.out HX'.out (fun e => by injection e with e1 e2; have h1 := HN.out; have h2 := HN'.out; rw [e2] at h1; omega))))
                clear hq2
                go_wp2_with fail
                go_quiet (fail)
                have HZ := drewN_b (BW.out) nq
                go_wp2_with fail
                go_ret
                exact ⟨rfl, HZ⟩
          · have HSE : Hid (E.p.structs = E'.p.structs) := all_eq Hs.out Hs'.out (by omega) HK.out
            clear hb
            go_wp2_with fail
            go_loopw [7] (fun i w' => BRel w2 gm (fun k => E.p.globals.take k = E'.p.globals.take k) i w') (fun i _ => gm - (intOf i).toNat)
            case atStart => exact ⟨0, Nat.zero_le _, rfl, rfl, HBK.out⟩
            case round =>
              as_aux_lemma =>
              obtain ⟨k3, hk3, rfl, HK3, hb⟩ := hrel
              have c1 := keepB c1 hb
              have d1 := keepB d1 hb
              have BW := Lib.hid (HB.out.trans (hb.mono HB.out.size))
              have HBK := Lib.hid hb
              by_cases hlt3 : k3 < gm
              · obtain ⟨gf, of, y, ys, hyA, hy, ⟨rfl, -, -⟩, hyc⟩ := two_at (H1.out.G.below kp_fd hb (Nat.le_refl _)) (show k3 < E.p.globals.length by have := Hg.out; omega)
                obtain ⟨gf', of', y', ys', hyA', hy', ⟨rfl, -, -⟩, hyc'⟩ := two_at (H2.out.G.below kp_fd hb (Nat.le_refl _)) (show k3 < E'.p.globals.length by have := Hg'.out; omega)
                have f0 := hyc 0 _ rfl
                have f1 := hyc 1 _ rfl
                have j0 := hyc' 0 _ rfl
                have j1 := hyc' 1 _ rfl
                simp only [Nat.add_zero] at f0 j0
                rw [hyA] at c1
                rw [hyA'] at d1
                have HY := Lib.hid hy
                have HY' := Lib.hid hy'
                clear hyc hyc' hy hy' hyA hyA' hb
                obtain ⟨fn, ft⟩ := y
                obtain ⟨fn', ft'⟩ := y'
                simp only at f0 f1 j0 j1
                cases hz1 : eqS fn fn' with
                | false =>
                  have s1 := eqS_spell hz1
                  have hff : (⟨fn, ft⟩ : Fd) ≠ ⟨fn', ft'⟩ := fun e => by injection e with e1 e2; rw [e1, eqS_iff.2 rfl] at hz1; cases hz1
                  obtain rfl : b = false := bool_no hr.out (pg_ne (.inr (.inl (ne_of HY.out HY'.out hff))))
                  clear hz1 hff
                  go_wp2_with fail
                  go_quiet (fail)
                  have HZ := drewN_b (BW.out) nq
                  go_wp2_with fail
                  go_ret
                  exact ⟨rfl, HZ⟩
                | true =>
                  obtain rfl := eqS_iff.1 hz1
                  clear hz1
                  cases hz2 : eqS ft ft' with
                  | false =>
                    have s1 := eqS_spell hz2
                    have hff : (⟨fn, ft⟩ : Fd) ≠ ⟨fn, ft'⟩ := fun e => by injection e with e1 e2; rw [e2, eqS_iff.2 rfl] at hz2; cases hz2
                    obtain rfl : b = false := bool_no hr.out (pg_ne (.inr (.inl (ne_of HY.out HY'.out hff))))
                    clear hz2 hff
                    go_wp2_with fail
                    go_quiet (fail)
                    have HZ := drewN_b (BW.out) nq
                    go_wp2_with fail
                    go_ret
                    exact ⟨rfl, HZ⟩
                  | true =>
                    obtain rfl := eqS_iff.1 hz2
                    clear hz2
                    have HT := Lib.hid (take_up HK3.out HY.out HY'.out)
                    go_wp2_with fail
                    go_quiet (fail)
                    have HZ := Lib.hid (drewN_b HBK.out nq)
                    clear c1 d1 f0 f1 j0 j1
                    go_wp2_with fail
                    go_roundw
                    case rel => exact ⟨k3 + 1, by omega, by go_num, HT, HZ.out⟩
                    case measure => simp [intOf]; omega
              · have HGE : Hid (E.p.globals = E'.p.globals) := all_eq Hg.out Hg'.out (by omega) HK3.out
                clear hb
                go_wp2_with fail
                go_loopw [8] (fun i w' => BRel w2 fm (fun k => E.p.funs.take k = E'.p.funs.take k) i w') (fun i _ => fm - (intOf i).toNat)
                case atStart => exact ⟨0, Nat.zero_le _, rfl, rfl, HBK.out⟩
                case round =>
                  as_aux_lemma =>
                  obtain ⟨k4, hk4, rfl, HK4, hb⟩ := hrel
                  have c2 := keepB c2 hb
                  have d2 := keepB d2 hb
                  have BW := Lib.hid (HB.out.trans (hb.mono HB.out.size))
                  have HBK := Lib.hid hb
                  by_cases hlt4 : k4 < fm
                  · obtain ⟨xf, hxf⟩ : ∃ x, E.p.funs[k4]? = some x := ⟨_, List.getElem?_eq_getElem (by have := Hf.out; omega)⟩
                    obtain ⟨xf', hxf'⟩ : ∃ x, E'.p.funs[k4]? = some x := ⟨_, List.getElem?_eq_getElem (by have := Hf'.out; omega)⟩
                    obtain ⟨g, o, hA, U, hU, hUM, hc⟩ := (H1.out.drop hb).fn hxf
                    obtain ⟨g', o', hA', U', hU', hUM', hc'⟩ := (H2.out.drop hb).fn hxf'
                    have e0 : wr.cell? ⟨g, o + k4 * 6 + 0, none⟩ = some (.string U.f.name) := hc 0 _ rfl
                    have e1 : wr.cell? ⟨g, o + k4 * 6 + 1, none⟩ = some (.slice U.pA U.f.params.length U.pc) := hc 1 _ rfl
                    have e2 : wr.cell? ⟨g, o + k4 * 6 + 2, none⟩ = some (.string U.f.res) := hc 2 _ rfl
                    have e3 : wr.cell? ⟨g, o + k4 * 6 + 3, none⟩ = some (.slice U.sA U.f.slots.length U.sc) := hc 3 _ rfl
                    have e4 : wr.cell? ⟨g, o + k4 * 6 + 4, none⟩ = some (.slice U.iA U.f.ins.length U.ic) := hc 4 _ rfl
                    have e5 : wr.cell? ⟨g, o + k4 * 6 + 5, none⟩ = some (.slice U.bA U.f.blocks.length U.bc) := hc 5 _ rfl
                    have i0 : wr.cell? ⟨g', o' + k4 * 6 + 0, none⟩ = some (.string U'.f.name) := hc' 0 _ rfl
                    have i1 : wr.cell? ⟨g', o' + k4 * 6 + 1, none⟩ = some (.slice U'.pA U'.f.params.length U'.pc) := hc' 1 _ rfl
                    have i2 : wr.cell? ⟨g', o' + k4 * 6 + 2, none⟩ = some (.string U'.f.res) := hc' 2 _ rfl
                    have i3 : wr.cell? ⟨g', o' + k4 * 6 + 3, none⟩ = some (.slice U'.sA U'.f.slots.length U'.sc) := hc' 3 _ rfl
                    have i4 : wr.cell? ⟨g', o' + k4 * 6 + 4, none⟩ = some (.slice U'.iA U'.f.ins.length U'.ic) := hc' 4 _ rfl
                    have i5 : wr.cell? ⟨g', o' + k4 * 6 + 5, none⟩ = some (.slice U'.bA U'.f.blocks.length U'.bc) := hc' 5 _ rfl
                    have bv := below_alloc wr (.cells #[.string U.f.name, .slice U.pA U.f.params.length U.pc, .string U.f.res, .slice U.sA U.f.slots.length U.sc, .slice U.iA U.f.ins.length U.ic, .slice U.bA U.f.blocks.length U.bc] 40)
                    have i0 := keepB i0 bv
                    have i1 := keepB i1 bv
                    have i2 := keepB i2 bv
                    have i3 := keepB i3 bv
                    have i4 := keepB i4 bv
                    have i5 := keepB i5 bv
                    have d2' := keepB d2 bv
                    rw [hA] at c2
                    rw [hA'] at d2 d2'
                    simp only [Nat.add_zero] at e0 i0
                    have HXF : Hid (E.p.funs[k4]? = some U.f) := by show _ = _; rw [hU]; exact hxf
                    have HXF' : Hid (E'.p.funs[k4]? = some U'.f) := by show _ = _; rw [hU']; exact hxf'
                    have HUM := Lib.hid hUM
                    have HUM' := Lib.hid hUM'
                    have bv2 := below_two wr (.cells #[.string U.f.name, .slice U.pA U.f.params.length U.pc, .string U.f.res, .slice U.sA U.f.slots.length U.sc, .slice U.iA U.f.ins.length U.ic, .slice U.bA U.f.blocks.length U.bc] 40) (.cells #[.string U'.f.name, .slice U'.pA U'.f.params.length U'.pc, .string U'.f.res, .slice U'.sA U'.f.slots.length U'.sc, .slice U'.iA U'.f.ins.length U'.ic, .slice U'.bA U'.f.blocks.length U'.bc] 40)
                    have HUM := Lib.hid (HUM.out.drop bv2)
                    have HUM' := Lib.hid (HUM'.out.drop bv2)
                    have BX := Lib.hid (HBK.out.trans (bv2.mono HBK.out.size))
                    have V : Hid (FV U ((wr.alloc (.cells #[.string U.f.name, .slice U.pA U.f.params.length U.pc, .string U.f.res, .slice U.sA U.f.slots.length U.sc, .slice U.iA U.f.ins.length U.ic, .slice U.bA U.f.blocks.length U.bc] 40)).alloc (.cells #[.string U'.f.name, .slice U'.pA U'.f.params.length U'.pc, .string U'.f.res, .slice U'.sA U'.f.slots.length U'.sc, .slice U'.iA U'.f.ins.length U'.ic, .slice U'.bA U'.f.blocks.length U'.bc] 40)) wr.heap.size) := (FV.new U wr 40).below (below_alloc (wr.alloc (.cells U.row 40)) (.cells U'.row 40)) (Nat.le_refl _)
                    have V' : Hid (FV U' ((wr.alloc (.cells #[.string U.f.name, .slice U.pA U.f.params.length U.pc, .string U.f.res, .slice U.sA U.f.slots.length U.sc, .slice U.iA U.f.ins.length U.ic, .slice U.bA U.f.blocks.length U.bc] 40)).alloc (.cells #[.string U'.f.name, .slice U'.pA U'.f.params.length U'.pc, .string U'.f.res, .slice U'.sA U'.f.slots.length U'.sc, .slice U'.iA U'.f.ins.length U'.ic, .slice U'.bA U'.f.blocks.length U'.bc] 40)) (wr.heap.size + 1)) := by
                      have h := FV.new U' (wr.alloc (.cells U.row 40)) 40
                      rw [show (wr.alloc (.cells U.row 40)).heap.size = wr.heap.size + 1 by simp] at h
                      exact h
                    clear hc hc' hU hU' hUM hUM' hxf hxf' hA hA' hb bv bv2
                    go_upto_region 23 with fail
                    generalize (wr.alloc (.cells #[.string U.f.name, .slice U.pA U.f.params.length U.pc, .string U.f.res, .slice U.sA U.f.slots.length U.sc, .slice U.iA U.f.ins.length U.ic, .slice U.bA U.f.blocks.length U.bc] 40)).alloc (.cells #[.string U'.f.name, .slice U'.pA U'.f.params.length U'.pc, .string U'.f.res, .slice U'.sA U'.f.slots.length U'.sc, .slice U'.iA U'.f.ins.length U'.ic, .slice U'.bA U'.f.blocks.length U'.bc] 40) = w5 at *
                    obtain ⟨va, hva⟩ : ∃ n, wr.heap.size = n := ⟨_, rfl⟩
                    rw [hva] at V V' ⊢
                    have f0 : w5.cell? ⟨va, 0, none⟩ = some (.string U.f.name) := V.out.cell 0 _ rfl
                    have f1 : w5.cell? ⟨va, 1, none⟩ = some (.slice U.pA U.f.params.length U.pc) := V.out.cell 1 _ rfl
                    have f2 : w5.cell? ⟨va, 2, none⟩ = some (.string U.f.res) := V.out.cell 2 _ rfl
                    have f3 : w5.cell? ⟨va, 3, none⟩ = some (.slice U.sA U.f.slots.length U.sc) := V.out.cell 3 _ rfl
                    have f4 : w5.cell? ⟨va, 4, none⟩ = some (.slice U.iA U.f.ins.length U.ic) := V.out.cell 4 _ rfl
                    have f5 : w5.cell? ⟨va, 5, none⟩ = some (.slice U.bA U.f.blocks.length U.bc) := V.out.cell 5 _ rfl
                    have j0 : w5.cell? ⟨va + 1, 0, none⟩ = some (.string U'.f.name) := V'.out.cell 0 _ rfl
                    have j1 : w5.cell? ⟨va + 1, 1, none⟩ = some (.slice U'.pA U'.f.params.length U'.pc) := V'.out.cell 1 _ rfl
                    have j2 : w5.cell? ⟨va + 1, 2, none⟩ = some (.string U'.f.res) := V'.out.cell 2 _ rfl
                    have j3 : w5.cell? ⟨va + 1, 3, none⟩ = some (.slice U'.sA U'.f.slots.length U'.sc) := V'.out.cell 3 _ rfl
                    have j4 : w5.cell? ⟨va + 1, 4, none⟩ = some (.slice U'.iA U'.f.ins.length U'.ic) := V'.out.cell 4 _ rfl
                    have j5 : w5.cell? ⟨va + 1, 5, none⟩ = some (.slice U'.bA U'.f.blocks.length U'.bc) := V'.out.cell 5 _ rfl
                    have BXW := Lib.hid (HB.out.trans (BX.out.mono HB.out.size))
                    clear c2 d2 d2' e0 e1 e2 e3 e4 e5 i0 i1 i2 i3 i4 i5 V V' BW
                    cases hq1 : eqS U.f.name U'.f.name with
                    | false =>
                      have s1 := eqS_spell hq1
                      obtain rfl : b = false := bool_no hr.out (pg_ne (.inr (.inr (ne_of HXF.out HXF'.out (fn_ne (.inl (fun e => by rw [e, eqS_iff.2 rfl] at hq1; cases hq1)))))))
                      clear hq1
                      go_wp2_with fail
                      go_ret
                      exact ⟨rfl, BXW.out⟩
                    | true =>
                    have s1 := eqS_spell hq1
                    cases hq2 : eqS U.f.res U'.f.res with
                    | false =>
                      have s2 := eqS_spell hq2
                      obtain rfl : b = false := bool_no hr.out (pg_ne (.inr (.inr (ne_of HXF.out HXF'.out (fn_ne (.inr (.inl (fun e => by rw [e, eqS_iff.2 rfl] at hq2; cases hq2))))))))
                      clear hq1 hq2
                      go_wp2_with fail
                      go_ret
                      exact ⟨rfl, BXW.out⟩
                    | true =>
                    have s2 := eqS_spell hq2
                    have HQ1 := Lib.hid (eqS_iff.1 hq1)
                    have HQ2 := Lib.hid (eqS_iff.1 hq2)
                    clear hq1 hq2
                    go_wp2_with fail
                    obtain ⟨r1, hr1⟩ := bool_ex (U.f.params = U'.f.params)
                    have HR1 := Lib.hid hr1
                    refine (refTexts_any _ _ _ _ _ _ _ _ r1 _ HUM.out.P HUM'.out.P (Lib.hid rfl) (Lib.hid rfl) HUM.out.pl HUM'.out.pl hr1).mono ?_
                    rintro e w6 ⟨rfl, b6⟩
                    have f0 := keepB f0 b6
                    have f1 := keepB f1 b6
                    have f2 := keepB f2 b6
                    have f3 := keepB f3 b6
                    have f4 := keepB f4 b6
                    have f5 := keepB f5 b6
                    have j0 := keepB j0 b6
                    have j1 := keepB j1 b6
                    have j2 := keepB j2 b6
                    have j3 := keepB j3 b6
                    have j4 := keepB j4 b6
                    have j5 := keepB j5 b6
                    have HUM := Lib.hid (HUM.out.drop b6)
                    have HUM' := Lib.hid (HUM'.out.drop b6)
                    have BX := Lib.hid (BX.out.trans (b6.mono BX.out.size))
                    have BXW := Lib.hid (HB.out.trans (BX.out.mono HB.out.size))
                    clear b6 hr1
                    cases r1 with
                    | false =>
                      obtain rfl : b = false := bool_no hr.out (pg_ne (.inr (.inr (ne_of HXF.out HXF'.out (fn_ne (.inr (.inr (.inl (fun e => by have := HR1.out.2 e; cases this)))))))))
                      go_wp2_with fail
                      go_ret
                      exact ⟨rfl, BXW.out⟩
                    | true =>
                    have HQ3 := Lib.hid (HR1.out.1 rfl)
                    clear HR1
                    go_wp2_with fail
                    obtain ⟨r2, hr2⟩ := bool_ex (U.f.slots = U'.f.slots)
                    have HR2 := Lib.hid hr2
                    refine (refTexts_any _ _ _ _ _ _ _ _ r2 _ HUM.out.S HUM'.out.S (Lib.hid rfl) (Lib.hid rfl) HUM.out.sl HUM'.out.sl hr2).mono ?_
                    rintro e w7 ⟨rfl, b7⟩
                    have f0 := keepB f0 b7
                    have f1 := keepB f1 b7
                    have f2 := keepB f2 b7
                    have f3 := keepB f3 b7
                    have f4 := keepB f4 b7
                    have f5 := keepB f5 b7
                    have j0 := keepB j0 b7
                    have j1 := keepB j1 b7
                    have j2 := keepB j2 b7
                    have j3 := keepB j3 b7
                    have j4 := keepB j4 b7
                    have j5 := keepB j5 b7
                    have HUM := Lib.hid (HUM.out.drop b7)
                    have HUM' := Lib.hid (HUM'.out.drop b7)
                    have BX := Lib.hid (BX.out.trans (b7.mono BX.out.size))
                    have BXW := Lib.hid (HB.out.trans (BX.out.mono HB.out.size))
                    clear b7 hr2
                    cases r2 with
                    | false =>
                      obtain rfl : b = false := bool_no hr.out (pg_ne (.inr (.inr (ne_of HXF.out HXF'.out (fn_ne (.inr (.inr (.inr (.inl (fun e => by have := HR2.out.2 e; cases this))))))))))
                      go_wp2_with fail
                      go_ret
                      exact ⟨rfl, BXW.out⟩
                    | true =>
                    have HQ4 := Lib.hid (HR2.out.1 rfl)
                    clear HR2
                    obtain ⟨iu, hiu⟩ : ∃ n, U.f.ins.length = n := ⟨_, rfl⟩
                    obtain ⟨iu', hiu'⟩ : ∃ n, U'.f.ins.length = n := ⟨_, rfl⟩
                    obtain ⟨bu, hbu⟩ : ∃ n, U.f.blocks.length = n := ⟨_, rfl⟩
                    obtain ⟨bu', hbu'⟩ : ∃ n, U'.f.blocks.length = n := ⟨_, rfl⟩
                    rw [hiu] at f4
                    rw [hiu'] at j4
                    rw [hbu] at f5
                    rw [hbu'] at j5
                    have HIU := Lib.hid hiu
                    have HIU' := Lib.hid hiu'
                    have HBU := Lib.hid hbu
                    have HBU' := Lib.hid hbu'
                    have li1 := HUM.out.il
                    have li2 := HUM.out.ile
                    have li3 := HUM'.out.ile
                    have lb4 := HUM.out.bl
                    have lb5 := HUM.out.ble
                    have lb6 := HUM'.out.ble
                    rw [hiu] at li1 li2
                    rw [hiu'] at li3
                    rw [hbu] at lb4 lb5
                    rw [hbu'] at lb6
                    clear hiu hiu' hbu hbu'
                    by_cases q5 : iu = iu'
                    · subst q5
                      by_cases q6 : bu = bu'
                      · subst q6
                        go_wp2_with fail
                        generalize hw7 : w7 = w8 at *
                        clear hw7
                        have f5x := Lib.hid f5
                        have j5x := Lib.hid j5
                        go_loopw [11] (fun i w' => BRel w8 iu (fun q => U.f.ins.take q = U'.f.ins.take q) i w') (fun i _ => iu - (intOf i).toNat)
                        case atStart => exact ⟨0, Nat.zero_le _, rfl, rfl, Below.refl _ _⟩
                        case round =>
                          as_aux_lemma =>
                          obtain ⟨q, hq, rfl, HQ, hb⟩ := hrel
                          have f4 := keepB f4 hb
                          have j4 := keepB j4 hb
                          have f5 := keepB f5 hb
                          have j5 := keepB j5 hb
                          have W8 := Lib.hid hb
                          have BXq := Lib.hid (BX.out.trans (hb.mono BX.out.size))
                          by_cases hlt5 : q < iu
                          · obtain ⟨ig, io, x, cs, hA, hx, ⟨v, rfl, -, -, -, -, ⟨xA, xc, rfl, l1, l2, hL⟩⟩, hc⟩ := two_at (HUM.out.I.below kp_ins hb (Nat.le_refl _)) (show q < U.f.ins.length by have := HIU.out; omega)
                            obtain ⟨ig', io', x', cs', hA', hx', ⟨v', rfl, -, -, -, -, ⟨xA', xc', rfl, l1', l2', hL'⟩⟩, hc'⟩ := two_at (HUM'.out.I.below kp_ins hb (Nat.le_refl _)) (show q < U'.f.ins.length by have := HIU'.out; omega)
                            have HY := Lib.hid hx
                            have HY' := Lib.hid hx'
                            have HLx := Lib.hid hL
                            have HLx' := Lib.hid hL'
                            have e0 := hc 0 _ rfl
                            have e1 := hc 1 _ rfl
                            have e2 := hc 2 _ rfl
                            have e3 := hc 3 _ rfl
                            have e4 := hc 4 _ rfl
                            have i0 := hc' 0 _ rfl
                            have i1 := hc' 1 _ rfl
                            have i2 := hc' 2 _ rfl
                            have i3 := hc' 3 _ rfl
                            have i4 := hc' 4 _ rfl
                            simp only [Nat.add_zero] at e0 i0
                            rw [hA] at f4
                            rw [hA'] at j4
                            clear hc hc' hx hx' hL hL' hA hA' hb
                            obtain ⟨op, ty, al, nn, nm⟩ := x
                            obtain ⟨op', ty', al', nn', nm'⟩ := x'
                            simp only at e0 e1 e2 e3 e4 i0 i1 i2 i3 i4 l1 l1' l2 l2' HLx HLx'
                            obtain ⟨nx, hnx⟩ : ∃ n, al.length = n := ⟨_, rfl⟩
                            obtain ⟨nx', hnx'⟩ : ∃ n, al'.length = n := ⟨_, rfl⟩
                            rw [hnx] at e2 l1 l2
                            rw [hnx'] at i2 l1' l2'
                            have HNX := Lib.hid hnx
                            have HNX' := Lib.hid hnx'
                            clear hnx hnx'
                            have bv := below_alloc wr (.cells #[.int .i64 op, .string ty, .slice xA nx xc, .int .i64 nn, .string nm] 47)
                            have bv2 := below_two wr (.cells #[.int .i64 op, .string ty, .slice xA nx xc, .int .i64 nn, .string nm] 47) (.cells #[.int .i64 op', .string ty', .slice xA' nx' xc', .int .i64 nn', .string nm'] 47)
                            have i0 := keepB i0 bv
                            have i1 := keepB i1 bv
                            have i2 := keepB i2 bv
                            have i3 := keepB i3 bv
                            have i4 := keepB i4 bv
                            have j4' := keepB j4 bv
                            have p0 : ((wr.alloc (.cells #[.int .i64 op, .string ty, .slice xA nx xc, .int .i64 nn, .string nm] 47)).alloc (.cells #[.int .i64 op', .string ty', .slice xA' nx' xc', .int .i64 nn', .string nm'] 47)).cell? ⟨wr.heap.size, 0, none⟩ = some (.int .i64 op) := keepB (cell_new wr #[.int .i64 op, .string ty, .slice xA nx xc, .int .i64 nn, .string nm] 47 0) (below_alloc (wr.alloc (.cells #[.int .i64 op, .string ty, .slice xA nx xc, .int .i64 nn, .string nm] 47)) (.cells #[.int .i64 op', .string ty', .slice xA' nx' xc', .int .i64 nn', .string nm'] 47))
                            have p1 : ((wr.alloc (.cells #[.int .i64 op, .string ty, .slice xA nx xc, .int .i64 nn, .string nm] 47)).alloc (.cells #[.int .i64 op', .string ty', .slice xA' nx' xc', .int .i64 nn', .string nm'] 47)).cell? ⟨wr.heap.size, 1, none⟩ = some (.string ty) := keepB (cell_new wr #[.int .i64 op, .string ty, .slice xA nx xc, .int .i64 nn, .string nm] 47 1) (below_alloc (wr.alloc (.cells #[.int .i64 op, .string ty, .slice xA nx xc, .int .i64 nn, .string nm] 47)) (.cells #[.int .i64 op', .string ty', .slice xA' nx' xc', .int .i64 nn', .string nm'] 47))
                            have p2 : ((wr.alloc (.cells #[.int .i64 op, .string ty, .slice xA nx xc, .int .i64 nn, .string nm] 47)).alloc (.cells #[.int .i64 op', .string ty', .slice xA' nx' xc', .int .i64 nn', .string nm'] 47)).cell? ⟨wr.heap.size, 2, none⟩ = some (.slice xA nx xc) := keepB (cell_new wr #[.int .i64 op, .string ty, .slice xA nx xc, .int .i64 nn, .string nm] 47 2) (below_alloc (wr.alloc (.cells #[.int .i64 op, .string ty, .slice xA nx xc, .int .i64 nn, .string nm] 47)) (.cells #[.int .i64 op', .string ty', .slice xA' nx' xc', .int .i64 nn', .string nm'] 47))
                            have p3 : ((wr.alloc (.cells #[.int .i64 op, .string ty, .slice xA nx xc, .int .i64 nn, .string nm] 47)).alloc (.cells #[.int .i64 op', .string ty', .slice xA' nx' xc', .int .i64 nn', .string nm'] 47)).cell? ⟨wr.heap.size, 3, none⟩ = some (.int .i64 nn) := keepB (cell_new wr #[.int .i64 op, .string ty, .slice xA nx xc, .int .i64 nn, .string nm] 47 3) (below_alloc (wr.alloc (.cells #[.int .i64 op, .string ty, .slice xA nx xc, .int .i64 nn, .string nm] 47)) (.cells #[.int .i64 op', .string ty', .slice xA' nx' xc', .int .i64 nn', .string nm'] 47))
                            have p4 : ((wr.alloc (.cells #[.int .i64 op, .string ty, .slice xA nx xc, .int .i64 nn, .string nm] 47)).alloc (.cells #[.int .i64 op', .string ty', .slice xA' nx' xc', .int .i64 nn', .string nm'] 47)).cell? ⟨wr.heap.size, 4, none⟩ = some (.string nm) := keepB (cell_new wr #[.int .i64 op, .string ty, .slice xA nx xc, .int .i64 nn, .string nm] 47 4) (below_alloc (wr.alloc (.cells #[.int .i64 op, .string ty, .slice xA nx xc, .int .i64 nn, .string nm] 47)) (.cells #[.int .i64 op', .string ty', .slice xA' nx' xc', .int .i64 nn', .string nm'] 47))
                            have r0 : ((wr.alloc (.cells #[.int .i64 op, .string ty, .slice xA nx xc, .int .i64 nn, .string nm] 47)).alloc (.cells #[.int .i64 op', .string ty', .slice xA' nx' xc', .int .i64 nn', .string nm'] 47)).cell? ⟨(wr.alloc (.cells #[.int .i64 op, .string ty, .slice xA nx xc, .int .i64 nn, .string nm] 47)).heap.size, 0, none⟩ = some (.int .i64 op') := cell_new (wr.alloc (.cells #[.int .i64 op, .string ty, .slice xA nx xc, .int .i64 nn, .string nm] 47)) #[.int .i64 op', .string ty', .slice xA' nx' xc', .int .i64 nn', .string nm'] 47 0
                            have r1 : ((wr.alloc (.cells #[.int .i64 op, .string ty, .slice xA nx xc, .int .i64 nn, .string nm] 47)).alloc (.cells #[.int .i64 op', .string ty', .slice xA' nx' xc', .int .i64 nn', .string nm'] 47)).cell? ⟨(wr.alloc (.cells #[.int .i64 op, .string ty, .slice xA nx xc, .int .i64 nn, .string nm] 47)).heap.size, 1, none⟩ = some (.string ty') := cell_new (wr.alloc (.cells #[.int .i64 op, .string ty, .slice xA nx xc, .int .i64 nn, .string nm] 47)) #[.int .i64 op', .string ty', .slice xA' nx' xc', .int .i64 nn', .string nm'] 47 1
                            have r2 : ((wr.alloc (.cells #[.int .i64 op, .string ty, .slice xA nx xc, .int .i64 nn, .string nm] 47)).alloc (.cells #[.int .i64 op', .string ty', .slice xA' nx' xc', .int .i64 nn', .string nm'] 47)).cell? ⟨(wr.alloc (.cells #[.int .i64 op, .string ty, .slice xA nx xc, .int .i64 nn, .string nm] 47)).heap.size, 2, none⟩ = some (.slice xA' nx' xc') := cell_new (wr.alloc (.cells #[.int .i64 op, .string ty, .slice xA nx xc, .int .i64 nn, .string nm] 47)) #[.int .i64 op', .string ty', .slice xA' nx' xc', .int .i64 nn', .string nm'] 47 2
                            have r3 : ((wr.alloc (.cells #[.int .i64 op, .string ty, .slice xA nx xc, .int .i64 nn, .string nm] 47)).alloc (.cells #[.int .i64 op', .string ty', .slice xA' nx' xc', .int .i64 nn', .string nm'] 47)).cell? ⟨(wr.alloc (.cells #[.int .i64 op, .string ty, .slice xA nx xc, .int .i64 nn, .string nm] 47)).heap.size, 3, none⟩ = some (.int .i64 nn') := cell_new (wr.alloc (.cells #[.int .i64 op, .string ty, .slice xA nx xc, .int .i64 nn, .string nm] 47)) #[.int .i64 op', .string ty', .slice xA' nx' xc', .int .i64 nn', .string nm'] 47 3
                            have r4 : ((wr.alloc (.cells #[.int .i64 op, .string ty, .slice xA nx xc, .int .i64 nn, .string nm] 47)).alloc (.cells #[.int .i64 op', .string ty', .slice xA' nx' xc', .int .i64 nn', .string nm'] 47)).cell? ⟨(wr.alloc (.cells #[.int .i64 op, .string ty, .slice xA nx xc, .int .i64 nn, .string nm] 47)).heap.size, 4, none⟩ = some (.string nm') := cell_new (wr.alloc (.cells #[.int .i64 op, .string ty, .slice xA nx xc, .int .i64 nn, .string nm] 47)) #[.int .i64 op', .string ty', .slice xA' nx' xc', .int .i64 nn', .string nm'] 47 4
                            rw [show (wr.alloc (.cells #[.int .i64 op, .string ty, .slice xA nx xc, .int .i64 nn, .string nm] 47)).heap.size = wr.heap.size + 1 by simp] at r0 r1 r2 r3 r4
                            have HLx := Lib.hid (HLx.out.below kp_int bv2 (Nat.le_refl _))
                            have HLx' := Lib.hid (HLx'.out.below kp_int bv2 (Nat.le_refl _))
                            have W8 := Lib.hid (W8.out.trans (bv2.mono W8.out.size))
                            have BX9 := Lib.hid (BXq.out.trans (bv2.mono BXq.out.size))
                            have BW9 := Lib.hid (HB.out.trans (BX9.out.mono HB.out.size))
                            clear bv bv2
                            go_upto_region 30 with fail
                            generalize (wr.alloc (.cells #[.int .i64 op, .string ty, .slice xA nx xc, .int .i64 nn, .string nm] 47)).alloc (.cells #[.int .i64 op', .string ty', .slice xA' nx' xc', .int .i64 nn', .string nm'] 47) = w9 at *
                            clear f4 j4 j4' e0 e1 e2 e3 e4 i0 i1 i2 i3 i4
                            by_cases z1 : op = op'
                            · subst z1
                              cases z2 : eqS ty ty' with
                              | false =>
                                have s1 := eqS_spell z2
                                obtain rfl : b = false := bool_no hr.out (pg_ne (.inr (.inr (ne_of HXF.out HXF'.out (fn_ne (.inr (.inr (.inr (.inr (.inl (ne_of HY.out HY'.out (fun e => by injection e with a1 a2 a3 a4 a5; rw [a2, eqS_iff.2 rfl] at z2; cases z2))))))))))))
                                clear z2
                                go_wp2_with fail
                                go_ret
                                exact ⟨rfl, BW9.out⟩
                              | true =>
                                obtain rfl := eqS_iff.1 z2
                                clear z2
                                by_cases z3 : nn = nn'
                                · subst z3
                                  cases z4 : eqS nm nm' with
                                  | false =>
                                    have s1 := eqS_spell z4
                                    obtain rfl : b = false := bool_no hr.out (pg_ne (.inr (.inr (ne_of HXF.out HXF'.out (fn_ne (.inr (.inr (.inr (.inr (.inl (ne_of HY.out HY'.out (fun e => by injection e with a1 a2 a3 a4 a5; rw [a5, eqS_iff.2 rfl] at z4; cases z4))))))))))))
                                    clear z4
                                    go_wp2_with fail
                                    go_ret
                                    exact ⟨rfl, BW9.out⟩
                                  | true =>
                                    obtain rfl := eqS_iff.1 z4
                                    clear z4
                                    go_wp2_with fail
                                    obtain ⟨r5, hr5⟩ := bool_ex (al = al')
                                    have HR5 := Lib.hid hr5
                                    refine (refInts_any _ _ _ _ nx nx' al al' r5 _ HLx.out HLx'.out HNX HNX' l2 l2' hr5).mono ?_
                                    rintro e w10 ⟨rfl, b10⟩
                                    have BX10 := Lib.hid (BX9.out.trans (b10.mono BX9.out.size))
                                    have BW10 := Lib.hid (HB.out.trans (BX10.out.mono HB.out.size))
                                    have W8 := Lib.hid (W8.out.trans (b10.mono W8.out.size))
                                    clear b10 hr5 p0 p1 p2 p3 p4 r0 r1 r2 r3 r4
                                    cases r5 with
                                    | false =>
                                      obtain rfl : b = false := bool_no hr.out (pg_ne (.inr (.inr (ne_of HXF.out HXF'.out (fn_ne (.inr (.inr (.inr (.inr (.inl (ne_of HY.out HY'.out (fun e => by injection e with a1 a2 a3 a4 a5; have := HR5.out.2 a3; cases this))))))))))))
                                      go_wp2_with fail
                                      go_ret
                                      exact ⟨rfl, BW10.out⟩
                                    | true =>
                                      obtain rfl := HR5.out.1 rfl
                                      have HT := Lib.hid (take_up HQ.out HY.out HY'.out)
                                      go_wp2_with fail
                                      go_roundw
                                      case rel => exact ⟨q + 1, by omega, by go_num, HT, W8.out⟩
                                      case measure => simp [intOf]; omega
                                · have n1 : (nn != nn') = true := by simp; exact z3
                                  obtain rfl : b = false := bool_no hr.out (pg_ne (.inr (.inr (ne_of HXF.out HXF'.out (fn_ne (.inr (.inr (.inr (.inr (.inl (ne_of HY.out HY'.out (fun e => by injection e with a1 a2 a3 a4 a5; exact z3 a4))))))))))))
                                  clear z3
                                  go_wp2_with fail
                                  go_ret
                                  exact ⟨rfl, BW9.out⟩
                            · have n1 : (op != op') = true := by simp; exact z1
                              obtain rfl : b = false := bool_no hr.out (pg_ne (.inr (.inr (ne_of HXF.out HXF'.out (fn_ne (.inr (.inr (.inr (.inr (.inl (ne_of HY.out HY'.out (fun e => by injection e with a1 a2 a3 a4 a5; exact z1 a1))))))))))))
                              clear z1
                              go_wp2_with fail
                              go_ret
                              exact ⟨rfl, BW9.out⟩
                          · have HIE : Hid (U.f.ins = U'.f.ins) := all_eq HIU.out HIU'.out (by omega) HQ.out
                            have BXW := Lib.hid (HB.out.trans (BXq.out.mono HB.out.size))
                            have HBq := Lib.hid hb
                            clear hb
                            go_wp2_with fail
                            go_loopw [14] (fun i w' => BRel w8 bu (fun q => U.f.blocks.take q = U'.f.blocks.take q) i w') (fun i _ => bu - (intOf i).toNat)
                            case atStart => exact ⟨0, Nat.zero_le _, rfl, rfl, HBq.out⟩
                            case round =>
                              as_aux_lemma =>
                              obtain ⟨q6, hq6, rfl, HQ6, hb⟩ := hrel
                              have f5 := keepB f5x.out hb
                              have j5 := keepB j5x.out hb
                              have W8 := Lib.hid hb
                              have BXq := Lib.hid (BX.out.trans (hb.mono BX.out.size))
                              have BXW := Lib.hid (HB.out.trans (BXq.out.mono HB.out.size))
                              by_cases hlt6 : q6 < bu
                              · obtain ⟨ig, io, x, cs, hA, hx, ⟨v, rfl, -, -, -, -, ⟨xA, xc, rfl, l1, l2, hL⟩⟩, hc⟩ := two_at (HUM.out.B.below kp_blk hb (Nat.le_refl _)) (show q6 < U.f.blocks.length by have := HBU.out; omega)
                                obtain ⟨ig', io', x', cs', hA', hx', ⟨v', rfl, -, -, -, -, ⟨xA', xc', rfl, l1', l2', hL'⟩⟩, hc'⟩ := two_at (HUM'.out.B.below kp_blk hb (Nat.le_refl _)) (show q6 < U'.f.blocks.length by have := HBU'.out; omega)
                                have HY := Lib.hid hx
                                have HY' := Lib.hid hx'
                                have HLx := Lib.hid hL
                                have HLx' := Lib.hid hL'
                                have e0 := hc 0 _ rfl
                                have e1 := hc 1 _ rfl
                                have e2 := hc 2 _ rfl
                                have e3 := hc 3 _ rfl
                                have e4 := hc 4 _ rfl
                                have i0 := hc' 0 _ rfl
                                have i1 := hc' 1 _ rfl
                                have i2 := hc' 2 _ rfl
                                have i3 := hc' 3 _ rfl
                                have i4 := hc' 4 _ rfl
                                simp only [Nat.add_zero] at e0 i0
                                rw [hA] at f5
                                rw [hA'] at j5
                                clear hc hc' hx hx' hL hL' hA hA' hb
                                obtain ⟨al, ju, ar, t0, t1⟩ := x
                                obtain ⟨al', ju', ar', t0', t1'⟩ := x'
                                simp only at e0 e1 e2 e3 e4 i0 i1 i2 i3 i4 l1 l1' l2 l2' HLx HLx'
                                obtain ⟨nx, hnx⟩ : ∃ n, al.length = n := ⟨_, rfl⟩
                                obtain ⟨nx', hnx'⟩ : ∃ n, al'.length = n := ⟨_, rfl⟩
                                rw [hnx] at e0 l1 l2
                                rw [hnx'] at i0 l1' l2'
                                have HNX := Lib.hid hnx
                                have HNX' := Lib.hid hnx'
                                clear hnx hnx'
                                have bv := below_alloc wr (.cells #[.slice xA nx xc, .int .i64 ju, .int .i64 ar, .int .i64 t0, .int .i64 t1] 53)
                                have bv2 := below_two wr (.cells #[.slice xA nx xc, .int .i64 ju, .int .i64 ar, .int .i64 t0, .int .i64 t1] 53) (.cells #[.slice xA' nx' xc', .int .i64 ju', .int .i64 ar', .int .i64 t0', .int .i64 t1'] 53)
                                have i0 := keepB i0 bv
                                have i1 := keepB i1 bv
                                have i2 := keepB i2 bv
                                have i3 := keepB i3 bv
                                have i4 := keepB i4 bv
                                have j5' := keepB j5 bv
                                have p0 : ((wr.alloc (.cells #[.slice xA nx xc, .int .i64 ju, .int .i64 ar, .int .i64 t0, .int .i64 t1] 53)).alloc (.cells #[.slice xA' nx' xc', .int .i64 ju', .int .i64 ar', .int .i64 t0', .int .i64 t1'] 53)).cell? ⟨wr.heap.size, 0, none⟩ = some (.slice xA nx xc) := keepB (cell_new wr #[.slice xA nx xc, .int .i64 ju, .int .i64 ar, .int .i64 t0, .int .i64 t1] 53 0) (below_alloc (wr.alloc (.cells #[.slice xA nx xc, .int .i64 ju, .int .i64 ar, .int .i64 t0, .int .i64 t1] 53)) (.cells #[.slice xA' nx' xc', .int .i64 ju', .int .i64 ar', .int .i64 t0', .int .i64 t1'] 53))
                                have p1 : ((wr.alloc (.cells #[.slice xA nx xc, .int .i64 ju, .int .i64 ar, .int .i64 t0, .int .i64 t1] 53)).alloc (.cells #[.slice xA' nx' xc', .int .i64 ju', .int .i64 ar', .int .i64 t0', .int .i64 t1'] 53)).cell? ⟨wr.heap.size, 1, none⟩ = some (.int .i64 ju) := keepB (cell_new wr #[.slice xA nx xc, .int .i64 ju, .int .i64 ar, .int .i64 t0, .int .i64 t1] 53 1) (below_alloc (wr.alloc (.cells #[.slice xA nx xc, .int .i64 ju, .int .i64 ar, .int .i64 t0, .int .i64 t1] 53)) (.cells #[.slice xA' nx' xc', .int .i64 ju', .int .i64 ar', .int .i64 t0', .int .i64 t1'] 53))
                                have p2 : ((wr.alloc (.cells #[.slice xA nx xc, .int .i64 ju, .int .i64 ar, .int .i64 t0, .int .i64 t1] 53)).alloc (.cells #[.slice xA' nx' xc', .int .i64 ju', .int .i64 ar', .int .i64 t0', .int .i64 t1'] 53)).cell? ⟨wr.heap.size, 2, none⟩ = some (.int .i64 ar) := keepB (cell_new wr #[.slice xA nx xc, .int .i64 ju, .int .i64 ar, .int .i64 t0, .int .i64 t1] 53 2) (below_alloc (wr.alloc (.cells #[.slice xA nx xc, .int .i64 ju, .int .i64 ar, .int .i64 t0, .int .i64 t1] 53)) (.cells #[.slice xA' nx' xc', .int .i64 ju', .int .i64 ar', .int .i64 t0', .int .i64 t1'] 53))
                                have p3 : ((wr.alloc (.cells #[.slice xA nx xc, .int .i64 ju, .int .i64 ar, .int .i64 t0, .int .i64 t1] 53)).alloc (.cells #[.slice xA' nx' xc', .int .i64 ju', .int .i64 ar', .int .i64 t0', .int .i64 t1'] 53)).cell? ⟨wr.heap.size, 3, none⟩ = some (.int .i64 t0) := keepB (cell_new wr #[.slice xA nx xc, .int .i64 ju, .int .i64 ar, .int .i64 t0, .int .i64 t1] 53 3) (below_alloc (wr.alloc (.cells #[.slice xA nx xc, .int .i64 ju, .int .i64 ar, .int .i64 t0, .int .i64 t1] 53)) (.cells #[.slice xA' nx' xc', .int .i64 ju', .int .i64 ar', .int .i64 t0', .int .i64 t1'] 53))
                                have p4 : ((wr.alloc (.cells #[.slice xA nx xc, .int .i64 ju, .int .i64 ar, .int .i64 t0, .int .i64 t1] 53)).alloc (.cells #[.slice xA' nx' xc', .int .i64 ju', .int .i64 ar', .int .i64 t0', .int .i64 t1'] 53)).cell? ⟨wr.heap.size, 4, none⟩ = some (.int .i64 t1) := keepB (cell_new wr #[.slice xA nx xc, .int .i64 ju, .int .i64 ar, .int .i64 t0, .int .i64 t1] 53 4) (below_alloc (wr.alloc (.cells #[.slice xA nx xc, .int .i64 ju, .int .i64 ar, .int .i64 t0, .int .i64 t1] 53)) (.cells #[.slice xA' nx' xc', .int .i64 ju', .int .i64 ar', .int .i64 t0', .int .i64 t1'] 53))
                                have r0 : ((wr.alloc (.cells #[.slice xA nx xc, .int .i64 ju, .int .i64 ar, .int .i64 t0, .int .i64 t1] 53)).alloc (.cells #[.slice xA' nx' xc', .int .i64 ju', .int .i64 ar', .int .i64 t0', .int .i64 t1'] 53)).cell? ⟨(wr.alloc (.cells #[.slice xA nx xc, .int .i64 ju, .int .i64 ar, .int .i64 t0, .int .i64 t1] 53)).heap.size, 0, none⟩ = some (.slice xA' nx' xc') := cell_new (wr.alloc (.cells #[.slice xA nx xc, .int .i64 ju, .int .i64 ar, .int .i64 t0, .int .i64 t1] 53)) #[.slice xA' nx' xc', .int .i64 ju', .int .i64 ar', .int .i64 t0', .int .i64 t1'] 53 0
                                have r1 : ((wr.alloc (.cells #[.slice xA nx xc, .int .i64 ju, .int .i64 ar, .int .i64 t0, .int .i64 t1] 53)).alloc (.cells #[.slice xA' nx' xc', .int .i64 ju', .int .i64 ar', .int .i64 t0', .int .i64 t1'] 53)).cell? ⟨(wr.alloc (.cells #[.slice xA nx xc, .int .i64 ju, .int .i64 ar, .int .i64 t0, .int .i64 t1] 53)).heap.size, 1, none⟩ = some (.int .i64 ju') := cell_new (wr.alloc (.cells #[.slice xA nx xc, .int .i64 ju, .int .i64 ar, .int .i64 t0, .int .i64 t1] 53)) #[.slice xA' nx' xc', .int .i64 ju', .int .i64 ar', .int .i64 t0', .int .i64 t1'] 53 1
                                have r2 : ((wr.alloc (.cells #[.slice xA nx xc, .int .i64 ju, .int .i64 ar, .int .i64 t0, .int .i64 t1] 53)).alloc (.cells #[.slice xA' nx' xc', .int .i64 ju', .int .i64 ar', .int .i64 t0', .int .i64 t1'] 53)).cell? ⟨(wr.alloc (.cells #[.slice xA nx xc, .int .i64 ju, .int .i64 ar, .int .i64 t0, .int .i64 t1] 53)).heap.size, 2, none⟩ = some (.int .i64 ar') := cell_new (wr.alloc (.cells #[.slice xA nx xc, .int .i64 ju, .int .i64 ar, .int .i64 t0, .int .i64 t1] 53)) #[.slice xA' nx' xc', .int .i64 ju', .int .i64 ar', .int .i64 t0', .int .i64 t1'] 53 2
                                have r3 : ((wr.alloc (.cells #[.slice xA nx xc, .int .i64 ju, .int .i64 ar, .int .i64 t0, .int .i64 t1] 53)).alloc (.cells #[.slice xA' nx' xc', .int .i64 ju', .int .i64 ar', .int .i64 t0', .int .i64 t1'] 53)).cell? ⟨(wr.alloc (.cells #[.slice xA nx xc, .int .i64 ju, .int .i64 ar, .int .i64 t0, .int .i64 t1] 53)).heap.size, 3, none⟩ = some (.int .i64 t0') := cell_new (wr.alloc (.cells #[.slice xA nx xc, .int .i64 ju, .int .i64 ar, .int .i64 t0, .int .i64 t1] 53)) #[.slice xA' nx' xc', .int .i64 ju', .int .i64 ar', .int .i64 t0', .int .i64 t1'] 53 3
                                have r4 : ((wr.alloc (.cells #[.slice xA nx xc, .int .i64 ju, .int .i64 ar, .int .i64 t0, .int .i64 t1] 53)).alloc (.cells #[.slice xA' nx' xc', .int .i64 ju', .int .i64 ar', .int .i64 t0', .int .i64 t1'] 53)).cell? ⟨(wr.alloc (.cells #[.slice xA nx xc, .int .i64 ju, .int .i64 ar, .int .i64 t0, .int .i64 t1] 53)).heap.size, 4, none⟩ = some (.int .i64 t1') := cell_new (wr.alloc (.cells #[.slice xA nx xc, .int .i64 ju, .int .i64 ar, .int .i64 t0, .int .i64 t1] 53)) #[.slice xA' nx' xc', .int .i64 ju', .int .i64 ar', .int .i64 t0', .int .i64 t1'] 53 4
                                rw [show (wr.alloc (.cells #[.slice xA nx xc, .int .i64 ju, .int .i64 ar, .int .i64 t0, .int .i64 t1] 53)).heap.size = wr.heap.size + 1 by simp] at r0 r1 r2 r3 r4
                                have HLx := Lib.hid (HLx.out.below kp_int bv2 (Nat.le_refl _))
                                have HLx' := Lib.hid (HLx'.out.below kp_int bv2 (Nat.le_refl _))
                                have W8 := Lib.hid (W8.out.trans (bv2.mono W8.out.size))
                                have BX9 := Lib.hid (BXq.out.trans (bv2.mono BXq.out.size))
                                have BW9 := Lib.hid (HB.out.trans (BX9.out.mono HB.out.size))
                                clear bv bv2
                                go_upto_region 37 with fail
                                generalize (wr.alloc (.cells #[.slice xA nx xc, .int .i64 ju, .int .i64 ar, .int .i64 t0, .int .i64 t1] 53)).alloc (.cells #[.slice xA' nx' xc', .int .i64 ju', .int .i64 ar', .int .i64 t0', .int .i64 t1'] 53) = w9 at *
                                clear f5 j5 j5' e0 e1 e2 e3 e4 i0 i1 i2 i3 i4
                                by_cases z1 : ju = ju'
                                · subst z1
                                  by_cases z2 : ar = ar'
                                  · subst z2
                                    have EQ := eq51 t0 t1 t0' t1'
                                    by_cases z3 : t0 = t0'
                                    · subst z3
                                      by_cases z4 : t1 = t1'
                                      · subst z4
                                        go_wp2_with fail
                                        obtain ⟨r5, hr5⟩ := bool_ex (al = al')
                                        have HR5 := Lib.hid hr5
                                        refine (refInts_any _ _ _ _ nx nx' al al' r5 _ HLx.out HLx'.out HNX HNX' l2 l2' hr5).mono ?_
                                        rintro e w10 ⟨rfl, b10⟩
                                        have BX10 := Lib.hid (BX9.out.trans (b10.mono BX9.out.size))
                                        have BW10 := Lib.hid (HB.out.trans (BX10.out.mono HB.out.size))
                                        have W8 := Lib.hid (W8.out.trans (b10.mono W8.out.size))
                                        clear b10 hr5 p0 p1 p2 p3 p4 r0 r1 r2 r3 r4
                                        cases r5 with
                                        | false =>
                                          obtain rfl : b = false := bool_no hr.out (pg_ne (.inr (.inr (ne_of HXF.out HXF'.out (fn_ne (.inr (.inr (.inr (.inr (.inr (ne_of HY.out HY'.out (fun e => by injection e with a1 a2 a3 a4 a5; have := HR5.out.2 a1; cases this))))))))))))
                                          go_wp2_with fail
                                          go_ret
                                          exact ⟨rfl, BW10.out⟩
                                        | true =>
                                          obtain rfl := HR5.out.1 rfl
                                          have HT := Lib.hid (take_up HQ6.out HY.out HY'.out)
                                          go_wp2_with fail
                                          go_roundw
                                          case rel => exact ⟨q6 + 1, by omega, by go_num, HT, W8.out⟩
                                          case measure => simp [intOf]; omega
                                      · have n1 : (t1 == t1') = false := by simp; exact z4
                                        obtain rfl : b = false := bool_no hr.out (pg_ne (.inr (.inr (ne_of HXF.out HXF'.out (fn_ne (.inr (.inr (.inr (.inr (.inr (ne_of HY.out HY'.out (fun e => by injection e with a1 a2 a3 a4 a5; exact z4 a5))))))))))))
                                        go_wp2_with fail
                                        go_ret
                                        exact ⟨rfl, BW9.out⟩
                                    · have n1 : (t0 == t0') = false := by simp; exact z3
                                      obtain rfl : b = false := bool_no hr.out (pg_ne (.inr (.inr (ne_of HXF.out HXF'.out (fn_ne (.inr (.inr (.inr (.inr (.inr (ne_of HY.out HY'.out (fun e => by injection e with a1 a2 a3 a4 a5; exact z3 a4))))))))))))
                                      go_wp2_with fail
                                      go_ret
                                      exact ⟨rfl, BW9.out⟩
                                  · have n1 : (ar != ar') = true := by simp; exact z2
                                    obtain rfl : b = false := bool_no hr.out (pg_ne (.inr (.inr (ne_of HXF.out HXF'.out (fn_ne (.inr (.inr (.inr (.inr (.inr (ne_of HY.out HY'.out (fun e => by injection e with a1 a2 a3 a4 a5; exact z2 a3))))))))))))
                                    clear z2
                                    go_wp2_with fail
                                    go_ret
                                    exact ⟨rfl, BW9.out⟩
                                · have n1 : (ju != ju') = true := by simp; exact z1
                                  obtain rfl : b = false := bool_no hr.out (pg_ne (.inr (.inr (ne_of HXF.out HXF'.out (fn_ne (.inr (.inr (.inr (.inr (.inr (ne_of HY.out HY'.out (fun e => by injection e with a1 a2 a3 a4 a5; exact z1 a2))))))))))))
                                  clear z1
                                  go_wp2_with fail
                                  go_ret
                                  exact ⟨rfl, BW9.out⟩
                              · have hBE : U.f.blocks = U'.f.blocks := all_eq HBU.out HBU'.out (by omega) HQ6.out
                                have hFE : U.f = U'.f := by
                                  have h1 := HQ1.out
                                  have h2 := HQ2.out
                                  have h3 := HQ3.out
                                  have h4 := HQ4.out
                                  have h5 := HIE.out
                                  cases hu : U.f with
                                  | mk n1 n2 n3 n4 n5 n6 =>
                                    cases hu' : U'.f with
                                    | mk m1 m2 m3 m4 m5 m6 =>
                                      rw [hu, hu'] at h1 h2 h3 h4 h5 hBE
                                      simp only at h1 h2 h3 h4 h5 hBE
                                      rw [h1, h2, h3, h4, h5, hBE]
                                have HT := Lib.hid (take_up HK4.out HXF.out (by rw [hFE]; exact HXF'.out))
                                clear hBE hFE hb
                                go_wp2_with fail
                                go_roundw
                                case rel => exact ⟨k4 + 1, by omega, by go_num, HT, BXq.out⟩
                                case measure => simp [intOf]; omega
                      · have n1 : ((bu : Int) != (bu' : Int)) = true := by simp; omega
                        have n2 : (bu != bu') = true := by simp; exact q6
                        obtain rfl : b = false := bool_no hr.out (pg_ne (.inr (.inr (ne_of HXF.out HXF'.out (fn_ne (.inr (.inr (.inr (.inr (.inr (fun e => q6 (by have h1 := HBU.out; have h2 := HBU'.out; rw [e] at h1; omega))))))))))))
                        clear q6
                        go_wp2_with fail
                        go_ret
                        exact ⟨rfl, BXW.out⟩
                    · have n1 : ((iu : Int) != (iu' : Int)) = true := by simp; omega
                      have n2 : (iu != iu') = true := by simp; exact q5
                      obtain rfl : b = false := bool_no hr.out (pg_ne (.inr (.inr (ne_of HXF.out HXF'.out (fn_ne (.inr (.inr (.inr (.inr (.inl (fun e => q5 (by have h1 := HIU.out; have h2 := HIU'.out; rw [e] at h1; omega))))))))))))
                      clear q5
                      go_wp2_with fail
                      go_ret
                      exact ⟨rfl, BXW.out⟩
                  · obtain rfl : b = true := hr.out.2 (by
                      have hFE := all_eq Hf.out Hf'.out (by omega) HK4.out
                      have h1 := HSE.out
                      have h2 := HGE.out
                      cases hp : E.p with
                      | mk s1 g1 f1 =>
                        cases hp' : E'.p with
                        | mk s2 g2 f2 =>
                          rw [hp, hp'] at h1 h2 hFE
                          simp only at h1 h2 hFE
                          rw [h1, h2, hFE])
                    clear hb
                    go_wp2_with fail
                    go_ret
                    exact ⟨rfl, BW.out⟩
      · have n1 : ((fm : Int) != (fm' : Int)) = true := by simp; omega
        have n2 : (fm != fm') = true := by simp; exact q3
        obtain rfl : b = false := bool_no hr.out (pg_ne (.inr (.inr (fun e => q3 (by have h1 := Hf.out; have h2 := Hf'.out; rw [e] at h1; omega)))))
        clear q3
        go_enter Tryd.func14, Tryd.ntmps14
        go_wp2_with fail
        go_ret
        exact ⟨rfl, HB.out⟩
    · have n1 : ((gm : Int) != (gm' : Int)) = true := by simp; omega
      have n2 : (gm != gm') = true := by simp; exact q2
      obtain rfl : b = false := bool_no hr.out (pg_ne (.inr (.inl (fun e => q2 (by have h1 := Hg.out; have h2 := Hg'.out; rw [e] at h1; omega)))))
      clear q2
      go_enter Tryd.func14, Tryd.ntmps14
      go_wp2_with fail
      go_ret
      exact ⟨rfl, HB.out⟩
  · have n1 : ((sm : Int) != (sm' : Int)) = true := by simp; omega
    have n2 : (sm != sm') = true := by simp; exact q1
    obtain rfl : b = false := bool_no hr.out (pg_ne (.inl (fun e => q1 (by have h1 := Hs.out; have h2 := Hs'.out; rw [e] at h1; omega))))
    clear q1
    go_enter Tryd.func14, Tryd.ntmps14
    go_wp2_with fail
    go_ret
    exact ⟨rfl, HB.out⟩

end Go.Proofs.YtcbjcpmkebbfaaaDoor
