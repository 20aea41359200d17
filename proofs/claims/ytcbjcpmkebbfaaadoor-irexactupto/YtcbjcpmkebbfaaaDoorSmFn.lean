/-
  CONTRACTS: two functions, two rows of functions, two programs are the same: ir.Same. Of what was there nothing has turned.
-/
import Derived.Test.YtcbjcpmkebbfaaaDoorSmEqF
namespace Go.Proofs.YtcbjcpmkebbfaaaDoor
open Go.RowKit

set_option maxRecDepth 20000 in
set_option maxHeartbeats 1000000 in
theorem sameFn_any (E E' : FE) (b : Bool) (w : World) (h1 : FM E w) (h2 : FM E' w) (hr : Hid (b = true ↔ E.f = E'.f)) :
    Calls Tryd.prog 36 #[E.v, E'.v] w fun e w' => e = .returned (.bool b) ∧ Below w.heap.size w w' := by
  have HB := Lib.hid (below_two w (.cells E.row 40) (.cells E'.row 40))
  obtain ⟨⟨nm, ps, rs, ss, is, bs⟩, pA, pc, sA, sc, iA, ic, bA, bc⟩ := E
  obtain ⟨⟨nm', ps', rs', ss', is', bs'⟩, pA', pc', sA', sc', iA', ic', bA', bc'⟩ := E'
  unfold FE.v FE.row at *
  have H1 := Lib.hid h1
  have H2 := Lib.hid h2
  clear h1 h2
  simp only at hr ⊢
  cases g1 : eqS nm nm' with
  | false =>
    obtain rfl : b = false := bool_no hr.out (fn_ne (.inl (fun e => by simp only at e; rw [e, eqS_iff.2 rfl] at g1; cases g1)))
    have g1 := eqS_spell g1
    go_enter Tryd.func36, Tryd.ntmps36
    go_wp2_with fail
    go_ret
    exact ⟨rfl, HB.out⟩
  | true =>
  obtain rfl := eqS_iff.1 g1
  clear g1
  obtain ⟨d3, h3⟩ := bool_ex (ps = ps')
  obtain ⟨d4, h4⟩ := bool_ex (ss = ss')
  obtain ⟨d5, h5⟩ := bool_ex (is = is')
  obtain ⟨d6, h6⟩ := bool_ex (bs = bs')
  have K3 := Lib.hid (fun w' hb => eqStr_any pA pA' pc pc' ps.length ps'.length ps ps' d3 w' (H1.out.P.below kp_str hb (Nat.le_refl _)) (H2.out.P.below kp_str hb (Nat.le_refl _)) (Lib.hid rfl) (Lib.hid rfl) H1.out.pl H2.out.pl h3)
  have K4 := Lib.hid (fun w' hb => eqStr_any sA sA' sc sc' ss.length ss'.length ss ss' d4 w' (H1.out.S.below kp_str hb (Nat.le_refl _)) (H2.out.S.below kp_str hb (Nat.le_refl _)) (Lib.hid rfl) (Lib.hid rfl) H1.out.sl H2.out.sl h4)
  have K5 := Lib.hid (fun w' hb => eqIns_any iA iA' ic ic' is.length is'.length is is' d5 w' (H1.out.I.below kp_ins hb (Nat.le_refl _)) (H2.out.I.below kp_ins hb (Nat.le_refl _)) (Lib.hid rfl) (Lib.hid rfl) H1.out.il H2.out.il h5)
  have K6 := Lib.hid (fun w' hb => eqBlk_any bA bA' bc bc' bs.length bs'.length bs bs' d6 w' (H1.out.B.below kp_blk hb (Nat.le_refl _)) (H2.out.B.below kp_blk hb (Nat.le_refl _)) (Lib.hid rfl) (Lib.hid rfl) H1.out.bl H2.out.bl h6)
  clear H1 H2
  have a2 := two_a w #[.string nm, .slice pA ps.length pc, .string rs, .slice sA ss.length sc, .slice iA is.length ic, .slice bA bs.length bc] #[.string nm, .slice pA' ps'.length pc', .string rs', .slice sA' ss'.length sc', .slice iA' is'.length ic', .slice bA' bs'.length bc'] 40 40 2 _ rfl
  have e2 := two_b w #[.string nm, .slice pA ps.length pc, .string rs, .slice sA ss.length sc, .slice iA is.length ic, .slice bA bs.length bc] #[.string nm, .slice pA' ps'.length pc', .string rs', .slice sA' ss'.length sc', .slice iA' is'.length ic', .slice bA' bs'.length bc'] 40 40 2 _ rfl
  have a3 := two_a w #[.string nm, .slice pA ps.length pc, .string rs, .slice sA ss.length sc, .slice iA is.length ic, .slice bA bs.length bc] #[.string nm, .slice pA' ps'.length pc', .string rs', .slice sA' ss'.length sc', .slice iA' is'.length ic', .slice bA' bs'.length bc'] 40 40 3 _ rfl
  have e3 := two_b w #[.string nm, .slice pA ps.length pc, .string rs, .slice sA ss.length sc, .slice iA is.length ic, .slice bA bs.length bc] #[.string nm, .slice pA' ps'.length pc', .string rs', .slice sA' ss'.length sc', .slice iA' is'.length ic', .slice bA' bs'.length bc'] 40 40 3 _ rfl
  have a4 := two_a w #[.string nm, .slice pA ps.length pc, .string rs, .slice sA ss.length sc, .slice iA is.length ic, .slice bA bs.length bc] #[.string nm, .slice pA' ps'.length pc', .string rs', .slice sA' ss'.length sc', .slice iA' is'.length ic', .slice bA' bs'.length bc'] 40 40 4 _ rfl
  have e4 := two_b w #[.string nm, .slice pA ps.length pc, .string rs, .slice sA ss.length sc, .slice iA is.length ic, .slice bA bs.length bc] #[.string nm, .slice pA' ps'.length pc', .string rs', .slice sA' ss'.length sc', .slice iA' is'.length ic', .slice bA' bs'.length bc'] 40 40 4 _ rfl
  have a5 := two_a w #[.string nm, .slice pA ps.length pc, .string rs, .slice sA ss.length sc, .slice iA is.length ic, .slice bA bs.length bc] #[.string nm, .slice pA' ps'.length pc', .string rs', .slice sA' ss'.length sc', .slice iA' is'.length ic', .slice bA' bs'.length bc'] 40 40 5 _ rfl
  have e5 := two_b w #[.string nm, .slice pA ps.length pc, .string rs, .slice sA ss.length sc, .slice iA is.length ic, .slice bA bs.length bc] #[.string nm, .slice pA' ps'.length pc', .string rs', .slice sA' ss'.length sc', .slice iA' is'.length ic', .slice bA' bs'.length bc'] 40 40 5 _ rfl
  go_enter Tryd.func36, Tryd.ntmps36
  go_wp2_with fail
  refine (K3.out _ HB.out).mono ?_
  rintro e w3 ⟨rfl, b3⟩
  replace a2 := keepB a2 b3
  replace e2 := keepB e2 b3
  replace a3 := keepB a3 b3
  replace e3 := keepB e3 b3
  replace a4 := keepB a4 b3
  replace e4 := keepB e4 b3
  replace a5 := keepB a5 b3
  replace e5 := keepB e5 b3
  have B3 := Lib.hid (HB.out.trans (b3.mono HB.out.size))
  clear b3 K3
  cases d3 with
  | false =>
    obtain rfl : b = false := bool_no hr.out (fn_ne (.inr (.inr (.inl (fun e => by have := h3.out.2 e; cases this)))))
    go_wp2_with fail
    go_ret
    exact ⟨rfl, B3.out⟩
  | true =>
  obtain rfl := h3.out.1 rfl
  clear h3
  cases g1 : eqS rs rs' with
  | false =>
    obtain rfl : b = false := bool_no hr.out (fn_ne (.inr (.inl (fun e => by simp only at e; rw [e, eqS_iff.2 rfl] at g1; cases g1))))
    have g1 := eqS_spell g1
    go_wp2_with fail
    go_ret
    exact ⟨rfl, B3.out⟩
  | true =>
  obtain rfl := eqS_iff.1 g1
  clear g1
  go_wp2_with fail
  refine (K4.out _ B3.out).mono ?_
  rintro e w4 ⟨rfl, b4⟩
  replace a4 := keepB a4 b4
  replace e4 := keepB e4 b4
  replace a5 := keepB a5 b4
  replace e5 := keepB e5 b4
  have B4 := Lib.hid (B3.out.trans (b4.mono B3.out.size))
  clear b4 K4
  cases d4 with
  | false =>
    obtain rfl : b = false := bool_no hr.out (fn_ne (.inr (.inr (.inr (.inl (fun e => by have := h4.out.2 e; cases this))))))
    go_wp2_with fail
    go_ret
    exact ⟨rfl, B4.out⟩
  | true =>
  obtain rfl := h4.out.1 rfl
  clear h4
  go_wp2_with fail
  refine (K5.out _ B4.out).mono ?_
  rintro e w5 ⟨rfl, b5⟩
  replace a5 := keepB a5 b5
  replace e5 := keepB e5 b5
  have B5 := Lib.hid (B4.out.trans (b5.mono B4.out.size))
  clear b5 K5
  cases d5 with
  | false =>
    obtain rfl : b = false := bool_no hr.out (fn_ne (.inr (.inr (.inr (.inr (.inl (fun e => by have := h5.out.2 e; cases this)))))))
    go_wp2_with fail
    go_ret
    exact ⟨rfl, B5.out⟩
  | true =>
  obtain rfl := h5.out.1 rfl
  clear h5
  go_wp2_with fail
  refine (K6.out _ B5.out).mono ?_
  rintro e w6 ⟨rfl, b6⟩
  have B6 := Lib.hid (B5.out.trans (b6.mono B5.out.size))
  clear b6 K6
  cases d6 with
  | false =>
    obtain rfl : b = false := bool_no hr.out (fn_ne (.inr (.inr (.inr (.inr (.inr (fun e => by have := h6.out.2 e; cases this)))))))
    go_wp2_with fail
    go_ret
    exact ⟨rfl, B6.out⟩
  | true =>
  obtain rfl := h6.out.1 rfl
  clear h6
  obtain rfl : b = true := hr.out.2 rfl
  go_wp2_with fail
  go_ret
  exact ⟨rfl, B6.out⟩

set_option maxRecDepth 20000 in
set_option maxHeartbeats 1000000 in
theorem eqFn_any (A A' : Option Addr) (c c' m m' : Nat) (l l' : List Fn) (b : Bool) (w : World) (hR : SL 6 fnR w A l) (hR' : SL 6 fnR w A' l') (hm : Hid (l.length = m)) (hm' : Hid (l'.length = m')) (hl : m ≤ 140737488351232) (hl' : m' ≤ 140737488351232)
    (hr : Hid (b = true ↔ l = l')) : Calls Tryd.prog 35 #[.slice A m c, .slice A' m' c', .func (.func 36) #[] #[]] w fun e w' => e = .returned (.bool b) ∧ Below w.heap.size w w' := by
  have HR := Lib.hid hR
  have HR' := Lib.hid hR'
  clear hR hR'
  by_cases he : m = m'
  · subst he
    go_enter Tryd.func35, Tryd.ntmps35
    go_wp2_with fail
    go_loopw [17] (fun i wr => BRel w m (fun k => l.take k = l'.take k) i wr) (fun i _ => m - (intOf i).toNat)
    case atStart => exact ⟨0, Nat.zero_le _, rfl, rfl, Below.refl _ _⟩
    case round =>
      obtain ⟨k, hk, rfl, HK, hb⟩ := hrel
      by_cases hlt : k < m
      · obtain ⟨g, o, x, cs, hA, hx, hcr, hcs⟩ := two_at (HR.out.below kp_fn hb (Nat.le_refl _)) (k := k) (by have := hm.out; omega)
        obtain ⟨g', o', y, cs', hA', hy, hcr', hcs'⟩ := two_at (HR'.out.below kp_fn hb (Nat.le_refl _)) (k := k) (by have := hm'.out; omega)
        obtain ⟨E, rfl, rfl, hM⟩ := fe_of hcr
        obtain ⟨E', rfl, rfl, hM'⟩ := fe_of hcr'
        have HM := Lib.hid hM
        have HM' := Lib.hid hM'
        have x0 := hcs 0 _ rfl
        have y0 := hcs' 0 _ rfl
        have x1 := hcs 1 _ rfl
        have y1 := hcs' 1 _ rfl
        have x2 := hcs 2 _ rfl
        have y2 := hcs' 2 _ rfl
        have x3 := hcs 3 _ rfl
        have y3 := hcs' 3 _ rfl
        have x4 := hcs 4 _ rfl
        have y4 := hcs' 4 _ rfl
        have x5 := hcs 5 _ rfl
        have y5 := hcs' 5 _ rfl
        simp only [Nat.add_zero] at x0 y0
        have HX := Lib.hid hx
        have HY := Lib.hid hy
        have HB := Lib.hid hb
        obtain ⟨d, hd⟩ := bool_ex (E.f = E'.f)
        have z0 := keepB y0 (below_alloc wr (.cells #[.string E.f.name, .slice E.pA E.f.params.length E.pc, .string E.f.res, .slice E.sA E.f.slots.length E.sc, .slice E.iA E.f.ins.length E.ic, .slice E.bA E.f.blocks.length E.bc] 40))
        have p0 := two_a wr #[.string E.f.name, .slice E.pA E.f.params.length E.pc, .string E.f.res, .slice E.sA E.f.slots.length E.sc, .slice E.iA E.f.ins.length E.ic, .slice E.bA E.f.blocks.length E.bc] #[.string E'.f.name, .slice E'.pA E'.f.params.length E'.pc, .string E'.f.res, .slice E'.sA E'.f.slots.length E'.sc, .slice E'.iA E'.f.ins.length E'.ic, .slice E'.bA E'.f.blocks.length E'.bc] 40 40 0 _ rfl
        have q0 := two_b wr #[.string E.f.name, .slice E.pA E.f.params.length E.pc, .string E.f.res, .slice E.sA E.f.slots.length E.sc, .slice E.iA E.f.ins.length E.ic, .slice E.bA E.f.blocks.length E.bc] #[.string E'.f.name, .slice E'.pA E'.f.params.length E'.pc, .string E'.f.res, .slice E'.sA E'.f.slots.length E'.sc, .slice E'.iA E'.f.ins.length E'.ic, .slice E'.bA E'.f.blocks.length E'.bc] 40 40 0 _ rfl
        have z1 := keepB y1 (below_alloc wr (.cells #[.string E.f.name, .slice E.pA E.f.params.length E.pc, .string E.f.res, .slice E.sA E.f.slots.length E.sc, .slice E.iA E.f.ins.length E.ic, .slice E.bA E.f.blocks.length E.bc] 40))
        have p1 := two_a wr #[.string E.f.name, .slice E.pA E.f.params.length E.pc, .string E.f.res, .slice E.sA E.f.slots.length E.sc, .slice E.iA E.f.ins.length E.ic, .slice E.bA E.f.blocks.length E.bc] #[.string E'.f.name, .slice E'.pA E'.f.params.length E'.pc, .string E'.f.res, .slice E'.sA E'.f.slots.length E'.sc, .slice E'.iA E'.f.ins.length E'.ic, .slice E'.bA E'.f.blocks.length E'.bc] 40 40 1 _ rfl
        have q1 := two_b wr #[.string E.f.name, .slice E.pA E.f.params.length E.pc, .string E.f.res, .slice E.sA E.f.slots.length E.sc, .slice E.iA E.f.ins.length E.ic, .slice E.bA E.f.blocks.length E.bc] #[.string E'.f.name, .slice E'.pA E'.f.params.length E'.pc, .string E'.f.res, .slice E'.sA E'.f.slots.length E'.sc, .slice E'.iA E'.f.ins.length E'.ic, .slice E'.bA E'.f.blocks.length E'.bc] 40 40 1 _ rfl
        have z2 := keepB y2 (below_alloc wr (.cells #[.string E.f.name, .slice E.pA E.f.params.length E.pc, .string E.f.res, .slice E.sA E.f.slots.length E.sc, .slice E.iA E.f.ins.length E.ic, .slice E.bA E.f.blocks.length E.bc] 40))
        have p2 := two_a wr #[.string E.f.name, .slice E.pA E.f.params.length E.pc, .string E.f.res, .slice E.sA E.f.slots.length E.sc, .slice E.iA E.f.ins.length E.ic, .slice E.bA E.f.blocks.length E.bc] #[.string E'.f.name, .slice E'.pA E'.f.params.length E'.pc, .string E'.f.res, .slice E'.sA E'.f.slots.length E'.sc, .slice E'.iA E'.f.ins.length E'.ic, .slice E'.bA E'.f.blocks.length E'.bc] 40 40 2 _ rfl
        have q2 := two_b wr #[.string E.f.name, .slice E.pA E.f.params.length E.pc, .string E.f.res, .slice E.sA E.f.slots.length E.sc, .slice E.iA E.f.ins.length E.ic, .slice E.bA E.f.blocks.length E.bc] #[.string E'.f.name, .slice E'.pA E'.f.params.length E'.pc, .string E'.f.res, .slice E'.sA E'.f.slots.length E'.sc, .slice E'.iA E'.f.ins.length E'.ic, .slice E'.bA E'.f.blocks.length E'.bc] 40 40 2 _ rfl
        have z3 := keepB y3 (below_alloc wr (.cells #[.string E.f.name, .slice E.pA E.f.params.length E.pc, .string E.f.res, .slice E.sA E.f.slots.length E.sc, .slice E.iA E.f.ins.length E.ic, .slice E.bA E.f.blocks.length E.bc] 40))
        have p3 := two_a wr #[.string E.f.name, .slice E.pA E.f.params.length E.pc, .string E.f.res, .slice E.sA E.f.slots.length E.sc, .slice E.iA E.f.ins.length E.ic, .slice E.bA E.f.blocks.length E.bc] #[.string E'.f.name, .slice E'.pA E'.f.params.length E'.pc, .string E'.f.res, .slice E'.sA E'.f.slots.length E'.sc, .slice E'.iA E'.f.ins.length E'.ic, .slice E'.bA E'.f.blocks.length E'.bc] 40 40 3 _ rfl
        have q3 := two_b wr #[.string E.f.name, .slice E.pA E.f.params.length E.pc, .string E.f.res, .slice E.sA E.f.slots.length E.sc, .slice E.iA E.f.ins.length E.ic, .slice E.bA E.f.blocks.length E.bc] #[.string E'.f.name, .slice E'.pA E'.f.params.length E'.pc, .string E'.f.res, .slice E'.sA E'.f.slots.length E'.sc, .slice E'.iA E'.f.ins.length E'.ic, .slice E'.bA E'.f.blocks.length E'.bc] 40 40 3 _ rfl
        have z4 := keepB y4 (below_alloc wr (.cells #[.string E.f.name, .slice E.pA E.f.params.length E.pc, .string E.f.res, .slice E.sA E.f.slots.length E.sc, .slice E.iA E.f.ins.length E.ic, .slice E.bA E.f.blocks.length E.bc] 40))
        have p4 := two_a wr #[.string E.f.name, .slice E.pA E.f.params.length E.pc, .string E.f.res, .slice E.sA E.f.slots.length E.sc, .slice E.iA E.f.ins.length E.ic, .slice E.bA E.f.blocks.length E.bc] #[.string E'.f.name, .slice E'.pA E'.f.params.length E'.pc, .string E'.f.res, .slice E'.sA E'.f.slots.length E'.sc, .slice E'.iA E'.f.ins.length E'.ic, .slice E'.bA E'.f.blocks.length E'.bc] 40 40 4 _ rfl
        have q4 := two_b wr #[.string E.f.name, .slice E.pA E.f.params.length E.pc, .string E.f.res, .slice E.sA E.f.slots.length E.sc, .slice E.iA E.f.ins.length E.ic, .slice E.bA E.f.blocks.length E.bc] #[.string E'.f.name, .slice E'.pA E'.f.params.length E'.pc, .string E'.f.res, .slice E'.sA E'.f.slots.length E'.sc, .slice E'.iA E'.f.ins.length E'.ic, .slice E'.bA E'.f.blocks.length E'.bc] 40 40 4 _ rfl
        have z5 := keepB y5 (below_alloc wr (.cells #[.string E.f.name, .slice E.pA E.f.params.length E.pc, .string E.f.res, .slice E.sA E.f.slots.length E.sc, .slice E.iA E.f.ins.length E.ic, .slice E.bA E.f.blocks.length E.bc] 40))
        have p5 := two_a wr #[.string E.f.name, .slice E.pA E.f.params.length E.pc, .string E.f.res, .slice E.sA E.f.slots.length E.sc, .slice E.iA E.f.ins.length E.ic, .slice E.bA E.f.blocks.length E.bc] #[.string E'.f.name, .slice E'.pA E'.f.params.length E'.pc, .string E'.f.res, .slice E'.sA E'.f.slots.length E'.sc, .slice E'.iA E'.f.ins.length E'.ic, .slice E'.bA E'.f.blocks.length E'.bc] 40 40 5 _ rfl
        have q5 := two_b wr #[.string E.f.name, .slice E.pA E.f.params.length E.pc, .string E.f.res, .slice E.sA E.f.slots.length E.sc, .slice E.iA E.f.ins.length E.ic, .slice E.bA E.f.blocks.length E.bc] #[.string E'.f.name, .slice E'.pA E'.f.params.length E'.pc, .string E'.f.res, .slice E'.sA E'.f.slots.length E'.sc, .slice E'.iA E'.f.ins.length E'.ic, .slice E'.bA E'.f.blocks.length E'.bc] 40 40 5 _ rfl
        have HB2 := Lib.hid (HB.out.trans ((below_two wr (.cells #[.string E.f.name, .slice E.pA E.f.params.length E.pc, .string E.f.res, .slice E.sA E.f.slots.length E.sc, .slice E.iA E.f.ins.length E.ic, .slice E.bA E.f.blocks.length E.bc] 40) (.cells #[.string E'.f.name, .slice E'.pA E'.f.params.length E'.pc, .string E'.f.res, .slice E'.sA E'.f.slots.length E'.sc, .slice E'.iA E'.f.ins.length E'.ic, .slice E'.bA E'.f.blocks.length E'.bc] 40)).mono HB.out.size))
        have K := Lib.hid (sameFn_any E E' d _ (HM.out.drop (below_two wr (.cells #[.string E.f.name, .slice E.pA E.f.params.length E.pc, .string E.f.res, .slice E.sA E.f.slots.length E.sc, .slice E.iA E.f.ins.length E.ic, .slice E.bA E.f.blocks.length E.bc] 40) (.cells #[.string E'.f.name, .slice E'.pA E'.f.params.length E'.pc, .string E'.f.res, .slice E'.sA E'.f.slots.length E'.sc, .slice E'.iA E'.f.ins.length E'.ic, .slice E'.bA E'.f.blocks.length E'.bc] 40))) (HM'.out.drop (below_two wr (.cells #[.string E.f.name, .slice E.pA E.f.params.length E.pc, .string E.f.res, .slice E.sA E.f.slots.length E.sc, .slice E.iA E.f.ins.length E.ic, .slice E.bA E.f.blocks.length E.bc] 40) (.cells #[.string E'.f.name, .slice E'.pA E'.f.params.length E'.pc, .string E'.f.res, .slice E'.sA E'.f.slots.length E'.sc, .slice E'.iA E'.f.ins.length E'.ic, .slice E'.bA E'.f.blocks.length E'.bc] 40))) hd)
        subst hA
        subst hA'
        clear hcs hcs' hx hy hb hM hM' hcr hcr'
        go_wp2_with fail
        refine K.out.mono ?_
        rintro e w3 ⟨rfl, b3⟩
        have B3 := Lib.hid (HB2.out.trans (b3.mono HB2.out.size))
        clear b3 K
        cases d with
        | false =>
          obtain rfl : b = false := bool_no hr.out (ne_of HX.out HY.out (fun e => by have := hd.out.2 e; cases this))
          go_wp2_with fail
          go_ret
          exact ⟨rfl, B3.out⟩
        | true =>
          have HT := Lib.hid (take_up HK.out HX.out (by rw [hd.out.1 rfl]; exact HY.out))
          go_wp2_with fail
          go_roundw
          case rel => exact ⟨k + 1, by omega, by go_num, HT, B3.out⟩
          case measure => simp [intOf]; omega
      · obtain rfl : b = true := hr.out.2 (all_eq hm.out hm'.out (by omega) HK.out)
        go_wp2_with fail
        go_ret
        exact ⟨rfl, hb⟩
  · have n1 : ((m : Int) != (m' : Int)) = true := by simp; omega
    have n2 : (m != m') = true := by simp; exact he
    obtain rfl : b = false := bool_no hr.out (fun h => he (by have h1 := hm.out; have h2 := hm'.out; rw [h] at h1; omega))
    clear he
    go_enter Tryd.func35, Tryd.ntmps35
    go_wp2_with fail
    go_ret
    exact ⟨rfl, Below.refl _ _⟩

set_option maxHeartbeats 400000 in
theorem kSame_any (A A' : Option Addr) (c c' m m' : Nat) (l l' : List St) (b : Bool) (w : World) (hR : SL 2 stR w A l) (hR' : SL 2 stR w A' l') (hm : Hid (l.length = m)) (hm' : Hid (l'.length = m')) (hl : m ≤ 140737488351232) (hl' : m' ≤ 140737488351232)
    (hr : Hid (b = true ↔ l = l')) : Calls Tryd.prog 33 #[.slice A m c, .slice A' m' c'] w fun e w' => e = .returned (.bool b) ∧ Below w.heap.size w w' := by
  go_enter Tryd.func33, Tryd.ntmps33
  go_wp2_with fail
  refine (eqSt_any A A' c c' m m' l l' b w hR hR' hm hm' hl hl' hr).mono ?_
  rintro e w2 ⟨rfl, b2⟩
  go_wp2_with fail
  go_ret
  exact ⟨rfl, b2⟩

set_option maxHeartbeats 1000000 in
theorem same_any (E E' : PE) (b : Bool) (w : World) (h1 : PM E w) (h2 : PM E' w) (hr : Hid (b = true ↔ E.p = E'.p)) :
    Calls Tryd.prog 13 #[E.v, E'.v] w fun e w' => e = .returned (.bool b) ∧ Below w.heap.size w w' := by
  have HB := Lib.hid (below_two w (.cells E.row 26) (.cells E'.row 26))
  obtain ⟨⟨ss, gs, fs⟩, sA, sc, gA, gc, fA, fc⟩ := E
  obtain ⟨⟨ss', gs', fs'⟩, sA', sc', gA', gc', fA', fc'⟩ := E'
  unfold PE.v PE.row at *
  have H1 := Lib.hid h1
  have H2 := Lib.hid h2
  clear h1 h2
  simp only at hr ⊢
  obtain ⟨d3, h3⟩ := bool_ex (ss = ss')
  obtain ⟨d4, h4⟩ := bool_ex (gs = gs')
  obtain ⟨d5, h5⟩ := bool_ex (fs = fs')
  have K3 := Lib.hid (fun w' hb => kSame_any sA sA' sc sc' ss.length ss'.length ss ss' d3 w' (H1.out.S.below kp_st hb (Nat.le_refl _)) (H2.out.S.below kp_st hb (Nat.le_refl _)) (Lib.hid rfl) (Lib.hid rfl) H1.out.sl H2.out.sl h3)
  have K4 := Lib.hid (fun w' hb => eqFd_any gA gA' gc gc' gs.length gs'.length gs gs' d4 w' (H1.out.G.below kp_fd hb (Nat.le_refl _)) (H2.out.G.below kp_fd hb (Nat.le_refl _)) (Lib.hid rfl) (Lib.hid rfl) H1.out.gl H2.out.gl h4)
  have K5 := Lib.hid (fun w' hb => eqFn_any fA fA' fc fc' fs.length fs'.length fs fs' d5 w' (H1.out.F.below kp_fn hb (Nat.le_refl _)) (H2.out.F.below kp_fn hb (Nat.le_refl _)) (Lib.hid rfl) (Lib.hid rfl) H1.out.fl H2.out.fl h5)
  clear H1 H2
  have a1 := two_a w #[.slice sA ss.length sc, .slice gA gs.length gc, .slice fA fs.length fc] #[.slice sA' ss'.length sc', .slice gA' gs'.length gc', .slice fA' fs'.length fc'] 26 26 1 _ rfl
  have e1 := two_b w #[.slice sA ss.length sc, .slice gA gs.length gc, .slice fA fs.length fc] #[.slice sA' ss'.length sc', .slice gA' gs'.length gc', .slice fA' fs'.length fc'] 26 26 1 _ rfl
  have a2 := two_a w #[.slice sA ss.length sc, .slice gA gs.length gc, .slice fA fs.length fc] #[.slice sA' ss'.length sc', .slice gA' gs'.length gc', .slice fA' fs'.length fc'] 26 26 2 _ rfl
  have e2 := two_b w #[.slice sA ss.length sc, .slice gA gs.length gc, .slice fA fs.length fc] #[.slice sA' ss'.length sc', .slice gA' gs'.length gc', .slice fA' fs'.length fc'] 26 26 2 _ rfl
  go_enter Tryd.func13, Tryd.ntmps13
  go_wp2_with fail
  refine (K3.out _ HB.out).mono ?_
  rintro e w3 ⟨rfl, b3⟩
  replace a1 := keepB a1 b3
  replace e1 := keepB e1 b3
  replace a2 := keepB a2 b3
  replace e2 := keepB e2 b3
  have B3 := Lib.hid (HB.out.trans (b3.mono HB.out.size))
  clear b3 K3
  cases d3 with
  | false =>
    obtain rfl : b = false := bool_no hr.out (pg_ne (.inl (fun e => by have := h3.out.2 e; cases this)))
    go_wp2_with fail
    go_ret
    exact ⟨rfl, B3.out⟩
  | true =>
  obtain rfl := h3.out.1 rfl
  clear h3
  go_wp2_with fail
  refine (K4.out _ B3.out).mono ?_
  rintro e w4 ⟨rfl, b4⟩
  replace a2 := keepB a2 b4
  replace e2 := keepB e2 b4
  have B4 := Lib.hid (B3.out.trans (b4.mono B3.out.size))
  clear b4 K4
  cases d4 with
  | false =>
    obtain rfl : b = false := bool_no hr.out (pg_ne (.inr (.inl (fun e => by have := h4.out.2 e; cases this))))
    go_wp2_with fail
    go_ret
    exact ⟨rfl, B4.out⟩
  | true =>
  obtain rfl := h4.out.1 rfl
  clear h4
  go_wp2_with fail
  refine (K5.out _ B4.out).mono ?_
  rintro e w5 ⟨rfl, b5⟩
  have B5 := Lib.hid (B4.out.trans (b5.mono B4.out.size))
  clear b5 K5
  cases d5 with
  | false =>
    obtain rfl : b = false := bool_no hr.out (pg_ne (.inr (.inr (fun e => by have := h5.out.2 e; cases this))))
    go_wp2_with fail
    go_ret
    exact ⟨rfl, B5.out⟩
  | true =>
  obtain rfl := h5.out.1 rfl
  clear h5
  obtain rfl : b = true := hr.out.2 rfl
  go_wp2_with fail
  go_ret
  exact ⟨rfl, B5.out⟩

end Go.Proofs.YtcbjcpmkebbfaaaDoor
