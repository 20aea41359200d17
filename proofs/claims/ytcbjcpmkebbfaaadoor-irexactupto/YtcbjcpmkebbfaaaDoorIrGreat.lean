/-
  CONTRACT: the statements' great: whether a program is more than is asked. Of what was there nothing has turned.
-/
import Derived.Test.YtcbjcpmkebbfaaaDoorIrLine
namespace Go.Proofs.YtcbjcpmkebbfaaaDoor
open Go.RowKit

/-- A program, and where its rows lie. -/
structure PE where
  p : Pg
  sA : Option Addr
  sc : Nat
  gA : Option Addr
  gc : Nat
  fA : Option Addr
  fc : Nat
def PE.row (E : PE) : Array Value := #[.slice E.sA E.p.structs.length E.sc, .slice E.gA E.p.globals.length E.gc, .slice E.fA E.p.funs.length E.fc]
def PE.v (E : PE) : Value := .agg E.row
structure PM (E : PE) (w : World) : Prop where
  S : SL 2 stR w E.sA E.p.structs
  G : SL 2 fdR w E.gA E.p.globals
  F : SL 6 fnR w E.fA E.p.funs
  sl : E.p.structs.length ≤ 140737488351232
  gl : E.p.globals.length ≤ 140737488351232
  fl : E.p.funs.length ≤ 140737488351232
  sle : E.p.structs.length ≤ E.sc
  gle : E.p.globals.length ≤ E.gc
  fle : E.p.funs.length ≤ E.fc
theorem PM.below {E : PE} {w w' : World} {B : Nat} (h : PM E w) (hb : Below B w w') (hB : w.heap.size ≤ B) : PM E w' :=
  { h with S := h.S.below kp_st hb hB, G := h.G.below kp_fd hb hB, F := h.F.below kp_fn hb hB }
theorem pe_of {w : World} {cs : List Value} {p : Pg} (h : pgR w cs p) : ∃ E : PE, E.p = p ∧ cs = E.row.toList ∧ PM E w := by
  obtain ⟨s, g, f, rfl, ⟨sA, sc, rfl, s1, s2, s3⟩, ⟨gA, gc, rfl, g1, g2, g3⟩, ⟨fA, fc, rfl, f1, f2, f3⟩⟩ := h
  exact ⟨⟨p, sA, sc, gA, gc, fA, fc⟩, rfl, rfl, ⟨s3, g3, f3, s2, g2, f2, s1, g1, f1⟩⟩
theorem FM.drop {E : FE} {w w' : World} (h : FM E w) (hb : Below w.heap.size w w') : FM E w' := h.below hb (Nat.le_refl _)
theorem PM.drop {E : PE} {w w' : World} (h : PM E w) (hb : Below w.heap.size w w') : PM E w' := h.below hb (Nat.le_refl _)
/-- A function of a program: its six cells. -/
theorem PM.fn {E : PE} {w : World} (h : PM E w) {k : Nat} {f : Fn} (hk : E.p.funs[k]? = some f) : ∃ g o, E.fA = some ⟨g, o, none⟩ ∧ ∃ U : FE, U.f = f ∧ FM U w ∧ ∀ i v, U.row[i]? = some v → w.cell? ⟨g, o + k * 6 + i, none⟩ = some v := by
  have hl := (List.getElem?_eq_some_iff.1 hk).1
  obtain ⟨g, o, hA, -, hc⟩ := h.F (Nat.lt_of_le_of_lt (Nat.zero_le _) hl)
  obtain ⟨cs, hr, h0⟩ := hc k f hk
  obtain ⟨U, hU, rfl, hM⟩ := fe_of hr
  exact ⟨g, o, hA, U, hU, hM, fun i v hv => h0 i v (by rw [Array.getElem?_toList]; exact hv)⟩
def greatB (p : Pg) : Bool := decide (16 < p.structs.length) || decide (20 < p.globals.length) || decide (8 < p.funs.length) || p.structs.any (fun s => decide (12 < s.fields.length)) || p.funs.any wideB
def WRel (w : World) (m : Nat) (Q : Nat → Prop) (i : Value) (wr : World) : Prop := ∃ k : Nat, k ≤ m ∧ i = .int .i64 k ∧ Hid (Q k) ∧ Below w.heap.size w wr

set_option maxHeartbeats 1000000 in
theorem lawGreat_any (E : PE) (r : Bool) (w : World) (hM : PM E w) (hr : Hid (greatB E.p = r)) :
    Calls Tryd.prog 8 #[E.v] w fun e w' => e = .returned (.bool r) ∧ Below w.heap.size w w' := by
  obtain ⟨sl, hsl⟩ : ∃ m, E.p.structs.length = m := ⟨_, rfl⟩
  obtain ⟨gl, hgl⟩ : ∃ m, E.p.globals.length = m := ⟨_, rfl⟩
  obtain ⟨fl, hfl⟩ : ∃ m, E.p.funs.length = m := ⟨_, rfl⟩
  have HB := Lib.hid (below_alloc w (.cells E.row 26))
  have HM := Lib.hid (hM.below HB.out (Nat.le_refl _))
  have c0 : (w.alloc (.cells E.row 26)).cell? ⟨w.heap.size, 0, none⟩ = some (.slice E.sA E.p.structs.length E.sc) := cell_new w E.row 26 0
  have c1 : (w.alloc (.cells E.row 26)).cell? ⟨w.heap.size, 1, none⟩ = some (.slice E.gA E.p.globals.length E.gc) := cell_new w E.row 26 1
  have c2 : (w.alloc (.cells E.row 26)).cell? ⟨w.heap.size, 2, none⟩ = some (.slice E.fA E.p.funs.length E.fc) := cell_new w E.row 26 2
  have hse := hM.sle
  have hfe := hM.fle
  have hsb := hM.sl
  have hfb := hM.fl
  rw [hsl] at c0 hse hsb
  rw [hgl] at c1
  rw [hfl] at c2 hfe hfb
  have HR : Hid ((decide (16 < sl) || decide (20 < gl) || decide (8 < fl) || E.p.structs.any (fun s => decide (12 < s.fields.length)) || E.p.funs.any wideB) = r) := by
    show _ = _
    have := hr.out
    unfold greatB at this
    rwa [hsl, hgl, hfl] at this
  have Hsl := Lib.hid hsl
  have Hfl := Lib.hid hfl
  clear hM hsl hgl hfl hr
  unfold PE.v
  by_cases h1 : (16 : Int) < sl
  · obtain rfl : r = true := HR.out.symm.trans (by simp [show 16 < sl by omega])
    go_enter Tryd.func8, Tryd.ntmps8
    go_wp2_with fail
    go_ret
    exact ⟨rfl, HB.out⟩
  · by_cases h2 : (20 : Int) < gl
    · obtain rfl : r = true := HR.out.symm.trans (by simp [show 20 < gl by omega])
      go_enter Tryd.func8, Tryd.ntmps8
      go_wp2_with fail
      go_ret
      exact ⟨rfl, HB.out⟩
    · by_cases h3 : (8 : Int) < fl
      · obtain rfl : r = true := HR.out.symm.trans (by simp [show 8 < fl by omega])
        go_enter Tryd.func8, Tryd.ntmps8
        go_wp2_with fail
        go_ret
        exact ⟨rfl, HB.out⟩
      · have HQ : Hid ((E.p.structs.any (fun s => decide (12 < s.fields.length)) || E.p.funs.any wideB) = r) := by
          show _ = _
          rw [← HR.out]
          simp only [show ¬ 16 < sl by omega, show ¬ 20 < gl by omega, show ¬ 8 < fl by omega, decide_false, Bool.false_or]
        clear HR
        go_enter Tryd.func8, Tryd.ntmps8
        go_wp2_with fail
        generalize w.alloc (.cells E.row 26) = w1 at *
        go_loopw [3] (fun i wr => KRel w1 sl (fun k => (E.p.structs.drop k).any (fun s => decide (12 < s.fields.length)) = E.p.structs.any (fun s => decide (12 < s.fields.length))) i wr) (fun i _ => sl - (intOf i).toNat)
        case atStart => exact ⟨0, Nat.zero_le _, rfl, Lib.hid rfl, rfl⟩
        case round =>
          obtain ⟨k, hk, rfl, HK, rfl⟩ := hrel
          by_cases hlt : k < sl
          · obtain ⟨g, o, hA, hg, hcs⟩ := HM.out.S (by have := Hsl.out; omega)
            obtain ⟨x, hx⟩ : ∃ x, E.p.structs[k]? = some x := ⟨_, List.getElem?_eq_getElem (by have := Hsl.out; omega)⟩
            obtain ⟨cs, ⟨v, rfl, -, ⟨lA, lc, rfl, l1, l2, HL⟩⟩, h0⟩ := hcs k x hx
            have d1 := h0 1 _ rfl
            have hd := any_drop (p := fun s : St => decide (12 < s.fields.length)) hx
            rw [HK.out] at hd
            have HD := Lib.hid hd
            rw [hA] at c0
            obtain ⟨j, hj⟩ : ∃ j, x.fields.length = j := ⟨_, rfl⟩
            rw [hj] at d1
            clear hcs hd h0 hx HL hA
            by_cases h4 : (12 : Int) < j
            · obtain rfl : r = true := HQ.out.symm.trans (by rw [HD.out, hj]; simp [show 12 < j by omega])
              go_wp2_with fail
              go_ret
              exact ⟨rfl, HB.out⟩
            · have hq : (E.p.structs.drop (k + 1)).any (fun s => decide (12 < s.fields.length)) = E.p.structs.any (fun s => decide (12 < s.fields.length)) := by rw [HD.out, hj]; simp [show ¬ 12 < j by omega]
              have HQ2 := Lib.hid hq
              clear hq
              go_wp2_with fail
              go_roundw
              case rel => exact ⟨k + 1, by omega, by go_num, HQ2, rfl⟩
              case measure => simp [intOf]; omega
          · have hn : E.p.structs.any (fun s => decide (12 < s.fields.length)) = false := HK.out.symm.trans (any_end (by have := Hsl.out; omega))
            have HQ2 : Hid ((E.p.funs.drop 0).any wideB = r) := by
              show _ = _
              have := HQ.out
              rw [hn, Bool.false_or] at this
              exact this
            clear hn
            go_wp2_with fail
            go_loopw [4] (fun i wr => WRel w1 fl (fun k => (E.p.funs.drop k).any wideB = r) i wr) (fun i _ => fl - (intOf i).toNat)
            case atStart => exact ⟨0, Nat.zero_le _, rfl, HQ2, Below.refl _ _⟩
            case round =>
              obtain ⟨k2, hk2, rfl, HK2, hb⟩ := hrel
              have c2 := keepB c2 hb
              by_cases hlt2 : k2 < fl
              · obtain ⟨x, hx⟩ : ∃ x, E.p.funs[k2]? = some x := ⟨_, List.getElem?_eq_getElem (by have := Hfl.out; omega)⟩
                obtain ⟨g, o, hA, U, hU, hUM, hc⟩ := (HM.out.drop hb).fn hx
                have d0 : wr.cell? ⟨g, o + k2 * 6 + 0, none⟩ = some (.string U.f.name) := hc 0 _ rfl
                have d1 : wr.cell? ⟨g, o + k2 * 6 + 1, none⟩ = some (.slice U.pA U.f.params.length U.pc) := hc 1 _ rfl
                have d2 : wr.cell? ⟨g, o + k2 * 6 + 2, none⟩ = some (.string U.f.res) := hc 2 _ rfl
                have d3 : wr.cell? ⟨g, o + k2 * 6 + 3, none⟩ = some (.slice U.sA U.f.slots.length U.sc) := hc 3 _ rfl
                have d4 : wr.cell? ⟨g, o + k2 * 6 + 4, none⟩ = some (.slice U.iA U.f.ins.length U.ic) := hc 4 _ rfl
                have d5 : wr.cell? ⟨g, o + k2 * 6 + 5, none⟩ = some (.slice U.bA U.f.blocks.length U.bc) := hc 5 _ rfl
                have hd := any_drop (p := wideB) hx
                rw [HK2.out, ← hU] at hd
                have HD := Lib.hid hd
                rw [hA] at c2
                simp only [Nat.add_zero] at d0
                have HUM := Lib.hid hUM
                have HB2 := Lib.hid (HB.out.trans (hb.mono HB.out.size))
                have HBB := Lib.hid hb
                clear hc hd hx hA hU hUM hb
                obtain ⟨b, hbv⟩ : ∃ b, wideB U.f = b := ⟨_, rfl⟩
                have HBV := Lib.hid hbv
                rw [hbv] at HD
                clear hbv
                go_wp2_with fail
                refine (lawWide_any U b _ HUM.out HBV).mono ?_
                rintro e w3 ⟨rfl, b3⟩
                have B3 := Lib.hid (HB2.out.trans (b3.mono HB2.out.size))
                have B4 := Lib.hid (HBB.out.trans (b3.mono HBB.out.size))
                clear b3
                cases b with
                | true =>
                  obtain rfl : r = true := HD.out.trans rfl
                  go_wp2_with fail
                  go_ret
                  exact ⟨rfl, B3.out⟩
                | false =>
                  have HQ3 : Hid ((E.p.funs.drop (k2 + 1)).any wideB = r) := by
                    show _ = _
                    rw [HD.out, Bool.false_or]
                  go_wp2_with fail
                  go_roundw
                  case rel => exact ⟨k2 + 1, by omega, by go_num, HQ3, B4.out⟩
                  case measure => simp [intOf]; omega
              · obtain rfl : r = false := HK2.out.symm.trans (any_end (by have := Hfl.out; omega))
                have HB2 := Lib.hid (HB.out.trans (hb.mono HB.out.size))
                clear hb
                go_wp2_with fail
                go_ret
                exact ⟨rfl, HB2.out⟩

end Go.Proofs.YtcbjcpmkebbfaaaDoor
