/-
  CONTRACT: the reference's Order: the blocks that are reached, in order. Of what was there nothing has turned; the row is new.
-/
import Derived.Test.YtpaddigjjlidcaaFlOrdP
namespace Go.Proofs.Ytpaddigjjlidcaa
open Go.RowKit

/-- A row of one's own but for its last one. -/
theorem OI.init {w : World} {base : Nat} {A : Option Addr} {c : Nat} {l : List Int} {x : Int} (h : OI w base (.slice A (l ++ [x]).length c) (l ++ [x])) : OI w base (.slice A l.length c) l := by
  refine ⟨by simp [intsV], ?_⟩
  rcases h.2 with ⟨h0, h1⟩ | ⟨g, cap, cur, hv, hb, hg, hn, hc, hs, ht⟩
  · simp at h1
  · injection hv with e1 e2 e3
    subst e1 e3
    refine .inr ⟨g, c, cur, rfl, hb, hg, by simp at hn; omega, hc, hs, ?_⟩
    have := congrArg (List.take (l.length * 1)) ht
    rw [List.take_take, intsV, List.map_append, List.take_left' (by simp)] at this
    rw [show min (l.length * 1) ((l ++ [x]).length * 1) = l.length * 1 by simp] at this
    exact this
def OrderQ (bl : List Blk) (w : World) (e : Ending) (w' : World) : Prop := ∃ v o, e = .returned v ∧ OrdR bl o ∧ OI w' w.heap.size v o ∧ Below w.heap.size w w'
theorem Fl.sv {w w' : World} {P : Nat → Prop} {g m : Nat} {fl : List Bool} (h : Fl w g m fl) (hs : Sv P w w') (hp : ¬ P g) : Fl w' g m fl := ⟨h.1, own_sv h.2 hs (fun k hk => by have e : some g = some k := hk; obtain rfl := Option.some.inj e; exact hp)⟩
/-- A row behind a new one of one number. -/
theorem app_all {ops : Array Oper} {rest : List Oper} {o : Oper} {a : Act} {Q : Exit → Act → World → Prop} (hgd : o.guard = none) (s x : Operand) (t : TypeId)
    (ho : o.op = .call { callee := .builtin .append, args := #[s, x], argTypes := #[t, t] }) (ht : Try.prog.underlying t = some (.slice 3)) (w : World) (base base' g : Nat) (b : Int) (xv : Value) (l : List Int) (hs : a.eval s = .slice (some ⟨g, 0, none⟩) 1 1) (hO : OI w base (.slice (some ⟨g, 0, none⟩) 1 1) [b])
    (hx : a.eval x = xv) (hX : OI w base' xv l) (hl : l.length ≤ 1099511627776) (hb : base ≤ w.heap.size)
    (h : ∀ v' w', OI w' base v' (b :: l) → Sv (fun k => k = g) w w' → w.heap.size ≤ w'.heap.size → (∀ k, Ow v' k → k = g ∨ w.heap.size ≤ k) → wpList Try.prog ops Q rest (a.put o.dst v') w') :
    wpList Try.prog ops Q (o :: rest) a w := by
  obtain ⟨i0, hi0, hz0, hz1, hz2⟩ := info_parts int_info
  rcases l with _ | ⟨y, l⟩
  · obtain ⟨A, c, hv, -, -⟩ := hX.sl (fun x hx => by cases hx)
    have hAc : A = none → (0 : Nat) = 0 ∧ c = 0 := fun e => by
      subst e hv
      rcases hX.2 with ⟨h0, -⟩ | ⟨g2, cap, cur, h0, -⟩
      · injection h0 with _ _ h3; exact ⟨rfl, h3⟩
      · injection h0 with h1; cases h1
    refine wpList_append_fits_any w hgd s x t ho base 3 i0 1 ht hi0 hz1 g 1 1 (intsV [b]) hs hO A 0 c [] (hx.trans hv) rfl hAc (fun _ _ j u hu => by simp at hu) (fun u hu => by cases hu) (Nat.le_refl _) ?_
    intro w' hown hg
    exact h _ _ hown ⟨hg.os, hg.tape, hg.output, hg.size, fun k hk hq => hg.block k hk (fun e => hq (Option.some.inj e))⟩ hg.size (fun k hk => by have e : some g = some k := hk; exact .inl (Option.some.inj e).symm)
  · rcases hX.2 with ⟨h0, h1⟩ | ⟨g2, cap, cur, h0, hb2, hg2, hn2, hc2, hs2, ht2⟩
    · simp at h1
    · refine wpList_append_lies w hgd s x t ho base 3 i0 _ 1 8 ht hi0 hz0 hz1 hz2 rfl (by omega) _ 1 (intsV [b]) hs hO ⟨g2, 0, none⟩ (y :: l).length cap (intsV (y :: l)) (hx.trans h0) (by simp [intsV]) (World.ownsRow.cells hX (by rw [h0]; rfl)) (ints_oneCell .i64 _) (by simp) (by simp only [maxLen]; omega) (by omega) hb _ rfl ?_
      intro g3 cap3 w' hown hg hat hlt
      refine h _ _ ?_ ⟨hg.os, hg.tape, hg.output, hg.size, fun k hk hq => hg.block k hk (fun e => hq (Option.some.inj e))⟩ hg.size ?_
      · show World.ownsRow _ _ _ _ _ _ _
        rw [show (b :: y :: l).length = 1 + (y :: l).length by simp; omega]
        exact hown
      · intro k hk
        have e : some g3 = some k := hk
        obtain rfl := Option.some.inj e
        rcases hat with h1 | h1
        · exact .inl (Option.some.inj h1).symm
        · exact .inr (by omega)
def FRel (w : World) (fl : List Bool) (l : List Int) (lm : Nat) (tv kv : Value) (wr : World) : Prop := ∃ p : Nat, p ≤ lm ∧ kv = .int .i64 ((p : Int) - 1) ∧ tv = .int .i64 (firstU fl (l.drop p)) ∧ w = wr
def ORel (w0 : World) (bl : List Blk) (g m : Nat) (s o : Value) (wr : World) : Prop :=
  ∃ c : Mc, Hid (Stps bl (mc0 m) c) ∧ Hid (McI m c) ∧ Hid (Fl wr g m c.seen) ∧ Hid (OI wr (g + 1) s c.st) ∧ Hid (OI wr (g + 1) o c.out) ∧ Hid (∀ q, Ow s q → ¬ Ow o q) ∧ Below g w0 wr ∧ g + 1 ≤ wr.heap.size

set_option maxRecDepth 100000 in
set_option maxHeartbeats 1000000 in
theorem refOrder_any (E : FE) (m : Nat) (w : World) (hM : FM E w) (hm : Hid (E.f.blocks.length = m)) (hlim : Hid (m ≤ 1000000)) :
    Calls Try.prog 16 #[E.v] w (OrderQ E.f.blocks w) := by
  obtain ⟨i4, hi4, hy0, hy1, hy2⟩ := info_parts bool_info
  have HI4 := Lib.hid hi4
  have HY0 := Lib.hid hy0
  have HY1 := Lib.hid hy1
  have hmb := hlim.out
  have HB2 : Hid (i4.bytes * m ≤ 281474976710656) := by show _ ≤ _; rw [hy2]; omega
  have HB3 : Hid (m ≤ maxLen) := by show _ ≤ _; simp only [maxLen]; omega
  have HB := Lib.hid (below_alloc w (.cells E.row 26))
  have HM := Lib.hid (hM.below HB.out (Nat.le_refl _))
  have c0 : (w.alloc (.cells E.row 26)).cell? ⟨w.heap.size, 0, none⟩ = some (.string E.f.name) := cell_new w E.row 26 0
  have c1 : (w.alloc (.cells E.row 26)).cell? ⟨w.heap.size, 1, none⟩ = some (.slice E.pA E.f.params.length E.pc) := cell_new w E.row 26 1
  have c2 : (w.alloc (.cells E.row 26)).cell? ⟨w.heap.size, 2, none⟩ = some (.string E.f.res) := cell_new w E.row 26 2
  have c3 : (w.alloc (.cells E.row 26)).cell? ⟨w.heap.size, 3, none⟩ = some (.slice E.sA E.f.slots.length E.sc) := cell_new w E.row 26 3
  have c4 : (w.alloc (.cells E.row 26)).cell? ⟨w.heap.size, 4, none⟩ = some (.slice E.iA E.f.ins.length E.ic) := cell_new w E.row 26 4
  have c5 : (w.alloc (.cells E.row 26)).cell? ⟨w.heap.size, 5, none⟩ = some (.slice E.bA E.f.blocks.length E.bc) := cell_new w E.row 26 5
  have c5m := c5
  rw [hm.out] at c5m
  have C : Hid (_ ∧ _ ∧ _ ∧ _ ∧ _ ∧ _) := ⟨c0, c1, c2, c3, c4, c5⟩
  clear hM hi4 hy0 hy1 hy2 c0 c1 c2 c3 c4 c5
  have hsz : (w.alloc (.cells E.row 26)).heap.size = w.heap.size + 1 := by simp
  unfold FE.v
  by_cases hz : m = 0
  · have hz' : ((m : Int) == 0) = true := by simp; omega
    have hO : Hid (OrdR E.f.blocks []) := by show OrdR _ _; unfold OrdR; rw [if_pos (by rw [hm.out]; exact hz)]
    go_enter Try.func16, Try.ntmps16
    go_wp2_with fail
    go_ret
    exact ⟨_, [], rfl, hO.out, OI.nil _ _, HB.out⟩
  · have hz' : ((m : Int) == 0) = false := by simp; omega
    have hm0 : 0 < m := by omega
    go_enter Try.func16, Try.ntmps16
    go_wp2_with (refine wpList_make_full _ rfl (.tmp 16) (.tmp 16) 31 rfl (w.heap.size + 1) 4 i4 _ 1 Try.underlying31 HI4.out HY0.out HY1.out .i64 .i64 m m m rfl rfl rfl rfl HB2.out HB3.out (Nat.le_of_eq hsz.symm) ?_; intro w1 hown1 hg1; refine Hid.out ?_)
    have F1 : Hid (Fl w1 (w.heap.size + 1) m (List.replicate m false)) := by
      refine ⟨List.length_replicate, ?_⟩
      have := hown1
      rw [hsz] at this
      rw [Nat.mul_one, show (Value.bool false).cells = #[.bool false] from rfl, toList_madeCells_one] at this
      unfold boolsOf
      rw [List.map_replicate]; exact this
    have B1 := Lib.hid ((Below.refl (w.heap.size + 1) (w.alloc (.cells E.row 26))).grown hg1 (Nat.le_of_eq hsz.symm) (fun k hk => by cases hk))
    clear hown1 hg1 HB2 HB3 HI4 HY0 HY1
    obtain ⟨g, hg⟩ : ∃ g, w.heap.size + 1 = g := ⟨_, rfl⟩
    rw [hg] at F1 B1 hsz ⊢
    have hgw : w.heap.size < g := by omega
    generalize w.alloc (.cells E.row 26) = w0 at *
    have hg1 : g + 1 ≤ w1.heap.size := F1.out.lt
    have hrep : (List.replicate m false)[0]? = some false := by rw [List.getElem?_replicate, if_pos hm0]
    have ba := below_alloc w1 (.cells #[.int .i64 0] 3)
    have F2 := Lib.hid (F1.out.below ba)
    have hfc := F2.out.cell hrep
    have hfz := F2.out.2.frozenAt 0
    have F3 := Lib.hid (F2.out.set 0)
    have O2 : OI (w1.alloc (.cells #[.int .i64 0] 3)) (g + 1) (.slice (some ⟨w1.heap.size, 0, none⟩) 1 1) [0] := World.ownsRow_lit w1 #[.int .i64 0] 1 hg1 (by simp only [maxLen]; omega) rfl
    have O3 := Lib.hid (O2.sv ((Sv.refl (fun q => q = g) _).setCell (p := ⟨g, 0, none⟩) (.inl rfl) (.bool true)) (fun q hq => by have := (O2.lo hq).1; omega))
    have B3 := Lib.hid ((B1.out.alloc (by omega) (.cells #[.int .i64 0] 3)).setCell (p := ⟨g, 0, none⟩) (Nat.le_refl g) (.bool true))
    have hs3 : g + 1 ≤ ((w1.alloc (.cells #[.int .i64 0] 3)).setCell ⟨g, 0, none⟩ (.bool true)).heap.size := by simp [World.setCell]; omega
    clear hrep ba O2
    refine Lib.hid ?_
    go_wp2_with fail
    have hsb : ((w1.alloc (.cells #[.int .i64 0] 3)).setCell ⟨g, 0, none⟩ (.bool true)).heap.size = w1.heap.size + 1 := by simp [World.setCell]
    have OO := OI.made ((w1.alloc (.cells #[.int .i64 0] 3)).setCell ⟨g, 0, none⟩ (.bool true)) (g + 1) hs3
    rw [hsb] at OO
    have bz := below_alloc ((w1.alloc (.cells #[.int .i64 0] 3)).setCell ⟨g, 0, none⟩ (.bool true)) (.cells #[] 3)
    have O4 := Lib.hid (O3.out.keep bz)
    have F4 := Lib.hid (F3.out.below bz)
    have B4 := Lib.hid (B3.out.trans (bz.mono (Nat.le_trans (Nat.le_succ g) hs3)))
    have hs4 := Nat.le_trans hs3 bz.size
    have DD : Hid (∀ q, Ow (.slice (some ⟨w1.heap.size, 0, none⟩) 1 1) q → ¬ Ow (.slice (some ⟨w1.heap.size + 1, 0, none⟩) 0 0) q) := fun q h1 h2 => by
      have e1 : some w1.heap.size = some q := h1
      have e2 : some (w1.heap.size + 1) = some q := h2
      have := Option.some.inj e1
      have := Option.some.inj e2
      omega
    have HOO := Lib.hid OO
    clear OO bz hsb hfc hfz O3 F3 B3 F2 B1 F1 hs3
    go_loopw [4, 5] (fun s o wr => ORel w0 E.f.blocks g m s o wr) (fun s _ wr => cntW wr g m * 2 + lenV s)
    case atStart => exact ⟨mc0 m, Lib.hid (.refl _), McI.start hm0, F4, O4, HOO, DD, B4.out, hs4⟩
    case round =>
      obtain ⟨⟨fl, st, out⟩, RS, RI, RF, RT, RO, RD, hbr, hsr⟩ := hrel
      have HBR := Lib.hid hbr
      rcases List.eq_nil_or_concat st with hst | ⟨st0, b, hst⟩
      · subst hst
        obtain ⟨A4, c4, hv4, -, -⟩ := RT.out.sl (fun x hx => by cases hx)
        subst hv4
        have hOrd : Hid (OrdR E.f.blocks out) := by
          show OrdR _ _
          unfold OrdR
          rw [hm.out, if_neg (by omega)]
          exact ⟨_, RS.out, rfl, rfl⟩
        have HBW := Lib.hid (HB.out.trans (HBR.out.mono (Nat.le_of_lt hgw)))
        clear hbr
        simp only [List.length_nil]
        go_wp2_with fail
        go_ret
        exact ⟨_, out, rfl, hOrd.out, own_mono RO.out (by omega), HBW.out⟩
      · rw [List.concat_eq_append] at hst
        subst hst
        have hbin := RI.out.st b (List.mem_append_right _ (List.mem_singleton.2 rfl))
        have hcnt := RI.out.cnt
        have hcl := count_le fl
        have hfl := RI.out.len
        simp only at hcnt hfl
        have hstl : (st0 ++ [b]).length ≤ m := by omega
        have houtl : out.length ≤ m := by omega
        obtain ⟨A4, c4, hv4, hc4, hsl4⟩ := RT.out.sl (fun x hx => by have := RI.out.st x hx; exact ⟨by omega, by omega⟩)
        obtain ⟨nb, hnb⟩ : ∃ j : Nat, b = j := ⟨b.toNat, by omega⟩
        have HHB : Hid (b = (nb : Int)) := hnb
        subst hv4
        have hlast : (st0 ++ [b])[st0.length]? = some b := by simp
        obtain ⟨sb, so, hA4, hsbl, hsc⟩ := hsl4 (by simp)
        obtain ⟨cs, ⟨rfl, -⟩, h0⟩ := hsc st0.length b hlast
        have s0 := h0 0 _ rfl
        simp only [Nat.mul_one, Nat.add_zero] at s0
        obtain ⟨q, hq⟩ : ∃ q, st0.length = q := ⟨_, rfl⟩
        have hq1 : (st0 ++ [b]).length = q + 1 := by simp [hq]
        rw [hq] at s0
        rw [hq1] at hc4 hstl ⊢
        have HQ := Lib.hid hq
        have HQ1 := Lib.hid hq1
        have hA4' : A4 = some ⟨sb, so, none⟩ := hA4
        subst hA4'
        clear hsl4 hlast hsc h0 hA4 hq hq1 hcnt hcl hnb
        obtain ⟨c0, c1, c2, c3, c4', c5⟩ := C.out
        have k0 := (hbr.cell (p := ⟨w.heap.size, 0, none⟩) hgw).trans c0
        have k1 := (hbr.cell (p := ⟨w.heap.size, 1, none⟩) hgw).trans c1
        have k2 := (hbr.cell (p := ⟨w.heap.size, 2, none⟩) hgw).trans c2
        have k3 := (hbr.cell (p := ⟨w.heap.size, 3, none⟩) hgw).trans c3
        have k4 := (hbr.cell (p := ⟨w.heap.size, 4, none⟩) hgw).trans c4'
        have k5 := (hbr.cell (p := ⟨w.heap.size, 5, none⟩) hgw).trans c5
        have HMR := Lib.hid (HM.out.below hbr (Nat.le_of_eq hsz))
        clear c0 c1 c2 c3 c4' c5 hbr
        go_wp2_with fail
        refine (refNext_any E b wr HMR.out ⟨by omega, by omega⟩).mono ?_
        rintro e w6 ⟨nv, rfl, hO6, hb6⟩
        have F6 := Lib.hid (RF.out.below hb6)
        have T6 := Lib.hid (RT.out.keep hb6)
        have P6 := Lib.hid (RO.out.keep hb6)
        have B6 := Lib.hid (HBR.out.trans (hb6.mono (by omega)))
        have hs6 : g + 1 ≤ w6.heap.size := Nat.le_trans hsr hb6.size
        have s6 := keepB s0 hb6
        have hcw := RF.out.cnt
        obtain ⟨l, hl⟩ : ∃ l, nextL E.f.blocks b = l := ⟨_, rfl⟩
        have HL := Lib.hid hl
        have HLI : Hid (∀ x ∈ l, I64 x) := by show ∀ x ∈ l, I64 x; rw [← hl]; exact next_i64 (by rw [hm.out]; omega)
        have HLN : Hid (∀ x ∈ l, 0 ≤ x ∧ x < m) := by show ∀ x ∈ l, 0 ≤ x ∧ x < m; rw [← hl, ← hm.out]; exact fun x hx => next_in hx
        obtain ⟨lm, hlm⟩ : ∃ n, l.length = n := ⟨_, rfl⟩
        have HLM := Lib.hid hlm
        have hl2 : lm ≤ 2 := by rw [← hlm, ← hl]; exact next_two _ _
        rw [hl] at hO6
        obtain ⟨A, c, rfl, hlc, hsl⟩ := hO6.sl HLI.out
        rw [hlm] at hlc ⊢
        have HSL := Lib.hid hsl
        clear hO6 hb6 hl hlm hsl k0 k1 k2 k3 k4 k5 HMR s0 RF RT RO HBR
        go_wp2_with fail
        go_loopw [8, 9] (fun tv kv wr => FRel w6 fl l lm tv kv wr) (fun _ kv _ => (intOf kv + 1).toNat)
        case atStart => exact ⟨lm, Nat.le_refl _, rfl, by rw [List.drop_of_length_le (by have := HLM.out; omega)]; rfl, rfl⟩
        case round =>
          obtain ⟨p, hp, rfl, rfl, rfl⟩ := hrel
          rcases p with _ | p
          · rw [show (((0 : Nat) : Int) - 1) = -1 from rfl]
            have HF0 : ∃ t, firstU fl (l.drop 0) = t := ⟨_, rfl⟩
            obtain ⟨t, ht⟩ := HF0
            rw [ht]
            have HT : Hid (firstU fl l = t) := ht
            clear ht
            by_cases h0t : 0 ≤ t
            · obtain ⟨j, hj, hjm, hjf, hI⟩ := RI.out.down hm.out (by rw [HL.out, HT.out]; exact h0t)
              rw [HL.out, HT.out] at hj
              subst hj
              have HST : Hid (Stps E.f.blocks (mc0 m) ⟨fl.set j true, st0 ++ [b] ++ [(j : Int)], out⟩) := by
                have h := RS.out.step (.down (by rw [HL.out, HT.out]; exact h0t))
                rw [HL.out, HT.out, Int.toNat_natCast] at h
                exact h
              have HI := Lib.hid hI
              have g0 := F6.out.cell hjf
              have gz := F6.out.2.frozenAt j
              have hcf := count_set hjf
              have F7 := Lib.hid (F6.out.set j)
              have hS7 := (Sv.refl (fun k => k = g) w6).setCell (p := ⟨g, j, none⟩) (.inl rfl) (.bool true)
              have T7 := T6.out.sv hS7 (fun k hk => by have := (T6.out.lo hk).1; omega)
              have P7 := Lib.hid (P6.out.sv hS7 (fun k hk => by have := (P6.out.lo hk).1; omega))
              have B7 := Lib.hid (B6.out.setCell (p := ⟨g, j, none⟩) (Nat.le_refl g) (.bool true))
              have hs7 : g + 1 ≤ (w6.setCell ⟨g, j, none⟩ (.bool true)).heap.size := by simp [World.setCell]; omega
              have hc6 := F6.out.cnt
              have hz67 : (w6.setCell ⟨g, j, none⟩ (.bool true)).heap.size = w6.heap.size := by simp [World.setCell]
              clear hI hjf hS7 h0t
              go_wp2_with (at_builtin; refine Hid.out ?_)
              generalize w6.setCell ⟨g, j, none⟩ (.bool true) = w7 at *
              refine Lib.hid ?_
              refine app_one rfl (.tmp 58) (.tmp 60) 34 rfl Try.underlying34 _ (g + 1) (.slice (some ⟨sb, so, none⟩) (q + 1) c4) (st0 ++ [b]) j rfl (by have h := T7; rwa [HQ1.out] at h) (by rw [hz67]; rfl) (by have := HQ1.out; omega) hs7 ?_
              intro v2 w8 hO8 hS8 hz8 hw8
              have hOs : ∀ k, Ow (.slice (some ⟨sb, so, none⟩) (q + 1) c4) k → g + 1 ≤ k ∧ k < w7.heap.size := fun k hk => by have h := T7; rw [HQ1.out] at h; exact h.lo hk
              have F8 := Lib.hid (F7.out.sv hS8 (fun hk => by have := (hOs g hk).1; omega))
              have P8 := Lib.hid (P7.out.sv hS8 (fun k h1 h2 => RD.out k (by have h := h2; rw [← HQ1.out] at h; exact h) h1))
              have B8 := Lib.hid (B7.out.trans (hS8.below (fun k hk => by have := (hOs k hk).1; omega) (by omega)))
              have D8 : Hid (∀ k, Ow v2 k → ¬ Ow u5 k) := fun k h1 h2 => by
                rcases hw8 k h1 with h | h
                · exact RD.out k (by rw [← HQ1.out] at h; exact h) h2
                · have := (P7.out.lo h2).2; omega
              have O8 := Lib.hid hO8
              have hs8 : g + 1 ≤ w8.heap.size := by omega
              have hlv : lenV v2 = q + 2 := by
                obtain ⟨A9, c9, hv9, -, -⟩ := hO8.sl (fun x hx => by
                  have := HI.out.st x hx; exact ⟨by omega, by omega⟩)
                rw [hv9]
                have := HQ1.out
                show (st0 ++ [b] ++ [(j : Int)]).length = q + 2
                simp only [List.length_append, List.length_singleton] at this ⊢; omega
              have hc8 := F8.out.cnt
              clear hO8 hS8 hz8 hw8 hOs T7 g0 gz
              go_wp2_with fail
              go_roundw
              case rel => exact ⟨_, HST, HI, F8, O8, P8, D8, B8.out, hs8⟩
              case measure =>
                show _ < cntW wr g m * 2 + (q + 1)
                rw [hc8, hlv, hcw]
                omega
            · have htm : t < 0 := by omega
              have HST : Hid (Stps E.f.blocks (mc0 m) ⟨fl, st0, b :: out⟩) := RS.out.step (.up (by rw [HL.out, HT.out]; exact htm))
              have HI := Lib.hid RI.out.up
              have hc6 := F6.out.cnt
              have ba := below_alloc w6 (.cells #[.int .i64 b] 3)
              have hO1 : OI (w6.alloc (.cells #[.int .i64 b] 3)) (g + 1) (.slice (some ⟨w6.heap.size, 0, none⟩) 1 1) [b] := World.ownsRow_lit w6 #[.int .i64 b] 1 hs6 (by simp only [maxLen]; omega) rfl
              have P7 := P6.out.keep ba
              have hTi : OI w6 (g + 1) (.slice (some ⟨sb, so, none⟩) q c4) st0 := by
                have := T6.out.init
                rwa [HQ.out] at this
              have T7 := Lib.hid (hTi.keep ba)
              have F7 := Lib.hid (F6.out.below ba)
              have B7 := Lib.hid (B6.out.trans (ba.mono (by omega)))
              have hz7 : (w6.alloc (.cells #[.int .i64 b] 3)).heap.size = w6.heap.size + 1 := by simp
              clear ba hTi h0t
              go_wp2_with (at_builtin; refine Hid.out ?_)
              generalize w6.alloc (.cells #[.int .i64 b] 3) = w7 at *
              refine Lib.hid ?_
              refine app_all rfl (.tmp 63) (.tmp 64) 34 rfl Try.underlying34 _ (g + 1) (g + 1) w6.heap.size b u5 out rfl hO1 rfl P7 (by have := HI.out.cnt; have := count_le fl; simp only [List.length_cons] at *; omega) (by omega) ?_
              intro v2 w8 hO8 hS8 hz8 hw8
              have F8 := Lib.hid (F7.out.sv hS8 (by omega))
              have T8 := Lib.hid (T7.out.sv hS8 (fun k h1 h2 => by have e := T6.out.lo (k := k) h1; omega))
              have B8 := Lib.hid (B7.out.trans (hS8.below (fun k hk => by omega) (by omega)))
              have D8 : Hid (∀ k, Ow (.slice (some ⟨sb, so, none⟩) q c4) k → ¬ Ow v2 k) := fun k h1 h2 => by
                have e := T6.out.lo (k := k) h1
                rcases hw8 k h2 with h | h <;> omega
              have O8 := Lib.hid hO8
              have hs8 : g + 1 ≤ w8.heap.size := by omega
              have hc8 := F8.out.cnt
              clear hO8 hS8 hw8 hO1 P7
              go_wp2_with fail
              go_roundw
              case rel => exact ⟨_, HST, HI, F8, T8, O8, D8, B8.out, hs8⟩
              case measure =>
                show cntW w8 g m * 2 + q < cntW wr g m * 2 + (q + 1)
                rw [hc8, hcw]
                omega
          · obtain ⟨lb, lo, hA, hlb, hlc2⟩ := HSL.out (by have := HLM.out; omega)
            obtain ⟨x, hx⟩ : ∃ x, l[p]? = some x := ⟨_, List.getElem?_eq_getElem (by have := HLM.out; omega)⟩
            obtain ⟨cs, ⟨rfl, -⟩, h0⟩ := hlc2 p x hx
            have y0 := h0 0 _ rfl
            simp only [Nat.mul_one, Nat.add_zero] at y0
            have hxin := HLN.out x (List.mem_of_getElem? hx)
            obtain ⟨j, rfl⟩ : ∃ j : Nat, x = j := ⟨x.toNat, by omega⟩
            obtain ⟨bv, hfj⟩ : ∃ b, fl[j]? = some b := ⟨_, List.getElem?_eq_getElem (by omega)⟩
            have g0 := F6.out.cell hfj
            have hdr := firstU_drop (fl := fl) hx
            rw [Int.toNat_natCast, List.getD_eq_getElem?_getD, hfj] at hdr
            have HDR := Lib.hid hdr
            have hkk : (((p + 1 : Nat) : Int) - 1) = p := by omega
            rw [hkk]
            have hpl : (p : Int) < lm := by omega
            have hjm : (j : Int) < m := by omega
            subst hA
            obtain ⟨t, ht⟩ : ∃ t, firstU fl (l.drop (p + 1)) = t := ⟨_, rfl⟩
            rw [ht] at HDR ⊢
            clear hlc2 hx h0 hfj hdr hxin ht
            cases bv with
            | false =>
              go_wp2_with fail
              go_roundw
              case rel => exact ⟨p, by omega, by go_num, by rw [HDR.out]; rfl, rfl⟩
              case measure => simp [intOf] <;> omega
            | true =>
              go_wp2_with fail
              go_roundw
              case rel => exact ⟨p, by omega, by go_num, by rw [HDR.out]; rfl, rfl⟩
              case measure => simp [intOf] <;> omega

end Go.Proofs.Ytpaddigjjlidcaa
