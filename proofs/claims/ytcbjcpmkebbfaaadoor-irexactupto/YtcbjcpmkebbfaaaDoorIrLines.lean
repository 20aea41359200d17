/-
  CONTRACT: the reference's Lines. Of what was there nothing has turned.
-/
import Derived.Test.YtcbjcpmkebbfaaaDoorIrLinesP
import Derived.Test.YtcbjcpmkebbfaaaDoorClReg
import Derived.RegionTactic
import Derived.Deep.CutBlock
import Derived.Deep.RegionHeldLaw
namespace Go.Proofs.YtcbjcpmkebbfaaaDoor
open Go.RowKit

def LinesQ (l : List ByteArray) (w : World) (e : Ending) (w' : World) : Prop := ∃ v, e = .returned v ∧ OT w' w.heap.size v l ∧ Below w.heap.size w w'

theorem own_mono {w : World} {base base' : Nat} {e : TypeId} {size : Nat} {v : Value} {n : Nat} {xs : List Value} (h : w.ownsRow base e size v n xs) (hb : base' ≤ base) : w.ownsRow base' e size v n xs := by
  refine ⟨h.1, ?_⟩
  rcases h.2 with h2 | ⟨g, cap, cur, h2, h3, h4⟩
  · exact .inl h2
  · exact .inr ⟨g, cap, cur, h2, Nat.le_trans hb h3, h4⟩

theorem le_sum8 {l : List Nat} {n : Nat} (h : n ∈ l) : n ≤ l.sum := by
  induction l with
  | nil => cases h
  | cons x r ih =>
    rw [List.sum_cons]
    rcases List.mem_cons.1 h with e | e
    · subst e; omega
    · have := ih e; omega
theorem wide8 {f : Fn} (hw : wideB f = false) : f.blocks.length ≤ 60 ∧ ∀ x ∈ f.blocks, x.list.length ≤ 1500 := by
  unfold wideB overB at hw
  simp only [Bool.or_eq_false_iff, decide_eq_false_iff_not] at hw
  refine ⟨by omega, fun x hx => ?_⟩
  have h1 : sumB f ≤ 1500 := by omega
  have h2 : x.list.length ≤ sumTo Blk.list f.blocks f.blocks.length := by
    unfold sumTo
    rw [List.take_of_length_le (Nat.le_refl _)]
    exact le_sum8 (List.mem_map.2 ⟨x, hx, rfl⟩)
  unfold sumB at h1
  omega
theorem blocks_len8 {f : Fn} (hw : wideB f = false) : ∀ k, k ≤ f.blocks.length → (blocksTo f k).length ≤ k * 1502
  | 0, _ => Nat.zero_le _
  | k + 1, h => by
    have ih := blocks_len8 hw k (by omega)
    rw [blocksTo, List.length_append, List.getElem?_eq_getElem (by omega)]
    have hb := (wide8 hw).2 _ (List.getElem_mem (show k < f.blocks.length by omega))
    simp only [Option.map_some, Option.getD_some, blockL, List.length_cons, List.length_append, List.length_map, List.length_nil]
    rw [Nat.succ_mul]; omega
theorem funs_len8 {p : Pg} (hg : greatB p = false) : ∀ k, k ≤ p.funs.length → (funsTo p k).length ≤ k * 92000
  | 0, _ => Nat.zero_le _
  | k + 1, h => by
    have ih := funs_len8 hg k (by omega)
    rw [funsTo, List.length_append, List.getElem?_eq_getElem (by omega)]
    have hw := (great_no hg).2.2.2.2 _ (List.getElem_mem (show k < p.funs.length by omega))
    have q1 := blocks_len8 hw _ (Nat.le_refl _)
    have q2 := (wide8 hw).1
    have q3 : (slotsL p.funs[k]).length ≤ 1 := by unfold slotsL; split <;> simp
    have q4 : p.funs[k].blocks.length * 1502 ≤ 60 * 1502 := Nat.mul_le_mul_right _ q2
    simp only [Option.map_some, Option.getD_some, funL, List.length_cons, List.length_append]
    rw [Nat.succ_mul]; omega

/-- A function's round: the row so far, the function's variable, which the row does not own. -/
structure FR (w0 : World) (b0 vb : Nat) (U : FE) (v : Value) (L : List ByteArray) (wx : World) : Prop where
  bl : Below b0 w0 wx
  sz : b0 ≤ wx.heap.size
  fv : FV U wx vb
  hv : b0 ≤ vb
  ot : OT wx b0 v L
  off : ∀ k, Ow v k → k ≠ vb
theorem FR.on {w0 wx wy : World} {b0 vb : Nat} {U : FE} {v : Value} {L : List ByteArray} (h : FR w0 b0 vb U v L wx) (b : Below wx.heap.size wx wy) : FR w0 b0 vb U v L wy :=
  ⟨h.bl.trans (b.mono h.sz), Nat.le_trans h.sz b.size, h.fv.below b (Nat.le_refl _), h.hv, h.ot.keep b, h.off⟩
theorem FR.app {w0 wx wy : World} {b0 vb : Nat} {U : FE} {v v' : Value} {L L' : List ByteArray} (h : FR w0 b0 vb U v L wx) (hO : OT wy b0 v' L') (hS : Sv (Ow v) wx wy) (hw : ∀ k, Ow v' k → Ow v k ∨ wx.heap.size ≤ k) : FR w0 b0 vb U v' L' wy := by
  refine ⟨h.bl.trans (hS.below (fun q hq => (h.ot.lo hq).1) h.sz), Nat.le_trans h.sz hS.size, ?_, h.hv, hO, fun k hk => ?_⟩
  · obtain ⟨t, fr, h1⟩ := h.fv.row
    exact ⟨Nat.lt_of_lt_of_le h.fv.lt hS.size, t, fr, (hS.block vb h.fv.lt (fun hq => h.off vb hq rfl)).trans h1⟩
  · rcases hw k hk with q | q
    · exact h.off k q
    · have := h.fv.lt; omega
/-- A block's round: the block's variable beside. -/
structure GR (w0 : World) (b0 vb : Nat) (U : FE) (xb : Nat) (row : Array Value) (v : Value) (L : List ByteArray) (wx : World) : Prop where
  fr : FR w0 b0 vb U v L wx
  lt : xb < wx.heap.size
  row : ∃ t q, wx.heap[xb]? = some (.cells row t q)
  off : ∀ k, Ow v k → k ≠ xb
theorem GR.on {w0 wx wy : World} {b0 vb xb : Nat} {U : FE} {row : Array Value} {v : Value} {L : List ByteArray} (h : GR w0 b0 vb U xb row v L wx) (b : Below wx.heap.size wx wy) : GR w0 b0 vb U xb row v L wy := by
  obtain ⟨t, q, h1⟩ := h.row
  exact ⟨h.fr.on b, Nat.lt_of_lt_of_le h.lt b.size, ⟨t, q, (b.block xb h.lt).trans h1⟩, h.off⟩
theorem GR.app {w0 wx wy : World} {b0 vb xb : Nat} {U : FE} {row : Array Value} {v v' : Value} {L L' : List ByteArray} (h : GR w0 b0 vb U xb row v L wx) (hO : OT wy b0 v' L') (hS : Sv (Ow v) wx wy) (hw : ∀ k, Ow v' k → Ow v k ∨ wx.heap.size ≤ k) : GR w0 b0 vb U xb row v' L' wy := by
  obtain ⟨t, q, h1⟩ := h.row
  refine ⟨h.fr.app hO hS hw, Nat.lt_of_lt_of_le h.lt hS.size, ⟨t, q, (hS.block xb h.lt (fun hq => h.off xb hq rfl)).trans h1⟩, fun k hk => ?_⟩
  rcases hw k hk with z | z
  · exact h.off k z
  · have := h.lt; omega
theorem GR.cell {w0 wx : World} {b0 vb xb : Nat} {U : FE} {row : Array Value} {v : Value} {L : List ByteArray} (h : GR w0 b0 vb U xb row v L wx) (k : Nat) (u : Value) (hu : row[k]? = some u) : wx.cell? ⟨xb, k, none⟩ = some u := by
  obtain ⟨t, q, h1⟩ := h.row
  exact (cell_of_row wx xb k _ t q h1).trans hu
def FnRel (w0 : World) (b0 vb : Nat) (U : FE) (Q : Nat → List ByteArray) (m : Nat) (v iv : Value) (wr : World) : Prop := ∃ k : Nat, k ≤ m ∧ iv = .int .i64 k ∧ Hid (FR w0 b0 vb U v (Q k) wr)
def BLRel (w0 : World) (b0 vb : Nat) (U : FE) (xb : Nat) (row : Array Value) (Q : Nat → List ByteArray) (m : Nat) (v iv : Value) (wr : World) : Prop := ∃ k : Nat, k ≤ m ∧ iv = .int .i64 k ∧ Hid (GR w0 b0 vb U xb row v (Q k) wr)

theorem keepBB {w w' : World} {B : Nat} {p : Addr} {v : Value} (h : w.cell? p = some v) (hb : Below B w w') (hB : w.heap.size ≤ B) : w'.cell? p = some v := (hb.cell (Nat.lt_of_lt_of_le (cell_lt h) hB)).trans h

/-- As app_txt, at a step that is carried out. -/
theorem op_app_txt {o : Oper} {a : Act} {K : Act → World → Prop} {Q : Exit → Act → World → Prop} (hgd : o.guard = none) (s x : Operand) (t : TypeId)
    (ho : o.op = .call { callee := .builtin .append, args := #[s, x], argTypes := #[t, t] }) (ht : Tryd.prog.underlying t = some (.slice 9)) (w : World) (base : Nat) (v : Value) (l : List ByteArray) (y : ByteArray) (hs : a.eval s = v) (hO : OT w base v l)
    (hx : a.eval x = .slice (some ⟨w.heap.size, 0, none⟩) 1 1) (hl : l.length ≤ 1099511627776) (hb : base ≤ w.heap.size)
    (h : ∀ v' w', OT w' base v' (l ++ [y]) → Sv (Ow v) w w' → w.heap.size ≤ w'.heap.size → (∀ k, Ow v' k → Ow v k ∨ w.heap.size ≤ k) → K (a.put o.dst v') w') :
    Oper.wp Tryd.prog o a (w.alloc (.cells #[.string y] 9)) K Q := by
  have h := step_app_txt (ops := #[]) (E0 := True) (Q := Q) hgd s x t ho ht w base v l y hs hO hx hl hb h
  rwa [if_pos (by simp [Region.wanted, hgd])] at h

set_option maxRecDepth 100000 in
set_option maxHeartbeats 20000000 in
theorem refLines_any (E : PE) (w : World) (hM : PM E w) (hg : Hid (greatB E.p = false)) : Calls Tryd.prog 12 #[E.v] w (LinesQ (linesL E.p) w) := by
  obtain ⟨sm, hsm⟩ : ∃ m, E.p.structs.length = m := ⟨_, rfl⟩
  obtain ⟨gm, hgm⟩ : ∃ m, E.p.globals.length = m := ⟨_, rfl⟩
  obtain ⟨fm, hfm⟩ : ∃ m, E.p.funs.length = m := ⟨_, rfl⟩
  have GN := Lib.hid (great_no hg.out)
  have HSM := Lib.hid hsm
  have HGM := Lib.hid hgm
  have HFM := Lib.hid hfm
  have hsb : sm ≤ 16 := by rw [← hsm]; exact GN.out.1
  have hgb : gm ≤ 20 := by rw [← hgm]; exact GN.out.2.1
  have hfb : fm ≤ 8 := by rw [← hfm]; exact GN.out.2.2.1
  have hse := hM.sle
  have hge := hM.gle
  have hfe := hM.fle
  rw [hsm] at hse
  rw [hgm] at hge
  rw [hfm] at hfe
  have HB := Lib.hid (below_alloc w (.cells E.row 26))
  have hsz : (w.alloc (.cells E.row 26)).heap.size = w.heap.size + 1 := by simp
  have HM := Lib.hid (hM.below HB.out (Nat.le_refl _))
  have c0 : (w.alloc (.cells E.row 26)).cell? ⟨w.heap.size, 0, none⟩ = some (.slice E.sA E.p.structs.length E.sc) := cell_new w E.row 26 0
  have c1 : (w.alloc (.cells E.row 26)).cell? ⟨w.heap.size, 1, none⟩ = some (.slice E.gA E.p.globals.length E.gc) := cell_new w E.row 26 1
  have c2 : (w.alloc (.cells E.row 26)).cell? ⟨w.heap.size, 2, none⟩ = some (.slice E.fA E.p.funs.length E.fc) := cell_new w E.row 26 2
  rw [hsm] at c0
  rw [hgm] at c1
  rw [hfm] at c2
  have C : Hid (_ ∧ _ ∧ _) := ⟨c0, c1, c2⟩
  have hO := OT.made (w.alloc (.cells E.row 26)) (w.heap.size + 1) (Nat.le_of_eq hsz.symm)
  have B1 := Lib.hid ((Below.refl (w.heap.size + 1) (w.alloc (.cells E.row 26))).alloc (Nat.le_of_eq hsz.symm) (.cells #[] 9))
  have hs2 : w.heap.size + 1 ≤ ((w.alloc (.cells E.row 26)).alloc (.cells #[] 9)).heap.size := by simp
  rw [hsz] at hO
  have HO := Lib.hid hO
  clear hM c0 c1 c2 hO hsm hgm hfm
  unfold PE.v
  go_enter Tryd.func12, Tryd.ntmps12
  go_wp2_with fail
  obtain ⟨b0, hb0⟩ : ∃ b, w.heap.size + 1 = b := ⟨_, rfl⟩
  rw [hb0] at HO B1 hs2 hsz ⊢
  have hgw : w.heap.size < b0 := by omega
  generalize (w.alloc (.cells E.row 26)).alloc (.cells #[] 9) = w1 at *
  generalize w.alloc (.cells E.row 26) = w0 at *
  go_loopw [3, 4] (fun v iv wr => LRel w0 b0 (fun k => (E.p.structs.take k).map structS) sm v iv wr) (fun _ iv _ => sm - (intOf iv).toNat)
  case atStart => exact ⟨0, Nat.zero_le _, rfl, HO, B1.out, hs2⟩
  case round =>
    as_aux_lemma =>
    obtain ⟨i, hi, rfl, HOI, hbi, hsi⟩ := hrel
    have k0 := (hbi.cell (p := ⟨w.heap.size, 0, none⟩) hgw).trans C.out.1
    have HMR := Lib.hid (HM.out.below hbi (Nat.le_of_eq hsz))
    have HBI := Lib.hid hbi
    clear hbi
    by_cases hlti : i < sm
    · obtain ⟨g, o, hA, hg, hcs⟩ := HMR.out.S (by have := HSM.out; omega)
      obtain ⟨x, hx⟩ : ∃ x, E.p.structs[i]? = some x := ⟨_, List.getElem?_eq_getElem (by have := HSM.out; omega)⟩
      obtain ⟨cs, ⟨v, rfl, hn, ⟨lA, lc, rfl, l1, l2, HL⟩⟩, h0⟩ := hcs i x hx
      have d0 := h0 0 _ rfl
      have d1 := h0 1 _ rfl
      rw [hA] at k0
      have hfl := GN.out.2.2.2.1 x (List.mem_of_getElem? hx)
      have HX := Lib.hid hx
      obtain ⟨jm, hjm⟩ : ∃ j, x.fields.length = j := ⟨_, rfl⟩
      have HJ := Lib.hid hjm
      rw [hjm] at d1 l1 hfl
      have HFL := Lib.hid HL
      simp only [Nat.add_zero] at d0
      obtain ⟨nm, hnm⟩ : ∃ s, x.name = s := ⟨_, rfl⟩
      rw [hnm] at d0 hn
      obtain ⟨h1, hh1⟩ : ∃ s, (⟨#[115, 116, 114, 117, 99, 116, 32]⟩ : ByteArray) ++ nm = s := ⟨_, rfl⟩
      have hst : structH x = h1 := by unfold structH; rw [hnm, hh1]
      have HST := Lib.hid hst
      have hs1 : h1.size ≤ 140737488351239 := by rw [← hh1]; simp only [ByteArray.size_append]; have : (⟨#[115, 116, 114, 117, 99, 116, 32]⟩ : ByteArray).size = 7 := rfl; omega
      have HH1 := Lib.hid hh1
      clear hcs h0 hx HL hjm hst hnm hh1 hA l2
      go_wp2_with fail
      rw [HH1.out]
      generalize wr = wo at *
      go_loopw [5, 6] (fun s iv wk => GRel wo jm (fun k => (x.fields.take k).foldl fldS h1) h1.size 281474976702466 s iv wk) (fun _ iv _ => jm - (intOf iv).toNat)
      case atStart => exact ⟨0, Nat.zero_le _, rfl, h1, rfl, ⟨rfl, Nat.le_refl _⟩, Below.refl _ _⟩
      case round =>
        obtain ⟨k, hk, rfl, q, rfl, HQ, hb⟩ := hrel
        have k1 := keepB k0 hb
        have d2 := keepB d1 hb
        have hqs : q.size ≤ 3518437208883200 := by have := HQ.out.2; omega
        by_cases hlt : k < jm
        · obtain ⟨g2, o2, hA2, -, hcs2⟩ := (HFL.out.below kp_fd hb (Nat.le_refl _)) (by have := HJ.out; omega)
          obtain ⟨y, hy⟩ : ∃ y, x.fields[k]? = some y := ⟨_, List.getElem?_eq_getElem (by have := HJ.out; omega)⟩
          obtain ⟨cs2, ⟨rfl, n1, n2⟩, h2⟩ := hcs2 k y hy
          have y0 := h2 0 _ rfl
          have y1 := h2 1 _ rfl
          have hst2 := foldf_up h1 hy
          have hq1 : q = (x.fields.take k).foldl fldS h1 := HQ.out.1
          rw [← hq1] at hst2
          obtain ⟨yn, yt⟩ := y
          have HST2 : Hid ((x.fields.take (k + 1)).foldl fldS h1 = (((q ++ ⟨#[32]⟩) ++ yn) ++ ⟨#[58]⟩) ++ yt) := hst2
          have HQS := Lib.hid HQ.out.2
          have HBK := Lib.hid hb
          rw [hA2] at d2
          simp only [Nat.add_zero] at y0
          have n1' : yn.size ≤ 140737488351232 := n1
          have n2' : yt.size ≤ 140737488351232 := n2
          clear hcs2 h2 hy hst2 hq1 HQ hb k0 d1 n1 n2 hA2
          go_wp2_with fail
          go_quiet (fail)
          go_wp2_with fail
          go_roundw
          case rel => exact ⟨k + 1, by omega, by go_num, _, rfl, ⟨HST2.out.symm, by simp only [ByteArray.size_append]; have : (⟨#[32]⟩ : ByteArray).size = 1 := rfl; have : (⟨#[58]⟩ : ByteArray).size = 1 := rfl; have := HQS.out; omega⟩, below_drewN HBK.out _⟩
          case measure => simp [intOf]; omega
        · have hq1 : q = structS x := by
            have h : q = (x.fields.take k).foldl fldS h1 := HQ.out.1
            rw [List.take_of_length_le (by have := HJ.out; omega)] at h
            rw [h]
            show _ = x.fields.foldl fldS (structH x)
            rw [HST.out]
          have hup : (E.p.structs.take (i + 1)).map structS = (E.p.structs.take i).map structS ++ [q] := by rw [hq1]; exact map_up structS HX.out
          obtain ⟨a, ha⟩ : ∃ a, (E.p.structs.take i).map structS = a := ⟨_, rfl⟩
          have HOK : OT wr b0 u3 a := by have h : OT wo b0 u3 ((E.p.structs.take i).map structS) := HOI.out; rw [ha] at h; exact h.keep hb
          have hal : a.length ≤ 16 := by rw [← ha, List.length_map, List.length_take]; omega
          rw [ha] at hup
          have HUP := Lib.hid hup
          have hsk : b0 ≤ wr.heap.size := Nat.le_trans hsi hb.size
          have BK := Lib.hid (HBI.out.trans (hb.mono hsi))
          clear hup ha hq1 HOI HBI hb k0 d0 d1 HQ HMR HFL
          go_wp2_with (at_builtin; refine Hid.out ?_)
          refine Lib.hid ?_
          refine app_txt rfl (.tmp 67) (.tmp 69) 31 rfl Tryd.underlying31 _ b0 u3 a q rfl HOK rfl (by omega) hsk ?_
          intro v2 w4 hO4 hS4 hz4 hw4
          have V4 : Hid (OT w4 b0 v2 ((E.p.structs.take (i + 1)).map structS)) := by show OT _ _ _ _; rw [HUP.out]; exact hO4
          have B4 := Lib.hid (BK.out.trans (hS4.below (fun q hq => (HOK.lo hq).1) hsk))
          have hs4 : b0 ≤ w4.heap.size := Nat.le_trans hsk hz4
          clear hO4 hS4 hz4 hw4 HOK
          go_wp2_with fail
          go_roundw
          case rel => exact ⟨i + 1, by omega, by go_num, V4, B4.out, hs4⟩
          case measure => simp [intOf] <;> omega
    · obtain rfl : i = sm := by omega
      have HO1 : Hid (OT wr b0 u3 (E.p.structs.map structS ++ (E.p.globals.take 0).map globS)) := by
        have h : OT wr b0 u3 ((E.p.structs.take i).map structS) := HOI.out
        rw [List.take_of_length_le (by have := HSM.out; omega)] at h
        show OT _ _ _ _
        rw [List.take_zero, List.map_nil, List.append_nil]; exact h
      clear HOI
      generalize wr = ws at *
      go_wp2_with fail
      go_loopw [3, 7] (fun v iv wr => LRel w0 b0 (fun k => E.p.structs.map structS ++ (E.p.globals.take k).map globS) gm v iv wr) (fun _ iv _ => gm - (intOf iv).toNat)
      case atStart => exact ⟨0, Nat.zero_le _, rfl, HO1, HBI.out, hsi⟩
      clear k0 HMR HBI hsi HO1
      case round =>
        as_aux_lemma =>
        obtain ⟨k, hk, rfl, HOK, hbk, hsk⟩ := hrel
        have k1 := (hbk.cell (p := ⟨w.heap.size, 1, none⟩) hgw).trans C.out.2.1
        have HMR := Lib.hid (HM.out.below hbk (Nat.le_of_eq hsz))
        have HBK := Lib.hid hbk
        clear hbk
        by_cases hltk : k < gm
        · obtain ⟨g, o, hA, hg, -⟩ := HM.out.G (by have := HGM.out; omega)
          obtain ⟨g2, o2, hA2, -, hcs⟩ := HMR.out.G (by have := HGM.out; omega)
          obtain ⟨rfl, rfl⟩ : g2 = g ∧ o2 = o := by rw [hA] at hA2; injection hA2 with e; injection e with e1 e2; exact ⟨e1.symm, e2.symm⟩
          obtain ⟨y, hy⟩ : ∃ y, E.p.globals[k]? = some y := ⟨_, List.getElem?_eq_getElem (by have := HGM.out; omega)⟩
          obtain ⟨cs, ⟨rfl, n1, n2⟩, h0⟩ := hcs k y hy
          have y0 := h0 0 _ rfl
          have y1 := h0 1 _ rfl
          have hup : E.p.structs.map structS ++ (E.p.globals.take (k + 1)).map globS = (E.p.structs.map structS ++ (E.p.globals.take k).map globS) ++ [globS y] := by rw [map_up globS hy, List.append_assoc]
          obtain ⟨yn, yt⟩ := y
          have n1' : yn.size ≤ 140737488351232 := n1
          have n2' : yt.size ≤ 140737488351232 := n2
          obtain ⟨a, ha⟩ : ∃ a, E.p.structs.map structS ++ (E.p.globals.take k).map globS = a := ⟨_, rfl⟩
          have hal : a.length ≤ 36 := by have := HSM.out; rw [← ha, List.length_append, List.length_map, List.length_map, List.length_take]; omega
          have HO : OT wr b0 u3 a := by have h : OT wr b0 u3 (E.p.structs.map structS ++ (E.p.globals.take k).map globS) := HOK.out; rw [ha] at h; exact h
          have HUP : Hid (E.p.structs.map structS ++ (E.p.globals.take (k + 1)).map globS = a ++ [((((⟨#[103, 108, 111, 98, 97, 108, 32]⟩ : ByteArray) ++ yn) ++ ⟨#[32]⟩) ++ yt)]) := by rw [ha] at hup; exact hup
          rw [hA] at k1
          simp only [Nat.add_zero] at y0
          have HOW := Lib.hid HO
          have hgb2 : g2 < b0 := by omega
          clear hcs h0 hy hup ha HOK n1 n2 hA hA2 HO
          go_wp2_with fail
          go_region_held_law (fun w' => w'.cell? ⟨w.heap.size, 1, none⟩ = some (.slice (some ⟨g2, o2, none⟩) gm E.gc) ∧ w'.cell? ⟨g2, o2 + k * 2, none⟩ = some (.string yn) ∧ w'.cell? ⟨g2, o2 + k * 2 + 1, none⟩ = some (.string yt)) (first | exact ⟨k1, y0, y1⟩ | exact HK.out | go_keep) ((refine step_app_txt rfl (.tmp 78) (.tmp 94) 31 (by rfl) Tryd.underlying31 _ b0 u3 a _ (by rfl) (HOW.out.keep (below_drewN (Below.refl _ _) _)) (by rfl) (by omega) hsk ?_; intro v2 w4 hO4 hS4 hz4 hw4; have HK : Hid (_ ∧ _ ∧ _) := ⟨hS4.cell k1 (fun q => by have := (HOW.out.lo q).1; simp at this; omega), hS4.cell y0 (fun q => by have := (HOW.out.lo q).1; simp at this; omega), hS4.cell y1 (fun q => by have := (HOW.out.lo q).1; simp at this; omega)⟩; have HOK := Lib.hid hO4; have HSK := Lib.hid hS4; clear hO4 hw4 hS4))
          all_goals go_wp2_with fail
          exact ⟨⟨k + 1, by omega, by go_num, by show OT _ _ _ _; exact (congrArg (OT w4 b0 v2) HUP.out).mpr HOK.out, HBK.out.trans ((below_drewN (Below.refl _ _) _).trans (HSK.out.below (fun q hq => (HOW.out.lo hq).1) hsk)), Nat.le_trans hsk hz4⟩, by simp [intOf]; omega⟩
        · obtain rfl : k = gm := by omega
          have HO1 : Hid (OT wr b0 u3 (E.p.structs.map structS ++ E.p.globals.map globS ++ funsTo E.p 0)) := by
            have h : OT wr b0 u3 (E.p.structs.map structS ++ (E.p.globals.take k).map globS) := HOK.out
            rw [List.take_of_length_le (by have := HGM.out; omega)] at h
            show OT _ _ _ _
            rw [show funsTo E.p 0 = [] from rfl, List.append_nil]; exact h
          clear HOK
          generalize wr = wt at *
          go_wp2_with fail
          go_loopw [3, 8] (fun v iv wr => LRel w0 b0 (fun k => E.p.structs.map structS ++ E.p.globals.map globS ++ funsTo E.p k) fm v iv wr) (fun _ iv _ => fm - (intOf iv).toNat)
          case atStart => exact ⟨0, Nat.zero_le _, rfl, HO1, HBK.out, hsk⟩
          clear k1 HMR HBK hsk HO1
          case round =>
            as_aux_lemma =>
            obtain ⟨k, hk, rfl, HOK, hbk, hsk⟩ := hrel
            have k2 := (hbk.cell (p := ⟨w.heap.size, 2, none⟩) hgw).trans C.out.2.2
            have HMR := Lib.hid (HM.out.below hbk (Nat.le_of_eq hsz))
            have HBK := Lib.hid hbk
            clear hbk
            by_cases hltk : k < fm
            · obtain ⟨f, hf⟩ : ∃ f, E.p.funs[k]? = some f := ⟨_, List.getElem?_eq_getElem (by have := HFM.out; omega)⟩
              obtain ⟨g, o, hA, U, hU, hUM0, hc⟩ := HM.out.fn hf
              have e0 : wr.cell? ⟨g, o + k * 6 + 0, none⟩ = some (.string U.f.name) := keepBB (hc 0 _ rfl) HBK.out (Nat.le_of_eq hsz)
              have e1 : wr.cell? ⟨g, o + k * 6 + 1, none⟩ = some (.slice U.pA U.f.params.length U.pc) := keepBB (hc 1 _ rfl) HBK.out (Nat.le_of_eq hsz)
              have e2 : wr.cell? ⟨g, o + k * 6 + 2, none⟩ = some (.string U.f.res) := keepBB (hc 2 _ rfl) HBK.out (Nat.le_of_eq hsz)
              have e3 : wr.cell? ⟨g, o + k * 6 + 3, none⟩ = some (.slice U.sA U.f.slots.length U.sc) := keepBB (hc 3 _ rfl) HBK.out (Nat.le_of_eq hsz)
              have e4 : wr.cell? ⟨g, o + k * 6 + 4, none⟩ = some (.slice U.iA U.f.ins.length U.ic) := keepBB (hc 4 _ rfl) HBK.out (Nat.le_of_eq hsz)
              have e5 : wr.cell? ⟨g, o + k * 6 + 5, none⟩ = some (.slice U.bA U.f.blocks.length U.bc) := keepBB (hc 5 _ rfl) HBK.out (Nat.le_of_eq hsz)
              have hnw := GN.out.2.2.2.2 f (List.mem_of_getElem? hf)
              rw [hA] at k2
              simp only [Nat.add_zero] at e0
              have hup : funsTo E.p (k + 1) = funsTo E.p k ++ funL U.f := by rw [funsTo, hf, hU]; rfl
              rw [← hU] at hnw
              have HW := Lib.hid hnw
              have HUP := Lib.hid hup
              have bv := below_alloc wr (.cells U.row 40)
              have HU0 := Lib.hid hUM0
              have HFR : Hid (FR w0 b0 wr.heap.size U u3 (E.p.structs.map structS ++ E.p.globals.map globS ++ funsTo E.p k) (wr.alloc (.cells U.row 40))) :=
                ⟨HBK.out.trans (bv.mono hsk), Nat.le_trans hsk bv.size, FV.new U wr 40, hsk, HOK.out.keep bv, fun q hq => by have := (HOK.out.lo hq).2; omega⟩
              have hb5 : b0 ≤ wr.heap.size := hsk
              clear hc hU hUM0 hf hA hnw hup bv HOK HBK HMR
              unfold FE.row at HFR
              go_upto_region 19 with fail
              obtain ⟨vb, hvb⟩ : ∃ n, wr.heap.size = n := ⟨_, rfl⟩
              rw [hvb] at HFR ⊢
              have hvb0 : b0 ≤ vb := by omega
              generalize wr.alloc (.cells #[.string U.f.name, .slice U.pA U.f.params.length U.pc, .string U.f.res, .slice U.sA U.f.slots.length U.sc, .slice U.iA U.f.ins.length U.ic, .slice U.bA U.f.blocks.length U.bc] 40) = w5 at *
              clear e0 e1 e2 e3 e4 e5 k2
              have f0 : w5.cell? ⟨vb, 0, none⟩ = some (.string U.f.name) := HFR.out.fv.cell 0 _ rfl
              have f1 : w5.cell? ⟨vb, 1, none⟩ = some (.slice U.pA U.f.params.length U.pc) := HFR.out.fv.cell 1 _ rfl
              have f2 : w5.cell? ⟨vb, 2, none⟩ = some (.string U.f.res) := HFR.out.fv.cell 2 _ rfl
              have HUM := Lib.hid (HU0.out.below HFR.out.bl (Nat.le_of_eq hsz))
              have hnl := HUM.out.nl
              have hwd := HW.out
              unfold wideB overB at hwd
              simp only [Bool.or_eq_false_iff, decide_eq_false_iff_not] at hwd
              obtain ⟨pm, hpm⟩ : ∃ m, U.f.params.length = m := ⟨_, rfl⟩
              have hpb : pm ≤ 10 := by omega
              have HPM := Lib.hid hpm
              rw [hpm] at f1
              obtain ⟨fh, hfh⟩ : ∃ s, (⟨#[102, 117, 110, 99, 32]⟩ : ByteArray) ++ U.f.name = s := ⟨_, rfl⟩
              have hfs : fh.size ≤ 140737488351237 := by rw [← hfh]; simp only [ByteArray.size_append]; have : (⟨#[102, 117, 110, 99, 32]⟩ : ByteArray).size = 5 := rfl; omega
              have HFH := Lib.hid hfh
              clear hwd hpm hfh
              go_upto_region 21 with fail
              rw [HFH.out]
              clear f0
              go_loopw [10, 11] (fun s iv wr => GRel w5 pm (fun k => (U.f.params.take k).foldl spS fh) fh.size 140737488351233 s iv wr) (fun _ iv _ => pm - (intOf iv).toNat)
              case atStart => exact ⟨0, Nat.zero_le _, rfl, fh, rfl, ⟨rfl, Nat.le_refl _⟩, Below.refl _ _⟩
              case round =>
                obtain ⟨p, hp, rfl, q, rfl, HQ, hb⟩ := hrel
                have f1' := keepB f1 hb
                have hqs : q.size ≤ 1688849860264000 := by have := HQ.out.2; omega
                by_cases hlt : p < pm
                · as_aux_lemma =>
                  obtain ⟨g2, o2, hA2, -, hcs2⟩ := (HUM.out.P.below kp_str hb (Nat.le_refl _)) (by have := HPM.out; omega)
                  obtain ⟨y, hy⟩ : ∃ y, U.f.params[p]? = some y := ⟨_, List.getElem?_eq_getElem (by have := HPM.out; omega)⟩
                  obtain ⟨cs2, ⟨rfl, n1⟩, h2⟩ := hcs2 p y hy
                  have y0 := h2 0 _ rfl
                  have hst2 := folds_up fh hy
                  have hq1 : q = (U.f.params.take p).foldl spS fh := HQ.out.1
                  rw [← hq1] at hst2
                  have HST2 : Hid ((U.f.params.take (p + 1)).foldl spS fh = (q ++ ⟨#[32]⟩) ++ y) := hst2
                  have HQS := Lib.hid HQ.out.2
                  have HBQ := Lib.hid hb
                  rw [hA2] at f1'
                  simp only [Nat.mul_one, Nat.add_zero] at y0
                  clear hcs2 h2 hy hst2 hq1 HQ hb f1 hA2
                  go_wp2_with fail
                  exact ⟨⟨p + 1, by omega, by go_num, _, rfl, ⟨HST2.out.symm, by simp only [ByteArray.size_append]; have : (⟨#[32]⟩ : ByteArray).size = 1 := rfl; have := HQS.out; omega⟩, HBQ.out⟩, by simp [intOf]; omega⟩
                · have hq1 : q = U.f.params.foldl spS fh := by
                    have h : q = (U.f.params.take p).foldl spS fh := HQ.out.1
                    rwa [List.take_of_length_le (by have := HPM.out; omega)] at h
                  have hlt2 : ¬ (p : Int) < (pm : Int) := by omega
                  have f2 := keepB f2 hb
                  have HF6 := Lib.hid (HFR.out.on hb)
                  have hrl := HUM.out.rl
                  obtain ⟨rs, hrs⟩ : ∃ s, U.f.res = s := ⟨_, rfl⟩
                  rw [hrs] at f2 hrl
                  have hfun : funS U.f = addS (q ++ ⟨#[32, 45, 62]⟩) rs := by unfold funS; rw [HFH.out, ← hq1, hrs]
                  have HFUN := Lib.hid hfun
                  have hqs' : q.size ≤ 1688849860264000 := hqs
                  clear hq1 hfun hrs HQ hb f1 HFR
                  go_upto_if 130 with (fail)
                  go_cut [10] from 96 to 252 (fun s wc => s = .string (addS (q ++ ⟨#[32, 45, 62]⟩) rs) ∧ wc = wr)
                  case first =>
                    by_cases ht : rs.size = 0
                    · as_aux_lemma =>
                      rw [empty_toList ht]
                      have ha : addS (q ++ ⟨#[32, 45, 62]⟩) rs = q ++ ⟨#[32, 45, 62]⟩ := if_pos ht
                      go_wp2_with fail
                      go_meet
                      case rel => exact ⟨by rw [ha], rfl⟩
                    · as_aux_lemma =>
                      rw [nonempty_toList ht]
                      have ha : addS (q ++ ⟨#[32, 45, 62]⟩) rs = ((q ++ ⟨#[32, 45, 62]⟩) ++ ⟨#[32]⟩) ++ rs := if_neg ht
                      go_wp2_with fail
                      go_meet
                      case rel => exact ⟨by rw [ha], rfl⟩
                  case rest =>
                  obtain ⟨rfl, rfl⟩ := hcut
                  obtain ⟨h9, hh9⟩ : ∃ s, addS (q ++ ⟨#[32, 45, 62]⟩) rs = s := ⟨_, rfl⟩
                  rw [hh9]
                  obtain ⟨L0, hL0⟩ : ∃ l, E.p.structs.map structS ++ E.p.globals.map globS ++ funsTo E.p k = l := ⟨_, rfl⟩
                  have HL0 := Lib.hid hL0
                  rw [hL0] at HF6
                  have HFU : Hid (funS U.f = h9) := HFUN.out.trans hh9
                  have hl0 : Hid (L0.length ≤ 68719476736) := by
                    show _ ≤ _
                    have q1 := funs_len8 hg.out k (by have := HFM.out; omega)
                    rw [← hL0, List.length_append, List.length_append, List.length_map, List.length_map]
                    have := HSM.out; have := HGM.out
                    omega
                  have hl0' := hl0.out
                  clear hh9 hL0 hqs hqs' hrl f2
                  go_wp2_with (at_builtin; refine Hid.out ?_)
                  refine Lib.hid ?_
                  refine app_txt rfl (.tmp 136) (.tmp 138) 31 rfl Tryd.underlying31 _ b0 u3 L0 h9 rfl HF6.out.ot rfl (by omega) HF6.out.sz ?_
                  intro v2 w4 hO4 hS4 hz4 hw4
                  have HF7 := Lib.hid (HF6.out.app hO4 hS4 hw4)
                  clear hO4 hS4 hz4 hw4 HF6
                  have f3 : w4.cell? ⟨vb, 3, none⟩ = some (.slice U.sA U.f.slots.length U.sc) := HF7.out.fv.cell 3 _ rfl
                  have HUM7 := Lib.hid (HU0.out.below HF7.out.bl (Nat.le_of_eq hsz))
                  have hwd := HW.out
                  unfold wideB overB at hwd
                  simp only [Bool.or_eq_false_iff, decide_eq_false_iff_not] at hwd
                  obtain ⟨sl, hsl⟩ : ∃ m, U.f.slots.length = m := ⟨_, rfl⟩
                  have hslb : sl ≤ 100 := by omega
                  have HSL := Lib.hid hsl
                  rw [hsl] at f3
                  clear hwd hsl HUM
                  go_upto_if 143 with (fail)
                  go_cut [3] from 96 to 252 (fun s wc => FR w0 b0 vb U s ((L0 ++ [h9]) ++ slotsL U.f) wc)
                  case first =>
                    by_cases hs0 : sl = 0
                    · have hs1 : ¬ (0 : Int) < (sl : Int) := by omega
                      go_wp2_with fail
                      go_meet
                      case rel =>
                        have e : slotsL U.f = [] := if_pos (HSL.out.trans hs0)
                        show FR w0 b0 vb U v2 ((L0 ++ [h9]) ++ slotsL U.f) w4
                        rw [e, List.append_nil]; exact HF7.out
                    · have hs1 : (0 : Int) < (sl : Int) := by omega
                      go_wp2_with fail
                      go_loopw [10, 12] (fun s iv wr => GRel w4 sl (fun k => (U.f.slots.take k).foldl spS ⟨#[115, 108, 111, 116, 115]⟩) 5 140737488351233 s iv wr) (fun _ iv _ => sl - (intOf iv).toNat)
                      case atStart => exact ⟨0, Nat.zero_le _, rfl, ⟨#[115, 108, 111, 116, 115]⟩, rfl, ⟨rfl, Nat.le_refl _⟩, Below.refl _ _⟩
                      case round =>
                        obtain ⟨j, hj, rfl, q2, rfl, HQ2, hb2⟩ := hrel
                        have f3' := keepB f3 hb2
                        have hqs2 : q2.size ≤ 14073748835123305 := by have := HQ2.out.2; omega
                        by_cases hltj : j < sl
                        · as_aux_lemma =>
                          obtain ⟨g3, o3, hA3, -, hcs3⟩ := (HUM7.out.S.below kp_str hb2 (Nat.le_refl _)) (by have := HSL.out; omega)
                          obtain ⟨y3, hy3⟩ : ∃ y, U.f.slots[j]? = some y := ⟨_, List.getElem?_eq_getElem (by have := HSL.out; omega)⟩
                          obtain ⟨cs3, ⟨rfl, m1⟩, h3⟩ := hcs3 j y3 hy3
                          have z0 := h3 0 _ rfl
                          have hst3 := folds_up (⟨#[115, 108, 111, 116, 115]⟩ : ByteArray) hy3
                          have hq3 : q2 = (U.f.slots.take j).foldl spS ⟨#[115, 108, 111, 116, 115]⟩ := HQ2.out.1
                          rw [← hq3] at hst3
                          have HST3 : Hid ((U.f.slots.take (j + 1)).foldl spS ⟨#[115, 108, 111, 116, 115]⟩ = (q2 ++ ⟨#[32]⟩) ++ y3) := hst3
                          have HQS3 := Lib.hid HQ2.out.2
                          have HBJ := Lib.hid hb2
                          have m1' : y3.size ≤ 140737488351232 := m1
                          rw [hA3] at f3'
                          simp only [Nat.mul_one, Nat.add_zero] at z0
                          clear hcs3 h3 hy3 hst3 hq3 HQ2 hb2 f3 hA3 m1
                          go_wp2_with fail
                          exact ⟨⟨j + 1, by omega, by go_num, _, rfl, ⟨HST3.out.symm, by simp only [ByteArray.size_append]; have : (⟨#[32]⟩ : ByteArray).size = 1 := rfl; have := HQS3.out; omega⟩, HBJ.out⟩, by simp [intOf]; omega⟩
                        · have hltj2 : ¬ (j : Int) < (sl : Int) := by omega
                          have hq3 : q2 = slotsS U.f := by
                            have h : q2 = (U.f.slots.take j).foldl spS ⟨#[115, 108, 111, 116, 115]⟩ := HQ2.out.1
                            rwa [List.take_of_length_le (by have := HSL.out; omega)] at h
                          have HF8 := Lib.hid (HF7.out.on hb2)
                          have HQ3 := Lib.hid hq3
                          have hlen : (L0 ++ [h9]).length ≤ 68719476737 := by rw [List.length_append]; have := hl0.out; simp; omega
                          clear hq3 HQ2 hb2 f3 HF7 HUM7
                          go_wp2_with (at_builtin; refine Hid.out ?_)
                          refine Lib.hid ?_
                          refine app_txt rfl (.tmp 159) (.tmp 161) 31 rfl Tryd.underlying31 _ b0 v2 (L0 ++ [h9]) q2 rfl HF8.out.ot rfl (by omega) HF8.out.sz ?_
                          intro v3 w5 hO4 hS4 hz4 hw4
                          have HF9 := Lib.hid (HF8.out.app hO4 hS4 hw4)
                          clear hO4 hS4 hz4 hw4 HF8
                          go_wp2_with fail
                          go_meet
                          case rel =>
                            have e : slotsL U.f = [slotsS U.f] := if_neg (by rw [HSL.out]; exact hs0)
                            show FR w0 b0 vb U v3 ((L0 ++ [h9]) ++ slotsL U.f) w5
                            rw [e, ← HQ3.out]; exact HF9.out
                  case rest =>
                  have HFc := Lib.hid hcut
                  clear hcut HF7 HUM7 f3 HSL
                  obtain ⟨L1, hL1⟩ : ∃ l, (L0 ++ [h9]) ++ slotsL U.f = l := ⟨_, rfl⟩
                  have HL1 := Lib.hid hL1
                  rw [hL1] at HFc
                  have hl1 : Hid (L1.length ≤ 68719476738) := by
                    show _ ≤ _
                    have q3 : (slotsL U.f).length ≤ 1 := by unfold slotsL; split <;> simp
                    rw [← hL1, List.length_append, List.length_append]
                    have := hl0.out
                    simp; omega
                  clear hL1
                  obtain ⟨bm, hbm⟩ : ∃ m, U.f.blocks.length = m := ⟨_, rfl⟩
                  have HBM := Lib.hid hbm
                  have hbb : bm ≤ 60 := by rw [← hbm]; exact (wide8 HW.out).1
                  clear hbm hl0' hslb
                  have HF10 : Hid (FR w0 b0 vb U u3 (L1 ++ blocksTo U.f 0) wc) := by show FR _ _ _ _ _ _ _; rw [show blocksTo U.f 0 = [] from rfl, List.append_nil]; exact HFc.out
                  clear HFc
                  go_wp2_with fail
                  go_loopw [3, 13] (fun v iv wr => FnRel w0 b0 vb U (fun j => L1 ++ blocksTo U.f j) bm v iv wr) (fun _ iv _ => bm - (intOf iv).toNat)
                  case atStart => exact ⟨0, Nat.zero_le _, rfl, HF10⟩
                  case round =>
                    obtain ⟨j, hj, rfl, HFJ⟩ := hrel
                    have f5 : wr.cell? ⟨vb, 5, none⟩ = some (.slice U.bA U.f.blocks.length U.bc) := HFJ.out.fv.cell 5 _ rfl
                    rw [HBM.out] at f5
                    have hble := HU0.out.ble
                    rw [HBM.out] at hble
                    by_cases hltj : j < bm
                    · have hltj2 : (j : Int) < (bm : Int) := by omega
                      obtain ⟨gB, oB, hAB, -, hcB⟩ := HU0.out.B (by have := HBM.out; omega)
                      obtain ⟨x, hx⟩ : ∃ x, U.f.blocks[j]? = some x := ⟨_, List.getElem?_eq_getElem (by have := HBM.out; omega)⟩
                      obtain ⟨csB, ⟨vL, rfl, i1, i2, i3, i4, ⟨lA, lc, rfl, l1, l2, HL⟩⟩, hB0⟩ := hcB j x hx
                      have d0 := keepBB (hB0 0 _ rfl) HFJ.out.bl (Nat.le_of_eq hsz)
                      have d1 := keepBB (hB0 1 _ rfl) HFJ.out.bl (Nat.le_of_eq hsz)
                      have d2 := keepBB (hB0 2 _ rfl) HFJ.out.bl (Nat.le_of_eq hsz)
                      have d3 := keepBB (hB0 3 _ rfl) HFJ.out.bl (Nat.le_of_eq hsz)
                      have d4 := keepBB (hB0 4 _ rfl) HFJ.out.bl (Nat.le_of_eq hsz)
                      simp only [Nat.add_zero] at d0
                      rw [hAB] at f5
                      obtain ⟨L2, hL2⟩ : ∃ l, L1 ++ blocksTo U.f j = l := ⟨_, rfl⟩
                      have HL2 := Lib.hid hL2
                      have hl2 : Hid (L2.length ≤ 68719576738) := by
                        show _ ≤ _
                        have q1 := blocks_len8 HW.out j (by have := HBM.out; omega)
                        rw [← hL2, List.length_append]
                        have := hl1.out
                        omega
                      have hlb := (wide8 HW.out).2 x (List.mem_of_getElem? hx)
                      have HX := Lib.hid hx
                      have HLI := Lib.hid HL
                      have HI := Lib.hid (show I64 x.jump ∧ I64 x.arg ∧ I64 x.t0 ∧ I64 x.t1 from ⟨i1, i2, i3, i4⟩)
                      have HFJ2 : Hid (FR w0 b0 vb U u3 L2 wr) := by rw [← hL2]; exact HFJ
                      clear hcB hB0 hx HL hL2 HFJ i1 i2 i3 i4 hAB
                      obtain ⟨jp, hjp⟩ : ∃ n, x.jump = n := ⟨_, rfl⟩
                      obtain ⟨ag, hag⟩ : ∃ n, x.arg = n := ⟨_, rfl⟩
                      obtain ⟨t0, ht0⟩ : ∃ n, x.t0 = n := ⟨_, rfl⟩
                      obtain ⟨t1, ht1⟩ : ∃ n, x.t1 = n := ⟨_, rfl⟩
                      obtain ⟨lm, hlm⟩ : ∃ n, x.list.length = n := ⟨_, rfl⟩
                      have HEN : Hid (x.jump = jp ∧ x.arg = ag ∧ x.t0 = t0 ∧ x.t1 = t1) := ⟨hjp, hag, ht0, ht1⟩
                      have HLM := Lib.hid hlm
                      rw [hjp, hag, ht0, ht1] at HI
                      rw [hjp] at d1
                      rw [hag] at d2
                      rw [ht0] at d3
                      rw [ht1] at d4
                      rw [hlm] at d0 l1 l2 hlb
                      clear hjp hag ht0 ht1 hlm
                      have hbv := below_alloc wr (.cells #[.slice lA lm lc, .int .i64 jp, .int .i64 ag, .int .i64 t0, .int .i64 t1] 53)
                      have HG1 : Hid (GR w0 b0 vb U wr.heap.size #[.slice lA lm lc, .int .i64 jp, .int .i64 ag, .int .i64 t0, .int .i64 t1] u3 L2 (wr.alloc (.cells #[.slice lA lm lc, .int .i64 jp, .int .i64 ag, .int .i64 t0, .int .i64 t1] 53))) :=
                        ⟨HFJ2.out.on hbv, by simp, ⟨53, _, heap_alloc_last wr _⟩, fun q hq => by have := (HFJ2.out.ot.lo hq).2; omega⟩
                      clear hbv HFJ2
                      go_upto_block 13 with (fail)
                      go_cut [3, 14, 15] from 163 to 252 (fun s b m wc => FR w0 b0 vb U s (L1 ++ blocksTo U.f (j + 1)) wc)
                      case rest =>
                        have HFd := Lib.hid hcut
                        clear hcut
                        go_wp2_with fail
                        go_roundw
                        case rel => exact ⟨j + 1, by omega, by go_num, HFd.out⟩
                        case measure => simp [intOf] <;> omega
                      go_wp2_with fail
                      generalize wr.heap.size = xb at *
                      generalize wr.alloc (.cells #[.slice lA lm lc, .int .i64 jp, .int .i64 ag, .int .i64 t0, .int .i64 t1] 53) = w6 at *
                      clear d0 d1 d2 d3 d4 f5
                      refine (refText_any (j : Int) w6 (by omega) (by omega)).mono ?_
                      rintro e w7 ⟨rfl, b7⟩
                      have HG2 := Lib.hid (HG1.out.on b7)
                      obtain ⟨tx, htx⟩ : ∃ s, num (j : Int) = s := ⟨_, rfl⟩
                      have hts : tx.size ≤ 21 := by rw [← htx]; exact num_size _ ⟨by omega, by omega⟩
                      have htx' : (⟨(Lib.itoa (j : Int)).toArray⟩ : ByteArray) = tx := htx
                      rw [htx']
                      have HTX := Lib.hid htx
                      have hl2' := hl2.out
                      clear b7 htx htx' HG1
                      go_wp2_with (at_builtin; refine Hid.out ?_)
                      refine Lib.hid ?_
                      refine app_txt rfl (.tmp 175) (.tmp 179) 31 rfl Tryd.underlying31 _ b0 u3 L2 ((⟨#[98, 108, 111, 99, 107, 32]⟩ : ByteArray) ++ tx) rfl HG2.out.fr.ot rfl (by omega) HG2.out.fr.sz ?_
                      intro v5 w8 hO4 hS4 hz4 hw4
                      have HG3 := Lib.hid (HG2.out.app hO4 hS4 hw4)
                      clear hO4 hS4 hz4 hw4 HG2
                      go_wp2_with fail
                      have HH : Hid (L2 ++ [(⟨#[98, 108, 111, 99, 107, 32]⟩ : ByteArray) ++ tx] = L2 ++ [blockH j]) := by show _ = _; unfold blockH; rw [HTX.out]
                      obtain ⟨L3, hL3⟩ : ∃ l, L2 ++ [(⟨#[98, 108, 111, 99, 107, 32]⟩ : ByteArray) ++ tx] = l := ⟨_, rfl⟩
                      have HL3 : Hid (L3 = L2 ++ [blockH j]) := hL3.symm.trans HH.out
                      rw [hL3] at HG3
                      have hl3 : Hid (L3.length ≤ 68719576739) := by
                        show _ ≤ _
                        rw [← hL3, List.length_append]
                        have := hl2.out
                        simp; omega
                      clear hL3 HH hl2' hts
                      have HG4 : Hid (GR w0 b0 vb U xb #[.slice lA lm lc, .int .i64 jp, .int .i64 ag, .int .i64 t0, .int .i64 t1] v5 (L3 ++ (x.list.take 0).map (lineS U.f)) w8) := by show GR _ _ _ _ _ _ _ _ _; rw [List.take_zero, List.map_nil, List.append_nil]; exact HG3.out
                      clear HG3
                      go_loopw [3, 15] (fun v iv wr => BLRel w0 b0 vb U xb #[.slice lA lm lc, .int .i64 jp, .int .i64 ag, .int .i64 t0, .int .i64 t1] (fun m => L3 ++ (x.list.take m).map (lineS U.f)) lm v iv wr) (fun _ iv _ => lm - (intOf iv).toNat)
                      case atStart => exact ⟨0, Nat.zero_le _, rfl, HG4⟩
                      case round =>
                        obtain ⟨m, hm, rfl, HGM⟩ := hrel
                        have y0 : wr.cell? ⟨xb, 0, none⟩ = some (.slice lA lm lc) := HGM.out.cell 0 _ rfl
                        by_cases hltm : m < lm
                        · as_aux_lemma =>
                          have hltm2 : (m : Int) < (lm : Int) := by omega
                          obtain ⟨gL, oL, hAL, -, hcL⟩ := HLI.out (by have := HLM.out; omega)
                          obtain ⟨z, hz⟩ : ∃ y, x.list[m]? = some y := ⟨_, List.getElem?_eq_getElem (by have := HLM.out; omega)⟩
                          obtain ⟨csL, ⟨rfl, hzi⟩, hL0⟩ := hcL m z hz
                          have zz := hL0 0 _ rfl
                          simp only [Nat.mul_one, Nat.add_zero] at zz
                          have z0 := keepBB zz HGM.out.fr.bl (Nat.le_of_eq hsz)
                          rw [hAL] at y0
                          have f0 : wr.cell? ⟨vb, 0, none⟩ = some (.string U.f.name) := HGM.out.fr.fv.cell 0 _ rfl
                          have f1 : wr.cell? ⟨vb, 1, none⟩ = some (.slice U.pA U.f.params.length U.pc) := HGM.out.fr.fv.cell 1 _ rfl
                          have f2 : wr.cell? ⟨vb, 2, none⟩ = some (.string U.f.res) := HGM.out.fr.fv.cell 2 _ rfl
                          have f3 : wr.cell? ⟨vb, 3, none⟩ = some (.slice U.sA U.f.slots.length U.sc) := HGM.out.fr.fv.cell 3 _ rfl
                          have f4 : wr.cell? ⟨vb, 4, none⟩ = some (.slice U.iA U.f.ins.length U.ic) := HGM.out.fr.fv.cell 4 _ rfl
                          have f5 : wr.cell? ⟨vb, 5, none⟩ = some (.slice U.bA U.f.blocks.length U.bc) := HGM.out.fr.fv.cell 5 _ rfl
                          obtain ⟨r, hr⟩ : ∃ s, lineS U.f z = s := ⟨_, rfl⟩
                          obtain ⟨L4, hL4⟩ : ∃ l, L3 ++ (x.list.take m).map (lineS U.f) = l := ⟨_, rfl⟩
                          have hup : L3 ++ (x.list.take (m + 1)).map (lineS U.f) = L4 ++ [r] := by
                            obtain ⟨pz, ez⟩ := List.getElem?_eq_some_iff.1 hz
                            rw [List.take_succ_eq_append_getElem pz, List.map_append, ← List.append_assoc, hL4, ez, List.map_cons, List.map_nil, hr]
                          have HUPM := Lib.hid hup
                          have HR := Lib.hid hr
                          have HZI := Lib.hid hzi
                          have hl4 : L4.length ≤ 68719578740 := by
                            rw [← hL4, List.length_append, List.length_map, List.length_take]
                            have := hl3.out
                            omega
                          have HG5 : Hid (GR w0 b0 vb U xb #[.slice lA lm lc, .int .i64 jp, .int .i64 ag, .int .i64 t0, .int .i64 t1] u3 L4 wr) := by rw [← hL4]; exact HGM
                          have HUMr := Lib.hid (HU0.out.below HGM.out.fr.bl (Nat.le_of_eq hsz))
                          have HLINE : Hid (∀ w', Below wr.heap.size wr w' → Calls Tryd.prog 26 #[.agg #[.string U.f.name, .slice U.pA U.f.params.length U.pc, .string U.f.res, .slice U.sA U.f.slots.length U.sc, .slice U.iA U.f.ins.length U.ic, .slice U.bA U.f.blocks.length U.bc], .int .i64 z] w' fun e w2 => e = .returned (.string r) ∧ Below w'.heap.size w' w2) := fun w' hb => refLine_any U z r w' (HUMr.out.drop hb) HZI.out HR
                          have HAL := Lib.hid hAL
                          clear hcL hL0 hz hL4 hup hr hzi HGM hAL
                          go_wp2_with fail
                          have HZ0 : Hid (∀ w', Below b0 w0 w' → w'.cell? ⟨gL, oL + m, none⟩ = some (.int .i64 z)) := fun w' hb => keepBB zz hb (Nat.le_of_eq hsz)
                          refine rgS (fun w' => ∃ v' L', GR w0 b0 vb U xb #[.slice lA lm lc, .int .i64 jp, .int .i64 ag, .int .i64 t0, .int .i64 t1] v' L' w') (by kernel_rfl) (⟨_, _, HG5.out.on ((Below.refl wr.heap.size wr).drew)⟩) (fun _ a d v _ h => And.intro ((put_df a d v).symm.trans (And.left h)) (And.right h)) fun hHeld hq => ?_
                          refine tkS 0 { dst := some 188, op := .move (.tmp 3), type := 31, pos := "ref.go:120", after := #[], guard := none } (v := ?v1_0) hq hHeld rfl (by kernel_rfl) ?y1_0 ?_
                          case y1_0 => (intro w h; obtain ⟨v', L', h⟩ := h; have f0 := h.fr.fv.cell 0 _ rfl; have f1 := h.fr.fv.cell 1 _ rfl; have f2 := h.fr.fv.cell 2 _ rfl; have f3 := h.fr.fv.cell 3 _ rfl; have f4 := h.fr.fv.cell 4 _ rfl; have f5 := h.fr.fv.cell 5 _ rfl; have y0 := h.cell 0 _ rfl; rw [HAL.out] at y0; have z0 := HZ0.out _ h.fr.bl; clear h; go_simp <;> with_reducible rfl)
                          try simp only [Act.put, List.setIfInBounds_toArray, List.set_cons_zero, List.set_cons_succ]
                          refine tkS 1 { dst := some 189, op := .load 40 (.tmp 9), type := 40, pos := "ref.go:120", after := #[], guard := none } (v := ?v1_1) hq hHeld rfl (by kernel_rfl) ?y1_1 ?_
                          case y1_1 => (intro w h; obtain ⟨v', L', h⟩ := h; have f0 := h.fr.fv.cell 0 _ rfl; have f1 := h.fr.fv.cell 1 _ rfl; have f2 := h.fr.fv.cell 2 _ rfl; have f3 := h.fr.fv.cell 3 _ rfl; have f4 := h.fr.fv.cell 4 _ rfl; have f5 := h.fr.fv.cell 5 _ rfl; have y0 := h.cell 0 _ rfl; rw [HAL.out] at y0; have z0 := HZ0.out _ h.fr.bl; clear h; go_simp <;> with_reducible rfl)
                          try simp only [Act.put, List.setIfInBounds_toArray, List.set_cons_zero, List.set_cons_succ]
                          refine tkS 2 { dst := some 190, op := .fieldAddr 53 (.tmp 14) 0, type := 0, pos := "ref.go:120", after := #[], guard := none } (v := ?v1_2) hq hHeld rfl (by kernel_rfl) ?y1_2 ?_
                          case y1_2 => (intro w h; obtain ⟨v', L', h⟩ := h; have f0 := h.fr.fv.cell 0 _ rfl; have f1 := h.fr.fv.cell 1 _ rfl; have f2 := h.fr.fv.cell 2 _ rfl; have f3 := h.fr.fv.cell 3 _ rfl; have f4 := h.fr.fv.cell 4 _ rfl; have f5 := h.fr.fv.cell 5 _ rfl; have y0 := h.cell 0 _ rfl; rw [HAL.out] at y0; have z0 := HZ0.out _ h.fr.bl; clear h; go_simp <;> with_reducible rfl)
                          try simp only [Act.put, List.setIfInBounds_toArray, List.set_cons_zero, List.set_cons_succ]
                          refine tkS 3 { dst := some 191, op := .load 42 (.tmp 190), type := 42, pos := "ref.go:120", after := #[{ on := 2, ground := .data }], guard := none } (v := ?v1_3) hq hHeld rfl (by kernel_rfl) ?y1_3 ?_
                          case y1_3 => (intro w h; obtain ⟨v', L', h⟩ := h; have f0 := h.fr.fv.cell 0 _ rfl; have f1 := h.fr.fv.cell 1 _ rfl; have f2 := h.fr.fv.cell 2 _ rfl; have f3 := h.fr.fv.cell 3 _ rfl; have f4 := h.fr.fv.cell 4 _ rfl; have f5 := h.fr.fv.cell 5 _ rfl; have y0 := h.cell 0 _ rfl; rw [HAL.out] at y0; have z0 := HZ0.out _ h.fr.bl; clear h; go_simp <;> with_reducible rfl)
                          try simp only [Act.put, List.setIfInBounds_toArray, List.set_cons_zero, List.set_cons_succ]
                          refine tkS 4 { dst := some 192, op := .move (.tmp 15), type := 3, pos := "ref.go:120", after := #[], guard := none } (v := ?v1_4) hq hHeld rfl (by kernel_rfl) ?y1_4 ?_
                          case y1_4 => (intro w h; obtain ⟨v', L', h⟩ := h; have f0 := h.fr.fv.cell 0 _ rfl; have f1 := h.fr.fv.cell 1 _ rfl; have f2 := h.fr.fv.cell 2 _ rfl; have f3 := h.fr.fv.cell 3 _ rfl; have f4 := h.fr.fv.cell 4 _ rfl; have f5 := h.fr.fv.cell 5 _ rfl; have y0 := h.cell 0 _ rfl; rw [HAL.out] at y0; have z0 := HZ0.out _ h.fr.bl; clear h; go_simp <;> with_reducible rfl)
                          try simp only [Act.put, List.setIfInBounds_toArray, List.set_cons_zero, List.set_cons_succ]
                          refine tkS 5 { dst := some 193, op := .indexAddr 42 (.tmp 191) (.tmp 192), type := 0, pos := "ref.go:120", after := #[{ on := 3, ground := .data }, { on := 4, ground := .data }], guard := none } (v := ?v1_5) hq hHeld rfl (by kernel_rfl) ?y1_5 ?_
                          case y1_5 => (intro w h; obtain ⟨v', L', h⟩ := h; have f0 := h.fr.fv.cell 0 _ rfl; have f1 := h.fr.fv.cell 1 _ rfl; have f2 := h.fr.fv.cell 2 _ rfl; have f3 := h.fr.fv.cell 3 _ rfl; have f4 := h.fr.fv.cell 4 _ rfl; have f5 := h.fr.fv.cell 5 _ rfl; have y0 := h.cell 0 _ rfl; rw [HAL.out] at y0; have z0 := HZ0.out _ h.fr.bl; clear h; go_simp <;> with_reducible rfl)
                          try simp only [Act.put, List.setIfInBounds_toArray, List.set_cons_zero, List.set_cons_succ]
                          refine tkS 6 { dst := some 194, op := .load 3 (.tmp 193), type := 3, pos := "ref.go:120", after := #[{ on := 5, ground := .data }], guard := none } (v := ?v1_6) hq hHeld rfl (by kernel_rfl) ?y1_6 ?_
                          case y1_6 => (intro w h; obtain ⟨v', L', h⟩ := h; have f0 := h.fr.fv.cell 0 _ rfl; have f1 := h.fr.fv.cell 1 _ rfl; have f2 := h.fr.fv.cell 2 _ rfl; have f3 := h.fr.fv.cell 3 _ rfl; have f4 := h.fr.fv.cell 4 _ rfl; have f5 := h.fr.fv.cell 5 _ rfl; have y0 := h.cell 0 _ rfl; rw [HAL.out] at y0; have z0 := HZ0.out _ h.fr.bl; clear h; go_simp <;> with_reducible rfl)
                          try simp only [Act.put, List.setIfInBounds_toArray, List.set_cons_zero, List.set_cons_succ]
                          refine clS 7 { dst := some 195, op := .call { callee := .value (.func 26), args := #[.tmp 189, .tmp 194], argTypes := #[40, 3] }, type := 9, pos := "ref.go:120", after := #[{ on := 1, ground := .data }, { on := 6, ground := .data }], guard := none } rfl (by kernel_rfl) (by kernel_rfl) fun Kc hK => ?_
                          go_simp
                          have b8 := (Below.refl wr.heap.size wr).drew
                          refine (HLINE.out _ b8).mono ?_
                          rintro e w9 ⟨rfl, b9⟩
                          have HG6 := Lib.hid (HG5.out.on (b8.trans (b9.mono b8.size)))
                          refine hK.out _ _ ⟨_, _, HG6.out⟩ fun hHeld => ?_
                          clear b8 b9
                          clear hK Kc
                          try simp only [Act.put, List.setIfInBounds_toArray, List.set_cons_zero, List.set_cons_succ]
                          refine clS 8 { dst := some 196, op := .buildSlice 31 1 #[(0, .tmp 195)], type := 31, pos := "ref.go:120", after := #[{ on := 7, ground := .data }], guard := none } rfl (by kernel_rfl) (by kernel_rfl) fun Kc hK => ?_
                          go_simp
                          refine hK.out _ _ ⟨_, _, HG6.out.on (below_alloc w9 _)⟩ fun hHeld => ?_
                          clear hK Kc
                          try simp only [Act.put, List.setIfInBounds_toArray, List.set_cons_zero, List.set_cons_succ]
                          refine clS 9 { dst := some 197, op := .call { callee := .builtin .append, args := #[.tmp 188, .tmp 196], argTypes := #[31, 31] }, type := 31, pos := "ref.go:120", after := #[{ on := 0, ground := .data }, { on := 8, ground := .data }, { on := 7, ground := .chain }], guard := none } rfl (by kernel_rfl) (by kernel_rfl) fun Kc hK => ?_
                          refine op_app_txt rfl (.tmp 188) (.tmp 196) 31 rfl Tryd.underlying31 w9 b0 u3 L4 r rfl HG6.out.fr.ot rfl (by omega) HG6.out.fr.sz ?_
                          intro v6 w10 hO4 hS4 hz4 hw4
                          have HG7 := Lib.hid (HG6.out.app hO4 hS4 hw4)
                          clear hO4 hS4 hz4 hw4
                          refine hK.out _ _ ⟨_, _, HG7.out⟩ fun hHeld => ?_
                          clear hK Kc
                          try simp only [Act.put, List.setIfInBounds_toArray, List.set_cons_zero, List.set_cons_succ]
                          refine tkS 10 { dst := some 3, op := .assign (.tmp 197), type := 31, pos := "ref.go:120", after := #[{ on := 9, ground := .data }, { on := 9, ground := .chain }, { on := 0, ground := .phase }, { on := 1, ground := .phase }, { on := 2, ground := .phase }, { on := 3, ground := .phase }, { on := 4, ground := .phase }, { on := 5, ground := .phase }, { on := 6, ground := .phase }, { on := 7, ground := .phase }, { on := 8, ground := .phase }, { on := 9, ground := .phase }], guard := none } (v := ?v1_10) hq hHeld rfl (by kernel_rfl) ?y1_10 ?_
                          case y1_10 => (intro w h; obtain ⟨v', L', h⟩ := h; have f0 := h.fr.fv.cell 0 _ rfl; have f1 := h.fr.fv.cell 1 _ rfl; have f2 := h.fr.fv.cell 2 _ rfl; have f3 := h.fr.fv.cell 3 _ rfl; have f4 := h.fr.fv.cell 4 _ rfl; have f5 := h.fr.fv.cell 5 _ rfl; have y0 := h.cell 0 _ rfl; rw [HAL.out] at y0; have z0 := HZ0.out _ h.fr.bl; clear h; go_simp <;> with_reducible rfl)
                          try simp only [Act.put, List.setIfInBounds_toArray, List.set_cons_zero, List.set_cons_succ]
                          refine wpAnyH_done (by kernel_rfl) ?_ _
                          clear hHeld hq
                          go_wp2_with fail
                          go_roundw
                          case rel => exact ⟨m + 1, by omega, by go_num, by show GR w0 b0 vb U xb #[.slice lA lm lc, .int .i64 jp, .int .i64 ag, .int .i64 t0, .int .i64 t1] v6 (L3 ++ (x.list.take (m + 1)).map (lineS U.f)) w10; rw [HUPM.out]; exact HG7.out⟩
                          case measure => simp [intOf] <;> omega
                        · obtain rfl : m = lm := by omega
                          have hnm : ¬ (m : Int) < (m : Int) := by omega
                          obtain ⟨L5, hL5⟩ : ∃ l, L3 ++ x.list.map (lineS U.f) = l := ⟨_, rfl⟩
                          have HG8 : Hid (GR w0 b0 vb U xb #[.slice lA m lc, .int .i64 jp, .int .i64 ag, .int .i64 t0, .int .i64 t1] u3 L5 wr) := by
                            have h : GR w0 b0 vb U xb #[.slice lA m lc, .int .i64 jp, .int .i64 ag, .int .i64 t0, .int .i64 t1] u3 (L3 ++ (x.list.take m).map (lineS U.f)) wr := HGM.out
                            rw [List.take_of_length_le (by have := HLM.out; omega), hL5] at h
                            exact h
                          have hl5 : L5.length ≤ 68719578800 := by
                            rw [← hL5, List.length_append, List.length_map]
                            have := hl3.out
                            have := HLM.out
                            omega
                          have HUPB : Hid (L1 ++ blocksTo U.f (j + 1) = L5 ++ [endS x]) := by
                            show _ = _
                            rw [blocksTo, HX.out, Option.map_some, Option.getD_some, blockL, ← List.append_assoc, HL2.out, ← hL5, HL3.out]
                            simp
                          have y1 : wr.cell? ⟨xb, 1, none⟩ = some (.int .i64 jp) := HG8.out.cell 1 _ rfl
                          have y2 : wr.cell? ⟨xb, 2, none⟩ = some (.int .i64 ag) := HG8.out.cell 2 _ rfl
                          have y3 : wr.cell? ⟨xb, 3, none⟩ = some (.int .i64 t0) := HG8.out.cell 3 _ rfl
                          have y4 : wr.cell? ⟨xb, 4, none⟩ = some (.int .i64 t1) := HG8.out.cell 4 _ rfl
                          obtain ⟨HI1, HI2, HI3, HI4⟩ := HI.out
                          clear HGM hL5 HI
                          go_upto_block 16 with (fail)
                          clear y0 hnm
                          have HMT : ∀ v w, FR w0 b0 vb U v (L5 ++ [endS x]) w → FR w0 b0 vb U v (L1 ++ blocksTo U.f (j + 1)) w := fun v w h => by rw [HUPB.out]; exact h
                          have HMT := Lib.hid HMT
                          by_cases q1 : jp = 1
                          · as_aux_lemma =>
                            subst q1
                            go_wp2_with fail
                            refine (refText_any t0 wr HI3.1 HI3.2).mono ?_
                            rintro e w7 ⟨rfl, b7⟩
                            have HG9 := Lib.hid (HG8.out.on b7)
                            obtain ⟨tx, htx⟩ : ∃ s, num t0 = s := ⟨_, rfl⟩
                            have hts : tx.size ≤ 21 := by rw [← htx]; exact num_size _ HI3
                            have htx' : (⟨(Lib.itoa t0).toArray⟩ : ByteArray) = tx := htx
                            rw [htx']
                            have HE : Hid (endS x = (⟨#[103, 111, 116, 111, 32]⟩ : ByteArray) ++ tx) := by show _ = _; unfold endS; rw [HEN.out.1, if_pos rfl, HEN.out.2.2.1, htx]
                            clear b7 htx htx' HG8
                            go_wp2_with (at_builtin; refine Hid.out ?_)
                            refine Lib.hid ?_
                            refine app_txt rfl (.tmp 209) (.tmp 215) 31 rfl Tryd.underlying31 _ b0 u3 L5 ((⟨#[103, 111, 116, 111, 32]⟩ : ByteArray) ++ tx) rfl HG9.out.fr.ot rfl (by omega) HG9.out.fr.sz ?_
                            intro v5 w8 hO4 hS4 hz4 hw4
                            have HGE := Lib.hid (HG9.out.fr.app hO4 hS4 hw4)
                            clear hO4 hS4 hz4 hw4 HG9
                            go_wp2_with fail
                            go_meet
                            case rel => exact HMT.out _ _ (by rw [HE.out]; exact HGE.out)
                          · by_cases q2 : jp = 2
                            · as_aux_lemma =>
                              subst q2
                              have qb1 : ((2 : Int) == 1) = false := rfl
                              have HKd := Lib.hid (HG8.out.on ((Below.refl wr.heap.size wr).drew))
                              obtain ⟨tx1, htx1⟩ : ∃ s, num ag = s := ⟨_, rfl⟩
                              have hts1 : tx1.size ≤ 21 := by rw [← htx1]; exact num_size _ HI2
                              have HT1 : Hid (∀ w', Calls Tryd.prog 32 #[.int .i64 ag] w' fun e w2 => e = .returned (.string tx1) ∧ Below w'.heap.size w' w2) := by rw [← htx1]; exact fun w' => refText_any ag w' HI2.1 HI2.2
                              obtain ⟨tx2, htx2⟩ : ∃ s, num t0 = s := ⟨_, rfl⟩
                              have hts2 : tx2.size ≤ 21 := by rw [← htx2]; exact num_size _ HI3
                              have HT2 : Hid (∀ w', Calls Tryd.prog 32 #[.int .i64 t0] w' fun e w2 => e = .returned (.string tx2) ∧ Below w'.heap.size w' w2) := by rw [← htx2]; exact fun w' => refText_any t0 w' HI3.1 HI3.2
                              obtain ⟨tx3, htx3⟩ : ∃ s, num t1 = s := ⟨_, rfl⟩
                              have hts3 : tx3.size ≤ 21 := by rw [← htx3]; exact num_size _ HI4
                              have HT3 : Hid (∀ w', Calls Tryd.prog 32 #[.int .i64 t1] w' fun e w2 => e = .returned (.string tx3) ∧ Below w'.heap.size w' w2) := by rw [← htx3]; exact fun w' => refText_any t1 w' HI4.1 HI4.2
                              have HE : Hid (endS x = ((((((⟨#[105, 102, 32, 118]⟩ : ByteArray) ++ tx1) ++ ⟨#[32]⟩) ++ tx2) ++ ⟨#[32]⟩) ++ tx3)) := by show _ = _; unfold endS; rw [HEN.out.1, if_neg (by decide), if_pos rfl, HEN.out.2.1, HEN.out.2.2.1, HEN.out.2.2.2, htx1, htx2, htx3]
                              have z1 : ¬ 9223372036854775807 < 4 + tx1.size := by omega
                              have z2 : ¬ 9223372036854775807 < 4 + tx1.size + 1 := by omega
                              have z3 : ¬ 9223372036854775807 < 4 + tx1.size + 1 + tx2.size := by omega
                              have z4 : ¬ 9223372036854775807 < 4 + tx1.size + 1 + tx2.size + 1 := by omega
                              have z5 : ¬ 9223372036854775807 < 4 + tx1.size + 1 + tx2.size + 1 + tx3.size := by omega
                              obtain ⟨r6, hr6⟩ : ∃ s, ((((((⟨#[105, 102, 32, 118]⟩ : ByteArray) ++ tx1) ++ ⟨#[32]⟩) ++ tx2) ++ ⟨#[32]⟩) ++ tx3) = s := ⟨_, rfl⟩
                              have HEY := Lib.hid hr6
                              clear hr6 htx1 htx2 htx3
                              go_wp2_with fail
                              refine rgS (fun w' => ∃ v' L', GR w0 b0 vb U xb #[.slice lA m lc, .int .i64 2, .int .i64 ag, .int .i64 t0, .int .i64 t1] v' L' w') (by kernel_rfl) (⟨_, _, HG8.out.on ((Below.refl wr.heap.size wr).drew)⟩) (fun _ a d v _ h => And.intro ((put_df a d v).symm.trans (And.left h)) (And.right h)) fun hHeld hq => ?_
                              refine tkS 0 { dst := some 219, op := .move (.tmp 3), type := 31, pos := "ref.go:126", after := #[], guard := none } (v := ?v2_0) hq hHeld rfl (by kernel_rfl) ?y2_0 ?_
                              case y2_0 => (intro w h; obtain ⟨v', L', h⟩ := h; have y2 := h.cell 2 _ rfl; have y3 := h.cell 3 _ rfl; have y4 := h.cell 4 _ rfl; clear h; go_simp <;> with_reducible rfl)
                              try simp only [Act.put, List.setIfInBounds_toArray, List.set_cons_zero, List.set_cons_succ]
                              refine tkS 1 { dst := some 220, op := .fieldAddr 53 (.tmp 14) 2, type := 0, pos := "ref.go:126", after := #[], guard := none } (v := ?v2_1) hq hHeld rfl (by kernel_rfl) ?y2_1 ?_
                              case y2_1 => (intro w h; obtain ⟨v', L', h⟩ := h; have y2 := h.cell 2 _ rfl; have y3 := h.cell 3 _ rfl; have y4 := h.cell 4 _ rfl; clear h; go_simp <;> with_reducible rfl)
                              try simp only [Act.put, List.setIfInBounds_toArray, List.set_cons_zero, List.set_cons_succ]
                              refine tkS 2 { dst := some 221, op := .load 3 (.tmp 220), type := 3, pos := "ref.go:126", after := #[{ on := 1, ground := .data }], guard := none } (v := ?v2_2) hq hHeld rfl (by kernel_rfl) ?y2_2 ?_
                              case y2_2 => (intro w h; obtain ⟨v', L', h⟩ := h; have y2 := h.cell 2 _ rfl; have y3 := h.cell 3 _ rfl; have y4 := h.cell 4 _ rfl; clear h; go_simp <;> with_reducible rfl)
                              try simp only [Act.put, List.setIfInBounds_toArray, List.set_cons_zero, List.set_cons_succ]
                              refine tkS 6 { dst := some 225, op := .fieldAddr 53 (.tmp 14) 3, type := 0, pos := "ref.go:126", after := #[], guard := none } (v := ?v2_6) hq hHeld rfl (by kernel_rfl) ?y2_6 ?_
                              case y2_6 => (intro w h; obtain ⟨v', L', h⟩ := h; have y2 := h.cell 2 _ rfl; have y3 := h.cell 3 _ rfl; have y4 := h.cell 4 _ rfl; clear h; go_simp <;> with_reducible rfl)
                              try simp only [Act.put, List.setIfInBounds_toArray, List.set_cons_zero, List.set_cons_succ]
                              refine tkS 7 { dst := some 226, op := .indexAddr 51 (.tmp 225) (.const (.int .i64 0)), type := 0, pos := "ref.go:126", after := #[{ on := 6, ground := .data }], guard := none } (v := ?v2_7) hq hHeld rfl (by kernel_rfl) ?y2_7 ?_
                              case y2_7 => (intro w h; obtain ⟨v', L', h⟩ := h; have y2 := h.cell 2 _ rfl; have y3 := h.cell 3 _ rfl; have y4 := h.cell 4 _ rfl; clear h; go_simp <;> with_reducible rfl)
                              try simp only [Act.put, List.setIfInBounds_toArray, List.set_cons_zero, List.set_cons_succ]
                              refine tkS 8 { dst := some 227, op := .load 3 (.tmp 226), type := 3, pos := "ref.go:126", after := #[{ on := 7, ground := .data }], guard := none } (v := ?v2_8) hq hHeld rfl (by kernel_rfl) ?y2_8 ?_
                              case y2_8 => (intro w h; obtain ⟨v', L', h⟩ := h; have y2 := h.cell 2 _ rfl; have y3 := h.cell 3 _ rfl; have y4 := h.cell 4 _ rfl; clear h; go_simp <;> with_reducible rfl)
                              try simp only [Act.put, List.setIfInBounds_toArray, List.set_cons_zero, List.set_cons_succ]
                              refine tkS 12 { dst := some 231, op := .fieldAddr 53 (.tmp 14) 3, type := 0, pos := "ref.go:126", after := #[], guard := none } (v := ?v2_12) hq hHeld rfl (by kernel_rfl) ?y2_12 ?_
                              case y2_12 => (intro w h; obtain ⟨v', L', h⟩ := h; have y2 := h.cell 2 _ rfl; have y3 := h.cell 3 _ rfl; have y4 := h.cell 4 _ rfl; clear h; go_simp <;> with_reducible rfl)
                              try simp only [Act.put, List.setIfInBounds_toArray, List.set_cons_zero, List.set_cons_succ]
                              refine tkS 13 { dst := some 232, op := .indexAddr 51 (.tmp 231) (.const (.int .i64 1)), type := 0, pos := "ref.go:126", after := #[{ on := 12, ground := .data }], guard := none } (v := ?v2_13) hq hHeld rfl (by kernel_rfl) ?y2_13 ?_
                              case y2_13 => (intro w h; obtain ⟨v', L', h⟩ := h; have y2 := h.cell 2 _ rfl; have y3 := h.cell 3 _ rfl; have y4 := h.cell 4 _ rfl; clear h; go_simp <;> with_reducible rfl)
                              try simp only [Act.put, List.setIfInBounds_toArray, List.set_cons_zero, List.set_cons_succ]
                              refine tkS 14 { dst := some 233, op := .load 3 (.tmp 232), type := 3, pos := "ref.go:126", after := #[{ on := 13, ground := .data }], guard := none } (v := ?v2_14) hq hHeld rfl (by kernel_rfl) ?y2_14 ?_
                              case y2_14 => (intro w h; obtain ⟨v', L', h⟩ := h; have y2 := h.cell 2 _ rfl; have y3 := h.cell 3 _ rfl; have y4 := h.cell 4 _ rfl; clear h; go_simp <;> with_reducible rfl)
                              try simp only [Act.put, List.setIfInBounds_toArray, List.set_cons_zero, List.set_cons_succ]
                              refine clS 3 { dst := some 222, op := .call { callee := .value (.func 32), args := #[.tmp 221], argTypes := #[3] }, type := 9, pos := "ref.go:126", after := #[{ on := 2, ground := .data }], guard := none } rfl (by kernel_rfl) (by kernel_rfl) fun Kc hK => ?_
                              go_simp
                              refine (HT1.out _).mono ?_
                              rintro e w11 ⟨rfl, b9⟩
                              have HK11 := Lib.hid (HKd.out.on b9)
                              refine hK.out _ _ ⟨_, _, HK11.out⟩ fun hHeld => ?_
                              clear b9
                              clear hK Kc
                              try simp only [Act.put, List.setIfInBounds_toArray, List.set_cons_zero, List.set_cons_succ]
                              refine tkS 4 { dst := some 223, op := .binOp .add 9 (.const (.string { data := #[105, 102, 32, 118] })) (.tmp 222) 9, type := 9, pos := "ref.go:126", after := #[{ on := 3, ground := .data }], guard := none } (v := ?v2_4) hq hHeld rfl (by kernel_rfl) ?y2_4 ?_
                              case y2_4 => (intro w h; obtain ⟨v', L', h⟩ := h; have y2 := h.cell 2 _ rfl; have y3 := h.cell 3 _ rfl; have y4 := h.cell 4 _ rfl; clear h; go_simp <;> with_reducible rfl)
                              try simp only [Act.put, List.setIfInBounds_toArray, List.set_cons_zero, List.set_cons_succ]
                              refine tkS 5 { dst := some 224, op := .binOp .add 9 (.tmp 223) (.const (.string { data := #[32] })) 9, type := 9, pos := "ref.go:126", after := #[{ on := 4, ground := .data }], guard := none } (v := ?v2_5) hq hHeld rfl (by kernel_rfl) ?y2_5 ?_
                              case y2_5 => (intro w h; obtain ⟨v', L', h⟩ := h; have y2 := h.cell 2 _ rfl; have y3 := h.cell 3 _ rfl; have y4 := h.cell 4 _ rfl; clear h; go_simp <;> with_reducible rfl)
                              try simp only [Act.put, List.setIfInBounds_toArray, List.set_cons_zero, List.set_cons_succ]
                              refine clS 9 { dst := some 228, op := .call { callee := .value (.func 32), args := #[.tmp 227], argTypes := #[3] }, type := 9, pos := "ref.go:126", after := #[{ on := 8, ground := .data }, { on := 3, ground := .chain }], guard := none } rfl (by kernel_rfl) (by kernel_rfl) fun Kc hK => ?_
                              go_simp
                              refine (HT2.out _).mono ?_
                              rintro e w12 ⟨rfl, b9⟩
                              have HK12 := Lib.hid (HK11.out.on b9)
                              refine hK.out _ _ ⟨_, _, HK12.out⟩ fun hHeld => ?_
                              clear b9
                              clear hK Kc
                              try simp only [Act.put, List.setIfInBounds_toArray, List.set_cons_zero, List.set_cons_succ]
                              refine tkS 10 { dst := some 229, op := .binOp .add 9 (.tmp 224) (.tmp 228) 9, type := 9, pos := "ref.go:126", after := #[{ on := 5, ground := .data }, { on := 9, ground := .data }], guard := none } (v := ?v2_10) hq hHeld rfl (by kernel_rfl) ?y2_10 ?_
                              case y2_10 => (intro w h; obtain ⟨v', L', h⟩ := h; have y2 := h.cell 2 _ rfl; have y3 := h.cell 3 _ rfl; have y4 := h.cell 4 _ rfl; clear h; go_simp <;> with_reducible rfl)
                              try simp only [Act.put, List.setIfInBounds_toArray, List.set_cons_zero, List.set_cons_succ]
                              refine tkS 11 { dst := some 230, op := .binOp .add 9 (.tmp 229) (.const (.string { data := #[32] })) 9, type := 9, pos := "ref.go:126", after := #[{ on := 10, ground := .data }], guard := none } (v := ?v2_11) hq hHeld rfl (by kernel_rfl) ?y2_11 ?_
                              case y2_11 => (intro w h; obtain ⟨v', L', h⟩ := h; have y2 := h.cell 2 _ rfl; have y3 := h.cell 3 _ rfl; have y4 := h.cell 4 _ rfl; clear h; go_simp <;> with_reducible rfl)
                              try simp only [Act.put, List.setIfInBounds_toArray, List.set_cons_zero, List.set_cons_succ]
                              refine clS 15 { dst := some 234, op := .call { callee := .value (.func 32), args := #[.tmp 233], argTypes := #[3] }, type := 9, pos := "ref.go:126", after := #[{ on := 14, ground := .data }, { on := 9, ground := .chain }], guard := none } rfl (by kernel_rfl) (by kernel_rfl) fun Kc hK => ?_
                              go_simp
                              refine (HT3.out _).mono ?_
                              rintro e w13 ⟨rfl, b9⟩
                              have HK13 := Lib.hid (HK12.out.on b9)
                              refine hK.out _ _ ⟨_, _, HK13.out⟩ fun hHeld => ?_
                              clear b9
                              clear hK Kc
                              try simp only [Act.put, List.setIfInBounds_toArray, List.set_cons_zero, List.set_cons_succ]
                              refine tkS 16 { dst := some 235, op := .binOp .add 9 (.tmp 230) (.tmp 234) 9, type := 9, pos := "ref.go:126", after := #[{ on := 11, ground := .data }, { on := 15, ground := .data }], guard := none } (v := ?v2_16) hq hHeld rfl (by kernel_rfl) ?y2_16 ?_
                              case y2_16 => (intro w h; obtain ⟨v', L', h⟩ := h; have y2 := h.cell 2 _ rfl; have y3 := h.cell 3 _ rfl; have y4 := h.cell 4 _ rfl; clear h; go_simp <;> with_reducible rfl)
                              try simp only [Act.put, List.setIfInBounds_toArray, List.set_cons_zero, List.set_cons_succ]
                              refine clS 17 { dst := some 236, op := .buildSlice 31 1 #[(0, .tmp 235)], type := 31, pos := "ref.go:126", after := #[{ on := 16, ground := .data }], guard := none } rfl (by kernel_rfl) (by kernel_rfl) fun Kc hK => ?_
                              go_simp
                              refine hK.out _ _ ⟨_, _, HK13.out.on (below_alloc w13 _)⟩ fun hHeld => ?_
                              clear hK Kc
                              try simp only [Act.put, List.setIfInBounds_toArray, List.set_cons_zero, List.set_cons_succ]
                              refine clS 18 { dst := some 237, op := .call { callee := .builtin .append, args := #[.tmp 219, .tmp 236], argTypes := #[31, 31] }, type := 31, pos := "ref.go:126", after := #[{ on := 0, ground := .data }, { on := 17, ground := .data }, { on := 15, ground := .chain }], guard := none } rfl (by kernel_rfl) (by kernel_rfl) fun Kc hK => ?_
                              rw [HEY.out]
                              refine op_app_txt rfl (.tmp 219) (.tmp 236) 31 rfl Tryd.underlying31 w13 b0 u3 L5 r6 rfl HK13.out.fr.ot rfl (by omega) HK13.out.fr.sz ?_
                              intro v6 w14 hO4 hS4 hz4 hw4
                              have HGE := Lib.hid (HK13.out.app hO4 hS4 hw4)
                              clear hO4 hS4 hz4 hw4
                              refine hK.out _ _ ⟨_, _, HGE.out⟩ fun hHeld => ?_
                              clear hK Kc
                              try simp only [Act.put, List.setIfInBounds_toArray, List.set_cons_zero, List.set_cons_succ]
                              refine tkS 19 { dst := some 3, op := .assign (.tmp 237), type := 31, pos := "ref.go:126", after := #[{ on := 18, ground := .data }, { on := 18, ground := .chain }, { on := 0, ground := .phase }, { on := 1, ground := .phase }, { on := 2, ground := .phase }, { on := 3, ground := .phase }, { on := 4, ground := .phase }, { on := 5, ground := .phase }, { on := 6, ground := .phase }, { on := 7, ground := .phase }, { on := 8, ground := .phase }, { on := 9, ground := .phase }, { on := 10, ground := .phase }, { on := 11, ground := .phase }, { on := 12, ground := .phase }, { on := 13, ground := .phase }, { on := 14, ground := .phase }, { on := 15, ground := .phase }, { on := 16, ground := .phase }, { on := 17, ground := .phase }, { on := 18, ground := .phase }], guard := none } (v := ?v2_19) hq hHeld rfl (by kernel_rfl) ?y2_19 ?_
                              case y2_19 => (intro w h; obtain ⟨v', L', h⟩ := h; have y2 := h.cell 2 _ rfl; have y3 := h.cell 3 _ rfl; have y4 := h.cell 4 _ rfl; clear h; go_simp <;> with_reducible rfl)
                              try simp only [Act.put, List.setIfInBounds_toArray, List.set_cons_zero, List.set_cons_succ]
                              refine wpAnyH_done (by kernel_rfl) ?_ _
                              clear hHeld hq
                              go_wp2_with fail
                              go_meet
                              case rel => exact HMT.out _ _ (by rw [HE.out, HEY.out]; exact HGE.out.fr)
                            · by_cases q3 : jp = 3
                              · by_cases q4 : ag = -1
                                · as_aux_lemma =>
                                  subst q3 q4
                                  have HE : Hid (endS x = (⟨#[114, 101, 116]⟩ : ByteArray)) := by show _ = _; unfold endS; rw [HEN.out.1, if_neg (by decide), if_neg (by decide), if_pos rfl, HEN.out.2.1, if_pos rfl]
                                  go_wp2_with (at_builtin; refine Hid.out ?_)
                                  refine Lib.hid ?_
                                  refine app_txt rfl (.tmp 243) (.tmp 244) 31 rfl Tryd.underlying31 _ b0 u3 L5 (⟨#[114, 101, 116]⟩ : ByteArray) rfl HG8.out.fr.ot rfl (by omega) HG8.out.fr.sz ?_
                                  intro v5 w8 hO4 hS4 hz4 hw4
                                  have HGE := Lib.hid (HG8.out.fr.app hO4 hS4 hw4)
                                  clear hO4 hS4 hz4 hw4 HG8
                                  go_wp2_with fail
                                  go_meet
                                  case rel => exact HMT.out _ _ (by rw [HE.out]; exact HGE.out)
                                · as_aux_lemma =>
                                  subst q3
                                  have qb4 : (ag == -1) = false := by simp [q4]
                                  go_wp2_with fail
                                  refine (refText_any ag wr HI2.1 HI2.2).mono ?_
                                  rintro e w7 ⟨rfl, b7⟩
                                  have HG9 := Lib.hid (HG8.out.on b7)
                                  obtain ⟨tx, htx⟩ : ∃ s, num ag = s := ⟨_, rfl⟩
                                  have hts : tx.size ≤ 21 := by rw [← htx]; exact num_size _ HI2
                                  have htx' : (⟨(Lib.itoa ag).toArray⟩ : ByteArray) = tx := htx
                                  rw [htx']
                                  have HE : Hid (endS x = (⟨#[114, 101, 116, 32, 118]⟩ : ByteArray) ++ tx) := by show _ = _; unfold endS; rw [HEN.out.1, if_neg (by decide), if_neg (by decide), if_pos rfl, HEN.out.2.1, if_neg q4, htx]
                                  clear b7 htx htx' HG8
                                  go_wp2_with (at_builtin; refine Hid.out ?_)
                                  refine Lib.hid ?_
                                  refine app_txt rfl (.tmp 246) (.tmp 251) 31 rfl Tryd.underlying31 _ b0 u3 L5 ((⟨#[114, 101, 116, 32, 118]⟩ : ByteArray) ++ tx) rfl HG9.out.fr.ot rfl (by omega) HG9.out.fr.sz ?_
                                  intro v5 w8 hO4 hS4 hz4 hw4
                                  have HGE := Lib.hid (HG9.out.fr.app hO4 hS4 hw4)
                                  clear hO4 hS4 hz4 hw4 HG9
                                  go_wp2_with fail
                                  go_meet
                                  case rel => exact HMT.out _ _ (by rw [HE.out]; exact HGE.out)
                              · as_aux_lemma =>
                                have qb1 : (jp == 1) = false := by simp [q1]
                                have qb2 : (jp == 2) = false := by simp [q2]
                                have qb3 : (jp == 3) = false := by simp [q3]
                                go_wp2_with fail
                                refine (refText_any jp wr HI1.1 HI1.2).mono ?_
                                rintro e w7 ⟨rfl, b7⟩
                                have HG9 := Lib.hid (HG8.out.on b7)
                                obtain ⟨tx, htx⟩ : ∃ s, num jp = s := ⟨_, rfl⟩
                                have hts : tx.size ≤ 21 := by rw [← htx]; exact num_size _ HI1
                                have htx' : (⟨(Lib.itoa jp).toArray⟩ : ByteArray) = tx := htx
                                rw [htx']
                                have HE : Hid (endS x = (⟨#[106, 117, 109, 112, 32]⟩ : ByteArray) ++ tx) := by show _ = _; unfold endS; rw [HEN.out.1, if_neg q1, if_neg q2, if_neg q3, htx]
                                clear b7 htx htx' HG8
                                go_wp2_with (at_builtin; refine Hid.out ?_)
                                refine Lib.hid ?_
                                refine app_txt rfl (.tmp 200) (.tmp 205) 31 rfl Tryd.underlying31 _ b0 u3 L5 ((⟨#[106, 117, 109, 112, 32]⟩ : ByteArray) ++ tx) rfl HG9.out.fr.ot rfl (by omega) HG9.out.fr.sz ?_
                                intro v5 w8 hO4 hS4 hz4 hw4
                                have HGE := Lib.hid (HG9.out.fr.app hO4 hS4 hw4)
                                clear hO4 hS4 hz4 hw4 HG9
                                go_wp2_with fail
                                go_meet
                                case rel => exact HMT.out _ _ (by rw [HE.out]; exact HGE.out)
                    · obtain rfl : j = bm := by omega
                      have hnj : ¬ (j : Int) < (j : Int) := by omega
                      have HUPF : Hid (OT wr b0 u3 (E.p.structs.map structS ++ E.p.globals.map globS ++ funsTo E.p (k + 1))) := by
                        have h := HFJ.out.ot
                        have e : E.p.structs.map structS ++ E.p.globals.map globS ++ funsTo E.p (k + 1) = L1 ++ blocksTo U.f j := by
                          rw [HUP.out, funL, HBM.out, HFU.out, ← HL1.out, ← HL0.out]; simp
                        show OT _ _ _ _
                        rw [e]; exact h
                      have HBQ := Lib.hid HFJ.out.bl
                      have HSQ := Lib.hid HFJ.out.sz
                      clear HFJ
                      go_wp2_with fail
                      go_roundw
                      case rel => exact ⟨k + 1, by omega, by go_num, HUPF, HBQ.out, HSQ.out⟩
                      case measure => simp [intOf] <;> omega
            · obtain rfl : k = fm := by omega
              have HL : Hid (OT wr w.heap.size u3 (linesL E.p)) := by
                have h : OT wr b0 u3 (E.p.structs.map structS ++ E.p.globals.map globS ++ funsTo E.p k) := HOK.out
                rw [← HFM.out] at h
                exact own_mono h (by omega)
              have B9 := Lib.hid (HB.out.trans (HBK.out.mono (by omega)))
              go_wp2_with fail
              go_ret
              exact ⟨_, rfl, HL.out, B9.out⟩
end Go.Proofs.YtcbjcpmkebbfaaaDoor
