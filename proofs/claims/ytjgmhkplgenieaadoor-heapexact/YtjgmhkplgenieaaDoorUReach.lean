/-
  CONTRACT: Reach of the document's own heap (truantref06). Conditions: none of our own.
-/
import Derived.Test.YtjgmhkplgenieaaDoorUMake
import Derived.Test.YtjgmhkplgenieaaDoorUQueue
import Derived.Test.YtjgmhkplgenieaaDoorUBfs
import Derived.Test.YtjgmhkplgenieaaDoorRefElem
import Derived.Test.YtjgmhkplgenieaaDoorHMono
namespace Go.Proofs.YtjgmhkplgenieaaDoor
open Go.RowKit

def UReachQ (H : Hp) (roots : List Int) (N : Nat) (w : World) (e : Ending) (w' : World) : Prop :=
  ∃ fl, e = .returned (.slice (some ⟨w.heap.size, 0, none⟩) N N) ∧ Fl w' w.heap.size N fl ∧ (∀ x, fb fl x = true ↔ Rd (some H) roots x) ∧ Below w.heap.size w w'
def FeedRel (w : World) (g N q : Nat) (rt : List Int) (i v : Value) (wr : World) : Prop :=
  ∃ k : Nat, k ≤ q ∧ i = .int .i64 k ∧ Hid (QS wr (g + 1) v (rt.take k)) ∧ Hid (Fl wr g N (List.replicate N false)) ∧ Hid (Below w.heap.size w wr)
def BfsRel (w : World) (g N q : Nat) (H : Hp) (rt : List Int) (v : Value) (wr : World) : Prop :=
  ∃ (fl : List Bool) (ls : List Int), Hid (BI H rt fl ls) ∧ Hid (QS wr (g + 1) v ls) ∧ Hid (Fl wr g N fl) ∧ Hid (Below w.heap.size w wr) ∧ Hid (ls.length + 9 * fl.count false ≤ q + 9 * N)
def LnkRel (w : World) (g N : Nat) (H : Hp) (i fm : Nat) (fl : List Bool) (ls : List Int) (j v : Value) (wr : World) : Prop :=
  ∃ k : Nat, k ≤ fm ∧ j = .int .i64 k ∧ Hid (QS wr (g + 1) v (ls ++ lnk H i k)) ∧ Hid (Fl wr g N fl) ∧ Hid (Below w.heap.size w wr)

theorem rE_no (t : ByteArray) (w : World) (h : Hid (elemO t = none)) : Calls Tryd.prog 38 #[.string t] w fun e w' => e = .returned (.string ⟨#[]⟩) ∧ Below w.heap.size w w' := refElem_any t none w h
theorem rE_yes (t n : ByteArray) (w : World) (h : Hid (elemO t = some n)) : Calls Tryd.prog 38 #[.string t] w fun e w' => e = .returned (.string n) ∧ Below w.heap.size w w' := refElem_any t (some n) w h
theorem el_pos {t n : ByteArray} (h : elemO t = some n) : 0 < n.size := by
  have hw := (elem_some h).2.2.1
  rcases Nat.eq_zero_or_pos n.size with h0 | h0
  · rw [word_nil (by rw [len_size]; exact h0)] at hw; cases hw
  · exact h0

set_option maxRecDepth 100000 in
set_option maxHeartbeats 4000000 in
theorem ureach_any (P : Nat → Prop) (ub m c q c2 N : Nat) (A C : Option Addr) (H : Hp) (lv : Value) (zs : List (Ob × Nat)) (rt : List Int) (w : World) (h : UM w P ub A m c H lv zs) (hR : Hid (SR w A H.ss)) (hI : Hid (IRz w C rt)) (hq : Hid (rt.length = q)) (hq2 : q ≤ 1048576) (hN : Hid (H.obs.length + 1 = N)) :
    Calls Tryd.prog 21 #[.pointer (some ⟨ub, 0, none⟩), .slice C q c2] w (UReachQ H rt N w) := by
  have HU := Lib.hid h
  obtain ⟨i0, hi0, hz0, hz1, hz2⟩ := info_parts int_info
  obtain ⟨i4, hi4, hy0, hy1, hy2⟩ := info_parts bool_info
  have HI0 := Lib.hid hi0
  have HZ0 := Lib.hid hz0
  have HZ1 := Lib.hid hz1
  have HZ2 := Lib.hid hz2
  have HI4 := Lib.hid hi4
  have HY0 := Lib.hid hy0
  have HY1 := Lib.hid hy1
  obtain ⟨B, k, rfl, hk⟩ := h.lform
  have c1 := h.c1
  have hub := h.lt
  have hno := h.ok.no
  obtain ⟨n, hn⟩ : ∃ n, H.obs.length = n := ⟨_, rfl⟩
  have hNn : n + 1 = N := by rw [← hn]; exact hN.out
  rw [hn] at c1 hk hno
  have HN2 := Lib.hid hNn
  have HLEN := Lib.hid hn
  have hN2 : N ≤ 131073 := by omega
  have hw1 : IntKind.i64.wrap ((n : Int) + 1) = (N : Int) := by rw [show (n : Int) + 1 = (N : Int) by omega]; exact IntWalk.i64_in _ (by omega)
  have HB2 : Hid (i4.bytes * N ≤ 281474976710656) := by show _ ≤ _; rw [hy2]; omega
  have HB3 : Hid (N ≤ maxLen) := by show _ ≤ _; simp only [maxLen]; omega
  clear hi0 hz0 hz1 hz2 hi4 hy0 hy1 hy2 h hn hNn
  go_enter Tryd.func21, Tryd.ntmps21
  go_wp2_with (first | (refine wpList_make_size _ rfl (.tmp 16) (.tmp 16) 55 rfl w.heap.size 4 i4 _ 1 Tryd.underlying55 HI4.out HY0.out HY1.out .i64 .i64 N N N rfl rfl rfl rfl HB2.out HB3.out (by simp) ?_; intro w1 hown1 hb1 hz1; refine Hid.out ?_))
  have F1 : Hid (Fl w1 w.heap.size N (List.replicate N false)) := by
    refine ⟨List.length_replicate, ?_⟩
    have := hown1
    rw [Nat.mul_one, show (Value.bool false).cells = #[.bool false] from rfl, toList_madeCells_one] at this
    unfold boolsOf
    rw [List.map_replicate]; exact this
  have B1 := Lib.hid hb1
  have hz1' : w.heap.size + 1 = w1.heap.size := hz1.symm
  clear hown1 hb1 hz1
  refine Lib.hid ?_
  go_wp2_with fail
  have hbN : w.heap.size < w1.heap.size := by omega
  go_loopw [7, 6] (fun i v wr => FeedRel w w.heap.size N q rt i v wr) (fun i _ _ => q - (intOf i).toNat)
  case atStart => exact ⟨0, Nat.zero_le _, rfl, qs_nil _ _ _, F1.out.sv ((Sv.refl (fun _ => False) _).alloc _) id, B1.out.alloc (Nat.le_of_lt hbN) _⟩
  case round =>
    obtain ⟨j, hj, rfl, HQ, HF, HB⟩ := hrel
    by_cases hlt : j < q
    · obtain ⟨x, hx⟩ : ∃ x, rt[j]? = some x := ⟨_, List.getElem?_eq_getElem (by have := hq.out; omega)⟩
      obtain ⟨cb, co, rfl, hcb, hcc⟩ := hI.out (by have := hq.out; omega)
      have d0 := (HB.out.cell (p := ⟨cb, co + j, none⟩) hcb).trans (hcc j x hx)
      have htk : rt.take (j + 1) = rt.take j ++ [x] := by rw [List.take_succ_eq_append_getElem (List.getElem?_eq_some_iff.1 hx).1, (List.getElem?_eq_some_iff.1 hx).2]
      have HTK := Lib.hid htk
      have hfl := HF.out.lt
      have HLJ : Hid ((rt.take j).length < 1099511627776) := by show _ < _; rw [List.length_take]; omega
      clear hx hcc htk
      go_wp2_with (at_builtin; refine Hid.out ?_)
      refine Lib.hid ?_
      refine wpList_append_q _ rfl (.tmp 25) (.tmp 30) _ rfl (w.heap.size + 1) i0 _ Tryd.underlying24 HI0.out HZ0.out HZ1.out HZ2.out rfl rfl (HQ.out.sv ((Sv.refl (fun _ => False) wr).alloc _) (fun _ _ h => h)) ⟨wr.heap.size, 0, none⟩ 1 x rfl (cell_new wr #[.int .i64 x] 3 0) HLJ.out (by simp; omega) ?_
      intro v6 w6 hq6 hb6
      have hb0 : Below (w.heap.size + 1) wr w6 := ((Below.refl _ wr).alloc (by omega) _).trans hb6
      have HQ6 : Hid (QS w6 (w.heap.size + 1) v6 (rt.take (j + 1))) := by show QS _ _ _ _; rw [HTK.out]; exact hq6
      have HF6 : Hid (Fl w6 w.heap.size N (List.replicate N false)) := HF.out.sv (P := fun i => w.heap.size + 1 ≤ i) ⟨hb0.os, hb0.tape, hb0.output, hb0.size, fun i _ hi => hb0.block i (by omega)⟩ (by omega)
      have HB6 := Lib.hid (HB.out.trans (hb0.mono (Nat.le_succ _)))
      clear hq6 hb6 hb0
      go_wp2_with fail
      go_roundw
      case rel => exact ⟨j + 1, by omega, by go_num, HQ6, HF6, HB6⟩
      case measure => simp [intOf]; omega
    · obtain rfl : q = j := by omega
      have HQ0 := HQ.out
      rw [List.take_of_length_le (by rw [hq.out]; exact Nat.le_refl _)] at HQ0
      have HQ0 := Lib.hid HQ0
      have HBI : Hid (BI H rt (List.replicate N false) rt) := by show BI _ _ _ _; rw [← hN.out]; exact BI.start H rt
      have HC0 : Hid (rt.length + 9 * (List.replicate N false).count false ≤ q + 9 * N) := by show _ ≤ _; rw [hq.out]; simp
      clear HQ
      go_wp2_with fail
      go_loopw [6] (fun v wr => BfsRel w w.heap.size N q H rt v wr) (fun v wr => lenV v + 9 * cntW wr w.heap.size N)
      case atStart => exact ⟨_, rt, HBI, HQ0, HF, HB, HC0⟩
      case round =>
        obtain ⟨fl, ls, HI, HQ, HFl, HBr, HC⟩ := hrel
        have hfl := HFl.out.lt
        cases ls with
        | nil =>
          obtain ⟨ao, cap, rfl, _⟩ := HQ.out.form
          have HD := Lib.hid HI.out.done
          go_wp2_with fail
          go_ret
          exact ⟨fl, rfl, HFl.out, HD.out, HBr.out⟩
        | cons x ls =>
          obtain ⟨g, off, cap, rfl, hcap, hx, hq1, hq0⟩ := HQ.out.head
          obtain ⟨lq, hlq⟩ : ∃ lq, ls.length = lq := ⟨_, rfl⟩
          rw [hlq] at hq1 hcap ⊢
          have HLQ := Lib.hid hlq
          have HQ1 := Lib.hid hq1
          have HQ0 := Lib.hid hq0
          have hme : lenV (.slice (some ⟨g, off, none⟩) (lq + 1) cap) + 9 * cntW wr w.heap.size N = lq + 1 + 9 * fl.count false := by rw [HFl.out.cnt]; rfl
          have HME := Lib.hid hme
          have HU1 := Lib.hid (HU.out.below HBr.out)
          have d1 := HU1.out.c1
          rw [HLEN.out] at d1
          clear hq1 hq0 hlq hme HQ
          have HCN : Hid (ls.length + 9 * fl.count false ≤ q + 9 * N) := by have := HC.out; simp only [List.length_cons] at this; show _ ≤ _; omega
          by_cases hc1 : cap = 1
          · subst hc1
            have hls := HQ0.out rfl
            subst hls
            obtain rfl : 0 = lq := HLQ.out
            have HQN : Hid (QS wr (w.heap.size + 1) (.slice (some ⟨g, off, none⟩) 0 0) []) := qs_nil _ _ _
            by_cases hx1 : x < 1
            · have HI2 := Lib.hid (HI.out.skip (.inl (by unfold hasO; rw [decide_eq_false (by omega)]; rfl)))
              go_wp2_with fail
              go_roundw
              case rel => exact ⟨fl, _, HI2, HQN, HFl, HBr, HCN⟩
              case measure => simp only [lenV]; omega
            · by_cases hx2 : (n : Int) < x
              · have HI2 := Lib.hid (HI.out.skip (.inl (by
                  have e : lenO (some H) = n := HLEN.out
                  unfold hasO; rw [decide_eq_false (show ¬ x ≤ (lenO (some H) : Int) by omega), Bool.and_false])))
                go_wp2_with fail
                go_roundw
                case rel => exact ⟨fl, _, HI2, HQN, HFl, HBr, HCN⟩
                case measure => simp only [lenV]; omega
              · obtain ⟨j, rfl⟩ : ∃ j : Nat, x = (j : Int) := ⟨x.toNat, by omega⟩
                obtain ⟨i, hij⟩ : ∃ i, j = i + 1 := ⟨j - 1, by omega⟩
                have HIJ := Lib.hid hij
                have hj3 : (j : Int) < (N : Int) := by have := HN2.out; omega
                have hj4 : (0 : Int) ≤ (j : Int) := by omega
                obtain ⟨b, hb⟩ : ∃ b, fl[j]? = some b := ⟨_, List.getElem?_eq_getElem (by have := HFl.out.1; have := HN2.out; omega)⟩
                have d2 := HFl.out.cell hb
                have HBB := Lib.hid hb
                clear hb hij
                cases b with
                | true =>
                  have HI2 := Lib.hid (HI.out.skip (.inr (fb_iff.2 ⟨by omega, by rw [Int.toNat_natCast]; exact HBB.out⟩)))
                  go_wp2_with fail
                  go_roundw
                  case rel => exact ⟨fl, _, HI2, HQN, HFl, HBr, HCN⟩
                  case measure => simp only [lenV]; omega
                | false =>
                  have hi : i < H.obs.length := by have := HLEN.out; have := HIJ.out; omega
                  have hi3 : (i : Int) < (n : Int) := by have := HLEN.out; omega
                  have hi4 : (0 : Int) ≤ (i : Int) := by omega
                  have hwj : IntKind.i64.wrap ((j : Int) - 1) = (i : Int) := by rw [show (j : Int) - 1 = i by have := HIJ.out; omega]; exact IntWalk.i64_in _ (by omega)
                  have hfz := HFl.out.2.frozenAt j
                  have HF1 := Lib.hid (HFl.out.set j)
                  have B2 := Lib.hid (HBr.out.setCell (p := ⟨w.heap.size, j, none⟩) (Nat.le_refl _) (.bool true))
                  have HQ2 : Hid (QS (wr.setCell ⟨w.heap.size, j, none⟩ (.bool true)) (w.heap.size + 1) (.slice (some ⟨g, off, none⟩) 0 0) []) := HQN.out.sv (P := fun i => i = w.heap.size) ((Sv.refl (fun i => i = w.heap.size) wr).setCell (p := ⟨w.heap.size, j, none⟩) (.inl rfl) _) (fun g hg e => by omega)
                  have HCT := Lib.hid (hcount_set HBB.out)
                  obtain ⟨lg, kk, hlv, hkk, hlg⟩ := HU.out.lform' hi
                  injection hlv with hv1 hv2 hv3
                  subst hv1 hv3
                  obtain ⟨fg, r0, r1, r2, rz, rg⟩ := (HU.out.below B2.out).row hi
                  obtain ⟨sh, hsh⟩ : ∃ sh, (H.ob i).sh = sh := ⟨_, rfl⟩
                  have hw8 : H.wid i ≤ 8 := by
                    have h1 := HU.out.ok.wd
                    have hob : H.obs[i]? = some (H.ob i) := by rw [← HU.out.hz, List.getElem?_map, rz]; rfl
                    have h3 := HU.out.ok.sh _ (List.mem_of_getElem? hob)
                    unfold Hp.wid Hp.st
                    rw [List.getD_eq_getElem?_getD, List.getElem?_eq_getElem h3]
                    exact h1 _ (List.getElem_mem _)
                  have hshl : sh < H.ss.length := by
                    have hob : H.obs[i]? = some (H.ob i) := by rw [← HU.out.hz, List.getElem?_map, rz]; rfl
                    have := HU.out.ok.sh _ (List.mem_of_getElem? hob)
                    rw [hsh] at this
                    exact this
                  have HMK0 := HI.out
                  rw [show (j : Int) = (i : Int) + 1 by have := HIJ.out; omega] at HMK0
                  have HMK := Lib.hid (HMK0.mark hi hw8)
                  rw [← HIJ.out] at HMK
                  obtain ⟨st, hst⟩ : ∃ st, H.ss[sh]? = some st := ⟨_, List.getElem?_eq_getElem hshl⟩
                  have hSt : H.st i = st := by unfold Hp.st; rw [hsh, List.getD_eq_getElem?_getD, hst]; rfl
                  obtain ⟨sb, so, rfl, hsb, hsc⟩ := hR.out (by omega)
                  obtain ⟨FA, fc, x0', x1', x2, x3, x4⟩ := hsc sh st hst
                  have x1 := (B2.out.cell (p := ⟨sb, so + sh * 2 + 1, none⟩) hsb).trans x1'
                  have hsm : (sh : Int) < (m : Int) := by have := HU.out.hm; omega
                  have hs0 : (0 : Int) ≤ (sh : Int) := by omega
                  have hmm := HU.out.hm
                  have e0 := (HU.out.below B2.out).c0
                  have e1 := (HU.out.below B2.out).c1
                  obtain ⟨fm, hfm⟩ : ∃ fm, H.wid i = fm := ⟨_, rfl⟩
                  have hfm2 : st.fields.length = fm := by rw [← hfm, ← hSt]; rfl
                  rw [hsh] at r0
                  rw [hfm] at hw8 HMK
                  rw [hfm2] at x1
                  rw [HLEN.out] at e1
                  have HSH := Lib.hid hsh
                  have HST := Lib.hid hSt
                  have HFM := Lib.hid hfm
                  have HFM2 := Lib.hid hfm2
                  have HX4 := Lib.hid x4
                  have HI5 := Lib.hid hi
                  clear r1 r2 rz x2 x3 x4 x0' x1' hsc hsh hst hSt hfm hfm2 HMK0 hmm hkk hi hv2 HBB HI
                  go_wp2_with fail
                  go_quiet (fail)
                  have B3 := Lib.hid (below_drewN B2.out nq)
                  have HF3 : Hid (Fl ((wr.setCell ⟨w.heap.size, j, none⟩ (.bool true)).drewN nq) w.heap.size N (fl.set j true)) := HF1.out
                  have HQ3 : Hid (QS ((wr.setCell ⟨w.heap.size, j, none⟩ (.bool true)).drewN nq) (w.heap.size + 1) (.slice (some ⟨g, off, none⟩) 0 0) ([] ++ lnk H i 0)) := by
                    show QS _ _ _ (_ ++ [])
                    rw [List.append_nil]; exact HQ2.out
                  have HX5 := HX4
                  clear HF1 B2 HQ2 HX4 r0 e0 e1 x1 hfz
                  have hbz : w.heap.size + 1 ≤ ((wr.setCell ⟨w.heap.size, j, none⟩ (.bool true)).drewN nq).heap.size := by have := HF3.out.lt; omega
                  generalize (wr.setCell ⟨w.heap.size, j, none⟩ (.bool true)).drewN nq = wd at *
                  go_wp2_with fail
                  go_loopw [10, 6] (fun k v wr => LnkRel w w.heap.size N H i fm (fl.set j true) [] k v wr) (fun k _ _ => fm - (intOf k).toNat)
                  case atStart => exact ⟨0, Nat.zero_le _, rfl, HQ3, HF3, B3⟩
                  case round =>
                    obtain ⟨p, hp, rfl, HQp, HFp, HBp⟩ := hrel
                    have hzp := HFp.out.lt
                    by_cases hlt3 : p < fm
                    · obtain ⟨f, hf⟩ : ∃ f, st.fields[p]? = some f := ⟨_, List.getElem?_eq_getElem (by have := HFM2.out; omega)⟩
                      obtain ⟨fb, fo, rfl, hfb, hfc⟩ := HX5.out (by have := HFM2.out; omega)
                      have f1 := (HBp.out.cell (p := ⟨fb, fo + p * 2 + 1, none⟩) hfb).trans (hfc p f hf).2
                      have hlk : linkB (H.st i).fields p = (elemO f.typ).isSome := by unfold linkB; rw [HST.out, hf]
                      have hp3 : (p : Int) < (fm : Int) := by omega
                      have hp4 : (0 : Int) ≤ (p : Int) := by omega
                      clear hf hfc
                      obtain ⟨fn, ft⟩ := f
                      simp only at f1 hlk
                      cases hel : elemO ft with
                      | none =>
                        have HEL := Lib.hid hel
                        have HLN := Lib.hid (lnk_no (hlk.trans (by rw [hel]; rfl)))
                        clear hlk hel
                        go_wp2_with fail
                        refine (rE_no _ _ HEL).mono ?_
                        rintro e w4 ⟨rfl, b4⟩
                        have hq4 := HQp.out.below b4
                        rw [← HLN.out] at hq4
                        have HQ4 := Lib.hid hq4
                        clear hq4
                        have HF4 : Hid (Fl w4 w.heap.size N (fl.set j true)) := HFp.out.sv (Sv.of (P := fun _ => False) b4) id
                        have HB4 := Lib.hid (HBp.out.trans (b4.mono HBp.out.size))
                        clear b4 f1
                        go_wp2_with fail
                        go_roundw
                        case rel => exact ⟨p + 1, by omega, by go_num, HQ4, HF4, HB4⟩
                        case measure => simp [intOf]; omega
                      | some t =>
                        have HEL := Lib.hid hel
                        have HLN := Lib.hid (lnk_yes (hlk.trans (by rw [hel]; rfl)))
                        have hx1 := size_pos_isEmpty (el_pos hel)
                        clear hlk hel
                        go_wp2_with fail
                        refine (rE_yes _ t _ HEL).mono ?_
                        rintro e w4 ⟨rfl, b4⟩
                        have HQ4 := Lib.hid (HQp.out.below b4)
                        have HF4 : Hid (Fl w4 w.heap.size N (fl.set j true)) := HFp.out.sv (Sv.of (P := fun _ => False) b4) id
                        have HB4 := Lib.hid (HBp.out.trans (b4.mono HBp.out.size))
                        have e1 := (HU.out.below HB4.out).c1
                        rw [HLEN.out] at e1
                        obtain ⟨fg, r0, r1, r2, rz, rg⟩ := (HU.out.below HB4.out).row HI5.out
                        have r3 := r2 p (by have := HFM.out; omega)
                        rw [HFM.out] at r1
                        have hz4 := HF4.out.lt
                        have HLL : Hid (([] ++ lnk H i p).length < 1099511627776) := by
                          show _ < _
                          have h1 := HCN.out
                          have h2 := lnk_len H i p
                          rw [List.length_append]
                          omega
                        have hfs : (H.ob i).fs.getD p 0 = fsd H i p := rfl
                        rw [hfs] at r3
                        clear b4 f1 r0 r2 rz rg hfs
                        go_wp2_with (at_builtin; refine Hid.out ?_)
                        refine Lib.hid ?_
                        refine wpList_append_q _ rfl (.tmp 89) (.tmp 102) _ rfl (w.heap.size + 1) i0 _ Tryd.underlying24 HI0.out HZ0.out HZ1.out HZ2.out rfl rfl (HQ4.out.sv ((Sv.refl (fun _ => False) w4).alloc _) (fun _ _ h => h)) ⟨w4.heap.size, 0, none⟩ 1 (fsd H i p) rfl (cell_new w4 #[.int .i64 (fsd H i p)] 3 0) HLL.out (by simp; omega) ?_
                        intro v6 w6 hq6 hb6
                        have hb0 : Below (w.heap.size + 1) w4 w6 := ((Below.refl _ w4).alloc (by omega) _).trans hb6
                        have HQ6 : Hid (QS w6 (w.heap.size + 1) v6 ([] ++ lnk H i (p + 1))) := by show QS _ _ _ _; rw [HLN.out, ← List.append_assoc]; exact hq6
                        have HF6 : Hid (Fl w6 w.heap.size N (fl.set j true)) := HF4.out.sv (P := fun i => w.heap.size + 1 ≤ i) ⟨hb0.os, hb0.tape, hb0.output, hb0.size, fun i _ hi => hb0.block i (by omega)⟩ (by omega)
                        have HB6 := Lib.hid (HB4.out.trans (hb0.mono (Nat.le_succ _)))
                        clear hq6 hb6 hb0 e1 r1 r3
                        go_wp2_with fail
                        go_roundw
                        case rel => exact ⟨p + 1, by omega, by go_num, HQ6, HF6, HB6⟩
                        case measure => simp [intOf]; omega
                    · obtain rfl : fm = p := by omega
                      have HLF : Hid (([] ++ lnk H i fm).length + 9 * (fl.set j true).count false + 1 ≤ 0 + 1 + 9 * fl.count false) := by
                        show _ ≤ _
                        have h1 := lnk_len H i fm
                        have h2 := HCT.out
                        rw [List.length_append]
                        simp only [List.length_nil]
                        skip
                        omega
                      obtain ⟨ao, cp, rfl, _⟩ := HQp.out.form
                      have HC9 : Hid (([] ++ lnk H i fm).length + 9 * (fl.set j true).count false ≤ q + 9 * N) := by
                        show _ ≤ _
                        have h1 := HLF.out
                        have h2 := HC.out
                        simp only [List.length_cons, List.length_nil] at h2
                        skip
                        omega
                      have hcnt := HFp.out.cnt
                      have HCNT := Lib.hid hcnt
                      clear hcnt
                      go_wp2_with fail
                      go_roundw
                      case rel => exact ⟨_, _, HMK, HQp, HFp, HBp, HC9⟩
                      case measure =>
                        rw [HME.out, HCNT.out]
                        have h1 := HLF.out
                        simp only [lenV]
                        omega
          · have hc2 : 1 < cap := by omega
            have hc3 : ¬ cap - 1 = 0 := by omega
            have HQN := Lib.hid (HQ1.out hc2)
            by_cases hx1 : x < 1
            · have HI2 := Lib.hid (HI.out.skip (.inl (by unfold hasO; rw [decide_eq_false (by omega)]; rfl)))
              go_wp2_with fail
              go_roundw
              case rel => exact ⟨fl, _, HI2, HQN, HFl, HBr, HCN⟩
              case measure => simp only [lenV]; omega
            · by_cases hx2 : (n : Int) < x
              · have HI2 := Lib.hid (HI.out.skip (.inl (by
                  have e : lenO (some H) = n := HLEN.out
                  unfold hasO; rw [decide_eq_false (show ¬ x ≤ (lenO (some H) : Int) by omega), Bool.and_false])))
                go_wp2_with fail
                go_roundw
                case rel => exact ⟨fl, _, HI2, HQN, HFl, HBr, HCN⟩
                case measure => simp only [lenV]; omega
              · obtain ⟨j, rfl⟩ : ∃ j : Nat, x = (j : Int) := ⟨x.toNat, by omega⟩
                obtain ⟨i, hij⟩ : ∃ i, j = i + 1 := ⟨j - 1, by omega⟩
                have HIJ := Lib.hid hij
                have hj3 : (j : Int) < (N : Int) := by have := HN2.out; omega
                have hj4 : (0 : Int) ≤ (j : Int) := by omega
                obtain ⟨b, hb⟩ : ∃ b, fl[j]? = some b := ⟨_, List.getElem?_eq_getElem (by have := HFl.out.1; have := HN2.out; omega)⟩
                have d2 := HFl.out.cell hb
                have HBB := Lib.hid hb
                clear hb hij
                cases b with
                | true =>
                  have HI2 := Lib.hid (HI.out.skip (.inr (fb_iff.2 ⟨by omega, by rw [Int.toNat_natCast]; exact HBB.out⟩)))
                  go_wp2_with fail
                  go_roundw
                  case rel => exact ⟨fl, _, HI2, HQN, HFl, HBr, HCN⟩
                  case measure => simp only [lenV]; omega
                | false =>
                  have hi : i < H.obs.length := by have := HLEN.out; have := HIJ.out; omega
                  have hi3 : (i : Int) < (n : Int) := by have := HLEN.out; omega
                  have hi4 : (0 : Int) ≤ (i : Int) := by omega
                  have hwj : IntKind.i64.wrap ((j : Int) - 1) = (i : Int) := by rw [show (j : Int) - 1 = i by have := HIJ.out; omega]; exact IntWalk.i64_in _ (by omega)
                  have hfz := HFl.out.2.frozenAt j
                  have HF1 := Lib.hid (HFl.out.set j)
                  have B2 := Lib.hid (HBr.out.setCell (p := ⟨w.heap.size, j, none⟩) (Nat.le_refl _) (.bool true))
                  have HQ2 : Hid (QS (wr.setCell ⟨w.heap.size, j, none⟩ (.bool true)) (w.heap.size + 1) (.slice (some ⟨g, off + 1, none⟩) lq (cap - 1)) ls) := HQN.out.sv (P := fun i => i = w.heap.size) ((Sv.refl (fun i => i = w.heap.size) wr).setCell (p := ⟨w.heap.size, j, none⟩) (.inl rfl) _) (fun g hg e => by omega)
                  have HCT := Lib.hid (hcount_set HBB.out)
                  obtain ⟨lg, kk, hlv, hkk, hlg⟩ := HU.out.lform' hi
                  injection hlv with hv1 hv2 hv3
                  subst hv1 hv3
                  obtain ⟨fg, r0, r1, r2, rz, rg⟩ := (HU.out.below B2.out).row hi
                  obtain ⟨sh, hsh⟩ : ∃ sh, (H.ob i).sh = sh := ⟨_, rfl⟩
                  have hw8 : H.wid i ≤ 8 := by
                    have h1 := HU.out.ok.wd
                    have hob : H.obs[i]? = some (H.ob i) := by rw [← HU.out.hz, List.getElem?_map, rz]; rfl
                    have h3 := HU.out.ok.sh _ (List.mem_of_getElem? hob)
                    unfold Hp.wid Hp.st
                    rw [List.getD_eq_getElem?_getD, List.getElem?_eq_getElem h3]
                    exact h1 _ (List.getElem_mem _)
                  have hshl : sh < H.ss.length := by
                    have hob : H.obs[i]? = some (H.ob i) := by rw [← HU.out.hz, List.getElem?_map, rz]; rfl
                    have := HU.out.ok.sh _ (List.mem_of_getElem? hob)
                    rw [hsh] at this
                    exact this
                  have HMK0 := HI.out
                  rw [show (j : Int) = (i : Int) + 1 by have := HIJ.out; omega] at HMK0
                  have HMK := Lib.hid (HMK0.mark hi hw8)
                  rw [← HIJ.out] at HMK
                  obtain ⟨st, hst⟩ : ∃ st, H.ss[sh]? = some st := ⟨_, List.getElem?_eq_getElem hshl⟩
                  have hSt : H.st i = st := by unfold Hp.st; rw [hsh, List.getD_eq_getElem?_getD, hst]; rfl
                  obtain ⟨sb, so, rfl, hsb, hsc⟩ := hR.out (by omega)
                  obtain ⟨FA, fc, x0', x1', x2, x3, x4⟩ := hsc sh st hst
                  have x1 := (B2.out.cell (p := ⟨sb, so + sh * 2 + 1, none⟩) hsb).trans x1'
                  have hsm : (sh : Int) < (m : Int) := by have := HU.out.hm; omega
                  have hs0 : (0 : Int) ≤ (sh : Int) := by omega
                  have hmm := HU.out.hm
                  have e0 := (HU.out.below B2.out).c0
                  have e1 := (HU.out.below B2.out).c1
                  obtain ⟨fm, hfm⟩ : ∃ fm, H.wid i = fm := ⟨_, rfl⟩
                  have hfm2 : st.fields.length = fm := by rw [← hfm, ← hSt]; rfl
                  rw [hsh] at r0
                  rw [hfm] at hw8 HMK
                  rw [hfm2] at x1
                  rw [HLEN.out] at e1
                  have HSH := Lib.hid hsh
                  have HST := Lib.hid hSt
                  have HFM := Lib.hid hfm
                  have HFM2 := Lib.hid hfm2
                  have HX4 := Lib.hid x4
                  have HI5 := Lib.hid hi
                  clear r1 r2 rz x2 x3 x4 x0' x1' hsc hsh hst hSt hfm hfm2 HMK0 hmm hkk hi hv2 HBB HI
                  go_wp2_with fail
                  go_quiet (fail)
                  have B3 := Lib.hid (below_drewN B2.out nq)
                  have HF3 : Hid (Fl ((wr.setCell ⟨w.heap.size, j, none⟩ (.bool true)).drewN nq) w.heap.size N (fl.set j true)) := HF1.out
                  have HQ3 : Hid (QS ((wr.setCell ⟨w.heap.size, j, none⟩ (.bool true)).drewN nq) (w.heap.size + 1) (.slice (some ⟨g, off + 1, none⟩) lq (cap - 1)) (ls ++ lnk H i 0)) := by
                    show QS _ _ _ (_ ++ [])
                    rw [List.append_nil]; exact HQ2.out
                  have HX5 := HX4
                  clear HF1 B2 HQ2 HX4 r0 e0 e1 x1 hfz
                  have hbz : w.heap.size + 1 ≤ ((wr.setCell ⟨w.heap.size, j, none⟩ (.bool true)).drewN nq).heap.size := by have := HF3.out.lt; omega
                  generalize (wr.setCell ⟨w.heap.size, j, none⟩ (.bool true)).drewN nq = wd at *
                  go_wp2_with fail
                  go_loopw [10, 6] (fun k v wr => LnkRel w w.heap.size N H i fm (fl.set j true) ls k v wr) (fun k _ _ => fm - (intOf k).toNat)
                  case atStart => exact ⟨0, Nat.zero_le _, rfl, HQ3, HF3, B3⟩
                  case round =>
                    obtain ⟨p, hp, rfl, HQp, HFp, HBp⟩ := hrel
                    have hzp := HFp.out.lt
                    by_cases hlt3 : p < fm
                    · obtain ⟨f, hf⟩ : ∃ f, st.fields[p]? = some f := ⟨_, List.getElem?_eq_getElem (by have := HFM2.out; omega)⟩
                      obtain ⟨fb, fo, rfl, hfb, hfc⟩ := HX5.out (by have := HFM2.out; omega)
                      have f1 := (HBp.out.cell (p := ⟨fb, fo + p * 2 + 1, none⟩) hfb).trans (hfc p f hf).2
                      have hlk : linkB (H.st i).fields p = (elemO f.typ).isSome := by unfold linkB; rw [HST.out, hf]
                      have hp3 : (p : Int) < (fm : Int) := by omega
                      have hp4 : (0 : Int) ≤ (p : Int) := by omega
                      clear hf hfc
                      obtain ⟨fn, ft⟩ := f
                      simp only at f1 hlk
                      cases hel : elemO ft with
                      | none =>
                        have HEL := Lib.hid hel
                        have HLN := Lib.hid (lnk_no (hlk.trans (by rw [hel]; rfl)))
                        clear hlk hel
                        go_wp2_with fail
                        refine (rE_no _ _ HEL).mono ?_
                        rintro e w4 ⟨rfl, b4⟩
                        have hq4 := HQp.out.below b4
                        rw [← HLN.out] at hq4
                        have HQ4 := Lib.hid hq4
                        clear hq4
                        have HF4 : Hid (Fl w4 w.heap.size N (fl.set j true)) := HFp.out.sv (Sv.of (P := fun _ => False) b4) id
                        have HB4 := Lib.hid (HBp.out.trans (b4.mono HBp.out.size))
                        clear b4 f1
                        go_wp2_with fail
                        go_roundw
                        case rel => exact ⟨p + 1, by omega, by go_num, HQ4, HF4, HB4⟩
                        case measure => simp [intOf]; omega
                      | some t =>
                        have HEL := Lib.hid hel
                        have HLN := Lib.hid (lnk_yes (hlk.trans (by rw [hel]; rfl)))
                        have hx1 := size_pos_isEmpty (el_pos hel)
                        clear hlk hel
                        go_wp2_with fail
                        refine (rE_yes _ t _ HEL).mono ?_
                        rintro e w4 ⟨rfl, b4⟩
                        have HQ4 := Lib.hid (HQp.out.below b4)
                        have HF4 : Hid (Fl w4 w.heap.size N (fl.set j true)) := HFp.out.sv (Sv.of (P := fun _ => False) b4) id
                        have HB4 := Lib.hid (HBp.out.trans (b4.mono HBp.out.size))
                        have e1 := (HU.out.below HB4.out).c1
                        rw [HLEN.out] at e1
                        obtain ⟨fg, r0, r1, r2, rz, rg⟩ := (HU.out.below HB4.out).row HI5.out
                        have r3 := r2 p (by have := HFM.out; omega)
                        rw [HFM.out] at r1
                        have hz4 := HF4.out.lt
                        have HLL : Hid ((ls ++ lnk H i p).length < 1099511627776) := by
                          show _ < _
                          have h1 := HCN.out
                          have h2 := lnk_len H i p
                          rw [List.length_append]
                          omega
                        have hfs : (H.ob i).fs.getD p 0 = fsd H i p := rfl
                        rw [hfs] at r3
                        clear b4 f1 r0 r2 rz rg hfs
                        go_wp2_with (at_builtin; refine Hid.out ?_)
                        refine Lib.hid ?_
                        refine wpList_append_q _ rfl (.tmp 89) (.tmp 102) _ rfl (w.heap.size + 1) i0 _ Tryd.underlying24 HI0.out HZ0.out HZ1.out HZ2.out rfl rfl (HQ4.out.sv ((Sv.refl (fun _ => False) w4).alloc _) (fun _ _ h => h)) ⟨w4.heap.size, 0, none⟩ 1 (fsd H i p) rfl (cell_new w4 #[.int .i64 (fsd H i p)] 3 0) HLL.out (by simp; omega) ?_
                        intro v6 w6 hq6 hb6
                        have hb0 : Below (w.heap.size + 1) w4 w6 := ((Below.refl _ w4).alloc (by omega) _).trans hb6
                        have HQ6 : Hid (QS w6 (w.heap.size + 1) v6 (ls ++ lnk H i (p + 1))) := by show QS _ _ _ _; rw [HLN.out, ← List.append_assoc]; exact hq6
                        have HF6 : Hid (Fl w6 w.heap.size N (fl.set j true)) := HF4.out.sv (P := fun i => w.heap.size + 1 ≤ i) ⟨hb0.os, hb0.tape, hb0.output, hb0.size, fun i _ hi => hb0.block i (by omega)⟩ (by omega)
                        have HB6 := Lib.hid (HB4.out.trans (hb0.mono (Nat.le_succ _)))
                        clear hq6 hb6 hb0 e1 r1 r3
                        go_wp2_with fail
                        go_roundw
                        case rel => exact ⟨p + 1, by omega, by go_num, HQ6, HF6, HB6⟩
                        case measure => simp [intOf]; omega
                    · obtain rfl : fm = p := by omega
                      have HLF : Hid ((ls ++ lnk H i fm).length + 9 * (fl.set j true).count false + 1 ≤ lq + 1 + 9 * fl.count false) := by
                        show _ ≤ _
                        have h1 := lnk_len H i fm
                        have h2 := HCT.out
                        rw [List.length_append]
                        have h9 := HLQ.out
                        omega
                      obtain ⟨ao, cp, rfl, _⟩ := HQp.out.form
                      have HC9 : Hid ((ls ++ lnk H i fm).length + 9 * (fl.set j true).count false ≤ q + 9 * N) := by
                        show _ ≤ _
                        have h1 := HLF.out
                        have h2 := HC.out
                        simp only [List.length_cons] at h2
                        have h9 := HLQ.out
                        omega
                      have hcnt := HFp.out.cnt
                      have HCNT := Lib.hid hcnt
                      clear hcnt
                      go_wp2_with fail
                      go_roundw
                      case rel => exact ⟨_, _, HMK, HQp, HFp, HBp, HC9⟩
                      case measure =>
                        rw [HME.out, HCNT.out]
                        have h1 := HLF.out
                        simp only [lenV]
                        omega

end Go.Proofs.YtjgmhkplgenieaaDoor
