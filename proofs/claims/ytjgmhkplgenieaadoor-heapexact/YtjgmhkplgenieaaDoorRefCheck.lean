/-
  CONTRACT: the reference's Check. Of what was there nothing has turned.
-/
import Derived.Test.YtjgmhkplgenieaaDoorCheck
import Derived.Test.YtjgmhkplgenieaaDoorRefElem
import Derived.Test.YtjgmhkplgenieaaDoorOkay
namespace Go.Proofs.YtjgmhkplgenieaaDoor
open Go.RowKit

theorem fnd_at {ss : List Str} {i : Nat} {s : Str} (hs : ss[i]? = some s) : ∃ j, j ≤ i ∧ fnd ss s.name = some j ∧ ((fnd (ss.take i) s.name).isSome = true ↔ j < i) := by
  have hl := (List.getElem?_eq_some_iff.1 hs).1
  cases hf : fnd ss s.name with
  | none =>
    have := fst_none hf i (Nat.zero_le _) hl
    rw [nameIs_at hs, eqB_iff.2 rfl] at this; cases this
  | some j =>
    obtain ⟨_, hj, h1, h2⟩ := fst_some hf
    have hji : j ≤ i := by
      rcases Nat.lt_or_ge i j with h | h
      · have := h2 i (Nat.zero_le _) h
        rw [nameIs_at hs, eqB_iff.2 rfl] at this; cases this
      · exact h
    refine ⟨j, hji, rfl, ?_⟩
    constructor
    · intro h
      obtain ⟨q, hq⟩ := Option.isSome_iff_exists.1 h
      obtain ⟨_, hql, hq1, _⟩ := fst_some hq
      rw [List.length_take] at hql
      rcases Nat.lt_or_ge q j with h3 | h3
      · have h4 := h2 q (Nat.zero_le _) h3
        unfold nameIs at h4 hq1
        rw [List.getElem?_take, if_pos (by omega), h4] at hq1
        cases hq1
      · omega
    · intro h
      cases hq : fnd (ss.take i) s.name with
      | some q => rfl
      | none =>
        have := fst_none hq j (Nat.zero_le _) (by rw [List.length_take]; omega)
        unfold nameIs at this h1
        rw [List.getElem?_take, if_pos h] at this
        rw [this] at h1; cases h1
theorem plc_self {fs : List Fld} {k : Nat} {f : Fld} (hf : fs[k]? = some f) (h : ∀ q, q < k → fldIs fs f.name q = false) : plc fs f.name = some k :=
  fst_of (Nat.zero_le _) (List.getElem?_eq_some_iff.1 hf).1 (by rw [fldIs_at hf]; exact eqB_iff.2 rfl) fun j _ hj => h j hj
theorem plc_not {fs : List Fld} {k q : Nat} {n : ByteArray} (hq : q < k) (h : fldIs fs n q = true) : plc fs n ≠ some k := fun e => by
  have := (fst_some e).2.2.2 q (Nat.zero_le _) hq
  rw [h] at this; cases this

def CkRel (w : World) (g : Nat → Nat) (m er : Nat) (i : Value) (wr : World) : Prop := ∃ k : Nat, k ≤ m ∧ i = .int .i64 k ∧ Hid ((fir g m k).2 = er) ∧ Below w.heap.size w wr
def MmRel (w : World) (fs : List Fld) (n : ByteArray) (k : Nat) (i : Value) (wr : World) : Prop := ∃ q : Nat, q ≤ k ∧ i = .int .i64 q ∧ Hid (∀ j, j < q → fldIs fs n j = false) ∧ Below w.heap.size w wr
theorem rI_any (A : Option Addr) (c m : Nat) (ss : List Str) (t : ByteArray) (b : Bool) (w : World) (hR : Hid (SR w A ss)) (hm : Hid (ss.length = m)) (hl : m ≤ 281474976710656) (hr : Hid (isT ss t = b)) :
    Calls Tryd.prog 27 #[.slice A m c, .string t] w fun e w' => e = .returned (.bool b) ∧ w = w' := refIs_any A c m ss t b w hR hm hl hr

set_option maxRecDepth 100000 in
set_option maxHeartbeats 800000 in
theorem refCheck_any (A : Option Addr) (c m : Nat) (ss : List Str) (p r : Nat) (w : World) (hR : SR w A ss) (hm : Hid (ss.length = m)) (hl : m ≤ 281474976710656) (hr : Hid (chk ss = (p, r))) :
    Calls Tryd.prog 9 #[.slice A m c] w fun e w' => e = .returned (.tuple #[.int .i64 p, .int .i64 r]) ∧ Below w.heap.size w w' := by
  have HR := Lib.hid hR
  clear hR
  by_cases h12 : 12 < m
  · have h12' : (12 : Int) < (m : Int) := by omega
    have hq : (0, 4) = (p, r) := by rw [← hr.out, chk, hm.out, if_pos h12]
    obtain ⟨rfl, rfl⟩ := Prod.mk.inj hq
    clear hq hr
    go_enter Tryd.func9, Tryd.ntmps9
    go_wp2_with fail
    go_ret2
    exact ⟨rfl, Below.refl _ _⟩
  · have h12' : ¬ (12 : Int) < (m : Int) := by omega
    have HQ : Hid (fir (chkS ss) m 0 = (p, r)) := by show _ = _; rw [← hr.out, chk, hm.out, if_neg h12]
    clear hr
    go_enter Tryd.func9, Tryd.ntmps9
    go_wp2_with fail
    go_loopw [4] (fun i wr => ChRel w (chkS ss) m p r i wr) (fun i _ => m - (intOf i).toNat)
    case atStart => exact ⟨0, Nat.zero_le _, rfl, HQ, Below.refl _ _⟩
    case round =>
      obtain ⟨i, hi, rfl, HK2, hb⟩ := hrel
      by_cases hlt : i < m
      · obtain ⟨lb, lo, hA, hlb, hlc⟩ := HR.out (by have := hm.out; omega)
        obtain ⟨s, hs⟩ : ∃ s, ss[i]? = some s := ⟨_, List.getElem?_eq_getElem (by have := hm.out; omega)⟩
        obtain ⟨FA, fc, C0, C1, -, hfl, hF⟩ := hlc i s hs
        obtain ⟨j, hji, hfj, hji2⟩ := fnd_at hs
        obtain ⟨er, her⟩ : ∃ er, chkS ss i = er := ⟨_, rfl⟩
        have hchs : er = if wordB s.name.data.toList = false then 1 else if (fnd (ss.take i) s.name).isSome then 6 else if 8 < s.fields.length then 4 else (fir (chkF ss s.fields) s.fields.length 0).2 := by rw [← her]; unfold chkS; rw [hs]
        have HER := Lib.hid her
        have c0 := (hb.cell (p := ⟨lb, lo + i * 2, none⟩) hlb).trans C0
        have c1 := (hb.cell (p := ⟨lb, lo + i * 2 + 1, none⟩) hlb).trans C1
        have HFR := Lib.hid hF
        have HFJ := Lib.hid hfj
        have HJI := Lib.hid hji2
        have HCS := Lib.hid hchs
        have HB := Lib.hid hb
        have hdone : Hid (er ≠ 0 → i = p ∧ er = r) := fun h => by
          have := HK2.out
          rw [fir_hit hlt (by rw [her]; exact h), her] at this
          exact ⟨(Prod.mk.inj this).1, (Prod.mk.inj this).2⟩
        have hnext : Hid (er = 0 → fir (chkS ss) m (i + 1) = (p, r)) := fun h => by
          rw [← fir_next hlt (her.trans h)]; exact HK2.out
        clear hlc hs C0 C1 hF hfj hji2 her hchs hb HK2
        obtain ⟨sn, fs⟩ := s
        simp only at c0 c1 hfl HFR HFJ HJI HCS
        obtain ⟨fm, hfm⟩ : ∃ fm, fs.length = fm := ⟨_, rfl⟩
        rw [hfm] at c1 hfl HCS
        have HFM := Lib.hid hfm
        have ba := (Below.refl wr.heap.size wr).alloc (Nat.le_refl _) (.cells #[.string sn, .slice FA fm fc] 52)
        have BA := Lib.hid ba
        clear hfm ba
        subst hA
        cases h1 : wordB sn.data.toList with
        | false =>
          obtain rfl : er = 1 := by rw [HCS.out, if_pos h1]
          obtain ⟨rfl, rfl⟩ := hdone.out (by decide)
          have H1 := Lib.hid h1
          clear h1 HCS
          go_wp2_with fail
          refine (refWord_to _ false _ H1).mono ?_
          rintro e w2 ⟨rfl, b2⟩
          have D2 := below_on (below_on HB.out BA.out) b2
          go_wp2_with fail
          go_ret2
          exact ⟨rfl, D2⟩
        | true =>
          have H1 := Lib.hid h1
          have hcs2 := HCS.out
          rw [if_neg (by rw [h1]; decide)] at hcs2
          have HCS2 := Lib.hid hcs2
          clear h1 HCS hcs2
          go_wp2_with fail
          refine (refWord_to _ true _ H1).mono ?_
          rintro e w2 ⟨rfl, b2⟩
          have D2 := Lib.hid (below_on (below_on HB.out BA.out) b2)
          have R2 := Lib.hid (HR.out.below D2.out (Nat.le_refl _))
          have E0 := Lib.hid ((b2.cell (p := ⟨wr.heap.size, 0, none⟩) (by simp)).trans (cell_new wr _ 52 0))
          have E1 := Lib.hid ((b2.cell (p := ⟨wr.heap.size, 1, none⟩) (by simp)).trans (cell_new wr _ 52 1))
          have hz2 : wr.heap.size < w2.heap.size := by have := b2.size; simp at this; omega
          have e0 : w2.cell? ⟨wr.heap.size, 0, none⟩ = some (.string sn) := E0.out
          have e1 : w2.cell? ⟨wr.heap.size, 1, none⟩ = some (.slice FA fm fc) := E1.out
          clear b2 c0 c1 HB BA
          go_wp2_with fail
          refine (refFind_any _ _ m ss _ (some j) _ R2.out hm hl HFJ).mono ?_
          rintro e w' ⟨rfl, rfl⟩
          unfold foundI
          by_cases hlt2 : j < i
          · have hlt2' : (j : Int) < (i : Int) := by omega
            obtain rfl : er = 6 := by rw [HCS2.out, if_pos (HJI.out.2 hlt2)]
            obtain ⟨rfl, rfl⟩ := hdone.out (by decide)
            go_wp2_with fail
            go_ret2
            exact ⟨rfl, D2.out⟩
          · have hlt2' : ¬ (j : Int) < (i : Int) := by omega
            have hcs3 := HCS2.out
            rw [if_neg (fun h => hlt2 (HJI.out.1 h))] at hcs3
            have HCS3 := Lib.hid hcs3
            clear HCS2 hcs3
            by_cases h8 : 8 < fm
            · have h8' : (8 : Int) < (fm : Int) := by omega
              obtain rfl : er = 4 := by rw [HCS3.out, if_pos h8]
              obtain ⟨rfl, rfl⟩ := hdone.out (by decide)
              go_wp2_with fail
              go_ret2
              exact ⟨rfl, D2.out⟩
            · have h8' : ¬ (8 : Int) < (fm : Int) := by omega
              have HQ2 : Hid ((fir (chkF ss fs) fm 0).2 = er) := by show _ = _; rw [HCS3.out, if_neg h8]
              clear HCS3
              go_wp2_with fail
              clear e0 e1
              generalize wr.heap.size = gv at E0 E1 hz2 ⊢
              go_loopw [6] (fun kv wk => CkRel w2 (chkF ss fs) fm er kv wk) (fun kv _ => fm - (intOf kv).toNat)
              case atStart => exact ⟨0, Nat.zero_le _, rfl, HQ2, Below.refl _ _⟩
              case round =>
                obtain ⟨k, hk, rfl, HK3, hbk⟩ := hrel
                have D3 := Lib.hid (below_on D2.out hbk)
                have e1 : wr.cell? ⟨gv, 1, none⟩ = some (.slice FA fm fc) := (hbk.cell (p := ⟨gv, 1, none⟩) hz2).trans E1.out
                have HBK := Lib.hid hbk
                clear hbk
                by_cases hltk : k < fm
                · obtain ⟨fb, fo, hFA, hfb, hfcell⟩ := (HFR.out.below D3.out (Nat.le_refl _)) (by have := HFM.out; omega)
                  obtain ⟨f, hf⟩ : ∃ f, fs[k]? = some f := ⟨_, List.getElem?_eq_getElem (by have := HFM.out; omega)⟩
                  obtain ⟨f0, f1⟩ := hfcell k f hf
                  obtain ⟨ef, hef⟩ : ∃ ef, chkF ss fs k = ef := ⟨_, rfl⟩
                  have hchf : ef = if wordB f.name.data.toList = false then 1 else if plc fs f.name = some k then (if isT ss f.typ then 0 else 7) else 6 := by rw [← hef]; unfold chkF; rw [hf]
                  have hfd : Hid (ef ≠ 0 → er = ef) := fun h => by
                    have := HK3.out
                    rw [fir_hit hltk (by rw [hef]; exact h), hef] at this
                    exact this.symm
                  have hfn : Hid (ef = 0 → (fir (chkF ss fs) fm (k + 1)).2 = er) := fun h => by
                    rw [← fir_next hltk (hef.trans h)]; exact HK3.out
                  have HF := Lib.hid hf
                  have HCF := Lib.hid hchf
                  rw [hFA] at e1
                  clear hf hef hchf hfcell HK3 hFA
                  obtain ⟨fn, ft⟩ := f
                  simp only at f0 f1 HCF
                  cases h1 : wordB fn.data.toList with
                  | false =>
                    obtain rfl : ef = 1 := by rw [HCF.out, if_pos h1]
                    obtain rfl := hfd.out (by decide)
                    obtain ⟨rfl, rfl⟩ := hdone.out (by decide)
                    have H1 := Lib.hid h1
                    clear h1
                    go_wp2_with fail
                    refine (refWord_to _ false _ H1).mono ?_
                    rintro e w4 ⟨rfl, b4⟩
                    have D4 := below_on D3.out b4
                    go_wp2_with fail
                    go_ret2
                    exact ⟨rfl, D4⟩
                  | true =>
                    have H1 := Lib.hid h1
                    have hcf2 := HCF.out
                    rw [if_neg (by rw [h1]; decide)] at hcf2
                    have HCF2 := Lib.hid hcf2
                    clear h1 HCF hcf2
                    go_wp2_with fail
                    refine (refWord_to _ true _ H1).mono ?_
                    rintro e w4 ⟨rfl, b4⟩
                    have D4 := Lib.hid (below_on D3.out b4)
                    have B4 := Lib.hid (below_on HBK.out b4)
                    clear b4 e1 f0 f1 D3 HBK
                    have HM0 : Hid (∀ j, j < 0 → fldIs fs fn j = false) := fun j h => absurd h (Nat.not_lt_zero _)
                    go_wp2_with fail
                    go_loopw [7] (fun mv wm => MmRel w4 fs fn k mv wm) (fun mv _ => k - (intOf mv).toNat)
                    case atStart => exact ⟨0, Nat.zero_le _, rfl, HM0, Below.refl _ _⟩
                    case round =>
                      obtain ⟨q, hq, rfl, HMQ, hbm⟩ := hrel
                      have D5 := Lib.hid (below_on D4.out hbm)
                      have B5 := Lib.hid (below_on B4.out hbm)
                      have e1 : wr.cell? ⟨gv, 1, none⟩ = some (.slice FA fm fc) := (B5.out.cell (p := ⟨gv, 1, none⟩) hz2).trans E1.out
                      obtain ⟨fb, fo, hFA, hfb, hfcell⟩ := (HFR.out.below D5.out (Nat.le_refl _)) (by have := HFM.out; omega)
                      obtain ⟨f0, f1⟩ := hfcell k _ HF.out
                      simp only at f0 f1
                      rw [hFA] at e1
                      have HBM := Lib.hid hbm
                      clear hbm hFA
                      by_cases hltq : q < k
                      · obtain ⟨f', hf'⟩ : ∃ f, fs[q]? = some f := ⟨_, List.getElem?_eq_getElem (by have := HFM.out; omega)⟩
                        obtain ⟨i0, -⟩ := hfcell q f' hf'
                        have hni := fldIs_at (n := fn) hf'
                        have p1 : (0 : Int) ≤ (q : Int) := by omega
                        have p2 : (q : Int) < (fm : Int) := by omega
                        have p3 : (0 : Int) ≤ (k : Int) := by omega
                        have p4 : (k : Int) < (fm : Int) := by omega
                        clear hf' hfcell
                        obtain ⟨fn', ft'⟩ := f'
                        simp only at i0 hni
                        cases he : eqB fn' fn with
                        | true =>
                          obtain rfl : ef = 6 := by rw [HCF2.out, if_neg (plc_not hltq (hni.trans he))]
                          obtain rfl := hfd.out (by decide)
                          obtain ⟨rfl, rfl⟩ := hdone.out (by decide)
                          obtain rfl := eqB_iff.1 he
                          clear hni he
                          go_wp2_with fail
                          go_quiet (fail)
                          have D6 := below_drewN D5.out nq
                          go_wp2_with fail
                          go_ret2
                          exact ⟨rfl, D6⟩
                        | false =>
                          have hsp := eqB_spell he
                          have HN : Hid (∀ j, j < q + 1 → fldIs fs fn j = false) := fun j hj => by
                            rcases Nat.lt_or_ge j q with h | h
                            · exact HMQ.out j h
                            · obtain rfl : j = q := by omega
                              exact hni.trans he
                          clear hni he
                          go_wp2_with fail
                          go_quiet (fail)
                          have B6 := Lib.hid (below_drewN HBM.out nq)
                          clear e1 f0 f1 i0
                          go_wp2_with fail
                          refine ⟨⟨q + 1, by omega, by go_num, HN, B6.out⟩, ?_⟩
                          simp [intOf] <;> omega
                      · obtain rfl : q = k := by omega
                        have hpl := plc_self HF.out (fun j hj => HMQ.out j hj)
                        have hcf3 := HCF2.out
                        simp only at hpl
                        rw [if_pos hpl] at hcf3
                        have HCF3 := Lib.hid hcf3
                        have R5 := Lib.hid (HR.out.below D5.out (Nat.le_refl _))
                        clear hcf3 hpl HCF2 hfcell
                        cases h3 : isT ss ft with
                        | true =>
                          have H3 := Lib.hid h3
                          obtain rfl : ef = 0 := by rw [HCF3.out, h3]; rfl
                          have HN := Lib.hid (hfn.out rfl)
                          clear h3
                          go_wp2_with fail
                          refine (rI_any _ _ m ss _ true _ R5 hm hl H3).mono ?_
                          rintro e w' ⟨rfl, rfl⟩
                          clear e1 f0 f1
                          go_wp2_with fail
                          go_roundw
                          case rel => exact ⟨q + 1, by omega, by go_num, HN, B5.out⟩
                          case measure => simp [intOf] <;> omega
                        | false =>
                          have H3 := Lib.hid h3
                          obtain rfl : ef = 7 := by rw [HCF3.out, h3]; rfl
                          obtain rfl := hfd.out (by decide)
                          obtain ⟨rfl, rfl⟩ := hdone.out (by decide)
                          clear h3
                          go_wp2_with fail
                          refine (rI_any _ _ m ss _ false _ R5 hm hl H3).mono ?_
                          rintro e w' ⟨rfl, rfl⟩
                          go_wp2_with fail
                          go_ret2
                          exact ⟨rfl, D5.out⟩
                · obtain rfl : er = 0 := by rw [← HK3.out, fir_end (by omega)]
                  have HN := Lib.hid (hnext.out rfl)
                  go_wp2_with fail
                  go_roundw
                  case rel => exact ⟨i + 1, by omega, by go_num, HN, D3.out⟩
                  case measure => simp [intOf] <;> omega
      · have hre : (0, 0) = (p, r) := by rw [← HK2.out, fir_end (by omega)]
        obtain ⟨rfl, rfl⟩ := Prod.mk.inj hre
        clear hre
        go_wp2_with fail
        go_ret2
        exact ⟨rfl, hb⟩

end Go.Proofs.YtjgmhkplgenieaaDoor
