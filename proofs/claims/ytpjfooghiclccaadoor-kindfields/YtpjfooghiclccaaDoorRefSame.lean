/-
  CONTRACT: the reference's Same. Of what was there nothing has turned.
-/
import Derived.Test.YtpjfooghiclccaaDoorSame
namespace Go.Proofs.YtpjfooghiclccaaDoor
open Go.RowKit

def TRel {α : Type} (w : World) (l l' : List α) (m : Nat) (i : Value) (wr : World) : Prop := ∃ k : Nat, k ≤ m ∧ i = .int .i64 k ∧ Hid (l.take k = l'.take k) ∧ Below w.heap.size w wr
theorem no_of {α : Type} {l l' : List α} {b : Bool} (h : b = true ↔ l = l') (hn : l ≠ l') : b = false := by
  cases b with
  | false => rfl
  | true => exact absurd (h.1 rfl) hn

set_option maxHeartbeats 800000 in
theorem refSame_any (A A' : Option Addr) (c c' m m' : Nat) (ss ss' : List Str) (b : Bool) (w : World) (hR : SR w A ss) (hR' : SR w A' ss') (hm : Hid (ss.length = m)) (hm' : Hid (ss'.length = m')) (hl : m ≤ 281474976710656)
    (hr : Hid (b = true ↔ ss = ss')) : Calls Tryd.prog 23 #[.slice A m c, .slice A' m' c'] w fun e w' => e = .returned (.bool b) ∧ Below w.heap.size w w' := by
  have HR := Lib.hid hR
  have HR' := Lib.hid hR'
  clear hR hR'
  by_cases he : m = m'
  · subst he
    go_enter Tryd.func23, Tryd.ntmps23
    go_wp2_with fail
    go_loopw [5] (fun i wr => TRel w ss ss' m i wr) (fun i _ => m - (intOf i).toNat)
    case atStart => exact ⟨0, Nat.zero_le _, rfl, rfl, Below.refl _ _⟩
    case round =>
      obtain ⟨k, hk, rfl, HK, hb⟩ := hrel
      by_cases hlt : k < m
      · obtain ⟨g, o, hA, hg, hcs⟩ := HR.out (by have := hm.out; omega)
        obtain ⟨g', o', hA', hg', hcs'⟩ := HR'.out (by have := hm'.out; omega)
        obtain ⟨f, hf⟩ : ∃ f, ss[k]? = some f := ⟨_, List.getElem?_eq_getElem (by have := hm.out; omega)⟩
        obtain ⟨f', hf'⟩ : ∃ f, ss'[k]? = some f := ⟨_, List.getElem?_eq_getElem (by have := hm'.out; omega)⟩
        obtain ⟨FA, fc, C0, C1, h1, h2, hF⟩ := hcs k f hf
        obtain ⟨FA', fc', E0, E1, h1', h2', hF'⟩ := hcs' k f' hf'
        have HC1 := Lib.hid C1
        have HE1 := Lib.hid E1
        have HFR := Lib.hid hF
        have HFR' := Lib.hid hF'
        have c0 := (hb.cell (p := ⟨g, o + k * 2, none⟩) hg).trans C0
        have d0 := (hb.cell (p := ⟨g', o' + k * 2, none⟩) hg').trans E0
        have HF := Lib.hid hf
        have HF' := Lib.hid hf'
        clear hcs hcs' hf hf' C0 C1 E0 E1 hF hF'
        obtain ⟨sn, fs⟩ := f
        obtain ⟨sn', fs'⟩ := f'
        simp only at c0 d0 h1 h1' h2 h2' HFR HFR' HC1 HE1
        obtain ⟨fm, hfm⟩ : ∃ fm, fs.length = fm := ⟨_, rfl⟩
        obtain ⟨fm', hfm'⟩ : ∃ fm, fs'.length = fm := ⟨_, rfl⟩
        rw [hfm] at HC1 h1 h2
        rw [hfm'] at HE1 h1' h2'
        have HFM := Lib.hid hfm
        have HFM' := Lib.hid hfm'
        have c1 := (hb.cell (p := ⟨g, o + k * 2 + 1, none⟩) hg).trans HC1.out
        have d1 := (hb.cell (p := ⟨g', o' + k * 2 + 1, none⟩) hg').trans HE1.out
        have p1 : (0 : Int) ≤ (k : Int) := by omega
        have p2 : (k : Int) < (m : Int) := by omega
        have HB := Lib.hid hb
        subst hA
        subst hA'
        clear hfm hfm' hb
        cases hq1 : eqB sn sn' with
        | false =>
          have s1 := eqB_spell hq1
          obtain rfl : b = false := no_of hr.out (ne_at HF.out HF'.out (fun e => by injection e with e1 e2; rw [e1, eqB_iff.2 rfl] at hq1; cases hq1))
          clear hq1
          go_wp2_with fail
          go_quiet (fail)
          have HB' := below_drewN HB.out nq
          go_wp2_with fail
          go_ret
          exact ⟨rfl, HB'⟩
        | true =>
          obtain rfl := eqB_iff.1 hq1
          clear hq1
          by_cases hq2 : fm = fm'
          · subst hq2
            go_wp2_with fail
            go_quiet (fail)
            have HB' := Lib.hid (below_drewN HB.out nq)
            clear c0 c1 d0 d1 HB
            go_wp2_with fail
            go_loopw [6] (fun i wr => TRel w fs fs' fm i wr) (fun i _ => fm - (intOf i).toNat)
            case atStart => exact ⟨0, Nat.zero_le _, rfl, rfl, HB'.out⟩
            case round =>
              obtain ⟨q, hq, rfl, HQ, hb⟩ := hrel
              have c1 := (hb.cell (p := ⟨g, o + k * 2 + 1, none⟩) hg).trans HC1.out
              have d1 := (hb.cell (p := ⟨g', o' + k * 2 + 1, none⟩) hg').trans HE1.out
              by_cases hlt2 : q < fm
              · obtain ⟨gf, of, hFA, hgf, hfc1⟩ := (HFR.out.below hb (Nat.le_refl _)) (by have := HFM.out; omega)
                obtain ⟨gf', of', hFA', hgf', hfc2⟩ := (HFR'.out.below hb (Nat.le_refl _)) (by have := HFM'.out; omega)
                obtain ⟨f, hf⟩ : ∃ f, fs[q]? = some f := ⟨_, List.getElem?_eq_getElem (by have := HFM.out; omega)⟩
                obtain ⟨f', hf'⟩ : ∃ f, fs'[q]? = some f := ⟨_, List.getElem?_eq_getElem (by have := HFM'.out; omega)⟩
                obtain ⟨e0, e1⟩ := hfc1 q f hf
                obtain ⟨i0, i1⟩ := hfc2 q f' hf'
                have HFQ := Lib.hid hf
                have HFQ' := Lib.hid hf'
                have HBQ := Lib.hid hb
                have p3 : (0 : Int) ≤ (q : Int) := by omega
                have p4 : (q : Int) < (fm : Int) := by omega
                rw [hFA] at c1
                rw [hFA'] at d1
                clear hf hf' hfc1 hfc2 hb hFA hFA'
                obtain ⟨fn, ft⟩ := f
                obtain ⟨fn', ft'⟩ := f'
                simp only at e0 e1 i0 i1
                cases hz1 : eqB fn fn' with
                | false =>
                  have s1 := eqB_spell hz1
                  have hnf : fs ≠ fs' := ne_at HFQ.out HFQ'.out (fun e => by injection e with e1 e2; rw [e1, eqB_iff.2 rfl] at hz1; cases hz1)
                  obtain rfl : b = false := no_of hr.out (ne_at HF.out HF'.out (fun e => by injection e with e1 e2; exact hnf e2))
                  clear hz1 hnf
                  go_wp2_with fail
                  go_quiet (fail)
                  have HBQ' := below_drewN HBQ.out nq
                  go_wp2_with fail
                  go_ret
                  exact ⟨rfl, HBQ'⟩
                | true =>
                  obtain rfl := eqB_iff.1 hz1
                  clear hz1
                  cases hz2 : eqB ft ft' with
                  | false =>
                    have s1 := eqB_spell hz2
                    have hnf : fs ≠ fs' := ne_at HFQ.out HFQ'.out (fun e => by injection e with e1 e2; rw [e2, eqB_iff.2 rfl] at hz2; cases hz2)
                    obtain rfl : b = false := no_of hr.out (ne_at HF.out HF'.out (fun e => by injection e with e1 e2; exact hnf e2))
                    clear hz2 hnf
                    go_wp2_with fail
                    go_quiet (fail)
                    have HBQ' := below_drewN HBQ.out nq
                    go_wp2_with fail
                    go_ret
                    exact ⟨rfl, HBQ'⟩
                  | true =>
                    obtain rfl := eqB_iff.1 hz2
                    have HN := Lib.hid (take_eq_succ HQ.out HFQ.out HFQ'.out)
                    clear hz2
                    go_wp2_with fail
                    go_quiet (fail)
                    have HBQ' := Lib.hid (below_drewN HBQ.out nq)
                    clear c1 d1 e0 e1 i0 i1 HBQ
                    go_wp2_with fail
                    refine ⟨⟨q + 1, by omega, by go_num, HN, HBQ'.out⟩, ?_⟩
                    simp [intOf]; omega
              · have hfe : fs = fs' := by
                  have := HQ.out
                  rwa [List.take_of_length_le (by have := HFM.out; omega), List.take_of_length_le (by have := HFM'.out; omega)] at this
                subst hfe
                have HN := Lib.hid (take_eq_succ HK.out HF.out HF'.out)
                go_wp2_with fail
                go_roundw
                case rel => exact ⟨k + 1, by omega, by go_num, HN, hb⟩
                case measure => simp [intOf]; omega
          · have n1 : ((fm : Int) != (fm' : Int)) = true := by simp; omega
            have n2 : (fm != fm') = true := by simp; exact hq2
            obtain rfl : b = false := no_of hr.out (ne_at HF.out HF'.out (fun e => by injection e with e1 e2; have h1 := HFM.out; have h2 := HFM'.out; rw [e2] at h1; omega))
            clear hq2
            go_wp2_with fail
            go_quiet (fail)
            have HB' := below_drewN HB.out nq
            go_wp2_with fail
            go_ret
            exact ⟨rfl, HB'⟩
      · obtain rfl : b = true := hr.out.2 (by
          have := HK.out
          rwa [List.take_of_length_le (by have := hm.out; omega), List.take_of_length_le (by have := hm'.out; omega)] at this)
        go_wp2_with fail
        go_ret
        exact ⟨rfl, hb⟩
  · have n1 : ((m : Int) != (m' : Int)) = true := by simp; omega
    have n2 : (m != m') = true := by simp; exact he
    obtain rfl : b = false := no_of hr.out (fun e => he (by have h1 := hm.out; have h2 := hm'.out; rw [e] at h1; omega))
    clear he
    go_enter Tryd.func23, Tryd.ntmps23
    go_wp2_with fail
    go_ret
    exact ⟨rfl, Below.refl _ _⟩

end Go.Proofs.YtpjfooghiclccaaDoor
