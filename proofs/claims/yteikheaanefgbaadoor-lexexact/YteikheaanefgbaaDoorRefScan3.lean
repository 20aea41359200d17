/-
  One round of the reference's Scan, where a number stands. Of what was there nothing has turned.
-/
import Derived.Test.YteikheaanefgbaaDoorRefScan1
namespace Go.Proofs.YteikheaanefgbaaDoor
open Go.RowKit

set_option maxRecDepth 100000 in
set_option maxHeartbeats 4000000 in
theorem round_num (s : ByteArray) (r : R) (w wr : World) (f : Nat → Value) (v : Value) (p : Nat) (ts : List Tok) (hs : s.size ≤ 4096) (hts : ts.length ≤ p) (HRR : Hid (r = (sc s.data.toList p).pre ts)) (HOWN : Hid (wr.ownsRow w.heap.size 33 3 v ts.length (cellsT ts))) (hb : Below w.heap.size w wr) (hlt : p < s.size) (hbk : ¬ blkB s[p] = true) (hcm : ¬ comAt s.data.toList p = true) (hle : letB s[p] = false) (hdi : digB s[p] = true) : Round s w r f v p wr := by
  intro Q0 hret
  have HRET := Lib.hid hret
  clear hret
  conv => arg 2; whnf
  unfold frm
  have hbf : blkB s[p] = false := by simpa using hbk
  have hnb : ¬ (s[p].toNat = 32 ∨ s[p].toNat = 9 ∨ s[p].toNat = 10 ∨ s[p].toNat = 13) := fun h => hbk ((blk_iff _).2 h)
  have n1 : ((s[p].toNat : Int) == 32) = false := beq_eq_false_iff_ne.2 (by omega)
  have n2 : ((s[p].toNat : Int) == 9) = false := beq_eq_false_iff_ne.2 (by omega)
  have n3 : ((s[p].toNat : Int) == 10) = false := beq_eq_false_iff_ne.2 (by omega)
  have n4 : ((s[p].toNat : Int) == 13) = false := beq_eq_false_iff_ne.2 (by omega)
  have HBF := Lib.hid hbf
  clear hbk hnb hbf
  obtain ⟨i0, hi0, hz0, hz1, hz2⟩ := info_parts rtok_info
  have HI0 := Lib.hid hi0
  have HZ0 := Lib.hid hz0
  have HZ1 := Lib.hid hz1
  have HZ2 := Lib.hid hz2
  clear hi0 hz0 hz1 hz2
  have hcf : comAt s.data.toList p = false := by simpa using hcm
  have HCF := Lib.hid hcf
  clear hcm
  have HLE := Lib.hid hle
  have HDI := Lib.hid hdi
  have c0 : ((s[p].toNat : Int) == 47) = false := by
    rw [beq_eq_false_iff_ne]; intro e
    have h47 : s[p].toNat = 47 := by omega
    unfold digB at hdi
    rw [h47] at hdi
    exact absurd hdi (by decide)
  have htk := tokAt_dig hlt hle hdi
  obtain ⟨q, hq⟩ : ∃ q, endAt digB s.data.toList p = q := ⟨_, rfl⟩
  have h1 : p + 1 ≤ q := by rw [← hq, endS_step hlt hdi]; exact le_endAt _ _ _
  have h2 : q ≤ s.size := by rw [← hq, ← len_size]; exact endAt_le (by rw [len_size]; omega)
  obtain ⟨hwa, hall⟩ := num_at s.data.toList p q hq
  rw [← htk] at hwa
  obtain ⟨m, rfl⟩ : ∃ m, q = p + m := ⟨q - p, by omega⟩
  rw [show p + m - p = m by omega] at hwa hall
  have hx := cut_extract s p (p + m)
  rw [show p + m - p = m by omega] at hx
  have hsl := slice_run s p (p + m) (by omega) h2
  have hxs : (s.extract p (p + m)).size = m := by rw [← len_size, hx, List.length_take, List.length_drop, len_size]; omega
  obtain ⟨x, hX⟩ : ∃ x, s.extract p (p + m) = x := ⟨_, rfl⟩
  rw [hX] at hx hsl hxs
  rw [← hx] at hwa hall
  have hxt : x = ⟨((s.data.toList.drop p).take m).toArray⟩ := (str_eq hx.symm).symm
  have hpm : ((p + m : Nat) : Int) = (p : Int) + (m : Int) := by omega
  rw [hpm] at hsl
  have hx5 : x.size ≤ 5000 := by omega
  have hsp := spec_par x (by omega) hall
  obtain ⟨sp, hspe⟩ : ∃ sp, specP x = sp := ⟨_, rfl⟩
  rw [hspe] at hsp
  have hpar := par_le x.data.toList
  obtain ⟨pe, hpe⟩ : ∃ pe, parE x.data.toList = pe := ⟨_, rfl⟩
  rw [hpe] at hsp hpar hwa
  obtain ⟨p1, p2⟩ := sp
  have hsp : p2 = (pe : Int) := hsp
  subst hsp
  have HSP := Lib.hid hspe
  have HXT := Lib.hid hxt
  have HQ := Lib.hid hq
  have HWA0 := Lib.hid hwa
  clear hle hdi htk hq hwa hx hX hxt hpm hcf hall hspe hpe hxs
  go_wp2_with (first | (go_at_call 19; refine (letter_to _ false _ HLE).mono ?_; rintro e w' ⟨rfl, rfl⟩) | (go_at_call 20; refine (digit_to _ true _ HDI).mono ?_; rintro e w' ⟨rfl, rfl⟩))
  go_loop [8] (fun i => ∃ k : Nat, p ≤ k ∧ k ≤ s.size ∧ i = .int .i64 k ∧ Hid (endAt digB s.data.toList k = p + m)) (fun i => s.size - (intOf i).toNat)
  case atStart => exact ⟨p, Nat.le_refl _, by omega, rfl, HQ⟩
  case round =>
    obtain ⟨k, hk0, hk, rfl, HK⟩ := hrel
    by_cases hltk : k < s.size
    · cases hd1 : digB s[k] with
      | true =>
        have HD1 := Lib.hid hd1
        clear hd1
        go_wp2_with (go_at_call 20; refine (digit_to _ true _ HD1).mono ?_; rintro e w' ⟨rfl, rfl⟩)
        go_round
        case rel => exact ⟨k + 1, by omega, by omega, by go_num, (endS_step hltk HD1.out).symm.trans HK.out⟩
        case measure => simp [intOf]; omega
      | false =>
        have HD1 := Lib.hid hd1
        have hkq : k = p + m := by rw [← HK.out, endS_stop hltk hd1]
        subst hkq
        have ha := after_drop s (p + m) hltk
        cases hl1 : letB s[p + m] with
        | true =>
          have HL1 := Lib.hid hl1
          have HWA : Hid (tokAt s.data.toList p = ⟨1, 0, 0⟩) := by
            show _ = _
            rw [HWA0.out, ha, hl1]; rfl
          clear hl1 hd1 HK ha
          have HR2 : Hid (R.bad p 1 = r) := by
            have hw2 := HWA.out
            show _ = _
            rw [HRR.out, scS_bad hlt HBF.out HCF.out (by rw [hw2]; decide), hw2]; rfl
          have hr2 := HR2.out
          subst hr2
          go_wp2_with (first | (go_at_call 20; refine (digit_to _ false _ HD1).mono ?_; rintro e w' ⟨rfl, rfl⟩) | (go_at_call 19; refine (letter_to _ true _ HL1).mono ?_; rintro e w' ⟨rfl, rfl⟩))
          refine HRET.out _ _ ?_
          exact bodyPost_ret (v := .tuple #[.slice none 0 0, .int .i64 p, .int .i64 1]) (by simp [results, Tryd.results9, go_sem]) rfl ⟨hb, rfl⟩
        | false =>
          have HL1 := Lib.hid hl1
          have HWA : Hid (tokAt s.data.toList p = if pe = 0 then ⟨0, 3, m⟩ else ⟨pe, 0, 0⟩) := by
            show _ = _
            rw [HWA0.out, ha, hl1]; rfl
          clear hl1 hd1 HK ha
          go_wp2_with (first | (go_at_call 20; refine (digit_to _ false _ HD1).mono ?_; rintro e w' ⟨rfl, rfl⟩) | (go_at_call 19; refine (letter_to _ false _ HL1).mono ?_; rintro e w' ⟨rfl, rfl⟩))
          refine (refParse_to x (p1, (pe : Int)) _ hx5 HSP).mono ?_
          rintro e w' ⟨rfl, rfl⟩
          rcases hpar with rfl | rfl | rfl
          · have HR2 : Hid (r = (sc s.data.toList (p + m)).pre (ts ++ [Tok.mk 3 ((s.data.toList.drop p).take m) p])) := by
              have hw2 := HWA.out
              rw [if_pos rfl] at hw2
              have h4 := scS_tok hlt HBF.out HCF.out (by rw [hw2])
              rw [hw2] at h4
              show _ = _
              rw [HRR.out, h4, R.pre_pre]
            go_wp2_with (at_builtin; refine Hid.out ?_)
            refine Lib.hid ?_
            refine wpList_append_lies _ rfl (.tmp 144) (.tmp 152) _ rfl w.heap.size 33 i0 _ 3 32 Tryd.underlying27 HI0.out HZ0.out HZ1.out HZ2.out rfl (by omega) v ts.length (cellsT ts) rfl (by exact World.ownsRow.alloc HOWN.out _) ⟨wr.heap.size, 0, none⟩ 1 1 [.int .i64 3, .string x, .int .i64 p] rfl rfl (by exact news0 wr 33 _ _ _) (by simp [Value.oneCell']) (by omega) (by simp only [maxLen]; omega) (by omega) (by simp; have := hb.size; omega) (wr.heap.size + 1) (by simp) ?_
            intro g cap w2 hown2 hg2 hat2 hlt2
            have hb3 : Below w.heap.size w w2 := (hb.alloc hb.size _).grown hg2 (by simp; have := hb.size; omega) (fun k hk => (HOWN.out.lt k hk).1)
            rw [HXT.out] at hown2
            have hown3 : w2.ownsRow w.heap.size 33 3 (.slice (some ⟨g, 0, none⟩) (ts.length + 1) cap) (ts ++ [Tok.mk 3 ((s.data.toList.drop p).take m) p]).length (cellsT (ts ++ [Tok.mk 3 ((s.data.toList.drop p).take m) p])) := by
              rw [cellsT_snoc, List.length_append]; exact hown2
            have HO3 := Lib.hid hown3
            clear hown2 hown3 hg2 hat2
            go_wp2_with fail
            exact ri_end (.slice (some ⟨g, 0, none⟩) (ts.length + 1) cap) (.int .i64 ((p : Int) + (m : Int))) (p + m) p (by kernel_rfl) (by go_num) ⟨_, p + m, h2, by rw [List.length_append]; simp; omega, rfl, HR2, HO3, hb3⟩ (by omega) hlt
          · have HR2 : Hid (R.bad p 1 = r) := by
              have hw2 := HWA.out
              rw [if_neg (by decide)] at hw2
              show _ = _
              rw [HRR.out, scS_bad hlt HBF.out HCF.out (by rw [hw2]; decide), hw2]; rfl
            have hr2 := HR2.out
            subst hr2
            go_wp2_with fail
            refine HRET.out _ _ ?_
            exact bodyPost_ret (v := .tuple #[.slice none 0 0, .int .i64 p, .int .i64 1]) (by simp [results, Tryd.results9, go_sem]) rfl ⟨hb, rfl⟩
          · have HR2 : Hid (R.bad p 2 = r) := by
              have hw2 := HWA.out
              rw [if_neg (by decide)] at hw2
              show _ = _
              rw [HRR.out, scS_bad hlt HBF.out HCF.out (by rw [hw2]; decide), hw2]; rfl
            have hr2 := HR2.out
            subst hr2
            go_wp2_with fail
            refine HRET.out _ _ ?_
            exact bodyPost_ret (v := .tuple #[.slice none 0 0, .int .i64 p, .int .i64 2]) (by simp [results, Tryd.results9, go_sem]) rfl ⟨hb, rfl⟩
    · have hkq : k = p + m := by rw [← HK.out, endAt_end (by rw [len_size]; omega)]
      subst hkq
      have ha := after_end s (p + m) (by omega)
      have HWA : Hid (tokAt s.data.toList p = if pe = 0 then ⟨0, 3, m⟩ else ⟨pe, 0, 0⟩) := by
        show _ = _
        rw [HWA0.out, ha]; rfl
      clear HK ha
      go_wp2_with fail
      refine (refParse_to x (p1, (pe : Int)) _ hx5 HSP).mono ?_
      rintro e w' ⟨rfl, rfl⟩
      rcases hpar with rfl | rfl | rfl
      · have HR2 : Hid (r = (sc s.data.toList (p + m)).pre (ts ++ [Tok.mk 3 ((s.data.toList.drop p).take m) p])) := by
          have hw2 := HWA.out
          rw [if_pos rfl] at hw2
          have h4 := scS_tok hlt HBF.out HCF.out (by rw [hw2])
          rw [hw2] at h4
          show _ = _
          rw [HRR.out, h4, R.pre_pre]
        go_wp2_with (at_builtin; refine Hid.out ?_)
        refine Lib.hid ?_
        refine wpList_append_lies _ rfl (.tmp 144) (.tmp 152) _ rfl w.heap.size 33 i0 _ 3 32 Tryd.underlying27 HI0.out HZ0.out HZ1.out HZ2.out rfl (by omega) v ts.length (cellsT ts) rfl (by exact World.ownsRow.alloc HOWN.out _) ⟨wr.heap.size, 0, none⟩ 1 1 [.int .i64 3, .string x, .int .i64 p] rfl rfl (by exact news0 wr 33 _ _ _) (by simp [Value.oneCell']) (by omega) (by simp only [maxLen]; omega) (by omega) (by simp; have := hb.size; omega) (wr.heap.size + 1) (by simp) ?_
        intro g cap w2 hown2 hg2 hat2 hlt2
        have hb3 : Below w.heap.size w w2 := (hb.alloc hb.size _).grown hg2 (by simp; have := hb.size; omega) (fun k hk => (HOWN.out.lt k hk).1)
        rw [HXT.out] at hown2
        have hown3 : w2.ownsRow w.heap.size 33 3 (.slice (some ⟨g, 0, none⟩) (ts.length + 1) cap) (ts ++ [Tok.mk 3 ((s.data.toList.drop p).take m) p]).length (cellsT (ts ++ [Tok.mk 3 ((s.data.toList.drop p).take m) p])) := by
          rw [cellsT_snoc, List.length_append]; exact hown2
        have HO3 := Lib.hid hown3
        clear hown2 hown3 hg2 hat2
        go_wp2_with fail
        exact ri_end (.slice (some ⟨g, 0, none⟩) (ts.length + 1) cap) (.int .i64 ((p : Int) + (m : Int))) (p + m) p (by kernel_rfl) (by go_num) ⟨_, p + m, h2, by rw [List.length_append]; simp; omega, rfl, HR2, HO3, hb3⟩ (by omega) hlt
      · have HR2 : Hid (R.bad p 1 = r) := by
          have hw2 := HWA.out
          rw [if_neg (by decide)] at hw2
          show _ = _
          rw [HRR.out, scS_bad hlt HBF.out HCF.out (by rw [hw2]; decide), hw2]; rfl
        have hr2 := HR2.out
        subst hr2
        go_wp2_with fail
        refine HRET.out _ _ ?_
        exact bodyPost_ret (v := .tuple #[.slice none 0 0, .int .i64 p, .int .i64 1]) (by simp [results, Tryd.results9, go_sem]) rfl ⟨hb, rfl⟩
      · have HR2 : Hid (R.bad p 2 = r) := by
          have hw2 := HWA.out
          rw [if_neg (by decide)] at hw2
          show _ = _
          rw [HRR.out, scS_bad hlt HBF.out HCF.out (by rw [hw2]; decide), hw2]; rfl
        have hr2 := HR2.out
        subst hr2
        go_wp2_with fail
        refine HRET.out _ _ ?_
        exact bodyPost_ret (v := .tuple #[.slice none 0 0, .int .i64 p, .int .i64 2]) (by simp [results, Tryd.results9, go_sem]) rfl ⟨hb, rfl⟩

end Go.Proofs.YteikheaanefgbaaDoor
