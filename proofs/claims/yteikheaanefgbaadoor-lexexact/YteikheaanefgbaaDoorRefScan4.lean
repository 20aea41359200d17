/-
  One round of the reference's Scan, where neither a word nor a number stands. Of what was there nothing has turned.
-/
import Derived.Test.YteikheaanefgbaaDoorRefScan1
namespace Go.Proofs.YteikheaanefgbaaDoor
open Go.RowKit

set_option maxRecDepth 100000 in
set_option maxHeartbeats 4000000 in
theorem round_sign (s : ByteArray) (r : R) (w wr : World) (f : Nat → Value) (v : Value) (p : Nat) (ts : List Tok) (hs : s.size ≤ 4096) (hts : ts.length ≤ p) (HRR : Hid (r = (sc s.data.toList p).pre ts)) (HOWN : Hid (wr.ownsRow w.heap.size 33 3 v ts.length (cellsT ts))) (hb : Below w.heap.size w wr) (hlt : p < s.size) (hbk : ¬ blkB s[p] = true) (hcm : ¬ comAt s.data.toList p = true) (hle : letB s[p] = false) (hdi : digB s[p] = false) : Round s w r f v p wr := by
  intro Q0 hret
  have HRET := Lib.hid hret
  clear hret
  conv => arg 2; whnf
  unfold frm
  have hbf : blkB s[p] = false := by simpa using hbk
  have hnb : ¬ (s[p].toNat = 32 ∨ s[p].toNat = 9 ∨ s[p].toNat = 10 ∨ s[p].toNat = 13) := fun h => hbk ((blk_iff _).2 h)
  have n1 : ((s[p].toNat : Int) == 32) = false := beq_eq_false_iff_ne.2 (by omega)
  have n2 : ((s[p].toNat : Int) == 9) = false := beq_eq_false_iff_ne.2 (by omega)
  have n3 : ((s[p].toNat : Int) == 10) = false := beq_eq_false_iff_ne.2 (by omega)
  have n4 : ((s[p].toNat : Int) == 13) = false := beq_eq_false_iff_ne.2 (by omega)
  have HBF := Lib.hid hbf
  clear hbk hnb hbf
  obtain ⟨i0, hi0, hz0, hz1, hz2⟩ := info_parts rtok_info
  have HI0 := Lib.hid hi0
  have HZ0 := Lib.hid hz0
  have HZ1 := Lib.hid hz1
  have HZ2 := Lib.hid hz2
  clear hi0 hz0 hz1 hz2
  have hcf : comAt s.data.toList p = false := by simpa using hcm
  have HCF := Lib.hid hcf
  clear hcm
  have HLE := Lib.hid hle
  have HDI := Lib.hid hdi
  have htk := tokAt_sign hlt hle hdi
  have hcc : s[p].toNat ≠ 47 ∨ (s[p].toNat = 47 ∧ ¬ p + 1 < s.size) ∨ (s[p].toNat = 47 ∧ ∃ h1 : p + 1 < s.size, s[p + 1].toNat ≠ 47) := by
    by_cases e1 : s[p].toNat = 47
    · by_cases e2 : p + 1 < s.size
      · by_cases e3 : s[p + 1].toNat = 47
        · exact absurd ((comAt_iff s p hlt).2 ⟨e1, e2, e3⟩) (by rw [hcf]; decide)
        · exact Or.inr (Or.inr ⟨e1, e2, e3⟩)
      · exact Or.inr (Or.inl ⟨e1, e2⟩)
    · exact Or.inl e1
  rcases sign_two (s.data.toList.drop p) s[p] ⟨_, List.drop_eq_getElem_cons (by rw [len_size]; exact hlt)⟩ with ⟨m, hm0, hm1, hsg, hsn, hml⟩ | ⟨hsg, hsn⟩
  · have HWA := Lib.hid (htk.trans hsg)
    have HSN := Lib.hid hsn
    rw [List.length_drop, len_size] at hml
    have h2 : p + m ≤ s.size := by omega
    have hx := cut_extract s p (p + m)
    rw [show p + m - p = m by omega] at hx
    have hsl := slice_run s p (p + m) (by omega) h2
    obtain ⟨x, hX⟩ : ∃ x, s.extract p (p + m) = x := ⟨_, rfl⟩
    rw [hX] at hx hsl
    have hxt : x = ⟨((s.data.toList.drop p).take m).toArray⟩ := (str_eq hx.symm).symm
    have hpm : ((p + m : Nat) : Int) = (p : Int) + (m : Int) := by omega
    rw [hpm] at hsl
    have HXT := Lib.hid hxt
    have e1 : ((p : Int) + (m : Int) == (p : Int)) = false := beq_eq_false_iff_ne.2 (by omega)
    have e2 : (p + m == p) = false := beq_eq_false_iff_ne.2 (by omega)
    have e3 : ((m : Int) == 0) = false := beq_eq_false_iff_ne.2 (by omega)
    have e4 : (m == 0) = false := beq_eq_false_iff_ne.2 (by omega)
    clear hle hdi htk hx hX hxt hpm hcf hsg hsn
    rcases hcc with hcc | ⟨hcc, hc1⟩ | ⟨hcc, hc1, hc2⟩
    · have c0 : ((s[p].toNat : Int) == 47) = false := beq_eq_false_iff_ne.2 (by omega)
      clear hcc
      have HR2 : Hid (r = (sc s.data.toList (p + m)).pre (ts ++ [Tok.mk 4 ((s.data.toList.drop p).take m) p])) := by
        have hw2 := HWA.out
        have h4 := scS_tok hlt HBF.out HCF.out (by rw [hw2])
        rw [hw2] at h4
        show _ = _
        rw [HRR.out, h4, R.pre_pre]
      go_wp2_with (first | (go_at_call 19; refine (letter_to _ false _ HLE).mono ?_; rintro e w' ⟨rfl, rfl⟩) | (go_at_call 20; refine (digit_to _ false _ HDI).mono ?_; rintro e w' ⟨rfl, rfl⟩) | (go_at_call 22; refine (refSign_any s p m _ (by omega) hlt HSN).mono ?_; rintro e w' ⟨rfl, rfl⟩) | (at_builtin; refine Hid.out ?_))
      refine Lib.hid ?_
      refine wpList_append_lies _ rfl (.tmp 144) (.tmp 152) _ rfl w.heap.size 33 i0 _ 3 32 Tryd.underlying27 HI0.out HZ0.out HZ1.out HZ2.out rfl (by omega) v ts.length (cellsT ts) rfl (by exact World.ownsRow.alloc HOWN.out _) ⟨wr.heap.size, 0, none⟩ 1 1 [.int .i64 4, .string x, .int .i64 p] rfl rfl (by exact news0 wr 33 _ _ _) (by simp [Value.oneCell']) (by omega) (by simp only [maxLen]; omega) (by omega) (by simp; have := hb.size; omega) (wr.heap.size + 1) (by simp) ?_
      intro g cap w2 hown2 hg2 hat2 hlt2
      have hb3 : Below w.heap.size w w2 := (hb.alloc hb.size _).grown hg2 (by simp; have := hb.size; omega) (fun k hk => (HOWN.out.lt k hk).1)
      rw [HXT.out] at hown2
      have hown3 : w2.ownsRow w.heap.size 33 3 (.slice (some ⟨g, 0, none⟩) (ts.length + 1) cap) (ts ++ [Tok.mk 4 ((s.data.toList.drop p).take m) p]).length (cellsT (ts ++ [Tok.mk 4 ((s.data.toList.drop p).take m) p])) := by
        rw [cellsT_snoc, List.length_append]; exact hown2
      have HO3 := Lib.hid hown3
      clear hown2 hown3 hg2 hat2
      go_wp2_with fail
      exact ri_end (.slice (some ⟨g, 0, none⟩) (ts.length + 1) cap) (.int .i64 ((p : Int) + (m : Int))) (p + m) p (by kernel_rfl) (by go_num) ⟨_, p + m, h2, by rw [List.length_append]; simp; omega, rfl, HR2, HO3, hb3⟩ (by omega) hlt
    · have c0 : ((s[p].toNat : Int) == 47) = true := by simp; omega
      have c1 : ¬ (p : Int) + 1 < (s.size : Int) := by omega
      clear hcc
      have HR2 : Hid (r = (sc s.data.toList (p + m)).pre (ts ++ [Tok.mk 4 ((s.data.toList.drop p).take m) p])) := by
        have hw2 := HWA.out
        have h4 := scS_tok hlt HBF.out HCF.out (by rw [hw2])
        rw [hw2] at h4
        show _ = _
        rw [HRR.out, h4, R.pre_pre]
      go_wp2_with (first | (go_at_call 19; refine (letter_to _ false _ HLE).mono ?_; rintro e w' ⟨rfl, rfl⟩) | (go_at_call 20; refine (digit_to _ false _ HDI).mono ?_; rintro e w' ⟨rfl, rfl⟩) | (go_at_call 22; refine (refSign_any s p m _ (by omega) hlt HSN).mono ?_; rintro e w' ⟨rfl, rfl⟩) | (at_builtin; refine Hid.out ?_))
      refine Lib.hid ?_
      refine wpList_append_lies _ rfl (.tmp 144) (.tmp 152) _ rfl w.heap.size 33 i0 _ 3 32 Tryd.underlying27 HI0.out HZ0.out HZ1.out HZ2.out rfl (by omega) v ts.length (cellsT ts) rfl (by exact World.ownsRow.alloc HOWN.out _) ⟨wr.heap.size, 0, none⟩ 1 1 [.int .i64 4, .string x, .int .i64 p] rfl rfl (by exact news0 wr 33 _ _ _) (by simp [Value.oneCell']) (by omega) (by simp only [maxLen]; omega) (by omega) (by simp; have := hb.size; omega) (wr.heap.size + 1) (by simp) ?_
      intro g cap w2 hown2 hg2 hat2 hlt2
      have hb3 : Below w.heap.size w w2 := (hb.alloc hb.size _).grown hg2 (by simp; have := hb.size; omega) (fun k hk => (HOWN.out.lt k hk).1)
      rw [HXT.out] at hown2
      have hown3 : w2.ownsRow w.heap.size 33 3 (.slice (some ⟨g, 0, none⟩) (ts.length + 1) cap) (ts ++ [Tok.mk 4 ((s.data.toList.drop p).take m) p]).length (cellsT (ts ++ [Tok.mk 4 ((s.data.toList.drop p).take m) p])) := by
        rw [cellsT_snoc, List.length_append]; exact hown2
      have HO3 := Lib.hid hown3
      clear hown2 hown3 hg2 hat2
      go_wp2_with fail
      exact ri_end (.slice (some ⟨g, 0, none⟩) (ts.length + 1) cap) (.int .i64 ((p : Int) + (m : Int))) (p + m) p (by kernel_rfl) (by go_num) ⟨_, p + m, h2, by rw [List.length_append]; simp; omega, rfl, HR2, HO3, hb3⟩ (by omega) hlt
    · have c0 : ((s[p].toNat : Int) == 47) = true := by simp; omega
      have c1 : (p : Int) + 1 < (s.size : Int) := by omega
      have c2 : ((s[p + 1].toNat : Int) == 47) = false := beq_eq_false_iff_ne.2 (by omega)
      clear hcc
      have HR2 : Hid (r = (sc s.data.toList (p + m)).pre (ts ++ [Tok.mk 4 ((s.data.toList.drop p).take m) p])) := by
        have hw2 := HWA.out
        have h4 := scS_tok hlt HBF.out HCF.out (by rw [hw2])
        rw [hw2] at h4
        show _ = _
        rw [HRR.out, h4, R.pre_pre]
      go_wp2_with (first | (go_at_call 19; refine (letter_to _ false _ HLE).mono ?_; rintro e w' ⟨rfl, rfl⟩) | (go_at_call 20; refine (digit_to _ false _ HDI).mono ?_; rintro e w' ⟨rfl, rfl⟩) | (go_at_call 22; refine (refSign_any s p m _ (by omega) hlt HSN).mono ?_; rintro e w' ⟨rfl, rfl⟩) | (at_builtin; refine Hid.out ?_))
      refine Lib.hid ?_
      refine wpList_append_lies _ rfl (.tmp 144) (.tmp 152) _ rfl w.heap.size 33 i0 _ 3 32 Tryd.underlying27 HI0.out HZ0.out HZ1.out HZ2.out rfl (by omega) v ts.length (cellsT ts) rfl (by exact World.ownsRow.alloc HOWN.out _) ⟨wr.heap.size, 0, none⟩ 1 1 [.int .i64 4, .string x, .int .i64 p] rfl rfl (by exact news0 wr 33 _ _ _) (by simp [Value.oneCell']) (by omega) (by simp only [maxLen]; omega) (by omega) (by simp; have := hb.size; omega) (wr.heap.size + 1) (by simp) ?_
      intro g cap w2 hown2 hg2 hat2 hlt2
      have hb3 : Below w.heap.size w w2 := (hb.alloc hb.size _).grown hg2 (by simp; have := hb.size; omega) (fun k hk => (HOWN.out.lt k hk).1)
      rw [HXT.out] at hown2
      have hown3 : w2.ownsRow w.heap.size 33 3 (.slice (some ⟨g, 0, none⟩) (ts.length + 1) cap) (ts ++ [Tok.mk 4 ((s.data.toList.drop p).take m) p]).length (cellsT (ts ++ [Tok.mk 4 ((s.data.toList.drop p).take m) p])) := by
        rw [cellsT_snoc, List.length_append]; exact hown2
      have HO3 := Lib.hid hown3
      clear hown2 hown3 hg2 hat2
      go_wp2_with fail
      exact ri_end (.slice (some ⟨g, 0, none⟩) (ts.length + 1) cap) (.int .i64 ((p : Int) + (m : Int))) (p + m) p (by kernel_rfl) (by go_num) ⟨_, p + m, h2, by rw [List.length_append]; simp; omega, rfl, HR2, HO3, hb3⟩ (by omega) hlt
  · have HWA := Lib.hid (htk.trans hsg)
    have HSN := Lib.hid hsn
    clear hle hdi htk hcf hsg hsn
    rcases hcc with hcc | ⟨hcc, hc1⟩ | ⟨hcc, hc1, hc2⟩
    · have c0 : ((s[p].toNat : Int) == 47) = false := beq_eq_false_iff_ne.2 (by omega)
      clear hcc
      have HR2 : Hid (R.bad p 1 = r) := by
        have hw2 := HWA.out
        show _ = _
        rw [HRR.out, scS_bad hlt HBF.out HCF.out (by rw [hw2]; decide), hw2]; rfl
      have hr2 := HR2.out
      subst hr2
      go_wp2_with (first | (go_at_call 19; refine (letter_to _ false _ HLE).mono ?_; rintro e w' ⟨rfl, rfl⟩) | (go_at_call 20; refine (digit_to _ false _ HDI).mono ?_; rintro e w' ⟨rfl, rfl⟩) | (go_at_call 22; refine (refSign_any s p 0 _ (by omega) hlt HSN).mono ?_; rintro e w' ⟨rfl, rfl⟩))
      refine HRET.out _ _ ?_
      exact bodyPost_ret (v := .tuple #[.slice none 0 0, .int .i64 p, .int .i64 1]) (by simp [results, Tryd.results9, go_sem]) rfl ⟨hb, rfl⟩
    · have c0 : ((s[p].toNat : Int) == 47) = true := by simp; omega
      have c1 : ¬ (p : Int) + 1 < (s.size : Int) := by omega
      clear hcc
      have HR2 : Hid (R.bad p 1 = r) := by
        have hw2 := HWA.out
        show _ = _
        rw [HRR.out, scS_bad hlt HBF.out HCF.out (by rw [hw2]; decide), hw2]; rfl
      have hr2 := HR2.out
      subst hr2
      go_wp2_with (first | (go_at_call 19; refine (letter_to _ false _ HLE).mono ?_; rintro e w' ⟨rfl, rfl⟩) | (go_at_call 20; refine (digit_to _ false _ HDI).mono ?_; rintro e w' ⟨rfl, rfl⟩) | (go_at_call 22; refine (refSign_any s p 0 _ (by omega) hlt HSN).mono ?_; rintro e w' ⟨rfl, rfl⟩))
      refine HRET.out _ _ ?_
      exact bodyPost_ret (v := .tuple #[.slice none 0 0, .int .i64 p, .int .i64 1]) (by simp [results, Tryd.results9, go_sem]) rfl ⟨hb, rfl⟩
    · have c0 : ((s[p].toNat : Int) == 47) = true := by simp; omega
      have c1 : (p : Int) + 1 < (s.size : Int) := by omega
      have c2 : ((s[p + 1].toNat : Int) == 47) = false := beq_eq_false_iff_ne.2 (by omega)
      clear hcc
      have HR2 : Hid (R.bad p 1 = r) := by
        have hw2 := HWA.out
        show _ = _
        rw [HRR.out, scS_bad hlt HBF.out HCF.out (by rw [hw2]; decide), hw2]; rfl
      have hr2 := HR2.out
      subst hr2
      go_wp2_with (first | (go_at_call 19; refine (letter_to _ false _ HLE).mono ?_; rintro e w' ⟨rfl, rfl⟩) | (go_at_call 20; refine (digit_to _ false _ HDI).mono ?_; rintro e w' ⟨rfl, rfl⟩) | (go_at_call 22; refine (refSign_any s p 0 _ (by omega) hlt HSN).mono ?_; rintro e w' ⟨rfl, rfl⟩))
      refine HRET.out _ _ ?_
      exact bodyPost_ret (v := .tuple #[.slice none 0 0, .int .i64 p, .int .i64 1]) (by simp [results, Tryd.results9, go_sem]) rfl ⟨hb, rfl⟩

end Go.Proofs.YteikheaanefgbaaDoor
