/-
  WALK: FlowOrder answers true at every function, given what the program's functions answer. Of what was there nothing has turned.
-/
import Derived.Test.YtpaddigjjlidcaaFlNm
namespace Go.Proofs.Ytpaddigjjlidcaa
open Go.RowKit

set_option maxRecDepth 100000 in
set_option maxHeartbeats 4000000 in
theorem flowOrder_true (C : FlC) (E : FE) (w : World) (hM : FM E w) :
    Calls Try.prog 5 #[E.v] w fun e w' => e = .returned (.bool true) ∧ Below w.heap.size w w' := by
  have HC := Lib.hid C
  have HB := Lib.hid (below_alloc w (.cells E.row 26))
  have HM := Lib.hid (hM.drop HB.out)
  obtain ⟨m, hm⟩ : ∃ m, E.f.blocks.length = m := ⟨_, rfl⟩
  have HMB := Lib.hid hm
  have f0 : (w.alloc (.cells E.row 26)).cell? ⟨w.heap.size, 0, none⟩ = some (.string E.f.name) := cell_new w E.row 26 0
  have f1 : (w.alloc (.cells E.row 26)).cell? ⟨w.heap.size, 1, none⟩ = some (.slice E.pA E.f.params.length E.pc) := cell_new w E.row 26 1
  have f2 : (w.alloc (.cells E.row 26)).cell? ⟨w.heap.size, 2, none⟩ = some (.string E.f.res) := cell_new w E.row 26 2
  have f3 : (w.alloc (.cells E.row 26)).cell? ⟨w.heap.size, 3, none⟩ = some (.slice E.sA E.f.slots.length E.sc) := cell_new w E.row 26 3
  have f4 : (w.alloc (.cells E.row 26)).cell? ⟨w.heap.size, 4, none⟩ = some (.slice E.iA E.f.ins.length E.ic) := cell_new w E.row 26 4
  have f5 : (w.alloc (.cells E.row 26)).cell? ⟨w.heap.size, 5, none⟩ = some (.slice E.bA E.f.blocks.length E.bc) := cell_new w E.row 26 5
  rw [hm] at f5
  have hEv : E.v = .agg #[.string E.f.name, .slice E.pA E.f.params.length E.pc, .string E.f.res, .slice E.sA E.f.slots.length E.sc, .slice E.iA E.f.ins.length E.ic, .slice E.bA m E.bc] := by rw [← hm]; rfl
  clear hM C hm
  go_enter Try.func5, Try.ntmps5
  have hEr : E.row = #[.string E.f.name, .slice E.pA E.f.params.length E.pc, .string E.f.res, .slice E.sA E.f.slots.length E.sc, .slice E.iA E.f.ins.length E.ic, .slice E.bA m E.bc] := by rw [← HMB.out]; rfl
  rw [hEr] at HB HM f0 f1 f2 f3 f4 f5
  clear hEr
  go_wp2_with fail
  generalize w.alloc (.cells #[.string E.f.name, .slice E.pA E.f.params.length E.pc, .string E.f.res, .slice E.sA E.f.slots.length E.sc, .slice E.iA E.f.ins.length E.ic, .slice E.bA m E.bc] 26) = w1 at *
  refine (HC.out.awake w1).mono ?_
  rintro e w2 ⟨rfl, b2⟩
  replace f0 := keepB f0 b2
  replace f1 := keepB f1 b2
  replace f2 := keepB f2 b2
  replace f3 := keepB f3 b2
  replace f4 := keepB f4 b2
  replace f5 := keepB f5 b2
  replace HB := Lib.hid (HB.out.trans (b2.mono HB.out.size))
  replace HM := Lib.hid (HM.out.drop b2)
  clear b2
  go_wp2_with fail
  rw [← hEv]
  obtain ⟨gr0, hgr⟩ : ∃ b, wideB E.f = b := ⟨_, rfl⟩
  refine (lawWide_any E gr0 w2 HM.out (Lib.hid hgr)).mono ?_
  rintro e w3 ⟨rfl, b3⟩
  replace f0 := keepB f0 b3
  replace f1 := keepB f1 b3
  replace f2 := keepB f2 b3
  replace f3 := keepB f3 b3
  replace f4 := keepB f4 b3
  replace f5 := keepB f5 b3
  replace HB := Lib.hid (HB.out.trans (b3.mono HB.out.size))
  replace HM := Lib.hid (HM.out.drop b3)
  clear b3
  cases gr0 with
  | true =>
    go_wp2_with fail
    go_ret
    exact ⟨rfl, HB.out⟩
  | false =>
  have HW := Lib.hid hgr
  have hm60 : m ≤ 60 := by have := (wide_le hgr).2.1; rwa [HMB.out] at this
  have HM60 := Lib.hid hm60
  clear hgr
  go_wp2_with fail
  rw [← hEv]
  refine (HC.out.order E w3 HM.out HW.out).mono ?_
  rintro e w4 ⟨o, hor, oA, ok, rfl, hok, hoS, b4⟩
  obtain ⟨lo, hlo⟩ : ∃ n, o.length = n := ⟨_, rfl⟩
  have HLO := Lib.hid hlo
  have hlo60 : lo ≤ m := by have := ord_len hor; rwa [HMB.out, hlo] at this
  have HOR := Lib.hid hor
  rw [hlo] at hok ⊢
  replace f0 := keepB f0 b4
  replace f1 := keepB f1 b4
  replace f2 := keepB f2 b4
  replace f3 := keepB f3 b4
  replace f4 := keepB f4 b4
  replace f5 := keepB f5 b4
  replace HB := Lib.hid (HB.out.trans (b4.mono HB.out.size))
  replace HM := Lib.hid (HM.out.drop b4)
  have HOS := Lib.hid hoS
  clear b4 hoS hor hlo
  go_wp2_with fail
  rw [← hEv]
  refine (HC.out.reached E w4 HM.out HW.out).mono ?_
  rintro e w5 ⟨fl, hFl, rA, rk, rfl, hrk, hrS, b5⟩
  have hlF : fl.length = m := hFl.1.trans HMB.out
  rw [hlF] at hrk ⊢
  replace f0 := keepB f0 b5
  replace f1 := keepB f1 b5
  replace f2 := keepB f2 b5
  replace f3 := keepB f3 b5
  replace f4 := keepB f4 b5
  replace f5 := keepB f5 b5
  replace HB := Lib.hid (HB.out.trans (b5.mono HB.out.size))
  replace HM := Lib.hid (HM.out.drop b5)
  replace HOS := Lib.hid (HOS.out.drop kp_int b5)
  have HRS := Lib.hid hrS
  have HFL := Lib.hid hFl
  have HLF := Lib.hid hlF
  clear b5 hrS hFl hlF
  go_wp2_with fail
  rw [← hEv]
  refine (HC.out.ahead E w5 HM.out HW.out).mono ?_
  rintro e w6 ⟨aA, ak, rfl, hak, haS, b6⟩
  have hlA : (ahL E.f.blocks).length = m := by unfold ahL; rw [List.length_map, List.length_range, HMB.out]
  rw [hlA] at hak ⊢
  replace f0 := keepB f0 b6
  replace f1 := keepB f1 b6
  replace f2 := keepB f2 b6
  replace f3 := keepB f3 b6
  replace f4 := keepB f4 b6
  replace f5 := keepB f5 b6
  replace HB := Lib.hid (HB.out.trans (b6.mono HB.out.size))
  replace HM := Lib.hid (HM.out.drop b6)
  replace HOS := Lib.hid (HOS.out.drop kp_int b6)
  replace HRS := Lib.hid (HRS.out.drop kp_bool b6)
  have HAS := Lib.hid haS
  have HLA := Lib.hid hlA
  clear b6 haS hlA
  by_cases h0 : m = 0
  · have hc0 : (m : Int) = 0 := by omega
    have hl0 : (lo : Int) = 0 := by omega
    have HE := Lib.hid HB.out
    clear h0
    go_wp2_with fail
    go_ret
    exact ⟨rfl, HE.out⟩
  · have hc0 : ¬ (m : Int) = 0 := by omega
    have hF := ord_facts HOR.out (by have := HMB.out; omega)
    have hlp : 0 < o.length := by
      have := hF.hd
      cases o with
      | nil => cases this
      | cons _ _ => simp
    have hc1 : ¬ (lo : Int) = 0 := by have := HLO.out; omega
    have HF := Lib.hid hF
    obtain ⟨og, oo, rfl⟩ := HOS.out.some hlp
    obtain ⟨rg, ro, rfl⟩ := HRS.out.some (by have := HLF.out; omega)
    obtain ⟨ag, ao, rfl⟩ := HAS.out.some (by have := HLA.out; omega)
    have ho0 : o[0]? = some 0 := by rw [← List.head?_eq_getElem?]; exact hF.hd
    obtain ⟨cs, ⟨rfl, -⟩, hz0⟩ := HOS.out.at ho0
    have z0 := hz0 0 _ rfl
    simp only [Nat.zero_mul, Nat.add_zero] at z0
    obtain ⟨i4, hi4, hy0, hy1, hy2⟩ := info_parts int_info
    have HI4 := Lib.hid hi4
    have HY0 := Lib.hid hy0
    have HY1 := Lib.hid hy1
    have HB2 : Hid (i4.bytes * m ≤ 281474976710656) := by show _ ≤ _; rw [hy2]; omega
    have HB3 : Hid (m ≤ maxLen) := by show _ ≤ _; simp only [maxLen]; omega
    have HLO60 := Lib.hid hlo60
    have hpos : 0 < m := by omega
    clear hF hlp ho0 hz0 hi4 hy0 hy1 hy2 h0 hlo60
    go_wp2_with (refine wpList_make_full _ rfl (.tmp 41) (.tmp 41) 34 rfl w6.heap.size 3 i4 _ 1 Try.underlying34 HI4.out HY0.out HY1.out .i64 .i64 m m m rfl rfl rfl rfl HB2.out HB3.out (Nat.le_refl _) ?_; intro w7 hown1 hg1; refine Hid.out ?_)
    have N0 : Hid (Nm w7 w6.heap.size m (atL o m 0)) := by
      refine ⟨at_len _ _ _, ?_⟩
      rw [Nat.mul_one, show (Value.int .i64 0).cells = #[.int .i64 0] from rfl, toList_madeCells_one] at hown1
      rw [at_zero]
      unfold intsV
      rw [List.map_replicate]; exact hown1
    have B7 := Lib.hid ((Below.refl w6.heap.size w6).grown hg1 (Nat.le_refl _) (fun k hk => by cases hk))
    clear hown1 hg1 HB2 HB3 HI4 HY0 HY1
    obtain ⟨g, hg⟩ : ∃ g, w6.heap.size = g := ⟨_, rfl⟩
    have HG := Lib.hid hg
    rw [hg] at N0 B7 ⊢
    clear hg
    have C6 := Lib.hid (And.intro f0 (And.intro f1 (And.intro f2 (And.intro f3 (And.intro f4 f5)))))
    clear f0 f1 f2 f3 f4 f5 z0
    refine Lib.hid ?_
    go_wp2_with fail
    go_loopw [7] (fun kv wr => ∃ k : Nat, k ≤ lo ∧ kv = .int .i64 k ∧ Hid (Nm wr g m (atL o m k)) ∧ Below g w6 wr) (fun kv _ => lo - (intOf kv).toNat)
    case atStart => exact ⟨0, Nat.zero_le _, rfl, N0, B7.out⟩
    case round =>
      obtain ⟨k, hk, rfl, HN, hb⟩ := hrel
      have HBK := Lib.hid hb
      clear hb
      by_cases hlt : k < lo
      · have hlt2 : (k : Int) < (lo : Int) := by omega
        obtain ⟨x0, hx0⟩ : ∃ x, o[k]? = some x := ⟨_, List.getElem?_eq_getElem (by have := HLO.out; omega)⟩
        have hx0m : x0 ∈ o := List.mem_of_getElem? hx0
        have hrg := HF.out.rg x0 hx0m
        obtain ⟨x, rfl⟩ : ∃ x : Nat, x0 = x := ⟨x0.toNat, by omega⟩
        have hxm : x < m := by have := HMB.out; omega
        have hxm2 : ¬ (m : Int) ≤ (x : Int) := by omega
        have hb7 : Below w6.heap.size w6 wr := by rw [HG.out]; exact HBK.out
        obtain ⟨cs, ⟨rfl, -⟩, hz1⟩ := (HOS.out.drop kp_int hb7).at hx0
        have z1 := hz1 0 _ rfl
        have hz2 : (atL o m k)[x]? = some 0 := by rw [at_get hxm, if_neg (not_yet HF.out.nd hx0)]
        have z2 := HN.out.cell hz2
        have hz3 : fl[x]? = some true := by rw [flag_ord HFL.out HMB.out HF.out hxm, decide_eq_true hx0m]
        obtain ⟨cs, rfl, hz4⟩ := (HRS.out.drop kp_bool hb7).at hz3
        have z3 := hz4 0 _ rfl
        simp only [Nat.mul_one, Nat.add_zero] at z1 z3
        have HUP : Hid (Nm (wr.setCell ⟨g, x, none⟩ (.int .i64 ((k : Int) + 1))) g m (atL o m (k + 1))) := by
          rw [← at_up HF.out.nd hx0 hxm]; exact HN.out.set x _
        have HBU : Hid (Below g w6 (wr.setCell ⟨g, x, none⟩ (.int .i64 ((k : Int) + 1)))) := HBK.out.setCell (Nat.le_refl _) _
        have hkb : k ≤ 60 := by have := HLO60.out; have := HM60.out; omega
        have hfz := HN.out.2.frozenAt x
        have hxn : ¬ (x : Int) < 0 := by omega
        clear hx0 hx0m hrg hb7 hz1 hz2 hz3 hz4
        go_wp2_with fail
        go_roundw
        case rel => exact ⟨k + 1, by omega, by go_num, HUP, HBU.out⟩
        case measure => simp [intOf] <;> omega
      · obtain rfl : lo = k := by omega
        have hnl : ¬ (lo : Int) < (lo : Int) := by omega
        have hb7 : Below w6.heap.size w6 wr := by rw [HG.out]; exact HBK.out
        obtain ⟨f0, f1, f2, f3, f4, f5⟩ := C6.out
        replace f0 := keepB f0 hb7
        replace f1 := keepB f1 hb7
        replace f2 := keepB f2 hb7
        replace f3 := keepB f3 hb7
        replace f4 := keepB f4 hb7
        replace f5 := keepB f5 hb7
        replace HB := Lib.hid (HB.out.trans (hb7.mono HB.out.size))
        replace HM := Lib.hid (HM.out.drop hb7)
        replace HOS := Lib.hid (HOS.out.drop kp_int hb7)
        replace HRS := Lib.hid (HRS.out.drop kp_bool hb7)
        replace HAS := Lib.hid (HAS.out.drop (kp_slC kp_int) hb7)
        clear hb7 C6 HBK
        go_wp2_with fail
        rw [← hEv]
        refine (HC.out.back E wr HM.out HW.out).mono ?_
        rintro e w8 ⟨o', hor', bA, bk, rfl, hbk, hbS, b8⟩
        obtain rfl : o = o' := ord_uniq HOR.out hor'
        obtain ⟨nb, hnb⟩ : ∃ n, (backL E.f.blocks o).length = n := ⟨_, rfl⟩
        have HNB := Lib.hid hnb
        rw [hnb]
        replace HB := Lib.hid (HB.out.trans (b8.mono HB.out.size))
        replace HOS := Lib.hid (HOS.out.drop kp_int b8)
        replace HRS := Lib.hid (HRS.out.drop kp_bool b8)
        replace HAS := Lib.hid (HAS.out.drop (kp_slC kp_int) b8)
        replace HN := Lib.hid (HN.out.below b8)
        obtain ⟨lb, hlb⟩ : ∃ b, decide (0 < nb) = b := ⟨_, rfl⟩
        have HLB := Lib.hid hlb
        clear b8 hbS hor' hnb hbk f0 f1 f2 f3 f4 f5
        go_wp2_with fail
        clear hlb hnl
        have H60 := HM60.out
        go_loopw [9] (fun i wr => BRel w8 m (fun _ => True) i wr) (fun i _ => m - (intOf i).toNat)
        case atStart => exact ⟨0, Nat.zero_le _, rfl, trivial, Below.refl _ _⟩
        case round =>
          obtain ⟨i, hi, rfl, -, hb⟩ := hrel
          have HBI := Lib.hid hb
          clear hb
          by_cases hlt : i < m
          · have hlt2 : (i : Int) < (m : Int) := by omega
            obtain ⟨b, hb⟩ : ∃ b, decide ((i : Int) ∈ o) = b := ⟨_, rfl⟩
            obtain ⟨pl, hpl⟩ : ∃ p, plo o i = p := ⟨_, rfl⟩
            have hr : fl[i]? = some b := by rw [flag_ord HFL.out HMB.out HF.out hlt, hb]
            obtain ⟨cs, rfl, hz1⟩ := HRS.out.at hr
            have y1 := hz1 0 _ rfl
            have hp : (atL o m lo)[i]? = some pl := by rw [at_all hlt (by have := HLO.out; omega), hpl]
            have y2 := HN.out.cell hp
            have hpb : decide (0 < pl) = b := by rw [← hpl, ← hb]; exact plo_pos o i
            have hai : (ahL E.f.blocks)[i]? = some (aheadL E.f.blocks i) := by
              unfold ahL
              rw [List.getElem?_map, List.getElem?_range (by have := HMB.out; omega)]; rfl
            obtain ⟨cs, ⟨v, rfl, iA, ik, rfl, i1, i2, hI⟩, hz3⟩ := HAS.out.at hai
            have y3 := hz3 0 _ rfl
            simp only [Nat.mul_one, Nat.add_zero] at y1 y3
            obtain ⟨la, hla⟩ : ∃ n, (aheadL E.f.blocks i).length = n := ⟨_, rfl⟩
            rw [hla] at y3 i1
            have Y1 := Lib.hid y1
            have Y2 := Lib.hid y2
            have Y3 := Lib.hid y3
            have z1 := keepB y1 HBI.out
            have z2 := keepB y2 HBI.out
            have z3 := keepB y3 HBI.out
            clear y1 y2 y3
            have HLAI := Lib.hid hla
            have hla60 : la ≤ 60 := by rw [← hla]; have := ahead_len E.f.blocks i E.f.blocks.length; unfold aheadL; have := HMB.out; omega
            have HI := Lib.hid hI
            have HPB := Lib.hid hpb
            have HPL := Lib.hid hpl
            have HBo := Lib.hid hb
            clear hr hz1 hp hai hz3 hI hla hpl hb
            go_upto_region 23 with fail
            go_quiet (fail)
            obtain ⟨ld0, hld0⟩ : ∃ b1, (decide (i = 0) || !b) = b1 := ⟨_, rfl⟩
            have HLD := Lib.hid hld0
            go_upto_region 25 with fail
            have hlt' := Lib.hid hlt
            clear hpb hlt2 hlt
            go_cut [10] from 95 to 180 (fun s wc => s = .bool ld0 ∧ Below w8.heap.size w8 wc)
            case first =>
              by_cases h0i : i = 0
              · as_aux_lemma =>
                have hi0 : (i : Int) = 0 := by omega
                have hl : ld0 = true := by rw [← hld0, decide_eq_true h0i]; rfl
                subst hl
                go_wp2_with fail
                go_meet
                case rel => exact ⟨rfl, below_drewN HBI.out _⟩
              · as_aux_lemma =>
                have hi0 : ¬ (i : Int) = 0 := by omega
                have hl : ld0 = !b := by rw [← hld0, decide_eq_false h0i]; rfl
                subst hl
                go_wp2_with fail
                go_meet
                case rel => exact ⟨by rw [show ((i : Int) == 0) = false from beq_eq_false_iff_ne.2 hi0]; rfl, below_drewN HBI.out _⟩
            case rest =>
            obtain ⟨rfl, hb9⟩ := hcut
            have HB9 := Lib.hid hb9
            have HBG := Lib.hid HN.out
            clear hb9 z1 z2 z3
            rename_i wc _
            obtain ⟨P, hP⟩ : ∃ P : Int → Bool, P = (fun p => decide (p ∈ o) && decide (plo o p.toNat < pl)) := ⟨_, rfl⟩
            have HPP := Lib.hid hP
            clear hP
            go_wp2_with fail
            go_loopw [10, 11] (fun lv kv wr => ∃ k : Nat, k ≤ la ∧ kv = .int .i64 k ∧ lv = .bool (ld0 || ((aheadL E.f.blocks i).take k).any P) ∧ Below w8.heap.size w8 wr) (fun _ kv _ => la - (intOf kv).toNat)
            case atStart => exact ⟨0, Nat.zero_le _, rfl, by rw [List.take_zero, List.any_nil, Bool.or_false], HB9.out⟩
            case round =>
              obtain ⟨k, hk, rfl, rfl, hb⟩ := hrel
              obtain ⟨lk, hlk⟩ : ∃ l, (ld0 || ((aheadL E.f.blocks i).take k).any P) = l := ⟨_, rfl⟩
              have HLK := Lib.hid hlk
              rw [hlk]
              clear hlk
              have HBK := Lib.hid hb
              have z1 := keepB Y1.out hb
              have z2 := keepB Y2.out hb
              have z3 := keepB Y3.out hb
              clear hb
              by_cases hlt : k < la
              · have hlt2 : (k : Int) < (la : Int) := by omega
                obtain ⟨x0, hx0⟩ : ∃ x, (aheadL E.f.blocks i)[k]? = some x := ⟨_, List.getElem?_eq_getElem (by have := HLAI.out; omega)⟩
                obtain ⟨q, hqm, rfl, hqn⟩ := ahead_mem.1 (List.mem_of_getElem? hx0)
                rw [HMB.out] at hqm
                obtain ⟨ig, io, rfl⟩ := HI.out.some (by have := HLAI.out; omega)
                obtain ⟨cs, ⟨rfl, -⟩, hz4⟩ := HI.out.at hx0
                have y4 := hz4 0 _ rfl
                obtain ⟨b2, hb2⟩ : ∃ b, decide ((q : Int) ∈ o) = b := ⟨_, rfl⟩
                obtain ⟨pq, hpq⟩ : ∃ p, plo o q = p := ⟨_, rfl⟩
                have hr : fl[q]? = some b2 := by rw [flag_ord HFL.out HMB.out HF.out hqm, hb2]
                obtain ⟨cs, rfl, hz5⟩ := HRS.out.at hr
                have y5 := hz5 0 _ rfl
                have hp : (atL o m lo)[q]? = some pq := by rw [at_all hqm (by have := HLO.out; omega), hpq]
                have z6 := keepB (HN.out.cell hp) HBK.out
                simp only [Nat.mul_one, Nat.add_zero] at y4 y5
                have z4 := keepB y4 HBK.out
                have z5 := keepB y5 HBK.out
                obtain ⟨l2, hl2⟩ : ∃ l, (lk || (b2 && decide (pq < pl))) = l := ⟨_, rfl⟩
                have HL2 : Hid ((ld0 || ((aheadL E.f.blocks i).take (k + 1)).any P) = l2) := by
                  show _ = _
                  rw [List.take_add_one, hx0, List.any_append, ← Bool.or_assoc, HLK.out, ← hl2]
                  simp only [Option.toList_some, List.any_cons, List.any_nil, Bool.or_false]
                  rw [HPP.out]
                  simp only [Int.toNat_natCast]
                  rw [hb2]
                  subst hpq
                  rfl
                have HQP : Hid (b = true → b2 = true → lb = false → ¬ pl ≤ pq) := by
                  intro e1 e2 e3
                  have h1 := HBo.out.trans e1
                  have h2 := hb2.trans e2
                  have h3 := HLB.out.trans e3
                  have hbn : backL E.f.blocks o = [] := List.length_eq_zero_iff.1 (by have := of_decide_eq_false h3; have := HNB.out; omega)
                  have := no_back HMB.out hbn hlt'.out hqm (of_decide_eq_true h2) (of_decide_eq_true h1) (hasJ_iff.1 hqn)
                  rw [hpq, HPL.out] at this
                  omega
                have HL2b := Lib.hid hl2
                have Y5 := Lib.hid y5
                have Y6 := Lib.hid (HN.out.cell hp)
                clear hx0 hqn hz4 hb2 hpq hr hz5 hp y4 y5 hl2
                go_upto_region 30 with fail
                go_cut [10] from 120 to 178 (fun s wc => s = .bool l2 ∧ Below w8.heap.size w8 wc)
                case first =>
                  cases lk with
                  | true =>
                    as_aux_lemma =>
                    obtain rfl : true = l2 := HL2b.out
                    go_quiet (fail)
                    go_wp2_with fail
                    go_meet
                    case rel => exact ⟨rfl, below_drewN HBK.out _⟩
                  | false =>
                    cases b2 with
                    | true =>
                      as_aux_lemma =>
                      obtain rfl : decide (pq < pl) = l2 := HL2b.out
                      go_quiet (fail)
                      go_wp2_with fail
                      go_meet
                      case rel => exact ⟨rfl, below_drewN HBK.out _⟩
                    | false =>
                      as_aux_lemma =>
                      obtain rfl : false = l2 := HL2b.out
                      go_quiet (fail)
                      go_wp2_with fail
                      go_meet
                      case rel => exact ⟨rfl, below_drewN HBK.out _⟩
                case rest =>
                obtain ⟨rfl, hb10⟩ := hcut
                rename_i wd _
                have HB10 := Lib.hid hb10
                have z1 := keepB Y1.out hb10
                have z2 := keepB Y2.out hb10
                have z5 := keepB Y5.out hb10
                have z6 := keepB Y6.out hb10
                clear hb10
                cases b with
                | false =>
                  as_aux_lemma =>
                  go_upto_region 31 with fail
                  go_quiet (fail)
                  go_wp2_with fail
                  go_roundw
                  case rel => exact ⟨k + 1, by omega, by go_num, by rw [HL2.out], below_drewN HB10.out _⟩
                  case measure => simp [intOf] <;> omega
                | true =>
                  cases b2 with
                  | false =>
                    as_aux_lemma =>
                    go_upto_region 31 with fail
                    go_quiet (fail)
                    go_wp2_with fail
                    go_roundw
                    case rel => exact ⟨k + 1, by omega, by go_num, by rw [HL2.out], below_drewN HB10.out _⟩
                    case measure => simp [intOf] <;> omega
                  | true =>
                    cases lb with
                    | true =>
                      as_aux_lemma =>
                      go_upto_region 31 with fail
                      go_quiet (fail)
                      go_wp2_with fail
                      go_roundw
                      case rel => exact ⟨k + 1, by omega, by go_num, by rw [HL2.out], below_drewN HB10.out _⟩
                      case measure => simp [intOf] <;> omega
                    | false =>
                      as_aux_lemma =>
                      have hno := HQP.out rfl rfl rfl
                      go_upto_region 31 with fail
                      go_quiet (fail)
                      go_wp2_with fail
                      go_roundw
                      case rel => exact ⟨k + 1, by omega, by go_num, by rw [HL2.out], below_drewN HB10.out _⟩
                      case measure => simp [intOf] <;> omega
              · obtain rfl : la = k := by omega
                have hnl : ¬ (la : Int) < (la : Int) := by omega
                have hall : lk = true := by
                  rw [← HLK.out, List.take_of_length_le (by have := HLAI.out; omega), HPP.out]
                  by_cases h0i : i = 0
                  · rw [← HLD.out, decide_eq_true h0i]; rfl
                  · cases b with
                    | false => rw [← HLD.out, Bool.not_false, Bool.or_true]; rfl
                    | true =>
                      have := led_any HMB.out HF.out h0i (of_decide_eq_true HBo.out)
                      rw [HPL.out] at this
                      rw [this, Bool.or_true]
                subst hall
                clear hlt z1 z2
                go_wp2_with fail
                go_roundw
                case rel => exact ⟨i + 1, by omega, by go_num, trivial, HBK.out⟩
                case measure => simp [intOf] <;> omega
          · obtain rfl : m = i := by omega
            have hnl : ¬ (m : Int) < (m : Int) := by omega
            have HE := Lib.hid (HB.out.trans (HBI.out.mono HB.out.size))
            go_wp2_with fail
            go_ret
            exact ⟨rfl, HE.out⟩
end Go.Proofs.Ytpaddigjjlidcaa
