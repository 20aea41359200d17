/-
  WALK: FlowWhere answers true at every function, given what the program's functions answer. Of what was there nothing has turned.
-/
import Derived.Test.YtpaddigjjlidcaaFlBk
namespace Go.Proofs.Ytpaddigjjlidcaa
open Go.RowKit

theorem Nm.sl {w : World} {g m : Nat} {l : List Int} (h : Nm w g m l) (hi : ∀ x ∈ l, I64 x) : SL 1 intR w (some ⟨g, 0, none⟩) l := by
  obtain ⟨A, c, e, -, hS⟩ := OI.sl (base := g) (v := .slice (some ⟨g, 0, none⟩) m m) (l := l) (by unfold OI; rw [h.1]; exact h.2) hi
  injection e with e1
  rw [e1]; exact hS

set_option maxRecDepth 100000 in
set_option maxHeartbeats 4000000 in
theorem flowWhere_true (C : FlC) (E : FE) (w : World) (hM : FM E w) :
    Calls Try.prog 4 #[E.v] w fun e w' => e = .returned (.bool true) ∧ Below w.heap.size w w' := by
  have HC := Lib.hid C
  have HB := Lib.hid (below_alloc w (.cells E.row 26))
  have HM := Lib.hid (hM.drop HB.out)
  obtain ⟨m, hm⟩ : ∃ m, E.f.blocks.length = m := ⟨_, rfl⟩
  have HMB := Lib.hid hm
  obtain ⟨n, hn⟩ : ∃ n, E.f.ins.length = n := ⟨_, rfl⟩
  have HNI := Lib.hid hn
  have f0 : (w.alloc (.cells E.row 26)).cell? ⟨w.heap.size, 0, none⟩ = some (.string E.f.name) := cell_new w E.row 26 0
  have f1 : (w.alloc (.cells E.row 26)).cell? ⟨w.heap.size, 1, none⟩ = some (.slice E.pA E.f.params.length E.pc) := cell_new w E.row 26 1
  have f2 : (w.alloc (.cells E.row 26)).cell? ⟨w.heap.size, 2, none⟩ = some (.string E.f.res) := cell_new w E.row 26 2
  have f3 : (w.alloc (.cells E.row 26)).cell? ⟨w.heap.size, 3, none⟩ = some (.slice E.sA E.f.slots.length E.sc) := cell_new w E.row 26 3
  have f4 : (w.alloc (.cells E.row 26)).cell? ⟨w.heap.size, 4, none⟩ = some (.slice E.iA E.f.ins.length E.ic) := cell_new w E.row 26 4
  have f5 : (w.alloc (.cells E.row 26)).cell? ⟨w.heap.size, 5, none⟩ = some (.slice E.bA E.f.blocks.length E.bc) := cell_new w E.row 26 5
  rw [hm] at f5
  rw [hn] at f4
  have hEv : E.v = .agg #[.string E.f.name, .slice E.pA E.f.params.length E.pc, .string E.f.res, .slice E.sA E.f.slots.length E.sc, .slice E.iA n E.ic, .slice E.bA m E.bc] := by rw [← hm, ← hn]; rfl
  clear hM C hm hn
  go_enter Try.func4, Try.ntmps4
  have hEr : E.row = #[.string E.f.name, .slice E.pA E.f.params.length E.pc, .string E.f.res, .slice E.sA E.f.slots.length E.sc, .slice E.iA n E.ic, .slice E.bA m E.bc] := by rw [← HMB.out, ← HNI.out]; rfl
  rw [hEr] at HB HM f0 f1 f2 f3 f4 f5
  clear hEr
  go_wp2_with fail
  generalize w.alloc (.cells #[.string E.f.name, .slice E.pA E.f.params.length E.pc, .string E.f.res, .slice E.sA E.f.slots.length E.sc, .slice E.iA n E.ic, .slice E.bA m E.bc] 26) = w1 at *
  refine (HC.out.awake w1).mono ?_
  rintro e w2 ⟨rfl, b2⟩
  replace f0 := keepB f0 b2
  replace f1 := keepB f1 b2
  replace f2 := keepB f2 b2
  replace f3 := keepB f3 b2
  replace f4 := keepB f4 b2
  replace f5 := keepB f5 b2
  replace HB := Lib.hid (HB.out.trans (b2.mono HB.out.size))
  replace HM := Lib.hid (HM.out.drop b2)
  clear b2
  go_wp2_with fail
  rw [← hEv]
  obtain ⟨gr0, hgr⟩ : ∃ b, wideB E.f = b := ⟨_, rfl⟩
  refine (lawWide_any E gr0 w2 HM.out (Lib.hid hgr)).mono ?_
  rintro e w3 ⟨rfl, b3⟩
  replace f0 := keepB f0 b3
  replace f1 := keepB f1 b3
  replace f2 := keepB f2 b3
  replace f3 := keepB f3 b3
  replace f4 := keepB f4 b3
  replace f5 := keepB f5 b3
  replace HB := Lib.hid (HB.out.trans (b3.mono HB.out.size))
  replace HM := Lib.hid (HM.out.drop b3)
  clear b3
  cases gr0 with
  | true =>
    go_wp2_with fail
    go_ret
    exact ⟨rfl, HB.out⟩
  | false =>
  have HW := Lib.hid hgr
  have hm60 : m ≤ 60 := by have := (wide_le hgr).2.1; rwa [HMB.out] at this
  have HM60 := Lib.hid hm60
  have hn300 : n ≤ 300 := by have := (wide_le hgr).1; rwa [HNI.out] at this
  have HN300 := Lib.hid hn300
  clear hgr
  go_wp2_with fail
  rw [← hEv]
  refine (HC.out.whr E w3 HM.out HW.out).mono ?_
  rintro e w4 ⟨wA, wk, rfl, hwk, hwS, b4⟩
  have hlW : (whL E.f).length = n := by unfold whL; rw [List.length_map, List.length_range, HNI.out]
  rw [hlW] at hwk ⊢
  replace f0 := keepB f0 b4
  replace f1 := keepB f1 b4
  replace f2 := keepB f2 b4
  replace f3 := keepB f3 b4
  replace f4 := keepB f4 b4
  replace f5 := keepB f5 b4
  replace HB := Lib.hid (HB.out.trans (b4.mono HB.out.size))
  replace HM := Lib.hid (HM.out.drop b4)
  have HWS := Lib.hid hwS
  have HLW := Lib.hid hlW
  clear b4 hwS hlW
  obtain ⟨i4, hi4, hy0, hy1, hy2⟩ := info_parts int_info
  have HI4 := Lib.hid hi4
  have HY0 := Lib.hid hy0
  have HY1 := Lib.hid hy1
  have HB2 : Hid (i4.bytes * n ≤ 281474976710656) := by show _ ≤ _; rw [hy2]; omega
  have HB3 : Hid (n ≤ maxLen) := by show _ ≤ _; simp only [maxLen]; omega
  clear hi4 hy0 hy1 hy2
  go_wp2_with (refine wpList_make_full _ rfl (.tmp 34) (.tmp 34) 34 rfl w4.heap.size 3 i4 _ 1 Try.underlying34 HI4.out HY0.out HY1.out .i64 .i64 n n n rfl rfl rfl rfl HB2.out HB3.out (Nat.le_refl _) ?_; intro w5 hown1 hg1; refine Hid.out ?_)
  have N0 : Hid (Nm w5 w4.heap.size n (mapR n (m1 0))) := by
    refine ⟨mapR_len _ _, ?_⟩
    rw [Nat.mul_one, show (Value.int .i64 0).cells = #[.int .i64 0] from rfl, toList_madeCells_one] at hown1
    rw [m1_start]
    unfold intsV
    rw [List.map_replicate]; exact hown1
  have B5 := Lib.hid ((Below.refl w4.heap.size w4).grown hg1 (Nat.le_refl _) (fun k hk => by cases hk))
  clear hown1 hg1 HB2 HB3 HI4 HY0 HY1
  obtain ⟨g, hg⟩ : ∃ g, w4.heap.size = g := ⟨_, rfl⟩
  have HG := Lib.hid hg
  rw [hg] at N0 B5 ⊢
  clear hg
  have C4 := Lib.hid (And.intro f0 (And.intro f1 (And.intro f2 (And.intro f3 (And.intro f4 f5)))))
  clear f0 f1 f2 f3 f4 f5
  refine Lib.hid ?_
  go_wp2_with fail
  go_loopw [5] (fun kv wr => ∃ k : Nat, k ≤ n ∧ kv = .int .i64 k ∧ Hid (Nm wr g n (mapR n (m1 k))) ∧ Below g w4 wr) (fun kv _ => n - (intOf kv).toNat)
  case atStart => exact ⟨0, Nat.zero_le _, rfl, N0, B5.out⟩
  case round =>
    obtain ⟨k, hk, rfl, HN, hb⟩ := hrel
    have HBK := Lib.hid hb
    clear hb
    by_cases hlt : k < n
    · have hlt2 : (k : Int) < (n : Int) := by omega
      have HUP : Hid (Nm (wr.setCell ⟨g, k, none⟩ (.int .i64 (-1))) g n (mapR n (m1 (k + 1)))) := by rw [← m1_up]; exact HN.out.set k _
      have HBU : Hid (Below g w4 (wr.setCell ⟨g, k, none⟩ (.int .i64 (-1)))) := HBK.out.setCell (Nat.le_refl _) _
      have z1 := HN.out.cell (mapR_get hlt)
      have hfz := HN.out.2.frozenAt k
      go_wp2_with fail
      go_roundw
      case rel => exact ⟨k + 1, by omega, by go_num, HUP, HBU.out⟩
      case measure => simp [intOf] <;> omega
    · obtain rfl : n = k := by omega
      have hnl : ¬ (n : Int) < (n : Int) := by omega
      have hb5 : Below w4.heap.size w4 wr := by rw [HG.out]; exact HBK.out
      obtain ⟨f0, f1, f2, f3, f4, f5⟩ := C4.out
      replace f5 := keepB f5 hb5
      have HN1 : Hid (Nm wr g n (mapR n (whF E.f.blocks m))) := by
        have : mapR n (whF E.f.blocks m) = mapR n (m1 n) := by
          rw [m1_end]; exact mapR_congr fun x _ => by rw [← HMB.out]; exact whF_end _ _
        rw [this]; exact HN.out
      clear hb5 hk hlt HN f0 f1 f2 f3 f4
      go_wp2_with fail
      go_loopw [6] (fun bv wr => ∃ j : Nat, ∃ y : Int, j ≤ m ∧ y = (j : Int) - 1 ∧ bv = .int .i64 y ∧ Hid (Nm wr g n (mapR n (whF E.f.blocks j))) ∧ Below g w4 wr) (fun bv _ => (intOf bv + 1).toNat)
      case atStart => exact ⟨m, _, Nat.le_refl _, rfl, by go_num, HN1, HBK.out⟩
      case round =>
        obtain ⟨j, y, hj, hy, rfl, HN, hb⟩ := hrel
        have HBJ := Lib.hid hb
        have hb5 : Below w4.heap.size w4 wr := by rw [HG.out]; exact hb
        clear hb
        by_cases hj0 : 0 < j
        · obtain ⟨b, rfl⟩ : ∃ b, j = b + 1 := ⟨j - 1, by omega⟩
          obtain rfl : y = (b : Int) := by omega
          have hge : (0 : Int) ≤ (b : Int) := by omega
          have hbm : b < m := by omega
          have hbm2 : (b : Int) < (m : Int) := by omega
          obtain ⟨B, hB⟩ : ∃ x, E.f.blocks[b]? = some x := ⟨_, List.getElem?_eq_getElem (by have := HMB.out; omega)⟩
          obtain ⟨bg, bo, hA⟩ := HM.out.B.some (by have := HMB.out; omega)
          have hBS := HM.out.B
          rw [hA] at hBS
          obtain ⟨cs, ⟨v, rfl, -, -, -, -, ⟨lA, lc, rfl, l1, l2, hL⟩⟩, h0⟩ := hBS.at hB
          have d0 := h0 0 _ rfl
          simp only [Nat.add_zero] at d0
          obtain ⟨ll, hll⟩ : ∃ n, B.list.length = n := ⟨_, rfl⟩
          rw [hll] at d0 l1 l2
          have HLL := Lib.hid hll
          have HL := Lib.hid hL
          have HBB := Lib.hid hB
          have D0 := Lib.hid d0
          have e5 := C4.out.2.2.2.2.2
          rw [hA] at e5
          have E5 := Lib.hid e5
          have HNb : Hid (Nm wr g n (mapR n (whK E.f.blocks b (B.list.take 0)))) := by
            rw [List.take_zero]; exact HN.out
          clear h0 hBS hA hL hll hB hb5 d0 e5 hy hj
          go_wp2_with fail
          go_loopw [7] (fun kv wr => ∃ k : Nat, k ≤ ll ∧ kv = .int .i64 k ∧ Hid (Nm wr g n (mapR n (whK E.f.blocks b (B.list.take k)))) ∧ Below g w4 wr) (fun kv _ => ll - (intOf kv).toNat)
          case atStart => exact ⟨0, Nat.zero_le _, rfl, HNb, HBJ.out⟩
          case round =>
            obtain ⟨k, hk, rfl, HNk, hb⟩ := hrel
            have HBK := Lib.hid hb
            have hb5 : Below w4.heap.size w4 wr := by rw [HG.out]; exact hb
            have f5 := keepB E5.out hb5
            have d0 := keepB D0.out hb5
            clear hb
            by_cases hlt : k < ll
            · have hlt2 : (k : Int) < (ll : Int) := by omega
              obtain ⟨y, hy⟩ : ∃ x, B.list[k]? = some x := ⟨_, List.getElem?_eq_getElem (by have := HLL.out; omega)⟩
              obtain ⟨lg, lo, rfl⟩ := HL.out.some (by have := HLL.out; omega)
              obtain ⟨cs, ⟨rfl, hy64⟩, hz⟩ := (HL.out.drop kp_int hb5).at hy
              have z1 := hz 0 _ rfl
              simp only [Nat.mul_one, Nat.add_zero] at z1
              clear hz hb5
              by_cases hyo : y < 0 ∨ (n : Int) ≤ y
              · have HUP : Hid (Nm wr g n (mapR n (whK E.f.blocks b (B.list.take (k + 1))))) := by rw [← whK_out k hy hyo]; exact HNk.out
                clear hy
                by_cases hy0 : y < 0
                · have hy1 : ¬ (0 : Int) ≤ y := by omega
                  clear hyo hy0
                  go_wp2_with fail
                  go_roundw
                  case rel => exact ⟨k + 1, by omega, by go_num, HUP, HBK.out⟩
                  case measure => simp [intOf] <;> omega
                · have hy1 : (0 : Int) ≤ y := by omega
                  have hy2 : ¬ y < (n : Int) := by omega
                  clear hyo hy0
                  go_wp2_with fail
                  go_roundw
                  case rel => exact ⟨k + 1, by omega, by go_num, HUP, HBK.out⟩
                  case measure => simp [intOf] <;> omega
              · obtain ⟨q, rfl⟩ : ∃ q : Nat, y = q := ⟨y.toNat, by omega⟩
                have hy1 : (0 : Int) ≤ (q : Int) := by omega
                have hy2 : (q : Int) < (n : Int) := by omega
                have hqn : q < n := by omega
                have HUP : Hid (Nm (wr.setCell ⟨g, q, none⟩ (.int .i64 (b : Int))) g n (mapR n (whK E.f.blocks b (B.list.take (k + 1))))) := by rw [← whK_in k hy]; exact HNk.out.set q _
                have HBU : Hid (Below g w4 (wr.setCell ⟨g, q, none⟩ (.int .i64 (b : Int)))) := HBK.out.setCell (Nat.le_refl _) _
                have z2 := HNk.out.cell (mapR_get hqn)
                have hfz := HNk.out.2.frozenAt q
                clear hy hyo
                go_wp2_with fail
                go_roundw
                case rel => exact ⟨k + 1, by omega, by go_num, HUP, HBU.out⟩
                case measure => simp [intOf] <;> omega
            · obtain rfl : ll = k := by omega
              have hnl : ¬ (ll : Int) < (ll : Int) := by omega
              have HUP : Hid (Nm wr g n (mapR n (whF E.f.blocks b))) := by rw [← whK_all HBB.out (Nat.le_of_eq HLL.out)]; exact HNk.out
              clear hb5
              go_wp2_with fail
              go_roundw
              case rel => exact ⟨b, _, by omega, rfl, by go_num, HUP, HBK.out⟩
              case measure => simp [intOf] <;> omega
        · obtain rfl : y = -1 := by omega
          obtain rfl : j = 0 := by omega
          have hng : ¬ (0 : Int) ≤ -1 := by omega
          obtain ⟨f0, f1, f2, f3, f4, f5⟩ := C4.out
          replace f0 := keepB f0 hb5
          replace f1 := keepB f1 hb5
          replace f2 := keepB f2 hb5
          replace f3 := keepB f3 hb5
          replace f4 := keepB f4 hb5
          replace f5 := keepB f5 hb5
          replace HB := Lib.hid (HB.out.trans (hb5.mono HB.out.size))
          replace HM := Lib.hid (HM.out.drop hb5)
          have HWL : Hid (Nm wr g n (whL E.f)) := by
            rw [← whF_whL, HNI.out]; exact HN.out
          replace HWS := Lib.hid (HWS.out.drop kp_int hb5)
          have HGW : Hid (g ≤ wr.heap.size) := by show _ ≤ _; rw [← HG.out]; exact hb5.size
          clear hb5 C4 HN HBJ HN1 HBK hy hj hj0 N0 B5
          go_wp2_with fail
          rw [← hEv]
          refine (refOrder_any E m wr HM.out HMB (Lib.hid (by have := HM60.out; omega))).mono ?_
          rintro e w6 ⟨v4, o, rfl, hR4, hO4, b6⟩
          obtain ⟨oA, c4, rfl, hc4, hS4⟩ := hO4.sl (ord_i64 hR4 (by have := HMB.out; have := HM60.out; omega))
          obtain ⟨lo, hlo⟩ : ∃ n, o.length = n := ⟨_, rfl⟩
          have HLO := Lib.hid hlo
          have hlo60 : lo ≤ m := by have := ord_len hR4; rwa [HMB.out, hlo] at this
          have HLO60 := Lib.hid hlo60
          rw [hlo] at hc4 ⊢
          have HOR := Lib.hid hR4
          have HOS := Lib.hid hS4
          replace f0 := keepB f0 b6
          replace f1 := keepB f1 b6
          replace f2 := keepB f2 b6
          replace f3 := keepB f3 b6
          replace f4 := keepB f4 b6
          replace f5 := keepB f5 b6
          replace HB := Lib.hid (HB.out.trans (b6.mono HB.out.size))
          replace HM := Lib.hid (HM.out.drop b6)
          replace HWS := Lib.hid (HWS.out.drop kp_int b6)
          replace HWL := Lib.hid (HWL.out.below b6)
          clear b6 hR4 hO4 hS4 hlo hlo60
          obtain ⟨i4, hi4, hy0, hy1, hy2⟩ := info_parts int_info
          have HI4 := Lib.hid hi4
          have HY0 := Lib.hid hy0
          have HY1 := Lib.hid hy1
          have HB2 : Hid (i4.bytes * m ≤ 281474976710656) := by show _ ≤ _; rw [hy2]; omega
          have HB3 : Hid (m ≤ maxLen) := by show _ ≤ _; simp only [maxLen]; omega
          clear hi4 hy0 hy1 hy2
          go_wp2_with (refine wpList_make_full _ rfl (.tmp 89) (.tmp 89) 34 rfl w6.heap.size 3 i4 _ 1 Try.underlying34 HI4.out HY0.out HY1.out .i64 .i64 m m m rfl rfl rfl rfl HB2.out HB3.out (Nat.le_refl _) ?_; intro w7 hown1 hg1; refine Hid.out ?_)
          have N0 : Hid (Nm w7 w6.heap.size m (mapR m (m1 0))) := by
            refine ⟨mapR_len _ _, ?_⟩
            rw [Nat.mul_one, show (Value.int .i64 0).cells = #[.int .i64 0] from rfl, toList_madeCells_one] at hown1
            rw [m1_start]
            unfold intsV
            rw [List.map_replicate]; exact hown1
          have B7 := Lib.hid ((Below.refl w6.heap.size w6).grown hg1 (Nat.le_refl _) (fun k hk => by cases hk))
          clear hown1 hg1 HB2 HB3 HI4 HY0 HY1
          obtain ⟨g2, hg2⟩ : ∃ g, w6.heap.size = g := ⟨_, rfl⟩
          have HG2 := Lib.hid hg2
          rw [hg2] at N0 B7 ⊢
          have C6 := Lib.hid (And.intro f0 (And.intro f1 (And.intro f2 (And.intro f3 (And.intro f4 f5)))))
          clear f0 f1 f2 f3 f4 f5 hg2
          refine Lib.hid ?_
          go_wp2_with fail
          go_loopw [11] (fun kv wr => ∃ k : Nat, k ≤ m ∧ kv = .int .i64 k ∧ Hid (Nm wr g2 m (mapR m (m1 k))) ∧ Below g2 w6 wr) (fun kv _ => m - (intOf kv).toNat)
          case atStart => exact ⟨0, Nat.zero_le _, rfl, N0, B7.out⟩
          case round =>
            obtain ⟨k, hk, rfl, HN, hb⟩ := hrel
            have HBK := Lib.hid hb
            clear hb
            by_cases hlt : k < m
            · have hlt2 : (k : Int) < (m : Int) := by omega
              have HUP : Hid (Nm (wr.setCell ⟨g2, k, none⟩ (.int .i64 (-1))) g2 m (mapR m (m1 (k + 1)))) := by rw [← m1_up]; exact HN.out.set k _
              have HBU : Hid (Below g2 w6 (wr.setCell ⟨g2, k, none⟩ (.int .i64 (-1)))) := HBK.out.setCell (Nat.le_refl _) _
              have z1 := HN.out.cell (mapR_get hlt)
              have hfz := HN.out.2.frozenAt k
              go_wp2_with fail
              go_roundw
              case rel => exact ⟨k + 1, by omega, by go_num, HUP, HBU.out⟩
              case measure => simp [intOf] <;> omega
            · obtain rfl : m = k := by omega
              have hnl : ¬ (m : Int) < (m : Int) := by omega
              have HN2 : Hid (Nm wr g2 m (mapR m (atN o 0))) := by rw [← atN_start, ← m1_end]; exact HN.out
              clear hk hlt HN N0 B7
              go_wp2_with fail
              go_loopw [12] (fun kv wr => ∃ k : Nat, k ≤ lo ∧ kv = .int .i64 k ∧ Hid (Nm wr g2 m (mapR m (atN o k))) ∧ Below g2 w6 wr) (fun kv _ => lo - (intOf kv).toNat)
              case atStart => exact ⟨0, Nat.zero_le _, rfl, HN2, HBK.out⟩
              case round =>
                obtain ⟨k, hk, rfl, HN, hb⟩ := hrel
                have HBK := Lib.hid hb
                have hb5 : Below w6.heap.size w6 wr := by rw [HG2.out]; exact hb
                clear hb
                by_cases hlt : k < lo
                · have hlt2 : (k : Int) < (lo : Int) := by omega
                  have hF := ord_facts HOR.out (by have := HMB.out; have := HLO60.out; omega)
                  obtain ⟨x0, hx0⟩ : ∃ x, o[k]? = some x := ⟨_, List.getElem?_eq_getElem (by have := HLO.out; omega)⟩
                  have hrg := hF.rg x0 (List.mem_of_getElem? hx0)
                  obtain ⟨x, rfl⟩ : ∃ x : Nat, x0 = x := ⟨x0.toNat, by omega⟩
                  have hxm : x < m := by have := HMB.out; omega
                  obtain ⟨og, oo, rfl⟩ := HOS.out.some (by have := HLO.out; omega)
                  obtain ⟨cs, ⟨rfl, -⟩, hz1⟩ := (HOS.out.drop kp_int hb5).at hx0
                  have z1 := hz1 0 _ rfl
                  simp only [Nat.mul_one, Nat.add_zero] at z1
                  have z2 := HN.out.cell (mapR_get hxm)
                  have hfz := HN.out.2.frozenAt x
                  have HUP : Hid (Nm (wr.setCell ⟨g2, x, none⟩ (.int .i64 (k : Int))) g2 m (mapR m (atN o (k + 1)))) := by rw [← atN_up hF.nd hx0]; exact HN.out.set x _
                  have HBU : Hid (Below g2 w6 (wr.setCell ⟨g2, x, none⟩ (.int .i64 (k : Int)))) := HBK.out.setCell (Nat.le_refl _) _
                  have hlom : lo ≤ m := HLO60.out
                  clear hF hx0 hrg hz1 hb5
                  go_wp2_with fail
                  go_roundw
                  case rel => exact ⟨k + 1, by omega, by go_num, HUP, HBU.out⟩
                  case measure => simp [intOf] <;> omega
                · obtain rfl : lo = k := by omega
                  have hnl2 : ¬ (lo : Int) < (lo : Int) := by omega
                  obtain ⟨f0, f1, f2, f3, f4, f5⟩ := C6.out
                  replace f0 := keepB f0 hb5
                  replace f1 := keepB f1 hb5
                  replace f2 := keepB f2 hb5
                  replace f3 := keepB f3 hb5
                  replace f4 := keepB f4 hb5
                  replace f5 := keepB f5 hb5
                  replace HB := Lib.hid (HB.out.trans (hb5.mono HB.out.size))
                  replace HM := Lib.hid (HM.out.drop hb5)
                  replace HWS := Lib.hid (HWS.out.drop kp_int hb5)
                  replace HWL := Lib.hid (HWL.out.below hb5)
                  clear hb5 hk hlt HN2 HBK HOS C6
                  go_wp2_with fail
                  rw [← hEv]
                  refine (HC.out.back E _ HM.out HW.out).mono ?_
                  rintro e w8 ⟨o', hor', bA, bk, rfl, hbk, hbS, b8⟩
                  obtain rfl : o = o' := ord_uniq HOR.out hor'
                  obtain ⟨nb, hnb⟩ : ∃ n, (backL E.f.blocks o).length = n := ⟨_, rfl⟩
                  have HNB := Lib.hid hnb
                  have hnbs : nb ≤ 3600 := by
                    have h1 := backTo_len E.f.blocks o m
                    rw [← HMB.out, ← back_eq, hnb, HMB.out] at h1
                    have h2 : m * m ≤ 60 * 60 := Nat.mul_le_mul HM60.out HM60.out
                    omega
                  have HNBS := Lib.hid hnbs
                  rw [hnb] at hbk ⊢
                  replace f0 := keepB f0 b8
                  replace f1 := keepB f1 b8
                  replace f2 := keepB f2 b8
                  replace f3 := keepB f3 b8
                  replace f4 := keepB f4 b8
                  replace f5 := keepB f5 b8
                  replace HB := Lib.hid (HB.out.trans (b8.mono HB.out.size))
                  replace HM := Lib.hid (HM.out.drop b8)
                  replace HWS := Lib.hid (HWS.out.drop kp_int b8)
                  replace HWL := Lib.hid (HWL.out.below b8)
                  replace HN := Lib.hid (HN.out.below b8)
                  have HBS := Lib.hid hbS
                  have C8 := Lib.hid (And.intro f0 (And.intro f1 (And.intro f2 (And.intro f3 (And.intro f4 f5)))))
                  clear b8 hbS hor' hnb hnbs f0 f1 f2 f3 f4 f5
                  have HB60 : Hid (bkN E.f.blocks o 0 0 = 0) := by show _ = _; rw [bkN_zero]; rfl
                  go_wp2_with fail
                  go_loopw [14, 15] (fun nv iv wr => ∃ i : Nat, i ≤ m ∧ iv = .int .i64 i ∧ nv = .int .i64 (bkN E.f.blocks o i 0) ∧ Below w8.heap.size w8 wr) (fun _ iv _ => m - (intOf iv).toNat)
                  case atStart => exact ⟨0, Nat.zero_le _, rfl, by rw [HB60.out]; rfl, Below.refl _ _⟩
                  case round =>
                    obtain ⟨i, hi, rfl, rfl, hb⟩ := hrel
                    have HBI := Lib.hid hb
                    have f5 := keepB C8.out.2.2.2.2.2 hb
                    clear hb
                    by_cases hlt : i < m
                    · have hlt2 : (i : Int) < (m : Int) := by omega
                      have hF := ord_facts HOR.out (by have := HMB.out; omega)
                      have HF := Lib.hid hF
                      obtain ⟨pl, hpl⟩ : ∃ p, plN o i = p := ⟨_, rfl⟩
                      have hp : (mapR m (atN o lo))[i]? = some pl := by rw [atN_all hlt (Nat.le_of_eq HLO.out), hpl]
                      have Y2 := Lib.hid (HN.out.cell hp)
                      have HPL := Lib.hid hpl
                      have hlt' := Lib.hid hlt
                      clear hF hp hlt hpl
                      go_wp2_with fail
                      clear f5
                      go_loopw [14, 16] (fun nv kv wr => ∃ k : Nat, k ≤ m ∧ kv = .int .i64 k ∧ nv = .int .i64 (bkN E.f.blocks o i k) ∧ Below w8.heap.size w8 wr) (fun _ kv _ => m - (intOf kv).toNat)
                      case atStart => exact ⟨0, Nat.zero_le _, rfl, rfl, HBI.out⟩
                      case round =>
                        obtain ⟨k, hk, rfl, rfl, hb⟩ := hrel
                        have HBK := Lib.hid hb
                        have f5 := keepB C8.out.2.2.2.2.2 hb
                        have z2 := keepB Y2.out hb
                        by_cases hio : (i : Int) ∈ o
                        · have hpl : pl = (o.idxOf (i : Int) : Int) := by rw [← HPL.out]; unfold plN; rw [if_pos hio]
                          have hpl0 : (0 : Int) ≤ pl := by omega
                          by_cases hlt : k < m
                          · have hlt3 : (k : Int) < (m : Int) := by omega
                            have e0 := keepB C8.out.1 hb
                            have e1 := keepB C8.out.2.1 hb
                            have e2 := keepB C8.out.2.2.1 hb
                            have e3 := keepB C8.out.2.2.2.1 hb
                            have e4 := keepB C8.out.2.2.2.2.1 hb
                            have HMK := Lib.hid (HM.out.drop hb)
                            have hpk : (mapR m (atN o lo))[k]? = some (plN o k) := atN_all hlt (Nat.le_of_eq HLO.out)
                            have Y3 := Lib.hid (keepB (HN.out.cell hpk) hb)
                            have Y2b := Lib.hid z2
                            have HPI := Lib.hid hpl
                            have HIO := Lib.hid hio
                            clear hb hpl hpk
                            go_wp2_with fail
                            rw [← hEv]
                            refine (refNext_any E i _ HMK.out ⟨by omega, by omega⟩).mono ?_
                            rintro e w9 ⟨v2, rfl, hO2, b9⟩
                            obtain ⟨tA, tc, rfl, htc, hS2⟩ := hO2.sl (next_i64 (by have := HM.out.bl; omega))
                            obtain ⟨ln, hln⟩ : ∃ n, (nextL E.f.blocks i).length = n := ⟨_, rfl⟩
                            have hln2 : ln ≤ 2 := hln ▸ next_two _ _
                            rw [hln] at htc ⊢
                            have HS2 := Lib.hid hS2
                            have HLN := Lib.hid hln
                            have HB9 := Lib.hid (HBK.out.trans (b9.mono HBK.out.size))
                            have Y4 := Lib.hid (keepB Y3.out b9)
                            have Y5 := Lib.hid (keepB Y2b.out b9)
                            clear e0 e1 e2 e3 e4 f5 z2 hO2 hS2 hln b9 Y3 Y2b HMK
                            go_wp2_with fail
                            go_loopw [17, 19] (fun lv jv wr => ∃ j : Nat, j ≤ ln ∧ jv = .int .i64 j ∧ lv = .bool (hasJ ((nextL E.f.blocks i).take j) k) ∧ Below w9.heap.size w9 wr) (fun _ jv _ => ln - (intOf jv).toNat)
                            case atStart => exact ⟨0, Nat.zero_le _, rfl, rfl, Below.refl _ _⟩
                            case round =>
                              obtain ⟨j, hj, rfl, rfl, hb⟩ := hrel
                              have HBJ := Lib.hid hb
                              by_cases hjl : j < ln
                              · obtain ⟨x, hx⟩ : ∃ x, (nextL E.f.blocks i)[j]? = some x := ⟨_, List.getElem?_eq_getElem (by have := HLN.out; omega)⟩
                                obtain ⟨tg, tp, rfl⟩ := HS2.out.some (by have := HLN.out; omega)
                                obtain ⟨cs, ⟨rfl, -⟩, hz⟩ := (HS2.out.drop kp_int hb).at hx
                                have z1 := hz 0 _ rfl
                                simp only [Nat.mul_one, Nat.add_zero] at z1
                                have HUP := Lib.hid (hasJ_up (n := (k : Int)) hx)
                                obtain ⟨q, hq⟩ : ∃ b, hasJ ((nextL E.f.blocks i).take j) k = b := ⟨_, rfl⟩
                                have HQ := Lib.hid hq
                                rw [hq]
                                clear hz hx hq hb
                                cases q with
                                | true =>
                                  have HV : Hid (hasJ ((nextL E.f.blocks i).take (j + 1)) k = true) := by show _ = _; rw [HUP.out, HQ.out, Bool.true_or]
                                  go_wp2_with fail
                                  go_roundw
                                  case rel => exact ⟨j + 1, by omega, by go_num, by rw [HV.out], HBJ.out⟩
                                  case measure => simp [intOf] <;> omega
                                | false =>
                                  have HV : Hid (hasJ ((nextL E.f.blocks i).take (j + 1)) k = (x == (k : Int))) := by show _ = _; rw [HUP.out, HQ.out, Bool.false_or]
                                  go_wp2_with fail
                                  go_roundw
                                  case rel => exact ⟨j + 1, by omega, by go_num, by rw [HV.out], HBJ.out⟩
                                  case measure => simp [intOf] <;> omega
                              · have hqa : hasJ ((nextL E.f.blocks i).take j) k = hasJ (nextL E.f.blocks i) k := by rw [List.take_of_length_le (by have := HLN.out; omega)]
                                rw [hqa]
                                obtain ⟨q, hq⟩ : ∃ b, hasJ (nextL E.f.blocks i) k = b := ⟨_, rfl⟩
                                have HQ := Lib.hid hq
                                rw [hq]
                                have HBX := Lib.hid (HB9.out.trans (hb.mono HB9.out.size))
                                have z3 := keepB Y4.out hb
                                have z2 := keepB Y5.out hb
                                obtain ⟨nn, hnn⟩ : ∃ n, bkN E.f.blocks o i k = n := ⟨_, rfl⟩
                                have HNN := Lib.hid hnn
                                rw [hnn]
                                clear hqa hq hb hnn
                                cases q with
                                | false =>
                                  have HNX : Hid (bkN E.f.blocks o i (k + 1) = nn) := by
                                    show _ = _
                                    rw [bkN_no, HNN.out]
                                    rw [decide_eq_false (fun h => by have := hasJ_iff.2 h; rw [HQ.out] at this; cases this), Bool.false_and]
                                  go_wp2_with fail
                                  go_quiet (fail)
                                  go_wp2_with fail
                                  go_roundw
                                  case rel => exact ⟨k + 1, by omega, by go_num, by rw [HNX.out], below_drewN HBX.out _⟩
                                  case measure => simp [intOf] <;> omega
                                | true =>
                                  have hkn : (k : Int) ∈ nextL E.f.blocks i := hasJ_iff.1 HQ.out
                                  have hko := next_ord HF.out HIO.out hkn
                                  obtain ⟨ki, hki⟩ : ∃ n, o.idxOf (k : Int) = n := ⟨_, rfl⟩
                                  have hpk : plN o k = (ki : Int) := by unfold plN; rw [if_pos hko, hki]
                                  rw [hpk] at z3
                                  obtain ⟨ii, hii⟩ : ∃ n, o.idxOf (i : Int) = n := ⟨_, rfl⟩
                                  have hpi : pl = (ii : Int) := by rw [HPI.out, hii]
                                  subst hpi
                                  have HKI := Lib.hid hki
                                  have HII := Lib.hid hii
                                  have HKN := Lib.hid hkn
                                  clear hkn hko hki hii hpk
                                  by_cases hgt : ii < ki
                                  · have hgt2 : (ii : Int) < (ki : Int) := by omega
                                    have HNX : Hid (bkN E.f.blocks o i (k + 1) = nn) := by
                                      show _ = _
                                      rw [bkN_no, HNN.out]
                                      rw [HKI.out, HII.out, decide_eq_false (show ¬ ki ≤ ii by omega), Bool.and_false]
                                    clear hgt
                                    go_wp2_with fail
                                    go_quiet (fail)
                                    go_wp2_with fail
                                    go_roundw
                                    case rel => exact ⟨k + 1, by omega, by go_num, by rw [HNX.out], below_drewN HBX.out _⟩
                                    case measure => simp [intOf] <;> omega
                                  · have hgt2 : ¬ (ii : Int) < (ki : Int) := by omega
                                    obtain ⟨hb1, hb2⟩ := bkN_yes (bl := E.f.blocks) (o := o) (i := i) (k := k) HIO.out (by have := HMB.out; have := hlt'.out; omega) (by have := HMB.out; omega) (by
                                      rw [HKI.out, HII.out, decide_eq_true HKN.out, decide_eq_true (show ki ≤ ii by omega)]; rfl)
                                    rw [HNN.out] at hb1 hb2
                                    have hnns : nn < 4000 := by
                                      have h1 := (List.getElem?_eq_some_iff.1 hb2).1
                                      have := HNB.out; have := HNBS.out; omega
                                    have hnb : nn < nb := by have := (List.getElem?_eq_some_iff.1 hb2).1; rwa [HNB.out] at this
                                    obtain ⟨bg, bo, rfl⟩ := HBS.out.some (by have := HNB.out; omega)
                                    obtain ⟨cs, ⟨rfl, -⟩, hz⟩ := (HBS.out.drop kp_pr HBX.out).at hb2
                                    have z4 := hz 0 _ rfl
                                    have z5 := hz 1 _ rfl
                                    simp only [Nat.add_zero] at z4
                                    have HNX := Lib.hid hb1
                                    clear hz hb1 hb2 hgt
                                    go_wp2_with fail
                                    go_quiet (fail)
                                    go_wp2_with fail
                                    go_roundw
                                    case rel => exact ⟨k + 1, by omega, by go_num, by rw [HNX.out]; go_num, below_drewN HBX.out _⟩
                                    case measure => simp [intOf] <;> omega
                          · obtain rfl : m = k := by omega
                            have HNX : Hid (bkN E.f.blocks o i m = bkN E.f.blocks o (i + 1) 0) := by show _ = _; rw [bkN_all _ _ _ _ HMB.out.symm, bkN_zero]
                            rw [HNX.out]
                            have hnl3 : ¬ (m : Int) < (m : Int) := by omega
                            clear hb hpl
                            go_wp2_with fail
                            go_roundw
                            case rel => exact ⟨i + 1, by omega, by go_num, rfl, HBK.out⟩
                            case measure => simp [intOf] <;> omega
                        · have hpl : pl = -1 := by rw [← HPL.out]; unfold plN; rw [if_neg hio]
                          have hpl0 : ¬ (0 : Int) ≤ pl := by omega
                          have HNX : Hid (bkN E.f.blocks o i k = bkN E.f.blocks o (i + 1) 0) := by show _ = _; rw [bkN_off hio, bkN_zero]
                          rw [HNX.out]
                          clear hpl hb
                          go_wp2_with fail
                          go_roundw
                          case rel => exact ⟨i + 1, by omega, by go_num, rfl, HBK.out⟩
                          case measure => simp [intOf] <;> omega
                    · obtain rfl : m = i := by omega
                      have hnl3 : ¬ (m : Int) < (m : Int) := by omega
                      have HNX : Hid (bkN E.f.blocks o m 0 = nb) := by show _ = _; rw [bkN_zero, ← HNB.out, back_eq, HMB.out]
                      rw [HNX.out]
                      have HSW := Lib.hid (HWS.out.drop kp_int HBI.out)
                      have HSL := Lib.hid ((HWL.out.below HBI.out).sl (fun x hx => by
                        obtain ⟨q, hq, rfl⟩ := List.mem_iff_getElem.1 hx
                        obtain ⟨b', o', -, -, hc⟩ := HWS.out (by omega)
                        obtain ⟨cs, ⟨-, h64⟩, -⟩ := hc q _ (List.getElem?_eq_getElem hq)
                        exact h64))
                      have HBW := Lib.hid (HB.out.trans (HBI.out.mono HB.out.size))
                      go_wp2_with fail
                      refine (lawSame_any wA (some ⟨g, 0, none⟩) wk n n n (whL E.f) (whL E.f) true _ HSW.out HSL.out HLW HLW (by have := HN300.out; omega) (by have := HN300.out; omega) (Lib.hid ⟨fun _ => rfl, fun _ => rfl⟩)).mono ?_
                      rintro e w9 ⟨rfl, b9⟩
                      have HBZ := Lib.hid (HBW.out.trans (b9.mono HBW.out.size))
                      clear b9 f5
                      go_wp2_with fail
                      go_ret
                      exact ⟨rfl, HBZ.out⟩
end Go.Proofs.Ytpaddigjjlidcaa
