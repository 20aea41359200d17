/-
  CONTRACTS: Reach of package heap, at whatever heap, nil too: all that are reached, rising. Conditions: none of our own.
-/
import Derived.Test.YtjgmhkplgenieaaDoorHAdd
import Derived.Test.YtjgmhkplgenieaaDoorHMake
namespace Go.Proofs.YtjgmhkplgenieaaDoor
open Go.RowKit

theorem own_shortZ {w : World} {base : Nat} {e : TypeId} {g n cap : Nat} {xs : List Value} {x : Value} (h : w.ownsRow base e 1 (.slice (some ⟨g, 0, none⟩) (n + 1) cap) (n + 1) (xs ++ [x])) : w.ownsRow base e 1 (.slice (some ⟨g, 0, none⟩) n cap) n xs := by
  obtain ⟨h1, h2⟩ := h
  have hl : xs.length = n := by simpa using h1
  refine ⟨by omega, .inr ?_⟩
  rcases h2 with ⟨h2, _⟩ | ⟨g', cap', cur, h2, h3, h4, h5, h6, h7, h8⟩
  · cases h2
  · injection h2 with e1 e2 e3
    injection e1 with e1
    injection e1 with e1
    subst e1
    subst e3
    refine ⟨g, cap, cur, rfl, h3, h4, by omega, h6, h7, ?_⟩
    have := congrArg (List.take n) h8
    rw [List.take_take, show min n ((n + 1) * 1) = n by omega, List.take_append_of_le_length (by omega), List.take_of_length_le (l := xs) (by omega)] at this
    rw [Nat.mul_one]; exact this
theorem addS_len (H : Option Hp) (l : List Int) : ∀ s : List Bool × List Int, s.2.length ≤ (addS H s l).2.length := by
  induction l with
  | nil => intro s; exact Nat.le_refl _
  | cons a r ih =>
    intro s
    refine Nat.le_trans ?_ (ih (addF H s a))
    unfold addF
    split
    · simp
    · exact Nat.le_refl _
def measR (w : World) (B m : Nat) : Nat := cntW w (B + 1) m * 2 + (match w.cell? ⟨B + 3, 0, none⟩ with | some v => lenV v | none => 0)
theorem RM.meas {w : World} {B m : Nat} {hv wv : Value} {fl : List Bool} {ws : List Int} (h : RM w B m hv fl wv ws) : measR w B m = fl.count false * 2 + ws.length := by
  obtain ⟨A, c, rfl, _⟩ := own_form h.O
  unfold measR
  rw [h.F.cnt, cell_of_row w (B + 3) 0 _ 24 (0, 0) h.th]; rfl
theorem RM.pop {w : World} {B m g q cap : Nat} {hv : Value} {fl : List Bool} {ws : List Int} {x : Int} (h : RM w B m hv fl (.slice (some ⟨g, 0, none⟩) (q + 1) cap) (ws ++ [x])) (hq : ws.length = q) :
    RM (w.setCell ⟨B + 3, 0, none⟩ (.slice (some ⟨g, 0, none⟩) q cap)) B m hv fl (.slice (some ⟨g, 0, none⟩) q cap) ws ∧ Below B w (w.setCell ⟨B + 3, 0, none⟩ (.slice (some ⟨g, 0, none⟩) q cap)) := by
  have hz := h.size
  have s3 : Sv (fun k => k = B + 3) w (w.setCell ⟨B + 3, 0, none⟩ (.slice (some ⟨g, 0, none⟩) q cap)) := (Sv.refl (fun k => k = B + 3) w).setCell (p := ⟨B + 3, 0, none⟩) (.inl rfl) _
  refine ⟨⟨(s3.block _ (by omega) (by omega)).trans h.vh, h.F.sv s3 (by omega), (s3.block _ (by omega) (by omega)).trans h.fh, heap_setCell_same w (B + 3) 0 _ 24 _ h.th, ?_⟩, s3.below (fun i hi => by omega) (by omega)⟩
  have ho := h.O
  rw [show (ws ++ [x]).length = q + 1 by rw [List.length_append, hq]; rfl] at ho
  rw [hq]
  have e : intsZ (ws ++ [x]) = intsZ ws ++ [.int .i64 x] := by unfold intsZ; rw [List.map_append]; rfl
  rw [e] at ho
  exact own_sv (own_shortZ ho) s3 (fun y hy e => by have := (ho.lt y hy).1; omega)
def OutRel (w : World) (B m : Nat) (fl : List Bool) (v j : Value) (wr : World) : Prop :=
  ∃ k n : Nat, k ≤ m ∧ j = .int .i64 k ∧ Hid ((allK fl k).length = n) ∧ n ≤ k ∧ Hid (wr.ownsRow (B + 4) 3 1 v n (intsZ (allK fl k))) ∧ Hid (Fl wr (B + 1) m fl) ∧ Hid (Below B w wr) ∧ B + 4 ≤ wr.heap.size
theorem allK_no {fl : List Bool} {k : Nat} (h : fl[k]? = some false) : allK fl (k + 1) = allK fl k := by rw [allK, h]; simp
theorem allK_yes {fl : List Bool} {k : Nat} (h : fl[k]? = some true) : allK fl (k + 1) = allK fl k ++ [(k : Int) + 1] := by rw [allK, h]; simp
def ReachQ (H : Option Hp) (roots : List Int) (w : World) (e : Ending) (w' : World) : Prop :=
  ∃ A c ls, HRc H roots ls ∧ ls.length ≤ lenO H ∧ e = .returned (.slice A ls.length c) ∧ IRz w' A ls ∧ Below w.heap.size w w' ∧ ∀ a, A = some a → w.heap.size ≤ a.block
def RchRel (w : World) (B m : Nat) (hv : Value) (H : Option Hp) (roots : List Int) (wr : World) : Prop :=
  ∃ (fl : List Bool) (wv : Value) (ws : List Int), Hid (DI H roots fl ws) ∧ Hid (RM wr B m hv fl wv ws) ∧ Hid (Below B w wr) ∧ Hid (fl.count false + ws.length ≤ m)

theorem PM.form {w : World} {P : Nat → Prop} {v : Value} {H : Option Hp} (h : PM w P v H) : ∃ hp, v = .pointer hp := by
  cases H with
  | none => exact ⟨none, h⟩
  | some H => obtain ⟨hb, _, _, e, _⟩ := h; exact ⟨_, e⟩

set_option maxRecDepth 100000 in
set_option maxHeartbeats 2000000 in
theorem reach_all (P : Nat → Prop) (hv : Value) (H : Option Hp) (m n c : Nat) (roots : List Int) (A : Option Addr) (w : World) (h : PM w P hv H) (hl : IRz w A roots) (hn : Hid (roots.length = n)) (hnl : n ≤ 281474976710656) (hm : Hid (lenO H = m)) (hm2 : m ≤ 131072) :
    Calls Tryd.prog 16 #[hv, .slice A n c] w (ReachQ H roots w) := by
  obtain ⟨i0, hi0, hz0, hz1, hz2⟩ := info_parts int_info
  obtain ⟨i4, hi4, hy0, hy1, hy2⟩ := info_parts bool_info
  have HI0 := Lib.hid hi0
  have HZ0 := Lib.hid hz0
  have HZ1 := Lib.hid hz1
  have HZ2 := Lib.hid hz2
  have HI4 := Lib.hid hi4
  have HY0 := Lib.hid hy0
  have HY1 := Lib.hid hy1
  obtain ⟨hp, rfl⟩ := h.form
  have HP := Lib.hid h
  have HL := Lib.hid hl
  have HB2 : Hid (i4.bytes * m ≤ 281474976710656) := by show _ ≤ _; rw [hy2]; omega
  have HB3 : Hid (m ≤ maxLen) := by show _ ≤ _; simp only [maxLen]; omega
  have hAl : ∀ a, A = some a → 0 < n → a.block < w.heap.size := by
    intro a ha h0
    obtain ⟨b, o, e, h1, _⟩ := hl (by rw [hn.out]; exact h0)
    rw [ha] at e
    cases e
    exact h1
  have HAL := Lib.hid hAl
  clear hi0 hz0 hz1 hz2 h hl hi4 hy0 hy1 hy2 hAl
  have hmf : ∀ (fn : Fn) (first cap : Array Value) (w : World), (Instr.makeFunc fn first cap).run Tryd.prog w = .ok (.func fn first cap) w := fun _ _ _ _ => rfl
  have HP0 := Lib.hid (fun w' (hb : Below w.heap.size w w') => HP.out.below hb)
  have HPA := Lib.hid (HP0.out _ ((Below.refl w.heap.size w).alloc (Nat.le_refl _) (.cells #[.pointer hp] 27)))
  go_enter Tryd.func16, Tryd.ntmps16
  go_wp2_with (first | (go_at_call 14; refine (len_any P _ H _ HPA.out).mono ?_; rintro e w' ⟨rfl, rfl⟩; rw [hm.out]; refine Hid.out ?_))
  refine Lib.hid ?_
  go_wp2_with (first | (refine wpList_make_size _ rfl (.tmp 14) (.tmp 14) 55 rfl (w.heap.size + 1) 4 i4 _ 1 Tryd.underlying55 HI4.out HY0.out HY1.out .i64 .i64 m m m rfl rfl rfl rfl HB2.out HB3.out (by simp) ?_; intro w1 hown1 hb1 hz1; refine Hid.out ?_))
  have hz1' : w1.heap.size = w.heap.size + 2 := by rw [hz1]; simp
  rw [show (w.alloc (.cells #[.pointer hp] 27)).heap.size = w.heap.size + 1 by simp] at hown1
  have F1 : Hid (Fl w1 (w.heap.size + 1) m (List.replicate m false)) := by
    refine ⟨List.length_replicate, ?_⟩
    have := hown1
    rw [Nat.mul_one, show (Value.bool false).cells = #[.bool false] from rfl, toList_madeCells_one] at this
    unfold boolsOf
    rw [List.map_replicate]; exact this
  have V1 : Hid (w1.heap[w.heap.size]? = some (.cells #[.pointer hp] 27 (0, 0))) := (hb1.block _ (by simp)).trans (heap_alloc_new w _)
  have B1 : Hid (Below w.heap.size w w1) := ((Below.refl _ w).alloc (Nat.le_refl _) _).trans (hb1.mono (by simp))
  clear hown1 hb1 hz1
  refine Lib.hid ?_
  go_wp2_with (first | (go_at_call 34; refine Hid.out ?_))
  have R0 : RM ((w1.alloc (.cells #[.slice (some ⟨w.heap.size + 1, 0, none⟩) m m] 55)).alloc (.cells #[.slice none 0 0] 24)) w.heap.size m (.pointer hp) (List.replicate m false) (.slice none 0 0) [] := by
    have b2 : Below w1.heap.size w1 ((w1.alloc (.cells #[.slice (some ⟨w.heap.size + 1, 0, none⟩) m m] 55)).alloc (.cells #[.slice none 0 0] 24)) := ((Below.refl _ w1).alloc (Nat.le_refl _) _).alloc (by simp) _
    have e2 : (w1.alloc (.cells #[.slice (some ⟨w.heap.size + 1, 0, none⟩) m m] 55)).heap.size = w.heap.size + 3 := by simp [hz1']
    refine ⟨(b2.block _ (by omega)).trans V1.out, F1.out.sv (Sv.of (P := fun _ => False) b2) id, ?_, ?_, World.ownsRow_nil _ _ _ _⟩
    · rw [Below.heap_alloc _ _ _ (by omega)]
      have := heap_alloc_new w1 (.cells #[.slice (some ⟨w.heap.size + 1, 0, none⟩) m m] 55)
      rwa [hz1'] at this
    · have := heap_alloc_new (w1.alloc (.cells #[.slice (some ⟨w.heap.size + 1, 0, none⟩) m m] 55)) (.cells #[.slice none 0 0] 24)
      rwa [e2] at this
  have B0 : Hid (Below w.heap.size w ((w1.alloc (.cells #[.slice (some ⟨w.heap.size + 1, 0, none⟩) m m] 55)).alloc (.cells #[.slice none 0 0] 24))) := (B1.out.alloc (by omega) _).alloc (by simp; omega) _
  have R0 := Lib.hid R0
  clear F1 V1 B1 HPA
  generalize (w1.alloc (.cells #[.slice (some ⟨w.heap.size + 1, 0, none⟩) m m] 55)).alloc (.cells #[.slice none 0 0] 24) = w3 at *
  refine Lib.hid ?_
  have HPB : Hid (∀ w', Below w.heap.size w3 w' → PM w' P (.pointer hp) H) := fun w' hb => HP0.out w' (B0.out.trans hb)
  refine (add_cl P (.pointer hp) H w.heap.size m n c (List.replicate m false, []) (.slice none 0 0) roots A w3 R0.out HPB (HL.out.below B0.out (Nat.le_refl _)) ?_ hn hnl hm hm2 (by simp)).mono ?_
  · intro h0 a ha
    exact .inl (HAL.out a ha h0)
  rintro e w4 ⟨rfl, b4, wv4, r4⟩
  have D4 : DI H roots (addS H (List.replicate m false, []) roots).1 (addS H (List.replicate m false, []) roots).2 := by
    have := DI.start H roots
    rw [hm.out] at this
    exact this
  have HC4 : (addS H (List.replicate m false, []) roots).1.count false + (addS H (List.replicate m false, []) roots).2.length ≤ m := by
    have := (addS_all (H := H) (l := roots) (fl := List.replicate m false) (ws := []) (by rw [hm.out]; simp)).2.2.2
    rw [this]; simp
  have D4 := Lib.hid D4
  have HC4 := Lib.hid HC4
  have R4 := Lib.hid r4
  have B4 := Lib.hid (B0.out.trans b4)
  clear b4 r4 R0 HPB B0
  generalize addS H (List.replicate m false, []) roots = st at *
  go_wp2_with fail
  go_loopw [8] (fun _ wr => RchRel w w.heap.size m (.pointer hp) H roots wr) (fun _ wr => measR wr w.heap.size m)
  case atStart => exact ⟨st.1, wv4, st.2, D4, R4, B4, HC4⟩
  case round =>
    obtain ⟨fl, wv, ws, HD, HM, HB, HC⟩ := hrel
    have hzr := HM.out.size
    have v0 : wr.cell? ⟨w.heap.size, 0, none⟩ = some (.pointer hp) := cell_of_row wr w.heap.size 0 _ 27 (0, 0) HM.out.vh
    have f0 : wr.cell? ⟨w.heap.size + 2, 0, none⟩ = some (.slice (some ⟨w.heap.size + 1, 0, none⟩) m m) := cell_of_row wr (w.heap.size + 2) 0 _ 55 (0, 0) HM.out.fh
    have t0 : wr.cell? ⟨w.heap.size + 3, 0, none⟩ = some wv := cell_of_row wr (w.heap.size + 3) 0 _ 24 (0, 0) HM.out.th
    have t1 : wr.frozen? ⟨w.heap.size + 3, 0, none⟩ = false := frozen_of_row wr (w.heap.size + 3) 0 _ 24 HM.out.th
    have hme := HM.out.meas
    obtain ⟨q, hq⟩ : ∃ q, ws.length = q := ⟨_, rfl⟩
    cases q with
    | zero =>
      obtain rfl : ws = [] := List.length_eq_zero_iff.1 hq
      obtain ⟨A6, c6, rfl, _⟩ := own_form HM.out.O
      have HRC := Lib.hid (hrc_of HD.out)
      rw [hm.out] at HRC
      have HFL := Lib.hid HM.out.F
      clear HD HC hme HM
      go_wp2_with fail
      go_loopw [10, 40] (fun v j wr => OutRel w w.heap.size m fl v j wr) (fun _ j _ => m - (intOf j).toNat)
      case atStart => exact ⟨0, 0, Nat.zero_le _, rfl, rfl, Nat.le_refl _, World.ownsRow_nil _ _ _ _, HFL, HB, by omega⟩
      case round =>
        obtain ⟨k, n2, hk, rfl, HN, hnk, HW, HF, HBr, hzz⟩ := hrel
        by_cases hlt : k < m
        · obtain ⟨b, hb⟩ : ∃ b, fl[k]? = some b := ⟨_, List.getElem?_eq_getElem (by have := HF.out.1; omega)⟩
          have hfc := HF.out.cell hb
          have hlt' : (k : Int) < (m : Int) := by omega
          have hw : IntKind.i64.wrap ((k : Int) + 1) = (k : Int) + 1 := IntWalk.i64_in _ (by omega)
          cases b with
          | false =>
            have hno := Lib.hid (allK_no hb)
            clear hb
            go_wp2_with fail
            go_roundw
            case rel => exact ⟨k + 1, n2, by omega, by go_num, by show _ = _; rw [hno.out]; exact HN.out, by omega, by show World.ownsRow _ _ _ _ _ _ _; rw [hno.out]; exact HW.out, HF, HBr, hzz⟩
            case measure => simp [intOf]; omega
          | true =>
            have hys := Lib.hid (allK_yes hb)
            clear hb
            go_wp2_with (at_builtin; refine Hid.out ?_)
            refine Lib.hid ?_
            refine wpList_append_lies _ rfl (.tmp 46) (.tmp 49) _ rfl (w.heap.size + 4) 3 i0 _ 1 8 Tryd.underlying24 HI0.out HZ0.out HZ1.out HZ2.out rfl (by omega) u10 n2 _ rfl (HW.out.alloc _) ⟨wr.heap.size, 0, none⟩ 1 1 [.int .i64 ((k : Int) + 1)] rfl rfl (by exact news0 wr 3 _) (by simp [Value.oneCell']) (by omega) (by simp only [maxLen]; omega) (by omega) (by simp; omega) (wr.heap.size + 1) (by simp) ?_
            intro g cap w6 hown hg hat hlt6
            have HN6 : Hid ((allK fl (k + 1)).length = n2 + 1) := by show _ = _; rw [hys.out, List.length_append, HN.out]; rfl
            have HW6 : Hid (w6.ownsRow (w.heap.size + 4) 3 1 (.slice (some ⟨g, 0, none⟩) (n2 + 1) cap) (n2 + 1) (intsZ (allK fl (k + 1)))) := by
              show World.ownsRow _ _ _ _ _ _ _
              rw [hys.out]
              unfold intsZ
              rw [List.map_append]; exact hown
            have b6 : Below (w.heap.size + 4) wr w6 := ((Below.refl _ _).alloc hzz _).grown hg (by simp; omega) (fun y hy => (HW.out.lt y hy).1)
            have HF6 : Hid (Fl w6 (w.heap.size + 1) m fl) := HF.out.sv (P := fun k => w.heap.size + 4 ≤ k) ⟨b6.os, b6.tape, b6.output, b6.size, fun i _ hi => b6.block i (by omega)⟩ (by omega)
            have HB6 : Hid (Below w.heap.size w w6) := HBr.out.trans (b6.mono (by omega))
            have hz6 : w.heap.size + 4 ≤ w6.heap.size := Nat.le_trans hzz b6.size
            clear hown hg hat b6
            go_wp2_with fail
            go_roundw
            case rel => exact ⟨k + 1, n2 + 1, by omega, by go_num, HN6, by omega, HW6, HF6, HB6, hz6⟩
            case measure => simp [intOf]; omega
        · obtain rfl : k = m := by omega
          obtain ⟨A, c, rfl, hnc⟩ := own_form HW.out
          go_wp2_with fail
          go_ret
          refine ⟨A, c, allK fl k, HRC.out, by rw [HN.out, hm.out]; exact hnk, by rw [HN.out]; rfl, ?_, HBr.out, fun a ha => ?_⟩
          · intro h0
            have h1 := HN.out
            obtain ⟨g, c2, e1, hg1, hg2⟩ := HW.out.form (by omega)
            cases e1
            exact row_ir (row_own HW.out).2 hg2 h0
          · subst ha
            have := (HW.out.lt a.block rfl).1
            omega
    | succ q =>
      obtain ⟨ws, x, rfl⟩ : ∃ ws0 x, ws = ws0 ++ [x] := by
        have hne : ws ≠ [] := fun e => by rw [e] at hq; simp at hq
        exact ⟨ws.dropLast, ws.getLast hne, (List.dropLast_concat_getLast hne).symm⟩
      have hwl : ws.length = q := by simpa using hq
      have hO := HM.out.O
      rw [hq] at hO
      obtain ⟨gw, cap, rfl, hg1, hg2⟩ := hO.form (by omega)
      have hcap : q + 1 ≤ cap := by
        obtain ⟨_, _, e, h⟩ := own_form hO
        cases e
        exact h
      have hx : wr.cell? ⟨gw, q, none⟩ = some (.int .i64 x) := by
        rw [hO.cellAt q (by omega)]
        unfold intsZ
        rw [List.getElem?_map, List.getElem?_append_right (by omega), hwl, Nat.sub_self]; rfl
      obtain ⟨r5, b5⟩ := HM.out.pop hwl
      have hq1 : (q : Int) ≤ (cap : Int) := by omega
      have HM5 := Lib.hid r5
      have HB5 := Lib.hid (HB.out.trans b5)
      have HP5 := Lib.hid (HP0.out _ HB5.out)
      have HDP := Lib.hid HD.out.pop
      have HCN := Lib.hid (addS_all (H := H) (l := nearO H x) (fl := fl) (ws := ws) HD.out.len).2.2.2
      have HCC : fl.count false + (q + 1) ≤ m := by have := HC.out; rw [hq] at this; exact this
      have HNL : (nearO H x).length ≤ 8 := by
        unfold nearO
        cases H with
        | none => simp
        | some H => simp only; split
                    · exact nrL_len _ _
                    · simp
      rw [hq] at hme
      have HME := Lib.hid hme
      clear hO r5 b5 hme HC HD hg1 hq
      go_wp2_with (first | (go_at_call 15; refine (near_any P _ H x _ HP5.out).mono ?_; rintro e w6 ⟨A1, c1, rfl, hir, hb6, hab⟩; refine Hid.out ?_))
      have HM6 := Lib.hid (HM5.out.below hb6)
      have HPB : Hid (∀ w', Below w.heap.size w6 w' → PM w' P (.pointer hp) H) := fun w' hb => HP0.out w' ((HB5.out.trans (hb6.mono (HB5.out.size))).trans hb)
      have HIR := Lib.hid hir
      have HB6 := Lib.hid (HB5.out.trans (hb6.mono (HB5.out.size)))
      have HAB : Hid (0 < (nearO H x).length → ∀ a, A1 = some a → a.block < w.heap.size ∨ (w.heap.size + 4 ≤ a.block ∧ (Value.slice (some ⟨gw, 0, none⟩) q cap).ownBlock ≠ some a.block)) := by
        intro _ a ha
        have h1 := hab a ha
        have h2 := HM5.out.size
        have h3 : (wr.setCell ⟨w.heap.size + 3, 0, none⟩ (.slice (some ⟨gw, 0, none⟩) q cap)).heap.size = wr.heap.size := by simp [World.setCell]
        refine .inr ⟨by omega, fun e => ?_⟩
        have e2 : gw = a.block := Option.some.inj e
        omega
      clear hir hb6 hab HP5
      refine Lib.hid ?_
      go_wp2_with (first | (go_at_call 34; refine (add_cl P (.pointer hp) H w.heap.size m _ c1 (fl, ws) _ (nearO H x) A1 w6 HM6.out HPB HIR.out HAB.out rfl (by omega) hm hm2 (by show fl.count false + ws.length ≤ m; omega)).mono ?_; rintro e w7 ⟨rfl, b7, wv7, r7⟩; refine Hid.out ?_))
      refine Lib.hid ?_
      have HB7 := Lib.hid (HB6.out.trans b7)
      have R7 := Lib.hid r7
      have hm7 := r7.meas
      have hme7 : measR w7 w.heap.size m < measR wr w.heap.size m := by
        rw [hm7, HME.out]
        have h1 := HCN.out
        have h2 : (addS H (fl, ws) (nearO H x)).1.count false ≤ fl.count false := by
          have h3 := addS_len H (nearO H x) (fl, ws)
          have h4 : ws.length ≤ (addS H (fl, ws) (nearO H x)).2.length := h3
          omega
        omega
      have HC7 : Hid ((addS H (fl, ws) (nearO H x)).1.count false + (addS H (fl, ws) (nearO H x)).2.length ≤ m) := by show _ ≤ _; rw [HCN.out]; omega
      clear b7 r7 hm7
      go_wp2_with fail
      go_roundw
      case rel => exact ⟨_, wv7, _, HDP, R7, HB7, HC7⟩
      case measure => exact hme7

end Go.Proofs.YtjgmhkplgenieaaDoor
