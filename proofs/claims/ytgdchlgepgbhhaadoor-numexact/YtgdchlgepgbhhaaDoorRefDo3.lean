/-
  CONTRACTS: what the reference's Do answers, op by op, in terms of bit vectors; of what was there nothing has turned. Conditions: as each states them.
-/
import Derived.Test.YtgdchlgepgbhhaaDoorRefDo2
namespace Go.Proofs.YtgdchlgepgbhhaaDoor
open Go.RowKit

/-- The sum of the shifted a's that b's lowest k bits ask for. -/
def sumTo (a b : B64) : Nat → B64
  | 0 => 0#64
  | k + 1 => BitVec.mulRec a b k
theorem sumTo_hit (a b : B64) (k : Nat) (h : b.getLsbD k = true) : sumTo a b k + a <<< k + BitVec.setWidth 64 (BitVec.ofBool false) = sumTo a b (k + 1) := by
  have e : BitVec.setWidth 64 (BitVec.ofBool false) = 0#64 := rfl
  rw [e, BitVec.add_zero]
  cases k with
  | zero => simp [sumTo, BitVec.mulRec_zero_eq, h]
  | succ k => simp only [sumTo]; rw [BitVec.mulRec_succ_eq, if_pos h]
theorem sumTo_miss (a b : B64) (k : Nat) (h : b.getLsbD k = false) : sumTo a b k = sumTo a b (k + 1) := by
  cases k with
  | zero => simp only [sumTo]; rw [BitVec.mulRec_zero_eq, if_neg (by rw [h]; exact Bool.false_ne_true)]; rfl
  | succ k => simp only [sumTo]; rw [BitVec.mulRec_succ_eq, if_neg (by rw [h]; exact Bool.false_ne_true)]; simp
theorem sumTo_all (a b : B64) : sumTo a b 64 = a * b := by
  show BitVec.mulRec a b 63 = _
  rw [BitVec.mulRec_eq_mul_signExtend_setWidth]
  simp
def MulRel (w : World) (ga gb go : Nat) (a b : B64) (i : Value) (wr : World) : Prop :=
  ∃ k : Nat, k ≤ 64 ∧ i = .int .i64 (k : Int) ∧ Bs wr ga a.getLsbD ∧ Bs wr gb b.getLsbD ∧ Bs wr go (sumTo a b k).getLsbD ∧ Below w.heap.size w wr

set_option maxHeartbeats 1000000 in
set_option maxRecDepth 100000 in
theorem refDo_3 (x y : Int) (a b : B64) (w : World) (HA : Hid (BitVec.ofInt 64 x = a)) (HB : Hid (BitVec.ofInt 64 y = b)) (t : B64) (v : Int) (HT : Hid (a * b = t)) (HV : Hid (t.toInt = v)) :
    Calls Tryd.prog 12 #[.int .i64 3, .int .i64 x, .int .i64 y] w fun e w' => e = .returned (.tuple #[.int .i64 v, .int .i64 0]) ∧ Below w.heap.size w w' := by
  go_enter Tryd.func12, Tryd.ntmps12
  go_wp2_with fail
  refine (from_to x a _ HA).mono ?_
  rintro e w1 ⟨rfl, B1⟩
  go_wp2_with (first | (refine wpList_alloc44 rfl rfl ?_; intro ga w2 H2 A2 B2; refine wpList_store44 rfl _ _ rfl ga a.getLsbD rfl rfl noF A2 ?_; intro w3 A3 B3; refine Hid.out ?_))
  have e2 := H2.out
  have s1 := B1.size
  have s2 := B2.size
  have o0 : w.heap.size ≤ ga := by omega
  have C3 := B3.under (B1.trans (B2.mono s1)) (by omega) o0
  have l3 := A3.lt
  clear A2 B1 B2 B3 H2 e2 s1 s2
  refine Lib.hid ?_
  go_wp2_with fail
  refine (from_to y b _ HB).mono ?_
  rintro e w4 ⟨rfl, B4⟩
  go_wp2_with (first | (refine wpList_alloc44 rfl rfl ?_; intro gb w5 H5 A5 B5; refine wpList_store44 rfl _ _ rfl gb b.getLsbD rfl rfl noF A5 ?_; intro w6 A6 B6; refine Hid.out ?_))
  have e5 := H5.out
  have s4 := B4.size
  have s5 := B5.size
  have o1 : ga < gb := by omega
  have X6 := ((A3.below B4).below B5).but B6 (by omega)
  have C6 := B6.under ((C3.trans (B4.mono C3.size)).trans (B5.mono (Nat.le_trans C3.size s4))) (by have := C3.size; omega) (by omega)
  have l6 := A6.lt
  clear A3 A5 B4 B5 B6 H5 e5 s4 s5 l3 C3
  refine Lib.hid ?_
  go_wp2_with (first | (refine wpList_build44 rfl rfl ?_; refine wpList_alloc44 rfl rfl ?_; intro go w7 H7 A7 B7; refine wpList_store44 rfl _ _ rfl go noF rfl rfl noF A7 ?_; intro w8 O B8; refine Hid.out ?_))
  have e7 := H7.out
  have s7 := B7.size
  have o2 : gb < go := by omega
  have X := (X6.below B7).but B8 (by omega)
  have Y := (A6.below B7).but B8 (by omega)
  have C := B8.under (C6.trans (B7.mono C6.size)) (by have := C6.size; omega) (by omega)
  have o3 : w.heap.size ≤ go := by omega
  clear X6 A6 A7 B7 B8 H7 e7 s7 l6 C6
  refine Lib.hid ?_
  go_wp2_with fail
  go_loopw [11] (fun i wr => MulRel w ga gb go a b i wr) (fun i _ => (64 - intOf i).toNat)
  case atStart => exact ⟨0, by omega, rfl, X, Y, O.congr (fun j _ => by simp [sumTo]), C⟩
  case round =>
    clear X Y O C
    obtain ⟨k, hk, rfl, X, Y, O, C⟩ := hrel
    by_cases h : k = 64
    · subst h
      rw [sumTo_all, HT.out] at O
      go_wp2_with (first | (refine wpList_load44 rfl _ rfl go rfl t.getLsbD O ?_) | (go_at_call 39; refine (toInt_to t v _ HV).mono ?_; rintro e w20 ⟨rfl, B20⟩))
      go_ret2
      exact ⟨rfl, C.trans (B20.mono C.size)⟩
    · have hm : k < 64 := by omega
      have hm' : (k : Int) < 64 := by omega
      have hcb := Y.cell k hm
      obtain ⟨x, hx⟩ : ∃ x, b.getLsbD k = x := ⟨_, rfl⟩
      rw [hx] at hcb
      cases x
      · have hs := Lib.hid (sumTo_miss a b k hx)
        clear hx
        go_wp2_with fail
        go_roundw
        case rel => exact ⟨k + 1, by omega, by simp, X, Y, by rw [← hs.out]; exact O, C⟩
        case measure => simp [intOf]; omega
      · obtain ⟨s, es⟩ : ∃ s, sumTo a b k = s := ⟨_, rfl⟩
        obtain ⟨l, el⟩ : ∃ l, a <<< k = l := ⟨_, rfl⟩
        obtain ⟨u, eu⟩ : ∃ u, sumTo a b (k + 1) = u := ⟨_, rfl⟩
        have hs := sumTo_hit a b k hx
        rw [es, el, eu] at hs
        rw [es] at O
        have HS := Lib.hid hs
        have HL := Lib.hid el
        have HU := Lib.hid eu
        clear hs hx es el eu
        go_wp2_with fail
        refine wp_region_held_drew (S := fun w' => Bs w' ga a.getLsbD ∧ Bs w' gb b.getLsbD) (by kernel_rfl) ⟨X, Y⟩ (fun V => ?_)
        have Od : Bs wr.drew go s.getLsbD := O
        have Cd := C.drew
        clear X Y O C hcb
        generalize wr.drew = wd at V Od Cd ⊢
        refine take44 1 (some 44) (.tmp 8) ga a.getLsbD rfl rfl rfl rfl rfl (by kernel_rfl) (by kernel_rfl) (by kernel_rfl) (fun _ _ _ h => h) (fun w h => h.1) V ?_
        simp only [Act.put, List.setIfInBounds_toArray, List.set_cons_zero, List.set_cons_succ]
        refine takeMove 2 (some 45) (.tmp 11) (.int .i64 (k : Int)) rfl rfl rfl rfl rfl (by kernel_rfl) (by kernel_rfl) (by kernel_rfl) (fun _ _ _ h => h) V ?_
        simp only [Act.put, List.setIfInBounds_toArray, List.set_cons_zero, List.set_cons_succ]
        refine two_ready (i := 0) (j := 3) (by kernel_rfl) ?_ ?_
        · refine step_load44 rfl rfl (some 43) rfl (.tmp 10) rfl go rfl s.getLsbD Od V ?_
          simp only [Act.put, List.setIfInBounds_toArray, List.set_cons_zero, List.set_cons_succ]
          refine one_ready (i := 3) (by kernel_rfl) ?_
          refine step_call rfl #[.agg (encF a.getLsbD), .int .i64 (k : Int)] (.agg (encF l.getLsbD)) (enter33 _) rfl (left_to a l k (by omega) _ HL) ?_
          intro w5 B5
          have R5 := Od.below B5
          have V5 : Bs w5 ga a.getLsbD ∧ Bs w5 gb b.getLsbD := ⟨V.1.below B5, V.2.below B5⟩
          refine ⟨V5, ?_⟩
          simp only [Act.put, List.setIfInBounds_toArray, List.set_cons_zero, List.set_cons_succ]
          refine one_ready (i := 4) (by kernel_rfl) ?_
          refine step_call rfl #[.agg (encF s.getLsbD), .agg (encF l.getLsbD), .bool false] (.agg (encF u.getLsbD)) (enter31 _) rfl (add_to s l u false _ HS) ?_
          intro w6 B6
          have R6 := R5.below B6
          have V6 : Bs w6 ga a.getLsbD ∧ Bs w6 gb b.getLsbD := ⟨V5.1.below B6, V5.2.below B6⟩
          refine ⟨V6, ?_⟩
          simp only [Act.put, List.setIfInBounds_toArray, List.set_cons_zero, List.set_cons_succ]
          refine one_ready (i := 5) (by kernel_rfl) ?_
          refine step_store44 rfl rfl rfl (.tmp 10) (.tmp 47) rfl go u.getLsbD rfl rfl s.getLsbD R6 ?_
          intro w7 R7 B7
          have V7 : Bs w7 ga a.getLsbD ∧ Bs w7 gb b.getLsbD := ⟨V6.1.but B7 (by omega), V6.2.but B7 (by omega)⟩
          refine ⟨V7, ?_⟩
          simp only [Act.put]
          refine wpAnyH_done (by kernel_rfl) ?_ _
          have C7 := B7.under ((Cd.trans (B5.mono Cd.size)).trans (B6.mono (Nat.le_trans Cd.size B5.size))) (Nat.le_trans (Nat.le_trans Cd.size B5.size) B6.size) o3
          clear V V5 V6 Od R5 R6 B5 B6 B7 Cd
          go_wp2_with fail
          go_roundw
          case rel => exact ⟨k + 1, by omega, by simp, V7.1, V7.2, by rw [HU.out]; exact R7, C7⟩
          case measure => simp [intOf]; omega
        · refine step_call rfl #[.agg (encF a.getLsbD), .int .i64 (k : Int)] (.agg (encF l.getLsbD)) (enter33 _) rfl (left_to a l k (by omega) _ HL) ?_
          intro w5 B5
          have R5 := Od.below B5
          have V5 : Bs w5 ga a.getLsbD ∧ Bs w5 gb b.getLsbD := ⟨V.1.below B5, V.2.below B5⟩
          refine ⟨V5, ?_⟩
          simp only [Act.put, List.setIfInBounds_toArray, List.set_cons_zero, List.set_cons_succ]
          refine one_ready (i := 0) (by kernel_rfl) ?_
          refine step_load44 rfl rfl (some 43) rfl (.tmp 10) rfl go rfl s.getLsbD R5 V5 ?_
          simp only [Act.put, List.setIfInBounds_toArray, List.set_cons_zero, List.set_cons_succ]
          refine one_ready (i := 4) (by kernel_rfl) ?_
          refine step_call rfl #[.agg (encF s.getLsbD), .agg (encF l.getLsbD), .bool false] (.agg (encF u.getLsbD)) (enter31 _) rfl (add_to s l u false _ HS) ?_
          intro w6 B6
          have R6 := R5.below B6
          have V6 : Bs w6 ga a.getLsbD ∧ Bs w6 gb b.getLsbD := ⟨V5.1.below B6, V5.2.below B6⟩
          refine ⟨V6, ?_⟩
          simp only [Act.put, List.setIfInBounds_toArray, List.set_cons_zero, List.set_cons_succ]
          refine one_ready (i := 5) (by kernel_rfl) ?_
          refine step_store44 rfl rfl rfl (.tmp 10) (.tmp 47) rfl go u.getLsbD rfl rfl s.getLsbD R6 ?_
          intro w7 R7 B7
          have V7 : Bs w7 ga a.getLsbD ∧ Bs w7 gb b.getLsbD := ⟨V6.1.but B7 (by omega), V6.2.but B7 (by omega)⟩
          refine ⟨V7, ?_⟩
          simp only [Act.put]
          refine wpAnyH_done (by kernel_rfl) ?_ _
          have C7 := B7.under ((Cd.trans (B5.mono Cd.size)).trans (B6.mono (Nat.le_trans Cd.size B5.size))) (Nat.le_trans (Nat.le_trans Cd.size B5.size) B6.size) o3
          clear V V5 V6 Od R5 R6 B5 B6 B7 Cd
          go_wp2_with fail
          go_roundw
          case rel => exact ⟨k + 1, by omega, by simp, V7.1, V7.2, by rw [HU.out]; exact R7, C7⟩
          case measure => simp [intOf]; omega

end Go.Proofs.YtgdchlgepgbhhaaDoor
