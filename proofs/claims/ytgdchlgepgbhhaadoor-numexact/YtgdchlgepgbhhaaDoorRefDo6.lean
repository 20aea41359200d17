/-
  CONTRACTS: what the reference's Do answers, op by op, in terms of bit vectors; of what was there nothing has turned. Conditions: as each states them.
-/
import Derived.Test.YtgdchlgepgbhhaaDoorStill
namespace Go.Proofs.YtgdchlgepgbhhaaDoor
open Go.RowKit

theorem but_setDrew (w : World) (g k : Nat) (v : Value) : But g w (w.setCell ⟨g, k, none⟩ v).drew :=
  have h := but_setCell w g k v
  ⟨h.os, h.tape, h.output, h.size, h.block⟩
theorem Bs.setDrew {w : World} {g k : Nat} {f : Nat → Bool} (h : Bs w g f) (b : Bool) : Bs (w.setCell ⟨g, k, none⟩ (.bool b)).drew g (fun j => if j = k then b else f j) := h.set b
def BitRel (w : World) (ga gb go : Nat) (a b t : B64) (i : Value) (wr : World) : Prop :=
  ∃ k : Nat, k ≤ 64 ∧ i = .int .i64 (k : Int) ∧ Bs wr ga a.getLsbD ∧ Bs wr gb b.getLsbD ∧ Bs wr go (part k t) ∧ Below w.heap.size w wr


set_option maxHeartbeats 1000000 in
set_option maxRecDepth 100000 in
theorem refDo_6 (x y : Int) (a b : B64) (w : World) (HA : Hid (BitVec.ofInt 64 x = a)) (HB : Hid (BitVec.ofInt 64 y = b)) (t : B64) (v : Int) (HT : Hid (a &&& b = t)) (HV : Hid (t.toInt = v)) :
    Calls Tryd.prog 12 #[.int .i64 6, .int .i64 x, .int .i64 y] w fun e w' => e = .returned (.tuple #[.int .i64 v, .int .i64 0]) ∧ Below w.heap.size w w' := by
  go_enter Tryd.func12, Tryd.ntmps12
  go_wp2_with fail
  refine (from_to x a _ HA).mono ?_
  rintro e w1 ⟨rfl, B1⟩
  go_wp2_with (first | (refine wpList_alloc44 rfl rfl ?_; intro ga w2 H2 A2 B2; refine wpList_store44 rfl _ _ rfl ga a.getLsbD rfl rfl noF A2 ?_; intro w3 A3 B3; refine Hid.out ?_))
  have e2 := H2.out
  have s1 := B1.size
  have s2 := B2.size
  have o0 : w.heap.size ≤ ga := by omega
  have C3 := B3.under (B1.trans (B2.mono s1)) (by omega) o0
  have l3 := A3.lt
  clear A2 B1 B2 B3 H2 e2 s1 s2
  refine Lib.hid ?_
  go_wp2_with fail
  refine (from_to y b _ HB).mono ?_
  rintro e w4 ⟨rfl, B4⟩
  go_wp2_with (first | (refine wpList_alloc44 rfl rfl ?_; intro gb w5 H5 A5 B5; refine wpList_store44 rfl _ _ rfl gb b.getLsbD rfl rfl noF A5 ?_; intro w6 A6 B6; refine Hid.out ?_))
  have e5 := H5.out
  have s4 := B4.size
  have s5 := B5.size
  have o1 : ga < gb := by omega
  have X6 := ((A3.below B4).below B5).but B6 (by omega)
  have C6 := B6.under ((C3.trans (B4.mono C3.size)).trans (B5.mono (Nat.le_trans C3.size s4))) (by have := C3.size; omega) (by omega)
  have l6 := A6.lt
  clear A3 A5 B4 B5 B6 H5 e5 s4 s5 l3 C3
  refine Lib.hid ?_
  go_wp2_with (first | (refine wpList_build44 rfl rfl ?_; refine wpList_alloc44 rfl rfl ?_; intro go w7 H7 A7 B7; refine wpList_store44 rfl _ _ rfl go noF rfl rfl noF A7 ?_; intro w8 O B8; refine Hid.out ?_))
  have e7 := H7.out
  have s7 := B7.size
  have o2 : gb < go := by omega
  have X := (X6.below B7).but B8 (by omega)
  have Y := (A6.below B7).but B8 (by omega)
  have C := B8.under (C6.trans (B7.mono C6.size)) (by have := C6.size; omega) (by omega)
  have o3 : w.heap.size ≤ go := by omega
  clear X6 A6 A7 B7 B8 H7 e7 s7 l6 C6
  refine Lib.hid ?_
  go_wp2_with fail
  go_loopw [14] (fun i wr => BitRel w ga gb go a b t i wr) (fun i _ => (64 - intOf i).toNat)
  case atStart => exact ⟨0, by omega, rfl, X, Y, O.congr (part_zero t), C⟩
  case round =>
    clear X Y O C
    obtain ⟨k, hk, rfl, X, Y, O, C⟩ := hrel
    by_cases h : k = 64
    · subst h
      have O' := O.congr (part_full t)
      clear O
      go_wp2_with (first | (refine wpList_load44 rfl _ rfl go rfl t.getLsbD O' ?_) | (go_at_call 39; refine (toInt_to t v _ HV).mono ?_; rintro e w20 ⟨rfl, B20⟩))
      go_ret2
      exact ⟨rfl, C.trans (B20.mono C.size)⟩
    · have hm : k < 64 := by omega
      have hm' : (k : Int) < 64 := by omega
      have hca := X.cell k hm
      have hcb := Y.cell k hm
      have hco := O.cell k hm
      have hfo := O.frozen k
      have ht : t.getLsbD k = (a.getLsbD k && b.getLsbD k) := by rw [← HT.out, BitVec.getLsbD_and]
      obtain ⟨x, hx⟩ : ∃ x, a.getLsbD k = x := ⟨_, rfl⟩
      obtain ⟨y, hy⟩ : ∃ x, b.getLsbD k = x := ⟨_, rfl⟩
      obtain ⟨z, hz⟩ : ∃ x, part k t k = x := ⟨_, rfl⟩
      rw [hx] at hca ht
      rw [hy] at hcb ht
      rw [hz] at hco
      have HK := Lib.hid ht
      clear hx hy hz ht
      cases x
      · cases y
        · go_wp2_with fail
          refine wp_region_still_tail 41 (by kernel_rfl) (by kernel_rfl) ?_
          simp only [List.take_succ_cons, List.take_zero, List.drop_succ_cons, List.drop_zero]
          refine Stl.ok ?_
          have hca' : ({ wr with drawn := wr.drawn + 1 } : World).cell? ⟨ga, k, none⟩ = _ := hca
          have hcb' : ({ wr with drawn := wr.drawn + 1 } : World).cell? ⟨gb, k, none⟩ = _ := hcb
          refine still_move (by kernel_rfl) (some 85) (by kernel_rfl) (.tmp 14) (by kernel_rfl) (.int .i64 (k : Int)) (by kernel_rfl) ?_
          refine still_move (by kernel_rfl) (some 86) (by kernel_rfl) (.tmp 0) (by kernel_rfl) (.int .i64 6) (by kernel_rfl) ?_
          refine still_value (by kernel_rfl) (some 87) (by kernel_rfl) (.bool true) (by kernel_rfl) ?_
          refine still_move (by kernel_rfl) (some 88) (by kernel_rfl) (.tmp 87) (by kernel_rfl) (.bool true) (by kernel_rfl) ?_
          refine still_move (by kernel_rfl) (some 89) (by kernel_rfl) (.tmp 14) (by kernel_rfl) (.int .i64 (k : Int)) (by kernel_rfl) ?_
          refine still_index (by kernel_rfl) (some 90) (by kernel_rfl) (.tmp 8) (.tmp 89) (by kernel_rfl) ga k hm (by kernel_rfl) (by kernel_rfl) ?_
          refine still_load (by kernel_rfl) (some 91) (by kernel_rfl) (.tmp 90) (by kernel_rfl) ga k false hca' (by kernel_rfl) ?_
          refine still_pick (by kernel_rfl) (some 92) (by kernel_rfl) (.tmp 88) (.tmp 91) (.const (.bool false)) (by kernel_rfl) true (.bool false) (by kernel_rfl) (by kernel_rfl) ?_
          refine still_move (by kernel_rfl) (some 93) (by kernel_rfl) (.tmp 92) (by kernel_rfl) (.bool false) (by kernel_rfl) ?_
          refine still_skip (by kernel_rfl) (some 94) (by kernel_rfl) ?_
          refine still_skip (by kernel_rfl) (some 95) (by kernel_rfl) ?_
          refine still_skip (by kernel_rfl) (some 96) (by kernel_rfl) ?_
          refine still_pick (by kernel_rfl) (some 97) (by kernel_rfl) (.tmp 93) (.tmp 96) (.const (.bool false)) (by kernel_rfl) false (.bool false) (by kernel_rfl) (by kernel_rfl) ?_
          refine still_move (by kernel_rfl) (some 98) (by kernel_rfl) (.tmp 97) (by kernel_rfl) (.bool false) (by kernel_rfl) ?_
          refine still_move (by kernel_rfl) (some 99) (by kernel_rfl) (.tmp 0) (by kernel_rfl) (.int .i64 6) (by kernel_rfl) ?_
          refine still_value (by kernel_rfl) (some 100) (by kernel_rfl) (.bool false) (by kernel_rfl) ?_
          refine still_move (by kernel_rfl) (some 101) (by kernel_rfl) (.tmp 100) (by kernel_rfl) (.bool false) (by kernel_rfl) ?_
          refine still_skip (by kernel_rfl) (some 102) (by kernel_rfl) ?_
          refine still_skip (by kernel_rfl) (some 103) (by kernel_rfl) ?_
          refine still_skip (by kernel_rfl) (some 104) (by kernel_rfl) ?_
          refine still_skip (by kernel_rfl) (some 105) (by kernel_rfl) ?_
          refine still_skip (by kernel_rfl) (some 106) (by kernel_rfl) ?_
          refine still_skip (by kernel_rfl) (some 107) (by kernel_rfl) ?_
          refine still_skip (by kernel_rfl) (some 108) (by kernel_rfl) ?_
          refine still_skip (by kernel_rfl) (some 109) (by kernel_rfl) ?_
          refine still_pick (by kernel_rfl) (some 110) (by kernel_rfl) (.tmp 101) (.tmp 109) (.const (.bool false)) (by kernel_rfl) false (.bool false) (by kernel_rfl) (by kernel_rfl) ?_
          refine still_pick (by kernel_rfl) (some 111) (by kernel_rfl) (.tmp 98) (.const (.bool true)) (.tmp 110) (by kernel_rfl) false (.bool false) (by kernel_rfl) (by kernel_rfl) ?_
          refine still_move (by kernel_rfl) (some 112) (by kernel_rfl) (.tmp 111) (by kernel_rfl) (.bool false) (by kernel_rfl) ?_
          refine still_move (by kernel_rfl) (some 113) (by kernel_rfl) (.tmp 0) (by kernel_rfl) (.int .i64 6) (by kernel_rfl) ?_
          refine still_value (by kernel_rfl) (some 114) (by kernel_rfl) (.bool false) (by kernel_rfl) ?_
          refine still_move (by kernel_rfl) (some 115) (by kernel_rfl) (.tmp 114) (by kernel_rfl) (.bool false) (by kernel_rfl) ?_
          refine still_skip (by kernel_rfl) (some 116) (by kernel_rfl) ?_
          refine still_skip (by kernel_rfl) (some 117) (by kernel_rfl) ?_
          refine still_skip (by kernel_rfl) (some 118) (by kernel_rfl) ?_
          refine still_skip (by kernel_rfl) (some 119) (by kernel_rfl) ?_
          refine still_skip (by kernel_rfl) (some 120) (by kernel_rfl) ?_
          refine still_skip (by kernel_rfl) (some 121) (by kernel_rfl) ?_
          refine still_skip (by kernel_rfl) (some 122) (by kernel_rfl) ?_
          refine still_pick (by kernel_rfl) (some 123) (by kernel_rfl) (.tmp 115) (.tmp 122) (.const (.bool false)) (by kernel_rfl) false (.bool false) (by kernel_rfl) (by kernel_rfl) ?_
          refine still_pick (by kernel_rfl) (some 124) (by kernel_rfl) (.tmp 112) (.const (.bool true)) (.tmp 123) (by kernel_rfl) false (.bool false) (by kernel_rfl) (by kernel_rfl) ?_
          refine still_index (by kernel_rfl) (some 125) (by kernel_rfl) (.tmp 10) (.tmp 85) (by kernel_rfl) go k hm (by kernel_rfl) (by kernel_rfl) ?_
          refine still_nil ?_
          simp only [Act.put, List.setIfInBounds_toArray, List.set_cons_zero, List.set_cons_succ]
          clear hca hcb hca' hcb'
          go_wp2_with fail
          go_roundw
          case rel => exact ⟨k + 1, by omega, by simp, X.but (but_setDrew wr go k _) (by omega), Y.but (but_setDrew wr go k _) (by omega), (O.setDrew _).congr (fun j _ => by rw [← part_step k t j, HK.out]; rfl), (but_setDrew wr go k _).under C C.size o3⟩
          case measure => simp [intOf]; omega
        · go_wp2_with fail
          refine wp_region_still_tail 41 (by kernel_rfl) (by kernel_rfl) ?_
          simp only [List.take_succ_cons, List.take_zero, List.drop_succ_cons, List.drop_zero]
          refine Stl.ok ?_
          have hca' : ({ wr with drawn := wr.drawn + 1 } : World).cell? ⟨ga, k, none⟩ = _ := hca
          have hcb' : ({ wr with drawn := wr.drawn + 1 } : World).cell? ⟨gb, k, none⟩ = _ := hcb
          refine still_move (by kernel_rfl) (some 85) (by kernel_rfl) (.tmp 14) (by kernel_rfl) (.int .i64 (k : Int)) (by kernel_rfl) ?_
          refine still_move (by kernel_rfl) (some 86) (by kernel_rfl) (.tmp 0) (by kernel_rfl) (.int .i64 6) (by kernel_rfl) ?_
          refine still_value (by kernel_rfl) (some 87) (by kernel_rfl) (.bool true) (by kernel_rfl) ?_
          refine still_move (by kernel_rfl) (some 88) (by kernel_rfl) (.tmp 87) (by kernel_rfl) (.bool true) (by kernel_rfl) ?_
          refine still_move (by kernel_rfl) (some 89) (by kernel_rfl) (.tmp 14) (by kernel_rfl) (.int .i64 (k : Int)) (by kernel_rfl) ?_
          refine still_index (by kernel_rfl) (some 90) (by kernel_rfl) (.tmp 8) (.tmp 89) (by kernel_rfl) ga k hm (by kernel_rfl) (by kernel_rfl) ?_
          refine still_load (by kernel_rfl) (some 91) (by kernel_rfl) (.tmp 90) (by kernel_rfl) ga k false hca' (by kernel_rfl) ?_
          refine still_pick (by kernel_rfl) (some 92) (by kernel_rfl) (.tmp 88) (.tmp 91) (.const (.bool false)) (by kernel_rfl) true (.bool false) (by kernel_rfl) (by kernel_rfl) ?_
          refine still_move (by kernel_rfl) (some 93) (by kernel_rfl) (.tmp 92) (by kernel_rfl) (.bool false) (by kernel_rfl) ?_
          refine still_skip (by kernel_rfl) (some 94) (by kernel_rfl) ?_
          refine still_skip (by kernel_rfl) (some 95) (by kernel_rfl) ?_
          refine still_skip (by kernel_rfl) (some 96) (by kernel_rfl) ?_
          refine still_pick (by kernel_rfl) (some 97) (by kernel_rfl) (.tmp 93) (.tmp 96) (.const (.bool false)) (by kernel_rfl) false (.bool false) (by kernel_rfl) (by kernel_rfl) ?_
          refine still_move (by kernel_rfl) (some 98) (by kernel_rfl) (.tmp 97) (by kernel_rfl) (.bool false) (by kernel_rfl) ?_
          refine still_move (by kernel_rfl) (some 99) (by kernel_rfl) (.tmp 0) (by kernel_rfl) (.int .i64 6) (by kernel_rfl) ?_
          refine still_value (by kernel_rfl) (some 100) (by kernel_rfl) (.bool false) (by kernel_rfl) ?_
          refine still_move (by kernel_rfl) (some 101) (by kernel_rfl) (.tmp 100) (by kernel_rfl) (.bool false) (by kernel_rfl) ?_
          refine still_skip (by kernel_rfl) (some 102) (by kernel_rfl) ?_
          refine still_skip (by kernel_rfl) (some 103) (by kernel_rfl) ?_
          refine still_skip (by kernel_rfl) (some 104) (by kernel_rfl) ?_
          refine still_skip (by kernel_rfl) (some 105) (by kernel_rfl) ?_
          refine still_skip (by kernel_rfl) (some 106) (by kernel_rfl) ?_
          refine still_skip (by kernel_rfl) (some 107) (by kernel_rfl) ?_
          refine still_skip (by kernel_rfl) (some 108) (by kernel_rfl) ?_
          refine still_skip (by kernel_rfl) (some 109) (by kernel_rfl) ?_
          refine still_pick (by kernel_rfl) (some 110) (by kernel_rfl) (.tmp 101) (.tmp 109) (.const (.bool false)) (by kernel_rfl) false (.bool false) (by kernel_rfl) (by kernel_rfl) ?_
          refine still_pick (by kernel_rfl) (some 111) (by kernel_rfl) (.tmp 98) (.const (.bool true)) (.tmp 110) (by kernel_rfl) false (.bool false) (by kernel_rfl) (by kernel_rfl) ?_
          refine still_move (by kernel_rfl) (some 112) (by kernel_rfl) (.tmp 111) (by kernel_rfl) (.bool false) (by kernel_rfl) ?_
          refine still_move (by kernel_rfl) (some 113) (by kernel_rfl) (.tmp 0) (by kernel_rfl) (.int .i64 6) (by kernel_rfl) ?_
          refine still_value (by kernel_rfl) (some 114) (by kernel_rfl) (.bool false) (by kernel_rfl) ?_
          refine still_move (by kernel_rfl) (some 115) (by kernel_rfl) (.tmp 114) (by kernel_rfl) (.bool false) (by kernel_rfl) ?_
          refine still_skip (by kernel_rfl) (some 116) (by kernel_rfl) ?_
          refine still_skip (by kernel_rfl) (some 117) (by kernel_rfl) ?_
          refine still_skip (by kernel_rfl) (some 118) (by kernel_rfl) ?_
          refine still_skip (by kernel_rfl) (some 119) (by kernel_rfl) ?_
          refine still_skip (by kernel_rfl) (some 120) (by kernel_rfl) ?_
          refine still_skip (by kernel_rfl) (some 121) (by kernel_rfl) ?_
          refine still_skip (by kernel_rfl) (some 122) (by kernel_rfl) ?_
          refine still_pick (by kernel_rfl) (some 123) (by kernel_rfl) (.tmp 115) (.tmp 122) (.const (.bool false)) (by kernel_rfl) false (.bool false) (by kernel_rfl) (by kernel_rfl) ?_
          refine still_pick (by kernel_rfl) (some 124) (by kernel_rfl) (.tmp 112) (.const (.bool true)) (.tmp 123) (by kernel_rfl) false (.bool false) (by kernel_rfl) (by kernel_rfl) ?_
          refine still_index (by kernel_rfl) (some 125) (by kernel_rfl) (.tmp 10) (.tmp 85) (by kernel_rfl) go k hm (by kernel_rfl) (by kernel_rfl) ?_
          refine still_nil ?_
          simp only [Act.put, List.setIfInBounds_toArray, List.set_cons_zero, List.set_cons_succ]
          clear hca hcb hca' hcb'
          go_wp2_with fail
          go_roundw
          case rel => exact ⟨k + 1, by omega, by simp, X.but (but_setDrew wr go k _) (by omega), Y.but (but_setDrew wr go k _) (by omega), (O.setDrew _).congr (fun j _ => by rw [← part_step k t j, HK.out]; rfl), (but_setDrew wr go k _).under C C.size o3⟩
          case measure => simp [intOf]; omega
      · cases y
        · go_wp2_with fail
          refine wp_region_still_tail 41 (by kernel_rfl) (by kernel_rfl) ?_
          simp only [List.take_succ_cons, List.take_zero, List.drop_succ_cons, List.drop_zero]
          refine Stl.ok ?_
          have hca' : ({ wr with drawn := wr.drawn + 1 } : World).cell? ⟨ga, k, none⟩ = _ := hca
          have hcb' : ({ wr with drawn := wr.drawn + 1 } : World).cell? ⟨gb, k, none⟩ = _ := hcb
          refine still_move (by kernel_rfl) (some 85) (by kernel_rfl) (.tmp 14) (by kernel_rfl) (.int .i64 (k : Int)) (by kernel_rfl) ?_
          refine still_move (by kernel_rfl) (some 86) (by kernel_rfl) (.tmp 0) (by kernel_rfl) (.int .i64 6) (by kernel_rfl) ?_
          refine still_value (by kernel_rfl) (some 87) (by kernel_rfl) (.bool true) (by kernel_rfl) ?_
          refine still_move (by kernel_rfl) (some 88) (by kernel_rfl) (.tmp 87) (by kernel_rfl) (.bool true) (by kernel_rfl) ?_
          refine still_move (by kernel_rfl) (some 89) (by kernel_rfl) (.tmp 14) (by kernel_rfl) (.int .i64 (k : Int)) (by kernel_rfl) ?_
          refine still_index (by kernel_rfl) (some 90) (by kernel_rfl) (.tmp 8) (.tmp 89) (by kernel_rfl) ga k hm (by kernel_rfl) (by kernel_rfl) ?_
          refine still_load (by kernel_rfl) (some 91) (by kernel_rfl) (.tmp 90) (by kernel_rfl) ga k true hca' (by kernel_rfl) ?_
          refine still_pick (by kernel_rfl) (some 92) (by kernel_rfl) (.tmp 88) (.tmp 91) (.const (.bool false)) (by kernel_rfl) true (.bool true) (by kernel_rfl) (by kernel_rfl) ?_
          refine still_move (by kernel_rfl) (some 93) (by kernel_rfl) (.tmp 92) (by kernel_rfl) (.bool true) (by kernel_rfl) ?_
          refine still_move (by kernel_rfl) (some 94) (by kernel_rfl) (.tmp 14) (by kernel_rfl) (.int .i64 (k : Int)) (by kernel_rfl) ?_
          refine still_index (by kernel_rfl) (some 95) (by kernel_rfl) (.tmp 9) (.tmp 94) (by kernel_rfl) gb k hm (by kernel_rfl) (by kernel_rfl) ?_
          refine still_load (by kernel_rfl) (some 96) (by kernel_rfl) (.tmp 95) (by kernel_rfl) gb k false hcb' (by kernel_rfl) ?_
          refine still_pick (by kernel_rfl) (some 97) (by kernel_rfl) (.tmp 93) (.tmp 96) (.const (.bool false)) (by kernel_rfl) true (.bool false) (by kernel_rfl) (by kernel_rfl) ?_
          refine still_move (by kernel_rfl) (some 98) (by kernel_rfl) (.tmp 97) (by kernel_rfl) (.bool false) (by kernel_rfl) ?_
          refine still_move (by kernel_rfl) (some 99) (by kernel_rfl) (.tmp 0) (by kernel_rfl) (.int .i64 6) (by kernel_rfl) ?_
          refine still_value (by kernel_rfl) (some 100) (by kernel_rfl) (.bool false) (by kernel_rfl) ?_
          refine still_move (by kernel_rfl) (some 101) (by kernel_rfl) (.tmp 100) (by kernel_rfl) (.bool false) (by kernel_rfl) ?_
          refine still_skip (by kernel_rfl) (some 102) (by kernel_rfl) ?_
          refine still_skip (by kernel_rfl) (some 103) (by kernel_rfl) ?_
          refine still_skip (by kernel_rfl) (some 104) (by kernel_rfl) ?_
          refine still_skip (by kernel_rfl) (some 105) (by kernel_rfl) ?_
          refine still_skip (by kernel_rfl) (some 106) (by kernel_rfl) ?_
          refine still_skip (by kernel_rfl) (some 107) (by kernel_rfl) ?_
          refine still_skip (by kernel_rfl) (some 108) (by kernel_rfl) ?_
          refine still_skip (by kernel_rfl) (some 109) (by kernel_rfl) ?_
          refine still_pick (by kernel_rfl) (some 110) (by kernel_rfl) (.tmp 101) (.tmp 109) (.const (.bool false)) (by kernel_rfl) false (.bool false) (by kernel_rfl) (by kernel_rfl) ?_
          refine still_pick (by kernel_rfl) (some 111) (by kernel_rfl) (.tmp 98) (.const (.bool true)) (.tmp 110) (by kernel_rfl) false (.bool false) (by kernel_rfl) (by kernel_rfl) ?_
          refine still_move (by kernel_rfl) (some 112) (by kernel_rfl) (.tmp 111) (by kernel_rfl) (.bool false) (by kernel_rfl) ?_
          refine still_move (by kernel_rfl) (some 113) (by kernel_rfl) (.tmp 0) (by kernel_rfl) (.int .i64 6) (by kernel_rfl) ?_
          refine still_value (by kernel_rfl) (some 114) (by kernel_rfl) (.bool false) (by kernel_rfl) ?_
          refine still_move (by kernel_rfl) (some 115) (by kernel_rfl) (.tmp 114) (by kernel_rfl) (.bool false) (by kernel_rfl) ?_
          refine still_skip (by kernel_rfl) (some 116) (by kernel_rfl) ?_
          refine still_skip (by kernel_rfl) (some 117) (by kernel_rfl) ?_
          refine still_skip (by kernel_rfl) (some 118) (by kernel_rfl) ?_
          refine still_skip (by kernel_rfl) (some 119) (by kernel_rfl) ?_
          refine still_skip (by kernel_rfl) (some 120) (by kernel_rfl) ?_
          refine still_skip (by kernel_rfl) (some 121) (by kernel_rfl) ?_
          refine still_skip (by kernel_rfl) (some 122) (by kernel_rfl) ?_
          refine still_pick (by kernel_rfl) (some 123) (by kernel_rfl) (.tmp 115) (.tmp 122) (.const (.bool false)) (by kernel_rfl) false (.bool false) (by kernel_rfl) (by kernel_rfl) ?_
          refine still_pick (by kernel_rfl) (some 124) (by kernel_rfl) (.tmp 112) (.const (.bool true)) (.tmp 123) (by kernel_rfl) false (.bool false) (by kernel_rfl) (by kernel_rfl) ?_
          refine still_index (by kernel_rfl) (some 125) (by kernel_rfl) (.tmp 10) (.tmp 85) (by kernel_rfl) go k hm (by kernel_rfl) (by kernel_rfl) ?_
          refine still_nil ?_
          simp only [Act.put, List.setIfInBounds_toArray, List.set_cons_zero, List.set_cons_succ]
          clear hca hcb hca' hcb'
          go_wp2_with fail
          go_roundw
          case rel => exact ⟨k + 1, by omega, by simp, X.but (but_setDrew wr go k _) (by omega), Y.but (but_setDrew wr go k _) (by omega), (O.setDrew _).congr (fun j _ => by rw [← part_step k t j, HK.out]; rfl), (but_setDrew wr go k _).under C C.size o3⟩
          case measure => simp [intOf]; omega
        · go_wp2_with fail
          refine wp_region_still_tail 41 (by kernel_rfl) (by kernel_rfl) ?_
          simp only [List.take_succ_cons, List.take_zero, List.drop_succ_cons, List.drop_zero]
          refine Stl.ok ?_
          have hca' : ({ wr with drawn := wr.drawn + 1 } : World).cell? ⟨ga, k, none⟩ = _ := hca
          have hcb' : ({ wr with drawn := wr.drawn + 1 } : World).cell? ⟨gb, k, none⟩ = _ := hcb
          refine still_move (by kernel_rfl) (some 85) (by kernel_rfl) (.tmp 14) (by kernel_rfl) (.int .i64 (k : Int)) (by kernel_rfl) ?_
          refine still_move (by kernel_rfl) (some 86) (by kernel_rfl) (.tmp 0) (by kernel_rfl) (.int .i64 6) (by kernel_rfl) ?_
          refine still_value (by kernel_rfl) (some 87) (by kernel_rfl) (.bool true) (by kernel_rfl) ?_
          refine still_move (by kernel_rfl) (some 88) (by kernel_rfl) (.tmp 87) (by kernel_rfl) (.bool true) (by kernel_rfl) ?_
          refine still_move (by kernel_rfl) (some 89) (by kernel_rfl) (.tmp 14) (by kernel_rfl) (.int .i64 (k : Int)) (by kernel_rfl) ?_
          refine still_index (by kernel_rfl) (some 90) (by kernel_rfl) (.tmp 8) (.tmp 89) (by kernel_rfl) ga k hm (by kernel_rfl) (by kernel_rfl) ?_
          refine still_load (by kernel_rfl) (some 91) (by kernel_rfl) (.tmp 90) (by kernel_rfl) ga k true hca' (by kernel_rfl) ?_
          refine still_pick (by kernel_rfl) (some 92) (by kernel_rfl) (.tmp 88) (.tmp 91) (.const (.bool false)) (by kernel_rfl) true (.bool true) (by kernel_rfl) (by kernel_rfl) ?_
          refine still_move (by kernel_rfl) (some 93) (by kernel_rfl) (.tmp 92) (by kernel_rfl) (.bool true) (by kernel_rfl) ?_
          refine still_move (by kernel_rfl) (some 94) (by kernel_rfl) (.tmp 14) (by kernel_rfl) (.int .i64 (k : Int)) (by kernel_rfl) ?_
          refine still_index (by kernel_rfl) (some 95) (by kernel_rfl) (.tmp 9) (.tmp 94) (by kernel_rfl) gb k hm (by kernel_rfl) (by kernel_rfl) ?_
          refine still_load (by kernel_rfl) (some 96) (by kernel_rfl) (.tmp 95) (by kernel_rfl) gb k true hcb' (by kernel_rfl) ?_
          refine still_pick (by kernel_rfl) (some 97) (by kernel_rfl) (.tmp 93) (.tmp 96) (.const (.bool false)) (by kernel_rfl) true (.bool true) (by kernel_rfl) (by kernel_rfl) ?_
          refine still_move (by kernel_rfl) (some 98) (by kernel_rfl) (.tmp 97) (by kernel_rfl) (.bool true) (by kernel_rfl) ?_
          refine still_skip (by kernel_rfl) (some 99) (by kernel_rfl) ?_
          refine still_skip (by kernel_rfl) (some 100) (by kernel_rfl) ?_
          refine still_skip (by kernel_rfl) (some 101) (by kernel_rfl) ?_
          refine still_skip (by kernel_rfl) (some 102) (by kernel_rfl) ?_
          refine still_skip (by kernel_rfl) (some 103) (by kernel_rfl) ?_
          refine still_skip (by kernel_rfl) (some 104) (by kernel_rfl) ?_
          refine still_skip (by kernel_rfl) (some 105) (by kernel_rfl) ?_
          refine still_skip (by kernel_rfl) (some 106) (by kernel_rfl) ?_
          refine still_skip (by kernel_rfl) (some 107) (by kernel_rfl) ?_
          refine still_skip (by kernel_rfl) (some 108) (by kernel_rfl) ?_
          refine still_skip (by kernel_rfl) (some 109) (by kernel_rfl) ?_
          refine still_skip (by kernel_rfl) (some 110) (by kernel_rfl) ?_
          refine still_pick (by kernel_rfl) (some 111) (by kernel_rfl) (.tmp 98) (.const (.bool true)) (.tmp 110) (by kernel_rfl) true (.bool true) (by kernel_rfl) (by kernel_rfl) ?_
          refine still_move (by kernel_rfl) (some 112) (by kernel_rfl) (.tmp 111) (by kernel_rfl) (.bool true) (by kernel_rfl) ?_
          refine still_skip (by kernel_rfl) (some 113) (by kernel_rfl) ?_
          refine still_skip (by kernel_rfl) (some 114) (by kernel_rfl) ?_
          refine still_skip (by kernel_rfl) (some 115) (by kernel_rfl) ?_
          refine still_skip (by kernel_rfl) (some 116) (by kernel_rfl) ?_
          refine still_skip (by kernel_rfl) (some 117) (by kernel_rfl) ?_
          refine still_skip (by kernel_rfl) (some 118) (by kernel_rfl) ?_
          refine still_skip (by kernel_rfl) (some 119) (by kernel_rfl) ?_
          refine still_skip (by kernel_rfl) (some 120) (by kernel_rfl) ?_
          refine still_skip (by kernel_rfl) (some 121) (by kernel_rfl) ?_
          refine still_skip (by kernel_rfl) (some 122) (by kernel_rfl) ?_
          refine still_skip (by kernel_rfl) (some 123) (by kernel_rfl) ?_
          refine still_pick (by kernel_rfl) (some 124) (by kernel_rfl) (.tmp 112) (.const (.bool true)) (.tmp 123) (by kernel_rfl) true (.bool true) (by kernel_rfl) (by kernel_rfl) ?_
          refine still_index (by kernel_rfl) (some 125) (by kernel_rfl) (.tmp 10) (.tmp 85) (by kernel_rfl) go k hm (by kernel_rfl) (by kernel_rfl) ?_
          refine still_nil ?_
          simp only [Act.put, List.setIfInBounds_toArray, List.set_cons_zero, List.set_cons_succ]
          clear hca hcb hca' hcb'
          go_wp2_with fail
          go_roundw
          case rel => exact ⟨k + 1, by omega, by simp, X.but (but_setDrew wr go k _) (by omega), Y.but (but_setDrew wr go k _) (by omega), (O.setDrew _).congr (fun j _ => by rw [← part_step k t j, HK.out]; rfl), (but_setDrew wr go k _).under C C.size o3⟩
          case measure => simp [intOf]; omega

set_option maxHeartbeats 1000000 in
set_option maxRecDepth 100000 in
theorem refDo_7 (x y : Int) (a b : B64) (w : World) (HA : Hid (BitVec.ofInt 64 x = a)) (HB : Hid (BitVec.ofInt 64 y = b)) (t : B64) (v : Int) (HT : Hid (a ||| b = t)) (HV : Hid (t.toInt = v)) :
    Calls Tryd.prog 12 #[.int .i64 7, .int .i64 x, .int .i64 y] w fun e w' => e = .returned (.tuple #[.int .i64 v, .int .i64 0]) ∧ Below w.heap.size w w' := by
  go_enter Tryd.func12, Tryd.ntmps12
  go_wp2_with fail
  refine (from_to x a _ HA).mono ?_
  rintro e w1 ⟨rfl, B1⟩
  go_wp2_with (first | (refine wpList_alloc44 rfl rfl ?_; intro ga w2 H2 A2 B2; refine wpList_store44 rfl _ _ rfl ga a.getLsbD rfl rfl noF A2 ?_; intro w3 A3 B3; refine Hid.out ?_))
  have e2 := H2.out
  have s1 := B1.size
  have s2 := B2.size
  have o0 : w.heap.size ≤ ga := by omega
  have C3 := B3.under (B1.trans (B2.mono s1)) (by omega) o0
  have l3 := A3.lt
  clear A2 B1 B2 B3 H2 e2 s1 s2
  refine Lib.hid ?_
  go_wp2_with fail
  refine (from_to y b _ HB).mono ?_
  rintro e w4 ⟨rfl, B4⟩
  go_wp2_with (first | (refine wpList_alloc44 rfl rfl ?_; intro gb w5 H5 A5 B5; refine wpList_store44 rfl _ _ rfl gb b.getLsbD rfl rfl noF A5 ?_; intro w6 A6 B6; refine Hid.out ?_))
  have e5 := H5.out
  have s4 := B4.size
  have s5 := B5.size
  have o1 : ga < gb := by omega
  have X6 := ((A3.below B4).below B5).but B6 (by omega)
  have C6 := B6.under ((C3.trans (B4.mono C3.size)).trans (B5.mono (Nat.le_trans C3.size s4))) (by have := C3.size; omega) (by omega)
  have l6 := A6.lt
  clear A3 A5 B4 B5 B6 H5 e5 s4 s5 l3 C3
  refine Lib.hid ?_
  go_wp2_with (first | (refine wpList_build44 rfl rfl ?_; refine wpList_alloc44 rfl rfl ?_; intro go w7 H7 A7 B7; refine wpList_store44 rfl _ _ rfl go noF rfl rfl noF A7 ?_; intro w8 O B8; refine Hid.out ?_))
  have e7 := H7.out
  have s7 := B7.size
  have o2 : gb < go := by omega
  have X := (X6.below B7).but B8 (by omega)
  have Y := (A6.below B7).but B8 (by omega)
  have C := B8.under (C6.trans (B7.mono C6.size)) (by have := C6.size; omega) (by omega)
  have o3 : w.heap.size ≤ go := by omega
  clear X6 A6 A7 B7 B8 H7 e7 s7 l6 C6
  refine Lib.hid ?_
  go_wp2_with fail
  go_loopw [14] (fun i wr => BitRel w ga gb go a b t i wr) (fun i _ => (64 - intOf i).toNat)
  case atStart => exact ⟨0, by omega, rfl, X, Y, O.congr (part_zero t), C⟩
  case round =>
    clear X Y O C
    obtain ⟨k, hk, rfl, X, Y, O, C⟩ := hrel
    by_cases h : k = 64
    · subst h
      have O' := O.congr (part_full t)
      clear O
      go_wp2_with (first | (refine wpList_load44 rfl _ rfl go rfl t.getLsbD O' ?_) | (go_at_call 39; refine (toInt_to t v _ HV).mono ?_; rintro e w20 ⟨rfl, B20⟩))
      go_ret2
      exact ⟨rfl, C.trans (B20.mono C.size)⟩
    · have hm : k < 64 := by omega
      have hm' : (k : Int) < 64 := by omega
      have hca := X.cell k hm
      have hcb := Y.cell k hm
      have hco := O.cell k hm
      have hfo := O.frozen k
      have ht : t.getLsbD k = (a.getLsbD k || b.getLsbD k) := by rw [← HT.out, BitVec.getLsbD_or]
      obtain ⟨x, hx⟩ : ∃ x, a.getLsbD k = x := ⟨_, rfl⟩
      obtain ⟨y, hy⟩ : ∃ x, b.getLsbD k = x := ⟨_, rfl⟩
      obtain ⟨z, hz⟩ : ∃ x, part k t k = x := ⟨_, rfl⟩
      rw [hx] at hca ht
      rw [hy] at hcb ht
      rw [hz] at hco
      have HK := Lib.hid ht
      clear hx hy hz ht
      cases x
      · cases y
        · go_wp2_with fail
          refine wp_region_still_tail 41 (by kernel_rfl) (by kernel_rfl) ?_
          simp only [List.take_succ_cons, List.take_zero, List.drop_succ_cons, List.drop_zero]
          refine Stl.ok ?_
          have hca' : ({ wr with drawn := wr.drawn + 1 } : World).cell? ⟨ga, k, none⟩ = _ := hca
          have hcb' : ({ wr with drawn := wr.drawn + 1 } : World).cell? ⟨gb, k, none⟩ = _ := hcb
          refine still_move (by kernel_rfl) (some 85) (by kernel_rfl) (.tmp 14) (by kernel_rfl) (.int .i64 (k : Int)) (by kernel_rfl) ?_
          refine still_move (by kernel_rfl) (some 86) (by kernel_rfl) (.tmp 0) (by kernel_rfl) (.int .i64 7) (by kernel_rfl) ?_
          refine still_value (by kernel_rfl) (some 87) (by kernel_rfl) (.bool false) (by kernel_rfl) ?_
          refine still_move (by kernel_rfl) (some 88) (by kernel_rfl) (.tmp 87) (by kernel_rfl) (.bool false) (by kernel_rfl) ?_
          refine still_skip (by kernel_rfl) (some 89) (by kernel_rfl) ?_
          refine still_skip (by kernel_rfl) (some 90) (by kernel_rfl) ?_
          refine still_skip (by kernel_rfl) (some 91) (by kernel_rfl) ?_
          refine still_pick (by kernel_rfl) (some 92) (by kernel_rfl) (.tmp 88) (.tmp 91) (.const (.bool false)) (by kernel_rfl) false (.bool false) (by kernel_rfl) (by kernel_rfl) ?_
          refine still_move (by kernel_rfl) (some 93) (by kernel_rfl) (.tmp 92) (by kernel_rfl) (.bool false) (by kernel_rfl) ?_
          refine still_skip (by kernel_rfl) (some 94) (by kernel_rfl) ?_
          refine still_skip (by kernel_rfl) (some 95) (by kernel_rfl) ?_
          refine still_skip (by kernel_rfl) (some 96) (by kernel_rfl) ?_
          refine still_pick (by kernel_rfl) (some 97) (by kernel_rfl) (.tmp 93) (.tmp 96) (.const (.bool false)) (by kernel_rfl) false (.bool false) (by kernel_rfl) (by kernel_rfl) ?_
          refine still_move (by kernel_rfl) (some 98) (by kernel_rfl) (.tmp 97) (by kernel_rfl) (.bool false) (by kernel_rfl) ?_
          refine still_move (by kernel_rfl) (some 99) (by kernel_rfl) (.tmp 0) (by kernel_rfl) (.int .i64 7) (by kernel_rfl) ?_
          refine still_value (by kernel_rfl) (some 100) (by kernel_rfl) (.bool true) (by kernel_rfl) ?_
          refine still_move (by kernel_rfl) (some 101) (by kernel_rfl) (.tmp 100) (by kernel_rfl) (.bool true) (by kernel_rfl) ?_
          refine still_move (by kernel_rfl) (some 102) (by kernel_rfl) (.tmp 14) (by kernel_rfl) (.int .i64 (k : Int)) (by kernel_rfl) ?_
          refine still_index (by kernel_rfl) (some 103) (by kernel_rfl) (.tmp 8) (.tmp 102) (by kernel_rfl) ga k hm (by kernel_rfl) (by kernel_rfl) ?_
          refine still_load (by kernel_rfl) (some 104) (by kernel_rfl) (.tmp 103) (by kernel_rfl) ga k false hca' (by kernel_rfl) ?_
          refine still_move (by kernel_rfl) (some 105) (by kernel_rfl) (.tmp 104) (by kernel_rfl) (.bool false) (by kernel_rfl) ?_
          refine still_move (by kernel_rfl) (some 106) (by kernel_rfl) (.tmp 14) (by kernel_rfl) (.int .i64 (k : Int)) (by kernel_rfl) ?_
          refine still_index (by kernel_rfl) (some 107) (by kernel_rfl) (.tmp 9) (.tmp 106) (by kernel_rfl) gb k hm (by kernel_rfl) (by kernel_rfl) ?_
          refine still_load (by kernel_rfl) (some 108) (by kernel_rfl) (.tmp 107) (by kernel_rfl) gb k false hcb' (by kernel_rfl) ?_
          refine still_pick (by kernel_rfl) (some 109) (by kernel_rfl) (.tmp 105) (.const (.bool true)) (.tmp 108) (by kernel_rfl) false (.bool false) (by kernel_rfl) (by kernel_rfl) ?_
          refine still_pick (by kernel_rfl) (some 110) (by kernel_rfl) (.tmp 101) (.tmp 109) (.const (.bool false)) (by kernel_rfl) true (.bool false) (by kernel_rfl) (by kernel_rfl) ?_
          refine still_pick (by kernel_rfl) (some 111) (by kernel_rfl) (.tmp 98) (.const (.bool true)) (.tmp 110) (by kernel_rfl) false (.bool false) (by kernel_rfl) (by kernel_rfl) ?_
          refine still_move (by kernel_rfl) (some 112) (by kernel_rfl) (.tmp 111) (by kernel_rfl) (.bool false) (by kernel_rfl) ?_
          refine still_move (by kernel_rfl) (some 113) (by kernel_rfl) (.tmp 0) (by kernel_rfl) (.int .i64 7) (by kernel_rfl) ?_
          refine still_value (by kernel_rfl) (some 114) (by kernel_rfl) (.bool false) (by kernel_rfl) ?_
          refine still_move (by kernel_rfl) (some 115) (by kernel_rfl) (.tmp 114) (by kernel_rfl) (.bool false) (by kernel_rfl) ?_
          refine still_skip (by kernel_rfl) (some 116) (by kernel_rfl) ?_
          refine still_skip (by kernel_rfl) (some 117) (by kernel_rfl) ?_
          refine still_skip (by kernel_rfl) (some 118) (by kernel_rfl) ?_
          refine still_skip (by kernel_rfl) (some 119) (by kernel_rfl) ?_
          refine still_skip (by kernel_rfl) (some 120) (by kernel_rfl) ?_
          refine still_skip (by kernel_rfl) (some 121) (by kernel_rfl) ?_
          refine still_skip (by kernel_rfl) (some 122) (by kernel_rfl) ?_
          refine still_pick (by kernel_rfl) (some 123) (by kernel_rfl) (.tmp 115) (.tmp 122) (.const (.bool false)) (by kernel_rfl) false (.bool false) (by kernel_rfl) (by kernel_rfl) ?_
          refine still_pick (by kernel_rfl) (some 124) (by kernel_rfl) (.tmp 112) (.const (.bool true)) (.tmp 123) (by kernel_rfl) false (.bool false) (by kernel_rfl) (by kernel_rfl) ?_
          refine still_index (by kernel_rfl) (some 125) (by kernel_rfl) (.tmp 10) (.tmp 85) (by kernel_rfl) go k hm (by kernel_rfl) (by kernel_rfl) ?_
          refine still_nil ?_
          simp only [Act.put, List.setIfInBounds_toArray, List.set_cons_zero, List.set_cons_succ]
          clear hca hcb hca' hcb'
          go_wp2_with fail
          go_roundw
          case rel => exact ⟨k + 1, by omega, by simp, X.but (but_setDrew wr go k _) (by omega), Y.but (but_setDrew wr go k _) (by omega), (O.setDrew _).congr (fun j _ => by rw [← part_step k t j, HK.out]; rfl), (but_setDrew wr go k _).under C C.size o3⟩
          case measure => simp [intOf]; omega
        · go_wp2_with fail
          refine wp_region_still_tail 41 (by kernel_rfl) (by kernel_rfl) ?_
          simp only [List.take_succ_cons, List.take_zero, List.drop_succ_cons, List.drop_zero]
          refine Stl.ok ?_
          have hca' : ({ wr with drawn := wr.drawn + 1 } : World).cell? ⟨ga, k, none⟩ = _ := hca
          have hcb' : ({ wr with drawn := wr.drawn + 1 } : World).cell? ⟨gb, k, none⟩ = _ := hcb
          refine still_move (by kernel_rfl) (some 85) (by kernel_rfl) (.tmp 14) (by kernel_rfl) (.int .i64 (k : Int)) (by kernel_rfl) ?_
          refine still_move (by kernel_rfl) (some 86) (by kernel_rfl) (.tmp 0) (by kernel_rfl) (.int .i64 7) (by kernel_rfl) ?_
          refine still_value (by kernel_rfl) (some 87) (by kernel_rfl) (.bool false) (by kernel_rfl) ?_
          refine still_move (by kernel_rfl) (some 88) (by kernel_rfl) (.tmp 87) (by kernel_rfl) (.bool false) (by kernel_rfl) ?_
          refine still_skip (by kernel_rfl) (some 89) (by kernel_rfl) ?_
          refine still_skip (by kernel_rfl) (some 90) (by kernel_rfl) ?_
          refine still_skip (by kernel_rfl) (some 91) (by kernel_rfl) ?_
          refine still_pick (by kernel_rfl) (some 92) (by kernel_rfl) (.tmp 88) (.tmp 91) (.const (.bool false)) (by kernel_rfl) false (.bool false) (by kernel_rfl) (by kernel_rfl) ?_
          refine still_move (by kernel_rfl) (some 93) (by kernel_rfl) (.tmp 92) (by kernel_rfl) (.bool false) (by kernel_rfl) ?_
          refine still_skip (by kernel_rfl) (some 94) (by kernel_rfl) ?_
          refine still_skip (by kernel_rfl) (some 95) (by kernel_rfl) ?_
          refine still_skip (by kernel_rfl) (some 96) (by kernel_rfl) ?_
          refine still_pick (by kernel_rfl) (some 97) (by kernel_rfl) (.tmp 93) (.tmp 96) (.const (.bool false)) (by kernel_rfl) false (.bool false) (by kernel_rfl) (by kernel_rfl) ?_
          refine still_move (by kernel_rfl) (some 98) (by kernel_rfl) (.tmp 97) (by kernel_rfl) (.bool false) (by kernel_rfl) ?_
          refine still_move (by kernel_rfl) (some 99) (by kernel_rfl) (.tmp 0) (by kernel_rfl) (.int .i64 7) (by kernel_rfl) ?_
          refine still_value (by kernel_rfl) (some 100) (by kernel_rfl) (.bool true) (by kernel_rfl) ?_
          refine still_move (by kernel_rfl) (some 101) (by kernel_rfl) (.tmp 100) (by kernel_rfl) (.bool true) (by kernel_rfl) ?_
          refine still_move (by kernel_rfl) (some 102) (by kernel_rfl) (.tmp 14) (by kernel_rfl) (.int .i64 (k : Int)) (by kernel_rfl) ?_
          refine still_index (by kernel_rfl) (some 103) (by kernel_rfl) (.tmp 8) (.tmp 102) (by kernel_rfl) ga k hm (by kernel_rfl) (by kernel_rfl) ?_
          refine still_load (by kernel_rfl) (some 104) (by kernel_rfl) (.tmp 103) (by kernel_rfl) ga k false hca' (by kernel_rfl) ?_
          refine still_move (by kernel_rfl) (some 105) (by kernel_rfl) (.tmp 104) (by kernel_rfl) (.bool false) (by kernel_rfl) ?_
          refine still_move (by kernel_rfl) (some 106) (by kernel_rfl) (.tmp 14) (by kernel_rfl) (.int .i64 (k : Int)) (by kernel_rfl) ?_
          refine still_index (by kernel_rfl) (some 107) (by kernel_rfl) (.tmp 9) (.tmp 106) (by kernel_rfl) gb k hm (by kernel_rfl) (by kernel_rfl) ?_
          refine still_load (by kernel_rfl) (some 108) (by kernel_rfl) (.tmp 107) (by kernel_rfl) gb k true hcb' (by kernel_rfl) ?_
          refine still_pick (by kernel_rfl) (some 109) (by kernel_rfl) (.tmp 105) (.const (.bool true)) (.tmp 108) (by kernel_rfl) false (.bool true) (by kernel_rfl) (by kernel_rfl) ?_
          refine still_pick (by kernel_rfl) (some 110) (by kernel_rfl) (.tmp 101) (.tmp 109) (.const (.bool false)) (by kernel_rfl) true (.bool true) (by kernel_rfl) (by kernel_rfl) ?_
          refine still_pick (by kernel_rfl) (some 111) (by kernel_rfl) (.tmp 98) (.const (.bool true)) (.tmp 110) (by kernel_rfl) false (.bool true) (by kernel_rfl) (by kernel_rfl) ?_
          refine still_move (by kernel_rfl) (some 112) (by kernel_rfl) (.tmp 111) (by kernel_rfl) (.bool true) (by kernel_rfl) ?_
          refine still_skip (by kernel_rfl) (some 113) (by kernel_rfl) ?_
          refine still_skip (by kernel_rfl) (some 114) (by kernel_rfl) ?_
          refine still_skip (by kernel_rfl) (some 115) (by kernel_rfl) ?_
          refine still_skip (by kernel_rfl) (some 116) (by kernel_rfl) ?_
          refine still_skip (by kernel_rfl) (some 117) (by kernel_rfl) ?_
          refine still_skip (by kernel_rfl) (some 118) (by kernel_rfl) ?_
          refine still_skip (by kernel_rfl) (some 119) (by kernel_rfl) ?_
          refine still_skip (by kernel_rfl) (some 120) (by kernel_rfl) ?_
          refine still_skip (by kernel_rfl) (some 121) (by kernel_rfl) ?_
          refine still_skip (by kernel_rfl) (some 122) (by kernel_rfl) ?_
          refine still_skip (by kernel_rfl) (some 123) (by kernel_rfl) ?_
          refine still_pick (by kernel_rfl) (some 124) (by kernel_rfl) (.tmp 112) (.const (.bool true)) (.tmp 123) (by kernel_rfl) true (.bool true) (by kernel_rfl) (by kernel_rfl) ?_
          refine still_index (by kernel_rfl) (some 125) (by kernel_rfl) (.tmp 10) (.tmp 85) (by kernel_rfl) go k hm (by kernel_rfl) (by kernel_rfl) ?_
          refine still_nil ?_
          simp only [Act.put, List.setIfInBounds_toArray, List.set_cons_zero, List.set_cons_succ]
          clear hca hcb hca' hcb'
          go_wp2_with fail
          go_roundw
          case rel => exact ⟨k + 1, by omega, by simp, X.but (but_setDrew wr go k _) (by omega), Y.but (but_setDrew wr go k _) (by omega), (O.setDrew _).congr (fun j _ => by rw [← part_step k t j, HK.out]; rfl), (but_setDrew wr go k _).under C C.size o3⟩
          case measure => simp [intOf]; omega
      · cases y
        · go_wp2_with fail
          refine wp_region_still_tail 41 (by kernel_rfl) (by kernel_rfl) ?_
          simp only [List.take_succ_cons, List.take_zero, List.drop_succ_cons, List.drop_zero]
          refine Stl.ok ?_
          have hca' : ({ wr with drawn := wr.drawn + 1 } : World).cell? ⟨ga, k, none⟩ = _ := hca
          have hcb' : ({ wr with drawn := wr.drawn + 1 } : World).cell? ⟨gb, k, none⟩ = _ := hcb
          refine still_move (by kernel_rfl) (some 85) (by kernel_rfl) (.tmp 14) (by kernel_rfl) (.int .i64 (k : Int)) (by kernel_rfl) ?_
          refine still_move (by kernel_rfl) (some 86) (by kernel_rfl) (.tmp 0) (by kernel_rfl) (.int .i64 7) (by kernel_rfl) ?_
          refine still_value (by kernel_rfl) (some 87) (by kernel_rfl) (.bool false) (by kernel_rfl) ?_
          refine still_move (by kernel_rfl) (some 88) (by kernel_rfl) (.tmp 87) (by kernel_rfl) (.bool false) (by kernel_rfl) ?_
          refine still_skip (by kernel_rfl) (some 89) (by kernel_rfl) ?_
          refine still_skip (by kernel_rfl) (some 90) (by kernel_rfl) ?_
          refine still_skip (by kernel_rfl) (some 91) (by kernel_rfl) ?_
          refine still_pick (by kernel_rfl) (some 92) (by kernel_rfl) (.tmp 88) (.tmp 91) (.const (.bool false)) (by kernel_rfl) false (.bool false) (by kernel_rfl) (by kernel_rfl) ?_
          refine still_move (by kernel_rfl) (some 93) (by kernel_rfl) (.tmp 92) (by kernel_rfl) (.bool false) (by kernel_rfl) ?_
          refine still_skip (by kernel_rfl) (some 94) (by kernel_rfl) ?_
          refine still_skip (by kernel_rfl) (some 95) (by kernel_rfl) ?_
          refine still_skip (by kernel_rfl) (some 96) (by kernel_rfl) ?_
          refine still_pick (by kernel_rfl) (some 97) (by kernel_rfl) (.tmp 93) (.tmp 96) (.const (.bool false)) (by kernel_rfl) false (.bool false) (by kernel_rfl) (by kernel_rfl) ?_
          refine still_move (by kernel_rfl) (some 98) (by kernel_rfl) (.tmp 97) (by kernel_rfl) (.bool false) (by kernel_rfl) ?_
          refine still_move (by kernel_rfl) (some 99) (by kernel_rfl) (.tmp 0) (by kernel_rfl) (.int .i64 7) (by kernel_rfl) ?_
          refine still_value (by kernel_rfl) (some 100) (by kernel_rfl) (.bool true) (by kernel_rfl) ?_
          refine still_move (by kernel_rfl) (some 101) (by kernel_rfl) (.tmp 100) (by kernel_rfl) (.bool true) (by kernel_rfl) ?_
          refine still_move (by kernel_rfl) (some 102) (by kernel_rfl) (.tmp 14) (by kernel_rfl) (.int .i64 (k : Int)) (by kernel_rfl) ?_
          refine still_index (by kernel_rfl) (some 103) (by kernel_rfl) (.tmp 8) (.tmp 102) (by kernel_rfl) ga k hm (by kernel_rfl) (by kernel_rfl) ?_
          refine still_load (by kernel_rfl) (some 104) (by kernel_rfl) (.tmp 103) (by kernel_rfl) ga k true hca' (by kernel_rfl) ?_
          refine still_move (by kernel_rfl) (some 105) (by kernel_rfl) (.tmp 104) (by kernel_rfl) (.bool true) (by kernel_rfl) ?_
          refine still_skip (by kernel_rfl) (some 106) (by kernel_rfl) ?_
          refine still_skip (by kernel_rfl) (some 107) (by kernel_rfl) ?_
          refine still_skip (by kernel_rfl) (some 108) (by kernel_rfl) ?_
          refine still_pick (by kernel_rfl) (some 109) (by kernel_rfl) (.tmp 105) (.const (.bool true)) (.tmp 108) (by kernel_rfl) true (.bool true) (by kernel_rfl) (by kernel_rfl) ?_
          refine still_pick (by kernel_rfl) (some 110) (by kernel_rfl) (.tmp 101) (.tmp 109) (.const (.bool false)) (by kernel_rfl) true (.bool true) (by kernel_rfl) (by kernel_rfl) ?_
          refine still_pick (by kernel_rfl) (some 111) (by kernel_rfl) (.tmp 98) (.const (.bool true)) (.tmp 110) (by kernel_rfl) false (.bool true) (by kernel_rfl) (by kernel_rfl) ?_
          refine still_move (by kernel_rfl) (some 112) (by kernel_rfl) (.tmp 111) (by kernel_rfl) (.bool true) (by kernel_rfl) ?_
          refine still_skip (by kernel_rfl) (some 113) (by kernel_rfl) ?_
          refine still_skip (by kernel_rfl) (some 114) (by kernel_rfl) ?_
          refine still_skip (by kernel_rfl) (some 115) (by kernel_rfl) ?_
          refine still_skip (by kernel_rfl) (some 116) (by kernel_rfl) ?_
          refine still_skip (by kernel_rfl) (some 117) (by kernel_rfl) ?_
          refine still_skip (by kernel_rfl) (some 118) (by kernel_rfl) ?_
          refine still_skip (by kernel_rfl) (some 119) (by kernel_rfl) ?_
          refine still_skip (by kernel_rfl) (some 120) (by kernel_rfl) ?_
          refine still_skip (by kernel_rfl) (some 121) (by kernel_rfl) ?_
          refine still_skip (by kernel_rfl) (some 122) (by kernel_rfl) ?_
          refine still_skip (by kernel_rfl) (some 123) (by kernel_rfl) ?_
          refine still_pick (by kernel_rfl) (some 124) (by kernel_rfl) (.tmp 112) (.const (.bool true)) (.tmp 123) (by kernel_rfl) true (.bool true) (by kernel_rfl) (by kernel_rfl) ?_
          refine still_index (by kernel_rfl) (some 125) (by kernel_rfl) (.tmp 10) (.tmp 85) (by kernel_rfl) go k hm (by kernel_rfl) (by kernel_rfl) ?_
          refine still_nil ?_
          simp only [Act.put, List.setIfInBounds_toArray, List.set_cons_zero, List.set_cons_succ]
          clear hca hcb hca' hcb'
          go_wp2_with fail
          go_roundw
          case rel => exact ⟨k + 1, by omega, by simp, X.but (but_setDrew wr go k _) (by omega), Y.but (but_setDrew wr go k _) (by omega), (O.setDrew _).congr (fun j _ => by rw [← part_step k t j, HK.out]; rfl), (but_setDrew wr go k _).under C C.size o3⟩
          case measure => simp [intOf]; omega
        · go_wp2_with fail
          refine wp_region_still_tail 41 (by kernel_rfl) (by kernel_rfl) ?_
          simp only [List.take_succ_cons, List.take_zero, List.drop_succ_cons, List.drop_zero]
          refine Stl.ok ?_
          have hca' : ({ wr with drawn := wr.drawn + 1 } : World).cell? ⟨ga, k, none⟩ = _ := hca
          have hcb' : ({ wr with drawn := wr.drawn + 1 } : World).cell? ⟨gb, k, none⟩ = _ := hcb
          refine still_move (by kernel_rfl) (some 85) (by kernel_rfl) (.tmp 14) (by kernel_rfl) (.int .i64 (k : Int)) (by kernel_rfl) ?_
          refine still_move (by kernel_rfl) (some 86) (by kernel_rfl) (.tmp 0) (by kernel_rfl) (.int .i64 7) (by kernel_rfl) ?_
          refine still_value (by kernel_rfl) (some 87) (by kernel_rfl) (.bool false) (by kernel_rfl) ?_
          refine still_move (by kernel_rfl) (some 88) (by kernel_rfl) (.tmp 87) (by kernel_rfl) (.bool false) (by kernel_rfl) ?_
          refine still_skip (by kernel_rfl) (some 89) (by kernel_rfl) ?_
          refine still_skip (by kernel_rfl) (some 90) (by kernel_rfl) ?_
          refine still_skip (by kernel_rfl) (some 91) (by kernel_rfl) ?_
          refine still_pick (by kernel_rfl) (some 92) (by kernel_rfl) (.tmp 88) (.tmp 91) (.const (.bool false)) (by kernel_rfl) false (.bool false) (by kernel_rfl) (by kernel_rfl) ?_
          refine still_move (by kernel_rfl) (some 93) (by kernel_rfl) (.tmp 92) (by kernel_rfl) (.bool false) (by kernel_rfl) ?_
          refine still_skip (by kernel_rfl) (some 94) (by kernel_rfl) ?_
          refine still_skip (by kernel_rfl) (some 95) (by kernel_rfl) ?_
          refine still_skip (by kernel_rfl) (some 96) (by kernel_rfl) ?_
          refine still_pick (by kernel_rfl) (some 97) (by kernel_rfl) (.tmp 93) (.tmp 96) (.const (.bool false)) (by kernel_rfl) false (.bool false) (by kernel_rfl) (by kernel_rfl) ?_
          refine still_move (by kernel_rfl) (some 98) (by kernel_rfl) (.tmp 97) (by kernel_rfl) (.bool false) (by kernel_rfl) ?_
          refine still_move (by kernel_rfl) (some 99) (by kernel_rfl) (.tmp 0) (by kernel_rfl) (.int .i64 7) (by kernel_rfl) ?_
          refine still_value (by kernel_rfl) (some 100) (by kernel_rfl) (.bool true) (by kernel_rfl) ?_
          refine still_move (by kernel_rfl) (some 101) (by kernel_rfl) (.tmp 100) (by kernel_rfl) (.bool true) (by kernel_rfl) ?_
          refine still_move (by kernel_rfl) (some 102) (by kernel_rfl) (.tmp 14) (by kernel_rfl) (.int .i64 (k : Int)) (by kernel_rfl) ?_
          refine still_index (by kernel_rfl) (some 103) (by kernel_rfl) (.tmp 8) (.tmp 102) (by kernel_rfl) ga k hm (by kernel_rfl) (by kernel_rfl) ?_
          refine still_load (by kernel_rfl) (some 104) (by kernel_rfl) (.tmp 103) (by kernel_rfl) ga k true hca' (by kernel_rfl) ?_
          refine still_move (by kernel_rfl) (some 105) (by kernel_rfl) (.tmp 104) (by kernel_rfl) (.bool true) (by kernel_rfl) ?_
          refine still_skip (by kernel_rfl) (some 106) (by kernel_rfl) ?_
          refine still_skip (by kernel_rfl) (some 107) (by kernel_rfl) ?_
          refine still_skip (by kernel_rfl) (some 108) (by kernel_rfl) ?_
          refine still_pick (by kernel_rfl) (some 109) (by kernel_rfl) (.tmp 105) (.const (.bool true)) (.tmp 108) (by kernel_rfl) true (.bool true) (by kernel_rfl) (by kernel_rfl) ?_
          refine still_pick (by kernel_rfl) (some 110) (by kernel_rfl) (.tmp 101) (.tmp 109) (.const (.bool false)) (by kernel_rfl) true (.bool true) (by kernel_rfl) (by kernel_rfl) ?_
          refine still_pick (by kernel_rfl) (some 111) (by kernel_rfl) (.tmp 98) (.const (.bool true)) (.tmp 110) (by kernel_rfl) false (.bool true) (by kernel_rfl) (by kernel_rfl) ?_
          refine still_move (by kernel_rfl) (some 112) (by kernel_rfl) (.tmp 111) (by kernel_rfl) (.bool true) (by kernel_rfl) ?_
          refine still_skip (by kernel_rfl) (some 113) (by kernel_rfl) ?_
          refine still_skip (by kernel_rfl) (some 114) (by kernel_rfl) ?_
          refine still_skip (by kernel_rfl) (some 115) (by kernel_rfl) ?_
          refine still_skip (by kernel_rfl) (some 116) (by kernel_rfl) ?_
          refine still_skip (by kernel_rfl) (some 117) (by kernel_rfl) ?_
          refine still_skip (by kernel_rfl) (some 118) (by kernel_rfl) ?_
          refine still_skip (by kernel_rfl) (some 119) (by kernel_rfl) ?_
          refine still_skip (by kernel_rfl) (some 120) (by kernel_rfl) ?_
          refine still_skip (by kernel_rfl) (some 121) (by kernel_rfl) ?_
          refine still_skip (by kernel_rfl) (some 122) (by kernel_rfl) ?_
          refine still_skip (by kernel_rfl) (some 123) (by kernel_rfl) ?_
          refine still_pick (by kernel_rfl) (some 124) (by kernel_rfl) (.tmp 112) (.const (.bool true)) (.tmp 123) (by kernel_rfl) true (.bool true) (by kernel_rfl) (by kernel_rfl) ?_
          refine still_index (by kernel_rfl) (some 125) (by kernel_rfl) (.tmp 10) (.tmp 85) (by kernel_rfl) go k hm (by kernel_rfl) (by kernel_rfl) ?_
          refine still_nil ?_
          simp only [Act.put, List.setIfInBounds_toArray, List.set_cons_zero, List.set_cons_succ]
          clear hca hcb hca' hcb'
          go_wp2_with fail
          go_roundw
          case rel => exact ⟨k + 1, by omega, by simp, X.but (but_setDrew wr go k _) (by omega), Y.but (but_setDrew wr go k _) (by omega), (O.setDrew _).congr (fun j _ => by rw [← part_step k t j, HK.out]; rfl), (but_setDrew wr go k _).under C C.size o3⟩
          case measure => simp [intOf]; omega

set_option maxHeartbeats 1000000 in
set_option maxRecDepth 100000 in
theorem refDo_8 (x y : Int) (a b : B64) (w : World) (HA : Hid (BitVec.ofInt 64 x = a)) (HB : Hid (BitVec.ofInt 64 y = b)) (t : B64) (v : Int) (HT : Hid (a ^^^ b = t)) (HV : Hid (t.toInt = v)) :
    Calls Tryd.prog 12 #[.int .i64 8, .int .i64 x, .int .i64 y] w fun e w' => e = .returned (.tuple #[.int .i64 v, .int .i64 0]) ∧ Below w.heap.size w w' := by
  go_enter Tryd.func12, Tryd.ntmps12
  go_wp2_with fail
  refine (from_to x a _ HA).mono ?_
  rintro e w1 ⟨rfl, B1⟩
  go_wp2_with (first | (refine wpList_alloc44 rfl rfl ?_; intro ga w2 H2 A2 B2; refine wpList_store44 rfl _ _ rfl ga a.getLsbD rfl rfl noF A2 ?_; intro w3 A3 B3; refine Hid.out ?_))
  have e2 := H2.out
  have s1 := B1.size
  have s2 := B2.size
  have o0 : w.heap.size ≤ ga := by omega
  have C3 := B3.under (B1.trans (B2.mono s1)) (by omega) o0
  have l3 := A3.lt
  clear A2 B1 B2 B3 H2 e2 s1 s2
  refine Lib.hid ?_
  go_wp2_with fail
  refine (from_to y b _ HB).mono ?_
  rintro e w4 ⟨rfl, B4⟩
  go_wp2_with (first | (refine wpList_alloc44 rfl rfl ?_; intro gb w5 H5 A5 B5; refine wpList_store44 rfl _ _ rfl gb b.getLsbD rfl rfl noF A5 ?_; intro w6 A6 B6; refine Hid.out ?_))
  have e5 := H5.out
  have s4 := B4.size
  have s5 := B5.size
  have o1 : ga < gb := by omega
  have X6 := ((A3.below B4).below B5).but B6 (by omega)
  have C6 := B6.under ((C3.trans (B4.mono C3.size)).trans (B5.mono (Nat.le_trans C3.size s4))) (by have := C3.size; omega) (by omega)
  have l6 := A6.lt
  clear A3 A5 B4 B5 B6 H5 e5 s4 s5 l3 C3
  refine Lib.hid ?_
  go_wp2_with (first | (refine wpList_build44 rfl rfl ?_; refine wpList_alloc44 rfl rfl ?_; intro go w7 H7 A7 B7; refine wpList_store44 rfl _ _ rfl go noF rfl rfl noF A7 ?_; intro w8 O B8; refine Hid.out ?_))
  have e7 := H7.out
  have s7 := B7.size
  have o2 : gb < go := by omega
  have X := (X6.below B7).but B8 (by omega)
  have Y := (A6.below B7).but B8 (by omega)
  have C := B8.under (C6.trans (B7.mono C6.size)) (by have := C6.size; omega) (by omega)
  have o3 : w.heap.size ≤ go := by omega
  clear X6 A6 A7 B7 B8 H7 e7 s7 l6 C6
  refine Lib.hid ?_
  go_wp2_with fail
  go_loopw [14] (fun i wr => BitRel w ga gb go a b t i wr) (fun i _ => (64 - intOf i).toNat)
  case atStart => exact ⟨0, by omega, rfl, X, Y, O.congr (part_zero t), C⟩
  case round =>
    clear X Y O C
    obtain ⟨k, hk, rfl, X, Y, O, C⟩ := hrel
    by_cases h : k = 64
    · subst h
      have O' := O.congr (part_full t)
      clear O
      go_wp2_with (first | (refine wpList_load44 rfl _ rfl go rfl t.getLsbD O' ?_) | (go_at_call 39; refine (toInt_to t v _ HV).mono ?_; rintro e w20 ⟨rfl, B20⟩))
      go_ret2
      exact ⟨rfl, C.trans (B20.mono C.size)⟩
    · have hm : k < 64 := by omega
      have hm' : (k : Int) < 64 := by omega
      have hca := X.cell k hm
      have hcb := Y.cell k hm
      have hco := O.cell k hm
      have hfo := O.frozen k
      have ht : t.getLsbD k = (a.getLsbD k ^^ b.getLsbD k) := by rw [← HT.out, BitVec.getLsbD_xor]
      obtain ⟨x, hx⟩ : ∃ x, a.getLsbD k = x := ⟨_, rfl⟩
      obtain ⟨y, hy⟩ : ∃ x, b.getLsbD k = x := ⟨_, rfl⟩
      obtain ⟨z, hz⟩ : ∃ x, part k t k = x := ⟨_, rfl⟩
      rw [hx] at hca ht
      rw [hy] at hcb ht
      rw [hz] at hco
      have HK := Lib.hid ht
      clear hx hy hz ht
      cases x
      · cases y
        · go_wp2_with fail
          refine wp_region_still_tail 41 (by kernel_rfl) (by kernel_rfl) ?_
          simp only [List.take_succ_cons, List.take_zero, List.drop_succ_cons, List.drop_zero]
          refine Stl.ok ?_
          have hca' : ({ wr with drawn := wr.drawn + 1 } : World).cell? ⟨ga, k, none⟩ = _ := hca
          have hcb' : ({ wr with drawn := wr.drawn + 1 } : World).cell? ⟨gb, k, none⟩ = _ := hcb
          refine still_move (by kernel_rfl) (some 85) (by kernel_rfl) (.tmp 14) (by kernel_rfl) (.int .i64 (k : Int)) (by kernel_rfl) ?_
          refine still_move (by kernel_rfl) (some 86) (by kernel_rfl) (.tmp 0) (by kernel_rfl) (.int .i64 8) (by kernel_rfl) ?_
          refine still_value (by kernel_rfl) (some 87) (by kernel_rfl) (.bool false) (by kernel_rfl) ?_
          refine still_move (by kernel_rfl) (some 88) (by kernel_rfl) (.tmp 87) (by kernel_rfl) (.bool false) (by kernel_rfl) ?_
          refine still_skip (by kernel_rfl) (some 89) (by kernel_rfl) ?_
          refine still_skip (by kernel_rfl) (some 90) (by kernel_rfl) ?_
          refine still_skip (by kernel_rfl) (some 91) (by kernel_rfl) ?_
          refine still_pick (by kernel_rfl) (some 92) (by kernel_rfl) (.tmp 88) (.tmp 91) (.const (.bool false)) (by kernel_rfl) false (.bool false) (by kernel_rfl) (by kernel_rfl) ?_
          refine still_move (by kernel_rfl) (some 93) (by kernel_rfl) (.tmp 92) (by kernel_rfl) (.bool false) (by kernel_rfl) ?_
          refine still_skip (by kernel_rfl) (some 94) (by kernel_rfl) ?_
          refine still_skip (by kernel_rfl) (some 95) (by kernel_rfl) ?_
          refine still_skip (by kernel_rfl) (some 96) (by kernel_rfl) ?_
          refine still_pick (by kernel_rfl) (some 97) (by kernel_rfl) (.tmp 93) (.tmp 96) (.const (.bool false)) (by kernel_rfl) false (.bool false) (by kernel_rfl) (by kernel_rfl) ?_
          refine still_move (by kernel_rfl) (some 98) (by kernel_rfl) (.tmp 97) (by kernel_rfl) (.bool false) (by kernel_rfl) ?_
          refine still_move (by kernel_rfl) (some 99) (by kernel_rfl) (.tmp 0) (by kernel_rfl) (.int .i64 8) (by kernel_rfl) ?_
          refine still_value (by kernel_rfl) (some 100) (by kernel_rfl) (.bool false) (by kernel_rfl) ?_
          refine still_move (by kernel_rfl) (some 101) (by kernel_rfl) (.tmp 100) (by kernel_rfl) (.bool false) (by kernel_rfl) ?_
          refine still_skip (by kernel_rfl) (some 102) (by kernel_rfl) ?_
          refine still_skip (by kernel_rfl) (some 103) (by kernel_rfl) ?_
          refine still_skip (by kernel_rfl) (some 104) (by kernel_rfl) ?_
          refine still_skip (by kernel_rfl) (some 105) (by kernel_rfl) ?_
          refine still_skip (by kernel_rfl) (some 106) (by kernel_rfl) ?_
          refine still_skip (by kernel_rfl) (some 107) (by kernel_rfl) ?_
          refine still_skip (by kernel_rfl) (some 108) (by kernel_rfl) ?_
          refine still_skip (by kernel_rfl) (some 109) (by kernel_rfl) ?_
          refine still_pick (by kernel_rfl) (some 110) (by kernel_rfl) (.tmp 101) (.tmp 109) (.const (.bool false)) (by kernel_rfl) false (.bool false) (by kernel_rfl) (by kernel_rfl) ?_
          refine still_pick (by kernel_rfl) (some 111) (by kernel_rfl) (.tmp 98) (.const (.bool true)) (.tmp 110) (by kernel_rfl) false (.bool false) (by kernel_rfl) (by kernel_rfl) ?_
          refine still_move (by kernel_rfl) (some 112) (by kernel_rfl) (.tmp 111) (by kernel_rfl) (.bool false) (by kernel_rfl) ?_
          refine still_move (by kernel_rfl) (some 113) (by kernel_rfl) (.tmp 0) (by kernel_rfl) (.int .i64 8) (by kernel_rfl) ?_
          refine still_value (by kernel_rfl) (some 114) (by kernel_rfl) (.bool true) (by kernel_rfl) ?_
          refine still_move (by kernel_rfl) (some 115) (by kernel_rfl) (.tmp 114) (by kernel_rfl) (.bool true) (by kernel_rfl) ?_
          refine still_move (by kernel_rfl) (some 116) (by kernel_rfl) (.tmp 14) (by kernel_rfl) (.int .i64 (k : Int)) (by kernel_rfl) ?_
          refine still_index (by kernel_rfl) (some 117) (by kernel_rfl) (.tmp 8) (.tmp 116) (by kernel_rfl) ga k hm (by kernel_rfl) (by kernel_rfl) ?_
          refine still_load (by kernel_rfl) (some 118) (by kernel_rfl) (.tmp 117) (by kernel_rfl) ga k false hca' (by kernel_rfl) ?_
          refine still_move (by kernel_rfl) (some 119) (by kernel_rfl) (.tmp 14) (by kernel_rfl) (.int .i64 (k : Int)) (by kernel_rfl) ?_
          refine still_index (by kernel_rfl) (some 120) (by kernel_rfl) (.tmp 9) (.tmp 119) (by kernel_rfl) gb k hm (by kernel_rfl) (by kernel_rfl) ?_
          refine still_load (by kernel_rfl) (some 121) (by kernel_rfl) (.tmp 120) (by kernel_rfl) gb k false hcb' (by kernel_rfl) ?_
          refine still_value (by kernel_rfl) (some 122) (by kernel_rfl) (.bool false) (by kernel_rfl) ?_
          refine still_pick (by kernel_rfl) (some 123) (by kernel_rfl) (.tmp 115) (.tmp 122) (.const (.bool false)) (by kernel_rfl) true (.bool false) (by kernel_rfl) (by kernel_rfl) ?_
          refine still_pick (by kernel_rfl) (some 124) (by kernel_rfl) (.tmp 112) (.const (.bool true)) (.tmp 123) (by kernel_rfl) false (.bool false) (by kernel_rfl) (by kernel_rfl) ?_
          refine still_index (by kernel_rfl) (some 125) (by kernel_rfl) (.tmp 10) (.tmp 85) (by kernel_rfl) go k hm (by kernel_rfl) (by kernel_rfl) ?_
          refine still_nil ?_
          simp only [Act.put, List.setIfInBounds_toArray, List.set_cons_zero, List.set_cons_succ]
          clear hca hcb hca' hcb'
          go_wp2_with fail
          go_roundw
          case rel => exact ⟨k + 1, by omega, by simp, X.but (but_setDrew wr go k _) (by omega), Y.but (but_setDrew wr go k _) (by omega), (O.setDrew _).congr (fun j _ => by rw [← part_step k t j, HK.out]; rfl), (but_setDrew wr go k _).under C C.size o3⟩
          case measure => simp [intOf]; omega
        · go_wp2_with fail
          refine wp_region_still_tail 41 (by kernel_rfl) (by kernel_rfl) ?_
          simp only [List.take_succ_cons, List.take_zero, List.drop_succ_cons, List.drop_zero]
          refine Stl.ok ?_
          have hca' : ({ wr with drawn := wr.drawn + 1 } : World).cell? ⟨ga, k, none⟩ = _ := hca
          have hcb' : ({ wr with drawn := wr.drawn + 1 } : World).cell? ⟨gb, k, none⟩ = _ := hcb
          refine still_move (by kernel_rfl) (some 85) (by kernel_rfl) (.tmp 14) (by kernel_rfl) (.int .i64 (k : Int)) (by kernel_rfl) ?_
          refine still_move (by kernel_rfl) (some 86) (by kernel_rfl) (.tmp 0) (by kernel_rfl) (.int .i64 8) (by kernel_rfl) ?_
          refine still_value (by kernel_rfl) (some 87) (by kernel_rfl) (.bool false) (by kernel_rfl) ?_
          refine still_move (by kernel_rfl) (some 88) (by kernel_rfl) (.tmp 87) (by kernel_rfl) (.bool false) (by kernel_rfl) ?_
          refine still_skip (by kernel_rfl) (some 89) (by kernel_rfl) ?_
          refine still_skip (by kernel_rfl) (some 90) (by kernel_rfl) ?_
          refine still_skip (by kernel_rfl) (some 91) (by kernel_rfl) ?_
          refine still_pick (by kernel_rfl) (some 92) (by kernel_rfl) (.tmp 88) (.tmp 91) (.const (.bool false)) (by kernel_rfl) false (.bool false) (by kernel_rfl) (by kernel_rfl) ?_
          refine still_move (by kernel_rfl) (some 93) (by kernel_rfl) (.tmp 92) (by kernel_rfl) (.bool false) (by kernel_rfl) ?_
          refine still_skip (by kernel_rfl) (some 94) (by kernel_rfl) ?_
          refine still_skip (by kernel_rfl) (some 95) (by kernel_rfl) ?_
          refine still_skip (by kernel_rfl) (some 96) (by kernel_rfl) ?_
          refine still_pick (by kernel_rfl) (some 97) (by kernel_rfl) (.tmp 93) (.tmp 96) (.const (.bool false)) (by kernel_rfl) false (.bool false) (by kernel_rfl) (by kernel_rfl) ?_
          refine still_move (by kernel_rfl) (some 98) (by kernel_rfl) (.tmp 97) (by kernel_rfl) (.bool false) (by kernel_rfl) ?_
          refine still_move (by kernel_rfl) (some 99) (by kernel_rfl) (.tmp 0) (by kernel_rfl) (.int .i64 8) (by kernel_rfl) ?_
          refine still_value (by kernel_rfl) (some 100) (by kernel_rfl) (.bool false) (by kernel_rfl) ?_
          refine still_move (by kernel_rfl) (some 101) (by kernel_rfl) (.tmp 100) (by kernel_rfl) (.bool false) (by kernel_rfl) ?_
          refine still_skip (by kernel_rfl) (some 102) (by kernel_rfl) ?_
          refine still_skip (by kernel_rfl) (some 103) (by kernel_rfl) ?_
          refine still_skip (by kernel_rfl) (some 104) (by kernel_rfl) ?_
          refine still_skip (by kernel_rfl) (some 105) (by kernel_rfl) ?_
          refine still_skip (by kernel_rfl) (some 106) (by kernel_rfl) ?_
          refine still_skip (by kernel_rfl) (some 107) (by kernel_rfl) ?_
          refine still_skip (by kernel_rfl) (some 108) (by kernel_rfl) ?_
          refine still_skip (by kernel_rfl) (some 109) (by kernel_rfl) ?_
          refine still_pick (by kernel_rfl) (some 110) (by kernel_rfl) (.tmp 101) (.tmp 109) (.const (.bool false)) (by kernel_rfl) false (.bool false) (by kernel_rfl) (by kernel_rfl) ?_
          refine still_pick (by kernel_rfl) (some 111) (by kernel_rfl) (.tmp 98) (.const (.bool true)) (.tmp 110) (by kernel_rfl) false (.bool false) (by kernel_rfl) (by kernel_rfl) ?_
          refine still_move (by kernel_rfl) (some 112) (by kernel_rfl) (.tmp 111) (by kernel_rfl) (.bool false) (by kernel_rfl) ?_
          refine still_move (by kernel_rfl) (some 113) (by kernel_rfl) (.tmp 0) (by kernel_rfl) (.int .i64 8) (by kernel_rfl) ?_
          refine still_value (by kernel_rfl) (some 114) (by kernel_rfl) (.bool true) (by kernel_rfl) ?_
          refine still_move (by kernel_rfl) (some 115) (by kernel_rfl) (.tmp 114) (by kernel_rfl) (.bool true) (by kernel_rfl) ?_
          refine still_move (by kernel_rfl) (some 116) (by kernel_rfl) (.tmp 14) (by kernel_rfl) (.int .i64 (k : Int)) (by kernel_rfl) ?_
          refine still_index (by kernel_rfl) (some 117) (by kernel_rfl) (.tmp 8) (.tmp 116) (by kernel_rfl) ga k hm (by kernel_rfl) (by kernel_rfl) ?_
          refine still_load (by kernel_rfl) (some 118) (by kernel_rfl) (.tmp 117) (by kernel_rfl) ga k false hca' (by kernel_rfl) ?_
          refine still_move (by kernel_rfl) (some 119) (by kernel_rfl) (.tmp 14) (by kernel_rfl) (.int .i64 (k : Int)) (by kernel_rfl) ?_
          refine still_index (by kernel_rfl) (some 120) (by kernel_rfl) (.tmp 9) (.tmp 119) (by kernel_rfl) gb k hm (by kernel_rfl) (by kernel_rfl) ?_
          refine still_load (by kernel_rfl) (some 121) (by kernel_rfl) (.tmp 120) (by kernel_rfl) gb k true hcb' (by kernel_rfl) ?_
          refine still_value (by kernel_rfl) (some 122) (by kernel_rfl) (.bool true) (by kernel_rfl) ?_
          refine still_pick (by kernel_rfl) (some 123) (by kernel_rfl) (.tmp 115) (.tmp 122) (.const (.bool false)) (by kernel_rfl) true (.bool true) (by kernel_rfl) (by kernel_rfl) ?_
          refine still_pick (by kernel_rfl) (some 124) (by kernel_rfl) (.tmp 112) (.const (.bool true)) (.tmp 123) (by kernel_rfl) false (.bool true) (by kernel_rfl) (by kernel_rfl) ?_
          refine still_index (by kernel_rfl) (some 125) (by kernel_rfl) (.tmp 10) (.tmp 85) (by kernel_rfl) go k hm (by kernel_rfl) (by kernel_rfl) ?_
          refine still_nil ?_
          simp only [Act.put, List.setIfInBounds_toArray, List.set_cons_zero, List.set_cons_succ]
          clear hca hcb hca' hcb'
          go_wp2_with fail
          go_roundw
          case rel => exact ⟨k + 1, by omega, by simp, X.but (but_setDrew wr go k _) (by omega), Y.but (but_setDrew wr go k _) (by omega), (O.setDrew _).congr (fun j _ => by rw [← part_step k t j, HK.out]; rfl), (but_setDrew wr go k _).under C C.size o3⟩
          case measure => simp [intOf]; omega
      · cases y
        · go_wp2_with fail
          refine wp_region_still_tail 41 (by kernel_rfl) (by kernel_rfl) ?_
          simp only [List.take_succ_cons, List.take_zero, List.drop_succ_cons, List.drop_zero]
          refine Stl.ok ?_
          have hca' : ({ wr with drawn := wr.drawn + 1 } : World).cell? ⟨ga, k, none⟩ = _ := hca
          have hcb' : ({ wr with drawn := wr.drawn + 1 } : World).cell? ⟨gb, k, none⟩ = _ := hcb
          refine still_move (by kernel_rfl) (some 85) (by kernel_rfl) (.tmp 14) (by kernel_rfl) (.int .i64 (k : Int)) (by kernel_rfl) ?_
          refine still_move (by kernel_rfl) (some 86) (by kernel_rfl) (.tmp 0) (by kernel_rfl) (.int .i64 8) (by kernel_rfl) ?_
          refine still_value (by kernel_rfl) (some 87) (by kernel_rfl) (.bool false) (by kernel_rfl) ?_
          refine still_move (by kernel_rfl) (some 88) (by kernel_rfl) (.tmp 87) (by kernel_rfl) (.bool false) (by kernel_rfl) ?_
          refine still_skip (by kernel_rfl) (some 89) (by kernel_rfl) ?_
          refine still_skip (by kernel_rfl) (some 90) (by kernel_rfl) ?_
          refine still_skip (by kernel_rfl) (some 91) (by kernel_rfl) ?_
          refine still_pick (by kernel_rfl) (some 92) (by kernel_rfl) (.tmp 88) (.tmp 91) (.const (.bool false)) (by kernel_rfl) false (.bool false) (by kernel_rfl) (by kernel_rfl) ?_
          refine still_move (by kernel_rfl) (some 93) (by kernel_rfl) (.tmp 92) (by kernel_rfl) (.bool false) (by kernel_rfl) ?_
          refine still_skip (by kernel_rfl) (some 94) (by kernel_rfl) ?_
          refine still_skip (by kernel_rfl) (some 95) (by kernel_rfl) ?_
          refine still_skip (by kernel_rfl) (some 96) (by kernel_rfl) ?_
          refine still_pick (by kernel_rfl) (some 97) (by kernel_rfl) (.tmp 93) (.tmp 96) (.const (.bool false)) (by kernel_rfl) false (.bool false) (by kernel_rfl) (by kernel_rfl) ?_
          refine still_move (by kernel_rfl) (some 98) (by kernel_rfl) (.tmp 97) (by kernel_rfl) (.bool false) (by kernel_rfl) ?_
          refine still_move (by kernel_rfl) (some 99) (by kernel_rfl) (.tmp 0) (by kernel_rfl) (.int .i64 8) (by kernel_rfl) ?_
          refine still_value (by kernel_rfl) (some 100) (by kernel_rfl) (.bool false) (by kernel_rfl) ?_
          refine still_move (by kernel_rfl) (some 101) (by kernel_rfl) (.tmp 100) (by kernel_rfl) (.bool false) (by kernel_rfl) ?_
          refine still_skip (by kernel_rfl) (some 102) (by kernel_rfl) ?_
          refine still_skip (by kernel_rfl) (some 103) (by kernel_rfl) ?_
          refine still_skip (by kernel_rfl) (some 104) (by kernel_rfl) ?_
          refine still_skip (by kernel_rfl) (some 105) (by kernel_rfl) ?_
          refine still_skip (by kernel_rfl) (some 106) (by kernel_rfl) ?_
          refine still_skip (by kernel_rfl) (some 107) (by kernel_rfl) ?_
          refine still_skip (by kernel_rfl) (some 108) (by kernel_rfl) ?_
          refine still_skip (by kernel_rfl) (some 109) (by kernel_rfl) ?_
          refine still_pick (by kernel_rfl) (some 110) (by kernel_rfl) (.tmp 101) (.tmp 109) (.const (.bool false)) (by kernel_rfl) false (.bool false) (by kernel_rfl) (by kernel_rfl) ?_
          refine still_pick (by kernel_rfl) (some 111) (by kernel_rfl) (.tmp 98) (.const (.bool true)) (.tmp 110) (by kernel_rfl) false (.bool false) (by kernel_rfl) (by kernel_rfl) ?_
          refine still_move (by kernel_rfl) (some 112) (by kernel_rfl) (.tmp 111) (by kernel_rfl) (.bool false) (by kernel_rfl) ?_
          refine still_move (by kernel_rfl) (some 113) (by kernel_rfl) (.tmp 0) (by kernel_rfl) (.int .i64 8) (by kernel_rfl) ?_
          refine still_value (by kernel_rfl) (some 114) (by kernel_rfl) (.bool true) (by kernel_rfl) ?_
          refine still_move (by kernel_rfl) (some 115) (by kernel_rfl) (.tmp 114) (by kernel_rfl) (.bool true) (by kernel_rfl) ?_
          refine still_move (by kernel_rfl) (some 116) (by kernel_rfl) (.tmp 14) (by kernel_rfl) (.int .i64 (k : Int)) (by kernel_rfl) ?_
          refine still_index (by kernel_rfl) (some 117) (by kernel_rfl) (.tmp 8) (.tmp 116) (by kernel_rfl) ga k hm (by kernel_rfl) (by kernel_rfl) ?_
          refine still_load (by kernel_rfl) (some 118) (by kernel_rfl) (.tmp 117) (by kernel_rfl) ga k true hca' (by kernel_rfl) ?_
          refine still_move (by kernel_rfl) (some 119) (by kernel_rfl) (.tmp 14) (by kernel_rfl) (.int .i64 (k : Int)) (by kernel_rfl) ?_
          refine still_index (by kernel_rfl) (some 120) (by kernel_rfl) (.tmp 9) (.tmp 119) (by kernel_rfl) gb k hm (by kernel_rfl) (by kernel_rfl) ?_
          refine still_load (by kernel_rfl) (some 121) (by kernel_rfl) (.tmp 120) (by kernel_rfl) gb k false hcb' (by kernel_rfl) ?_
          refine still_value (by kernel_rfl) (some 122) (by kernel_rfl) (.bool true) (by kernel_rfl) ?_
          refine still_pick (by kernel_rfl) (some 123) (by kernel_rfl) (.tmp 115) (.tmp 122) (.const (.bool false)) (by kernel_rfl) true (.bool true) (by kernel_rfl) (by kernel_rfl) ?_
          refine still_pick (by kernel_rfl) (some 124) (by kernel_rfl) (.tmp 112) (.const (.bool true)) (.tmp 123) (by kernel_rfl) false (.bool true) (by kernel_rfl) (by kernel_rfl) ?_
          refine still_index (by kernel_rfl) (some 125) (by kernel_rfl) (.tmp 10) (.tmp 85) (by kernel_rfl) go k hm (by kernel_rfl) (by kernel_rfl) ?_
          refine still_nil ?_
          simp only [Act.put, List.setIfInBounds_toArray, List.set_cons_zero, List.set_cons_succ]
          clear hca hcb hca' hcb'
          go_wp2_with fail
          go_roundw
          case rel => exact ⟨k + 1, by omega, by simp, X.but (but_setDrew wr go k _) (by omega), Y.but (but_setDrew wr go k _) (by omega), (O.setDrew _).congr (fun j _ => by rw [← part_step k t j, HK.out]; rfl), (but_setDrew wr go k _).under C C.size o3⟩
          case measure => simp [intOf]; omega
        · go_wp2_with fail
          refine wp_region_still_tail 41 (by kernel_rfl) (by kernel_rfl) ?_
          simp only [List.take_succ_cons, List.take_zero, List.drop_succ_cons, List.drop_zero]
          refine Stl.ok ?_
          have hca' : ({ wr with drawn := wr.drawn + 1 } : World).cell? ⟨ga, k, none⟩ = _ := hca
          have hcb' : ({ wr with drawn := wr.drawn + 1 } : World).cell? ⟨gb, k, none⟩ = _ := hcb
          refine still_move (by kernel_rfl) (some 85) (by kernel_rfl) (.tmp 14) (by kernel_rfl) (.int .i64 (k : Int)) (by kernel_rfl) ?_
          refine still_move (by kernel_rfl) (some 86) (by kernel_rfl) (.tmp 0) (by kernel_rfl) (.int .i64 8) (by kernel_rfl) ?_
          refine still_value (by kernel_rfl) (some 87) (by kernel_rfl) (.bool false) (by kernel_rfl) ?_
          refine still_move (by kernel_rfl) (some 88) (by kernel_rfl) (.tmp 87) (by kernel_rfl) (.bool false) (by kernel_rfl) ?_
          refine still_skip (by kernel_rfl) (some 89) (by kernel_rfl) ?_
          refine still_skip (by kernel_rfl) (some 90) (by kernel_rfl) ?_
          refine still_skip (by kernel_rfl) (some 91) (by kernel_rfl) ?_
          refine still_pick (by kernel_rfl) (some 92) (by kernel_rfl) (.tmp 88) (.tmp 91) (.const (.bool false)) (by kernel_rfl) false (.bool false) (by kernel_rfl) (by kernel_rfl) ?_
          refine still_move (by kernel_rfl) (some 93) (by kernel_rfl) (.tmp 92) (by kernel_rfl) (.bool false) (by kernel_rfl) ?_
          refine still_skip (by kernel_rfl) (some 94) (by kernel_rfl) ?_
          refine still_skip (by kernel_rfl) (some 95) (by kernel_rfl) ?_
          refine still_skip (by kernel_rfl) (some 96) (by kernel_rfl) ?_
          refine still_pick (by kernel_rfl) (some 97) (by kernel_rfl) (.tmp 93) (.tmp 96) (.const (.bool false)) (by kernel_rfl) false (.bool false) (by kernel_rfl) (by kernel_rfl) ?_
          refine still_move (by kernel_rfl) (some 98) (by kernel_rfl) (.tmp 97) (by kernel_rfl) (.bool false) (by kernel_rfl) ?_
          refine still_move (by kernel_rfl) (some 99) (by kernel_rfl) (.tmp 0) (by kernel_rfl) (.int .i64 8) (by kernel_rfl) ?_
          refine still_value (by kernel_rfl) (some 100) (by kernel_rfl) (.bool false) (by kernel_rfl) ?_
          refine still_move (by kernel_rfl) (some 101) (by kernel_rfl) (.tmp 100) (by kernel_rfl) (.bool false) (by kernel_rfl) ?_
          refine still_skip (by kernel_rfl) (some 102) (by kernel_rfl) ?_
          refine still_skip (by kernel_rfl) (some 103) (by kernel_rfl) ?_
          refine still_skip (by kernel_rfl) (some 104) (by kernel_rfl) ?_
          refine still_skip (by kernel_rfl) (some 105) (by kernel_rfl) ?_
          refine still_skip (by kernel_rfl) (some 106) (by kernel_rfl) ?_
          refine still_skip (by kernel_rfl) (some 107) (by kernel_rfl) ?_
          refine still_skip (by kernel_rfl) (some 108) (by kernel_rfl) ?_
          refine still_skip (by kernel_rfl) (some 109) (by kernel_rfl) ?_
          refine still_pick (by kernel_rfl) (some 110) (by kernel_rfl) (.tmp 101) (.tmp 109) (.const (.bool false)) (by kernel_rfl) false (.bool false) (by kernel_rfl) (by kernel_rfl) ?_
          refine still_pick (by kernel_rfl) (some 111) (by kernel_rfl) (.tmp 98) (.const (.bool true)) (.tmp 110) (by kernel_rfl) false (.bool false) (by kernel_rfl) (by kernel_rfl) ?_
          refine still_move (by kernel_rfl) (some 112) (by kernel_rfl) (.tmp 111) (by kernel_rfl) (.bool false) (by kernel_rfl) ?_
          refine still_move (by kernel_rfl) (some 113) (by kernel_rfl) (.tmp 0) (by kernel_rfl) (.int .i64 8) (by kernel_rfl) ?_
          refine still_value (by kernel_rfl) (some 114) (by kernel_rfl) (.bool true) (by kernel_rfl) ?_
          refine still_move (by kernel_rfl) (some 115) (by kernel_rfl) (.tmp 114) (by kernel_rfl) (.bool true) (by kernel_rfl) ?_
          refine still_move (by kernel_rfl) (some 116) (by kernel_rfl) (.tmp 14) (by kernel_rfl) (.int .i64 (k : Int)) (by kernel_rfl) ?_
          refine still_index (by kernel_rfl) (some 117) (by kernel_rfl) (.tmp 8) (.tmp 116) (by kernel_rfl) ga k hm (by kernel_rfl) (by kernel_rfl) ?_
          refine still_load (by kernel_rfl) (some 118) (by kernel_rfl) (.tmp 117) (by kernel_rfl) ga k true hca' (by kernel_rfl) ?_
          refine still_move (by kernel_rfl) (some 119) (by kernel_rfl) (.tmp 14) (by kernel_rfl) (.int .i64 (k : Int)) (by kernel_rfl) ?_
          refine still_index (by kernel_rfl) (some 120) (by kernel_rfl) (.tmp 9) (.tmp 119) (by kernel_rfl) gb k hm (by kernel_rfl) (by kernel_rfl) ?_
          refine still_load (by kernel_rfl) (some 121) (by kernel_rfl) (.tmp 120) (by kernel_rfl) gb k true hcb' (by kernel_rfl) ?_
          refine still_value (by kernel_rfl) (some 122) (by kernel_rfl) (.bool false) (by kernel_rfl) ?_
          refine still_pick (by kernel_rfl) (some 123) (by kernel_rfl) (.tmp 115) (.tmp 122) (.const (.bool false)) (by kernel_rfl) true (.bool false) (by kernel_rfl) (by kernel_rfl) ?_
          refine still_pick (by kernel_rfl) (some 124) (by kernel_rfl) (.tmp 112) (.const (.bool true)) (.tmp 123) (by kernel_rfl) false (.bool false) (by kernel_rfl) (by kernel_rfl) ?_
          refine still_index (by kernel_rfl) (some 125) (by kernel_rfl) (.tmp 10) (.tmp 85) (by kernel_rfl) go k hm (by kernel_rfl) (by kernel_rfl) ?_
          refine still_nil ?_
          simp only [Act.put, List.setIfInBounds_toArray, List.set_cons_zero, List.set_cons_succ]
          clear hca hcb hca' hcb'
          go_wp2_with fail
          go_roundw
          case rel => exact ⟨k + 1, by omega, by simp, X.but (but_setDrew wr go k _) (by omega), Y.but (but_setDrew wr go k _) (by omega), (O.setDrew _).congr (fun j _ => by rw [← part_step k t j, HK.out]; rfl), (but_setDrew wr go k _).under C C.size o3⟩
          case measure => simp [intOf]; omega

end Go.Proofs.YtgdchlgepgbhhaaDoor
