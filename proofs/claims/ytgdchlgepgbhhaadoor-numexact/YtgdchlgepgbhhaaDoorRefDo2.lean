/-
  CONTRACTS: what the reference's Do answers, op by op, in terms of bit vectors; of what was there nothing has turned. Conditions: as each states them.
-/
import Derived.Test.YtgdchlgepgbhhaaDoorEqual
namespace Go.Proofs.YtgdchlgepgbhhaaDoor
open Go.RowKit

/-- A move, taken first. -/
theorem takeMove {ops : Array Oper} {a : Act} {w : World} {Q : Exit → Act → World → Prop} {S : World → Prop} {fuel : Nat} {listed : Array Bool} (i : Nat) {oi : Oper} (d : Option Tmp) (x : Operand) (v : Value) (hi : ops[i]? = some oi) (hd : oi.dst = d) (ho : oi.op = .move x) (hx : a.eval x = v)
    (hw : Region.wanted oi (yielded ops a.tmps) = true) (hs : Region.noSelect ops = true) (hf : Region.free .any ops listed i = true) (hr : (Region.ready .any ops listed).contains i = true)
    (hQ : ∀ c a w, Q (.panic c) (a.put d v) w → Q (.panic c) a w) (hw0 : S w)
    (h : wpAnyH Tryd.prog .any ops Q S fuel (listed.setIfInBounds i true) (a.put d v) w) : wpAnyH Tryd.prog .any ops Q S (fuel + 1) listed a w := by
  subst hd
  exact wpAnyH_take hi hs hf hr hQ (.inl ⟨hw, fun w _ => by rw [BigFrame.run_move x ho, hx]⟩) hw0 h

set_option maxHeartbeats 1000000 in
set_option maxRecDepth 100000 in
theorem refDo_2 (x y : Int) (a b : B64) (w : World) (HA : Hid (BitVec.ofInt 64 x = a)) (HB : Hid (BitVec.ofInt 64 y = b)) (nb t : B64) (v : Int) (HN : Hid (~~~b = nb)) (HT : Hid (a + nb + BitVec.setWidth 64 (BitVec.ofBool true) = t)) (HV : Hid (t.toInt = v)) :
    Calls Tryd.prog 12 #[.int .i64 2, .int .i64 x, .int .i64 y] w fun e w' => e = .returned (.tuple #[.int .i64 v, .int .i64 0]) ∧ Below w.heap.size w w' := by
  go_enter Tryd.func12, Tryd.ntmps12
  go_wp2_with fail
  refine (from_to x a _ HA).mono ?_
  rintro e w1 ⟨rfl, B1⟩
  go_wp2_with (first | (refine wpList_alloc44 rfl rfl ?_; intro ga w2 H2 A2 B2; refine wpList_store44 rfl _ _ rfl ga a.getLsbD rfl rfl noF A2 ?_; intro w3 A3 B3; refine Hid.out ?_))
  have e2 := H2.out
  have s1 := B1.size
  have s2 := B2.size
  have o0 : w.heap.size ≤ ga := by omega
  have C3 := B3.under (B1.trans (B2.mono s1)) (by omega) o0
  have l3 := A3.lt
  clear A2 B1 B2 B3 H2 e2 s1 s2
  refine Lib.hid ?_
  go_wp2_with fail
  refine (from_to y b _ HB).mono ?_
  rintro e w4 ⟨rfl, B4⟩
  go_wp2_with (first | (refine wpList_alloc44 rfl rfl ?_; intro gb w5 H5 A5 B5; refine wpList_store44 rfl _ _ rfl gb b.getLsbD rfl rfl noF A5 ?_; intro w6 A6 B6; refine Hid.out ?_))
  have e5 := H5.out
  have s4 := B4.size
  have s5 := B5.size
  have o1 : ga < gb := by omega
  have X6 := ((A3.below B4).below B5).but B6 (by omega)
  have C6 := B6.under ((C3.trans (B4.mono C3.size)).trans (B5.mono (Nat.le_trans C3.size s4))) (by have := C3.size; omega) (by omega)
  have l6 := A6.lt
  clear A3 A5 B4 B5 B6 H5 e5 s4 s5 l3 C3
  refine Lib.hid ?_
  go_wp2_with (first | (refine wpList_build44 rfl rfl ?_; refine wpList_alloc44 rfl rfl ?_; intro go w7 H7 A7 B7; refine wpList_store44 rfl _ _ rfl go noF rfl rfl noF A7 ?_; intro w8 O B8; refine Hid.out ?_))
  have e7 := H7.out
  have s7 := B7.size
  have o2 : gb < go := by omega
  have X := (X6.below B7).but B8 (by omega)
  have Y := (A6.below B7).but B8 (by omega)
  have C := B8.under (C6.trans (B7.mono C6.size)) (by have := C6.size; omega) (by omega)
  have o3 : w.heap.size ≤ go := by omega
  clear X6 A6 A7 B7 B8 H7 e7 s7 l6 C6
  refine Lib.hid ?_
  go_wp2_with fail
  refine wp_region_held_drew (S := fun w' => Bs w' ga a.getLsbD ∧ Bs w' gb b.getLsbD) (by kernel_rfl) ⟨X, Y⟩ (fun V => ?_)
  have Od : Bs w8.drew go noF := O
  have Cd := C.drew
  clear X Y O C
  generalize w8.drew = wd at V Od Cd ⊢
  refine take44 0 (some 30) (.tmp 8) ga a.getLsbD rfl rfl rfl rfl rfl (by kernel_rfl) (by kernel_rfl) (by kernel_rfl) (fun _ _ _ h => h) (fun w h => h.1) V ?_
  simp only [Act.put, List.setIfInBounds_toArray, List.set_cons_zero, List.set_cons_succ]
  refine take44 1 (some 31) (.tmp 9) gb b.getLsbD rfl rfl rfl rfl rfl (by kernel_rfl) (by kernel_rfl) (by kernel_rfl) (fun _ _ _ h => h) (fun w h => h.2) V ?_
  simp only [Act.put, List.setIfInBounds_toArray, List.set_cons_zero, List.set_cons_succ]
  refine one_ready (i := 2) (by kernel_rfl) ?_
  refine step_call rfl #[.agg (encF b.getLsbD)] (.agg (encF nb.getLsbD)) (enter32 _) rfl (not_to b nb _ HN) ?_
  intro w9 B9
  have V9 : Bs w9 ga a.getLsbD ∧ Bs w9 gb b.getLsbD := ⟨V.1.below B9, V.2.below B9⟩
  refine ⟨V9, ?_⟩
  simp only [Act.put, List.setIfInBounds_toArray, List.set_cons_zero, List.set_cons_succ]
  refine one_ready (i := 3) (by kernel_rfl) ?_
  refine step_call rfl #[.agg (encF a.getLsbD), .agg (encF nb.getLsbD), .bool true] (.agg (encF t.getLsbD)) (enter31 _) rfl (add_to a nb t true _ HT) ?_
  intro w10 B10
  have V10 : Bs w10 ga a.getLsbD ∧ Bs w10 gb b.getLsbD := ⟨V9.1.below B10, V9.2.below B10⟩
  refine ⟨V10, ?_⟩
  simp only [Act.put, List.setIfInBounds_toArray, List.set_cons_zero, List.set_cons_succ]
  refine one_ready (i := 4) (by kernel_rfl) ?_
  refine step_store44 rfl rfl rfl (.tmp 10) (.tmp 33) rfl go t.getLsbD rfl rfl noF ((Od.below B9).below B10) ?_
  intro w11 T11 B11
  refine ⟨⟨V10.1.but B11 (by omega), V10.2.but B11 (by omega)⟩, ?_⟩
  simp only [Act.put]
  refine wpAnyH_done (by kernel_rfl) ?_ _
  have C10 := (Cd.trans (B9.mono Cd.size)).trans (B10.mono (Nat.le_trans Cd.size B9.size))
  have C11 := B11.under C10 C10.size o3
  clear V V9 V10 Od Cd C10 B9 B10 B11
  go_wp2_with (first | (refine wpList_load44 rfl _ rfl go rfl t.getLsbD T11 ?_) | (go_at_call 39; refine (toInt_to t v _ HV).mono ?_; rintro e w20 ⟨rfl, B20⟩))
  go_ret2
  exact ⟨rfl, C11.trans (B20.mono C11.size)⟩

end Go.Proofs.YtgdchlgepgbhhaaDoor
