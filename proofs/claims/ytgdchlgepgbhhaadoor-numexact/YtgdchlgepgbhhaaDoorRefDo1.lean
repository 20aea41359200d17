/-
  CONTRACTS: what the reference's Do answers, op by op, in terms of bit vectors; of what was there nothing has turned. Conditions: as each states them.
-/
import Derived.Test.YtgdchlgepgbhhaaDoorEqual
namespace Go.Proofs.YtgdchlgepgbhhaaDoor
open Go.RowKit

set_option maxHeartbeats 1000000 in
set_option maxRecDepth 100000 in
theorem refDo_none (op x y : Int) (a b : B64) (w : World) (HA : Hid (BitVec.ofInt 64 x = a)) (HB : Hid (BitVec.ofInt 64 y = b))  (h : op < 1 ∨ 18 < op) :
    Calls Tryd.prog 12 #[.int .i64 op, .int .i64 x, .int .i64 y] w fun e w' => e = .returned (.tuple #[.int .i64 0, .int .i64 9]) ∧ Below w.heap.size w w' := by
  have n1 : (op == 1) = false := beq_eq_false_iff_ne.2 (by omega)
  have n2 : (op == 2) = false := beq_eq_false_iff_ne.2 (by omega)
  have n3 : (op == 3) = false := beq_eq_false_iff_ne.2 (by omega)
  have n4 : (op == 4) = false := beq_eq_false_iff_ne.2 (by omega)
  have n5 : (op == 5) = false := beq_eq_false_iff_ne.2 (by omega)
  have n6 : (op == 6) = false := beq_eq_false_iff_ne.2 (by omega)
  have n7 : (op == 7) = false := beq_eq_false_iff_ne.2 (by omega)
  have n8 : (op == 8) = false := beq_eq_false_iff_ne.2 (by omega)
  have n9 : (op == 9) = false := beq_eq_false_iff_ne.2 (by omega)
  have n10 : (op == 10) = false := beq_eq_false_iff_ne.2 (by omega)
  have n11 : (op == 11) = false := beq_eq_false_iff_ne.2 (by omega)
  have n12 : (op == 12) = false := beq_eq_false_iff_ne.2 (by omega)
  have n13 : (op == 13) = false := beq_eq_false_iff_ne.2 (by omega)
  have n14 : (op == 14) = false := beq_eq_false_iff_ne.2 (by omega)
  have n15 : (op == 15) = false := beq_eq_false_iff_ne.2 (by omega)
  have n16 : (op == 16) = false := beq_eq_false_iff_ne.2 (by omega)
  have n17 : (op == 17) = false := beq_eq_false_iff_ne.2 (by omega)
  have n18 : (op == 18) = false := beq_eq_false_iff_ne.2 (by omega)
  clear h
  go_enter Tryd.func12, Tryd.ntmps12
  go_wp2_with fail
  refine (from_to x a _ HA).mono ?_
  rintro e w1 ⟨rfl, B1⟩
  go_wp2_with (first | (refine wpList_alloc44 rfl rfl ?_; intro ga w2 H2 A2 B2; refine wpList_store44 rfl _ _ rfl ga a.getLsbD rfl rfl noF A2 ?_; intro w3 A3 B3; refine Hid.out ?_))
  have e2 := H2.out
  have s1 := B1.size
  have s2 := B2.size
  have o0 : w.heap.size ≤ ga := by omega
  have C3 := B3.under (B1.trans (B2.mono s1)) (by omega) o0
  have l3 := A3.lt
  clear A2 B1 B2 B3 H2 e2 s1 s2
  refine Lib.hid ?_
  go_wp2_with fail
  refine (from_to y b _ HB).mono ?_
  rintro e w4 ⟨rfl, B4⟩
  go_wp2_with (first | (refine wpList_alloc44 rfl rfl ?_; intro gb w5 H5 A5 B5; refine wpList_store44 rfl _ _ rfl gb b.getLsbD rfl rfl noF A5 ?_; intro w6 A6 B6; refine Hid.out ?_))
  have e5 := H5.out
  have s4 := B4.size
  have s5 := B5.size
  have o1 : ga < gb := by omega
  have X6 := ((A3.below B4).below B5).but B6 (by omega)
  have C6 := B6.under ((C3.trans (B4.mono C3.size)).trans (B5.mono (Nat.le_trans C3.size s4))) (by have := C3.size; omega) (by omega)
  have l6 := A6.lt
  clear A3 A5 B4 B5 B6 H5 e5 s4 s5 l3 C3
  refine Lib.hid ?_
  go_wp2_with (first | (refine wpList_build44 rfl rfl ?_; refine wpList_alloc44 rfl rfl ?_; intro go w7 H7 A7 B7; refine wpList_store44 rfl _ _ rfl go noF rfl rfl noF A7 ?_; intro w8 O B8; refine Hid.out ?_))
  have e7 := H7.out
  have s7 := B7.size
  have o2 : gb < go := by omega
  have X := (X6.below B7).but B8 (by omega)
  have Y := (A6.below B7).but B8 (by omega)
  have C := B8.under (C6.trans (B7.mono C6.size)) (by have := C6.size; omega) (by omega)
  have o3 : w.heap.size ≤ go := by omega
  clear X6 A6 A7 B7 B8 H7 e7 s7 l6 C6
  refine Lib.hid ?_
  go_wp2_with fail
  go_ret2
  exact ⟨rfl, C⟩

set_option maxHeartbeats 1000000 in
set_option maxRecDepth 100000 in
theorem refDo_1 (x y : Int) (a b : B64) (w : World) (HA : Hid (BitVec.ofInt 64 x = a)) (HB : Hid (BitVec.ofInt 64 y = b)) (t : B64) (v : Int) (HT : Hid (a + b + BitVec.setWidth 64 (BitVec.ofBool false) = t)) (HV : Hid (t.toInt = v)) :
    Calls Tryd.prog 12 #[.int .i64 1, .int .i64 x, .int .i64 y] w fun e w' => e = .returned (.tuple #[.int .i64 v, .int .i64 0]) ∧ Below w.heap.size w w' := by
  go_enter Tryd.func12, Tryd.ntmps12
  go_wp2_with fail
  refine (from_to x a _ HA).mono ?_
  rintro e w1 ⟨rfl, B1⟩
  go_wp2_with (first | (refine wpList_alloc44 rfl rfl ?_; intro ga w2 H2 A2 B2; refine wpList_store44 rfl _ _ rfl ga a.getLsbD rfl rfl noF A2 ?_; intro w3 A3 B3; refine Hid.out ?_))
  have e2 := H2.out
  have s1 := B1.size
  have s2 := B2.size
  have o0 : w.heap.size ≤ ga := by omega
  have C3 := B3.under (B1.trans (B2.mono s1)) (by omega) o0
  have l3 := A3.lt
  clear A2 B1 B2 B3 H2 e2 s1 s2
  refine Lib.hid ?_
  go_wp2_with fail
  refine (from_to y b _ HB).mono ?_
  rintro e w4 ⟨rfl, B4⟩
  go_wp2_with (first | (refine wpList_alloc44 rfl rfl ?_; intro gb w5 H5 A5 B5; refine wpList_store44 rfl _ _ rfl gb b.getLsbD rfl rfl noF A5 ?_; intro w6 A6 B6; refine Hid.out ?_))
  have e5 := H5.out
  have s4 := B4.size
  have s5 := B5.size
  have o1 : ga < gb := by omega
  have X6 := ((A3.below B4).below B5).but B6 (by omega)
  have C6 := B6.under ((C3.trans (B4.mono C3.size)).trans (B5.mono (Nat.le_trans C3.size s4))) (by have := C3.size; omega) (by omega)
  have l6 := A6.lt
  clear A3 A5 B4 B5 B6 H5 e5 s4 s5 l3 C3
  refine Lib.hid ?_
  go_wp2_with (first | (refine wpList_build44 rfl rfl ?_; refine wpList_alloc44 rfl rfl ?_; intro go w7 H7 A7 B7; refine wpList_store44 rfl _ _ rfl go noF rfl rfl noF A7 ?_; intro w8 O B8; refine Hid.out ?_))
  have e7 := H7.out
  have s7 := B7.size
  have o2 : gb < go := by omega
  have X := (X6.below B7).but B8 (by omega)
  have Y := (A6.below B7).but B8 (by omega)
  have C := B8.under (C6.trans (B7.mono C6.size)) (by have := C6.size; omega) (by omega)
  have o3 : w.heap.size ≤ go := by omega
  clear X6 A6 A7 B7 B8 H7 e7 s7 l6 C6
  refine Lib.hid ?_
  go_wp2_with (first | (refine wpList_load44 rfl _ rfl ga rfl a.getLsbD X ?_; refine wpList_load44 rfl _ rfl gb rfl b.getLsbD Y ?_) | (go_at_call 31; refine (add_to a b t false _ HT).mono ?_; rintro e w9 ⟨rfl, B9⟩; refine Hid.out ?_))
  have O9 := O.below B9
  have C9 := C.trans (B9.mono C.size)
  clear X Y O C B9
  refine Lib.hid ?_
  go_wp2_with (first | (refine wpList_store44 rfl _ _ rfl go t.getLsbD rfl rfl noF O9 ?_; intro w10 T10 B10; refine Hid.out ?_))
  have C10 := B10.under C9 C9.size o3
  refine Lib.hid ?_
  go_wp2_with (first | (refine wpList_load44 rfl _ rfl go rfl t.getLsbD T10 ?_) | (go_at_call 39; refine (toInt_to t v _ HV).mono ?_; rintro e w20 ⟨rfl, B20⟩))
  go_ret2
  exact ⟨rfl, C10.trans (B20.mono C10.size)⟩

set_option maxHeartbeats 1000000 in
set_option maxRecDepth 100000 in
theorem refDo_17 (x y : Int) (a b : B64) (w : World) (HA : Hid (BitVec.ofInt 64 x = a)) (HB : Hid (BitVec.ofInt 64 y = b)) (t : B64) (v : Int) (HT : Hid (-a = t)) (HV : Hid (t.toInt = v)) :
    Calls Tryd.prog 12 #[.int .i64 17, .int .i64 x, .int .i64 y] w fun e w' => e = .returned (.tuple #[.int .i64 v, .int .i64 0]) ∧ Below w.heap.size w w' := by
  go_enter Tryd.func12, Tryd.ntmps12
  go_wp2_with fail
  refine (from_to x a _ HA).mono ?_
  rintro e w1 ⟨rfl, B1⟩
  go_wp2_with (first | (refine wpList_alloc44 rfl rfl ?_; intro ga w2 H2 A2 B2; refine wpList_store44 rfl _ _ rfl ga a.getLsbD rfl rfl noF A2 ?_; intro w3 A3 B3; refine Hid.out ?_))
  have e2 := H2.out
  have s1 := B1.size
  have s2 := B2.size
  have o0 : w.heap.size ≤ ga := by omega
  have C3 := B3.under (B1.trans (B2.mono s1)) (by omega) o0
  have l3 := A3.lt
  clear A2 B1 B2 B3 H2 e2 s1 s2
  refine Lib.hid ?_
  go_wp2_with fail
  refine (from_to y b _ HB).mono ?_
  rintro e w4 ⟨rfl, B4⟩
  go_wp2_with (first | (refine wpList_alloc44 rfl rfl ?_; intro gb w5 H5 A5 B5; refine wpList_store44 rfl _ _ rfl gb b.getLsbD rfl rfl noF A5 ?_; intro w6 A6 B6; refine Hid.out ?_))
  have e5 := H5.out
  have s4 := B4.size
  have s5 := B5.size
  have o1 : ga < gb := by omega
  have X6 := ((A3.below B4).below B5).but B6 (by omega)
  have C6 := B6.under ((C3.trans (B4.mono C3.size)).trans (B5.mono (Nat.le_trans C3.size s4))) (by have := C3.size; omega) (by omega)
  have l6 := A6.lt
  clear A3 A5 B4 B5 B6 H5 e5 s4 s5 l3 C3
  refine Lib.hid ?_
  go_wp2_with (first | (refine wpList_build44 rfl rfl ?_; refine wpList_alloc44 rfl rfl ?_; intro go w7 H7 A7 B7; refine wpList_store44 rfl _ _ rfl go noF rfl rfl noF A7 ?_; intro w8 O B8; refine Hid.out ?_))
  have e7 := H7.out
  have s7 := B7.size
  have o2 : gb < go := by omega
  have X := (X6.below B7).but B8 (by omega)
  have Y := (A6.below B7).but B8 (by omega)
  have C := B8.under (C6.trans (B7.mono C6.size)) (by have := C6.size; omega) (by omega)
  have o3 : w.heap.size ≤ go := by omega
  clear X6 A6 A7 B7 B8 H7 e7 s7 l6 C6
  refine Lib.hid ?_
  go_wp2_with (first | (refine wpList_load44 rfl _ rfl ga rfl a.getLsbD X ?_) | (go_at_call 36; refine (neg_to a t _ HT).mono ?_; rintro e w9 ⟨rfl, B9⟩; refine Hid.out ?_))
  have O9 := O.below B9
  have C9 := C.trans (B9.mono C.size)
  clear X Y O C B9
  refine Lib.hid ?_
  go_wp2_with (first | (refine wpList_store44 rfl _ _ rfl go t.getLsbD rfl rfl noF O9 ?_; intro w10 T10 B10; refine Hid.out ?_))
  have C10 := B10.under C9 C9.size o3
  refine Lib.hid ?_
  go_wp2_with (first | (refine wpList_load44 rfl _ rfl go rfl t.getLsbD T10 ?_) | (go_at_call 39; refine (toInt_to t v _ HV).mono ?_; rintro e w20 ⟨rfl, B20⟩))
  go_ret2
  exact ⟨rfl, C10.trans (B20.mono C10.size)⟩

set_option maxHeartbeats 1000000 in
set_option maxRecDepth 100000 in
theorem refDo_11 (x y : Int) (a b : B64) (w : World) (HA : Hid (BitVec.ofInt 64 x = a)) (HB : Hid (BitVec.ofInt 64 y = b)) (t : Bool) (v : Int) (HT : Hid ((a == b) = t)) (HV : Hid ((if t = true then 1 else 0) = v)) :
    Calls Tryd.prog 12 #[.int .i64 11, .int .i64 x, .int .i64 y] w fun e w' => e = .returned (.tuple #[.int .i64 v, .int .i64 0]) ∧ Below w.heap.size w w' := by
  go_enter Tryd.func12, Tryd.ntmps12
  go_wp2_with fail
  refine (from_to x a _ HA).mono ?_
  rintro e w1 ⟨rfl, B1⟩
  go_wp2_with (first | (refine wpList_alloc44 rfl rfl ?_; intro ga w2 H2 A2 B2; refine wpList_store44 rfl _ _ rfl ga a.getLsbD rfl rfl noF A2 ?_; intro w3 A3 B3; refine Hid.out ?_))
  have e2 := H2.out
  have s1 := B1.size
  have s2 := B2.size
  have o0 : w.heap.size ≤ ga := by omega
  have C3 := B3.under (B1.trans (B2.mono s1)) (by omega) o0
  have l3 := A3.lt
  clear A2 B1 B2 B3 H2 e2 s1 s2
  refine Lib.hid ?_
  go_wp2_with fail
  refine (from_to y b _ HB).mono ?_
  rintro e w4 ⟨rfl, B4⟩
  go_wp2_with (first | (refine wpList_alloc44 rfl rfl ?_; intro gb w5 H5 A5 B5; refine wpList_store44 rfl _ _ rfl gb b.getLsbD rfl rfl noF A5 ?_; intro w6 A6 B6; refine Hid.out ?_))
  have e5 := H5.out
  have s4 := B4.size
  have s5 := B5.size
  have o1 : ga < gb := by omega
  have X6 := ((A3.below B4).below B5).but B6 (by omega)
  have C6 := B6.under ((C3.trans (B4.mono C3.size)).trans (B5.mono (Nat.le_trans C3.size s4))) (by have := C3.size; omega) (by omega)
  have l6 := A6.lt
  clear A3 A5 B4 B5 B6 H5 e5 s4 s5 l3 C3
  refine Lib.hid ?_
  go_wp2_with (first | (refine wpList_build44 rfl rfl ?_; refine wpList_alloc44 rfl rfl ?_; intro go w7 H7 A7 B7; refine wpList_store44 rfl _ _ rfl go noF rfl rfl noF A7 ?_; intro w8 O B8; refine Hid.out ?_))
  have e7 := H7.out
  have s7 := B7.size
  have o2 : gb < go := by omega
  have X := (X6.below B7).but B8 (by omega)
  have Y := (A6.below B7).but B8 (by omega)
  have C := B8.under (C6.trans (B7.mono C6.size)) (by have := C6.size; omega) (by omega)
  have o3 : w.heap.size ≤ go := by omega
  clear X6 A6 A7 B7 B8 H7 e7 s7 l6 C6
  refine Lib.hid ?_
  go_wp2_with (first | (refine wpList_load44 rfl _ rfl ga rfl a.getLsbD X ?_; refine wpList_load44 rfl _ rfl gb rfl b.getLsbD Y ?_; refine wpList_eql44 rfl _ _ _ rfl a b rfl rfl t HT ?_) | (go_at_call 37; refine (truth_to t v _ HV).mono ?_; rintro e w' ⟨rfl, rfl⟩))
  go_ret2
  exact ⟨rfl, C⟩

set_option maxHeartbeats 1000000 in
set_option maxRecDepth 100000 in
theorem refDo_12 (x y : Int) (a b : B64) (w : World) (HA : Hid (BitVec.ofInt 64 x = a)) (HB : Hid (BitVec.ofInt 64 y = b)) (t : Bool) (v : Int) (HT : Hid ((a != b) = t)) (HV : Hid ((if t = true then 1 else 0) = v)) :
    Calls Tryd.prog 12 #[.int .i64 12, .int .i64 x, .int .i64 y] w fun e w' => e = .returned (.tuple #[.int .i64 v, .int .i64 0]) ∧ Below w.heap.size w w' := by
  go_enter Tryd.func12, Tryd.ntmps12
  go_wp2_with fail
  refine (from_to x a _ HA).mono ?_
  rintro e w1 ⟨rfl, B1⟩
  go_wp2_with (first | (refine wpList_alloc44 rfl rfl ?_; intro ga w2 H2 A2 B2; refine wpList_store44 rfl _ _ rfl ga a.getLsbD rfl rfl noF A2 ?_; intro w3 A3 B3; refine Hid.out ?_))
  have e2 := H2.out
  have s1 := B1.size
  have s2 := B2.size
  have o0 : w.heap.size ≤ ga := by omega
  have C3 := B3.under (B1.trans (B2.mono s1)) (by omega) o0
  have l3 := A3.lt
  clear A2 B1 B2 B3 H2 e2 s1 s2
  refine Lib.hid ?_
  go_wp2_with fail
  refine (from_to y b _ HB).mono ?_
  rintro e w4 ⟨rfl, B4⟩
  go_wp2_with (first | (refine wpList_alloc44 rfl rfl ?_; intro gb w5 H5 A5 B5; refine wpList_store44 rfl _ _ rfl gb b.getLsbD rfl rfl noF A5 ?_; intro w6 A6 B6; refine Hid.out ?_))
  have e5 := H5.out
  have s4 := B4.size
  have s5 := B5.size
  have o1 : ga < gb := by omega
  have X6 := ((A3.below B4).below B5).but B6 (by omega)
  have C6 := B6.under ((C3.trans (B4.mono C3.size)).trans (B5.mono (Nat.le_trans C3.size s4))) (by have := C3.size; omega) (by omega)
  have l6 := A6.lt
  clear A3 A5 B4 B5 B6 H5 e5 s4 s5 l3 C3
  refine Lib.hid ?_
  go_wp2_with (first | (refine wpList_build44 rfl rfl ?_; refine wpList_alloc44 rfl rfl ?_; intro go w7 H7 A7 B7; refine wpList_store44 rfl _ _ rfl go noF rfl rfl noF A7 ?_; intro w8 O B8; refine Hid.out ?_))
  have e7 := H7.out
  have s7 := B7.size
  have o2 : gb < go := by omega
  have X := (X6.below B7).but B8 (by omega)
  have Y := (A6.below B7).but B8 (by omega)
  have C := B8.under (C6.trans (B7.mono C6.size)) (by have := C6.size; omega) (by omega)
  have o3 : w.heap.size ≤ go := by omega
  clear X6 A6 A7 B7 B8 H7 e7 s7 l6 C6
  refine Lib.hid ?_
  go_wp2_with (first | (refine wpList_load44 rfl _ rfl ga rfl a.getLsbD X ?_; refine wpList_load44 rfl _ rfl gb rfl b.getLsbD Y ?_; refine wpList_neq44 rfl _ _ _ rfl a b rfl rfl t HT ?_) | (go_at_call 37; refine (truth_to t v _ HV).mono ?_; rintro e w' ⟨rfl, rfl⟩))
  go_ret2
  exact ⟨rfl, C⟩

set_option maxHeartbeats 1000000 in
set_option maxRecDepth 100000 in
theorem refDo_18 (x y : Int) (a b : B64) (w : World) (HA : Hid (BitVec.ofInt 64 x = a)) (HB : Hid (BitVec.ofInt 64 y = b)) (t : Bool) (v : Int) (HT : Hid ((a == 0#64) = t)) (HV : Hid ((if t = true then 1 else 0) = v)) :
    Calls Tryd.prog 12 #[.int .i64 18, .int .i64 x, .int .i64 y] w fun e w' => e = .returned (.tuple #[.int .i64 v, .int .i64 0]) ∧ Below w.heap.size w w' := by
  go_enter Tryd.func12, Tryd.ntmps12
  go_wp2_with fail
  refine (from_to x a _ HA).mono ?_
  rintro e w1 ⟨rfl, B1⟩
  go_wp2_with (first | (refine wpList_alloc44 rfl rfl ?_; intro ga w2 H2 A2 B2; refine wpList_store44 rfl _ _ rfl ga a.getLsbD rfl rfl noF A2 ?_; intro w3 A3 B3; refine Hid.out ?_))
  have e2 := H2.out
  have s1 := B1.size
  have s2 := B2.size
  have o0 : w.heap.size ≤ ga := by omega
  have C3 := B3.under (B1.trans (B2.mono s1)) (by omega) o0
  have l3 := A3.lt
  clear A2 B1 B2 B3 H2 e2 s1 s2
  refine Lib.hid ?_
  go_wp2_with fail
  refine (from_to y b _ HB).mono ?_
  rintro e w4 ⟨rfl, B4⟩
  go_wp2_with (first | (refine wpList_alloc44 rfl rfl ?_; intro gb w5 H5 A5 B5; refine wpList_store44 rfl _ _ rfl gb b.getLsbD rfl rfl noF A5 ?_; intro w6 A6 B6; refine Hid.out ?_))
  have e5 := H5.out
  have s4 := B4.size
  have s5 := B5.size
  have o1 : ga < gb := by omega
  have X6 := ((A3.below B4).below B5).but B6 (by omega)
  have C6 := B6.under ((C3.trans (B4.mono C3.size)).trans (B5.mono (Nat.le_trans C3.size s4))) (by have := C3.size; omega) (by omega)
  have l6 := A6.lt
  clear A3 A5 B4 B5 B6 H5 e5 s4 s5 l3 C3
  refine Lib.hid ?_
  go_wp2_with (first | (refine wpList_build44 rfl rfl ?_; refine wpList_alloc44 rfl rfl ?_; intro go w7 H7 A7 B7; refine wpList_store44 rfl _ _ rfl go noF rfl rfl noF A7 ?_; intro w8 O B8; refine Hid.out ?_))
  have e7 := H7.out
  have s7 := B7.size
  have o2 : gb < go := by omega
  have X := (X6.below B7).but B8 (by omega)
  have Y := (A6.below B7).but B8 (by omega)
  have C := B8.under (C6.trans (B7.mono C6.size)) (by have := C6.size; omega) (by omega)
  have o3 : w.heap.size ≤ go := by omega
  clear X6 A6 A7 B7 B8 H7 e7 s7 l6 C6
  refine Lib.hid ?_
  go_wp2_with (first | (refine wpList_load44 rfl _ rfl ga rfl a.getLsbD X ?_; refine wpList_build44 rfl rfl ?_; rw [noF_zero]; refine wpList_eql44 rfl _ _ _ rfl a 0#64 rfl rfl t HT ?_) | (go_at_call 37; refine (truth_to t v _ HV).mono ?_; rintro e w' ⟨rfl, rfl⟩))
  go_ret2
  exact ⟨rfl, C⟩

set_option maxHeartbeats 1000000 in
set_option maxRecDepth 100000 in
theorem refDo_13 (x y : Int) (a b : B64) (w : World) (HA : Hid (BitVec.ofInt 64 x = a)) (HB : Hid (BitVec.ofInt 64 y = b)) (t : Bool) (v : Int) (HT : Hid (BitVec.slt a b = t)) (HV : Hid ((if (t) = true then 1 else 0) = v)) :
    Calls Tryd.prog 12 #[.int .i64 13, .int .i64 x, .int .i64 y] w fun e w' => e = .returned (.tuple #[.int .i64 v, .int .i64 0]) ∧ Below w.heap.size w w' := by
  go_enter Tryd.func12, Tryd.ntmps12
  go_wp2_with fail
  refine (from_to x a _ HA).mono ?_
  rintro e w1 ⟨rfl, B1⟩
  go_wp2_with (first | (refine wpList_alloc44 rfl rfl ?_; intro ga w2 H2 A2 B2; refine wpList_store44 rfl _ _ rfl ga a.getLsbD rfl rfl noF A2 ?_; intro w3 A3 B3; refine Hid.out ?_))
  have e2 := H2.out
  have s1 := B1.size
  have s2 := B2.size
  have o0 : w.heap.size ≤ ga := by omega
  have C3 := B3.under (B1.trans (B2.mono s1)) (by omega) o0
  have l3 := A3.lt
  clear A2 B1 B2 B3 H2 e2 s1 s2
  refine Lib.hid ?_
  go_wp2_with fail
  refine (from_to y b _ HB).mono ?_
  rintro e w4 ⟨rfl, B4⟩
  go_wp2_with (first | (refine wpList_alloc44 rfl rfl ?_; intro gb w5 H5 A5 B5; refine wpList_store44 rfl _ _ rfl gb b.getLsbD rfl rfl noF A5 ?_; intro w6 A6 B6; refine Hid.out ?_))
  have e5 := H5.out
  have s4 := B4.size
  have s5 := B5.size
  have o1 : ga < gb := by omega
  have X6 := ((A3.below B4).below B5).but B6 (by omega)
  have C6 := B6.under ((C3.trans (B4.mono C3.size)).trans (B5.mono (Nat.le_trans C3.size s4))) (by have := C3.size; omega) (by omega)
  have l6 := A6.lt
  clear A3 A5 B4 B5 B6 H5 e5 s4 s5 l3 C3
  refine Lib.hid ?_
  go_wp2_with (first | (refine wpList_build44 rfl rfl ?_; refine wpList_alloc44 rfl rfl ?_; intro go w7 H7 A7 B7; refine wpList_store44 rfl _ _ rfl go noF rfl rfl noF A7 ?_; intro w8 O B8; refine Hid.out ?_))
  have e7 := H7.out
  have s7 := B7.size
  have o2 : gb < go := by omega
  have X := (X6.below B7).but B8 (by omega)
  have Y := (A6.below B7).but B8 (by omega)
  have C := B8.under (C6.trans (B7.mono C6.size)) (by have := C6.size; omega) (by omega)
  have o3 : w.heap.size ≤ go := by omega
  clear X6 A6 A7 B7 B8 H7 e7 s7 l6 C6
  refine Lib.hid ?_
  go_wp2_with (first | (refine wpList_load44 rfl _ rfl ga rfl a.getLsbD X ?_; refine wpList_load44 rfl _ rfl gb rfl b.getLsbD Y ?_) | (go_at_call 38; refine (less_to a b t _ HT).mono ?_; rintro e w9 ⟨rfl, B9⟩) | (go_at_call 37; refine (truth_to (t) v _ HV).mono ?_; rintro e w' ⟨rfl, rfl⟩))
  go_ret2
  exact ⟨rfl, C.trans (B9.mono C.size)⟩

set_option maxHeartbeats 1000000 in
set_option maxRecDepth 100000 in
theorem refDo_14 (x y : Int) (a b : B64) (w : World) (HA : Hid (BitVec.ofInt 64 x = a)) (HB : Hid (BitVec.ofInt 64 y = b)) (t : Bool) (v : Int) (HT : Hid (BitVec.slt b a = t)) (HV : Hid ((if (!t) = true then 1 else 0) = v)) :
    Calls Tryd.prog 12 #[.int .i64 14, .int .i64 x, .int .i64 y] w fun e w' => e = .returned (.tuple #[.int .i64 v, .int .i64 0]) ∧ Below w.heap.size w w' := by
  go_enter Tryd.func12, Tryd.ntmps12
  go_wp2_with fail
  refine (from_to x a _ HA).mono ?_
  rintro e w1 ⟨rfl, B1⟩
  go_wp2_with (first | (refine wpList_alloc44 rfl rfl ?_; intro ga w2 H2 A2 B2; refine wpList_store44 rfl _ _ rfl ga a.getLsbD rfl rfl noF A2 ?_; intro w3 A3 B3; refine Hid.out ?_))
  have e2 := H2.out
  have s1 := B1.size
  have s2 := B2.size
  have o0 : w.heap.size ≤ ga := by omega
  have C3 := B3.under (B1.trans (B2.mono s1)) (by omega) o0
  have l3 := A3.lt
  clear A2 B1 B2 B3 H2 e2 s1 s2
  refine Lib.hid ?_
  go_wp2_with fail
  refine (from_to y b _ HB).mono ?_
  rintro e w4 ⟨rfl, B4⟩
  go_wp2_with (first | (refine wpList_alloc44 rfl rfl ?_; intro gb w5 H5 A5 B5; refine wpList_store44 rfl _ _ rfl gb b.getLsbD rfl rfl noF A5 ?_; intro w6 A6 B6; refine Hid.out ?_))
  have e5 := H5.out
  have s4 := B4.size
  have s5 := B5.size
  have o1 : ga < gb := by omega
  have X6 := ((A3.below B4).below B5).but B6 (by omega)
  have C6 := B6.under ((C3.trans (B4.mono C3.size)).trans (B5.mono (Nat.le_trans C3.size s4))) (by have := C3.size; omega) (by omega)
  have l6 := A6.lt
  clear A3 A5 B4 B5 B6 H5 e5 s4 s5 l3 C3
  refine Lib.hid ?_
  go_wp2_with (first | (refine wpList_build44 rfl rfl ?_; refine wpList_alloc44 rfl rfl ?_; intro go w7 H7 A7 B7; refine wpList_store44 rfl _ _ rfl go noF rfl rfl noF A7 ?_; intro w8 O B8; refine Hid.out ?_))
  have e7 := H7.out
  have s7 := B7.size
  have o2 : gb < go := by omega
  have X := (X6.below B7).but B8 (by omega)
  have Y := (A6.below B7).but B8 (by omega)
  have C := B8.under (C6.trans (B7.mono C6.size)) (by have := C6.size; omega) (by omega)
  have o3 : w.heap.size ≤ go := by omega
  clear X6 A6 A7 B7 B8 H7 e7 s7 l6 C6
  refine Lib.hid ?_
  go_wp2_with (first | (refine wpList_load44 rfl _ rfl gb rfl b.getLsbD Y ?_; refine wpList_load44 rfl _ rfl ga rfl a.getLsbD X ?_) | (go_at_call 38; refine (less_to b a t _ HT).mono ?_; rintro e w9 ⟨rfl, B9⟩) | (go_at_call 37; refine (truth_to (!t) v _ HV).mono ?_; rintro e w' ⟨rfl, rfl⟩))
  go_ret2
  exact ⟨rfl, C.trans (B9.mono C.size)⟩

set_option maxHeartbeats 1000000 in
set_option maxRecDepth 100000 in
theorem refDo_15 (x y : Int) (a b : B64) (w : World) (HA : Hid (BitVec.ofInt 64 x = a)) (HB : Hid (BitVec.ofInt 64 y = b)) (t : Bool) (v : Int) (HT : Hid (BitVec.slt b a = t)) (HV : Hid ((if (t) = true then 1 else 0) = v)) :
    Calls Tryd.prog 12 #[.int .i64 15, .int .i64 x, .int .i64 y] w fun e w' => e = .returned (.tuple #[.int .i64 v, .int .i64 0]) ∧ Below w.heap.size w w' := by
  go_enter Tryd.func12, Tryd.ntmps12
  go_wp2_with fail
  refine (from_to x a _ HA).mono ?_
  rintro e w1 ⟨rfl, B1⟩
  go_wp2_with (first | (refine wpList_alloc44 rfl rfl ?_; intro ga w2 H2 A2 B2; refine wpList_store44 rfl _ _ rfl ga a.getLsbD rfl rfl noF A2 ?_; intro w3 A3 B3; refine Hid.out ?_))
  have e2 := H2.out
  have s1 := B1.size
  have s2 := B2.size
  have o0 : w.heap.size ≤ ga := by omega
  have C3 := B3.under (B1.trans (B2.mono s1)) (by omega) o0
  have l3 := A3.lt
  clear A2 B1 B2 B3 H2 e2 s1 s2
  refine Lib.hid ?_
  go_wp2_with fail
  refine (from_to y b _ HB).mono ?_
  rintro e w4 ⟨rfl, B4⟩
  go_wp2_with (first | (refine wpList_alloc44 rfl rfl ?_; intro gb w5 H5 A5 B5; refine wpList_store44 rfl _ _ rfl gb b.getLsbD rfl rfl noF A5 ?_; intro w6 A6 B6; refine Hid.out ?_))
  have e5 := H5.out
  have s4 := B4.size
  have s5 := B5.size
  have o1 : ga < gb := by omega
  have X6 := ((A3.below B4).below B5).but B6 (by omega)
  have C6 := B6.under ((C3.trans (B4.mono C3.size)).trans (B5.mono (Nat.le_trans C3.size s4))) (by have := C3.size; omega) (by omega)
  have l6 := A6.lt
  clear A3 A5 B4 B5 B6 H5 e5 s4 s5 l3 C3
  refine Lib.hid ?_
  go_wp2_with (first | (refine wpList_build44 rfl rfl ?_; refine wpList_alloc44 rfl rfl ?_; intro go w7 H7 A7 B7; refine wpList_store44 rfl _ _ rfl go noF rfl rfl noF A7 ?_; intro w8 O B8; refine Hid.out ?_))
  have e7 := H7.out
  have s7 := B7.size
  have o2 : gb < go := by omega
  have X := (X6.below B7).but B8 (by omega)
  have Y := (A6.below B7).but B8 (by omega)
  have C := B8.under (C6.trans (B7.mono C6.size)) (by have := C6.size; omega) (by omega)
  have o3 : w.heap.size ≤ go := by omega
  clear X6 A6 A7 B7 B8 H7 e7 s7 l6 C6
  refine Lib.hid ?_
  go_wp2_with (first | (refine wpList_load44 rfl _ rfl gb rfl b.getLsbD Y ?_; refine wpList_load44 rfl _ rfl ga rfl a.getLsbD X ?_) | (go_at_call 38; refine (less_to b a t _ HT).mono ?_; rintro e w9 ⟨rfl, B9⟩) | (go_at_call 37; refine (truth_to (t) v _ HV).mono ?_; rintro e w' ⟨rfl, rfl⟩))
  go_ret2
  exact ⟨rfl, C.trans (B9.mono C.size)⟩

set_option maxHeartbeats 1000000 in
set_option maxRecDepth 100000 in
theorem refDo_16 (x y : Int) (a b : B64) (w : World) (HA : Hid (BitVec.ofInt 64 x = a)) (HB : Hid (BitVec.ofInt 64 y = b)) (t : Bool) (v : Int) (HT : Hid (BitVec.slt a b = t)) (HV : Hid ((if (!t) = true then 1 else 0) = v)) :
    Calls Tryd.prog 12 #[.int .i64 16, .int .i64 x, .int .i64 y] w fun e w' => e = .returned (.tuple #[.int .i64 v, .int .i64 0]) ∧ Below w.heap.size w w' := by
  go_enter Tryd.func12, Tryd.ntmps12
  go_wp2_with fail
  refine (from_to x a _ HA).mono ?_
  rintro e w1 ⟨rfl, B1⟩
  go_wp2_with (first | (refine wpList_alloc44 rfl rfl ?_; intro ga w2 H2 A2 B2; refine wpList_store44 rfl _ _ rfl ga a.getLsbD rfl rfl noF A2 ?_; intro w3 A3 B3; refine Hid.out ?_))
  have e2 := H2.out
  have s1 := B1.size
  have s2 := B2.size
  have o0 : w.heap.size ≤ ga := by omega
  have C3 := B3.under (B1.trans (B2.mono s1)) (by omega) o0
  have l3 := A3.lt
  clear A2 B1 B2 B3 H2 e2 s1 s2
  refine Lib.hid ?_
  go_wp2_with fail
  refine (from_to y b _ HB).mono ?_
  rintro e w4 ⟨rfl, B4⟩
  go_wp2_with (first | (refine wpList_alloc44 rfl rfl ?_; intro gb w5 H5 A5 B5; refine wpList_store44 rfl _ _ rfl gb b.getLsbD rfl rfl noF A5 ?_; intro w6 A6 B6; refine Hid.out ?_))
  have e5 := H5.out
  have s4 := B4.size
  have s5 := B5.size
  have o1 : ga < gb := by omega
  have X6 := ((A3.below B4).below B5).but B6 (by omega)
  have C6 := B6.under ((C3.trans (B4.mono C3.size)).trans (B5.mono (Nat.le_trans C3.size s4))) (by have := C3.size; omega) (by omega)
  have l6 := A6.lt
  clear A3 A5 B4 B5 B6 H5 e5 s4 s5 l3 C3
  refine Lib.hid ?_
  go_wp2_with (first | (refine wpList_build44 rfl rfl ?_; refine wpList_alloc44 rfl rfl ?_; intro go w7 H7 A7 B7; refine wpList_store44 rfl _ _ rfl go noF rfl rfl noF A7 ?_; intro w8 O B8; refine Hid.out ?_))
  have e7 := H7.out
  have s7 := B7.size
  have o2 : gb < go := by omega
  have X := (X6.below B7).but B8 (by omega)
  have Y := (A6.below B7).but B8 (by omega)
  have C := B8.under (C6.trans (B7.mono C6.size)) (by have := C6.size; omega) (by omega)
  have o3 : w.heap.size ≤ go := by omega
  clear X6 A6 A7 B7 B8 H7 e7 s7 l6 C6
  refine Lib.hid ?_
  go_wp2_with (first | (refine wpList_load44 rfl _ rfl ga rfl a.getLsbD X ?_; refine wpList_load44 rfl _ rfl gb rfl b.getLsbD Y ?_) | (go_at_call 38; refine (less_to a b t _ HT).mono ?_; rintro e w9 ⟨rfl, B9⟩) | (go_at_call 37; refine (truth_to (!t) v _ HV).mono ?_; rintro e w' ⟨rfl, rfl⟩))
  go_ret2
  exact ⟨rfl, C.trans (B9.mono C.size)⟩

end Go.Proofs.YtgdchlgepgbhhaaDoor
