/-
  CONTRACTS: what the reference's Do answers, op by op, in terms of bit vectors; of what was there nothing has turned. Conditions: as each states them.
-/
import Derived.Test.YtgdchlgepgbhhaaDoorRefDo2
namespace Go.Proofs.YtgdchlgepgbhhaaDoor
open Go.RowKit

def ShRel (w : World) (ga go : Nat) (a t : B64) (i : Value) (wr : World) : Prop :=
  ∃ k : Nat, k ≤ 64 ∧ i = .int .i64 (k : Int) ∧ Bs wr ga a.getLsbD ∧ Bs wr go (part k t) ∧ Below w.heap.size w wr
theorem part_miss (k : Nat) (v : B64) (h : v.getLsbD k = false) (j : Nat) : part k v j = part (k + 1) v j := by
  rw [← part_step k v j]
  by_cases e : j = k
  · subst e; rw [if_pos rfl, h]; simp [part]
  · rw [if_neg e]
theorem part_twice (k : Nat) (v : B64) (x : Bool) (j : Nat) : (if j = k then v.getLsbD k else if j = k then x else part k v j) = part (k + 1) v j := by
  rw [← part_step k v j]
  by_cases e : j = k
  · rw [if_pos e, if_pos e]
  · rw [if_neg e, if_neg e, if_neg e]
theorem But.trans' {g : Nat} {w w' w'' : World} (h : But g w w') (h' : But g w' w'') : But g w w'' :=
  ⟨h'.os.trans h.os, h'.tape.trans h.tape, h'.output.trans h.output, Nat.le_trans h.size h'.size, fun k hk hne => (h'.block k (Nat.lt_of_lt_of_le hk h.size) hne).trans (h.block k hk hne)⟩


set_option maxHeartbeats 1000000 in
set_option maxRecDepth 100000 in
theorem refDo_9z (x y : Int) (a b : B64) (w : World) (HA : Hid (BitVec.ofInt 64 x = a)) (HB : Hid (BitVec.ofInt 64 y = b)) (hb63 : b.getLsbD 63 = true) :
    Calls Tryd.prog 12 #[.int .i64 9, .int .i64 x, .int .i64 y] w fun e w' => e = .returned (.tuple #[.int .i64 0, .int .i64 12]) ∧ Below w.heap.size w w' := by
  go_enter Tryd.func12, Tryd.ntmps12
  go_wp2_with fail
  refine (from_to x a _ HA).mono ?_
  rintro e w1 ⟨rfl, B1⟩
  go_wp2_with (first | (refine wpList_alloc44 rfl rfl ?_; intro ga w2 H2 A2 B2; refine wpList_store44 rfl _ _ rfl ga a.getLsbD rfl rfl noF A2 ?_; intro w3 A3 B3; refine Hid.out ?_))
  have e2 := H2.out
  have s1 := B1.size
  have s2 := B2.size
  have o0 : w.heap.size ≤ ga := by omega
  have C3 := B3.under (B1.trans (B2.mono s1)) (by omega) o0
  have l3 := A3.lt
  clear A2 B1 B2 B3 H2 e2 s1 s2
  refine Lib.hid ?_
  go_wp2_with fail
  refine (from_to y b _ HB).mono ?_
  rintro e w4 ⟨rfl, B4⟩
  go_wp2_with (first | (refine wpList_alloc44 rfl rfl ?_; intro gb w5 H5 A5 B5; refine wpList_store44 rfl _ _ rfl gb b.getLsbD rfl rfl noF A5 ?_; intro w6 A6 B6; refine Hid.out ?_))
  have e5 := H5.out
  have s4 := B4.size
  have s5 := B5.size
  have o1 : ga < gb := by omega
  have X6 := ((A3.below B4).below B5).but B6 (by omega)
  have C6 := B6.under ((C3.trans (B4.mono C3.size)).trans (B5.mono (Nat.le_trans C3.size s4))) (by have := C3.size; omega) (by omega)
  have l6 := A6.lt
  clear A3 A5 B4 B5 B6 H5 e5 s4 s5 l3 C3
  refine Lib.hid ?_
  go_wp2_with (first | (refine wpList_build44 rfl rfl ?_; refine wpList_alloc44 rfl rfl ?_; intro go w7 H7 A7 B7; refine wpList_store44 rfl _ _ rfl go noF rfl rfl noF A7 ?_; intro w8 O B8; refine Hid.out ?_))
  have e7 := H7.out
  have s7 := B7.size
  have o2 : gb < go := by omega
  have X := (X6.below B7).but B8 (by omega)
  have Y := (A6.below B7).but B8 (by omega)
  have C := B8.under (C6.trans (B7.mono C6.size)) (by have := C6.size; omega) (by omega)
  have o3 : w.heap.size ≤ go := by omega
  clear X6 A6 A7 B7 B8 H7 e7 s7 l6 C6
  refine Lib.hid ?_
  have hc63 := Y.cell 63 (by omega)
  rw [hb63] at hc63
  go_wp2_with fail
  go_ret2
  exact ⟨rfl, C⟩

set_option maxHeartbeats 1000000 in
set_option maxRecDepth 100000 in
theorem refDo_10z (x y : Int) (a b : B64) (w : World) (HA : Hid (BitVec.ofInt 64 x = a)) (HB : Hid (BitVec.ofInt 64 y = b)) (hb63 : b.getLsbD 63 = true) :
    Calls Tryd.prog 12 #[.int .i64 10, .int .i64 x, .int .i64 y] w fun e w' => e = .returned (.tuple #[.int .i64 0, .int .i64 12]) ∧ Below w.heap.size w w' := by
  go_enter Tryd.func12, Tryd.ntmps12
  go_wp2_with fail
  refine (from_to x a _ HA).mono ?_
  rintro e w1 ⟨rfl, B1⟩
  go_wp2_with (first | (refine wpList_alloc44 rfl rfl ?_; intro ga w2 H2 A2 B2; refine wpList_store44 rfl _ _ rfl ga a.getLsbD rfl rfl noF A2 ?_; intro w3 A3 B3; refine Hid.out ?_))
  have e2 := H2.out
  have s1 := B1.size
  have s2 := B2.size
  have o0 : w.heap.size ≤ ga := by omega
  have C3 := B3.under (B1.trans (B2.mono s1)) (by omega) o0
  have l3 := A3.lt
  clear A2 B1 B2 B3 H2 e2 s1 s2
  refine Lib.hid ?_
  go_wp2_with fail
  refine (from_to y b _ HB).mono ?_
  rintro e w4 ⟨rfl, B4⟩
  go_wp2_with (first | (refine wpList_alloc44 rfl rfl ?_; intro gb w5 H5 A5 B5; refine wpList_store44 rfl _ _ rfl gb b.getLsbD rfl rfl noF A5 ?_; intro w6 A6 B6; refine Hid.out ?_))
  have e5 := H5.out
  have s4 := B4.size
  have s5 := B5.size
  have o1 : ga < gb := by omega
  have X6 := ((A3.below B4).below B5).but B6 (by omega)
  have C6 := B6.under ((C3.trans (B4.mono C3.size)).trans (B5.mono (Nat.le_trans C3.size s4))) (by have := C3.size; omega) (by omega)
  have l6 := A6.lt
  clear A3 A5 B4 B5 B6 H5 e5 s4 s5 l3 C3
  refine Lib.hid ?_
  go_wp2_with (first | (refine wpList_build44 rfl rfl ?_; refine wpList_alloc44 rfl rfl ?_; intro go w7 H7 A7 B7; refine wpList_store44 rfl _ _ rfl go noF rfl rfl noF A7 ?_; intro w8 O B8; refine Hid.out ?_))
  have e7 := H7.out
  have s7 := B7.size
  have o2 : gb < go := by omega
  have X := (X6.below B7).but B8 (by omega)
  have Y := (A6.below B7).but B8 (by omega)
  have C := B8.under (C6.trans (B7.mono C6.size)) (by have := C6.size; omega) (by omega)
  have o3 : w.heap.size ≤ go := by omega
  clear X6 A6 A7 B7 B8 H7 e7 s7 l6 C6
  refine Lib.hid ?_
  have hc63 := Y.cell 63 (by omega)
  rw [hb63] at hc63
  go_wp2_with fail
  go_ret2
  exact ⟨rfl, C⟩

set_option maxHeartbeats 1000000 in
set_option maxRecDepth 100000 in
theorem refDo_9s (x : Int) (n : Nat) (a b : B64) (w : World) (HA : Hid (BitVec.ofInt 64 x = a)) (HB : Hid (BitVec.ofInt 64 (n : Int) = b)) (hb63 : b.getLsbD 63 = false) (hn : (n : Int) < 64) (t : B64) (v : Int) (HT : Hid (a <<< n = t)) (HV : Hid (t.toInt = v)) :
    Calls Tryd.prog 12 #[.int .i64 9, .int .i64 x, .int .i64 (n : Int)] w fun e w' => e = .returned (.tuple #[.int .i64 v, .int .i64 0]) ∧ Below w.heap.size w w' := by
  go_enter Tryd.func12, Tryd.ntmps12
  go_wp2_with fail
  refine (from_to x a _ HA).mono ?_
  rintro e w1 ⟨rfl, B1⟩
  go_wp2_with (first | (refine wpList_alloc44 rfl rfl ?_; intro ga w2 H2 A2 B2; refine wpList_store44 rfl _ _ rfl ga a.getLsbD rfl rfl noF A2 ?_; intro w3 A3 B3; refine Hid.out ?_))
  have e2 := H2.out
  have s1 := B1.size
  have s2 := B2.size
  have o0 : w.heap.size ≤ ga := by omega
  have C3 := B3.under (B1.trans (B2.mono s1)) (by omega) o0
  have l3 := A3.lt
  clear A2 B1 B2 B3 H2 e2 s1 s2
  refine Lib.hid ?_
  go_wp2_with fail
  refine (from_to (n : Int) b _ HB).mono ?_
  rintro e w4 ⟨rfl, B4⟩
  go_wp2_with (first | (refine wpList_alloc44 rfl rfl ?_; intro gb w5 H5 A5 B5; refine wpList_store44 rfl _ _ rfl gb b.getLsbD rfl rfl noF A5 ?_; intro w6 A6 B6; refine Hid.out ?_))
  have e5 := H5.out
  have s4 := B4.size
  have s5 := B5.size
  have o1 : ga < gb := by omega
  have X6 := ((A3.below B4).below B5).but B6 (by omega)
  have C6 := B6.under ((C3.trans (B4.mono C3.size)).trans (B5.mono (Nat.le_trans C3.size s4))) (by have := C3.size; omega) (by omega)
  have l6 := A6.lt
  clear A3 A5 B4 B5 B6 H5 e5 s4 s5 l3 C3
  refine Lib.hid ?_
  go_wp2_with (first | (refine wpList_build44 rfl rfl ?_; refine wpList_alloc44 rfl rfl ?_; intro go w7 H7 A7 B7; refine wpList_store44 rfl _ _ rfl go noF rfl rfl noF A7 ?_; intro w8 O B8; refine Hid.out ?_))
  have e7 := H7.out
  have s7 := B7.size
  have o2 : gb < go := by omega
  have X := (X6.below B7).but B8 (by omega)
  have Y := (A6.below B7).but B8 (by omega)
  have C := B8.under (C6.trans (B7.mono C6.size)) (by have := C6.size; omega) (by omega)
  have o3 : w.heap.size ≤ go := by omega
  clear X6 A6 A7 B7 B8 H7 e7 s7 l6 C6
  refine Lib.hid ?_
  have hc63 := Y.cell 63 (by omega)
  rw [hb63] at hc63
  go_wp2_with fail
  go_loopw [16] (fun i wr => ShRel w ga go a t i wr) (fun i _ => (64 - intOf i).toNat)
  case atStart => exact ⟨0, by omega, rfl, X, O.congr (part_zero t), C⟩
  case round =>
    clear X Y O C hc63
    obtain ⟨k, hk, rfl, X, O, C⟩ := hrel
    by_cases h : k = 64
    · subst h
      have O' := O.congr (part_full t)
      clear O
      go_wp2_with (first | (refine wpList_load44 rfl _ rfl go rfl t.getLsbD O' ?_) | (go_at_call 39; refine (toInt_to t v _ HV).mono ?_; rintro e w20 ⟨rfl, B20⟩))
      go_ret2
      exact ⟨rfl, C.trans (B20.mono C.size)⟩
    · have hm : k < 64 := by omega
      have hm' : (k : Int) < 64 := by omega
      have hco := O.cell k hm
      have hfo := O.frozen k
      by_cases hkn : n ≤ k
      · obtain ⟨m, rfl⟩ : ∃ m, k = n + m := ⟨k - n, by omega⟩
        have hc := X.cell m (by omega)
        have hv : a.getLsbD m = t.getLsbD (n + m) := by
          rw [← HT.out, BitVec.getLsbD_shiftLeft, decide_eq_true hm, decide_eq_false (show ¬ n + m < n by omega), Nat.add_sub_cancel_left]; rfl
        have HK := Lib.hid hv
        have hge : (n : Int) ≤ ((n + m : Nat) : Int) := by omega
        have hsub : ((n + m : Nat) : Int) - (n : Int) = (m : Int) := by omega
        have hm64 : (m : Int) < 64 := by omega
        clear hv
        go_wp2_with fail
        go_roundw
        case rel => exact ⟨n + m + 1, by omega, by simp, X.but (but_setCell wr go _ _) (by omega), (O.set _).congr (fun j _ => by rw [← part_step (n + m) t j, HK.out]), (but_setCell wr go _ _).under C C.size o3⟩
        case measure => simp [intOf]; omega
      · have hlt : ¬ (n : Int) ≤ (k : Int) := by omega
        have HK : Hid (t.getLsbD k = false) := Lib.hid (by rw [← HT.out, BitVec.getLsbD_shiftLeft, decide_eq_true (show k < n by omega)]; simp)
        go_wp2_with fail
        go_roundw
        case rel => exact ⟨k + 1, by omega, by simp, X, O.congr (fun j _ => part_miss k t HK.out j), C⟩
        case measure => simp [intOf]; omega

set_option maxHeartbeats 1000000 in
set_option maxRecDepth 100000 in
theorem refDo_9b (x y : Int) (a b : B64) (w : World) (HA : Hid (BitVec.ofInt 64 x = a)) (HB : Hid (BitVec.ofInt 64 y = b)) (hb63 : b.getLsbD 63 = false) (hy : ¬ y < 64) (t : B64) (v : Int) (HT : Hid (0#64 = t)) (HV : Hid (t.toInt = v)) :
    Calls Tryd.prog 12 #[.int .i64 9, .int .i64 x, .int .i64 y] w fun e w' => e = .returned (.tuple #[.int .i64 v, .int .i64 0]) ∧ Below w.heap.size w w' := by
  go_enter Tryd.func12, Tryd.ntmps12
  go_wp2_with fail
  refine (from_to x a _ HA).mono ?_
  rintro e w1 ⟨rfl, B1⟩
  go_wp2_with (first | (refine wpList_alloc44 rfl rfl ?_; intro ga w2 H2 A2 B2; refine wpList_store44 rfl _ _ rfl ga a.getLsbD rfl rfl noF A2 ?_; intro w3 A3 B3; refine Hid.out ?_))
  have e2 := H2.out
  have s1 := B1.size
  have s2 := B2.size
  have o0 : w.heap.size ≤ ga := by omega
  have C3 := B3.under (B1.trans (B2.mono s1)) (by omega) o0
  have l3 := A3.lt
  clear A2 B1 B2 B3 H2 e2 s1 s2
  refine Lib.hid ?_
  go_wp2_with fail
  refine (from_to y b _ HB).mono ?_
  rintro e w4 ⟨rfl, B4⟩
  go_wp2_with (first | (refine wpList_alloc44 rfl rfl ?_; intro gb w5 H5 A5 B5; refine wpList_store44 rfl _ _ rfl gb b.getLsbD rfl rfl noF A5 ?_; intro w6 A6 B6; refine Hid.out ?_))
  have e5 := H5.out
  have s4 := B4.size
  have s5 := B5.size
  have o1 : ga < gb := by omega
  have X6 := ((A3.below B4).below B5).but B6 (by omega)
  have C6 := B6.under ((C3.trans (B4.mono C3.size)).trans (B5.mono (Nat.le_trans C3.size s4))) (by have := C3.size; omega) (by omega)
  have l6 := A6.lt
  clear A3 A5 B4 B5 B6 H5 e5 s4 s5 l3 C3
  refine Lib.hid ?_
  go_wp2_with (first | (refine wpList_build44 rfl rfl ?_; refine wpList_alloc44 rfl rfl ?_; intro go w7 H7 A7 B7; refine wpList_store44 rfl _ _ rfl go noF rfl rfl noF A7 ?_; intro w8 O B8; refine Hid.out ?_))
  have e7 := H7.out
  have s7 := B7.size
  have o2 : gb < go := by omega
  have X := (X6.below B7).but B8 (by omega)
  have Y := (A6.below B7).but B8 (by omega)
  have C := B8.under (C6.trans (B7.mono C6.size)) (by have := C6.size; omega) (by omega)
  have o3 : w.heap.size ≤ go := by omega
  clear X6 A6 A7 B7 B8 H7 e7 s7 l6 C6
  refine Lib.hid ?_
  have hc63 := Y.cell 63 (by omega)
  rw [hb63] at hc63
  go_wp2_with fail
  go_loopw [16] (fun i wr => ShRel w ga go a t i wr) (fun i _ => (64 - intOf i).toNat)
  case atStart => exact ⟨0, by omega, rfl, X, O.congr (part_zero t), C⟩
  case round =>
    clear X Y O C hc63
    obtain ⟨k, hk, rfl, X, O, C⟩ := hrel
    by_cases h : k = 64
    · subst h
      have O' := O.congr (part_full t)
      clear O
      go_wp2_with (first | (refine wpList_load44 rfl _ rfl go rfl t.getLsbD O' ?_) | (go_at_call 39; refine (toInt_to t v _ HV).mono ?_; rintro e w20 ⟨rfl, B20⟩))
      go_ret2
      exact ⟨rfl, C.trans (B20.mono C.size)⟩
    · have hm : k < 64 := by omega
      have hm' : (k : Int) < 64 := by omega
      have hco := O.cell k hm
      have hfo := O.frozen k
      have hlt : ¬ (64 : Int) ≤ (k : Int) := by omega
      have HK : Hid (t.getLsbD k = false) := Lib.hid (by rw [← HT.out]; simp)
      go_wp2_with fail
      go_roundw
      case rel => exact ⟨k + 1, by omega, by simp, X, O.congr (fun j _ => part_miss k t HK.out j), C⟩
      case measure => simp [intOf]; omega

set_option maxHeartbeats 1000000 in
set_option maxRecDepth 100000 in
theorem refDo_10s (x : Int) (n : Nat) (a b : B64) (w : World) (HA : Hid (BitVec.ofInt 64 x = a)) (HB : Hid (BitVec.ofInt 64 (n : Int) = b)) (hb63 : b.getLsbD 63 = false) (hn : (n : Int) < 64) (t : B64) (v : Int) (HT : Hid (a.sshiftRight n = t)) (HV : Hid (t.toInt = v)) :
    Calls Tryd.prog 12 #[.int .i64 10, .int .i64 x, .int .i64 (n : Int)] w fun e w' => e = .returned (.tuple #[.int .i64 v, .int .i64 0]) ∧ Below w.heap.size w w' := by
  go_enter Tryd.func12, Tryd.ntmps12
  go_wp2_with fail
  refine (from_to x a _ HA).mono ?_
  rintro e w1 ⟨rfl, B1⟩
  go_wp2_with (first | (refine wpList_alloc44 rfl rfl ?_; intro ga w2 H2 A2 B2; refine wpList_store44 rfl _ _ rfl ga a.getLsbD rfl rfl noF A2 ?_; intro w3 A3 B3; refine Hid.out ?_))
  have e2 := H2.out
  have s1 := B1.size
  have s2 := B2.size
  have o0 : w.heap.size ≤ ga := by omega
  have C3 := B3.under (B1.trans (B2.mono s1)) (by omega) o0
  have l3 := A3.lt
  clear A2 B1 B2 B3 H2 e2 s1 s2
  refine Lib.hid ?_
  go_wp2_with fail
  refine (from_to (n : Int) b _ HB).mono ?_
  rintro e w4 ⟨rfl, B4⟩
  go_wp2_with (first | (refine wpList_alloc44 rfl rfl ?_; intro gb w5 H5 A5 B5; refine wpList_store44 rfl _ _ rfl gb b.getLsbD rfl rfl noF A5 ?_; intro w6 A6 B6; refine Hid.out ?_))
  have e5 := H5.out
  have s4 := B4.size
  have s5 := B5.size
  have o1 : ga < gb := by omega
  have X6 := ((A3.below B4).below B5).but B6 (by omega)
  have C6 := B6.under ((C3.trans (B4.mono C3.size)).trans (B5.mono (Nat.le_trans C3.size s4))) (by have := C3.size; omega) (by omega)
  have l6 := A6.lt
  clear A3 A5 B4 B5 B6 H5 e5 s4 s5 l3 C3
  refine Lib.hid ?_
  go_wp2_with (first | (refine wpList_build44 rfl rfl ?_; refine wpList_alloc44 rfl rfl ?_; intro go w7 H7 A7 B7; refine wpList_store44 rfl _ _ rfl go noF rfl rfl noF A7 ?_; intro w8 O B8; refine Hid.out ?_))
  have e7 := H7.out
  have s7 := B7.size
  have o2 : gb < go := by omega
  have X := (X6.below B7).but B8 (by omega)
  have Y := (A6.below B7).but B8 (by omega)
  have C := B8.under (C6.trans (B7.mono C6.size)) (by have := C6.size; omega) (by omega)
  have o3 : w.heap.size ≤ go := by omega
  clear X6 A6 A7 B7 B8 H7 e7 s7 l6 C6
  refine Lib.hid ?_
  have hc63 := Y.cell 63 (by omega)
  rw [hb63] at hc63
  go_wp2_with fail
  go_loopw [16] (fun i wr => ShRel w ga go a t i wr) (fun i _ => (64 - intOf i).toNat)
  case atStart => exact ⟨0, by omega, rfl, X, O.congr (part_zero t), C⟩
  case round =>
    clear X Y O C hc63
    obtain ⟨k, hk, rfl, X, O, C⟩ := hrel
    by_cases h : k = 64
    · subst h
      have O' := O.congr (part_full t)
      clear O
      go_wp2_with (first | (refine wpList_load44 rfl _ rfl go rfl t.getLsbD O' ?_) | (go_at_call 39; refine (toInt_to t v _ HV).mono ?_; rintro e w20 ⟨rfl, B20⟩))
      go_ret2
      exact ⟨rfl, C.trans (B20.mono C.size)⟩
    · have hm : k < 64 := by omega
      have hm' : (k : Int) < 64 := by omega
      have hco := O.cell k hm
      have hfo := O.frozen k
      have hca := X.cell 63 (by omega)
      obtain ⟨s, hs⟩ : ∃ s, a.getLsbD 63 = s := ⟨_, rfl⟩
      rw [hs] at hca
      have HS := Lib.hid hs
      clear hs
      have O1 := (O.set (k := k) s)
      have X1 := X.but (but_setCell wr go k (.bool s)) (by omega)
      have hco1 := O1.cell k hm
      have hfo1 := O1.frozen k
      by_cases hkn : k + n < 64
      · have hc := X1.cell (k + n) hkn
        obtain ⟨z, hz⟩ : ∃ z, a.getLsbD (k + n) = z := ⟨_, rfl⟩
        rw [hz] at hc
        have HZ := Lib.hid hz
        clear hz
        have HK : Hid (z = t.getLsbD k) := Lib.hid (by
          rw [← HZ.out, ← HT.out, BitVec.getLsbD_sshiftRight, decide_eq_false (show ¬ 64 ≤ k by omega), if_pos (show n + k < 64 by omega), Nat.add_comm]; rfl)
        have hlt : (k : Int) + (n : Int) < 64 := by omega
        go_wp2_with fail
        go_roundw
        case rel =>
          refine ⟨k + 1, by omega, by simp, X1.but (but_setCell _ go _ _) (by omega), (O1.set _).congr (fun j _ => ?_), ((but_setCell wr go _ _).trans' (but_setCell _ go _ _)).under C C.size o3⟩
          rw [HK.out]; exact part_twice k t _ j
        case measure => simp [intOf]; omega
      · have HK : Hid (s = t.getLsbD k) := Lib.hid (by
          rw [← HS.out, ← HT.out, BitVec.getLsbD_sshiftRight, decide_eq_false (show ¬ 64 ≤ k by omega), if_neg (show ¬ n + k < 64 by omega), BitVec.msb_eq_getLsbD_last]; rfl)
        have hlt : ¬ (k : Int) + (n : Int) < 64 := by omega
        go_wp2_with fail
        go_roundw
        case rel =>
          refine ⟨k + 1, by omega, by simp, X1, O1.congr (fun j _ => ?_), (but_setCell wr go _ _).under C C.size o3⟩
          rw [HK.out]; exact part_step k t j
        case measure => simp [intOf]; omega

set_option maxHeartbeats 1000000 in
set_option maxRecDepth 100000 in
theorem refDo_10b (x y : Int) (a b : B64) (w : World) (HA : Hid (BitVec.ofInt 64 x = a)) (HB : Hid (BitVec.ofInt 64 y = b)) (hb63 : b.getLsbD 63 = false) (hy : ¬ y < 64) (t : B64) (v : Int) (HT : Hid (a.sshiftRight 64 = t)) (HV : Hid (t.toInt = v)) :
    Calls Tryd.prog 12 #[.int .i64 10, .int .i64 x, .int .i64 y] w fun e w' => e = .returned (.tuple #[.int .i64 v, .int .i64 0]) ∧ Below w.heap.size w w' := by
  go_enter Tryd.func12, Tryd.ntmps12
  go_wp2_with fail
  refine (from_to x a _ HA).mono ?_
  rintro e w1 ⟨rfl, B1⟩
  go_wp2_with (first | (refine wpList_alloc44 rfl rfl ?_; intro ga w2 H2 A2 B2; refine wpList_store44 rfl _ _ rfl ga a.getLsbD rfl rfl noF A2 ?_; intro w3 A3 B3; refine Hid.out ?_))
  have e2 := H2.out
  have s1 := B1.size
  have s2 := B2.size
  have o0 : w.heap.size ≤ ga := by omega
  have C3 := B3.under (B1.trans (B2.mono s1)) (by omega) o0
  have l3 := A3.lt
  clear A2 B1 B2 B3 H2 e2 s1 s2
  refine Lib.hid ?_
  go_wp2_with fail
  refine (from_to y b _ HB).mono ?_
  rintro e w4 ⟨rfl, B4⟩
  go_wp2_with (first | (refine wpList_alloc44 rfl rfl ?_; intro gb w5 H5 A5 B5; refine wpList_store44 rfl _ _ rfl gb b.getLsbD rfl rfl noF A5 ?_; intro w6 A6 B6; refine Hid.out ?_))
  have e5 := H5.out
  have s4 := B4.size
  have s5 := B5.size
  have o1 : ga < gb := by omega
  have X6 := ((A3.below B4).below B5).but B6 (by omega)
  have C6 := B6.under ((C3.trans (B4.mono C3.size)).trans (B5.mono (Nat.le_trans C3.size s4))) (by have := C3.size; omega) (by omega)
  have l6 := A6.lt
  clear A3 A5 B4 B5 B6 H5 e5 s4 s5 l3 C3
  refine Lib.hid ?_
  go_wp2_with (first | (refine wpList_build44 rfl rfl ?_; refine wpList_alloc44 rfl rfl ?_; intro go w7 H7 A7 B7; refine wpList_store44 rfl _ _ rfl go noF rfl rfl noF A7 ?_; intro w8 O B8; refine Hid.out ?_))
  have e7 := H7.out
  have s7 := B7.size
  have o2 : gb < go := by omega
  have X := (X6.below B7).but B8 (by omega)
  have Y := (A6.below B7).but B8 (by omega)
  have C := B8.under (C6.trans (B7.mono C6.size)) (by have := C6.size; omega) (by omega)
  have o3 : w.heap.size ≤ go := by omega
  clear X6 A6 A7 B7 B8 H7 e7 s7 l6 C6
  refine Lib.hid ?_
  have hc63 := Y.cell 63 (by omega)
  rw [hb63] at hc63
  go_wp2_with fail
  go_loopw [16] (fun i wr => ShRel w ga go a t i wr) (fun i _ => (64 - intOf i).toNat)
  case atStart => exact ⟨0, by omega, rfl, X, O.congr (part_zero t), C⟩
  case round =>
    clear X Y O C hc63
    obtain ⟨k, hk, rfl, X, O, C⟩ := hrel
    by_cases h : k = 64
    · subst h
      have O' := O.congr (part_full t)
      clear O
      go_wp2_with (first | (refine wpList_load44 rfl _ rfl go rfl t.getLsbD O' ?_) | (go_at_call 39; refine (toInt_to t v _ HV).mono ?_; rintro e w20 ⟨rfl, B20⟩))
      go_ret2
      exact ⟨rfl, C.trans (B20.mono C.size)⟩
    · have hm : k < 64 := by omega
      have hm' : (k : Int) < 64 := by omega
      have hco := O.cell k hm
      have hfo := O.frozen k
      have hca := X.cell 63 (by omega)
      have O1 := (O.set (k := k) (a.getLsbD 63))
      have X1 := X.but (but_setCell wr go k (.bool (a.getLsbD 63))) (by omega)
      have HK : Hid (a.getLsbD 63 = t.getLsbD k) := Lib.hid (by
        rw [← HT.out, BitVec.getLsbD_sshiftRight, decide_eq_false (show ¬ 64 ≤ k by omega), if_neg (show ¬ 64 + k < 64 by omega), BitVec.msb_eq_getLsbD_last]; rfl)
      have hlt : ¬ (k : Int) + 64 < 64 := by omega
      go_wp2_with fail
      go_roundw
      case rel =>
        refine ⟨k + 1, by omega, by simp, X1, O1.congr (fun j _ => ?_), (but_setCell wr go _ _).under C C.size o3⟩
        rw [HK.out]; exact part_step k t j
      case measure => simp [intOf]; omega

end Go.Proofs.YtgdchlgepgbhhaaDoor
