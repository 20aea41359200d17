/-
  CONTRACTS: what the reference's functions on 64 bits answer: not, left, add, neg, size, From and To, in terms of bit vectors; of what was there nothing has turned. Conditions: as each states them.
-/
import Derived.Test.YtgdchlgepgbhhaaDoorBits
namespace Go.Proofs.YtgdchlgepgbhhaaDoor
open Go.RowKit

abbrev B64 : Type := BitVec 64
/-- The bits below k, and none above. -/
def part (k : Nat) (v : B64) : Nat → Bool := fun j => decide (j < k) && v.getLsbD j
theorem part_zero (v : B64) (j : Nat) (_ : j < 64) : noF j = part 0 v j := by simp [part]
theorem part_full (v : B64) (j : Nat) (h : j < 64) : part 64 v j = v.getLsbD j := by simp [part, h]
theorem part_step (k : Nat) (v : B64) (j : Nat) : (if j = k then v.getLsbD k else part k v j) = part (k + 1) v j := by
  unfold part
  by_cases h : j = k
  · subst h; simp
  · rw [if_neg h]
    congr 1
    simp; omega

/-! not -/
def NotRel (w : World) (g r : Nat) (v : B64) (i : Value) (wr : World) : Prop :=
  ∃ k : Nat, k ≤ 64 ∧ i = .int .i64 k ∧ Bs wr g (fun j => if j < k then !v.getLsbD j else v.getLsbD j) ∧ Bs wr r noF ∧ Below w.heap.size w wr
set_option maxHeartbeats 400000 in
theorem not_any (v : B64) (w : World) : Calls Tryd.prog 32 #[.agg (encF v.getLsbD)] w fun e w' => e = .returned (.agg (encF (~~~v).getLsbD)) ∧ Below w.heap.size w w' := by
  go_enter Tryd.func32, Tryd.ntmps32
  go_wp2_with (first | (refine wpList_box44 rfl _ rfl v.getLsbD rfl ?_; intro g w1 HG A1 B1; refine wpList_alloc44 rfl rfl ?_; intro r w2 HR A2 B2; refine Hid.out ?_))
  have A1' := A1.below B2
  have B12 := B1.trans (B2.mono B1.size)
  have hgr : g ≠ r := by have := A1.lt; have := HR.out; omega
  have hg : w.heap.size ≤ g := by have := HG.out; omega
  have hr : w.heap.size ≤ r := by have := HR.out; have := B1.size; omega
  clear A1 B1 B2
  refine Lib.hid ?_
  go_wp2_with fail
  go_loopw [3] (fun i wr => NotRel w g r v i wr) (fun i _ => 64 - (intOf i).toNat)
  case atStart => exact ⟨0, by omega, rfl, A1'.congr (by intro j _; rfl), A2, B12⟩
  case round =>
    obtain ⟨k, hk, rfl, A, R, B⟩ := hrel
    by_cases hlt : k < 64
    · have hc := A.cell k hlt
      have hf := A.frozen k
      simp only [Nat.lt_irrefl, if_false] at hc
      have hlt' : (k : Int) < 64 := by omega
      go_wp2_with fail
      go_roundw
      case rel =>
        refine ⟨k + 1, by omega, by go_num, (A.set _).congr ?_, R.but (but_setCell wr g k _) (Ne.symm hgr), (but_setCell wr g k _).under B B.size hg⟩
        intro j _
        by_cases e : j = k
        · subst e; rw [if_pos rfl, if_pos (by omega), BitVec.getLsbD_eq_getElem hlt]
        · rw [if_neg e]
          by_cases l : j < k
          · rw [if_pos l, if_pos (by omega)]
          · rw [if_neg l, if_neg (by omega)]
      case measure => simp [intOf]; omega
    · obtain rfl : k = 64 := by omega
      have A3 : Bs wr g (~~~v).getLsbD := A.congr fun j hj => by rw [if_pos hj, BitVec.getLsbD_not, decide_eq_true hj, Bool.true_and]
      clear A
      go_wp2_with (first | (refine wpList_load44 rfl _ rfl g rfl (~~~v).getLsbD A3 ?_; refine wpList_store44 rfl _ _ rfl r (~~~v).getLsbD rfl rfl noF R ?_; intro w3 A4 B3))
      exact bodyPost_ret (v := .agg (encF (~~~v).getLsbD)) (results44 rfl _ w3 r _ rfl A4) rfl ⟨rfl, B3.under B B.size hr⟩

/-! left -/
def LeftRel (w : World) (g r o n : Nat) (v : B64) (i : Value) (wr : World) : Prop :=
  ∃ k : Nat, k + n ≤ 64 ∧ i = .int .i64 k ∧ Bs wr g v.getLsbD ∧ Bs wr r noF ∧ Bs wr o (part (k + n) (v <<< n)) ∧ Below w.heap.size w wr
set_option maxHeartbeats 400000 in
theorem left_any (v : B64) (n : Nat) (hn : n ≤ 64) (w : World) : Calls Tryd.prog 33 #[.agg (encF v.getLsbD), .int .i64 n] w fun e w' => e = .returned (.agg (encF (v <<< n).getLsbD)) ∧ Below w.heap.size w w' := by
  go_enter Tryd.func33, Tryd.ntmps33
  go_wp2_with (first | (refine wpList_box44 rfl _ rfl v.getLsbD rfl ?_; intro g w1 HG A1 B1; refine wpList_alloc44 rfl rfl ?_; intro r w2 HR A2 B2) | (refine wpList_build44 rfl rfl ?_; refine wpList_alloc44 rfl rfl ?_; intro o w3 HO A3 B3; refine wpList_store44 rfl _ _ rfl o noF rfl rfl noF A3 ?_; intro w4 A4 B4; refine Hid.out ?_))
  have s1 := B1.size
  have s2 := B2.size
  have s3 := B3.size
  have s4 := B4.size
  have l1 := A1.lt
  have l2 := A2.lt
  have l3 := A3.lt
  have e1 := HG.out
  have e2 := HR.out
  have e3 := HO.out
  have hgo : g ≠ o := by omega
  have hro : r ≠ o := by omega
  have hr : w.heap.size ≤ r := by omega
  have ho : w.heap.size ≤ o := by omega
  have G := ((A1.below B2).below B3).but B4 hgo
  have R := (A2.below B3).but B4 hro
  have B := B4.under ((B1.trans (B2.mono s1)).trans (B3.mono (by omega))) (by omega) ho
  clear A1 A2 A3 B1 B2 B3 B4 s1 s2 s3 s4 l1 l2 l3 e1 e2 e3 HG HR HO
  refine Lib.hid ?_
  go_wp2_with fail
  go_loopw [6] (fun i wr => LeftRel w g r o n v i wr) (fun i _ => 64 - (intOf i).toNat)
  case atStart =>
    refine ⟨0, by omega, rfl, G, R, A4.congr ?_, B⟩
    intro j hj
    unfold part
    rw [BitVec.getLsbD_shiftLeft]
    by_cases h : j < 0 + n
    · rw [decide_eq_true (show j < n by omega)]; simp only [Bool.not_true, Bool.and_false, Bool.false_and]
    · rw [decide_eq_false h, Bool.false_and]
  case round =>
    obtain ⟨k, hk, rfl, G, R, O, B⟩ := hrel
    by_cases hlt : k + n < 64
    · have hc := G.cell k (by omega)
      have hc2 := O.cell (k + n) hlt
      have hf := O.frozen (k + n)
      have hlt' : (k : Int) + (n : Int) < 64 := by omega
      have hv : v.getLsbD k = (v <<< n).getLsbD (k + n) := by
        rw [BitVec.getLsbD_shiftLeft, decide_eq_true hlt, decide_eq_false (show ¬ k + n < n by omega), Nat.add_sub_cancel]; rfl
      have HV := Lib.hid hv
      clear hv
      go_wp2_with fail
      go_roundw
      case rel =>
        refine ⟨k + 1, by omega, by go_num, G.but (but_setCell wr o _ _) hgo, R.but (but_setCell wr o _ _) hro, (O.set _).congr ?_, (but_setCell wr o _ _).under B B.size ho⟩
        intro j _
        rw [HV.out, part_step, show k + n + 1 = k + 1 + n by omega]
      case measure => simp [intOf]; omega
    · have hge : ¬ (k : Int) + (n : Int) < 64 := by omega
      have O3 : Bs wr o (v <<< n).getLsbD := O.congr fun j hj => by
        rw [show k + n = 64 by omega]; exact part_full _ j hj
      clear O
      go_wp2_with (first | (refine wpList_load44 rfl _ rfl o rfl (v <<< n).getLsbD O3 ?_; refine wpList_store44 rfl _ _ rfl r (v <<< n).getLsbD rfl rfl noF R ?_; intro w3 A4 B3))
      exact bodyPost_ret (v := .agg (encF (v <<< n).getLsbD)) (results44 rfl _ w3 r _ rfl A4) rfl ⟨rfl, B3.under B B.size hr⟩

/-! add -/
def AddRel (w : World) (g h r o : Nat) (a b : B64) (c : Bool) (i cr : Value) (wr : World) : Prop :=
  ∃ k : Nat, k ≤ 64 ∧ i = .int .i64 k ∧ cr = .bool (BitVec.carry k a b c) ∧ Bs wr g a.getLsbD ∧ Bs wr h b.getLsbD ∧ Bs wr r noF ∧ Bs wr o (part k (a + b + BitVec.setWidth 64 (BitVec.ofBool c))) ∧ Below w.heap.size w wr
/-- What one round of the sum stores and carries. -/
theorem add_bit (a b : B64) (c : Bool) (k : Nat) (hk : k < 64) (x y z s t : Bool) (hx : a.getLsbD k = x) (hy : b.getLsbD k = y) (hz : BitVec.carry k a b c = z)
    (hs : (x ^^ (y ^^ z)) = s) (ht : Bool.atLeastTwo x y z = t) : (a + b + BitVec.setWidth 64 (BitVec.ofBool c)).getLsbD k = s ∧ BitVec.carry (k + 1) a b c = t := by
  rw [BitVec.getLsbD_add_add_bool hk, BitVec.carry_succ, hx, hy, hz]
  exact ⟨hs, ht⟩
set_option maxHeartbeats 1000000 in
theorem add_any (a b : B64) (c : Bool) (w : World) : Calls Tryd.prog 31 #[.agg (encF a.getLsbD), .agg (encF b.getLsbD), .bool c] w fun e w' => e = .returned (.agg (encF (a + b + BitVec.setWidth 64 (BitVec.ofBool c)).getLsbD)) ∧ Below w.heap.size w w' := by
  obtain ⟨t, ht⟩ : ∃ t : B64, a + b + BitVec.setWidth 64 (BitVec.ofBool c) = t := ⟨_, rfl⟩
  rw [ht]
  have HT := Lib.hid ht
  clear ht
  go_enter Tryd.func31, Tryd.ntmps31
  go_wp2_with (first | (refine wpList_box44 rfl _ rfl a.getLsbD rfl ?_; intro g w1 HG A1 B1; refine wpList_box44 rfl _ rfl b.getLsbD rfl ?_; intro h w2 HH A2 B2; refine wpList_alloc44 rfl rfl ?_; intro r w3 HR A3 B3) | (refine wpList_build44 rfl rfl ?_; refine wpList_alloc44 rfl rfl ?_; intro o w4 HO A4 B4; refine wpList_store44 rfl _ _ rfl o noF rfl rfl noF A4 ?_; intro w5 A5 B5; refine Hid.out ?_))
  have s1 := B1.size
  have s2 := B2.size
  have s3 := B3.size
  have s4 := B4.size
  have s5 := B5.size
  have l1 := A1.lt
  have l2 := A2.lt
  have l3 := A3.lt
  have l4 := A4.lt
  have e1 := HG.out
  have e2 := HH.out
  have e3 := HR.out
  have e4 := HO.out
  have hgo : g ≠ o := by omega
  have hho : h ≠ o := by omega
  have hro : r ≠ o := by omega
  have hr : w.heap.size ≤ r := by omega
  have ho : w.heap.size ≤ o := by omega
  have G := (((A1.below B2).below B3).below B4).but B5 hgo
  have H := ((A2.below B3).below B4).but B5 hho
  have R := (A3.below B4).but B5 hro
  have B := B5.under (((B1.trans (B2.mono s1)).trans (B3.mono (by omega))).trans (B4.mono (by omega))) (by omega) ho
  clear A1 A2 A3 A4 B1 B2 B3 B4 B5 s1 s2 s3 s4 s5 l1 l2 l3 l4 e1 e2 e3 e4 HG HH HR HO
  refine Lib.hid ?_
  go_wp2_with fail
  go_loopw [8, 2] (fun i cr wr => AddRel w g h r o a b c i cr wr) (fun i _ _ => 64 - (intOf i).toNat)
  case atStart => exact ⟨0, by omega, rfl, by rw [BitVec.carry_zero], G, H, R, A5.congr (fun j hj => part_zero _ j hj), B⟩
  case round =>
    obtain ⟨k, hk, rfl, rfl, G, H, R, O, B⟩ := hrel
    by_cases hlt : k < 64
    · have hc1 := G.cell k hlt
      have hc2 := H.cell k hlt
      have hc3 := O.cell k hlt
      have hf := O.frozen k
      have hlt' : (k : Int) < 64 := by omega
      obtain ⟨x, hx⟩ : ∃ x, a.getLsbD k = x := ⟨_, rfl⟩
      obtain ⟨y, hy⟩ : ∃ y, b.getLsbD k = y := ⟨_, rfl⟩
      obtain ⟨z, hz⟩ : ∃ z, BitVec.carry k a b c = z := ⟨_, rfl⟩
      have hb := add_bit a b c k hlt x y z _ _ hx hy hz rfl rfl
      rw [hx] at hc1
      rw [hy] at hc2
      rw [hz]
      have HB := Lib.hid hb
      clear hb hx hy hz
      cases x <;> cases y <;> cases z
      all_goals
        go_wp2_with fail
        go_roundw
        case rel =>
          refine ⟨k + 1, by omega, by go_num, by rw [HB.out.2]; rfl, G.but (but_setCell wr o _ _) hgo, H.but (but_setCell wr o _ _) hho, R.but (but_setCell wr o _ _) hro, (O.set _).congr ?_, (but_setCell wr o _ _).under B B.size ho⟩
          intro j _
          rw [← part_step, HB.out.1]; rfl
        case measure => simp [intOf]; omega
    · obtain rfl : k = 64 := by omega
      have O3 : Bs wr o t.getLsbD := O.congr fun j hj => by rw [HT.out]; exact part_full _ j hj
      clear O
      go_wp2_with (first | (refine wpList_load44 rfl _ rfl o rfl t.getLsbD O3 ?_; refine wpList_store44 rfl _ _ rfl r t.getLsbD rfl rfl noF R ?_; intro w3 A4 B3))
      exact bodyPost_ret (v := .agg (encF t.getLsbD)) (results44 rfl _ w3 r _ rfl A4) rfl ⟨rfl, B3.under B B.size hr⟩

theorem not_to (v t : B64) (w : World) (h : Hid (~~~v = t)) : Calls Tryd.prog 32 #[.agg (encF v.getLsbD)] w fun e w' => e = .returned (.agg (encF t.getLsbD)) ∧ Below w.heap.size w w' := by
  have h' := h.out
  subst h'
  exact not_any v w
theorem add_to (a b t : B64) (c : Bool) (w : World) (h : Hid (a + b + BitVec.setWidth 64 (BitVec.ofBool c) = t)) : Calls Tryd.prog 31 #[.agg (encF a.getLsbD), .agg (encF b.getLsbD), .bool c] w fun e w' => e = .returned (.agg (encF t.getLsbD)) ∧ Below w.heap.size w w' := by
  have h' := h.out
  subst h'
  exact add_any a b c w
theorem left_to (v t : B64) (n : Nat) (hn : n ≤ 64) (w : World) (h : Hid (v <<< n = t)) : Calls Tryd.prog 33 #[.agg (encF v.getLsbD), .int .i64 n] w fun e w' => e = .returned (.agg (encF t.getLsbD)) ∧ Below w.heap.size w w' := by
  have h' := h.out
  subst h'
  exact left_any v n hn w
theorem noF_zero : encF noF = encF (0#64).getLsbD := encF_congr fun j _ => by simp

/-! neg -/
set_option maxHeartbeats 400000 in
theorem neg_any (v : B64) (w : World) : Calls Tryd.prog 36 #[.agg (encF v.getLsbD)] w fun e w' => e = .returned (.agg (encF (-v).getLsbD)) ∧ Below w.heap.size w w' := by
  obtain ⟨n, hn⟩ : ∃ n : B64, ~~~v = n := ⟨_, rfl⟩
  obtain ⟨t, ht⟩ : ∃ t : B64, -v = t := ⟨_, rfl⟩
  have hs : n + 0#64 + BitVec.setWidth 64 (BitVec.ofBool true) = t := by
    rw [← hn, ← ht, BitVec.neg_eq_not_add, BitVec.add_zero]; rfl
  rw [ht]
  have HN := Lib.hid hn
  have HS := Lib.hid hs
  clear hn hs ht
  go_enter Tryd.func36, Tryd.ntmps36
  go_wp2_with (first | (refine wpList_box44 rfl _ rfl v.getLsbD rfl ?_; intro g w1 HG A1 B1; refine wpList_alloc44 rfl rfl ?_; intro r w2 HR A2 B2; refine Hid.out ?_))
  have s1 := B1.size
  have s2 := B2.size
  have e1 := HG.out
  have e2 := HR.out
  have hr : w.heap.size ≤ r := by omega
  have G := A1.below B2
  have B := B1.trans (B2.mono s1)
  clear A1 B1 B2 s1 s2 e1 e2 HG HR
  refine Lib.hid ?_
  go_wp2_with (first | (refine wpList_load44 rfl _ rfl g rfl v.getLsbD G ?_))
  refine (not_to v n _ HN).mono ?_
  rintro e w3 ⟨rfl, B3⟩
  have R3 := A2.below B3
  have C3 := B.trans (B3.mono B.size)
  clear B3 B G A2
  go_wp2_with (first | (refine wpList_build44 rfl rfl ?_; rw [noF_zero]))
  refine (add_to n 0#64 t true _ HS).mono ?_
  rintro e w4 ⟨rfl, B4⟩
  have R4 := R3.below B4
  have C4 := C3.trans (B4.mono C3.size)
  clear B4 C3 R3
  go_wp2_with (first | (refine wpList_store44 rfl _ _ rfl r t.getLsbD rfl rfl noF R4 ?_; intro w5 A5 B5))
  exact bodyPost_ret (v := .agg (encF t.getLsbD)) (results44 rfl _ w5 r _ rfl A5) rfl ⟨rfl, B5.under C4 C4.size hr⟩
theorem neg_to (v t : B64) (w : World) (h : Hid (-v = t)) : Calls Tryd.prog 36 #[.agg (encF v.getLsbD)] w fun e w' => e = .returned (.agg (encF t.getLsbD)) ∧ Below w.heap.size w w' := by
  have h' := h.out
  subst h'
  exact neg_any v w

/-! size -/
def sizeV (v : B64) : B64 := if v.getLsbD 63 = true then -v else v
set_option maxHeartbeats 400000 in
theorem size_any (v : B64) (w : World) : Calls Tryd.prog 35 #[.agg (encF v.getLsbD)] w fun e w' => e = .returned (.agg (encF (sizeV v).getLsbD)) ∧ Below w.heap.size w w' := by
  cases hb : v.getLsbD 63
  · have hs : sizeV v = v := by unfold sizeV; rw [hb]; rfl
    rw [hs]
    have HB := Lib.hid hb
    clear hs hb
    go_enter Tryd.func35, Tryd.ntmps35
    go_wp2_with (first | (refine wpList_box44 rfl _ rfl v.getLsbD rfl ?_; intro g w1 HG A1 B1; refine wpList_alloc44 rfl rfl ?_; intro r w2 HR A2 B2; refine Hid.out ?_))
    have s1 := B1.size
    have s2 := B2.size
    have e1 := HG.out
    have e2 := HR.out
    have hr : w.heap.size ≤ r := by omega
    have G := A1.below B2
    have B := B1.trans (B2.mono s1)
    clear A1 B1 B2 s1 s2 e1 e2 HG HR
    have hc := G.cell 63 (by omega)
    rw [HB.out] at hc
    clear HB
    refine Lib.hid ?_
    go_wp2_with (first | (refine wpList_load44 rfl _ rfl g rfl v.getLsbD G ?_; refine wpList_store44 rfl _ _ rfl r v.getLsbD rfl rfl noF A2 ?_; intro w3 A4 B3))
    exact bodyPost_ret (v := .agg (encF v.getLsbD)) (results44 rfl _ w3 r _ rfl A4) rfl ⟨rfl, B3.under B B.size hr⟩
  · obtain ⟨t, ht⟩ : ∃ t : B64, -v = t := ⟨_, rfl⟩
    have hs : sizeV v = t := by unfold sizeV; rw [hb, if_pos rfl]; exact ht
    rw [hs]
    have HT := Lib.hid ht
    have HB := Lib.hid hb
    clear hs ht hb
    go_enter Tryd.func35, Tryd.ntmps35
    go_wp2_with (first | (refine wpList_box44 rfl _ rfl v.getLsbD rfl ?_; intro g w1 HG A1 B1; refine wpList_alloc44 rfl rfl ?_; intro r w2 HR A2 B2; refine Hid.out ?_))
    have s1 := B1.size
    have s2 := B2.size
    have e1 := HG.out
    have e2 := HR.out
    have hr : w.heap.size ≤ r := by omega
    have G := A1.below B2
    have B := B1.trans (B2.mono s1)
    clear A1 B1 B2 s1 s2 e1 e2 HG HR
    have hc := G.cell 63 (by omega)
    rw [HB.out] at hc
    clear HB
    refine Lib.hid ?_
    go_wp2_with (first | (refine wpList_load44 rfl _ rfl g rfl v.getLsbD G ?_))
    refine (neg_to v t _ HT).mono ?_
    rintro e w3 ⟨rfl, B3⟩
    have R3 := A2.below B3
    have C3 := B.trans (B3.mono B.size)
    clear B3 B G A2 hc
    go_wp2_with (first | (refine wpList_store44 rfl _ _ rfl r t.getLsbD rfl rfl noF R3 ?_; intro w4 A4 B4))
    exact bodyPost_ret (v := .agg (encF t.getLsbD)) (results44 rfl _ w4 r _ rfl A4) rfl ⟨rfl, B4.under C3 C3.size hr⟩
theorem size_to (v t : B64) (w : World) (h : Hid (sizeV v = t)) : Calls Tryd.prog 35 #[.agg (encF v.getLsbD)] w fun e w' => e = .returned (.agg (encF t.getLsbD)) ∧ Below w.heap.size w w' := by
  have h' := h.out
  subst h'
  exact size_any v w

end Go.Proofs.YtgdchlgepgbhhaaDoor
