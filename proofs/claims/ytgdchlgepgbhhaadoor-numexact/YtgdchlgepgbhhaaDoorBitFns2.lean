/-
  CONTRACTS: what the reference's From, To, below and less answer, in terms of bit vectors; of what was there nothing has turned. Conditions: as each states them.
-/
import Derived.Test.YtgdchlgepgbhhaaDoorBitFns
import Derived.Deep.QuietTactic
import Derived.BigQuiet
namespace Go.Proofs.YtgdchlgepgbhhaaDoor
open Go.RowKit

theorem ret_bits {a b : Int} (h : a = b) : Ending.returned (.int .i64 a) = .returned (.int .i64 b) := by rw [h]
theorem bit_div (n k : Nat) : (n / 2 ^ k % 2 == 1) = n.testBit k := by
  rw [Nat.testBit_eq_decide_div_mod_eq]
  by_cases h : n / 2 ^ k % 2 = 1
  · simp [h]
  · simp [h]

theorem half_u (m : Nat) (h : m < 18446744073709551616) : IntKind.u64.wrap ((m : Int).tdiv 2) = ((m / 2 : Nat) : Int) := by
  rw [Int.tdiv_eq_ediv_of_nonneg (by omega), show IntKind.u64.wrap ((m : Int) / 2) = ((m : Int) / 2) % 18446744073709551616 from rfl]
  omega
theorem odd_u (m : Nat) : ((m : Int) % 2 == 1) = (m % 2 == 1) := by
  by_cases h : m % 2 = 1
  · rw [show ((m : Int) % 2) = 1 by omega, h]; rfl
  · rw [show m % 2 = 0 by omega, show ((m : Int) % 2) = 0 by omega]; rfl
theorem quo_lt (v : B64) (k : Nat) : v.toNat / 2 ^ k < 18446744073709551616 := Nat.lt_of_le_of_lt (Nat.div_le_self _ _) v.isLt

/-! From -/
def FromRel (w : World) (r o : Nat) (x : Int) (u i : Value) (wr : World) : Prop :=
  ∃ (k : Nat) (a : Int), k ≤ 64 ∧ i = .int .i64 k ∧ u = .int .u64 a ∧ 0 ≤ a ∧ Hid (a = ((BitVec.ofInt 64 x).toNat / 2 ^ k : Nat)) ∧ Bs wr r noF ∧ Bs wr o (part k (BitVec.ofInt 64 x)) ∧ Below w.heap.size w wr
set_option maxHeartbeats 400000 in
theorem from_any (x : Int) (w : World) : Calls Tryd.prog 30 #[.int .i64 x] w fun e w' => e = .returned (.agg (encF (BitVec.ofInt 64 x).getLsbD)) ∧ Below w.heap.size w w' := by
  obtain ⟨v, hv⟩ : ∃ v : B64, BitVec.ofInt 64 x = v := ⟨_, rfl⟩
  rw [hv]
  have HV := Lib.hid hv
  clear hv
  go_enter Tryd.func30, Tryd.ntmps30
  go_wp2_with (first | (refine wpList_alloc44 rfl rfl ?_; intro r w1 HR A1 B1; refine Hid.out ?_))
  refine Lib.hid ?_
  go_wp2_with (first | (refine wpList_build44 rfl rfl ?_; refine wpList_alloc44 rfl rfl ?_; intro o w2 HO A2 B2; refine wpList_store44 rfl _ _ rfl o noF rfl rfl noF A2 ?_; intro w3 A3 B3; refine Hid.out ?_))
  have s1 := B1.size
  have s2 := B2.size
  have s3 := B3.size
  have l1 := A1.lt
  have l2 := A2.lt
  have e1 := HR.out
  have e2 := HO.out
  have hro : r ≠ o := by omega
  have hr : w.heap.size ≤ r := by omega
  have ho : w.heap.size ≤ o := by omega
  have R := (A1.below B2).but B3 hro
  have B := B3.under (B1.trans (B2.mono s1)) (by omega) ho
  clear A1 A2 B1 B2 B3 s1 s2 s3 l1 l2 e1 e2 HR HO
  refine Lib.hid ?_
  go_wp2_with fail
  go_loopw [4, 5] (fun u i wr => FromRel w r o x u i wr) (fun _ i _ => 64 - (intOf i).toNat)
  case atStart =>
    refine ⟨0, _, by omega, rfl, rfl, ?_, ?_, R, A3.congr (fun j hj => part_zero _ j hj), B⟩
    · show 0 ≤ x % 18446744073709551616; omega
    · show x % 18446744073709551616 = _
      rw [Nat.pow_zero, Nat.div_one, BitVec.toNat_ofInt]
      show x % 18446744073709551616 = ((x % 18446744073709551616).toNat : Int)
      omega
  case round =>
    obtain ⟨k, a, hk, rfl, rfl, ha, HA, R, O, B⟩ := hrel
    by_cases hlt : k < 64
    · have hc := O.cell k hlt
      have hf := O.frozen k
      have hlt' : (k : Int) < 64 := by omega
      go_wp2_with fail
      go_roundw
      case rel =>
        have hq := quo_lt (BitVec.ofInt 64 x) k
        have hm := HA.out
        have hbt := bit_div (BitVec.ofInt 64 x).toNat k
        rw [BitVec.testBit_toNat] at hbt
        have hnx : (BitVec.ofInt 64 x).toNat / 2 ^ (k + 1) = (BitVec.ofInt 64 x).toNat / 2 ^ k / 2 := by rw [Nat.pow_succ, ← Nat.div_div_eq_div_mul]
        generalize (BitVec.ofInt 64 x).toNat / 2 ^ k = m at hq hm hbt hnx
        subst hm
        refine ⟨k + 1, _, by omega, by go_num, rfl, by rw [half_u m hq]; omega, by show _ = _; rw [half_u m hq, hnx], R.but (but_setCell wr o _ _) hro, (O.set _).congr ?_, (but_setCell wr o _ _).under B B.size ho⟩
        intro j _
        rw [← part_step, odd_u, hbt]
      case measure => simp [intOf]; omega
    · obtain rfl : k = 64 := by omega
      have O3 : Bs wr o v.getLsbD := O.congr fun j hj => by rw [HV.out]; exact part_full _ j hj
      clear O
      go_wp2_with (first | (refine wpList_load44 rfl _ rfl o rfl v.getLsbD O3 ?_; refine wpList_store44 rfl _ _ rfl r v.getLsbD rfl rfl noF R ?_; intro w3 A4 B3))
      exact bodyPost_ret (v := .agg (encF v.getLsbD)) (results44 rfl _ w3 r _ rfl A4) rfl ⟨rfl, B3.under B B.size hr⟩
theorem from_to (x : Int) (v : B64) (w : World) (h : Hid (BitVec.ofInt 64 x = v)) : Calls Tryd.prog 30 #[.int .i64 x] w fun e w' => e = .returned (.agg (encF v.getLsbD)) ∧ Below w.heap.size w w' := by
  have h' := h.out
  subst h'
  exact from_any x w

/-! To -/
def ToRel (w : World) (g : Nat) (v : B64) (u i : Value) (wr : World) : Prop :=
  ∃ (k : Nat) (a : Int), k ≤ 64 ∧ i = .int .i64 ((k : Int) - 1) ∧ u = .int .u64 a ∧ 0 ≤ a ∧ Hid (a = (v.toNat / 2 ^ k : Nat)) ∧ Bs wr g v.getLsbD ∧ Below w.heap.size w wr
theorem to_step (v : B64) (k : Nat) (a : Int) (h : a = (v.toNat / 2 ^ (k + 1) : Nat)) (b : Bool) (hb : v.getLsbD k = b) :
    IntKind.u64.wrap (a * 2) + (if b = true then 1 else 0) = (v.toNat / 2 ^ k : Nat) ∧ 0 ≤ IntKind.u64.wrap (a * 2) ∧ IntKind.u64.wrap (IntKind.u64.wrap (a * 2) + 1) = IntKind.u64.wrap (a * 2) + 1 := by
  have h1 := bit_div v.toNat k
  rw [BitVec.testBit_toNat, hb] at h1
  have h2 : v.toNat / 2 ^ (k + 1) = v.toNat / 2 ^ k / 2 := by rw [Nat.pow_succ, ← Nat.div_div_eq_div_mul]
  have h3 := quo_lt v k
  rw [h2] at h
  generalize v.toNat / 2 ^ k = m at h h1 h3
  have e1 : IntKind.u64.wrap (a * 2) = (a * 2) % 18446744073709551616 := rfl
  have e2 : IntKind.u64.wrap (IntKind.u64.wrap (a * 2) + 1) = (IntKind.u64.wrap (a * 2) + 1) % 18446744073709551616 := rfl
  have h4 : b = true ∧ m % 2 = 1 ∨ b = false ∧ m % 2 = 0 := by
    cases b
    · right; refine ⟨rfl, ?_⟩; have : ¬ m % 2 = 1 := by simpa using h1
      omega
    · left; exact ⟨rfl, by simpa using h1⟩
  rcases h4 with ⟨rfl, h4⟩ | ⟨rfl, h4⟩
  · rw [if_pos rfl, e2, e1]; omega
  · rw [if_neg (by decide), e2, e1]; omega
set_option maxHeartbeats 400000 in
theorem to_any (v : B64) (w : World) : Calls Tryd.prog 39 #[.agg (encF v.getLsbD)] w fun e w' => e = .returned (.int .i64 v.toInt) ∧ Below w.heap.size w w' := by
  obtain ⟨t, ht⟩ : ∃ t, v.toInt = t := ⟨_, rfl⟩
  rw [ht]
  have HT := Lib.hid ht
  clear ht
  go_enter Tryd.func39, Tryd.ntmps39
  go_wp2_with (first | (refine wpList_box44 rfl _ rfl v.getLsbD rfl ?_; intro g w1 HG A1 B1))
  go_loopw [3, 4] (fun u i wr => ToRel w g v u i wr) (fun _ i _ => (intOf i + 1).toNat)
  case atStart => exact ⟨64, 0, by omega, rfl, rfl, Int.le_refl _, by show _ = _; rw [Nat.div_eq_of_lt v.isLt]; rfl, A1, B1⟩
  case round =>
    obtain ⟨k, a, hk, rfl, rfl, ha, HA, G, B⟩ := hrel
    by_cases h0 : k = 0
    · subst h0
      have hfin : wrap64 a = t := by
        have := HA.out
        rw [Nat.pow_zero, Nat.div_one] at this
        rw [← HT.out, BitVec.toInt_eq_toNat_bmod, this, Int.bmod_def]
        unfold wrap64
        have := v.isLt
        split <;> omega
      have HF := Lib.hid hfin
      clear hfin
      go_wp2_with fail
      go_ret
      exact ⟨ret_bits HF.out, B⟩
    · obtain ⟨m, rfl⟩ : ∃ m, k = m + 1 := ⟨k - 1, by omega⟩
      have hc := G.cell m (by omega)
      obtain ⟨b, hb⟩ : ∃ b, v.getLsbD m = b := ⟨_, rfl⟩
      have hs := to_step v m a HA.out b hb
      rw [hb] at hc
      have HS := Lib.hid hs
      have hm : m < 64 := by omega
      rw [show (((m + 1 : Nat) : Int) - 1) = (m : Int) by omega]
      clear hs hb h0 hk
      cases b
      all_goals
        go_wp2_with fail
        go_roundw
        case rel =>
          have h3 := HS.out
          simp only [if_true, Bool.false_eq_true, if_false, Int.add_zero] at h3
          first
            | exact ⟨m, _, by omega, rfl, rfl, h3.2.1, h3.1, G, B⟩
            | exact ⟨m, _, by omega, rfl, rfl, by rw [h3.2.2]; omega, by show _ = _; rw [h3.2.2]; exact h3.1, G, B⟩
        case measure => simp [intOf]

/-! below -/
theorem lt_bit {x y : Nat} (k : Nat) (hx : x.testBit k = false) (hy : y.testBit k = true) (h : ∀ j, k < j → x.testBit j = y.testBit j) : x < y := by
  have e : x / 2 ^ (k + 1) = y / 2 ^ (k + 1) := Nat.eq_of_testBit_eq fun i => by
    rw [Nat.testBit_div_two_pow, Nat.testBit_div_two_pow]; exact h _ (by omega)
  rw [Nat.pow_succ, ← Nat.div_div_eq_div_mul, ← Nat.div_div_eq_div_mul] at e
  have b1 := bit_div x k
  have b2 := bit_div y k
  rw [hx] at b1
  rw [hy] at b2
  have c1 : ¬ x / 2 ^ k % 2 = 1 := by simpa using b1
  have c2 : y / 2 ^ k % 2 = 1 := by simpa using b2
  refine Nat.lt_of_div_lt_div (c := 2 ^ k) ?_
  generalize x / 2 ^ k = p at e c1
  generalize y / 2 ^ k = q at e c2
  omega
theorem ult_bit (a b : B64) (k : Nat) (hk : k < 64) (he : ∀ j, k < j → j < 64 → a.getLsbD j = b.getLsbD j) (hd : a.getLsbD k ≠ b.getLsbD k) : BitVec.ult a b = b.getLsbD k := by
  have hj : ∀ j, k < j → a.toNat.testBit j = b.toNat.testBit j := fun j h => by
    by_cases h64 : j < 64
    · rw [BitVec.testBit_toNat, BitVec.testBit_toNat]; exact he j h h64
    · rw [BitVec.testBit_toNat, BitVec.testBit_toNat, BitVec.getLsbD_of_ge a j (by omega), BitVec.getLsbD_of_ge b j (by omega)]
  unfold BitVec.ult
  cases hb : b.getLsbD k
  · have ha : a.getLsbD k = true := by cases h : a.getLsbD k <;> simp_all
    have := lt_bit k (by rw [BitVec.testBit_toNat]; exact hb) (by rw [BitVec.testBit_toNat]; exact ha) (fun j h => (hj j h).symm)
    simp; omega
  · have ha : a.getLsbD k = false := by cases h : a.getLsbD k <;> simp_all
    have := lt_bit k (by rw [BitVec.testBit_toNat]; exact ha) (by rw [BitVec.testBit_toNat]; exact hb) hj
    simpa using this

def BelowRel (w : World) (g h : Nat) (a b : B64) (i : Value) (wr : World) : Prop :=
  ∃ k : Nat, k ≤ 64 ∧ i = .int .i64 ((k : Int) - 1) ∧ Hid (∀ j, k ≤ j → j < 64 → a.getLsbD j = b.getLsbD j) ∧ Bs wr g a.getLsbD ∧ Bs wr h b.getLsbD ∧ Below w.heap.size w wr
set_option maxHeartbeats 400000 in
theorem below_any (a b : B64) (w : World) : Calls Tryd.prog 44 #[.agg (encF a.getLsbD), .agg (encF b.getLsbD)] w fun e w' => e = .returned (.bool (BitVec.ult a b)) ∧ Below w.heap.size w w' := by
  obtain ⟨t, ht⟩ : ∃ t, BitVec.ult a b = t := ⟨_, rfl⟩
  rw [ht]
  have HT := Lib.hid ht
  clear ht
  go_enter Tryd.func44, Tryd.ntmps44
  go_wp2_with (first | (refine wpList_box44 rfl _ rfl a.getLsbD rfl ?_; intro g w1 HG A1 B1; refine wpList_box44 rfl _ rfl b.getLsbD rfl ?_; intro h w2 HH A2 B2))
  have G := A1.below B2
  have B := B1.trans (B2.mono B1.size)
  clear A1 B1 B2 HG HH
  go_loopw [5] (fun i wr => BelowRel w g h a b i wr) (fun i _ => (intOf i + 1).toNat)
  case atStart => exact ⟨64, by omega, rfl, fun j h1 h2 => by omega, G, A2, B⟩
  case round =>
    obtain ⟨k, hk, rfl, HE, G, H, B⟩ := hrel
    by_cases h0 : k = 0
    · subst h0
      have hfin : t = false := by
        have e : a = b := BitVec.eq_of_getLsbD_eq fun j hj => HE.out j (by omega) hj
        rw [← HT.out, e]; simp [BitVec.ult]
      subst hfin
      go_wp2_with fail
      go_ret
      exact ⟨rfl, B⟩
    · obtain ⟨m, rfl⟩ : ∃ m, k = m + 1 := ⟨k - 1, by omega⟩
      have hm : m < 64 := by omega
      have hc1 := G.cell m hm
      have hc2 := H.cell m hm
      rw [show (((m + 1 : Nat) : Int) - 1) = (m : Int) by omega]
      obtain ⟨x, hx⟩ : ∃ x, a.getLsbD m = x := ⟨_, rfl⟩
      obtain ⟨y, hy⟩ : ∃ y, b.getLsbD m = y := ⟨_, rfl⟩
      rw [hx] at hc1
      rw [hy] at hc2
      have hm' : (m : Int) < 64 := by omega
      clear h0 hk
      by_cases hxy : x = y
      · subst hxy
        have HE2 : Hid (∀ j, m ≤ j → j < 64 → a.getLsbD j = b.getLsbD j) := fun j h1 h2 => by
          by_cases e : j = m
          · subst e; rw [hx, hy]
          · exact HE.out j (by omega) h2
        clear hx hy
        go_wp2_with fail
        go_quiet (fail)
        go_wp2_with fail
        go_roundw
        case rel => exact ⟨m, by omega, rfl, HE2, G.drewN _, H.drewN _, below_drewN B _⟩
        case measure => simp [intOf]
      · have hfin : t = y := by
          rw [← HT.out, ← hy]
          exact ult_bit a b m hm (fun j h1 h2 => HE.out j (by omega) h2) (by rw [hx, hy]; exact hxy)
        subst hfin
        obtain rfl : x = !t := by cases x <;> cases t <;> simp_all
        clear hx hy hxy
        cases t
        all_goals
          go_wp2_with fail
          go_quiet (fail)
          go_wp2_with fail
          go_ret
          exact ⟨rfl, below_drewN B _⟩
theorem below_to (a b : B64) (t : Bool) (w : World) (h : Hid (BitVec.ult a b = t)) : Calls Tryd.prog 44 #[.agg (encF a.getLsbD), .agg (encF b.getLsbD)] w fun e w' => e = .returned (.bool t) ∧ Below w.heap.size w w' := by
  have h' := h.out
  subst h'
  exact below_any a b w

/-! less -/
theorem less_case (x y t : Bool) (h : t = ((x != y) ^^ y)) (hxy : x ≠ y) : t = x ∧ y = !x := by
  cases x <;> cases y <;> simp_all
set_option maxHeartbeats 400000 in
theorem less_any (a b : B64) (w : World) : Calls Tryd.prog 38 #[.agg (encF a.getLsbD), .agg (encF b.getLsbD)] w fun e w' => e = .returned (.bool (BitVec.slt a b)) ∧ Below w.heap.size w w' := by
  obtain ⟨t, ht⟩ : ∃ t, BitVec.slt a b = t := ⟨_, rfl⟩
  rw [ht]
  obtain ⟨x, hx⟩ : ∃ x, a.getLsbD 63 = x := ⟨_, rfl⟩
  obtain ⟨y, hy⟩ : ∃ y, b.getLsbD 63 = y := ⟨_, rfl⟩
  have ma : a.msb = x := hx
  have mb : b.msb = y := hy
  have hs : t = ((x != y) ^^ BitVec.ult a b) := by rw [← ht, BitVec.slt_eq_ult, ma, mb]
  have hu : x ≠ y → BitVec.ult a b = y := fun h => by
    have := ult_bit a b 63 (by omega) (fun j h1 h2 => by omega) (by rw [hx, hy]; exact h)
    rw [this, hy]
  have HX := Lib.hid hx
  have HY := Lib.hid hy
  have HS := Lib.hid hs
  have HU := Lib.hid hu
  clear hx hy ma mb hs hu ht
  go_enter Tryd.func38, Tryd.ntmps38
  go_wp2_with (first | (refine wpList_box44 rfl _ rfl a.getLsbD rfl ?_; intro g w1 HG A1 B1; refine wpList_box44 rfl _ rfl b.getLsbD rfl ?_; intro h w2 HH A2 B2; refine Hid.out ?_))
  have G := A1.below B2
  have B := B1.trans (B2.mono B1.size)
  have hc1 := G.cell 63 (by omega)
  have hc2 := A2.cell 63 (by omega)
  rw [HX.out] at hc1
  rw [HY.out] at hc2
  clear A1 B1 B2 HG HH HX HY
  refine Lib.hid ?_
  by_cases hxy : x = y
  · subst hxy
    have hu : BitVec.ult a b = t := by rw [HS.out]; simp
    have HU2 := Lib.hid hu
    clear HS HU hu
    cases x
    all_goals
      go_wp2_with (first | (refine wpList_load44 rfl _ rfl g rfl a.getLsbD G ?_; refine wpList_load44 rfl _ rfl h rfl b.getLsbD A2 ?_) | (go_at_call 44; refine (below_to a b t _ HU2).mono ?_; rintro e w3 ⟨rfl, B3⟩))
      go_ret
      exact ⟨rfl, B.trans (B3.mono B.size)⟩
  · have hu := HU.out hxy
    have hs := HS.out
    rw [hu] at hs
    obtain ⟨k1, k2⟩ := less_case x y t hs hxy
    subst k1
    subst k2
    clear HS HU hu hs hxy
    cases t
    all_goals
      go_wp2_with fail
      go_ret
      exact ⟨rfl, B⟩
theorem less_to (a b : B64) (t : Bool) (w : World) (h : Hid (BitVec.slt a b = t)) : Calls Tryd.prog 38 #[.agg (encF a.getLsbD), .agg (encF b.getLsbD)] w fun e w' => e = .returned (.bool t) ∧ Below w.heap.size w w' := by
  have h' := h.out
  subst h'
  exact less_any a b w
theorem toInt_to (v : B64) (t : Int) (w : World) (h : Hid (v.toInt = t)) : Calls Tryd.prog 39 #[.agg (encF v.getLsbD)] w fun e w' => e = .returned (.int .i64 t) ∧ Below w.heap.size w w' := by
  have h' := h.out
  subst h'
  exact to_any v w

end Go.Proofs.YtgdchlgepgbhhaaDoor
