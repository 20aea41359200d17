/-
  CONTRACT: what the reference's divide answers: quotient and rest of two sizes, the second one not 0; of what was there nothing has turned.
-/
import Derived.Test.YtgdchlgepgbhhaaDoorBitFns2
import Derived.Test.YtgdchlgepgbhhaaDoorSteps
namespace Go.Proofs.YtgdchlgepgbhhaaDoor
open Go.RowKit

/-- The bits from k on, and none below. -/
def high (k : Nat) (v : B64) : Nat → Bool := fun j => decide (k ≤ j) && v.getLsbD j
theorem high_full (v : B64) (j : Nat) (_ : j < 64) : high 0 v j = v.getLsbD j := by simp [high]
theorem high_none (v : B64) (j : Nat) (h : j < 64) : noF j = high 64 v j := by
  unfold high; rw [decide_eq_false (by omega)]; rfl
theorem high_hit (k : Nat) (v : B64) (hb : v.getLsbD k = true) (j : Nat) : (if j = k then true else high (k + 1) v j) = high k v j := by
  unfold high
  by_cases h : j = k
  · subst h; rw [if_pos rfl, hb, decide_eq_true (Nat.le_refl _)]; rfl
  · rw [if_neg h]; congr 1; simp; omega
theorem high_miss (k : Nat) (v : B64) (hb : v.getLsbD k = false) (j : Nat) : high (k + 1) v j = high k v j := by
  unfold high
  by_cases h : j = k
  · subst h; rw [hb, Bool.and_false, Bool.and_false]
  · congr 1; simp; omega

/-- One step of long division, on plain numbers. -/
theorem div_step (A B m : Nat) (hB : 0 < B) (bit : Nat) (hbit : A / 2 ^ m % 2 = bit) :
    A / 2 ^ m % B = (if B ≤ 2 * (A / 2 ^ (m + 1) % B) + bit then 2 * (A / 2 ^ (m + 1) % B) + bit - B else 2 * (A / 2 ^ (m + 1) % B) + bit) ∧
    (A / B).testBit m = decide (B ≤ 2 * (A / 2 ^ (m + 1) % B) + bit) := by
  have e1 : A / 2 ^ (m + 1) = A / 2 ^ m / 2 := by rw [Nat.pow_succ, ← Nat.div_div_eq_div_mul]
  have e2 : A / B / 2 ^ m = A / 2 ^ m / B := by rw [Nat.div_div_eq_div_mul, Nat.div_div_eq_div_mul, Nat.mul_comm]
  rw [← bit_div, e2, e1]
  generalize A / 2 ^ m = X at *
  have hX : X = 2 * (X / 2) + bit := by omega
  generalize hH : X / 2 = H at *
  have hq := Nat.div_add_mod H B
  have hl := Nat.mod_lt H hB
  generalize H / B = q at hq
  generalize H % B = r at hq hl
  have hX2 : X = B * (2 * q) + (2 * r + bit) := by
    rw [hX, ← hq, Nat.mul_add, Nat.mul_left_comm]; omega
  have hb1 : bit ≤ 1 := by omega
  rw [hX2]
  by_cases hc : B ≤ 2 * r + bit
  · have e3 : B * (2 * q) + (2 * r + bit) = (2 * r + bit - B) + B * (2 * q + 1) := by rw [Nat.mul_add]; omega
    have hlt : 2 * r + bit - B < B := by omega
    rw [if_pos hc, e3, Nat.add_mul_mod_self_left, Nat.mod_eq_of_lt hlt, Nat.add_mul_div_left _ _ hB, Nat.div_eq_of_lt hlt]
    refine ⟨rfl, ?_⟩
    rw [decide_eq_true hc]
    simp
  · have hlt : 2 * r + bit < B := by omega
    rw [if_neg hc, Nat.add_comm, Nat.add_mul_mod_self_left, Nat.mod_eq_of_lt hlt, Nat.add_mul_div_left _ _ hB, Nat.div_eq_of_lt hlt]
    refine ⟨rfl, ?_⟩
    rw [decide_eq_false hc]
    simp

/-- The same on bit vectors: what a round of 'divide' stores. -/
theorem div_round (a b r : B64) (m : Nat) (hb : 0 < b.toNat) (hr : r.toNat = a.toNat / 2 ^ (m + 1) % b.toNat) (x top u : Bool) (hx : a.getLsbD m = x) (ht : r.getLsbD 63 = top) (hu : BitVec.ult (r.shiftConcat x) b = u) :
    (a / b).getLsbD m = (top || !u) ∧ ((top || !u) = false → (r.shiftConcat x).toNat = a.toNat / 2 ^ m % b.toNat) ∧
    ((top || !u) = true → (r.shiftConcat x + ~~~b + BitVec.setWidth 64 (BitVec.ofBool true)).toNat = a.toNat / 2 ^ m % b.toNat) := by
  have hbit : a.toNat / 2 ^ m % 2 = x.toNat := by
    have h1 := bit_div a.toNat m
    rw [BitVec.testBit_toNat, hx] at h1
    cases x
    · have : ¬ a.toNat / 2 ^ m % 2 = 1 := by simpa using h1
      show _ = 0; omega
    · show _ = 1; simpa using h1
  obtain ⟨d1, d2⟩ := div_step a.toNat b.toNat m hb x.toNat hbit
  rw [← hr] at d1 d2
  have hrl : r.toNat < b.toNat := by rw [hr]; exact Nat.mod_lt _ hb
  have hbl := b.isLt
  have hs : (r.shiftConcat x).toNat = (2 * r.toNat + x.toNat) % 18446744073709551616 := by
    rw [BitVec.toNat_shiftConcat, Nat.shiftLeft_eq]; congr 1; omega
  have htop : top = decide (9223372036854775808 ≤ r.toNat) := by
    rw [← ht, ← BitVec.testBit_toNat, ← bit_div]
    have := r.isLt
    have e : (2 : Nat) ^ 63 = 9223372036854775808 := by decide
    rw [e]
    by_cases h : 9223372036854775808 ≤ r.toNat
    · rw [decide_eq_true h, show r.toNat / 9223372036854775808 = 1 by omega]; rfl
    · rw [decide_eq_false h, show r.toNat / 9223372036854775808 = 0 by omega]; rfl
  have hxl : x.toNat ≤ 1 := by cases x <;> decide
  have hcond : (top || !u) = decide (b.toNat ≤ 2 * r.toNat + x.toNat) := by
    rw [← hu, htop]
    unfold BitVec.ult
    rw [hs]
    by_cases h : 9223372036854775808 ≤ r.toNat
    · rw [decide_eq_true h, decide_eq_true (show b.toNat ≤ 2 * r.toNat + x.toNat by omega)]; rfl
    · rw [decide_eq_false h, Nat.mod_eq_of_lt (by omega)]
      by_cases g : b.toNat ≤ 2 * r.toNat + x.toNat
      · rw [decide_eq_true g, decide_eq_false (by omega)]; rfl
      · rw [decide_eq_false g, decide_eq_true (by omega)]; rfl
  refine ⟨?_, fun h => ?_, fun h => ?_⟩
  · rw [hcond, ← BitVec.testBit_toNat, BitVec.toNat_udiv, d2]
  · rw [hcond] at h
    have g : ¬ b.toNat ≤ 2 * r.toNat + x.toNat := of_decide_eq_false h
    rw [hs, d1, if_neg g, Nat.mod_eq_of_lt (by omega)]
  · rw [hcond] at h
    have g : b.toNat ≤ 2 * r.toNat + x.toNat := of_decide_eq_true h
    have e : r.shiftConcat x + ~~~b + BitVec.setWidth 64 (BitVec.ofBool true) = r.shiftConcat x - b := by
      rw [BitVec.sub_eq_add_neg, BitVec.neg_eq_not_add, BitVec.add_assoc]; rfl
    rw [e, BitVec.toNat_sub, hs, d1, if_pos g]
    omega
theorem concat_bits (r : B64) (x : Bool) (j : Nat) (hj : j < 64) : (if j = 0 then x else (r <<< 1).getLsbD j) = (r.shiftConcat x).getLsbD j := by
  rw [BitVec.getLsbD_shiftConcat, BitVec.getLsbD_shiftLeft, decide_eq_true hj]
  by_cases h : j = 0
  · subst h; simp
  · rw [if_neg h, if_neg h, decide_eq_false (by omega)]; simp

theorem left1_to (v t : B64) (w : World) (h : Hid (v <<< 1 = t)) : Calls Tryd.prog 33 #[.agg (encF v.getLsbD), .int .i64 1] w fun e w' => e = .returned (.agg (encF t.getLsbD)) ∧ Below w.heap.size w w' :=
  left_to v t 1 (by omega) w h

/-- What the blocks of 'divide' hold. -/
structure Six (wr : World) (ga gb r1 r2 gq gr : Nat) (a b : B64) (q r : Nat → Bool) : Prop where
  a : Bs wr ga a.getLsbD
  b : Bs wr gb b.getLsbD
  r1 : Bs wr r1 noF
  r2 : Bs wr r2 noF
  q : Bs wr gq q
  r : Bs wr gr r
/-- They are six. -/
structure Apart (B ga gb r1 r2 gq gr : Nat) : Prop where
  o0 : B ≤ ga
  o1 : ga < gb
  o2 : gb < r1
  o3 : r1 < r2
  o4 : r2 < gq
  o5 : gq < gr
theorem Six.below {w w' : World} {ga gb r1 r2 gq gr : Nat} {a b : B64} {q r : Nat → Bool} (h : Six w ga gb r1 r2 gq gr a b q r) (hb : Below w.heap.size w w') : Six w' ga gb r1 r2 gq gr a b q r :=
  ⟨h.a.below hb, h.b.below hb, h.r1.below hb, h.r2.below hb, h.q.below hb, h.r.below hb⟩
theorem Six.rest {w w' : World} {B ga gb r1 r2 gq gr : Nat} {a b : B64} {q r r' : Nat → Bool} (h : Six w ga gb r1 r2 gq gr a b q r) (o : Apart B ga gb r1 r2 gq gr) (hr : Bs w' gr r') (hb : But gr w w') : Six w' ga gb r1 r2 gq gr a b q r' := by
  have := o.o0; have := o.o1; have := o.o2; have := o.o3; have := o.o4; have := o.o5
  exact ⟨h.a.but hb (by omega), h.b.but hb (by omega), h.r1.but hb (by omega), h.r2.but hb (by omega), h.q.but hb (by omega), hr⟩
theorem Six.quo {w w' : World} {B ga gb r1 r2 gq gr : Nat} {a b : B64} {q q' r : Nat → Bool} (h : Six w ga gb r1 r2 gq gr a b q r) (o : Apart B ga gb r1 r2 gq gr) (hq : Bs w' gq q') (hb : But gq w w') : Six w' ga gb r1 r2 gq gr a b q' r := by
  have := o.o0; have := o.o1; have := o.o2; have := o.o3; have := o.o4; have := o.o5
  exact ⟨h.a.but hb (by omega), h.b.but hb (by omega), h.r1.but hb (by omega), h.r2.but hb (by omega), hq, h.r.but hb (by omega)⟩
theorem Six.congrR {w : World} {ga gb r1 r2 gq gr : Nat} {a b : B64} {q r r' : Nat → Bool} (h : Six w ga gb r1 r2 gq gr a b q r) (e : ∀ j, j < 64 → r j = r' j) : Six w ga gb r1 r2 gq gr a b q r' := ⟨h.a, h.b, h.r1, h.r2, h.q, h.r.congr e⟩
theorem Six.congrQ {w : World} {ga gb r1 r2 gq gr : Nat} {a b : B64} {q q' r : Nat → Bool} (h : Six w ga gb r1 r2 gq gr a b q r) (e : ∀ j, j < 64 → q j = q' j) : Six w ga gb r1 r2 gq gr a b q' r := ⟨h.a, h.b, h.r1, h.r2, h.q.congr e, h.r⟩

/-- The five that region 10 leaves alone. -/
structure Five (wr : World) (ga gb r1 r2 gq : Nat) (a b : B64) (q : Nat → Bool) : Prop where
  a : Bs wr ga a.getLsbD
  b : Bs wr gb b.getLsbD
  r1 : Bs wr r1 noF
  r2 : Bs wr r2 noF
  q : Bs wr gq q
theorem Six.five {w : World} {ga gb r1 r2 gq gr : Nat} {a b : B64} {q r : Nat → Bool} (h : Six w ga gb r1 r2 gq gr a b q r) : Five w ga gb r1 r2 gq a b q := ⟨h.a, h.b, h.r1, h.r2, h.q⟩
theorem Five.below {w w' : World} {ga gb r1 r2 gq : Nat} {a b : B64} {q : Nat → Bool} (h : Five w ga gb r1 r2 gq a b q) (hb : Below w.heap.size w w') : Five w' ga gb r1 r2 gq a b q :=
  ⟨h.a.below hb, h.b.below hb, h.r1.below hb, h.r2.below hb, h.q.below hb⟩
theorem Five.but {w w' : World} {B ga gb r1 r2 gq gr : Nat} {a b : B64} {q : Nat → Bool} (h : Five w ga gb r1 r2 gq a b q) (o : Apart B ga gb r1 r2 gq gr) (hb : But gr w w') : Five w' ga gb r1 r2 gq a b q := by
  have := o.o0; have := o.o1; have := o.o2; have := o.o3; have := o.o4; have := o.o5
  exact ⟨h.a.but hb (by omega), h.b.but hb (by omega), h.r1.but hb (by omega), h.r2.but hb (by omega), h.q.but hb (by omega)⟩
theorem Five.six {w : World} {ga gb r1 r2 gq gr : Nat} {a b : B64} {q r : Nat → Bool} (h : Five w ga gb r1 r2 gq a b q) (hr : Bs w gr r) : Six w ga gb r1 r2 gq gr a b q r := ⟨h.a, h.b, h.r1, h.r2, h.q, hr⟩
theorem Five.drew {w : World} {ga gb r1 r2 gq : Nat} {a b : B64} {q : Nat → Bool} (h : Five w ga gb r1 r2 gq a b q) : Five w.drew ga gb r1 r2 gq a b q := ⟨h.a, h.b, h.r1, h.r2, h.q⟩
/-- Two results that are variables of 64 bools. -/
theorem results44two {fn : Func} {p q : Tmp} (h : fn.results = #[.cell p 44, .cell q 44]) (tmps : Array Value) (w : World) (g k : Nat) (f f' : Nat → Bool) (hp : tmps.getD p undef = .pointer (some ⟨g, 0, none⟩)) (hq : tmps.getD q undef = .pointer (some ⟨k, 0, none⟩)) (hb : Bs w g f) (hb' : Bs w k f') :
    (results fn tmps).run Tryd.prog w = .ok (.tuple #[.agg (encF f), .agg (encF f')]) w := by
  have hp' : tmps[p]?.getD undef = .pointer (some ⟨g, 0, none⟩) := by simpa using hp
  have hq' : tmps[q]?.getD undef = .pointer (some ⟨k, 0, none⟩) := by simpa using hq
  simp [results, h, hp', hq', asAddr, run_loadVar_row w g 44 44 (encF f) (0, 0) _ hb Tryd.underlying44 rfl (info44 f), run_loadVar_row w k 44 44 (encF f') (0, 0) _ hb' Tryd.underlying44 rfl (info44 f')]

def DivRel (w : World) (ga gb r1 r2 gq gr : Nat) (a b : B64) (i : Value) (wr : World) : Prop :=
  ∃ (k : Nat) (r : B64), k ≤ 64 ∧ i = .int .i64 ((k : Int) - 1) ∧ Hid (r.toNat = a.toNat / 2 ^ k % b.toNat) ∧ Six wr ga gb r1 r2 gq gr a b (high k (a / b)) r.getLsbD ∧ Below w.heap.size w wr

set_option maxHeartbeats 1000000 in
theorem divide_any (a b : B64) (hb : 0 < b.toNat) (w : World) : Calls Tryd.prog 34 #[.agg (encF a.getLsbD), .agg (encF b.getLsbD)] w fun e w' => e = .returned (.tuple #[.agg (encF (a / b).getLsbD), .agg (encF (a % b).getLsbD)]) ∧ Below w.heap.size w w' := by
  obtain ⟨qv, hqv⟩ : ∃ q : B64, a / b = q := ⟨_, rfl⟩
  obtain ⟨rv, hrv⟩ : ∃ r : B64, a % b = r := ⟨_, rfl⟩
  rw [hqv, hrv]
  have HQ := Lib.hid hqv
  have HRV := Lib.hid hrv
  have HB0 := Lib.hid hb
  clear hqv hrv hb
  go_enter Tryd.func34, Tryd.ntmps34
  go_wp2_with (first | (refine wpList_box44 rfl _ rfl a.getLsbD rfl ?_; intro ga w1 H1 A1 B1; refine wpList_box44 rfl _ rfl b.getLsbD rfl ?_; intro gb w2 H2 A2 B2; refine wpList_alloc44 rfl rfl ?_; intro r1 w3 H3 A3 B3; refine wpList_alloc44 rfl rfl ?_; intro r2 w4 H4 A4 B4; refine Hid.out ?_))
  have F1 : Bs w4 ga a.getLsbD := ((A1.below B2).below B3).below B4
  have F2 : Bs w4 gb b.getLsbD := (A2.below B3).below B4
  have F3 : Bs w4 r1 noF := A3.below B4
  have t1 := B1.size
  have t2 := B2.size
  have t3 := B3.size
  have t4 := B4.size
  have e1 := H1.out
  have e2 := H2.out
  have e3 := H3.out
  have e4 := H4.out
  have l1 := A1.lt
  have l2 := A2.lt
  have l3 := A3.lt
  have l4 := A4.lt
  have C4 := ((B1.trans (B2.mono t1)).trans (B3.mono (by omega))).trans (B4.mono (by omega))
  have o0 : w.heap.size ≤ ga := by omega
  have o1 : ga < gb := by omega
  have o2 : gb < r1 := by omega
  have o3 : r1 < r2 := by omega
  have o4 : r2 < w4.heap.size := l4
  clear A1 A2 A3 B1 B2 B3 B4 t1 t2 t3 t4 e1 e2 e3 e4 l1 l2 l3 l4 H1 H2 H3 H4
  refine Lib.hid ?_
  go_wp2_with (first | (refine wpList_build44 rfl rfl ?_; refine wpList_alloc44 rfl rfl ?_; intro gq w5 H5 A5 B5; refine wpList_store44 rfl _ _ rfl gq noF rfl rfl noF A5 ?_; intro w6 A6 B6; refine Hid.out ?_))
  have e5 := H5.out
  have l5 := A5.lt
  have o5 : r2 < gq := by omega
  have G1 := (F1.below B5).but B6 (by omega)
  have G2 := (F2.below B5).but B6 (by omega)
  have G3 := (F3.below B5).but B6 (by omega)
  have G4 := (A4.below B5).but B6 (by omega)
  have C6 := B6.under (C4.trans (B5.mono C4.size)) (Nat.le_trans C4.size B5.size) (by omega)
  have l6 := A6.lt
  clear F1 F2 F3 A4 A5 B5 B6 C4 H5 e5 l5 o4
  refine Lib.hid ?_
  go_wp2_with (first | (refine wpList_build44 rfl rfl ?_; refine wpList_alloc44 rfl rfl ?_; intro gr w7 H7 A7 B7; refine wpList_store44 rfl _ _ rfl gr noF rfl rfl noF A7 ?_; intro w8 A8 B8; refine Hid.out ?_))
  have e7 := H7.out
  have o6 : gq < gr := by omega
  have O : Apart w.heap.size ga gb r1 r2 gq gr := ⟨o0, o1, o2, o3, o5, o6⟩
  have S0 : Six w8 ga gb r1 r2 gq gr a b noF noF := ⟨(G1.below B7).but B8 (by omega), (G2.below B7).but B8 (by omega), (G3.below B7).but B8 (by omega), (G4.below B7).but B8 (by omega), (A6.below B7).but B8 (by omega), A8⟩
  have C8 := B8.under (C6.trans (B7.mono C6.size)) (Nat.le_trans C6.size B7.size) (by omega)
  have hq0 : w.heap.size ≤ gq := by omega
  have hr0 : w.heap.size ≤ gr := by omega
  have h10 : w.heap.size ≤ r1 := by omega
  have h20 : w.heap.size ≤ r2 := by omega
  clear G1 G2 G3 G4 A6 A7 A8 B7 B8 C6 H7 e7 l6
  refine Lib.hid ?_
  go_wp2_with fail
  go_loopw [8] (fun i wr => DivRel w ga gb r1 r2 gq gr a b i wr) (fun i _ => (intOf i + 1).toNat)
  case atStart =>
    refine ⟨64, 0#64, by omega, rfl, ?_, (S0.congrQ (fun j hj => high_none _ j hj)).congrR (fun j _ => by simp), C8⟩
    show _ = _
    rw [Nat.div_eq_of_lt a.isLt]; simp
  case round =>
    obtain ⟨k, r, hk, rfl, HR, S, B⟩ := hrel
    clear S0 C8
    by_cases h0 : k = 0
    · subst h0
      have hre : r = rv := by
        rw [← HRV.out]
        refine BitVec.eq_of_toNat_eq ?_
        rw [HR.out, Nat.pow_zero, Nat.div_one, BitVec.toNat_umod]
      subst hre
      have Q4 : Bs wr gq qv.getLsbD := S.q.congr fun j hj => by rw [HQ.out]; exact high_full _ j hj
      have R4 := S.r
      have X1 := S.r1
      have X2 := S.r2
      clear S HR HRV HB0 hk
      go_wp2_with fail
      refine wp_region_held_drew (S := fun w' => Bs w' gq qv.getLsbD ∧ Bs w' gr r.getLsbD) (by kernel_rfl) ⟨Q4, R4⟩ (fun V => ?_)
      have X1d : Bs wr.drew r1 noF := X1
      have X2d : Bs wr.drew r2 noF := X2
      have C4d := B.drew
      clear Q4 R4 X1 X2 B
      generalize wr.drew = wd at V X1d X2d C4d ⊢
      refine take44 0 (some 37) (.tmp 6) gq qv.getLsbD rfl rfl rfl rfl rfl (by kernel_rfl) (by kernel_rfl) (by kernel_rfl) (fun _ _ _ h => h) (fun w h => h.1) V ?_
      simp only [Act.put, List.setIfInBounds_toArray, List.set_cons_zero, List.set_cons_succ]
      refine take44 1 (some 38) (.tmp 7) gr r.getLsbD rfl rfl rfl rfl rfl (by kernel_rfl) (by kernel_rfl) (by kernel_rfl) (fun _ _ _ h => h) (fun w h => h.2) V ?_
      simp only [Act.put, List.setIfInBounds_toArray, List.set_cons_zero, List.set_cons_succ]
      refine one_ready (i := 2) (by kernel_rfl) ?_
      refine step_store44 rfl rfl rfl (.tmp 4) (.tmp 37) rfl r1 qv.getLsbD rfl rfl noF X1d ?_
      intro w5 Y1 B5
      have V5 : Bs w5 gq qv.getLsbD ∧ Bs w5 gr r.getLsbD := ⟨V.1.but B5 (by omega), V.2.but B5 (by omega)⟩
      refine ⟨V5, ?_⟩
      simp only [Act.put]
      refine one_ready (i := 3) (by kernel_rfl) ?_
      refine step_store44 rfl rfl rfl (.tmp 5) (.tmp 38) rfl r2 r.getLsbD rfl rfl noF (X2d.but B5 (by omega)) ?_
      intro w6 Y2 B6
      refine ⟨⟨V5.1.but B6 (by omega), V5.2.but B6 (by omega)⟩, ?_⟩
      simp only [Act.put]
      refine wpAnyH_done (by kernel_rfl) ?_ _
      have Y1' := Y1.but B6 (by omega)
      have C6 := B6.under (B5.under C4d C4d.size h10) (Nat.le_trans C4d.size B5.size) h20
      go_wp2_with fail
      exact bodyPost_ret (v := .tuple #[.agg (encF qv.getLsbD), .agg (encF r.getLsbD)]) (results44two rfl _ w6 r1 r2 _ _ rfl rfl Y1' Y2) rfl ⟨rfl, C6⟩
    · obtain ⟨m, rfl⟩ : ∃ m, k = m + 1 := ⟨k - 1, by omega⟩
      have hm : m < 64 := by omega
      have hm' : (m : Int) < 64 := by omega
      rw [show (((m + 1 : Nat) : Int) - 1) = (m : Int) by omega]
      obtain ⟨x, hx⟩ : ∃ x, a.getLsbD m = x := ⟨_, rfl⟩
      obtain ⟨top, ht⟩ : ∃ t, r.getLsbD 63 = t := ⟨_, rfl⟩
      obtain ⟨u, hu⟩ : ∃ u, BitVec.ult (r.shiftConcat x) b = u := ⟨_, rfl⟩
      obtain ⟨d1, d2, d3⟩ := div_round a b r m HB0.out HR.out x top u hx ht hu
      obtain ⟨sh, hsh⟩ : ∃ s : B64, r <<< 1 = s := ⟨_, rfl⟩
      obtain ⟨sc, hsc⟩ : ∃ s : B64, r.shiftConcat x = s := ⟨_, rfl⟩
      have hcb := concat_bits r x
      rw [hsc] at hu d2 d3 hcb
      rw [hsh] at hcb
      have HX := Lib.hid hx
      have HU := Lib.hid hu
      have HD1 := Lib.hid d1
      have HD2 := Lib.hid d2
      have HD3 := Lib.hid d3
      have HSH := Lib.hid hsh
      have HCB := Lib.hid hcb
      have hc63 := S.r.cell 63 (by omega)
      rw [ht] at hc63
      clear hx ht hu d1 d2 d3 hsh hsc hcb h0 hk
      go_wp2_with (first | (refine wpList_load44 rfl _ rfl gr rfl r.getLsbD S.r ?_; refine Hid.out ?_))
      refine Lib.hid ?_
      go_wp2_with fail
      refine (left1_to r sh _ HSH).mono ?_
      rintro e w2 ⟨rfl, B2⟩
      have S2 := S.below B2
      have C2 := B.trans (B2.mono B.size)
      clear S B B2 hc63
      go_wp2_with (first | (refine wpList_store44 rfl _ _ rfl gr sh.getLsbD rfl rfl r.getLsbD S2.r ?_; intro w3 A3 B3; refine Hid.out ?_))
      have S3 := S2.rest O A3 B3
      have C3 := B3.under C2 C2.size hr0
      clear S2 C2 A3 B3
      have hcx := S3.a.cell m hm
      rw [HX.out] at hcx
      have hc0 := S3.r.cell 0 (by omega)
      have hf0 := S3.r.frozen 0
      have S4 : Six (w3.setCell ⟨gr, 0, none⟩ (.bool x)) ga gb r1 r2 gq gr a b (high (m + 1) (a / b)) sc.getLsbD := (S3.rest O (S3.r.set x) (but_setCell w3 gr 0 _)).congrR HCB.out
      have C4 := (but_setCell w3 gr 0 (.bool x)).under C3 C3.size hr0
      refine Lib.hid ?_
      obtain ⟨nb, hnb⟩ : ∃ n : B64, ~~~b = n := ⟨_, rfl⟩
      obtain ⟨df, hdf⟩ : ∃ d : B64, sc + nb + BitVec.setWidth 64 (BitVec.ofBool true) = d := ⟨_, rfl⟩
      have hd3 := HD3.out
      rw [hnb, hdf] at hd3
      have HNB := Lib.hid hnb
      have HDF := Lib.hid hdf
      clear HD3
      have HD3 := Lib.hid hd3
      clear hnb hdf hd3
      cases top
      · cases u
        · go_wp2_with (first | (refine wpList_loadW rfl _ rfl gr rfl sc.getLsbD S4.r ?_; refine wpList_loadW rfl _ rfl gb rfl b.getLsbD S4.b ?_) | (go_at_call 44; refine (below_to sc b false _ HU).mono ?_; rintro e w4 ⟨rfl, B4⟩))
          have S4' := S4.below B4
          have C4' := C4.trans (B4.mono C4.size)
          clear S4 C4 S3 C3 B4 hcx hc0 hf0
          have V4 := S4'.five
          have R4 := S4'.r
          have C4 := C4'
          clear S4' C4'
          refine wp_region_held_drew (S := fun w' => Five w' ga gb r1 r2 gq a b (high (m + 1) (a / b))) (by kernel_rfl) V4.drew (fun V => ?_)
          have R4d : Bs w4.drew gr sc.getLsbD := R4
          have C4d := C4.drew
          clear R4 C4 V4
          generalize w4.drew = wd at V R4d C4d ⊢
          have R4 := R4d
          have C4 := C4d
          clear R4d C4d
          refine take44 1 (some 32) (.tmp 3) gb b.getLsbD rfl rfl rfl rfl rfl (by kernel_rfl) (by kernel_rfl) (by kernel_rfl) (fun _ _ _ h => h) (fun w h => h.b) V ?_
          simp only [Act.put, List.setIfInBounds_toArray, List.set_cons_zero, List.set_cons_succ]
          refine two_ready (i := 0) (j := 2) (by kernel_rfl) ?_ ?_
          · refine step_load44 rfl rfl (some 31) rfl (.tmp 7) rfl gr rfl sc.getLsbD R4 V ?_
            simp only [Act.put, List.setIfInBounds_toArray, List.set_cons_zero, List.set_cons_succ]
            refine one_ready (i := 2) (by kernel_rfl) ?_
            refine step_call rfl #[.agg (encF b.getLsbD)] (.agg (encF nb.getLsbD)) (enter32 _) rfl (not_to b nb _ HNB) ?_
            intro w5 B5
            have R5 := R4.below B5
            have V5 := V.below B5
            refine ⟨V5, ?_⟩
            simp only [Act.put, List.setIfInBounds_toArray, List.set_cons_zero, List.set_cons_succ]
            refine one_ready (i := 3) (by kernel_rfl) ?_
            refine step_call rfl #[.agg (encF sc.getLsbD), .agg (encF nb.getLsbD), .bool true] (.agg (encF df.getLsbD)) (enter31 _) rfl (add_to sc nb df true _ HDF) ?_
            intro w6 B6
            have R6 := R5.below B6
            have V6 := V5.below B6
            refine ⟨V6, ?_⟩
            simp only [Act.put, List.setIfInBounds_toArray, List.set_cons_zero, List.set_cons_succ]
            refine one_ready (i := 4) (by kernel_rfl) ?_
            refine step_store44 rfl rfl rfl (.tmp 7) (.tmp 34) rfl gr df.getLsbD rfl rfl sc.getLsbD R6 ?_
            intro w7 R7 B7
            have V7 := V6.but O B7
            refine ⟨V7, ?_⟩
            simp only [Act.put]
            refine wpAnyH_done (by kernel_rfl) ?_ _
            have C7 := B7.under ((C4.trans (B5.mono C4.size)).trans (B6.mono (Nat.le_trans C4.size B5.size))) (Nat.le_trans (Nat.le_trans C4.size B5.size) B6.size) hr0
            have S7 := V7.six R7
            clear V V5 V6 V7 R4 R5 R6 R7 B5 B6 B7 C4
            have hcq := S7.q.cell m hm
            have hfq := S7.q.frozen m
            go_wp2_with fail
            go_roundw
            case rel => exact ⟨m, df, by omega, rfl, Lib.hid (HD3.out rfl), (S7.quo O (S7.q.set true) (but_setCell w7 gq m _)).congrQ (fun j _ => high_hit m (a / b) HD1.out j), (but_setCell w7 gq m _).under C7 C7.size hq0⟩
            case measure => simp [intOf]
          · refine step_call rfl #[.agg (encF b.getLsbD)] (.agg (encF nb.getLsbD)) (enter32 _) rfl (not_to b nb _ HNB) ?_
            intro w5 B5
            have R5 := R4.below B5
            have V5 := V.below B5
            refine ⟨V5, ?_⟩
            simp only [Act.put, List.setIfInBounds_toArray, List.set_cons_zero, List.set_cons_succ]
            refine one_ready (i := 0) (by kernel_rfl) ?_
            refine step_load44 rfl rfl (some 31) rfl (.tmp 7) rfl gr rfl sc.getLsbD R5 V5 ?_
            simp only [Act.put, List.setIfInBounds_toArray, List.set_cons_zero, List.set_cons_succ]
            refine one_ready (i := 3) (by kernel_rfl) ?_
            refine step_call rfl #[.agg (encF sc.getLsbD), .agg (encF nb.getLsbD), .bool true] (.agg (encF df.getLsbD)) (enter31 _) rfl (add_to sc nb df true _ HDF) ?_
            intro w6 B6
            have R6 := R5.below B6
            have V6 := V5.below B6
            refine ⟨V6, ?_⟩
            simp only [Act.put, List.setIfInBounds_toArray, List.set_cons_zero, List.set_cons_succ]
            refine one_ready (i := 4) (by kernel_rfl) ?_
            refine step_store44 rfl rfl rfl (.tmp 7) (.tmp 34) rfl gr df.getLsbD rfl rfl sc.getLsbD R6 ?_
            intro w7 R7 B7
            have V7 := V6.but O B7
            refine ⟨V7, ?_⟩
            simp only [Act.put]
            refine wpAnyH_done (by kernel_rfl) ?_ _
            have C7 := B7.under ((C4.trans (B5.mono C4.size)).trans (B6.mono (Nat.le_trans C4.size B5.size))) (Nat.le_trans (Nat.le_trans C4.size B5.size) B6.size) hr0
            have S7 := V7.six R7
            clear V V5 V6 V7 R4 R5 R6 R7 B5 B6 B7 C4
            have hcq := S7.q.cell m hm
            have hfq := S7.q.frozen m
            go_wp2_with fail
            go_roundw
            case rel => exact ⟨m, df, by omega, rfl, Lib.hid (HD3.out rfl), (S7.quo O (S7.q.set true) (but_setCell w7 gq m _)).congrQ (fun j _ => high_hit m (a / b) HD1.out j), (but_setCell w7 gq m _).under C7 C7.size hq0⟩
            case measure => simp [intOf]
        · go_wp2_with (first | (refine wpList_loadW rfl _ rfl gr rfl sc.getLsbD S4.r ?_; refine wpList_loadW rfl _ rfl gb rfl b.getLsbD S4.b ?_) | (go_at_call 44; refine (below_to sc b true _ HU).mono ?_; rintro e w4 ⟨rfl, B4⟩))
          have S4' := S4.below B4
          have C4' := C4.trans (B4.mono C4.size)
          go_roundw
          case rel => exact ⟨m, sc, by omega, rfl, Lib.hid (HD2.out rfl), S4'.congrQ (fun j _ => high_miss m (a / b) HD1.out j), C4'⟩
          case measure => simp [intOf]
      · go_wp2_with fail
        generalize w3.setCell ⟨gr, 0, none⟩ (.bool x) = w4 at S4 C4 ⊢
        clear S3 C3 hcx hc0 hf0
        have V4 := S4.five
        have R4 := S4.r
        clear S4
        refine wp_region_held_drew (S := fun w' => Five w' ga gb r1 r2 gq a b (high (m + 1) (a / b))) (by kernel_rfl) V4.drew (fun V => ?_)
        have R4d : Bs w4.drew gr sc.getLsbD := R4
        have C4d := C4.drew
        clear R4 C4 V4
        generalize w4.drew = wd at V R4d C4d ⊢
        have R4 := R4d
        have C4 := C4d
        clear R4d C4d
        refine take44 1 (some 32) (.tmp 3) gb b.getLsbD rfl rfl rfl rfl rfl (by kernel_rfl) (by kernel_rfl) (by kernel_rfl) (fun _ _ _ h => h) (fun w h => h.b) V ?_
        simp only [Act.put, List.setIfInBounds_toArray, List.set_cons_zero, List.set_cons_succ]
        refine two_ready (i := 0) (j := 2) (by kernel_rfl) ?_ ?_
        · refine step_load44 rfl rfl (some 31) rfl (.tmp 7) rfl gr rfl sc.getLsbD R4 V ?_
          simp only [Act.put, List.setIfInBounds_toArray, List.set_cons_zero, List.set_cons_succ]
          refine one_ready (i := 2) (by kernel_rfl) ?_
          refine step_call rfl #[.agg (encF b.getLsbD)] (.agg (encF nb.getLsbD)) (enter32 _) rfl (not_to b nb _ HNB) ?_
          intro w5 B5
          have R5 := R4.below B5
          have V5 := V.below B5
          refine ⟨V5, ?_⟩
          simp only [Act.put, List.setIfInBounds_toArray, List.set_cons_zero, List.set_cons_succ]
          refine one_ready (i := 3) (by kernel_rfl) ?_
          refine step_call rfl #[.agg (encF sc.getLsbD), .agg (encF nb.getLsbD), .bool true] (.agg (encF df.getLsbD)) (enter31 _) rfl (add_to sc nb df true _ HDF) ?_
          intro w6 B6
          have R6 := R5.below B6
          have V6 := V5.below B6
          refine ⟨V6, ?_⟩
          simp only [Act.put, List.setIfInBounds_toArray, List.set_cons_zero, List.set_cons_succ]
          refine one_ready (i := 4) (by kernel_rfl) ?_
          refine step_store44 rfl rfl rfl (.tmp 7) (.tmp 34) rfl gr df.getLsbD rfl rfl sc.getLsbD R6 ?_
          intro w7 R7 B7
          have V7 := V6.but O B7
          refine ⟨V7, ?_⟩
          simp only [Act.put]
          refine wpAnyH_done (by kernel_rfl) ?_ _
          have C7 := B7.under ((C4.trans (B5.mono C4.size)).trans (B6.mono (Nat.le_trans C4.size B5.size))) (Nat.le_trans (Nat.le_trans C4.size B5.size) B6.size) hr0
          have S7 := V7.six R7
          clear V V5 V6 V7 R4 R5 R6 R7 B5 B6 B7 C4
          have hcq := S7.q.cell m hm
          have hfq := S7.q.frozen m
          go_wp2_with fail
          go_roundw
          case rel => exact ⟨m, df, by omega, rfl, Lib.hid (HD3.out rfl), (S7.quo O (S7.q.set true) (but_setCell w7 gq m _)).congrQ (fun j _ => high_hit m (a / b) HD1.out j), (but_setCell w7 gq m _).under C7 C7.size hq0⟩
          case measure => simp [intOf]
        · refine step_call rfl #[.agg (encF b.getLsbD)] (.agg (encF nb.getLsbD)) (enter32 _) rfl (not_to b nb _ HNB) ?_
          intro w5 B5
          have R5 := R4.below B5
          have V5 := V.below B5
          refine ⟨V5, ?_⟩
          simp only [Act.put, List.setIfInBounds_toArray, List.set_cons_zero, List.set_cons_succ]
          refine one_ready (i := 0) (by kernel_rfl) ?_
          refine step_load44 rfl rfl (some 31) rfl (.tmp 7) rfl gr rfl sc.getLsbD R5 V5 ?_
          simp only [Act.put, List.setIfInBounds_toArray, List.set_cons_zero, List.set_cons_succ]
          refine one_ready (i := 3) (by kernel_rfl) ?_
          refine step_call rfl #[.agg (encF sc.getLsbD), .agg (encF nb.getLsbD), .bool true] (.agg (encF df.getLsbD)) (enter31 _) rfl (add_to sc nb df true _ HDF) ?_
          intro w6 B6
          have R6 := R5.below B6
          have V6 := V5.below B6
          refine ⟨V6, ?_⟩
          simp only [Act.put, List.setIfInBounds_toArray, List.set_cons_zero, List.set_cons_succ]
          refine one_ready (i := 4) (by kernel_rfl) ?_
          refine step_store44 rfl rfl rfl (.tmp 7) (.tmp 34) rfl gr df.getLsbD rfl rfl sc.getLsbD R6 ?_
          intro w7 R7 B7
          have V7 := V6.but O B7
          refine ⟨V7, ?_⟩
          simp only [Act.put]
          refine wpAnyH_done (by kernel_rfl) ?_ _
          have C7 := B7.under ((C4.trans (B5.mono C4.size)).trans (B6.mono (Nat.le_trans C4.size B5.size))) (Nat.le_trans (Nat.le_trans C4.size B5.size) B6.size) hr0
          have S7 := V7.six R7
          clear V V5 V6 V7 R4 R5 R6 R7 B5 B6 B7 C4
          have hcq := S7.q.cell m hm
          have hfq := S7.q.frozen m
          go_wp2_with fail
          go_roundw
          case rel => exact ⟨m, df, by omega, rfl, Lib.hid (HD3.out rfl), (S7.quo O (S7.q.set true) (but_setCell w7 gq m _)).congrQ (fun j _ => high_hit m (a / b) HD1.out j), (but_setCell w7 gq m _).under C7 C7.size hq0⟩
          case measure => simp [intOf]

end Go.Proofs.YtgdchlgepgbhhaaDoor
