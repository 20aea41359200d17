/-
  PLAIN: decimal digits: what a text of digits is worth; the text of a number is right in form, and worth that number. No condition but that the number is one that an int holds.
-/
import Derived.Test.YtgdchlgepgbhhaaDoorPlain
import Derived.Lib.ItoaNum
import Derived.Lib.ItoaLen
import Derived.Lib.AtoiAllCases
namespace Go.Proofs.YtgdchlgepgbhhaaDoor
open Go.RowKit

/-- What digits are worth, behind acc. -/
def val (acc : Nat) (l : List UInt8) : Nat := l.foldl (fun a c => a * 10 + (c.toNat - 48)) acc

theorem val_nil (acc : Nat) : val acc [] = acc := List.foldl_nil
theorem val_cons (acc : Nat) (c : UInt8) (r : List UInt8) : val acc (c :: r) = val (acc * 10 + (c.toNat - 48)) r := List.foldl_cons ..
theorem val_ge (l : List UInt8) : ∀ acc : Nat, acc ≤ val acc l := by
  induction l with
  | nil => intro acc; rw [val_nil]; exact Nat.le_refl _
  | cons c r ih =>
    intro acc
    have := ih (acc * 10 + (c.toNat - 48))
    rw [val_cons]
    omega
theorem val_snoc (l : List UInt8) (c : UInt8) : ∀ acc : Nat, val acc (l ++ [c]) = val acc l * 10 + (c.toNat - 48) := by
  induction l with
  | nil => intro acc; rw [List.nil_append, val_cons, val_nil, val_nil]
  | cons d r ih => intro acc; rw [List.cons_append, val_cons, val_cons, ih]
theorem val_bound (l : List UInt8) : ∀ acc : Nat, l.all digB = true → val acc l < (acc + 1) * 10 ^ l.length := by
  induction l with
  | nil => intro acc _; rw [val_nil]; simp
  | cons c r ih =>
    intro acc h
    simp only [List.all_cons, Bool.and_eq_true] at h
    have hd : 48 ≤ c.toNat ∧ c.toNat ≤ 57 := by simpa [digB] using h.1
    have := ih (acc * 10 + (c.toNat - 48)) h.2
    rw [val_cons, List.length_cons, Nat.pow_succ]
    refine Nat.lt_of_lt_of_le this ?_
    rw [Nat.mul_comm (10 ^ r.length) 10, ← Nat.mul_assoc]
    exact Nat.mul_le_mul_right _ (by omega)

theorem parse_val (l : List UInt8) : ∀ acc : Nat, acc < 18446744073709551616 → l.all digB = true →
    Lib.parseUint10 acc l = if val acc l < 18446744073709551616 then .ok (val acc l) else .range := by
  induction l with
  | nil => intro acc h _; rw [Lib.parseUint10, val_nil, if_pos h]
  | cons c r ih =>
    intro acc h ha
    simp only [List.all_cons, Bool.and_eq_true] at ha
    have hd : 48 ≤ c.toNat ∧ c.toNat ≤ 57 := by simpa [digB] using ha.1
    have hg := val_ge r (acc * 10 + (c.toNat - 48))
    rw [Lib.parseUint10, val_cons, if_pos hd]
    by_cases h1 : 1844674407370955162 ≤ acc
    · rw [if_pos h1, if_neg (by omega)]
    · rw [if_neg h1]
      by_cases h2 : 18446744073709551616 ≤ acc * 10 + (c.toNat - 48)
      · rw [if_pos h2, if_neg (by omega)]
      · rw [if_neg h2]
        exact ih _ (by omega) ha.2

theorem plain_ne {l : List UInt8} (h : plainB l = true) : l ≠ [] := by
  intro e; subst e; simp [plainB] at h
theorem plain_all {l : List UInt8} (h : plainB l = true) : l.all digB = true := by
  unfold plainB at h; simp only [Bool.and_eq_true] at h; exact h.2
theorem mag_val {l : List UInt8} (h : plainB l = true) : Lib.parseMag l = if val 0 l < 18446744073709551616 then .ok (val 0 l) else .range := by
  unfold Lib.parseMag
  rw [if_neg (plain_ne h), parse_val l 0 (by omega) (plain_all h)]

/-- What Atoi says of digits without a sign. -/
theorem atoi_plain {l : List UInt8} (h : plainB l = true) : Lib.atoiAll l = if val 0 l < 9223372036854775808 then .ok (val 0 l : Int) else .range := by
  have hm := mag_val h
  have ha := plain_all h
  cases l with
  | nil => exact absurd rfl (plain_ne h)
  | cons c r =>
    simp only [List.all_cons, Bool.and_eq_true] at ha
    have hd : 48 ≤ c.toNat ∧ c.toNat ≤ 57 := by simpa [digB] using ha.1
    rw [Lib.atoiAll_plain c r (by omega) (by omega), hm]
    generalize val 0 (c :: r) = u
    by_cases h1 : u < 18446744073709551616
    · rw [if_pos h1]
      by_cases h2 : u < 9223372036854775808
      · rw [if_pos h2]; simp only [Lib.signless]; rw [if_neg (by omega)]
      · rw [if_neg h2]; simp only [Lib.signless]; rw [if_pos (by omega)]
    · rw [if_neg h1, if_neg (by omega)]; rfl
/-- What Atoi says of digits behind a -. -/
theorem atoi_minus {l : List UInt8} (h : plainB l = true) : Lib.atoiAll (45 :: l) = if val 0 l ≤ 9223372036854775808 then .ok (-(val 0 l : Int)) else .range := by
  rw [Lib.atoiAll_minus, mag_val h]
  generalize val 0 l = u
  by_cases h1 : u < 18446744073709551616
  · rw [if_pos h1]
    by_cases h2 : u ≤ 9223372036854775808
    · rw [if_pos h2]; simp only [Lib.signed]; rw [if_neg (by omega)]
    · rw [if_neg h2]; simp only [Lib.signed]; rw [if_pos (by omega)]
  · rw [if_neg h1, if_neg (by omega)]; rfl
theorem atoi_zero : Lib.atoiAll [48] = .ok 0 := by decide

theorem dig_nat {u : Nat} (h : u < 10) : (UInt8.ofNat (48 + u)).toNat = 48 + u := by
  rw [UInt8.toNat_ofNat']; omega
theorem dig_dig {u : Nat} (h : u < 10) : digB (UInt8.ofNat (48 + u)) = true := by
  unfold digB; rw [dig_nat h]; simp; omega

theorem dec_step (u : Nat) (h : ¬ u < 10) : Lib.decDigits u = Lib.decDigits (u / 10) ++ [UInt8.ofNat (48 + u % 10)] := by rw [Lib.decDigits, dif_neg h]
theorem dec_all (u : Nat) : (Lib.decDigits u).all digB = true := by
  induction u using Nat.strongRecOn with
  | ind u ih =>
    by_cases h : u < 10
    · rw [Lib.decDigits_one h, List.all_cons, dig_dig h]; rfl
    · rw [dec_step u h, List.all_append, ih (u / 10) (by omega), List.all_cons, dig_dig (Nat.mod_lt u (by omega : 10 > 0))]; rfl
theorem dec_val (u : Nat) : val 0 (Lib.decDigits u) = u := by
  induction u using Nat.strongRecOn with
  | ind u ih =>
    by_cases h : u < 10
    · rw [Lib.decDigits_one h, val_cons, val_nil, dig_nat h]; omega
    · rw [dec_step u h, val_snoc, ih (u / 10) (by omega), dig_nat (Nat.mod_lt u (by omega : 10 > 0))]; omega
theorem dec_ne (u : Nat) : Lib.decDigits u ≠ [] := by
  by_cases h : u < 10
  · rw [Lib.decDigits_one h]; simp
  · rw [dec_step u h]; simp
theorem dec_head (u : Nat) (h0 : u ≠ 0) : (Lib.decDigits u).headD 48 ≠ 48 := by
  induction u using Nat.strongRecOn with
  | ind u ih =>
    by_cases h : u < 10
    · rw [Lib.decDigits_one h]
      intro e
      have : (UInt8.ofNat (48 + u)).toNat = 48 := by rw [show UInt8.ofNat (48 + u) = 48 from e]; rfl
      rw [dig_nat h] at this
      omega
    · rw [dec_step u h]
      have hne := dec_ne (u / 10)
      have := ih (u / 10) (by omega) (by omega)
      cases hl : Lib.decDigits (u / 10) with
      | nil => exact absurd hl hne
      | cons c r => rw [hl] at this; simpa using this
theorem dec_plain (u : Nat) (h0 : u ≠ 0) : plainB (Lib.decDigits u) = true := by
  unfold plainB
  rw [dec_all]
  have h1 : (Lib.decDigits u).isEmpty = false := by
    cases hl : Lib.decDigits u with
    | nil => exact absurd hl (dec_ne u)
    | cons => rfl
  have h2 := dec_head u h0
  have h3 : ((Lib.decDigits u).headD 48 != 48) = true := bne_iff_ne.2 h2
  rw [h1, h3]
  rfl

theorem trim_plain {l : List UInt8} (h : plainB l = true) : Lib.trimPrefix l [45] = l := by
  have ha := plain_all h
  cases l with
  | nil => rfl
  | cons c r =>
    simp only [List.all_cons, Bool.and_eq_true] at ha
    have hd : 48 ≤ c.toNat ∧ c.toNat ≤ 57 := by simpa [digB] using ha.1
    have hc : ¬ (45 : UInt8) = c := by
      intro e; rw [← e] at hd; exact absurd hd.1 (by decide)
    unfold Lib.trimPrefix Lib.hasPrefix
    simp [hc]
theorem trim_minus (l : List UInt8) : Lib.trimPrefix (45 :: l) [45] = l := by
  unfold Lib.trimPrefix Lib.hasPrefix
  simp

/-- The text of a number is right in form, and Atoi tells the number. -/
theorem itoa_back (n : Int) (h0 : -9223372036854775808 ≤ n) (h1 : n ≤ 9223372036854775807) : formB ⟨(Lib.itoa n).toArray⟩ = true ∧ Lib.atoiAll (Lib.itoa n) = .ok n := by
  unfold formB trimV
  by_cases hn : n < 0
  · have e : Lib.itoa n = 45 :: Lib.decDigits n.natAbs := by rw [Lib.itoa, if_pos hn]
    have hp := dec_plain n.natAbs (by omega)
    rw [e]
    refine ⟨?_, ?_⟩
    · simp only [trim_minus, hp, Bool.or_true]
    · rw [atoi_minus hp, dec_val, if_pos (by omega)]
      congr 1; omega
  · have e : Lib.itoa n = Lib.decDigits n.toNat := by rw [Lib.itoa, if_neg hn]
    rw [e]
    by_cases hz : n = 0
    · subst hz
      have : Lib.decDigits (0 : Int).toNat = [48] := Lib.decDigits_one (i := 0) (by omega)
      rw [this]
      exact ⟨rfl, atoi_zero⟩
    · have hp := dec_plain n.toNat (by omega)
      refine ⟨?_, ?_⟩
      · simp only [trim_plain hp, hp, Bool.or_true]
      · rw [atoi_plain hp, dec_val, if_pos (by omega)]
        congr 1; omega
theorem itoa_inj (n m : Int) (h0 : -9223372036854775808 ≤ n) (h1 : n ≤ 9223372036854775807) (g0 : -9223372036854775808 ≤ m) (g1 : m ≤ 9223372036854775807) (h : Lib.itoa n = Lib.itoa m) : n = m := by
  have a := (itoa_back n h0 h1).2
  have b := (itoa_back m g0 g1).2
  rw [h, b] at a
  injection a with a
  exact a.symm

end Go.Proofs.YtgdchlgepgbhhaaDoor
