/-
  PLAIN: a text behind a line feed is a text for itself: its tokens are those of the first one, then those of the second one, moved. Nothing of the program stands here.
-/
import Derived.Test.YteikheaanefgbaaDoorMath
namespace Go.Proofs.YteikheaanefgbaaDoor
open Go.RowKit

theorem run_app {f : UInt8 → Bool} (h : f 10 = false) (x b : List UInt8) : runN f (x ++ 10 :: b) = runN f x := by
  induction x with
  | nil => rw [List.nil_append, runN_zero b h]; rfl
  | cons c r ih =>
    cases hc : f c with
    | true => rw [List.cons_append, runN_pos _ hc, runN_pos _ hc, ih]
    | false => rw [List.cons_append, runN_zero _ hc, runN_zero _ hc]
theorem com_app (c : UInt8) (r b : List UInt8) : comB ((c :: r) ++ 10 :: b) = comB (c :: r) := by
  cases r with
  | nil => simp [comB]
  | cons d r => rfl
theorem take_app (f : UInt8 → Bool) (x b : List UInt8) : (x ++ 10 :: b).take (runN f x) = x.take (runN f x) := List.take_append_of_le_length (runN_le f x)
theorem drop_app (x b : List UInt8) {n : Nat} (h : n ≤ x.length) : (x ++ 10 :: b).drop n = x.drop n ++ 10 :: b := List.drop_append_of_le_length h
theorem after_app (x b : List UInt8) : afterB (x ++ 10 :: b) = afterB x := by
  cases x with
  | nil => show letB 10 = false; decide
  | cons c r => rfl
theorem long_app (c : UInt8) (r b : List UInt8) : longB ((c :: r) ++ 10 :: b) = longB (c :: r) := by
  cases r with
  | nil => exact (long_no10 c).trans (long_no1 c).symm
  | cons d r => rfl
theorem tok_app (c : UInt8) (r b : List UInt8) : tokT ((c :: r) ++ 10 :: b) = tokT (c :: r) := by
  cases h1 : letB c with
  | true =>
    rw [List.cons_append, tokT_let _ h1, tokT_let _ h1, ← List.cons_append]
    unfold wordT
    rw [run_app (by decide), take_app]
  | false =>
    cases h2 : digB c with
    | true =>
      rw [List.cons_append, tokT_dig _ h1 h2, tokT_dig _ h1 h2, ← List.cons_append]
      unfold numT
      rw [run_app (by decide), take_app, drop_app _ _ (runN_le _ _), after_app]
    | false =>
      rw [List.cons_append, tokT_sign _ h1 h2, tokT_sign _ h1 h2, ← List.cons_append]
      unfold signT
      rw [long_app]

def R.thenR (r : R) (k : R) : R := match r with
  | .ok ts => k.pre ts
  | .bad p e => .bad p e
theorem thenR_pre (us : List Tok) (r k : R) : (r.pre us).thenR k = (r.thenR k).pre us := by
  cases r with
  | ok ts => simp [R.pre, R.thenR]; cases k <;> simp
  | bad p e => rfl
theorem scan_app (b : List UInt8) : ∀ (n : Nat) (x : List UInt8) (p : Nat), x.length ≤ n → scanS (x ++ 10 :: b) p = (scanS x p).thenR (scanS b (p + x.length + 1)) := by
  intro n
  induction n with
  | zero =>
    intro x p h
    have : x = [] := List.length_eq_zero_iff.1 (by omega)
    subst this
    rw [List.nil_append, scanS_blk p (by decide)]
    exact (R.pre_nil _).symm
  | succ n ih =>
    intro x p h
    cases x with
    | nil =>
      rw [List.nil_append, scanS_blk p (by decide)]
      exact (R.pre_nil _).symm
    | cons c r =>
      simp only [List.length_cons] at h
      cases hb : blkB c with
      | true =>
        rw [List.cons_append, scanS_blk p hb, scanS_blk p hb, ih r (p + 1) (by omega), List.length_cons, show p + 1 + r.length + 1 = p + (r.length + 1) + 1 by omega]
      | false =>
        cases hc : comB (c :: r) with
        | true =>
          have hn : notNl c = true := by have := com_head hc; simp [notNl, this]
          have hrn := runN_pos r hn
          have hrl := runN_le notNl (c :: r)
          have hca : comB (c :: (r ++ 10 :: b)) = true := (com_app c r b).trans hc
          rw [List.cons_append, scanS_com p hb hca, scanS_com p hb hc, ← List.cons_append, run_app (by decide), drop_app _ _ hrl]
          rw [ih _ _ (by rw [List.length_drop, List.length_cons]; omega), List.length_drop]
          rw [show p + runN notNl (c :: r) + ((c :: r).length - runN notNl (c :: r)) + 1 = p + (c :: r).length + 1 by omega]
        | false =>
          have hca : comB (c :: (r ++ 10 :: b)) = false := (com_app c r b).trans hc
          have hta : tokT (c :: (r ++ 10 :: b)) = tokT (c :: r) := tok_app c r b
          by_cases he : (tokT (c :: r)).err = 0
          · have hln := tok_len he
            rw [List.cons_append, scanS_tok p hb hca (by rw [hta]; exact he), scanS_tok p hb hc he, hta, ← List.cons_append, drop_app _ _ hln.2, List.take_append_of_le_length hln.2]
            rw [thenR_pre, ih _ _ (by rw [List.length_drop, List.length_cons]; omega), List.length_drop]
            rw [show p + (tokT (c :: r)).len + ((c :: r).length - (tokT (c :: r)).len) + 1 = p + (c :: r).length + 1 by omega]
          · rw [List.cons_append, scanS_bad p hb hca (by rw [hta]; exact he), scanS_bad p hb hc he, hta]; rfl

def moved (d : Nat) (t : Tok) : Tok := ⟨t.kind, t.text, t.place + d⟩
def R.shift (d : Nat) : R → R
  | .ok ts => .ok (ts.map (moved d))
  | .bad p e => .bad (p + d) e
theorem shift_pre (d : Nat) (us : List Tok) (r : R) : (r.pre us).shift d = (r.shift d).pre (us.map (moved d)) := by
  cases r <;> simp [R.pre, R.shift]
theorem scan_shift (d : Nat) : ∀ (n : Nat) (x : List UInt8) (p : Nat), x.length ≤ n → scanS x (p + d) = (scanS x p).shift d := by
  intro n
  induction n with
  | zero =>
    intro x p h
    have : x = [] := List.length_eq_zero_iff.1 (by omega)
    subst this
    rfl
  | succ n ih =>
    intro x p h
    cases x with
    | nil => rfl
    | cons c r =>
      simp only [List.length_cons] at h
      cases hb : blkB c with
      | true => rw [scanS_blk _ hb, scanS_blk _ hb, show p + d + 1 = p + 1 + d by omega, ih r _ (by omega)]
      | false =>
        cases hc : comB (c :: r) with
        | true =>
          have hn : notNl c = true := by have := com_head hc; simp [notNl, this]
          have hrn := runN_pos r hn
          rw [scanS_com _ hb hc, scanS_com _ hb hc, show p + d + runN notNl (c :: r) = p + runN notNl (c :: r) + d by omega, ih _ _ (by rw [List.length_drop, List.length_cons]; omega)]
        | false =>
          by_cases he : (tokT (c :: r)).err = 0
          · have hln := tok_len he
            rw [scanS_tok _ hb hc he, scanS_tok _ hb hc he, show p + d + (tokT (c :: r)).len = p + (tokT (c :: r)).len + d by omega, ih _ _ (by rw [List.length_drop, List.length_cons]; omega), shift_pre]; rfl
          · rw [scanS_bad _ hb hc he, scanS_bad _ hb hc he]; rfl

/-- The tokens of two texts with a line feed between. -/
theorem scan_two (a b : List UInt8) : sc (a ++ 10 :: b) 0 = (sc a 0).thenR ((sc b 0).shift (a.length + 1)) := by
  unfold sc
  rw [List.drop_zero, List.drop_zero, List.drop_zero, scan_app b a.length a 0 (Nat.le_refl _), show 0 + a.length + 1 = 0 + (a.length + 1) by omega, scan_shift (a.length + 1) b.length b 0 (Nat.le_refl _)]

end Go.Proofs.YteikheaanefgbaaDoor
