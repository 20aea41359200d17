/-
  PLAIN: functions that say what the functions of package lex answer, over lists of bytes; and facts about them. Nothing of the program stands here. No condition.
-/
import Derived.WalkKit
import Derived.Lib.Strings
import Derived.Test.YtkahbhfbgdbnfaaGreatDoorProg
import Derived.WalkSpells
import Derived.WalkLawsBesides
import Derived.Lib.Hide
import Derived.Shelf.Strings.OnBuilder
import Derived.Shelf.LaysM
import Derived.Shelf.Strconv.Itoa3
import Derived.Shelf.LaysC
import Derived.Shelf.Strconv.AtoiAll
import Derived.Shelf.Strconv.ErrVarAll
import Derived.Shelf.Strings.Prefix
namespace Go.Proofs.YtkahbhfbgdbnfaaGreatDoor
open Go.RowKit

def letB (b : UInt8) : Bool := (decide (97 ≤ b.toNat) && decide (b.toNat ≤ 122)) || (decide (65 ≤ b.toNat) && decide (b.toNat ≤ 90)) || decide (b.toNat = 95)
def digB (b : UInt8) : Bool := decide (48 ≤ b.toNat) && decide (b.toNat ≤ 57)
def wchB (b : UInt8) : Bool := letB b || digB b
def blkB (b : UInt8) : Bool := decide (b.toNat = 32) || decide (b.toNat = 9) || decide (b.toNat = 10) || decide (b.toNat = 13)
def notNl (b : UInt8) : Bool := !decide (b.toNat = 10)

/-- How many bytes at the head meet f. -/
def runN (f : UInt8 → Bool) : List UInt8 → Nat
  | [] => 0
  | c :: r => if f c then runN f r + 1 else 0

theorem runN_le (f : UInt8 → Bool) (l : List UInt8) : runN f l ≤ l.length := by
  induction l with
  | nil => exact Nat.le_refl _
  | cons c r ih => unfold runN; split <;> simp <;> omega
theorem runN_pos {f : UInt8 → Bool} {c : UInt8} (r : List UInt8) (h : f c = true) : runN f (c :: r) = runN f r + 1 := by rw [runN, if_pos h]
theorem runN_zero {f : UInt8 → Bool} {c : UInt8} (r : List UInt8) (h : f c = false) : runN f (c :: r) = 0 := by rw [runN, if_neg (by rw [h]; decide)]

/-- Where the run from p on ends. -/
def endAt (f : UInt8 → Bool) (l : List UInt8) (p : Nat) : Nat := p + runN f (l.drop p)
theorem endAt_step {f : UInt8 → Bool} {l : List UInt8} {p : Nat} (h : p < l.length) (hf : f l[p] = true) : endAt f l p = endAt f l (p + 1) := by
  unfold endAt
  rw [List.drop_eq_getElem_cons h, runN_pos _ hf]; omega
theorem endAt_stop {f : UInt8 → Bool} {l : List UInt8} {p : Nat} (h : p < l.length) (hf : f l[p] = false) : endAt f l p = p := by
  unfold endAt
  rw [List.drop_eq_getElem_cons h, runN_zero _ hf]; rfl
theorem endAt_end {f : UInt8 → Bool} {l : List UInt8} {p : Nat} (h : l.length ≤ p) : endAt f l p = p := by
  unfold endAt
  rw [List.drop_of_length_le h]; rfl
theorem endAt_le {f : UInt8 → Bool} {l : List UInt8} {p : Nat} (h : p ≤ l.length) : endAt f l p ≤ l.length := by
  unfold endAt
  have := runN_le f (l.drop p)
  rw [List.length_drop] at this
  omega
theorem le_endAt (f : UInt8 → Bool) (l : List UInt8) (p : Nat) : p ≤ endAt f l p := by unfold endAt; omega

def comB : List UInt8 → Bool
  | a :: b :: _ => decide (a.toNat = 47) && decide (b.toNat = 47)
  | _ => false
theorem com_head {c : UInt8} {r : List UInt8} (h : comB (c :: r) = true) : c.toNat = 47 := by
  cases r with
  | nil => simp [comB] at h
  | cons d r => simp [comB] at h; exact h.1

/-- How many bytes stand between, within a comment or not. -/
def skipN : Bool → List UInt8 → Nat
  | _, [] => 0
  | true, c :: r => skipN (notNl c) r + 1
  | false, c :: r => if blkB c then skipN false r + 1 else if comB (c :: r) then skipN true r + 1 else 0

theorem skip_in (l : List UInt8) : skipN true l = runN notNl l + skipN false (l.drop (runN notNl l)) := by
  induction l with
  | nil => rfl
  | cons c r ih =>
    by_cases h : notNl c = true
    · rw [runN_pos _ h, skipN, h, ih, List.drop_succ_cons]; omega
    · have h' : notNl c = false := by simpa using h
      have hb : blkB c = true := by
        have : c.toNat = 10 := by simpa [notNl] using h'
        simp [blkB, this]
      rw [runN_zero _ h', skipN, h', List.drop_zero, skipN, if_pos hb]; omega
theorem skip_blk {c : UInt8} (r : List UInt8) (h : blkB c = true) : skipN false (c :: r) = skipN false r + 1 := by rw [skipN, if_pos h]
theorem skip_com {c : UInt8} {r : List UInt8} (h : blkB c = false) (hc : comB (c :: r) = true) : skipN false (c :: r) = runN notNl (c :: r) + skipN false ((c :: r).drop (runN notNl (c :: r))) := by
  have hn : notNl c = true := by have := com_head hc; simp [notNl, this]
  rw [skipN, if_neg (by rw [h]; decide), if_pos hc, skip_in, runN_pos _ hn, List.drop_succ_cons]; omega
theorem skip_stop {c : UInt8} {r : List UInt8} (h : blkB c = false) (hc : comB (c :: r) = false) : skipN false (c :: r) = 0 := by
  rw [skipN, if_neg (by rw [h]; decide), if_neg (by rw [hc]; decide)]

def keyTab : List (List UInt8) := [[116, 121, 112, 101], [115, 116, 114, 117, 99, 116], [102, 117, 110, 99], [118, 97, 114], [105, 102], [101, 108, 115, 101], [102, 111, 114], [114, 101, 116, 117, 114, 110], [112, 114, 105, 110, 116], [110, 101, 119], [110, 105, 108], [116, 114, 117, 101], [102, 97, 108, 115, 101], [105, 110, 116], [98, 111, 111, 108], [114, 101, 97, 100]]
def keyB (l : List UInt8) : Bool := keyTab.contains l
def longTab : List (List UInt8) := [[60, 60], [62, 62], [61, 61], [33, 61], [60, 61], [62, 61], [38, 38], [124, 124], [58, 61]]
def longB (l : List UInt8) : Bool := longTab.contains (l.take 2)
def shortTab : List UInt8 := [43, 45, 42, 47, 37, 38, 124, 94, 60, 62, 33, 61, 46, 44, 59, 40, 41, 123, 125]
def shortB (c : UInt8) : Bool := shortTab.contains c

/-- What digits are worth, behind acc. -/
def val (acc : Nat) (l : List UInt8) : Nat := l.foldl (fun a c => a * 10 + (c.toNat - 48)) acc
/-- Digits, at least one, no zero ahead. -/
def plainB (l : List UInt8) : Bool := !l.isEmpty && (l.headD 48 != 48) && l.all digB
/-- The error of digits. -/
def parE (l : List UInt8) : Nat := if (l == [48]) || plainB l then (if val 0 l < 9223372036854775808 then 0 else 2) else 1

def afterB (l : List UInt8) : Bool := match l with | [] => false | c :: _ => letB c
/-- Error, kind and length of the token at the head. -/
structure Tk where
  err : Nat
  kind : Nat
  len : Nat
def wordT (l : List UInt8) : Tk := if 12 < runN wchB l then ⟨4, 0, 0⟩ else if keyB (l.take (runN wchB l)) then ⟨0, 2, runN wchB l⟩ else ⟨0, 1, runN wchB l⟩
def numT (l : List UInt8) : Tk := if afterB (l.drop (runN digB l)) then ⟨1, 0, 0⟩ else if parE (l.take (runN digB l)) = 0 then ⟨0, 3, runN digB l⟩ else ⟨parE (l.take (runN digB l)), 0, 0⟩
def signT (l : List UInt8) (c : UInt8) : Tk := if longB l then ⟨0, 4, 2⟩ else if shortB c then ⟨0, 4, 1⟩ else ⟨1, 0, 0⟩
def tokT (l : List UInt8) : Tk := match l with
  | [] => ⟨1, 0, 0⟩
  | c :: _ => if letB c then wordT l else if digB c then numT l else signT l c

structure Tok where
  kind : Nat
  text : List UInt8
  place : Nat
inductive R
  | ok (ts : List Tok)
  | bad (p e : Nat)
def R.pre (us : List Tok) : R → R
  | .ok ts => .ok (us ++ ts)
  | .bad p e => .bad p e
theorem R.pre_nil (r : R) : r.pre [] = r := by cases r <;> rfl
theorem R.pre_pre (a b : List Tok) (r : R) : (r.pre b).pre a = r.pre (a ++ b) := by cases r <;> simp [R.pre]

def scanF : Nat → List UInt8 → Nat → R
  | 0, _, _ => .ok []
  | _ + 1, [], _ => .ok []
  | f + 1, c :: r, p =>
    if blkB c then scanF f r (p + 1)
    else if comB (c :: r) then scanF f ((c :: r).drop (runN notNl (c :: r))) (p + runN notNl (c :: r))
    else if (tokT (c :: r)).err = 0 then (scanF f ((c :: r).drop (tokT (c :: r)).len) (p + (tokT (c :: r)).len)).pre [⟨(tokT (c :: r)).kind, (c :: r).take (tokT (c :: r)).len, p⟩]
    else .bad p (tokT (c :: r)).err
def scanS (l : List UInt8) (p : Nat) : R := scanF l.length l p

theorem long_len {c : UInt8} {r : List UInt8} (h : longB (c :: r) = true) : 2 ≤ (c :: r).length := by
  cases r with
  | nil => simp [longB, longTab] at h
  | cons d r => simp
theorem tokT_let {c : UInt8} (r : List UInt8) (h : letB c = true) : tokT (c :: r) = wordT (c :: r) := by unfold tokT; simp only [h, if_true]
theorem tokT_dig {c : UInt8} (r : List UInt8) (h : letB c = false) (hd : digB c = true) : tokT (c :: r) = numT (c :: r) := by unfold tokT; simp [h, hd]
theorem tokT_sign {c : UInt8} (r : List UInt8) (h : letB c = false) (hd : digB c = false) : tokT (c :: r) = signT (c :: r) c := by unfold tokT; simp [h, hd]
theorem word_len {c : UInt8} {r : List UInt8} (h1 : letB c = true) (h : (wordT (c :: r)).err = 0) : 1 ≤ (wordT (c :: r)).len ∧ (wordT (c :: r)).len ≤ (c :: r).length := by
  have hw : wchB c = true := by simp [wchB, h1]
  have h2 := runN_le wchB (c :: r)
  have h3 := runN_pos r hw
  generalize hn : runN wchB (c :: r) = n at *
  unfold wordT at h ⊢
  rw [hn] at h ⊢
  by_cases h4 : 12 < n
  · rw [if_pos h4] at h; exact absurd h (by decide)
  · rw [if_neg h4]
    by_cases h5 : keyB (List.take n (c :: r)) = true
    · rw [if_pos h5]; exact ⟨by show 1 ≤ n; omega, h2⟩
    · rw [if_neg h5]; exact ⟨by show 1 ≤ n; omega, h2⟩
theorem num_len {c : UInt8} {r : List UInt8} (h1 : digB c = true) (h : (numT (c :: r)).err = 0) : 1 ≤ (numT (c :: r)).len ∧ (numT (c :: r)).len ≤ (c :: r).length := by
  have h2 := runN_le digB (c :: r)
  have h3 := runN_pos r h1
  generalize hn : runN digB (c :: r) = n at *
  unfold numT at h ⊢
  rw [hn] at h ⊢
  by_cases h4 : afterB (List.drop n (c :: r)) = true
  · rw [if_pos h4] at h; exact absurd h (by simp)
  · rw [if_neg h4] at h ⊢
    by_cases h5 : parE (List.take n (c :: r)) = 0
    · rw [if_pos h5]; exact ⟨by show 1 ≤ n; omega, h2⟩
    · rw [if_neg h5] at h; exact absurd h h5
theorem sign_len {c : UInt8} {r : List UInt8} (h : (signT (c :: r) c).err = 0) : 1 ≤ (signT (c :: r) c).len ∧ (signT (c :: r) c).len ≤ (c :: r).length := by
  unfold signT at h ⊢
  by_cases h3 : longB (c :: r) = true
  · have := long_len h3
    rw [if_pos h3]
    exact ⟨by show 1 ≤ 2; omega, this⟩
  · rw [if_neg h3] at h ⊢
    by_cases h4 : shortB c = true
    · rw [if_pos h4]; exact ⟨Nat.le_refl _, by show 1 ≤ _; simp⟩
    · rw [if_neg h4] at h; exact absurd h (by simp)
theorem tok_len {c : UInt8} {r : List UInt8} (h : (tokT (c :: r)).err = 0) : 1 ≤ (tokT (c :: r)).len ∧ (tokT (c :: r)).len ≤ (c :: r).length := by
  cases h1 : letB c with
  | true => rw [tokT_let r h1] at h ⊢; exact word_len h1 h
  | false =>
    cases h2 : digB c with
    | true => rw [tokT_dig r h1 h2] at h ⊢; exact num_len h2 h
    | false => rw [tokT_sign r h1 h2] at h ⊢; exact sign_len h

theorem scanF_fuel : ∀ (n : Nat) (l : List UInt8) (p f g : Nat), l.length ≤ n → l.length ≤ f → l.length ≤ g → scanF f l p = scanF g l p := by
  intro n
  induction n with
  | zero =>
    intro l p f g hn _ _
    have : l = [] := List.length_eq_zero_iff.1 (by omega)
    subst this
    cases f <;> cases g <;> rfl
  | succ n ih =>
    intro l p f g hn hf hg
    cases l with
    | nil => cases f <;> cases g <;> rfl
    | cons c r =>
      simp only [List.length_cons] at hn hf hg
      cases f with
      | zero => omega
      | succ f =>
        cases g with
        | zero => omega
        | succ g =>
          rw [scanF, scanF]
          by_cases h1 : blkB c = true
          · rw [if_pos h1, if_pos h1]; exact ih r _ f g (by omega) (by omega) (by omega)
          · rw [if_neg h1, if_neg h1]
            by_cases h2 : comB (c :: r) = true
            · rw [if_pos h2, if_pos h2]
              have hr : notNl c = true := by have := com_head h2; simp [notNl, this]
              have h3 := runN_pos r hr
              exact ih _ _ f g (by rw [List.length_drop, List.length_cons]; omega) (by rw [List.length_drop, List.length_cons]; omega) (by rw [List.length_drop, List.length_cons]; omega)
            · rw [if_neg h2, if_neg h2]
              by_cases h3 : (tokT (c :: r)).err = 0
              · rw [if_pos h3, if_pos h3]
                have h4 := tok_len h3
                rw [ih _ _ f g (by rw [List.length_drop, List.length_cons]; omega) (by rw [List.length_drop, List.length_cons]; omega) (by rw [List.length_drop, List.length_cons]; omega)]
              · rw [if_neg h3, if_neg h3]

theorem scanS_nil (p : Nat) : scanS [] p = .ok [] := rfl
theorem scanS_blk {c : UInt8} {r : List UInt8} (p : Nat) (h : blkB c = true) : scanS (c :: r) p = scanS r (p + 1) := by
  unfold scanS
  rw [List.length_cons, scanF, if_pos h]
theorem scanS_com {c : UInt8} {r : List UInt8} (p : Nat) (h : blkB c = false) (hc : comB (c :: r) = true) : scanS (c :: r) p = scanS ((c :: r).drop (runN notNl (c :: r))) (p + runN notNl (c :: r)) := by
  have hr : notNl c = true := by have := com_head hc; simp [notNl, this]
  have h3 := runN_pos r hr
  unfold scanS
  rw [List.length_cons, scanF, if_neg (by rw [h]; decide), if_pos hc]
  exact scanF_fuel r.length _ _ _ _ (by rw [List.length_drop, List.length_cons]; omega) (by rw [List.length_drop, List.length_cons]; omega) (Nat.le_refl _)
theorem scanS_tok {c : UInt8} {r : List UInt8} (p : Nat) (h : blkB c = false) (hc : comB (c :: r) = false) (he : (tokT (c :: r)).err = 0) :
    scanS (c :: r) p = (scanS ((c :: r).drop (tokT (c :: r)).len) (p + (tokT (c :: r)).len)).pre [⟨(tokT (c :: r)).kind, (c :: r).take (tokT (c :: r)).len, p⟩] := by
  have h4 := tok_len he
  unfold scanS
  rw [List.length_cons, scanF, if_neg (by rw [h]; decide), if_neg (by rw [hc]; decide), if_pos he]
  rw [scanF_fuel r.length _ _ r.length _ (by rw [List.length_drop, List.length_cons]; omega) (by rw [List.length_drop, List.length_cons]; omega) (Nat.le_refl _)]
theorem scanS_bad {c : UInt8} {r : List UInt8} (p : Nat) (h : blkB c = false) (hc : comB (c :: r) = false) (he : (tokT (c :: r)).err ≠ 0) : scanS (c :: r) p = .bad p (tokT (c :: r)).err := by
  unfold scanS
  rw [List.length_cons, scanF, if_neg (by rw [h]; decide), if_neg (by rw [hc]; decide), if_neg he]

/-- By places of one text. -/
def sc (l : List UInt8) (k : Nat) : R := scanS (l.drop k) k
def comAt (l : List UInt8) (k : Nat) : Bool := comB (l.drop k)
def skipAt (l : List UInt8) (k : Nat) : Nat := k + skipN false (l.drop k)
def tokAt (l : List UInt8) (k : Nat) : Tk := tokT (l.drop k)
theorem sc_end {l : List UInt8} {k : Nat} (h : l.length ≤ k) : sc l k = .ok [] := by unfold sc; rw [List.drop_of_length_le h]; rfl
theorem sc_blk {l : List UInt8} {k : Nat} (h : k < l.length) (hb : blkB l[k] = true) : sc l k = sc l (k + 1) := by
  unfold sc; rw [List.drop_eq_getElem_cons h, scanS_blk _ hb]
theorem sc_com {l : List UInt8} {k : Nat} (h : k < l.length) (hb : blkB l[k] = false) (hc : comAt l k = true) : sc l k = sc l (endAt notNl l k) := by
  unfold sc comAt at *
  rw [List.drop_eq_getElem_cons h] at hc
  rw [show List.drop (endAt notNl l k) l = (l.drop k).drop (runN notNl (l.drop k)) by rw [List.drop_drop]; rfl]
  rw [show endAt notNl l k = k + runN notNl (l.drop k) from rfl]
  rw [List.drop_eq_getElem_cons h, scanS_com _ hb hc]
theorem sc_tok {l : List UInt8} {k : Nat} (h : k < l.length) (hb : blkB l[k] = false) (hc : comAt l k = false) (he : (tokAt l k).err = 0) :
    sc l k = (sc l (k + (tokAt l k).len)).pre [⟨(tokAt l k).kind, (l.drop k).take (tokAt l k).len, k⟩] := by
  unfold sc comAt tokAt at *
  rw [List.drop_eq_getElem_cons h] at hc he ⊢
  rw [scanS_tok _ hb hc he]
  rw [show List.drop (k + (tokT (l[k] :: List.drop (k + 1) l)).len) l = (l.drop k).drop (tokT (l[k] :: List.drop (k + 1) l)).len by rw [List.drop_drop]]
  rw [List.drop_eq_getElem_cons h]
theorem sc_bad {l : List UInt8} {k : Nat} (h : k < l.length) (hb : blkB l[k] = false) (hc : comAt l k = false) (he : (tokAt l k).err ≠ 0) : sc l k = .bad k (tokAt l k).err := by
  unfold sc comAt tokAt at *
  rw [List.drop_eq_getElem_cons h] at hc he ⊢
  rw [scanS_bad _ hb hc he]
theorem tokAt_len {l : List UInt8} {k : Nat} (h : k < l.length) (he : (tokAt l k).err = 0) : 1 ≤ (tokAt l k).len ∧ k + (tokAt l k).len ≤ l.length := by
  unfold tokAt at *
  have hl : (l.drop k).length = l.length - k := List.length_drop
  rw [List.drop_eq_getElem_cons h] at he hl ⊢
  have := tok_len he
  omega

theorem skipAt_blk {l : List UInt8} {k : Nat} (h : k < l.length) (hb : blkB l[k] = true) : skipAt l k = skipAt l (k + 1) := by
  unfold skipAt; rw [List.drop_eq_getElem_cons h, skip_blk _ hb]; omega
theorem skipAt_com {l : List UInt8} {k : Nat} (h : k < l.length) (hb : blkB l[k] = false) (hc : comAt l k = true) : skipAt l k = skipAt l (endAt notNl l k) := by
  unfold skipAt comAt at *
  rw [List.drop_eq_getElem_cons h] at hc
  rw [show List.drop (endAt notNl l k) l = (l.drop k).drop (runN notNl (l.drop k)) by rw [List.drop_drop]; rfl]
  rw [show endAt notNl l k = k + runN notNl (l.drop k) from rfl]
  rw [List.drop_eq_getElem_cons h, skip_com hb hc]; omega
theorem skipAt_stop {l : List UInt8} {k : Nat} (h : k < l.length) (hb : blkB l[k] = false) (hc : comAt l k = false) : skipAt l k = k := by
  unfold skipAt comAt at *
  rw [List.drop_eq_getElem_cons h] at hc ⊢
  rw [skip_stop hb hc]; rfl
theorem skipAt_end {l : List UInt8} {k : Nat} (h : l.length ≤ k) : skipAt l k = k := by unfold skipAt; rw [List.drop_of_length_le h]; rfl
theorem endAt_com {l : List UInt8} {k : Nat} (h : k < l.length) (hc : comAt l k = true) : k + 1 ≤ endAt notNl l k := by
  unfold comAt at hc
  rw [List.drop_eq_getElem_cons h] at hc
  have := com_head hc
  rw [endAt_step h (by simp [notNl, this])]
  exact le_endAt _ _ _
/-- Behind what stands between, the same tokens; and there the text ends, or a token begins. -/
theorem skip_all (l : List UInt8) : ∀ (n k : Nat), l.length - k ≤ n → k ≤ l.length → sc l k = sc l (skipAt l k) ∧ k ≤ skipAt l k ∧ skipAt l k ≤ l.length ∧
    (∀ h : skipAt l k < l.length, blkB l[skipAt l k] = false ∧ comAt l (skipAt l k) = false) := by
  intro n
  induction n with
  | zero =>
    intro k hn hk
    have : skipAt l k = k := skipAt_end (by omega)
    rw [this]
    exact ⟨rfl, Nat.le_refl _, hk, fun h => by omega⟩
  | succ n ih =>
    intro k hn hk
    by_cases hlt : k < l.length
    · by_cases hb : blkB l[k] = true
      · have := ih (k + 1) (by omega) (by omega)
        rw [sc_blk hlt hb, skipAt_blk hlt hb]
        exact ⟨this.1, by omega, this.2.2⟩
      · have hb' : blkB l[k] = false := by simpa using hb
        by_cases hc : comAt l k = true
        · have h1 := endAt_com hlt hc
          have h2 : endAt notNl l k ≤ l.length := endAt_le hk
          have := ih (endAt notNl l k) (by omega) h2
          rw [sc_com hlt hb' hc, skipAt_com hlt hb' hc]
          exact ⟨this.1, by omega, this.2.2⟩
        · have hc' : comAt l k = false := by simpa using hc
          have : skipAt l k = k := skipAt_stop hlt hb' hc'
          rw [this]
          exact ⟨rfl, Nat.le_refl _, hk, fun _ => ⟨hb', hc'⟩⟩
    · have : skipAt l k = k := skipAt_end (by omega)
      rw [this]
      exact ⟨rfl, Nat.le_refl _, hk, fun h => by omega⟩

end Go.Proofs.YtkahbhfbgdbnfaaGreatDoor

/-
  CONTRACTS: isLetter, isDigit, isBlank (and the reference's letter, digit) at every byte; wordEnd, commentEnd at every text and place. The world is as it was.
-/
namespace Go.Proofs.YtkahbhfbgdbnfaaGreatDoor
open Go.RowKit

theorem ret_bool {a b : Bool} (h : a = b) : Ending.returned (.bool a) = .returned (.bool b) := by rw [h]
theorem ret_int {k : IntKind} {a b : Int} (h : a = b) : Ending.returned (.int k a) = .returned (.int k b) := by rw [h]
theorem ret_str {a b : ByteArray} (h : a = b) : Ending.returned (.string a) = .returned (.string b) := by rw [h]



set_option maxRecDepth 100000 in
set_option maxHeartbeats 400000 in
theorem isLetter_any (c : UInt8) (w : World) : Calls Tryz.prog 114 #[.int .u8 c.toNat] w fun e w' => e = .returned (.bool (letB c)) ∧ w = w' := by
  obtain ⟨b, hb⟩ : ∃ b, b = letB c := ⟨_, rfl⟩
  rw [← hb]
  have HB := Lib.hid hb
  clear hb
  by_cases h1 : 97 ≤ c.toNat
  · have ih1 : (97 : Int) ≤ (c.toNat : Int) := by first | omega | (simp; omega)
    by_cases h2 : c.toNat ≤ 122
    · have ih2 : (c.toNat : Int) ≤ 122 := by first | omega | (simp; omega)
      go_enter Tryz.func114, Tryz.ntmps114
      go_wp2
      go_ret
      exact ⟨ret_bool (by rw [HB.out]; unfold letB; simp; omega), rfl⟩
    · have ih2 : ¬ (c.toNat : Int) ≤ 122 := by first | omega | (simp; omega)
      by_cases h3 : 65 ≤ c.toNat
      · have ih3 : (65 : Int) ≤ (c.toNat : Int) := by first | omega | (simp; omega)
        by_cases h4 : c.toNat ≤ 90
        · have ih4 : (c.toNat : Int) ≤ 90 := by first | omega | (simp; omega)
          go_enter Tryz.func114, Tryz.ntmps114
          go_wp2
          go_ret
          exact ⟨ret_bool (by rw [HB.out]; unfold letB; simp; omega), rfl⟩
        · have ih4 : ¬ (c.toNat : Int) ≤ 90 := by first | omega | (simp; omega)
          by_cases h5 : c.toNat = 95
          · have ih5 : ((c.toNat : Int) == 95) = true := by first | omega | (simp; omega)
            go_enter Tryz.func114, Tryz.ntmps114
            go_wp2
            go_ret
            exact ⟨ret_bool (by rw [HB.out]; unfold letB; simp; omega), rfl⟩
          · have ih5 : ((c.toNat : Int) == 95) = false := by first | omega | (simp; omega)
            go_enter Tryz.func114, Tryz.ntmps114
            go_wp2
            go_ret
            exact ⟨ret_bool (by rw [HB.out]; unfold letB; simp; omega), rfl⟩
      · have ih3 : ¬ (65 : Int) ≤ (c.toNat : Int) := by first | omega | (simp; omega)
        by_cases h5 : c.toNat = 95
        · have ih5 : ((c.toNat : Int) == 95) = true := by first | omega | (simp; omega)
          go_enter Tryz.func114, Tryz.ntmps114
          go_wp2
          go_ret
          exact ⟨ret_bool (by rw [HB.out]; unfold letB; simp; omega), rfl⟩
        · have ih5 : ((c.toNat : Int) == 95) = false := by first | omega | (simp; omega)
          go_enter Tryz.func114, Tryz.ntmps114
          go_wp2
          go_ret
          exact ⟨ret_bool (by rw [HB.out]; unfold letB; simp; omega), rfl⟩
  · have ih1 : ¬ (97 : Int) ≤ (c.toNat : Int) := by first | omega | (simp; omega)
    by_cases h3 : 65 ≤ c.toNat
    · have ih3 : (65 : Int) ≤ (c.toNat : Int) := by first | omega | (simp; omega)
      by_cases h4 : c.toNat ≤ 90
      · have ih4 : (c.toNat : Int) ≤ 90 := by first | omega | (simp; omega)
        go_enter Tryz.func114, Tryz.ntmps114
        go_wp2
        go_ret
        exact ⟨ret_bool (by rw [HB.out]; unfold letB; simp; omega), rfl⟩
      · have ih4 : ¬ (c.toNat : Int) ≤ 90 := by first | omega | (simp; omega)
        by_cases h5 : c.toNat = 95
        · have ih5 : ((c.toNat : Int) == 95) = true := by first | omega | (simp; omega)
          go_enter Tryz.func114, Tryz.ntmps114
          go_wp2
          go_ret
          exact ⟨ret_bool (by rw [HB.out]; unfold letB; simp; omega), rfl⟩
        · have ih5 : ((c.toNat : Int) == 95) = false := by first | omega | (simp; omega)
          go_enter Tryz.func114, Tryz.ntmps114
          go_wp2
          go_ret
          exact ⟨ret_bool (by rw [HB.out]; unfold letB; simp; omega), rfl⟩
    · have ih3 : ¬ (65 : Int) ≤ (c.toNat : Int) := by first | omega | (simp; omega)
      by_cases h5 : c.toNat = 95
      · have ih5 : ((c.toNat : Int) == 95) = true := by first | omega | (simp; omega)
        go_enter Tryz.func114, Tryz.ntmps114
        go_wp2
        go_ret
        exact ⟨ret_bool (by rw [HB.out]; unfold letB; simp; omega), rfl⟩
      · have ih5 : ((c.toNat : Int) == 95) = false := by first | omega | (simp; omega)
        go_enter Tryz.func114, Tryz.ntmps114
        go_wp2
        go_ret
        exact ⟨ret_bool (by rw [HB.out]; unfold letB; simp; omega), rfl⟩

set_option maxRecDepth 100000 in
set_option maxHeartbeats 400000 in
theorem letter_any (c : UInt8) (w : World) : Calls Tryz.prog 56 #[.int .u8 c.toNat] w fun e w' => e = .returned (.bool (letB c)) ∧ w = w' := by
  obtain ⟨b, hb⟩ : ∃ b, b = letB c := ⟨_, rfl⟩
  rw [← hb]
  have HB := Lib.hid hb
  clear hb
  by_cases h1 : 97 ≤ c.toNat
  · have ih1 : (97 : Int) ≤ (c.toNat : Int) := by first | omega | (simp; omega)
    by_cases h2 : c.toNat ≤ 122
    · have ih2 : (c.toNat : Int) ≤ 122 := by first | omega | (simp; omega)
      go_enter Tryz.func56, Tryz.ntmps56
      go_wp2
      go_ret
      exact ⟨ret_bool (by rw [HB.out]; unfold letB; simp; omega), rfl⟩
    · have ih2 : ¬ (c.toNat : Int) ≤ 122 := by first | omega | (simp; omega)
      by_cases h3 : 65 ≤ c.toNat
      · have ih3 : (65 : Int) ≤ (c.toNat : Int) := by first | omega | (simp; omega)
        by_cases h4 : c.toNat ≤ 90
        · have ih4 : (c.toNat : Int) ≤ 90 := by first | omega | (simp; omega)
          go_enter Tryz.func56, Tryz.ntmps56
          go_wp2
          go_ret
          exact ⟨ret_bool (by rw [HB.out]; unfold letB; simp; omega), rfl⟩
        · have ih4 : ¬ (c.toNat : Int) ≤ 90 := by first | omega | (simp; omega)
          by_cases h5 : c.toNat = 95
          · have ih5 : ((c.toNat : Int) == 95) = true := by first | omega | (simp; omega)
            go_enter Tryz.func56, Tryz.ntmps56
            go_wp2
            go_ret
            exact ⟨ret_bool (by rw [HB.out]; unfold letB; simp; omega), rfl⟩
          · have ih5 : ((c.toNat : Int) == 95) = false := by first | omega | (simp; omega)
            go_enter Tryz.func56, Tryz.ntmps56
            go_wp2
            go_ret
            exact ⟨ret_bool (by rw [HB.out]; unfold letB; simp; omega), rfl⟩
      · have ih3 : ¬ (65 : Int) ≤ (c.toNat : Int) := by first | omega | (simp; omega)
        by_cases h5 : c.toNat = 95
        · have ih5 : ((c.toNat : Int) == 95) = true := by first | omega | (simp; omega)
          go_enter Tryz.func56, Tryz.ntmps56
          go_wp2
          go_ret
          exact ⟨ret_bool (by rw [HB.out]; unfold letB; simp; omega), rfl⟩
        · have ih5 : ((c.toNat : Int) == 95) = false := by first | omega | (simp; omega)
          go_enter Tryz.func56, Tryz.ntmps56
          go_wp2
          go_ret
          exact ⟨ret_bool (by rw [HB.out]; unfold letB; simp; omega), rfl⟩
  · have ih1 : ¬ (97 : Int) ≤ (c.toNat : Int) := by first | omega | (simp; omega)
    by_cases h3 : 65 ≤ c.toNat
    · have ih3 : (65 : Int) ≤ (c.toNat : Int) := by first | omega | (simp; omega)
      by_cases h4 : c.toNat ≤ 90
      · have ih4 : (c.toNat : Int) ≤ 90 := by first | omega | (simp; omega)
        go_enter Tryz.func56, Tryz.ntmps56
        go_wp2
        go_ret
        exact ⟨ret_bool (by rw [HB.out]; unfold letB; simp; omega), rfl⟩
      · have ih4 : ¬ (c.toNat : Int) ≤ 90 := by first | omega | (simp; omega)
        by_cases h5 : c.toNat = 95
        · have ih5 : ((c.toNat : Int) == 95) = true := by first | omega | (simp; omega)
          go_enter Tryz.func56, Tryz.ntmps56
          go_wp2
          go_ret
          exact ⟨ret_bool (by rw [HB.out]; unfold letB; simp; omega), rfl⟩
        · have ih5 : ((c.toNat : Int) == 95) = false := by first | omega | (simp; omega)
          go_enter Tryz.func56, Tryz.ntmps56
          go_wp2
          go_ret
          exact ⟨ret_bool (by rw [HB.out]; unfold letB; simp; omega), rfl⟩
    · have ih3 : ¬ (65 : Int) ≤ (c.toNat : Int) := by first | omega | (simp; omega)
      by_cases h5 : c.toNat = 95
      · have ih5 : ((c.toNat : Int) == 95) = true := by first | omega | (simp; omega)
        go_enter Tryz.func56, Tryz.ntmps56
        go_wp2
        go_ret
        exact ⟨ret_bool (by rw [HB.out]; unfold letB; simp; omega), rfl⟩
      · have ih5 : ((c.toNat : Int) == 95) = false := by first | omega | (simp; omega)
        go_enter Tryz.func56, Tryz.ntmps56
        go_wp2
        go_ret
        exact ⟨ret_bool (by rw [HB.out]; unfold letB; simp; omega), rfl⟩

set_option maxRecDepth 100000 in
set_option maxHeartbeats 400000 in
theorem isDigit_any (c : UInt8) (w : World) : Calls Tryz.prog 123 #[.int .u8 c.toNat] w fun e w' => e = .returned (.bool (digB c)) ∧ w = w' := by
  obtain ⟨b, hb⟩ : ∃ b, b = digB c := ⟨_, rfl⟩
  rw [← hb]
  have HB := Lib.hid hb
  clear hb
  by_cases h1 : 48 ≤ c.toNat
  · have ih1 : (48 : Int) ≤ (c.toNat : Int) := by first | omega | (simp; omega)
    by_cases h2 : c.toNat ≤ 57
    · have ih2 : (c.toNat : Int) ≤ 57 := by first | omega | (simp; omega)
      go_enter Tryz.func123, Tryz.ntmps123
      go_wp2
      go_ret
      exact ⟨ret_bool (by rw [HB.out]; unfold digB; simp; omega), rfl⟩
    · have ih2 : ¬ (c.toNat : Int) ≤ 57 := by first | omega | (simp; omega)
      go_enter Tryz.func123, Tryz.ntmps123
      go_wp2
      go_ret
      exact ⟨ret_bool (by rw [HB.out]; unfold digB; simp; omega), rfl⟩
  · have ih1 : ¬ (48 : Int) ≤ (c.toNat : Int) := by first | omega | (simp; omega)
    go_enter Tryz.func123, Tryz.ntmps123
    go_wp2
    go_ret
    exact ⟨ret_bool (by rw [HB.out]; unfold digB; simp; omega), rfl⟩

set_option maxRecDepth 100000 in
set_option maxHeartbeats 400000 in
theorem digit_any (c : UInt8) (w : World) : Calls Tryz.prog 57 #[.int .u8 c.toNat] w fun e w' => e = .returned (.bool (digB c)) ∧ w = w' := by
  obtain ⟨b, hb⟩ : ∃ b, b = digB c := ⟨_, rfl⟩
  rw [← hb]
  have HB := Lib.hid hb
  clear hb
  by_cases h1 : 48 ≤ c.toNat
  · have ih1 : (48 : Int) ≤ (c.toNat : Int) := by first | omega | (simp; omega)
    by_cases h2 : c.toNat ≤ 57
    · have ih2 : (c.toNat : Int) ≤ 57 := by first | omega | (simp; omega)
      go_enter Tryz.func57, Tryz.ntmps57
      go_wp2
      go_ret
      exact ⟨ret_bool (by rw [HB.out]; unfold digB; simp; omega), rfl⟩
    · have ih2 : ¬ (c.toNat : Int) ≤ 57 := by first | omega | (simp; omega)
      go_enter Tryz.func57, Tryz.ntmps57
      go_wp2
      go_ret
      exact ⟨ret_bool (by rw [HB.out]; unfold digB; simp; omega), rfl⟩
  · have ih1 : ¬ (48 : Int) ≤ (c.toNat : Int) := by first | omega | (simp; omega)
    go_enter Tryz.func57, Tryz.ntmps57
    go_wp2
    go_ret
    exact ⟨ret_bool (by rw [HB.out]; unfold digB; simp; omega), rfl⟩

set_option maxRecDepth 100000 in
set_option maxHeartbeats 400000 in
theorem isBlank_any (c : UInt8) (w : World) : Calls Tryz.prog 119 #[.int .u8 c.toNat] w fun e w' => e = .returned (.bool (blkB c)) ∧ w = w' := by
  obtain ⟨b, hb⟩ : ∃ b, b = blkB c := ⟨_, rfl⟩
  rw [← hb]
  have HB := Lib.hid hb
  clear hb
  by_cases h1 : c.toNat = 32
  · have ih1 : ((c.toNat : Int) == 32) = true := by first | omega | (simp; omega)
    go_enter Tryz.func119, Tryz.ntmps119
    go_wp2
    go_ret
    exact ⟨ret_bool (by rw [HB.out]; unfold blkB; simp; omega), rfl⟩
  · have ih1 : ((c.toNat : Int) == 32) = false := by first | omega | (simp; omega)
    by_cases h2 : c.toNat = 9
    · have ih2 : ((c.toNat : Int) == 9) = true := by first | omega | (simp; omega)
      go_enter Tryz.func119, Tryz.ntmps119
      go_wp2
      go_ret
      exact ⟨ret_bool (by rw [HB.out]; unfold blkB; simp; omega), rfl⟩
    · have ih2 : ((c.toNat : Int) == 9) = false := by first | omega | (simp; omega)
      by_cases h3 : c.toNat = 10
      · have ih3 : ((c.toNat : Int) == 10) = true := by first | omega | (simp; omega)
        go_enter Tryz.func119, Tryz.ntmps119
        go_wp2
        go_ret
        exact ⟨ret_bool (by rw [HB.out]; unfold blkB; simp; omega), rfl⟩
      · have ih3 : ((c.toNat : Int) == 10) = false := by first | omega | (simp; omega)
        by_cases h4 : c.toNat = 13
        · have ih4 : ((c.toNat : Int) == 13) = true := by first | omega | (simp; omega)
          go_enter Tryz.func119, Tryz.ntmps119
          go_wp2
          go_ret
          exact ⟨ret_bool (by rw [HB.out]; unfold blkB; simp; omega), rfl⟩
        · have ih4 : ((c.toNat : Int) == 13) = false := by first | omega | (simp; omega)
          go_enter Tryz.func119, Tryz.ntmps119
          go_wp2
          go_ret
          exact ⟨ret_bool (by rw [HB.out]; unfold blkB; simp; omega), rfl⟩


end Go.Proofs.YtkahbhfbgdbnfaaGreatDoor

/-
  CONTRACTS OF THE LIBRARY AT THIS PROGRAM: what strconv.Itoa, strconv.Atoi, strings.HasPrefix, strings.TrimPrefix and strings.Join answer, each by one application of the guide's shelf. Conditions: as each states them.
-/
namespace Go.Proofs
open Go.Shelf
def Tryz.lays156_ren : Go.Shelf.Ren := ⟨fun | 156 => 45 | 165 => 74 | 166 => 75 | 169 => 76 | 240 => 105 | 241 => 106 | 276 => 143 | 277 => 144 | n => n, fun | 31 => 63 | 9 => 9 | 3 => 3 | 4 => 4 | 0 => 0 | 20 => 20 | 72 => 126 | 76 => 130 | 70 => 124 | 37 => 120 | 75 => 129 | 127 => 154 | 164 => 167 | 5 => 5 | 80 => 87 | n => n, fun | n => n⟩
theorem Tryz.lays156 : Go.Proofs.Lays.n156 Tryz.prog Tryz.lays156_ren := {
  mixed := by kernel_rfl
  f156 := Tryz.func45.trans (congrArg some (by kernel_rfl))
  f165 := Tryz.func74.trans (congrArg some (by kernel_rfl))
  f166 := Tryz.func75.trans (congrArg some (by kernel_rfl))
  f169 := Tryz.func76.trans (congrArg some (by kernel_rfl))
  f240 := Tryz.func105.trans (congrArg some (by kernel_rfl))
  f241 := Tryz.func106.trans (congrArg some (by kernel_rfl))
  f276 := Tryz.func143.trans (congrArg some (by kernel_rfl))
  f277 := Tryz.func144.trans (congrArg some (by kernel_rfl))
  t0 := Tryz.underlying0
  a0 := Tryz.isAgg0
  z0 := Tryz.sizeOf0
  v0 := Tryz.zeroValue0
  t3 := Tryz.underlying3
  a3 := Tryz.isAgg3
  z3 := Tryz.sizeOf3
  v3 := Tryz.zeroValue3
  t4 := Tryz.underlying4
  a4 := Tryz.isAgg4
  z4 := Tryz.sizeOf4
  v4 := Tryz.zeroValue4
  t9 := Tryz.underlying9
  a9 := Tryz.isAgg9
  z9 := Tryz.sizeOf9
  v9 := Tryz.zeroValue9
  t20 := Tryz.underlying20
  a20 := Tryz.isAgg20
  z20 := Tryz.sizeOf20
  v20 := Tryz.zeroValue20
  t31 := Tryz.underlying63
  a31 := Tryz.isAgg63
  z31 := Tryz.sizeOf63
  v31 := Tryz.zeroValue63
  t37 := Tryz.underlying120
  a37 := Tryz.isAgg120
  z37 := Tryz.sizeOf120
  v37 := Tryz.zeroValue120
  t70 := Tryz.underlying124
  a70 := Tryz.isAgg124
  z70 := Tryz.sizeOf124
  v70 := Tryz.zeroValue124
  t72 := Tryz.underlying126
  a72 := Tryz.isAgg126
  z72 := Tryz.sizeOf126
  v72 := Tryz.zeroValue126
  t75 := Tryz.underlying129
  a75 := Tryz.isAgg129
  z75 := Tryz.sizeOf129
  v75 := Tryz.zeroValue129
  t76 := Tryz.underlying130
  a76 := Tryz.isAgg130
  z76 := Tryz.sizeOf130
  v76 := Tryz.zeroValue130
  t127 := Tryz.underlying154
  a127 := Tryz.isAgg154
  z127 := Tryz.sizeOf154
  v127 := Tryz.zeroValue154
  t164 := Tryz.underlying167
  a164 := Tryz.isAgg167
  z164 := Tryz.sizeOf167
  v164 := Tryz.zeroValue167 }
theorem Tryz.Builder_Extra_156 : Builder.Extra Tryz.prog Tryz.lays156_ren := {
  sizeBuilder := by kernel_rfl
  liesBuilder := by kernel_rfl
  t5 := Tryz.underlying5
  a5 := Tryz.isAgg5
  z5 := Tryz.sizeOf5
  v5 := Tryz.zeroValue5
  infoByte := by kernel_rfl
  cellsByte := by kernel_rfl
  sizeByte := by kernel_rfl
  neB5 := by decide }
open Go.RowKit in
theorem Tryz.strings_Join_none (a : Option Addr) (c : Nat) (sep : ByteArray) (w : World) :
    Calls Tryz.prog 45 #[.slice a 0 c, .string sep] w fun e w' => e = .returned (.string ⟨#[]⟩) ∧ w' = w := Any.strings_Join_none Tryz.lays156 Tryz.Builder_Extra_156 a c sep w
open Go.RowKit in
theorem Tryz.strings_Join (bk o c : Nat) (xs : List ByteArray) (sep : ByteArray) (w : World) (hcells : ∀ (j : Nat) x, xs[j]? = some x → w.cell? ⟨bk, o + j, none⟩ = some (.string x)) (hbk : bk < w.heap.size) (hN : xs.length ≤ 140737488355328) (hcap : xs.length ≤ c) (hlen : (Lib.join (xs.map (·.data.toList)) sep.data.toList).length ≤ 140737488355328) :
    Calls Tryz.prog 45 #[.slice (some ⟨bk, o, none⟩) xs.length c, .string sep] w fun e w' => e = .returned (.string ⟨(Lib.join (xs.map (·.data.toList)) sep.data.toList).toArray⟩) ∧ Below w.heap.size w w' := Any.strings_Join Tryz.lays156 Tryz.Builder_Extra_156 bk o c xs sep w hcells hbk hN hcap hlen
def Tryz.laysM171_ren : Go.Shelf.Ren := ⟨fun | 171 => 168 | 243 => 184 | 246 => 203 | 283 => 226 | 284 => 227 | 285 => 228 | 286 => 229 | 129 => 241 | 317 => 240 | 318 => 242 | 319 => 243 | 320 => 244 | 337 => 249 | 338 => 250 | n => n, fun | 3 => 3 | 9 => 9 | 2 => 2 | 4 => 4 | 171 => 200 | 0 => 0 | 53 => 151 | 37 => 120 | 5 => 5 | 173 => 203 | 212 => 213 | 51 => 214 | 20 => 20 | 213 => 215 | 46 => 207 | 232 => 224 | 233 => 225 | n => n, fun | 17 => 6 | 18 => 7 | 19 => 8 | n => n⟩
theorem Tryz.laysM171 : Go.Proofs.LaysM.n171 Tryz.prog Tryz.laysM171_ren := {
  mixed := by kernel_rfl
  f129 := Tryz.func241.trans (congrArg some (by kernel_rfl))
  f171 := Tryz.func168.trans (congrArg some (by kernel_rfl))
  f243 := Tryz.func184.trans (congrArg some (by kernel_rfl))
  f246 := Tryz.func203.trans (congrArg some (by kernel_rfl))
  f283 := Tryz.func226.trans (congrArg some (by kernel_rfl))
  f284 := Tryz.func227.trans (congrArg some (by kernel_rfl))
  f285 := Tryz.func228.trans (congrArg some (by kernel_rfl))
  f286 := Tryz.func229.trans (congrArg some (by kernel_rfl))
  f317 := Tryz.func240.trans (congrArg some (by kernel_rfl))
  f318 := Tryz.func242.trans (congrArg some (by kernel_rfl))
  f319 := Tryz.func243.trans (congrArg some (by kernel_rfl))
  f320 := Tryz.func244.trans (congrArg some (by kernel_rfl))
  f337 := Tryz.func249.trans (congrArg some (by kernel_rfl))
  f338 := Tryz.func250.trans (congrArg some (by kernel_rfl))
  t0 := Tryz.underlying0
  a0 := Tryz.isAgg0
  z0 := Tryz.sizeOf0
  v0 := Tryz.zeroValue0
  t2 := Tryz.underlying2
  a2 := Tryz.isAgg2
  z2 := Tryz.sizeOf2
  v2 := Tryz.zeroValue2
  t3 := Tryz.underlying3
  a3 := Tryz.isAgg3
  z3 := Tryz.sizeOf3
  v3 := Tryz.zeroValue3
  t4 := Tryz.underlying4
  a4 := Tryz.isAgg4
  z4 := Tryz.sizeOf4
  v4 := Tryz.zeroValue4
  t5 := Tryz.underlying5
  a5 := Tryz.isAgg5
  z5 := Tryz.sizeOf5
  v5 := Tryz.zeroValue5
  t9 := Tryz.underlying9
  a9 := Tryz.isAgg9
  z9 := Tryz.sizeOf9
  v9 := Tryz.zeroValue9
  t20 := Tryz.underlying20
  a20 := Tryz.isAgg20
  z20 := Tryz.sizeOf20
  v20 := Tryz.zeroValue20
  t37 := Tryz.underlying120
  a37 := Tryz.isAgg120
  z37 := Tryz.sizeOf120
  v37 := Tryz.zeroValue120
  t46 := Tryz.underlying207
  a46 := Tryz.isAgg207
  z46 := Tryz.sizeOf207
  v46 := Tryz.zeroValue207
  t51 := Tryz.underlying214
  a51 := Tryz.isAgg214
  z51 := Tryz.sizeOf214
  v51 := Tryz.zeroValue214
  t53 := Tryz.underlying151
  a53 := Tryz.isAgg151
  z53 := Tryz.sizeOf151
  v53 := Tryz.zeroValue151
  t171 := Tryz.underlying200
  a171 := Tryz.isAgg200
  z171 := Tryz.sizeOf200
  v171 := Tryz.zeroValue200
  t173 := Tryz.underlying203
  a173 := Tryz.isAgg203
  z173 := Tryz.sizeOf203
  v173 := Tryz.zeroValue203
  t212 := Tryz.underlying213
  a212 := Tryz.isAgg213
  z212 := Tryz.sizeOf213
  v212 := Tryz.zeroValue213
  t213 := Tryz.underlying215
  a213 := Tryz.isAgg215
  z213 := Tryz.sizeOf215
  t232 := Tryz.underlying224
  a232 := Tryz.isAgg224
  z232 := Tryz.sizeOf224
  v232 := Tryz.zeroValue224
  t233 := Tryz.underlying225
  a233 := Tryz.isAgg225
  z233 := Tryz.sizeOf225
  v233 := Tryz.zeroValue225
  g17 := by kernel_rfl
  g18 := by kernel_rfl
  g19 := by kernel_rfl
  i0 := by kernel_rfl
  i2 := by kernel_rfl
  i3 := by kernel_rfl
  i4 := by kernel_rfl
  i5 := by kernel_rfl
  i9 := by kernel_rfl
  i20 := by kernel_rfl
  i37 := by kernel_rfl
  i46 := by kernel_rfl
  i51 := by kernel_rfl
  i53 := by kernel_rfl
  i171 := by kernel_rfl
  i173 := by kernel_rfl
  i212 := by kernel_rfl
  i232 := by kernel_rfl
  i233 := by kernel_rfl
  m17 := by kernel_rfl
  m18 := by kernel_rfl
  m19 := by kernel_rfl }
open Go.RowKit Go.Sort Go.Lib in
theorem Tryz.strconv_Itoa (n : Int) (h0 : -9223372036854775808 ≤ n) (h1 : n ≤ 9223372036854775807) (w : World) (htab : Lib.TabIs Tryz.prog w "internal/strconv.uint64pow10" .u64 Lib.pow10Tab) :
    Calls Tryz.prog 168 #[.int .i64 n] w fun e w' => e = .returned (.string ⟨(Lib.itoa n).toArray⟩) ∧ ∃ k os, w' = grow (w.drewN k) os := Any.strconv_Itoa Tryz.laysM171 n h0 h1 w htab
def Tryz.laysC172_ren : Go.Shelf.Ren := ⟨fun | 172 => 177 | 244 => 195 | 245 => 196 | 247 => 213 | 279 => 214 | 280 => 215 | 281 => 216 | 282 => 217 | 287 => 233 | 316 => 234 | 171 => 168 | 205 => 235 | 321 => 245 | 322 => 246 | 243 => 184 | 246 => 203 | 283 => 226 | 284 => 227 | 285 => 228 | 286 => 229 | 129 => 241 | 317 => 240 | 318 => 242 | 319 => 243 | 320 => 244 | 337 => 249 | 338 => 250 | n => n, fun | 9 => 9 | 3 => 3 | 75 => 129 | 76 => 130 | 4 => 4 | 5 => 5 | 167 => 193 | 37 => 120 | 0 => 0 | 85 => 194 | 2 => 2 | 168 => 196 | 53 => 151 | 175 => 205 | 46 => 207 | 210 => 209 | 127 => 154 | 145 => 220 | 143 => 218 | 21 => 21 | 171 => 200 | 173 => 203 | 212 => 213 | 51 => 214 | 20 => 20 | 213 => 215 | 232 => 224 | 233 => 225 | 80 => 87 | n => n, fun | 15 => 4 | 16 => 5 | 17 => 6 | 18 => 7 | 19 => 8 | n => n⟩
theorem Tryz.laysC172 : Go.Proofs.LaysC.n172 Tryz.prog Tryz.laysC172_ren := {
  mixed := by kernel_rfl
  f129 := Tryz.func241.trans (congrArg some (by kernel_rfl))
  f171 := Tryz.func168.trans (congrArg some (by kernel_rfl))
  f172 := Tryz.func177.trans (congrArg some (by kernel_rfl))
  f205 := Tryz.func235.trans (congrArg some (by kernel_rfl))
  f243 := Tryz.func184.trans (congrArg some (by kernel_rfl))
  f244 := Tryz.func195.trans (congrArg some (by kernel_rfl))
  f245 := Tryz.func196.trans (congrArg some (by kernel_rfl))
  f246 := Tryz.func203.trans (congrArg some (by kernel_rfl))
  f247 := Tryz.func213.trans (congrArg some (by kernel_rfl))
  f279 := Tryz.func214.trans (congrArg some (by kernel_rfl))
  f280 := Tryz.func215.trans (congrArg some (by kernel_rfl))
  f281 := Tryz.func216.trans (congrArg some (by kernel_rfl))
  f282 := Tryz.func217.trans (congrArg some (by kernel_rfl))
  f283 := Tryz.func226.trans (congrArg some (by kernel_rfl))
  f284 := Tryz.func227.trans (congrArg some (by kernel_rfl))
  f285 := Tryz.func228.trans (congrArg some (by kernel_rfl))
  f286 := Tryz.func229.trans (congrArg some (by kernel_rfl))
  f287 := Tryz.func233.trans (congrArg some (by kernel_rfl))
  f316 := Tryz.func234.trans (congrArg some (by kernel_rfl))
  f317 := Tryz.func240.trans (congrArg some (by kernel_rfl))
  f318 := Tryz.func242.trans (congrArg some (by kernel_rfl))
  f319 := Tryz.func243.trans (congrArg some (by kernel_rfl))
  f320 := Tryz.func244.trans (congrArg some (by kernel_rfl))
  f321 := Tryz.func245.trans (congrArg some (by kernel_rfl))
  f322 := Tryz.func246.trans (congrArg some (by kernel_rfl))
  f337 := Tryz.func249.trans (congrArg some (by kernel_rfl))
  f338 := Tryz.func250.trans (congrArg some (by kernel_rfl))
  t0 := Tryz.underlying0
  a0 := Tryz.isAgg0
  z0 := Tryz.sizeOf0
  v0 := Tryz.zeroValue0
  t2 := Tryz.underlying2
  a2 := Tryz.isAgg2
  z2 := Tryz.sizeOf2
  v2 := Tryz.zeroValue2
  t3 := Tryz.underlying3
  a3 := Tryz.isAgg3
  z3 := Tryz.sizeOf3
  v3 := Tryz.zeroValue3
  t4 := Tryz.underlying4
  a4 := Tryz.isAgg4
  z4 := Tryz.sizeOf4
  v4 := Tryz.zeroValue4
  t5 := Tryz.underlying5
  a5 := Tryz.isAgg5
  z5 := Tryz.sizeOf5
  v5 := Tryz.zeroValue5
  t9 := Tryz.underlying9
  a9 := Tryz.isAgg9
  z9 := Tryz.sizeOf9
  v9 := Tryz.zeroValue9
  t20 := Tryz.underlying20
  a20 := Tryz.isAgg20
  z20 := Tryz.sizeOf20
  v20 := Tryz.zeroValue20
  t21 := Tryz.underlying21
  a21 := Tryz.isAgg21
  z21 := Tryz.sizeOf21
  v21 := Tryz.zeroValue21
  t37 := Tryz.underlying120
  a37 := Tryz.isAgg120
  z37 := Tryz.sizeOf120
  v37 := Tryz.zeroValue120
  t46 := Tryz.underlying207
  a46 := Tryz.isAgg207
  z46 := Tryz.sizeOf207
  v46 := Tryz.zeroValue207
  t51 := Tryz.underlying214
  a51 := Tryz.isAgg214
  z51 := Tryz.sizeOf214
  v51 := Tryz.zeroValue214
  t53 := Tryz.underlying151
  a53 := Tryz.isAgg151
  z53 := Tryz.sizeOf151
  v53 := Tryz.zeroValue151
  t75 := Tryz.underlying129
  a75 := Tryz.isAgg129
  z75 := Tryz.sizeOf129
  v75 := Tryz.zeroValue129
  t76 := Tryz.underlying130
  a76 := Tryz.isAgg130
  z76 := Tryz.sizeOf130
  v76 := Tryz.zeroValue130
  t85 := Tryz.underlying194
  a85 := Tryz.isAgg194
  z85 := Tryz.sizeOf194
  v85 := Tryz.zeroValue194
  t127 := Tryz.underlying154
  a127 := Tryz.isAgg154
  z127 := Tryz.sizeOf154
  v127 := Tryz.zeroValue154
  t143 := Tryz.underlying218
  a143 := Tryz.isAgg218
  z143 := Tryz.sizeOf218
  v143 := Tryz.zeroValue218
  t145 := Tryz.underlying220
  a145 := Tryz.isAgg220
  z145 := Tryz.sizeOf220
  v145 := Tryz.zeroValue220
  t167 := Tryz.underlying193
  a167 := Tryz.isAgg193
  z167 := Tryz.sizeOf193
  v167 := Tryz.zeroValue193
  t168 := Tryz.underlying196
  a168 := Tryz.isAgg196
  z168 := Tryz.sizeOf196
  v168 := Tryz.zeroValue196
  t171 := Tryz.underlying200
  a171 := Tryz.isAgg200
  z171 := Tryz.sizeOf200
  v171 := Tryz.zeroValue200
  t173 := Tryz.underlying203
  a173 := Tryz.isAgg203
  z173 := Tryz.sizeOf203
  v173 := Tryz.zeroValue203
  t175 := Tryz.underlying205
  a175 := Tryz.isAgg205
  z175 := Tryz.sizeOf205
  v175 := Tryz.zeroValue205
  t210 := Tryz.underlying209
  a210 := Tryz.isAgg209
  z210 := Tryz.sizeOf209
  v210 := Tryz.zeroValue209
  t212 := Tryz.underlying213
  a212 := Tryz.isAgg213
  z212 := Tryz.sizeOf213
  v212 := Tryz.zeroValue213
  t213 := Tryz.underlying215
  a213 := Tryz.isAgg215
  z213 := Tryz.sizeOf215
  t232 := Tryz.underlying224
  a232 := Tryz.isAgg224
  z232 := Tryz.sizeOf224
  v232 := Tryz.zeroValue224
  t233 := Tryz.underlying225
  a233 := Tryz.isAgg225
  z233 := Tryz.sizeOf225
  v233 := Tryz.zeroValue225
  g15 := by kernel_rfl
  g16 := by kernel_rfl
  g17 := by kernel_rfl
  g18 := by kernel_rfl
  g19 := by kernel_rfl
  t80 := Tryz.underlying87
  a80 := Tryz.isAgg87
  z80 := Tryz.sizeOf87
  v80 := Tryz.zeroValue87
  i0 := by kernel_rfl
  i2 := by kernel_rfl
  i3 := by kernel_rfl
  i4 := by kernel_rfl
  i5 := by kernel_rfl
  i9 := by kernel_rfl
  i20 := by kernel_rfl
  i21 := by kernel_rfl
  i37 := by kernel_rfl
  i46 := by kernel_rfl
  i51 := by kernel_rfl
  i53 := by kernel_rfl
  i75 := by kernel_rfl
  i76 := by kernel_rfl
  i80 := by kernel_rfl
  i85 := by kernel_rfl
  i127 := by kernel_rfl
  i143 := by kernel_rfl
  i145 := by kernel_rfl
  i167 := by kernel_rfl
  i168 := by kernel_rfl
  i171 := by kernel_rfl
  i173 := by kernel_rfl
  i175 := by kernel_rfl
  i210 := by kernel_rfl
  i212 := by kernel_rfl
  i232 := by kernel_rfl
  i233 := by kernel_rfl
  m15 := by kernel_rfl
  m16 := by kernel_rfl
  m17 := by kernel_rfl
  m18 := by kernel_rfl
  m19 := by kernel_rfl
  c0 := by kernel_rfl
  c2 := by kernel_rfl
  c3 := by kernel_rfl
  c4 := by kernel_rfl
  c5 := by kernel_rfl
  c9 := by kernel_rfl
  c20 := by kernel_rfl
  c21 := by kernel_rfl
  c37 := by kernel_rfl
  c46 := by kernel_rfl
  c51 := by kernel_rfl
  c53 := by kernel_rfl
  c75 := by kernel_rfl
  c76 := by kernel_rfl
  c80 := by kernel_rfl
  c85 := by kernel_rfl
  c127 := by kernel_rfl
  c143 := by kernel_rfl
  c145 := by kernel_rfl
  c167 := by kernel_rfl
  c168 := by kernel_rfl
  c171 := by kernel_rfl
  c173 := by kernel_rfl
  c175 := by kernel_rfl
  c210 := by kernel_rfl
  c212 := by kernel_rfl
  c213 := by kernel_rfl
  c232 := by kernel_rfl
  c233 := by kernel_rfl }
open Go.RowKit in
theorem Tryz.strconv_Atoi_ok (s : ByteArray) (hmax : s.size ≤ 9223372036854775806) (v : Int) (h : Lib.atoiAll s.data.toList = .ok v) (w : World) :
    Calls Tryz.prog 177 #[.string s] w fun e w' => e = .returned (.tuple #[.int .i64 v, .nilIface]) ∧ (w' = w ∨ ∃ t, w' = Lib.bytesWorld w 5 t) := Any.strconv_Atoi_ok Tryz.laysC172 s hmax v h w
open Go.RowKit in
theorem Tryz.strconv_Atoi_range_var (s : ByteArray) (hlim : s.size ≤ 281474976710656) (h : Lib.atoiAll s.data.toList = .range) (tp : TypeId) (p : Value) (w : World) (hvar : w.var? Tryz.prog "strconv.ErrRange" = some #[.iface tp p]) :
    Calls Tryz.prog 177 #[.string s] w fun e w' => ∃ N, e = .returned (.tuple #[.int .i64 (Lib.atoiSat s.data.toList), .iface 196 (.pointer (some ⟨N, 0, none⟩))]) ∧ w.heap.size ≤ N ∧ w'.heap[N]? = some (.cells #[.string ⟨#[65, 116, 111, 105]⟩, .string s, .iface tp p] 209 (0, 0)) ∧ Below w.heap.size w w' := Any.strconv_Atoi_range_var Tryz.laysC172 s hlim h tp p w hvar
def Tryz.lays99_ren : Go.Shelf.Ren := ⟨fun | 99 => 120 | 206 => 160 | n => n, fun | 9 => 9 | 4 => 4 | 3 => 3 | n => n, fun | n => n⟩
theorem Tryz.lays99 : Go.Proofs.Lays.n99 Tryz.prog Tryz.lays99_ren := {
  mixed := by kernel_rfl
  f99 := Tryz.func120.trans (congrArg some (by kernel_rfl))
  f206 := Tryz.func160.trans (congrArg some (by kernel_rfl))
  t3 := Tryz.underlying3
  a3 := Tryz.isAgg3
  z3 := Tryz.sizeOf3
  v3 := Tryz.zeroValue3
  t4 := Tryz.underlying4
  a4 := Tryz.isAgg4
  z4 := Tryz.sizeOf4
  v4 := Tryz.zeroValue4
  t9 := Tryz.underlying9
  a9 := Tryz.isAgg9
  z9 := Tryz.sizeOf9
  v9 := Tryz.zeroValue9 }
open Go.RowKit Go.Lib in
theorem Tryz.strings_HasPrefix (s p : ByteArray) (w : World) :
    Calls Tryz.prog 120 #[.string s, .string p] w fun e w' => e = .returned (.bool (Lib.hasPrefix s.data.toList p.data.toList)) ∧ w' = w := Any.strings_HasPrefix Tryz.lays99 s p w
def Tryz.lays101_ren : Go.Shelf.Ren := ⟨fun | 101 => 194 | 208 => 212 | 206 => 160 | n => n, fun | 9 => 9 | 4 => 4 | 3 => 3 | n => n, fun | n => n⟩
theorem Tryz.lays101 : Go.Proofs.Lays.n101 Tryz.prog Tryz.lays101_ren := {
  mixed := by kernel_rfl
  f101 := Tryz.func194.trans (congrArg some (by kernel_rfl))
  f206 := Tryz.func160.trans (congrArg some (by kernel_rfl))
  f208 := Tryz.func212.trans (congrArg some (by kernel_rfl))
  t3 := Tryz.underlying3
  a3 := Tryz.isAgg3
  z3 := Tryz.sizeOf3
  v3 := Tryz.zeroValue3
  t4 := Tryz.underlying4
  a4 := Tryz.isAgg4
  z4 := Tryz.sizeOf4
  v4 := Tryz.zeroValue4
  t9 := Tryz.underlying9
  a9 := Tryz.isAgg9
  z9 := Tryz.sizeOf9
  v9 := Tryz.zeroValue9 }
open Go.RowKit Go.Lib in
theorem Tryz.strings_TrimPrefix (s p : ByteArray) (w : World) :
    Calls Tryz.prog 194 #[.string s, .string p] w fun e w' => e = .returned (.string ⟨(Lib.trimPrefix s.data.toList p.data.toList).toArray⟩) ∧ w' = w := Any.strings_TrimPrefix Tryz.lays101 s p w
end Go.Proofs

/-
  CONTRACTS: wordEnd, commentEnd, skip at every text of at most 2^48 bytes and every place in it. The world is as it was.
-/

namespace Go.Proofs.YtkahbhfbgdbnfaaGreatDoor
open Go.RowKit

theorem len_size (s : ByteArray) : s.data.toList.length = s.size := Array.length_toList
theorem endS_step {f : UInt8 → Bool} {s : ByteArray} {k : Nat} (h : k < s.size) (hf : f s[k] = true) : endAt f s.data.toList k = endAt f s.data.toList (k + 1) :=
  endAt_step (by rw [len_size]; exact h) hf
theorem endS_stop {f : UInt8 → Bool} {s : ByteArray} {k : Nat} (h : k < s.size) (hf : f s[k] = false) : endAt f s.data.toList k = k :=
  endAt_stop (by rw [len_size]; exact h) hf

set_option maxRecDepth 100000 in
set_option maxHeartbeats 400000 in
theorem wordEnd_any (s : ByteArray) (p q : Nat) (w : World) (hs : s.size ≤ 281474976710656) (hp : p ≤ s.size) (hq : Hid (endAt wchB s.data.toList p = q)) :
    Calls Tryz.prog 115 #[.string s, .int .i64 p] w fun e w' => e = .returned (.int .i64 q) ∧ w = w' := by
  go_enter Tryz.func115, Tryz.ntmps115
  go_wp2_with fail
  go_loop [1] (fun i => ∃ k : Nat, k ≤ s.size ∧ i = .int .i64 k ∧ Hid (endAt wchB s.data.toList k = q)) (fun i => s.size - (intOf i).toNat)
  case atStart => exact ⟨p, hp, rfl, hq⟩
  case round =>
    obtain ⟨k, hk, rfl, HK⟩ := hrel
    by_cases hlt : k < s.size
    · cases h1 : letB s[k] with
      | true =>
        have H1 := Lib.hid h1
        have hc : Calls Tryz.prog 114 #[.int .u8 s[k].toNat] w fun e w' => e = .returned (.bool true) ∧ w = w' := by rw [← h1]; exact isLetter_any _ _
        have HC := Lib.hid hc
        clear h1 hc
        go_wp2_with (go_at_call 114; refine HC.out.mono ?_; rintro e w' ⟨rfl, rfl⟩)
        go_round
        case rel => exact ⟨k + 1, by omega, by go_num, (endS_step hlt (by simp [wchB, H1.out])).symm.trans HK.out⟩
        case measure => simp [intOf]; omega
      | false =>
        have hc : Calls Tryz.prog 114 #[.int .u8 s[k].toNat] w fun e w' => e = .returned (.bool false) ∧ w = w' := by rw [← h1]; exact isLetter_any _ _
        have HC := Lib.hid hc
        have H1 := Lib.hid h1
        clear h1 hc
        cases h2 : digB s[k] with
        | true =>
          have hd : Calls Tryz.prog 123 #[.int .u8 s[k].toNat] w fun e w' => e = .returned (.bool true) ∧ w = w' := by rw [← h2]; exact isDigit_any _ _
          have HD := Lib.hid hd
          have H2 := Lib.hid h2
          clear h2 hd
          go_wp2_with (first | (go_at_call 114; refine HC.out.mono ?_; rintro e w' ⟨rfl, rfl⟩) | (go_at_call 123; refine HD.out.mono ?_; rintro e w' ⟨rfl, rfl⟩))
          go_round
          case rel => exact ⟨k + 1, by omega, by go_num, (endS_step hlt (by simp [wchB, H2.out])).symm.trans HK.out⟩
          case measure => simp [intOf]; omega
        | false =>
          have hd : Calls Tryz.prog 123 #[.int .u8 s[k].toNat] w fun e w' => e = .returned (.bool false) ∧ w = w' := by rw [← h2]; exact isDigit_any _ _
          have HD := Lib.hid hd
          have H2 := Lib.hid h2
          clear h2 hd
          go_wp2_with (first | (go_at_call 114; refine HC.out.mono ?_; rintro e w' ⟨rfl, rfl⟩) | (go_at_call 123; refine HD.out.mono ?_; rintro e w' ⟨rfl, rfl⟩))
          go_ret
          exact ⟨ret_int (by rw [← HK.out, endS_stop hlt (by simp [wchB, H1.out, H2.out])]), rfl⟩
    · go_wp2_with fail
      go_ret
      exact ⟨ret_int (by rw [← HK.out, endAt_end (by rw [len_size]; omega)]), rfl⟩

set_option maxRecDepth 100000 in
set_option maxHeartbeats 400000 in
theorem commentEnd_any (s : ByteArray) (p q : Nat) (w : World) (hs : s.size ≤ 281474976710656) (hp : p ≤ s.size) (hq : Hid (endAt notNl s.data.toList p = q)) :
    Calls Tryz.prog 121 #[.string s, .int .i64 p] w fun e w' => e = .returned (.int .i64 q) ∧ w = w' := by
  go_enter Tryz.func121, Tryz.ntmps121
  go_wp2_with fail
  go_loop [1] (fun i => ∃ k : Nat, k ≤ s.size ∧ i = .int .i64 k ∧ Hid (endAt notNl s.data.toList k = q)) (fun i => s.size - (intOf i).toNat)
  case atStart => exact ⟨p, hp, rfl, hq⟩
  case round =>
    obtain ⟨k, hk, rfl, HK⟩ := hrel
    by_cases hlt : k < s.size
    · by_cases h1 : s[k].toNat = 10
      · have h2 : ((s[k].toNat : Int) != 10) = false := by simp; omega
        have H1 := Lib.hid h1
        clear h1
        go_wp2_with fail
        go_ret
        exact ⟨ret_int (by rw [← HK.out, endS_stop hlt (by simp [notNl, H1.out])]), rfl⟩
      · have h2 : ((s[k].toNat : Int) != 10) = true := by simp; omega
        have H1 := Lib.hid h1
        clear h1
        go_wp2_with fail
        go_round
        case rel => exact ⟨k + 1, by omega, by go_num, (endS_step hlt (by simp [notNl, H1.out])).symm.trans HK.out⟩
        case measure => simp [intOf]; omega
    · go_wp2_with fail
      go_ret
      exact ⟨ret_int (by rw [← HK.out, endAt_end (by rw [len_size]; omega)]), rfl⟩

theorem drop_extract (s : ByteArray) (k : Nat) : (s.extract k s.size).data.toList = s.data.toList.drop k := by
  rw [ByteArray.data_extract, Array.toList_extract, List.extract_eq_take_drop, List.take_of_length_le (by rw [List.length_drop, len_size]; omega)]
theorem cut_extract (s : ByteArray) (a b : Nat) : (s.extract a b).data.toList = (s.data.toList.drop a).take (b - a) := by
  rw [ByteArray.data_extract, Array.toList_extract, List.extract_eq_take_drop]
theorem com_pre (l : List UInt8) : Lib.hasPrefix l [47, 47] = comB l := by
  match l with
  | [] => rfl
  | [a] => simp [Lib.hasPrefix, comB, List.isPrefixOf]
  | a :: b :: r =>
    unfold Lib.hasPrefix comB
    rw [Bool.eq_iff_iff]
    simp only [List.isPrefixOf, Bool.and_true, Bool.and_eq_true, beq_iff_eq, decide_eq_true_eq]
    constructor
    · rintro ⟨rfl, rfl⟩; exact ⟨rfl, rfl⟩
    · rintro ⟨h1, h2⟩; exact ⟨(UInt8.toNat_inj.1 h1).symm, (UInt8.toNat_inj.1 h2).symm⟩
theorem hasPre (t p : ByteArray) (b : Bool) (w : World) (hb : Hid (Lib.hasPrefix t.data.toList p.data.toList = b)) : Calls Tryz.prog 120 #[.string t, .string p] w fun e w' => e = .returned (.bool b) ∧ w = w' := by
  refine (Tryz.strings_HasPrefix t p w).mono ?_
  rintro e w' ⟨rfl, rfl⟩
  exact ⟨ret_bool hb.out, rfl⟩
theorem com_ext (s : ByteArray) (k : Nat) (b : Bool) (h : comAt s.data.toList k = b) : Hid (Lib.hasPrefix (s.extract k s.size).data.toList (⟨#[47, 47]⟩ : ByteArray).data.toList = b) := by
  show _ = _
  rw [drop_extract, show (⟨#[47, 47]⟩ : ByteArray).data.toList = [47, 47] from rfl, com_pre]
  exact h

set_option maxRecDepth 100000 in
set_option maxHeartbeats 400000 in
theorem skip_any (s : ByteArray) (p q : Nat) (w : World) (hs : s.size ≤ 281474976710656) (hp : p ≤ s.size) (hq : Hid (skipAt s.data.toList p = q)) :
    Calls Tryz.prog 87 #[.string s, .int .i64 p] w fun e w' => e = .returned (.int .i64 q) ∧ w = w' := by
  go_enter Tryz.func87, Tryz.ntmps87
  go_wp2_with fail
  go_loop [1] (fun i => ∃ k : Nat, k ≤ s.size ∧ i = .int .i64 k ∧ Hid (skipAt s.data.toList k = q)) (fun i => s.size - (intOf i).toNat)
  case atStart => exact ⟨p, hp, rfl, hq⟩
  case round =>
    obtain ⟨k, hk, rfl, HK⟩ := hrel
    by_cases hlt : k < s.size
    · cases h1 : blkB s[k] with
      | true =>
        have H1 := Lib.hid h1
        have hc : Calls Tryz.prog 119 #[.int .u8 s[k].toNat] w fun e w' => e = .returned (.bool true) ∧ w = w' := by rw [← h1]; exact isBlank_any _ _
        have HC := Lib.hid hc
        clear h1 hc
        go_wp2_with (go_at_call 119; refine HC.out.mono ?_; rintro e w' ⟨rfl, rfl⟩)
        go_round
        case rel => exact ⟨k + 1, by omega, by go_num, (skipAt_blk (l := s.data.toList) (by rw [len_size]; exact hlt) H1.out).symm.trans HK.out⟩
        case measure => simp [intOf]; omega
      | false =>
        have hc : Calls Tryz.prog 119 #[.int .u8 s[k].toNat] w fun e w' => e = .returned (.bool false) ∧ w = w' := by rw [← h1]; exact isBlank_any _ _
        have HC := Lib.hid hc
        have H1 := Lib.hid h1
        clear h1 hc
        cases h2 : comAt s.data.toList k with
        | true =>
          have H2 := Lib.hid h2
          have H3 := com_ext s k true h2
          have h4 := endAt_com (by rw [len_size]; exact hlt) h2
          have h5 : endAt notNl s.data.toList k ≤ s.size := by rw [← len_size]; exact endAt_le (by rw [len_size]; omega)
          have hsk := (skipAt_com (l := s.data.toList) (by rw [len_size]; exact hlt) H1.out H2.out).symm.trans HK.out
          have HSK := Lib.hid hsk
          obtain ⟨m, hm⟩ : ∃ m, endAt notNl s.data.toList k = m := ⟨_, rfl⟩
          have HM := Lib.hid hm
          rw [hm] at h4 h5
          clear h2 hm hsk
          go_wp2_with (first | (go_at_call 119; refine HC.out.mono ?_; rintro e w' ⟨rfl, rfl⟩) | (go_at_call 120; refine (hasPre _ _ true _ H3).mono ?_; rintro e w' ⟨rfl, rfl⟩) | (go_at_call 121; refine (commentEnd_any s k m _ hs hk HM).mono ?_; rintro e w' ⟨rfl, rfl⟩))
          go_round
          case rel => exact ⟨m, h5, rfl, by have := HSK.out; rw [HM.out] at this; exact this⟩
          case measure => simp [intOf]; omega
        | false =>
          have H2 := Lib.hid h2
          have H3 := com_ext s k false h2
          clear h2
          go_wp2_with (first | (go_at_call 119; refine HC.out.mono ?_; rintro e w' ⟨rfl, rfl⟩) | (go_at_call 120; refine (hasPre _ _ false _ H3).mono ?_; rintro e w' ⟨rfl, rfl⟩))
          go_ret
          exact ⟨ret_int (by rw [← HK.out, skipAt_stop (by rw [len_size]; exact hlt) H1.out H2.out]), rfl⟩
    · go_wp2_with fail
      go_ret
      exact ⟨ret_int (by rw [← HK.out, skipAt_end (by rw [len_size]; omega)]), rfl⟩

end Go.Proofs.YtkahbhfbgdbnfaaGreatDoor
