/-
  PLAIN: functions that say what the functions of package lex answer, over lists of bytes; and facts about them. Nothing of the program stands here. No condition.
-/
import Derived.WalkKit
import Derived.Lib.Strings
namespace Go.Proofs.YteikheaanefgbaaDoor
open Go.RowKit

def letB (b : UInt8) : Bool := (decide (97 ≤ b.toNat) && decide (b.toNat ≤ 122)) || (decide (65 ≤ b.toNat) && decide (b.toNat ≤ 90)) || decide (b.toNat = 95)
def digB (b : UInt8) : Bool := decide (48 ≤ b.toNat) && decide (b.toNat ≤ 57)
def wchB (b : UInt8) : Bool := letB b || digB b
def blkB (b : UInt8) : Bool := decide (b.toNat = 32) || decide (b.toNat = 9) || decide (b.toNat = 10) || decide (b.toNat = 13)
def notNl (b : UInt8) : Bool := !decide (b.toNat = 10)

/-- How many bytes at the head meet f. -/
def runN (f : UInt8 → Bool) : List UInt8 → Nat
  | [] => 0
  | c :: r => if f c then runN f r + 1 else 0

theorem runN_le (f : UInt8 → Bool) (l : List UInt8) : runN f l ≤ l.length := by
  induction l with
  | nil => exact Nat.le_refl _
  | cons c r ih => unfold runN; split <;> simp <;> omega
theorem runN_pos {f : UInt8 → Bool} {c : UInt8} (r : List UInt8) (h : f c = true) : runN f (c :: r) = runN f r + 1 := by rw [runN, if_pos h]
theorem runN_zero {f : UInt8 → Bool} {c : UInt8} (r : List UInt8) (h : f c = false) : runN f (c :: r) = 0 := by rw [runN, if_neg (by rw [h]; decide)]

/-- Where the run from p on ends. -/
def endAt (f : UInt8 → Bool) (l : List UInt8) (p : Nat) : Nat := p + runN f (l.drop p)
theorem endAt_step {f : UInt8 → Bool} {l : List UInt8} {p : Nat} (h : p < l.length) (hf : f l[p] = true) : endAt f l p = endAt f l (p + 1) := by
  unfold endAt
  rw [List.drop_eq_getElem_cons h, runN_pos _ hf]; omega
theorem endAt_stop {f : UInt8 → Bool} {l : List UInt8} {p : Nat} (h : p < l.length) (hf : f l[p] = false) : endAt f l p = p := by
  unfold endAt
  rw [List.drop_eq_getElem_cons h, runN_zero _ hf]; rfl
theorem endAt_end {f : UInt8 → Bool} {l : List UInt8} {p : Nat} (h : l.length ≤ p) : endAt f l p = p := by
  unfold endAt
  rw [List.drop_of_length_le h]; rfl
theorem endAt_le {f : UInt8 → Bool} {l : List UInt8} {p : Nat} (h : p ≤ l.length) : endAt f l p ≤ l.length := by
  unfold endAt
  have := runN_le f (l.drop p)
  rw [List.length_drop] at this
  omega
theorem le_endAt (f : UInt8 → Bool) (l : List UInt8) (p : Nat) : p ≤ endAt f l p := by unfold endAt; omega

def comB : List UInt8 → Bool
  | a :: b :: _ => decide (a.toNat = 47) && decide (b.toNat = 47)
  | _ => false
theorem com_head {c : UInt8} {r : List UInt8} (h : comB (c :: r) = true) : c.toNat = 47 := by
  cases r with
  | nil => simp [comB] at h
  | cons d r => simp [comB] at h; exact h.1

/-- How many bytes stand between, within a comment or not. -/
def skipN : Bool → List UInt8 → Nat
  | _, [] => 0
  | true, c :: r => skipN (notNl c) r + 1
  | false, c :: r => if blkB c then skipN false r + 1 else if comB (c :: r) then skipN true r + 1 else 0

theorem skip_in (l : List UInt8) : skipN true l = runN notNl l + skipN false (l.drop (runN notNl l)) := by
  induction l with
  | nil => rfl
  | cons c r ih =>
    by_cases h : notNl c = true
    · rw [runN_pos _ h, skipN, h, ih, List.drop_succ_cons]; omega
    · have h' : notNl c = false := by simpa using h
      have hb : blkB c = true := by
        have : c.toNat = 10 := by simpa [notNl] using h'
        simp [blkB, this]
      rw [runN_zero _ h', skipN, h', List.drop_zero, skipN, if_pos hb]; omega
theorem skip_blk {c : UInt8} (r : List UInt8) (h : blkB c = true) : skipN false (c :: r) = skipN false r + 1 := by rw [skipN, if_pos h]
theorem skip_com {c : UInt8} {r : List UInt8} (h : blkB c = false) (hc : comB (c :: r) = true) : skipN false (c :: r) = runN notNl (c :: r) + skipN false ((c :: r).drop (runN notNl (c :: r))) := by
  have hn : notNl c = true := by have := com_head hc; simp [notNl, this]
  rw [skipN, if_neg (by rw [h]; decide), if_pos hc, skip_in, runN_pos _ hn, List.drop_succ_cons]; omega
theorem skip_stop {c : UInt8} {r : List UInt8} (h : blkB c = false) (hc : comB (c :: r) = false) : skipN false (c :: r) = 0 := by
  rw [skipN, if_neg (by rw [h]; decide), if_neg (by rw [hc]; decide)]

def keyTab : List (List UInt8) := [[116, 121, 112, 101], [115, 116, 114, 117, 99, 116], [102, 117, 110, 99], [118, 97, 114], [105, 102], [101, 108, 115, 101], [102, 111, 114], [114, 101, 116, 117, 114, 110], [112, 114, 105, 110, 116], [110, 101, 119], [110, 105, 108], [116, 114, 117, 101], [102, 97, 108, 115, 101], [105, 110, 116], [98, 111, 111, 108], [114, 101, 97, 100]]
def keyB (l : List UInt8) : Bool := keyTab.contains l
def longTab : List (List UInt8) := [[60, 60], [62, 62], [61, 61], [33, 61], [60, 61], [62, 61], [38, 38], [124, 124], [58, 61]]
def longB (l : List UInt8) : Bool := longTab.contains (l.take 2)
def shortTab : List UInt8 := [43, 45, 42, 47, 37, 38, 124, 94, 60, 62, 33, 61, 46, 44, 59, 40, 41, 123, 125]
def shortB (c : UInt8) : Bool := shortTab.contains c

/-- What digits are worth, behind acc. -/
def val (acc : Nat) (l : List UInt8) : Nat := l.foldl (fun a c => a * 10 + (c.toNat - 48)) acc
/-- Digits, at least one, no zero ahead. -/
def plainB (l : List UInt8) : Bool := !l.isEmpty && (l.headD 48 != 48) && l.all digB
/-- The error of digits. -/
def parE (l : List UInt8) : Nat := if (l == [48]) || plainB l then (if val 0 l < 9223372036854775808 then 0 else 2) else 1

def afterB (l : List UInt8) : Bool := match l with | [] => false | c :: _ => letB c
/-- Error, kind and length of the token at the head. -/
structure Tk where
  err : Nat
  kind : Nat
  len : Nat
def wordT (l : List UInt8) : Tk := if 12 < runN wchB l then ⟨4, 0, 0⟩ else if keyB (l.take (runN wchB l)) then ⟨0, 2, runN wchB l⟩ else ⟨0, 1, runN wchB l⟩
def numT (l : List UInt8) : Tk := if afterB (l.drop (runN digB l)) then ⟨1, 0, 0⟩ else if parE (l.take (runN digB l)) = 0 then ⟨0, 3, runN digB l⟩ else ⟨parE (l.take (runN digB l)), 0, 0⟩
def signT (l : List UInt8) (c : UInt8) : Tk := if longB l then ⟨0, 4, 2⟩ else if shortB c then ⟨0, 4, 1⟩ else ⟨1, 0, 0⟩
def tokT (l : List UInt8) : Tk := match l with
  | [] => ⟨1, 0, 0⟩
  | c :: _ => if letB c then wordT l else if digB c then numT l else signT l c

structure Tok where
  kind : Nat
  text : List UInt8
  place : Nat
inductive R
  | ok (ts : List Tok)
  | bad (p e : Nat)
def R.pre (us : List Tok) : R → R
  | .ok ts => .ok (us ++ ts)
  | .bad p e => .bad p e
theorem R.pre_nil (r : R) : r.pre [] = r := by cases r <;> rfl
theorem R.pre_pre (a b : List Tok) (r : R) : (r.pre b).pre a = r.pre (a ++ b) := by cases r <;> simp [R.pre]

def scanF : Nat → List UInt8 → Nat → R
  | 0, _, _ => .ok []
  | _ + 1, [], _ => .ok []
  | f + 1, c :: r, p =>
    if blkB c then scanF f r (p + 1)
    else if comB (c :: r) then scanF f ((c :: r).drop (runN notNl (c :: r))) (p + runN notNl (c :: r))
    else if (tokT (c :: r)).err = 0 then (scanF f ((c :: r).drop (tokT (c :: r)).len) (p + (tokT (c :: r)).len)).pre [⟨(tokT (c :: r)).kind, (c :: r).take (tokT (c :: r)).len, p⟩]
    else .bad p (tokT (c :: r)).err
def scanS (l : List UInt8) (p : Nat) : R := scanF l.length l p

theorem long_len {c : UInt8} {r : List UInt8} (h : longB (c :: r) = true) : 2 ≤ (c :: r).length := by
  cases r with
  | nil => simp [longB, longTab] at h
  | cons d r => simp
theorem tokT_let {c : UInt8} (r : List UInt8) (h : letB c = true) : tokT (c :: r) = wordT (c :: r) := by unfold tokT; simp only [h, if_true]
theorem tokT_dig {c : UInt8} (r : List UInt8) (h : letB c = false) (hd : digB c = true) : tokT (c :: r) = numT (c :: r) := by unfold tokT; simp [h, hd]
theorem tokT_sign {c : UInt8} (r : List UInt8) (h : letB c = false) (hd : digB c = false) : tokT (c :: r) = signT (c :: r) c := by unfold tokT; simp [h, hd]
theorem word_len {c : UInt8} {r : List UInt8} (h1 : letB c = true) (h : (wordT (c :: r)).err = 0) : 1 ≤ (wordT (c :: r)).len ∧ (wordT (c :: r)).len ≤ (c :: r).length := by
  have hw : wchB c = true := by simp [wchB, h1]
  have h2 := runN_le wchB (c :: r)
  have h3 := runN_pos r hw
  generalize hn : runN wchB (c :: r) = n at *
  unfold wordT at h ⊢
  rw [hn] at h ⊢
  by_cases h4 : 12 < n
  · rw [if_pos h4] at h; exact absurd h (by decide)
  · rw [if_neg h4]
    by_cases h5 : keyB (List.take n (c :: r)) = true
    · rw [if_pos h5]; exact ⟨by show 1 ≤ n; omega, h2⟩
    · rw [if_neg h5]; exact ⟨by show 1 ≤ n; omega, h2⟩
theorem num_len {c : UInt8} {r : List UInt8} (h1 : digB c = true) (h : (numT (c :: r)).err = 0) : 1 ≤ (numT (c :: r)).len ∧ (numT (c :: r)).len ≤ (c :: r).length := by
  have h2 := runN_le digB (c :: r)
  have h3 := runN_pos r h1
  generalize hn : runN digB (c :: r) = n at *
  unfold numT at h ⊢
  rw [hn] at h ⊢
  by_cases h4 : afterB (List.drop n (c :: r)) = true
  · rw [if_pos h4] at h; exact absurd h (by simp)
  · rw [if_neg h4] at h ⊢
    by_cases h5 : parE (List.take n (c :: r)) = 0
    · rw [if_pos h5]; exact ⟨by show 1 ≤ n; omega, h2⟩
    · rw [if_neg h5] at h; exact absurd h h5
theorem sign_len {c : UInt8} {r : List UInt8} (h : (signT (c :: r) c).err = 0) : 1 ≤ (signT (c :: r) c).len ∧ (signT (c :: r) c).len ≤ (c :: r).length := by
  unfold signT at h ⊢
  by_cases h3 : longB (c :: r) = true
  · have := long_len h3
    rw [if_pos h3]
    exact ⟨by show 1 ≤ 2; omega, this⟩
  · rw [if_neg h3] at h ⊢
    by_cases h4 : shortB c = true
    · rw [if_pos h4]; exact ⟨Nat.le_refl _, by show 1 ≤ _; simp⟩
    · rw [if_neg h4] at h; exact absurd h (by simp)
theorem tok_len {c : UInt8} {r : List UInt8} (h : (tokT (c :: r)).err = 0) : 1 ≤ (tokT (c :: r)).len ∧ (tokT (c :: r)).len ≤ (c :: r).length := by
  cases h1 : letB c with
  | true => rw [tokT_let r h1] at h ⊢; exact word_len h1 h
  | false =>
    cases h2 : digB c with
    | true => rw [tokT_dig r h1 h2] at h ⊢; exact num_len h2 h
    | false => rw [tokT_sign r h1 h2] at h ⊢; exact sign_len h

theorem scanF_fuel : ∀ (n : Nat) (l : List UInt8) (p f g : Nat), l.length ≤ n → l.length ≤ f → l.length ≤ g → scanF f l p = scanF g l p := by
  intro n
  induction n with
  | zero =>
    intro l p f g hn _ _
    have : l = [] := List.length_eq_zero_iff.1 (by omega)
    subst this
    cases f <;> cases g <;> rfl
  | succ n ih =>
    intro l p f g hn hf hg
    cases l with
    | nil => cases f <;> cases g <;> rfl
    | cons c r =>
      simp only [List.length_cons] at hn hf hg
      cases f with
      | zero => omega
      | succ f =>
        cases g with
        | zero => omega
        | succ g =>
          rw [scanF, scanF]
          by_cases h1 : blkB c = true
          · rw [if_pos h1, if_pos h1]; exact ih r _ f g (by omega) (by omega) (by omega)
          · rw [if_neg h1, if_neg h1]
            by_cases h2 : comB (c :: r) = true
            · rw [if_pos h2, if_pos h2]
              have hr : notNl c = true := by have := com_head h2; simp [notNl, this]
              have h3 := runN_pos r hr
              exact ih _ _ f g (by rw [List.length_drop, List.length_cons]; omega) (by rw [List.length_drop, List.length_cons]; omega) (by rw [List.length_drop, List.length_cons]; omega)
            · rw [if_neg h2, if_neg h2]
              by_cases h3 : (tokT (c :: r)).err = 0
              · rw [if_pos h3, if_pos h3]
                have h4 := tok_len h3
                rw [ih _ _ f g (by rw [List.length_drop, List.length_cons]; omega) (by rw [List.length_drop, List.length_cons]; omega) (by rw [List.length_drop, List.length_cons]; omega)]
              · rw [if_neg h3, if_neg h3]

theorem scanS_nil (p : Nat) : scanS [] p = .ok [] := rfl
theorem scanS_blk {c : UInt8} {r : List UInt8} (p : Nat) (h : blkB c = true) : scanS (c :: r) p = scanS r (p + 1) := by
  unfold scanS
  rw [List.length_cons, scanF, if_pos h]
theorem scanS_com {c : UInt8} {r : List UInt8} (p : Nat) (h : blkB c = false) (hc : comB (c :: r) = true) : scanS (c :: r) p = scanS ((c :: r).drop (runN notNl (c :: r))) (p + runN notNl (c :: r)) := by
  have hr : notNl c = true := by have := com_head hc; simp [notNl, this]
  have h3 := runN_pos r hr
  unfold scanS
  rw [List.length_cons, scanF, if_neg (by rw [h]; decide), if_pos hc]
  exact scanF_fuel r.length _ _ _ _ (by rw [List.length_drop, List.length_cons]; omega) (by rw [List.length_drop, List.length_cons]; omega) (Nat.le_refl _)
theorem scanS_tok {c : UInt8} {r : List UInt8} (p : Nat) (h : blkB c = false) (hc : comB (c :: r) = false) (he : (tokT (c :: r)).err = 0) :
    scanS (c :: r) p = (scanS ((c :: r).drop (tokT (c :: r)).len) (p + (tokT (c :: r)).len)).pre [⟨(tokT (c :: r)).kind, (c :: r).take (tokT (c :: r)).len, p⟩] := by
  have h4 := tok_len he
  unfold scanS
  rw [List.length_cons, scanF, if_neg (by rw [h]; decide), if_neg (by rw [hc]; decide), if_pos he]
  rw [scanF_fuel r.length _ _ r.length _ (by rw [List.length_drop, List.length_cons]; omega) (by rw [List.length_drop, List.length_cons]; omega) (Nat.le_refl _)]
theorem scanS_bad {c : UInt8} {r : List UInt8} (p : Nat) (h : blkB c = false) (hc : comB (c :: r) = false) (he : (tokT (c :: r)).err ≠ 0) : scanS (c :: r) p = .bad p (tokT (c :: r)).err := by
  unfold scanS
  rw [List.length_cons, scanF, if_neg (by rw [h]; decide), if_neg (by rw [hc]; decide), if_neg he]

/-- By places of one text. -/
def sc (l : List UInt8) (k : Nat) : R := scanS (l.drop k) k
def comAt (l : List UInt8) (k : Nat) : Bool := comB (l.drop k)
def skipAt (l : List UInt8) (k : Nat) : Nat := k + skipN false (l.drop k)
def tokAt (l : List UInt8) (k : Nat) : Tk := tokT (l.drop k)
theorem sc_end {l : List UInt8} {k : Nat} (h : l.length ≤ k) : sc l k = .ok [] := by unfold sc; rw [List.drop_of_length_le h]; rfl
theorem sc_blk {l : List UInt8} {k : Nat} (h : k < l.length) (hb : blkB l[k] = true) : sc l k = sc l (k + 1) := by
  unfold sc; rw [List.drop_eq_getElem_cons h, scanS_blk _ hb]
theorem sc_com {l : List UInt8} {k : Nat} (h : k < l.length) (hb : blkB l[k] = false) (hc : comAt l k = true) : sc l k = sc l (endAt notNl l k) := by
  unfold sc comAt at *
  rw [List.drop_eq_getElem_cons h] at hc
  rw [show List.drop (endAt notNl l k) l = (l.drop k).drop (runN notNl (l.drop k)) by rw [List.drop_drop]; rfl]
  rw [show endAt notNl l k = k + runN notNl (l.drop k) from rfl]
  rw [List.drop_eq_getElem_cons h, scanS_com _ hb hc]
theorem sc_tok {l : List UInt8} {k : Nat} (h : k < l.length) (hb : blkB l[k] = false) (hc : comAt l k = false) (he : (tokAt l k).err = 0) :
    sc l k = (sc l (k + (tokAt l k).len)).pre [⟨(tokAt l k).kind, (l.drop k).take (tokAt l k).len, k⟩] := by
  unfold sc comAt tokAt at *
  rw [List.drop_eq_getElem_cons h] at hc he ⊢
  rw [scanS_tok _ hb hc he]
  rw [show List.drop (k + (tokT (l[k] :: List.drop (k + 1) l)).len) l = (l.drop k).drop (tokT (l[k] :: List.drop (k + 1) l)).len by rw [List.drop_drop]]
  rw [List.drop_eq_getElem_cons h]
theorem sc_bad {l : List UInt8} {k : Nat} (h : k < l.length) (hb : blkB l[k] = false) (hc : comAt l k = false) (he : (tokAt l k).err ≠ 0) : sc l k = .bad k (tokAt l k).err := by
  unfold sc comAt tokAt at *
  rw [List.drop_eq_getElem_cons h] at hc he ⊢
  rw [scanS_bad _ hb hc he]
theorem tokAt_len {l : List UInt8} {k : Nat} (h : k < l.length) (he : (tokAt l k).err = 0) : 1 ≤ (tokAt l k).len ∧ k + (tokAt l k).len ≤ l.length := by
  unfold tokAt at *
  have hl : (l.drop k).length = l.length - k := List.length_drop
  rw [List.drop_eq_getElem_cons h] at he hl ⊢
  have := tok_len he
  omega

theorem skipAt_blk {l : List UInt8} {k : Nat} (h : k < l.length) (hb : blkB l[k] = true) : skipAt l k = skipAt l (k + 1) := by
  unfold skipAt; rw [List.drop_eq_getElem_cons h, skip_blk _ hb]; omega
theorem skipAt_com {l : List UInt8} {k : Nat} (h : k < l.length) (hb : blkB l[k] = false) (hc : comAt l k = true) : skipAt l k = skipAt l (endAt notNl l k) := by
  unfold skipAt comAt at *
  rw [List.drop_eq_getElem_cons h] at hc
  rw [show List.drop (endAt notNl l k) l = (l.drop k).drop (runN notNl (l.drop k)) by rw [List.drop_drop]; rfl]
  rw [show endAt notNl l k = k + runN notNl (l.drop k) from rfl]
  rw [List.drop_eq_getElem_cons h, skip_com hb hc]; omega
theorem skipAt_stop {l : List UInt8} {k : Nat} (h : k < l.length) (hb : blkB l[k] = false) (hc : comAt l k = false) : skipAt l k = k := by
  unfold skipAt comAt at *
  rw [List.drop_eq_getElem_cons h] at hc ⊢
  rw [skip_stop hb hc]; rfl
theorem skipAt_end {l : List UInt8} {k : Nat} (h : l.length ≤ k) : skipAt l k = k := by unfold skipAt; rw [List.drop_of_length_le h]; rfl
theorem endAt_com {l : List UInt8} {k : Nat} (h : k < l.length) (hc : comAt l k = true) : k + 1 ≤ endAt notNl l k := by
  unfold comAt at hc
  rw [List.drop_eq_getElem_cons h] at hc
  have := com_head hc
  rw [endAt_step h (by simp [notNl, this])]
  exact le_endAt _ _ _
/-- Behind what stands between, the same tokens; and there the text ends, or a token begins. -/
theorem skip_all (l : List UInt8) : ∀ (n k : Nat), l.length - k ≤ n → k ≤ l.length → sc l k = sc l (skipAt l k) ∧ k ≤ skipAt l k ∧ skipAt l k ≤ l.length ∧
    (∀ h : skipAt l k < l.length, blkB l[skipAt l k] = false ∧ comAt l (skipAt l k) = false) := by
  intro n
  induction n with
  | zero =>
    intro k hn hk
    have : skipAt l k = k := skipAt_end (by omega)
    rw [this]
    exact ⟨rfl, Nat.le_refl _, hk, fun h => by omega⟩
  | succ n ih =>
    intro k hn hk
    by_cases hlt : k < l.length
    · by_cases hb : blkB l[k] = true
      · have := ih (k + 1) (by omega) (by omega)
        rw [sc_blk hlt hb, skipAt_blk hlt hb]
        exact ⟨this.1, by omega, this.2.2⟩
      · have hb' : blkB l[k] = false := by simpa using hb
        by_cases hc : comAt l k = true
        · have h1 := endAt_com hlt hc
          have h2 : endAt notNl l k ≤ l.length := endAt_le hk
          have := ih (endAt notNl l k) (by omega) h2
          rw [sc_com hlt hb' hc, skipAt_com hlt hb' hc]
          exact ⟨this.1, by omega, this.2.2⟩
        · have hc' : comAt l k = false := by simpa using hc
          have : skipAt l k = k := skipAt_stop hlt hb' hc'
          rw [this]
          exact ⟨rfl, Nat.le_refl _, hk, fun _ => ⟨hb', hc'⟩⟩
    · have : skipAt l k = k := skipAt_end (by omega)
      rw [this]
      exact ⟨rfl, Nat.le_refl _, hk, fun h => by omega⟩

end Go.Proofs.YteikheaanefgbaaDoor
