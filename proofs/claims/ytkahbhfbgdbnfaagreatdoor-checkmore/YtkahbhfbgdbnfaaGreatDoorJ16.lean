/-
  PLAIN: facts about the tokens of a text: each stands at its place; joined with blanks they are the same; a text behind a line feed is a text for itself. Nothing of the program stands here.
-/
import Derived.Test.YtkahbhfbgdbnfaaGreatDoorJ1
import Derived.Lib.Join
import Derived.Test.YtkahbhfbgdbnfaaGreatDoorJ15
import Derived.Test.YtkahbhfbgdbnfaaGreatDoorJ10
import Derived.Lib.AppendIntMem
namespace Go.Proofs.YtkahbhfbgdbnfaaGreatDoor
open Go.RowKit

/-- From e on each token stands at its place, behind the one ahead. -/
def Chain (l : List UInt8) : Nat → List Tok → Prop
  | _, [] => True
  | e, t :: r => e ≤ t.place ∧ 0 < t.text.length ∧ t.place + t.text.length ≤ l.length ∧ (l.drop t.place).take t.text.length = t.text ∧ Chain l (t.place + t.text.length) r
theorem Chain.mono {l : List UInt8} {e e' : Nat} {ts : List Tok} (h : Chain l e ts) (he : e' ≤ e) : Chain l e' ts := by
  cases ts with
  | nil => trivial
  | cons t r => exact ⟨Nat.le_trans he h.1, h.2⟩

/-- A word of a text that stands for itself. -/
def TokOK (t : Tok) : Prop := ∃ c r, t.text = c :: r ∧ blkB c = false ∧ ∀ rest : List UInt8, (rest = [] ∨ ∃ q, rest = 32 :: q) → comB (t.text ++ rest) = false ∧ tokT (t.text ++ rest) = ⟨0, t.kind, t.text.length⟩

theorem runN_stop {f : UInt8 → Bool} (x rest : List UInt8) (hx : x.all f = true) (hr : ∀ c q, rest = c :: q → f c = false) : runN f (x ++ rest) = x.length := by
  induction x with
  | nil =>
    cases rest with
    | nil => rfl
    | cons c q => rw [List.nil_append, runN_zero q (hr c q rfl)]; rfl
  | cons c r ih =>
    rw [List.all_cons, Bool.and_eq_true] at hx
    rw [List.cons_append, runN_pos _ hx.1, ih hx.2]; rfl
theorem run_all_take (f : UInt8 → Bool) (l : List UInt8) : (l.take (runN f l)).all f = true := by
  induction l with
  | nil => rfl
  | cons c r ih =>
    cases h : f c with
    | true => rw [runN_pos r h, List.take_succ_cons, List.all_cons, h, ih]; rfl
    | false => rw [runN_zero r h]; rfl
theorem rest_stop {f : UInt8 → Bool} (h32 : f 32 = false) {rest : List UInt8} (hr : rest = [] ∨ ∃ q, rest = 32 :: q) : ∀ c q, rest = c :: q → f c = false := by
  rintro c q rfl
  rcases hr with hr | ⟨q', hr⟩
  · cases hr
  · injection hr with hr _; rw [hr]; exact h32
theorem com_first {c : UInt8} (r : List UInt8) (h : c.toNat ≠ 47) : comB (c :: r) = false := by
  cases r with
  | nil => rfl
  | cons d r => simp [comB, h]

theorem word_kind {l : List UInt8} (h : (wordT l).err = 0) : (wordT l).len = runN wchB l ∧ ¬ 12 < runN wchB l ∧ (wordT l).kind = (if keyB (l.take (runN wchB l)) then 2 else 1) := by
  unfold wordT at h ⊢
  by_cases h1 : 12 < runN wchB l
  · rw [if_pos h1] at h; exact absurd h (by simp)
  · rw [if_neg h1]
    by_cases h2 : keyB (l.take (runN wchB l)) = true
    · rw [if_pos h2, if_pos h2]; exact ⟨rfl, h1, rfl⟩
    · rw [if_neg h2, if_neg h2]; exact ⟨rfl, h1, rfl⟩
theorem num_kind {l : List UInt8} (h : (numT l).err = 0) : (numT l).len = runN digB l ∧ (numT l).kind = 3 ∧ parE (l.take (runN digB l)) = 0 := by
  unfold numT at h ⊢
  by_cases h1 : afterB (l.drop (runN digB l)) = true
  · rw [if_pos h1] at h; exact absurd h (by simp)
  · rw [if_neg h1] at h ⊢
    by_cases h2 : parE (l.take (runN digB l)) = 0
    · rw [if_pos h2]; exact ⟨rfl, rfl, h2⟩
    · rw [if_neg h2] at h; exact absurd h h2
theorem let_dig {c : UInt8} (h : letB c = true) : digB c = false := by
  unfold letB at h; unfold digB
  simp at h ⊢
  omega
theorem long_set {l : List UInt8} (h : longB l = true) : ∃ a b q, l = a :: b :: q ∧ longTab.contains [a, b] = true := by
  match l with
  | [] => exact absurd h (by decide)
  | [a] => simp [longB, longTab] at h
  | a :: b :: q => exact ⟨a, b, q, rfl, h⟩
theorem long_cases {a b : UInt8} (h : longTab.contains [a, b] = true) : letB a = false ∧ digB a = false ∧ ¬ (a.toNat = 47 ∧ b.toNat = 47) := by
  simp [longTab] at h
  rcases h with h | h | h | h | h | h | h | h | h <;> obtain ⟨rfl, rfl⟩ := h <;> decide
theorem long_no32 (c : UInt8) : longTab.contains [c, 32] = false := by
  simp [longTab]
theorem long_no10 (c : UInt8) : longTab.contains [c, 10] = false := by
  simp [longTab]
theorem long_no1 (c : UInt8) : longTab.contains [c] = false := by
  simp [longTab]
theorem after_rest {rest : List UInt8} (hr : rest = [] ∨ ∃ q, rest = 32 :: q) : afterB rest = false := by
  rcases hr with rfl | ⟨q, rfl⟩
  · rfl
  · show letB 32 = false; decide

theorem tok_word {c : UInt8} {r : List UInt8} (p : Nat) (h1 : letB c = true) (hb : blkB c = false) (h : (wordT (c :: r)).err = 0) : TokOK ⟨(wordT (c :: r)).kind, (c :: r).take (wordT (c :: r)).len, p⟩ := by
  obtain ⟨h2, h3, h4⟩ := word_kind h
  have hw : wchB c = true := by simp [wchB, h1]
  have hp := runN_pos r hw
  have hall := run_all_take wchB (c :: r)
  have hlen : ((c :: r).take (runN wchB (c :: r))).length = runN wchB (c :: r) := by rw [List.length_take]; exact Nat.min_eq_left (runN_le _ _)
  have hcons : (c :: r).take (runN wchB (c :: r)) = c :: r.take (runN wchB r) := by rw [hp, List.take_succ_cons]
  rw [h2, h4]
  refine ⟨c, r.take (runN wchB r), hcons, hb, fun rest hr => ?_⟩
  show comB ((c :: r).take (runN wchB (c :: r)) ++ rest) = false ∧ tokT ((c :: r).take (runN wchB (c :: r)) ++ rest) = ⟨0, _, ((c :: r).take (runN wchB (c :: r))).length⟩
  have hrun : runN wchB ((c :: r).take (runN wchB (c :: r)) ++ rest) = ((c :: r).take (runN wchB (c :: r))).length := runN_stop _ _ hall (rest_stop (by decide) hr)
  generalize hx : (c :: r).take (runN wchB (c :: r)) = x at *
  constructor
  · rw [hcons, List.cons_append]
    apply com_first
    intro e
    have : letB c = true := h1
    unfold letB at this
    simp at this
    omega
  · have : tokT (x ++ rest) = wordT (x ++ rest) := by rw [hcons, List.cons_append]; exact tokT_let _ h1
    rw [this]
    unfold wordT
    rw [hrun, List.take_left, if_neg (by omega)]
    cases keyB x <;> rfl
theorem tok_num {c : UInt8} {r : List UInt8} (p : Nat) (h1 : letB c = false) (hd : digB c = true) (hb : blkB c = false) (h : (numT (c :: r)).err = 0) : TokOK ⟨(numT (c :: r)).kind, (c :: r).take (numT (c :: r)).len, p⟩ := by
  obtain ⟨h2, h4, h5⟩ := num_kind h
  have hp := runN_pos r hd
  have hall := run_all_take digB (c :: r)
  have hcons : (c :: r).take (runN digB (c :: r)) = c :: r.take (runN digB r) := by rw [hp, List.take_succ_cons]
  rw [h2, h4]
  refine ⟨c, r.take (runN digB r), hcons, hb, fun rest hr => ?_⟩
  show comB ((c :: r).take (runN digB (c :: r)) ++ rest) = false ∧ tokT ((c :: r).take (runN digB (c :: r)) ++ rest) = ⟨0, _, ((c :: r).take (runN digB (c :: r))).length⟩
  have hrun : runN digB ((c :: r).take (runN digB (c :: r)) ++ rest) = ((c :: r).take (runN digB (c :: r))).length := runN_stop _ _ hall (rest_stop (by decide) hr)
  generalize hx : (c :: r).take (runN digB (c :: r)) = x at *
  constructor
  · rw [hcons, List.cons_append]
    apply com_first
    intro e
    have : digB c = true := hd
    unfold digB at this
    simp at this
    omega
  · have : tokT (x ++ rest) = numT (x ++ rest) := by rw [hcons, List.cons_append]; exact tokT_dig _ h1 hd
    rw [this]
    unfold numT
    rw [hrun, List.take_left, List.drop_left, after_rest hr, if_neg (by decide), if_pos h5]
theorem tok_sign {c : UInt8} {r : List UInt8} (p : Nat) (h1 : letB c = false) (hd : digB c = false) (hb : blkB c = false) (h : (signT (c :: r) c).err = 0) : TokOK ⟨(signT (c :: r) c).kind, (c :: r).take (signT (c :: r) c).len, p⟩ := by
  by_cases hl : longB (c :: r) = true
  · obtain ⟨a, b, q, he, hc⟩ := long_set hl
    injection he with he1 he2
    subst he1 he2
    have hs : signT (c :: b :: q) c = ⟨0, 4, 2⟩ := by unfold signT; rw [if_pos hl]
    rw [hs]
    refine ⟨c, [b], rfl, hb, fun rest hr => ?_⟩
    show comB (c :: b :: rest) = false ∧ tokT (c :: b :: rest) = ⟨0, 4, 2⟩
    constructor
    · have := (long_cases hc).2.2
      simp only [comB, Bool.and_eq_false_iff, decide_eq_false_iff_not]
      by_cases e : c.toNat = 47
      · exact Or.inr (fun e2 => this ⟨e, e2⟩)
      · exact Or.inl e
    · rw [tokT_sign _ h1 hd]
      unfold signT
      rw [if_pos (show longB (c :: b :: rest) = true from hc)]
  · have hs0 : shortB c = true := by
      unfold signT at h
      rw [if_neg hl] at h
      by_cases h4 : shortB c = true
      · exact h4
      · rw [if_neg h4] at h; exact absurd h (by simp)
    have hs : signT (c :: r) c = ⟨0, 4, 1⟩ := by unfold signT; rw [if_neg hl, if_pos hs0]
    rw [hs]
    refine ⟨c, [], rfl, hb, fun rest hr => ?_⟩
    show comB (c :: rest) = false ∧ tokT (c :: rest) = ⟨0, 4, 1⟩
    rcases hr with rfl | ⟨q, rfl⟩
    · refine ⟨rfl, ?_⟩
      rw [tokT_sign _ h1 hd]
      unfold signT
      rw [if_neg (by rw [show longB [c] = false from long_no1 c]; decide), if_pos hs0]
    · refine ⟨by simp [comB], ?_⟩
      rw [tokT_sign _ h1 hd]
      unfold signT
      rw [if_neg (by rw [show longB (c :: 32 :: q) = false from long_no32 c]; decide), if_pos hs0]
theorem tok_ok {c : UInt8} {r : List UInt8} (p : Nat) (hb : blkB c = false) (h : (tokT (c :: r)).err = 0) : TokOK ⟨(tokT (c :: r)).kind, (c :: r).take (tokT (c :: r)).len, p⟩ := by
  cases h1 : letB c with
  | true => rw [tokT_let r h1] at h ⊢; exact tok_word p h1 hb h
  | false =>
    cases h2 : digB c with
    | true => rw [tokT_dig r h1 h2] at h ⊢; exact tok_num p h1 h2 hb h
    | false => rw [tokT_sign r h1 h2] at h ⊢; exact tok_sign p h1 h2 hb h

/-- What a scan that succeeds gives. -/
theorem sc_chain (l : List UInt8) : ∀ (n k : Nat) (ts : List Tok), l.length - k ≤ n → k ≤ l.length → sc l k = .ok ts → Chain l k ts ∧ (∀ t ∈ ts, TokOK t) ∧ ts.length + k ≤ l.length := by
  intro n
  induction n with
  | zero =>
    intro k ts hn hk h
    rw [sc_end (by omega)] at h
    injection h with h
    subst h
    exact ⟨trivial, by simp, by simpa using hk⟩
  | succ n ih =>
    intro k ts hn hk h
    by_cases hlt : k < l.length
    · by_cases hb : blkB l[k] = true
      · rw [sc_blk hlt hb] at h
        obtain ⟨a, b, c⟩ := ih (k + 1) ts (by omega) (by omega) h
        exact ⟨a.mono (by omega), b, by omega⟩
      · have hb' : blkB l[k] = false := by simpa using hb
        by_cases hc : comAt l k = true
        · have h1 := endAt_com hlt hc
          have h2 : endAt notNl l k ≤ l.length := endAt_le hk
          rw [sc_com hlt hb' hc] at h
          obtain ⟨a, b, c⟩ := ih _ ts (by omega) h2 h
          exact ⟨a.mono (by omega), b, by omega⟩
        · have hc' : comAt l k = false := by simpa using hc
          by_cases he : (tokAt l k).err = 0
          · have hln := tokAt_len hlt he
            have htl : ((l.drop k).take (tokAt l k).len).length = (tokAt l k).len := by rw [List.length_take, List.length_drop]; omega
            rw [sc_tok hlt hb' hc' he] at h
            cases hr : sc l (k + (tokAt l k).len) with
            | bad p e => rw [hr] at h; simp [R.pre] at h
            | ok us =>
              rw [hr] at h
              simp only [R.pre, List.cons_append, List.nil_append] at h
              injection h with h
              subst h
              obtain ⟨a, b, c⟩ := ih _ us (by omega) (by omega) hr
              have hok : TokOK ⟨(tokAt l k).kind, (l.drop k).take (tokAt l k).len, k⟩ := by
                unfold tokAt at he ⊢
                rw [List.drop_eq_getElem_cons hlt] at he ⊢
                exact tok_ok k hb' he
              refine ⟨⟨Nat.le_refl _, by rw [htl]; omega, by rw [htl]; exact hln.2, by rw [htl], by rw [htl]; exact a⟩, ?_, by simp only [List.length_cons]; omega⟩
              intro t ht
              rcases List.mem_cons.1 ht with rfl | ht
              · exact hok
              · exact b t ht
          · rw [sc_bad hlt hb' hc' he] at h; cases h
    · rw [sc_end (by omega)] at h
      injection h with h
      subst h
      exact ⟨trivial, by simp, by simpa using hk⟩
theorem sc_bad_lt (l : List UInt8) : ∀ (n k p e : Nat), l.length - k ≤ n → sc l k = .bad p e → p < l.length ∧ e ≠ 0 := by
  intro n
  induction n with
  | zero =>
    intro k p e hn h
    rw [sc_end (by omega)] at h; cases h
  | succ n ih =>
    intro k p e hn h
    by_cases hlt : k < l.length
    · by_cases hb : blkB l[k] = true
      · rw [sc_blk hlt hb] at h
        exact ih _ p e (by omega) h
      · have hb' : blkB l[k] = false := by simpa using hb
        by_cases hc : comAt l k = true
        · have h1 := endAt_com hlt hc
          rw [sc_com hlt hb' hc] at h
          exact ih _ p e (by omega) h
        · have hc' : comAt l k = false := by simpa using hc
          by_cases he : (tokAt l k).err = 0
          · have hln := tokAt_len hlt he
            rw [sc_tok hlt hb' hc' he] at h
            cases hr : sc l (k + (tokAt l k).len) with
            | bad p' e' =>
              rw [hr] at h
              simp only [R.pre, R.bad.injEq] at h
              obtain ⟨rfl, rfl⟩ := h
              exact ih _ _ _ (by omega) hr
            | ok us => rw [hr] at h; simp [R.pre] at h
          · rw [sc_bad hlt hb' hc' he] at h
            injection h with h1 h2
            subst h1 h2
            exact ⟨hlt, he⟩
    · rw [sc_end (by omega)] at h; cases h

/-- Each with a blank ahead. -/
def jt : List Tok → List UInt8
  | [] => []
  | t :: r => 32 :: (t.text ++ jt r)
theorem jt_rest (r : List Tok) : jt r = [] ∨ ∃ q, jt r = 32 :: q := by
  cases r with
  | nil => exact Or.inl rfl
  | cons t r => exact Or.inr ⟨_, rfl⟩
theorem jt_tail (r : List Tok) : Lib.joinTail [32] (r.map (·.text)) = jt r := by
  induction r with
  | nil => rfl
  | cons t r ih =>
    have : Lib.joinTail [32] ((t :: r).map (·.text)) = ([32] ++ t.text) ++ Lib.joinTail [32] (r.map (·.text)) := by simp [Lib.joinTail]
    rw [this, ih]; simp [jt]
theorem join_jt (t : Tok) (r : List Tok) : Lib.join ((t :: r).map (·.text)) [32] = t.text ++ jt r := by
  rw [List.map_cons, Lib.join_cons, jt_tail]
def same (ms ts : List Tok) : Prop := ms.map (fun t => (t.kind, t.text)) = ts.map (fun t => (t.kind, t.text))
theorem scan_one {t : Tok} (h : TokOK t) (rest : List UInt8) (hr : rest = [] ∨ ∃ q, rest = 32 :: q) (p : Nat) : scanS (t.text ++ rest) p = (scanS rest (p + t.text.length)).pre [⟨t.kind, t.text, p⟩] := by
  obtain ⟨c, r, he, hb, hk⟩ := h
  obtain ⟨h1, h2⟩ := hk rest hr
  have h3 := he
  generalize t.text = x at *
  subst h3
  rw [List.cons_append] at h1 h2 ⊢
  rw [scanS_tok p hb h1 (by rw [h2]), h2]
  show (scanS (((c :: r) ++ rest).drop (c :: r).length) _).pre [⟨t.kind, ((c :: r) ++ rest).take (c :: r).length, p⟩] = _
  rw [List.drop_left, List.take_left]
theorem scan_jt (ts : List Tok) : ∀ p : Nat, (∀ t ∈ ts, TokOK t) → ∃ ms, scanS (jt ts) p = .ok ms ∧ same ms ts := by
  induction ts with
  | nil => intro p _; exact ⟨[], rfl, rfl⟩
  | cons t r ih =>
    intro p h
    obtain ⟨ms, h1, h2⟩ := ih (p + 1 + t.text.length) (fun u hu => h u (List.mem_cons_of_mem _ hu))
    refine ⟨⟨t.kind, t.text, p + 1⟩ :: ms, ?_, ?_⟩
    · show scanS (32 :: (t.text ++ jt r)) p = _
      rw [scanS_blk p (by decide), scan_one (h t (List.mem_cons_self ..)) _ (jt_rest r), h1]; rfl
    · unfold same at h2 ⊢
      rw [List.map_cons, List.map_cons, h2]
theorem scan_join (ts : List Tok) (h : ∀ t ∈ ts, TokOK t) : ∃ ms, sc (Lib.join (ts.map (·.text)) [32]) 0 = .ok ms ∧ same ms ts := by
  cases ts with
  | nil => exact ⟨[], rfl, rfl⟩
  | cons t r =>
    rw [join_jt]
    obtain ⟨ms, h1, h2⟩ := scan_jt r (0 + t.text.length) (fun u hu => h u (List.mem_cons_of_mem _ hu))
    refine ⟨⟨t.kind, t.text, 0⟩ :: ms, ?_, ?_⟩
    · unfold sc
      rw [List.drop_zero, scan_one (h t (List.mem_cons_self ..)) _ (jt_rest r), h1]; rfl
    · unfold same at h2 ⊢
      rw [List.map_cons, List.map_cons, h2]
theorem jt_len (l : List UInt8) (ts : List Tok) : ∀ e : Nat, e ≤ l.length → Chain l e ts → (jt ts).length ≤ 2 * (l.length - e) := by
  induction ts with
  | nil => intro e _ _; exact Nat.zero_le _
  | cons t r ih =>
    intro e he h
    obtain ⟨h1, h2, h3, _, h4⟩ := h
    have := ih _ h3 h4
    show (32 :: (t.text ++ jt r)).length ≤ _
    rw [List.length_cons, List.length_append]
    omega
theorem join_len (l : List UInt8) (ts : List Tok) (h : Chain l 0 ts) : (Lib.join (ts.map (·.text)) [32]).length ≤ 2 * l.length := by
  cases ts with
  | nil => exact Nat.zero_le _
  | cons t r =>
    have := jt_len l (t :: r) 0 (Nat.zero_le _) h
    rw [join_jt]
    have e : (jt (t :: r)).length = (t.text ++ jt r).length + 1 := rfl
    omega

end Go.Proofs.YtkahbhfbgdbnfaaGreatDoor

/-
  CONTRACT: scan of package parse: the tokens, and one of no kind behind them; or it throws what is wrong. And what is known of tokens. Of what was there nothing has turned.
-/
namespace Go.Proofs.YtkahbhfbgdbnfaaGreatDoor
open Go.RowKit

theorem spec_val (x : ByteArray) (h : 0 < x.size) (ha : x.data.toList.all digB = true) (hp : parE x.data.toList = 0) : (specP x).1 = (val 0 x.data.toList : Int) := by
  obtain ⟨r, hr⟩ := head_at x h
  have hd : digB x[0] = true := by
    rw [hr, List.all_cons, Bool.and_eq_true] at ha; exact ha.1
  have h45 : x[0] ≠ 45 := by intro e; rw [e] at hd; exact absurd hd (by decide)
  have ht := trim_pos x (Or.inr ⟨h, h45⟩)
  unfold parE at hp
  by_cases hf : formB x = true
  · have hf2 := hf
    unfold formB at hf2
    rw [ht] at hf2
    rw [if_pos hf2] at hp
    rw [spec_pos hf (by rw [ht]; omega), ht]
    by_cases hv : val 0 x.data.toList < 9223372036854775808
    · rw [if_pos hv]
    · rw [if_neg hv] at hp; cases hp
  · have hf1 : formB x = false := by simpa using hf
    have hf2 := hf1
    unfold formB at hf2
    rw [ht] at hf2
    rw [hf2] at hp; cases hp

/-- What a token's kind says of its text. -/
theorem tok_facts {t : Tok} (h : TokOK t) : (t.kind = 1 ∧ letB (t.text.headD 0) = true ∧ t.text.all wchB = true ∧ t.text.length ≤ 12 ∧ keyB t.text = false) ∨ (t.kind = 2 ∧ keyB t.text = true) ∨ (t.kind = 3 ∧ t.text.all digB = true ∧ parE t.text = 0 ∧ 0 < t.text.length) ∨ (t.kind = 4 ∧ letB (t.text.headD 0) = false ∧ digB (t.text.headD 0) = false) := by
  obtain ⟨c, r, h1, -, h3⟩ := h
  have h4 := (h3 [] (Or.inl rfl)).2
  rw [List.append_nil, h1] at h4
  rw [h1]
  by_cases hl : letB c = true
  · rw [tokT_let r hl] at h4
    have he : (wordT (c :: r)).err = 0 := by rw [h4]
    obtain ⟨k1, k2, k3⟩ := word_kind he
    rw [h4] at k1 k3
    simp only at k1 k3
    rw [← k1] at k2 k3
    rw [List.take_of_length_le (by simp)] at k3
    have hall := run_all_take wchB (c :: r)
    rw [← k1, List.take_of_length_le (by simp)] at hall
    by_cases hk : keyB (c :: r) = true
    · rw [if_pos hk] at k3; exact .inr (.inl ⟨k3, hk⟩)
    · rw [if_neg hk] at k3; exact .inl ⟨k3, hl, hall, by omega, by simpa using hk⟩
  · have hl' : letB c = false := by simpa using hl
    by_cases hd : digB c = true
    · rw [tokT_dig r hl' hd] at h4
      have he : (numT (c :: r)).err = 0 := by rw [h4]
      obtain ⟨k1, k2, k3⟩ := num_kind he
      rw [h4] at k1 k2
      simp only at k1 k2
      rw [← k1, List.take_of_length_le (by simp)] at k3
      have hall := run_all_take digB (c :: r)
      rw [← k1, List.take_of_length_le (by simp)] at hall
      exact .inr (.inr (.inl ⟨k2, hall, k3, by simp⟩))
    · have hd' : digB c = false := by simpa using hd
      rw [tokT_sign r hl' hd'] at h4
      refine .inr (.inr (.inr ⟨?_, hl', hd'⟩))
      unfold signT at h4
      split at h4
      · exact (congrArg Tk.kind h4).symm
      · split at h4
        · exact (congrArg Tk.kind h4).symm
        · exact absurd (congrArg Tk.err h4) (by simp)

def Tf (ts : List Tok) (k : Nat) : AT := match ts[k]? with | some t => ⟨t.kind, t.text⟩ | none => ⟨0, []⟩
def plf (ts : List Tok) (n : Nat) (k : Nat) : Nat := match ts[k]? with | some t => t.place | none => if k = ts.length then n else 0
theorem Tf_at {ts : List Tok} {k : Nat} {t : Tok} (h : ts[k]? = some t) : Tf ts k = ⟨t.kind, t.text⟩ := by unfold Tf; rw [h]
theorem Tf_end {ts : List Tok} {k : Nat} (h : ts.length ≤ k) : Tf ts k = ⟨0, []⟩ := by unfold Tf; rw [List.getElem?_eq_none h]
theorem plf_at {ts : List Tok} {n k : Nat} {t : Tok} (h : ts[k]? = some t) : plf ts n k = t.place := by unfold plf; rw [h]

/-- What Scan's answer gives of its tokens. -/
structure TokS (l : List UInt8) (ts : List Tok) : Prop where
  chain : Chain l 0 ts
  ok : ∀ t ∈ ts, TokOK t
  len : ts.length ≤ l.length
  le : l.length ≤ 4096
theorem toks_of {l : List UInt8} {ts : List Tok} (h : scanR l = .ok ts) : TokS l ts := by
  unfold scanR at h
  split at h
  · cases h
  · obtain ⟨h1, h2, h3⟩ := sc_chain l l.length 0 ts (by omega) (Nat.zero_le _) h
    exact ⟨h1, h2, by omega, by omega⟩
theorem chain_at {l : List UInt8} : ∀ {ts : List Tok} {e : Nat}, Chain l e ts → ∀ t ∈ ts, t.place + t.text.length ≤ l.length ∧ 0 < t.text.length
  | [], _, _, t, ht => by cases ht
  | a :: r, e, h, t, ht => by
    rcases List.mem_cons.1 ht with rfl | ht
    · exact ⟨h.2.2.1, h.2.1⟩
    · exact chain_at h.2.2.2.2 t ht
theorem TokS.sent {l : List UInt8} {ts : List Tok} (h : TokS l ts) : Sent (Tf ts) ts.length := by
  refine ⟨fun k hk => Tf_end hk, fun k hk => ?_⟩
  rw [Tf_at (List.getElem?_eq_getElem hk)]
  have := tok_facts (h.ok _ (List.getElem_mem hk))
  show ts[k].kind ≠ 0
  omega
theorem TokS.text {l : List UInt8} {ts : List Tok} (h : TokS l ts) (k : Nat) : (Tf ts k).text.length ≤ 5000 := by
  unfold Tf
  cases hk : ts[k]? with
  | none => simp
  | some t =>
    have := (chain_at h.chain t (List.mem_of_getElem? hk)).1
    have := h.le
    show t.text.length ≤ 5000
    omega
theorem TokS.ple {l : List UInt8} {ts : List Tok} (h : TokS l ts) (k : Nat) : plf ts l.length k ≤ l.length := by
  unfold plf
  cases hk : ts[k]? with
  | none => simp only; split <;> omega
  | some t =>
    have := (chain_at h.chain t (List.mem_of_getElem? hk)).1
    show t.place ≤ l.length
    omega
theorem TokS.nums {l : List UInt8} {ts : List Tok} (h : TokS l ts) (k : Nat) (hk : (Tf ts k).kind = 3) : (specP ⟨(Tf ts k).text.toArray⟩).1 = numN (Tf ts k).text := by
  unfold Tf at hk ⊢
  cases hg : ts[k]? with
  | none => rw [hg] at hk; cases hk
  | some t =>
    rw [hg] at hk
    simp only at hk ⊢
    have hf := tok_facts (h.ok _ (List.mem_of_getElem? hg))
    obtain ⟨-, h1, h2, h3⟩ : t.kind = 3 ∧ t.text.all digB = true ∧ parE t.text = 0 ∧ 0 < t.text.length := by
      rcases hf with hf | hf | hf | hf
      · omega
      · omega
      · exact hf
      · omega
    exact spec_val ⟨t.text.toArray⟩ (by show 0 < t.text.toArray.size; simpa using h3) h1 h2

/-- What parse's scan answers. -/
def PScanQ (s : ByteArray) (r : R) (w : World) (e : Ending) (w' : World) : Prop := Below w.heap.size w w' ∧ (match r with
  | .ok ts => ∃ g cap, e = .returned (.slice (some ⟨g, 0, none⟩) (ts.length + 1) cap) ∧ ts.length + 1 ≤ cap ∧ w.heap.size ≤ g ∧ g < w'.heap.size ∧ w'.ownsRow w.heap.size 108 3 (.slice (some ⟨g, 0, none⟩) (ts.length + 1) cap) (ts.length + 1) (cellsT (ts ++ [⟨0, [], s.size⟩]))
  | .bad p er => e = faultE p er)

set_option maxRecDepth 100000 in
set_option maxHeartbeats 400000 in
theorem pscan_any (s : ByteArray) (r : R) (w : World) (G : Good w) (hs : s.size ≤ 281474976710656) (hr : Hid (scanR s.data.toList = r)) : Calls Tryz.prog 33 #[.string s] w (PScanQ s r w) := by
  have HS := Lib.hid (scan_any s r w G hs hr)
  cases r with
  | bad p er =>
    have hne : er ≠ 0 := by
      have h1 := hr.out
      unfold scanR at h1
      split at h1
      · injection h1 with _ h2; omega
      · exact (sc_bad_lt _ _ _ _ _ (Nat.le_refl _) h1).2
    have hb : ((er : Int) != 0) = true := by simpa using hne
    clear hne hr G
    go_enter Tryz.func33, Tryz.ntmps33
    go_wp2_with fail
    refine HS.out.mono ?_
    rintro e w1 ⟨hb1, rfl⟩
    clear HS
    go_wp2_with fail
    exact ⟨rfl, hb1, rfl⟩
  | ok ts =>
    have hts := toks_of hr.out
    have hlen : ts.length ≤ 4096 := Nat.le_trans hts.len hts.le
    have hsz : s.size ≤ 4096 := by have := hts.le; rw [len_size] at this; exact this
    obtain ⟨i0, hi0, hz0, hz1, hz2⟩ := info_parts tok_info
    have HI0 := Lib.hid hi0
    have HZ0 := Lib.hid hz0
    have HZ1 := Lib.hid hz1
    have HZ2 := Lib.hid hz2
    clear hts hr G hi0 hz0 hz1 hz2
    go_enter Tryz.func33, Tryz.ntmps33
    go_wp2_with fail
    refine HS.out.mono ?_
    rintro e w1 ⟨hb1, v, rfl, hown⟩
    clear HS
    have HO := Lib.hid hown
    have HB := Lib.hid hb1
    clear hown hb1
    go_wp2_with (at_builtin; refine Hid.out ?_)
    refine Lib.hid ?_
    have hzz := HB.out.size
    refine wpList_append_lies _ rfl (.tmp 18) (.tmp 22) _ rfl w.heap.size 108 i0 _ 3 32 Tryz.underlying68 HI0.out HZ0.out HZ1.out HZ2.out rfl (by omega) v ts.length (cellsT ts) rfl (by exact HO.out.alloc _) ⟨w1.heap.size, 0, none⟩ 1 1 [.int .i64 0, .string ⟨#[]⟩, .int .i64 s.size] rfl rfl (by exact World.news_of_block (heap_alloc_new w1 _)) (by simp [Value.oneCell']) (by omega) (by simp only [maxLen]; omega) (by omega) (by simp; omega) (w1.heap.size + 1) (by simp) ?_
    intro g cap w2 hown2 hg2 hat2 hlt2
    have hb3 : Below w.heap.size w w2 := (HB.out.alloc HB.out.size _).grown hg2 (by simp; omega) (fun k hk => (HO.out.lt k hk).1)
    have hown3 : w2.ownsRow w.heap.size 108 3 (.slice (some ⟨g, 0, none⟩) (ts.length + 1) cap) (ts.length + 1) (cellsT (ts ++ [⟨0, [], s.size⟩])) := by
      rw [cellsT_snoc]; exact hown2
    have hgl := (hown3.lt g rfl).1
    have hcap : ts.length + 1 ≤ cap := by
      rcases hown3.2 with ⟨h2, _⟩ | ⟨g', cap', cur, h2, h3, h4, h5, h6⟩
      · cases h2
      · injection h2 with e1 e2 e3
        omega
    have HH := Lib.hid hown3
    have HB3 := Lib.hid hb3
    clear hown2 hg2 hat2 hown3 hb3
    go_wp2_with fail
    go_ret
    exact ⟨HB3.out, g, cap, rfl, hcap, hgl, hlt2, HH.out⟩

end Go.Proofs.YtkahbhfbgdbnfaaGreatDoor

/-
  PLAIN: the texts of a tree's tokens; and facts about them. Nothing of the program stands here. No condition.
-/
namespace Go.Proofs.YtkahbhfbgdbnfaaGreatDoor
open Go.RowKit

def textN (n : Int) : Tx := Lib.itoa n
def commaF : List (List Tx) → List Tx
  | [] => []
  | a :: r => a ++ r.flatMap fun b => cComma :: b
theorem commaF_snoc (l : List (List Tx)) (b : List Tx) : commaF (l ++ [b]) = commaF l ++ (if l = [] then b else cComma :: b) := by
  cases l with
  | nil => simp [commaF]
  | cons a r => simp [commaF, List.flatMap_append]
def truthT (n : Int) : Tx := if n = 0 then kFalse else kTrue
def exprOf (op : Nat) (name : Tx) (n : Int) (ks : List (List Tx)) : List Tx :=
  if op = 15 then [textN n] else if op = 16 then [truthT n] else if op = 17 then [kNil] else if op = 18 then [name]
  else if op = 19 then [kNew, cLB, name, cRB] else if op = 20 then ks.getD 0 [] ++ [cDot, name] else if op = 21 then [name] ++ ([cLB] ++ commaF ks ++ [cRB])
  else if op = 22 then [kRead, cLB, cRB] else if op = 23 then [cLB, signL n] ++ ks.getD 0 [] ++ [cRB]
  else if op = 24 then [cLB] ++ ks.getD 0 [] ++ [signL n] ++ ks.getD 1 [] ++ [cRB] else if op = 25 then [cLB] ++ ks.getD 0 [] ++ [cAnd] ++ ks.getD 1 [] ++ [cRB]
  else if op = 26 then [cLB] ++ ks.getD 0 [] ++ [cOr] ++ ks.getD 1 [] ++ [cRB] else []
mutual
def showE : Tree → List Tx
  | .mk op name _ n _ ks => exprOf op name n (showEL ks)
def showEL : List Tree → List (List Tx)
  | [] => []
  | t :: r => showE t :: showEL r
end
theorem showEL_map (l : List Tree) : showEL l = l.map showE := by
  induction l with
  | nil => rfl
  | cons t r ih => simp [showEL, ih]
theorem showE_eq (t : Tree) : showE t = exprOf t.op t.name t.n (t.kids.map showE) := by
  cases t; simp only [showE, Tree.op, Tree.name, Tree.n, Tree.kids, showEL_map]
def kidE (t : Tree) (i : Nat) : List Tx := (t.kids.map showE).getD i []
theorem kidE_some {t u : Tree} {i : Nat} (h : t.kids[i]? = some u) : kidE t i = showE u := by
  unfold kidE; rw [List.getD_eq_getElem?_getD, List.getElem?_map, h]; rfl
theorem kidE_none {t : Tree} {i : Nat} (h : t.kids[i]? = none) : kidE t i = [] := by
  unfold kidE; rw [List.getD_eq_getElem?_getD, List.getElem?_map, h]; rfl
def typT (ty : Tx) : List Tx := match elemO ⟨ty.toArray⟩ with | some nm => [[42], nm.data.toList] | none => [ty]
def typedT (t : Tree) : List Tx := [t.name] ++ typT t.typ
def stmtOf (op : Nat) (name : Tx) (es ss : List (List Tx)) (e : List Tx) : List Tx :=
  if op = 6 then [cLC] ++ ss.flatten ++ [cRC] else if op = 7 then [name, cDef] ++ (es.getD 0 [] ++ [cSemi]) else if op = 8 then [name, cEq] ++ (es.getD 0 [] ++ [cSemi])
  else if op = 9 then es.getD 0 [] ++ [cDot, name, cEq] ++ (es.getD 1 [] ++ [cSemi]) else if op = 10 then [kIf] ++ es.getD 0 [] ++ ss.getD 1 [] ++ (if 2 < ss.length then [kElse] ++ ss.getD 2 [] else [])
  else if op = 11 then [kFor] ++ es.getD 0 [] ++ ss.getD 1 [] else if op = 12 then [kPrint] ++ ([cLB] ++ es.getD 0 [] ++ [cRB]) ++ [cSemi]
  else if op = 13 then [kReturn] ++ (es.getD 0 [] ++ [cSemi]) else if op = 14 then es.getD 0 [] ++ [cSemi] else e
mutual
def showS : Tree → List Tx
  | .mk op name _ n _ ks => stmtOf op name (showEL ks) (showSL ks) (exprOf op name n (showEL ks))
def showSL : List Tree → List (List Tx)
  | [] => []
  | t :: r => showS t :: showSL r
end
theorem showSL_map (l : List Tree) : showSL l = l.map showS := by
  induction l with
  | nil => rfl
  | cons t r ih => simp [showSL, ih]
theorem showS_eq (t : Tree) : showS t = stmtOf t.op t.name (t.kids.map showE) (t.kids.map showS) (showE t) := by
  cases t; simp only [showS, showE, Tree.op, Tree.name, Tree.kids, showEL_map, showSL_map]
def declOf (t : Tree) : List Tx :=
  if t.op = 2 then [kType, t.name, kStruct, cLC] ++ (t.kids.flatMap fun k => typedT k ++ [cSemi]) ++ [cRC]
  else if t.op = 3 then [kVar] ++ typedT t ++ [cSemi]
  else if t.op = 4 then [kFunc, t.name] ++ ([cLB] ++ commaF ((t.kids.take (t.kids.length - 1)).map typedT) ++ [cRB]) ++ (if t.typ = [] then [] else typT t.typ) ++ ((t.kids.map showS).getD (t.kids.length - 1) [])
  else if t.op = 5 then typedT t else showS t
def showP (t : Tree) : List Tx := t.kids.flatMap declOf

/-- How many kids a node has at the least. -/
def arity (op : Nat) : Nat := if op = 4 ∨ op = 7 ∨ op = 8 ∨ op = 12 ∨ op = 14 ∨ op = 20 ∨ op = 23 then 1 else if op = 9 ∨ op = 10 ∨ op = 11 ∨ op = 24 ∨ op = 25 ∨ op = 26 then 2 else 0
/-- What is asked of a tree that is shown. -/
inductive OkT : Tree → Prop
  | mk {op : Nat} {name typ : Tx} {n : Int} {pos : Nat} {ks : List Tree} (h0 : op ≠ 0) (h1 : op = 10 ∨ op = 11 → ∃ b, ks[1]? = some b ∧ b.op = 6) (h2 : op = 15 → 0 ≤ n ∧ n ≤ 9223372036854775807) (h4 : arity op ≤ ks.length) (hk : ∀ (k : Nat) (u : Tree), ks[k]? = some u → OkT u) : OkT (.mk op name typ n pos ks)
theorem OkT.kid {t u : Tree} {k : Nat} (h : OkT t) (hu : t.kids[k]? = some u) : OkT u := by
  cases h with
  | mk h0 h1 h2 h4 hk => exact hk k u hu
theorem OkT.least {t : Tree} (h : OkT t) : arity t.op ≤ t.kids.length := by
  cases h with
  | mk h0 h1 h2 h4 hk => exact h4
theorem OkT.num {t : Tree} (h : OkT t) (ho : t.op = 15) : 0 ≤ t.n ∧ t.n ≤ 9223372036854775807 := by
  cases h with
  | mk h0 h1 h2 h4 hk => exact h2 ho
theorem OkT.body {t : Tree} (h : OkT t) (ho : t.op = 10 ∨ t.op = 11) : ∃ b, t.kids[1]? = some b ∧ b.op = 6 := by
  cases h with
  | mk h0 h1 h2 h4 hk => exact h1 ho
theorem kid_is {t : Tree} {i : Nat} (h : i < t.kids.length) : ∃ u, t.kids[i]? = some u := ⟨_, List.getElem?_eq_getElem h⟩

theorem lit_cells (w : World) (ys : List Tx) (j : Nat) (y : Tx) (h : ys[j]? = some y) : (w.alloc (.cells (strL ys).toArray 9)).cell? ⟨w.heap.size, j, none⟩ = some (.string ⟨y.toArray⟩) := by
  have := cell_of_row _ w.heap.size j (strL ys).toArray 9 (0, 0) (heap_alloc_new w (.cells (strL ys).toArray 9))
  rw [this]
  unfold strL
  rw [List.getElem?_toArray, List.getElem?_map, h]; rfl
theorem ub_ne {sb : Nat} {v v' : Value} {w wa w' : World} {xs ys : List Tx} (h : SST sb v wa v' w' ys) (hs : SH w sb v xs) (hw : w.heap.size < wa.heap.size) : v'.ownBlock ≠ some w.heap.size := fun e => by
  rcases h.nv _ e with h1 | h1
  · have := (hs.own.lt _ h1).2; omega
  · omega

set_option maxRecDepth 100000 in
set_option maxHeartbeats 400000 in
theorem text_any (n : Int) (w : World) (hp : PowIn w) (h0 : -9223372036854775808 ≤ n) (h1 : n ≤ 9223372036854775807) :
    Calls Tryz.prog 139 #[.int .i64 n] w fun e w' => e = .returned (.string ⟨(textN n).toArray⟩) ∧ Below w.heap.size w w' := by
  obtain ⟨s, hs⟩ : ∃ s : ByteArray, s = ⟨(textN n).toArray⟩ := ⟨_, rfl⟩
  have hc : Calls Tryz.prog 168 #[.int .i64 n] w fun e w' => e = .returned (.string s) ∧ Below w.heap.size w w' := by
    refine (Tryz.strconv_Itoa n h0 h1 w hp).mono ?_
    rintro e w' ⟨rfl, k, os, rfl⟩
    exact ⟨by rw [hs]; rfl, Lib.below_grow _ _ (Nat.le_refl _) _ _⟩
  rw [← hs]
  have HC := Lib.hid hc
  clear hc hs h0 h1
  go_enter Tryz.func139, Tryz.ntmps139
  go_wp2_with (go_at_call 168; refine HC.out.mono ?_; rintro e w' ⟨rfl, hb⟩)
  go_ret
  exact ⟨rfl, hb⟩

end Go.Proofs.YtkahbhfbgdbnfaaGreatDoor

/-
  CONTRACT: expr of package check, at every tree that a source can have. Of what was there nothing has turned.
-/
namespace Go.Proofs.YtkahbhfbgdbnfaaGreatDoor
open Go.RowKit

/-- A tree with the kids that its op wants, and with short names. -/
inductive Wt : Tree → Prop
  | mk {op : Nat} {name typ : List UInt8} {n : Int} {p : Nat} {ks : List Tree} (h1 : arity op ≤ ks.length) (h2 : name.length ≤ 65536) (hk : ∀ u ∈ ks, Wt u) : Wt (.mk op name typ n p ks)
theorem Wt.least {t : Tree} (h : Wt t) : arity t.op ≤ t.kids.length := by cases h; assumption
theorem Wt.short {t : Tree} (h : Wt t) : (nm t).size ≤ 65536 := by
  cases h with
  | mk h1 h2 hk => show _ ≤ _; unfold nm; rw [← len_size]; exact h2
theorem Wt.kid {t u : Tree} {k : Nat} (h : Wt t) (hu : t.kids[k]? = some u) : Wt u := by
  cases h with
  | mk h1 h2 hk => exact hk u (List.mem_of_getElem? hu)
/-- The types of what is declared lead to what is declared. -/
structure InfOk (x : Inf) : Prop where
  s : ∀ s ∈ x.structs, ∀ f ∈ s.fields, TyOk x f.typ
  g : ∀ f ∈ x.globals, TyOk x f.typ
  f : ∀ s ∈ x.funs, TyOk x s.res
theorem ty_none {x : Inf} {a : ByteArray} (h : elemO a = none) : TyOk x a := fun s hs => by rw [h] at hs; cases hs
theorem ty_at {x : Inf} {fs : List Fld} (h : ∀ f ∈ fs, TyOk x f.typ) (k : Nat) : TyOk x (typAt fs k) := by
  unfold typAt
  rw [List.getD_eq_getElem?_getD]
  cases hk : fs[k]? with
  | none => exact ty_none (by decide)
  | some f => exact h f (List.mem_of_getElem? hk)
theorem elem_ptr {n s : ByteArray} (h : elemO (ptrTo n) = some s) : s = n := by
  unfold elemO at h
  split at h
  · obtain rfl := Option.some.inj h
    apply Go.WideShapes.bytes_inj
    unfold tailOf
    have e : (ptrTo n).data.toList = 42 :: n.data.toList := rfl
    rw [cut_extract, e, List.drop_succ_cons, List.drop_zero, List.take_of_length_le (by rw [← len_size (ptrTo n), e, List.length_cons]; omega)]
  · cases h
theorem bind_ok {α β : Type} {r : CR α} {f : α → CR β} {b : β} (h : r.bind f = .ok b) : ∃ a, r = .ok a ∧ f a = .ok b := by
  cases r with
  | ok a => exact ⟨a, rfl, h⟩
  | bad p e => cases h
theorem nd_ok {α : Type} {p e : Nat} {b : Bool} {k : CR α} {a : α} (h : nd p b e k = .ok a) : b = true ∧ k = .ok a := by
  unfold nd at h
  split at h
  · exact ⟨by assumption, h⟩
  · cases h
theorem cr_inj {α : Type} {a b : α} (h : CR.ok a = .ok b) : a = b := by injection h
theorem expr_ty {x : Inf} {K : List Fld} {t : Tree} {a : ByteArray} (hx : InfOk x) (hK : KOk x K) (h : exprC x K t = .ok a) : TyOk x a := by
  rw [exprC_eq] at h
  unfold exprOfC at h
  have ti : TyOk x tInt := ty_none (by decide)
  have tb : TyOk x tBool := ty_none (by decide)
  split at h
  · obtain rfl := cr_inj h; exact ti
  split at h
  · obtain rfl := cr_inj h; exact tb
  split at h
  · unfold varC at h
    cases h1 : locO K ⟨t.name.toArray⟩ with
    | some i => rw [h1] at h; obtain rfl := cr_inj h; exact ty_at hK i
    | none =>
      cases h2 : plc x.globals ⟨t.name.toArray⟩ with
      | some i => rw [h1, h2] at h; obtain rfl := cr_inj h; exact ty_at hx.g i
      | none => rw [h1, h2] at h; have := (nd_ok h).2; cases this
  split at h
  · obtain ⟨-, h⟩ := nd_ok h
    obtain ⟨h1, h⟩ := nd_ok h
    obtain rfl := cr_inj h
    intro s hs
    obtain rfl := elem_ptr hs
    exact Option.isSome_iff_exists.1 h1
  split at h
  · obtain ⟨a', -, h⟩ := bind_ok h
    unfold fieldC at h
    split at h
    · cases h
    · rename_i s hs
      cases h2 : plc (strOf x s).fields ⟨t.name.toArray⟩ with
      | none => rw [h2] at h; cases h
      | some k =>
        rw [h2] at h
        obtain rfl := cr_inj h
        refine ty_at (fun f hf => ?_) k
        unfold strOf at hf
        rw [List.getD_eq_getElem?_getD] at hf
        cases hj : x.structs[(fnd x.structs s).getD 0]? with
        | none => rw [hj] at hf; cases hf
        | some st => rw [hj] at hf; exact hx.s st (List.mem_of_getElem? hj) f hf
  split at h
  · obtain ⟨us, -, h⟩ := bind_ok h
    obtain ⟨g, hg, h⟩ := bind_ok h
    obtain ⟨-, h⟩ := nd_ok h
    obtain ⟨-, h⟩ := nd_ok h
    obtain rfl := cr_inj h
    unfold calleeC at hg
    cases hf : funO x ⟨t.name.toArray⟩ with
    | none => rw [hf] at hg; have := (nd_ok hg).2; cases this
    | some j =>
      rw [hf] at hg
      have := (nd_ok (nd_ok hg).2).2
      obtain rfl := cr_inj this
      rw [List.getD_eq_getElem?_getD, List.getElem?_eq_getElem (fst_lt hf)]
      exact hx.f _ (List.getElem_mem _)
  split at h
  · obtain ⟨a', -, h⟩ := bind_ok h
    have := (nd_ok h).2
    obtain rfl := cr_inj this
    unfold unT; split
    · exact tb
    · exact ti
  split at h
  · obtain ⟨a', -, h⟩ := bind_ok h
    obtain ⟨a2, -, h⟩ := bind_ok h
    have := (nd_ok h).2
    obtain rfl := cr_inj this
    unfold binT; split
    · exact tb
    · exact ti
  split at h
  · obtain ⟨a', -, h⟩ := bind_ok h
    obtain ⟨a2, -, h⟩ := bind_ok h
    have := (nd_ok h).2
    obtain rfl := cr_inj this
    exact tb
  · obtain rfl := cr_inj h; exact ty_none (by decide)
theorem kidC_at {x : Inf} {K : List Fld} {t u : Tree} {k : Nat} (h : t.kids[k]? = some u) : kidC (t.kids.map (exprC x K)) k = exprC x K u := by
  unfold kidC; rw [List.getD_eq_getElem?_getD, List.getElem?_map, h]; rfl
set_option maxRecDepth 100000 in
set_option maxHeartbeats 400000 in
theorem cexpr_step (E : CE) (hx : Hid (InfOk E.x)) (t : Tree) (W : Wt t) (ih : ∀ (k : Nat) (u : Tree), t.kids[k]? = some u → XH E u) : XH E t := by
  intro w v K f b H hKo N
  have B0 := Lib.hid (b1 w (.cells #[.pointer (some ⟨b, 0, none⟩)] 25))
  have H0 := Lib.hid (H.below (b1 w (.cells #[.pointer (some ⟨b, 0, none⟩)] 25)))
  have U0 := Lib.hid (PtrAt.new w (some ⟨b, 0, none⟩))
  have NN := Lib.hid N
  have HKO := Lib.hid hKo
  have IH := Lib.hid ih
  clear H N
  have hop : t.op = 15 ∨ t.op = 22 ∨ t.op = 16 ∨ t.op = 18 ∨ t.op = 19 ∨ t.op = 20 ∨ t.op = 21 ∨ t.op = 23 ∨ t.op = 24 ∨ t.op = 25 ∨ t.op = 26 ∨ (¬ t.op = 15 ∧ ¬ t.op = 22 ∧ ¬ t.op = 16 ∧ ¬ t.op = 18 ∧ ¬ t.op = 19 ∧ ¬ t.op = 20 ∧ ¬ t.op = 21 ∧ ¬ t.op = 23 ∧ ¬ t.op = 24 ∧ ¬ t.op = 25 ∧ ¬ t.op = 26) := by omega
  rcases hop with ho | ho | ho | ho | ho | ho | ho | ho | ho | ho | ho | ho
  · have HS : Hid (exprC E.x K t = .ok tInt) := by show _ = _; rw [exprC_eq, ho]; rfl
    go_enter Tryz.func187, Tryz.ntmps187
    go_wp2_with fail
    generalize w.alloc (.cells #[.pointer (some ⟨b, 0, none⟩)] 25) = wa at *
    have u0 := U0.out.c0
    have ul := U0.out.lt
    have sl := H0.out.lt
    have c0 := H0.out.c0
    have c1 := H0.out.c1
    have c2 := H0.out.c2
    refine (cop_at NN.out H0.out.B _ (Below.refl _ _)).mono ?_
    rintro e w1 ⟨rfl, hb⟩
    have u0 := keepC (Below.refl _ _) u0 ul hb
    have hh := Lib.hid hb
    clear hb c0 c1 c2
    rw [ho]
    go_wp2_with fail
    go_ret
    exact ⟨B0.out.trans (hh.out.mono B0.out.size), by rw [HS.out]; rfl⟩
  · have HS : Hid (exprC E.x K t = .ok tInt) := by show _ = _; rw [exprC_eq, ho]; rfl
    go_enter Tryz.func187, Tryz.ntmps187
    go_wp2_with fail
    generalize w.alloc (.cells #[.pointer (some ⟨b, 0, none⟩)] 25) = wa at *
    have u0 := U0.out.c0
    have ul := U0.out.lt
    have sl := H0.out.lt
    have c0 := H0.out.c0
    have c1 := H0.out.c1
    have c2 := H0.out.c2
    refine (cop_at NN.out H0.out.B _ (Below.refl _ _)).mono ?_
    rintro e w1 ⟨rfl, hb⟩
    have u0 := keepC (Below.refl _ _) u0 ul hb
    have hh := Lib.hid hb
    clear hb c0 c1 c2
    rw [ho]
    go_wp2_with fail
    go_ret
    exact ⟨B0.out.trans (hh.out.mono B0.out.size), by rw [HS.out]; rfl⟩
  · have HS : Hid (exprC E.x K t = .ok tBool) := by show _ = _; rw [exprC_eq, ho]; rfl
    go_enter Tryz.func187, Tryz.ntmps187
    go_wp2_with fail
    generalize w.alloc (.cells #[.pointer (some ⟨b, 0, none⟩)] 25) = wa at *
    have u0 := U0.out.c0
    have ul := U0.out.lt
    have sl := H0.out.lt
    have c0 := H0.out.c0
    have c1 := H0.out.c1
    have c2 := H0.out.c2
    refine (cop_at NN.out H0.out.B _ (Below.refl _ _)).mono ?_
    rintro e w1 ⟨rfl, hb⟩
    have u0 := keepC (Below.refl _ _) u0 ul hb
    have hh := Lib.hid hb
    clear hb c0 c1 c2
    rw [ho]
    go_wp2_with fail
    go_ret
    exact ⟨B0.out.trans (hh.out.mono B0.out.size), by rw [HS.out]; rfl⟩
  · have HS : Hid (exprC E.x K t = varC E.x K t.pos (nm t)) := by show _ = _; rw [exprC_eq, ho]; rfl
    go_enter Tryz.func187, Tryz.ntmps187
    go_wp2_with fail
    generalize w.alloc (.cells #[.pointer (some ⟨b, 0, none⟩)] 25) = wa at *
    have u0 := U0.out.c0
    have ul := U0.out.lt
    have sl := H0.out.lt
    have c0 := H0.out.c0
    have c1 := H0.out.c1
    have c2 := H0.out.c2
    refine (cop_at NN.out H0.out.B _ (Below.refl _ _)).mono ?_
    rintro e w1 ⟨rfl, hb⟩
    have u0 := keepC (Below.refl _ _) u0 ul hb
    have hh := Lib.hid hb
    clear hb c0 c1 c2
    rw [ho]
    go_wp2_with fail
    refine (cvariable_any E v K f b t _ (H0.out.below hh.out) NN.out).mono ?_
    rintro e w2 ⟨hb, he⟩
    rw [← HS.out] at he
    obtain ⟨q, hq⟩ : ∃ q, exprC E.x K t = q := ⟨_, rfl⟩
    rw [hq] at he
    cases q with
    | bad p er => obtain rfl := he; exact ⟨rfl, onB B0.out hh.out hb, by rw [hq]; rfl⟩
    | ok a =>
      obtain rfl := he
      go_wp2_with fail
      go_ret
      exact ⟨onB B0.out hh.out hb, by rw [hq]; rfl⟩
  · have HS : Hid (exprC E.x K t = makeC E.x t.pos (nm t)) := by show _ = _; rw [exprC_eq, ho]; rfl
    go_enter Tryz.func187, Tryz.ntmps187
    go_wp2_with fail
    generalize w.alloc (.cells #[.pointer (some ⟨b, 0, none⟩)] 25) = wa at *
    have u0 := U0.out.c0
    have ul := U0.out.lt
    have sl := H0.out.lt
    have c0 := H0.out.c0
    have c1 := H0.out.c1
    have c2 := H0.out.c2
    refine (cop_at NN.out H0.out.B _ (Below.refl _ _)).mono ?_
    rintro e w1 ⟨rfl, hb⟩
    have u0 := keepC (Below.refl _ _) u0 ul hb
    have hh := Lib.hid hb
    clear hb c0 c1 c2
    rw [ho]
    go_wp2_with fail
    refine (ccreation_any E v K f b t _ (H0.out.below hh.out) NN.out W.short).mono ?_
    rintro e w2 ⟨hb, he⟩
    rw [← HS.out] at he
    obtain ⟨q, hq⟩ : ∃ q, exprC E.x K t = q := ⟨_, rfl⟩
    rw [hq] at he
    cases q with
    | bad p er => obtain rfl := he; exact ⟨rfl, onB B0.out hh.out hb, by rw [hq]; rfl⟩
    | ok a =>
      obtain rfl := he
      go_wp2_with fail
      go_ret
      exact ⟨onB B0.out hh.out hb, by rw [hq]; rfl⟩
  · obtain ⟨u, hu⟩ := kid_is (t := t) (i := 0) (by have := W.least; rw [ho] at this; exact this)
    have hk0 : kidC (t.kids.map (exprC E.x K)) 0 = exprC E.x K u := kidC_at hu
    obtain ⟨r, hr⟩ : ∃ r, exprC E.x K u = r := ⟨_, rfl⟩
    have HR := Lib.hid hr
    have HS : Hid (exprC E.x K t = r.bind fun a => fieldC E.x t.pos (nm t) a) := by show _ = _; rw [exprC_eq, ho, ← hr, ← hk0]; rfl
    obtain ⟨nb, hn, hkd⟩ := ckid_at NN.out H0.out.B 0 u hu
    have N1 := Lib.hid hn
    have HU := Lib.hid hu
    clear hr hn hk0 hu
    go_enter Tryz.func187, Tryz.ntmps187
    go_wp2_with fail
    generalize w.alloc (.cells #[.pointer (some ⟨b, 0, none⟩)] 25) = wa at *
    have u0 := U0.out.c0
    have ul := U0.out.lt
    have sl := H0.out.lt
    have c0 := H0.out.c0
    have c1 := H0.out.c1
    have c2 := H0.out.c2
    refine (cop_at NN.out H0.out.B _ (Below.refl _ _)).mono ?_
    rintro e w1 ⟨rfl, hb⟩
    have u0 := keepC (Below.refl _ _) u0 ul hb
    have hh := Lib.hid hb
    clear hb c0 c1 c2
    rw [ho]
    have HKD := Lib.hid hkd
    go_wp2_with fail
    refine rgS (fun w' => Below wa.heap.size wa w' ∧ w'.cell? ⟨w.heap.size, 0, none⟩ = some (.pointer (some ⟨b, 0, none⟩))) (by kernel_rfl) (⟨hh.out.drew, u0⟩) (fun _ a d v _ h => And.intro ((put_df a d v).symm.trans (And.left h)) (And.right h)) fun hHeld hq => ?_
    refine tkS 0 { dst := some 24, op := .move (.tmp 0), type := 185, pos := "expr.go:39", after := #[], guard := none } (v := ?v1_0) hq hHeld rfl (by kernel_rfl) ?y1_0 ?_
    case y1_0 => (intro w h; try dsimp only at h); go_simp <;> with_reducible rfl
    try simp only [Act.put, List.setIfInBounds_toArray, List.set_cons_zero, List.set_cons_succ]
    refine tkS 1 { dst := some 25, op := .load 25 (.tmp 3), type := 25, pos := "expr.go:39", after := #[], guard := none } (v := ?v1_1) hq hHeld rfl (by kernel_rfl) ?y1_1 ?_
    case y1_1 => (intro w h; try dsimp only at h); go_simp <;> with_reducible rfl
    try simp only [Act.put, List.setIfInBounds_toArray, List.set_cons_zero, List.set_cons_succ]
    refine tkS 2 { dst := some 26, op := .move (.tmp 0), type := 185, pos := "expr.go:39", after := #[], guard := none } (v := ?v1_2) hq hHeld rfl (by kernel_rfl) ?y1_2 ?_
    case y1_2 => (intro w h; try dsimp only at h); go_simp <;> with_reducible rfl
    try simp only [Act.put, List.setIfInBounds_toArray, List.set_cons_zero, List.set_cons_succ]
    refine tkS 3 { dst := some 27, op := .load 25 (.tmp 3), type := 25, pos := "expr.go:39", after := #[], guard := none } (v := ?v1_3) hq hHeld rfl (by kernel_rfl) ?y1_3 ?_
    case y1_3 => (intro w h; try dsimp only at h); go_simp <;> with_reducible rfl
    try simp only [Act.put, List.setIfInBounds_toArray, List.set_cons_zero, List.set_cons_succ]
    refine clS 4 { dst := some 28, op := .call { callee := .value (.func 29), args := #[.tmp 27, .const (.int .i64 0)], argTypes := #[25, 3] }, type := 25, pos := "expr.go:39", after := #[{ on := 3, ground := .data }], guard := none } rfl (by kernel_rfl) (by kernel_rfl) fun Kc hK => ?_
    go_simp
    refine (kid0_of 0 _ _ (HKD.out _ hHeld.1) 0 rfl).mono ?_
    rintro e w1 ⟨rfl, hb⟩
    refine hK.out _ _ ⟨hHeld.1.trans (hb.mono hHeld.1.size), keepC hHeld.1 hHeld.2 ul hb⟩ fun hHeld => ?_
    clear hb
    clear hK Kc
    try simp only [Act.put, List.setIfInBounds_toArray, List.set_cons_zero, List.set_cons_succ]
    refine clS 5 { dst := some 29, op := .call { callee := .value (.func 187), args := #[.tmp 26, .tmp 28], argTypes := #[185, 25] }, type := 9, pos := "expr.go:39", after := #[{ on := 2, ground := .data }, { on := 4, ground := .data }, { on := 4, ground := .chain }], guard := none } rfl (by kernel_rfl) (by kernel_rfl) fun Kc hK => ?_
    go_simp
    refine (IH.out 0 u HU.out _ v K f _ (H0.out.below hHeld.1) HKO.out N1.out).mono ?_
    rw [HR.out]
    rintro e w1 ⟨hb, he⟩
    cases r with
    | bad p er => obtain rfl := he; exact ⟨rfl, onB B0.out hHeld.1 hb, by rw [HS.out]; rfl⟩
    | ok a =>
    obtain rfl := he
    obtain ⟨q, hq⟩ : ∃ q, fieldC E.x t.pos (nm t) a = q := ⟨_, rfl⟩
    have HQ := Lib.hid hq
    have HTY := Lib.hid (expr_ty hx.out HKO.out HR.out)
    refine hK.out _ _ ⟨hHeld.1.trans (hb.mono hHeld.1.size), keepC hHeld.1 hHeld.2 ul hb⟩ fun hHeld => ?_
    clear hb hq
    clear hK Kc
    try simp only [Act.put, List.setIfInBounds_toArray, List.set_cons_zero, List.set_cons_succ]
    refine clS 6 { dst := some 30, op := .call { callee := .value (.func 190), args := #[.tmp 24, .tmp 25, .tmp 29], argTypes := #[185, 25, 9] }, type := 9, pos := "expr.go:39", after := #[{ on := 0, ground := .data }, { on := 1, ground := .data }, { on := 5, ground := .data }, { on := 5, ground := .chain }], guard := none } rfl (by kernel_rfl) (by kernel_rfl) fun Kc hK => ?_
    go_simp
    refine (cfield_any E v K f b t a _ (H0.out.below hHeld.1) NN.out HTY).mono ?_
    rw [HQ.out]
    rintro e w1 ⟨hb, he⟩
    cases q with
    | bad p er => obtain rfl := he; exact ⟨rfl, onB B0.out hHeld.1 hb, by rw [HS.out]; simp only [CR.bind]; rw [HQ.out]; rfl⟩
    | ok a2 =>
    obtain rfl := he
    refine hK.out _ _ ⟨hHeld.1.trans (hb.mono hHeld.1.size), keepC hHeld.1 hHeld.2 ul hb⟩ fun hHeld => ?_
    clear hb
    clear hK Kc
    try simp only [Act.put, List.setIfInBounds_toArray, List.set_cons_zero, List.set_cons_succ]
    refine tkS 7 { dst := some 4, op := .assign (.tmp 30), type := 9, pos := "expr.go:39", after := #[{ on := 6, ground := .data }, { on := 6, ground := .chain }, { on := 0, ground := .phase }, { on := 1, ground := .phase }, { on := 2, ground := .phase }, { on := 3, ground := .phase }, { on := 4, ground := .phase }, { on := 5, ground := .phase }, { on := 6, ground := .phase }], guard := none } (v := ?v1_7) hq hHeld rfl (by kernel_rfl) ?y1_7 ?_
    case y1_7 => (intro w h; try dsimp only at h); go_simp <;> with_reducible rfl
    try simp only [Act.put, List.setIfInBounds_toArray, List.set_cons_zero, List.set_cons_succ]
    refine wpAnyH_done (by kernel_rfl) ?_ _
    go_wp2_with fail
    go_ret
    exact ⟨B0.out.trans (hHeld.1.mono B0.out.size), by rw [HS.out]; simp only [CR.bind]; rw [HQ.out]; rfl⟩
  · have HS : Hid (exprC E.x K t = (allC (t.kids.map (exprC E.x K))).bind fun us => callC E.x K t.pos (nm t) us) := by show _ = _; rw [exprC_eq, ho]; rfl
    go_enter Tryz.func187, Tryz.ntmps187
    go_wp2_with fail
    generalize w.alloc (.cells #[.pointer (some ⟨b, 0, none⟩)] 25) = wa at *
    have u0 := U0.out.c0
    have ul := U0.out.lt
    have sl := H0.out.lt
    have c0 := H0.out.c0
    have c1 := H0.out.c1
    have c2 := H0.out.c2
    refine (cop_at NN.out H0.out.B _ (Below.refl _ _)).mono ?_
    rintro e w1 ⟨rfl, hb⟩
    have u0 := keepC (Below.refl _ _) u0 ul hb
    have hh := Lib.hid hb
    clear hb c0 c1 c2
    rw [ho]
    go_wp2_with fail
    refine (ccall_any E v K f b t _ (H0.out.below hh.out) HKO.out NN.out IH.out).mono ?_
    rintro e w2 ⟨hb, he⟩
    rw [← HS.out] at he
    obtain ⟨q, hq⟩ : ∃ q, exprC E.x K t = q := ⟨_, rfl⟩
    rw [hq] at he
    cases q with
    | bad p er => obtain rfl := he; exact ⟨rfl, onB B0.out hh.out hb, by rw [hq]; rfl⟩
    | ok a =>
      obtain rfl := he
      go_wp2_with fail
      go_ret
      exact ⟨onB B0.out hh.out hb, by rw [hq]; rfl⟩
  · obtain ⟨u, hu⟩ := kid_is (t := t) (i := 0) (by have := W.least; rw [ho] at this; exact this)
    have hk0 : kidC (t.kids.map (exprC E.x K)) 0 = exprC E.x K u := kidC_at hu
    have HS : Hid (exprC E.x K t = (exprC E.x K u).bind fun a => unC t.pos t.n a) := by show _ = _; rw [exprC_eq, ho, ← hk0]; rfl
    go_enter Tryz.func187, Tryz.ntmps187
    go_wp2_with fail
    generalize w.alloc (.cells #[.pointer (some ⟨b, 0, none⟩)] 25) = wa at *
    have u0 := U0.out.c0
    have ul := U0.out.lt
    have sl := H0.out.lt
    have c0 := H0.out.c0
    have c1 := H0.out.c1
    have c2 := H0.out.c2
    refine (cop_at NN.out H0.out.B _ (Below.refl _ _)).mono ?_
    rintro e w1 ⟨rfl, hb⟩
    have u0 := keepC (Below.refl _ _) u0 ul hb
    have hh := Lib.hid hb
    clear hb c0 c1 c2
    rw [ho]
    go_wp2_with fail
    refine (cunary_any E v K f b t u _ (H0.out.below hh.out) HKO.out NN.out hu (IH.out 0 u hu)).mono ?_
    rintro e w2 ⟨hb, he⟩
    rw [← HS.out] at he
    obtain ⟨q, hq⟩ : ∃ q, exprC E.x K t = q := ⟨_, rfl⟩
    rw [hq] at he
    cases q with
    | bad p er => obtain rfl := he; exact ⟨rfl, onB B0.out hh.out hb, by rw [hq]; rfl⟩
    | ok a =>
      obtain rfl := he
      go_wp2_with fail
      go_ret
      exact ⟨onB B0.out hh.out hb, by rw [hq]; rfl⟩
  · obtain ⟨u, hu⟩ := kid_is (t := t) (i := 0) (by have := W.least; rw [ho] at this; exact Nat.lt_of_lt_of_le (by decide) this)
    obtain ⟨u2, hu2⟩ := kid_is (t := t) (i := 1) (by have := W.least; rw [ho] at this; exact Nat.lt_of_lt_of_le (by decide) this)
    have hk0 : kidC (t.kids.map (exprC E.x K)) 0 = exprC E.x K u := kidC_at hu
    have hk1 : kidC (t.kids.map (exprC E.x K)) 1 = exprC E.x K u2 := kidC_at hu2
    have HS : Hid (exprC E.x K t = (exprC E.x K u).bind fun a => (exprC E.x K u2).bind fun b => binC t.pos t.n a b) := by show _ = _; rw [exprC_eq, ho, ← hk0, ← hk1]; rfl
    go_enter Tryz.func187, Tryz.ntmps187
    go_wp2_with fail
    generalize w.alloc (.cells #[.pointer (some ⟨b, 0, none⟩)] 25) = wa at *
    have u0 := U0.out.c0
    have ul := U0.out.lt
    have sl := H0.out.lt
    have c0 := H0.out.c0
    have c1 := H0.out.c1
    have c2 := H0.out.c2
    refine (cop_at NN.out H0.out.B _ (Below.refl _ _)).mono ?_
    rintro e w1 ⟨rfl, hb⟩
    have u0 := keepC (Below.refl _ _) u0 ul hb
    have hh := Lib.hid hb
    clear hb c0 c1 c2
    rw [ho]
    go_wp2_with fail
    refine (cbinary_any E v K f b t u u2 _ (H0.out.below hh.out) HKO.out NN.out hu hu2 (IH.out 0 u hu) (IH.out 1 u2 hu2)).mono ?_
    rintro e w2 ⟨hb, he⟩
    rw [← HS.out] at he
    obtain ⟨q, hq⟩ : ∃ q, exprC E.x K t = q := ⟨_, rfl⟩
    rw [hq] at he
    cases q with
    | bad p er => obtain rfl := he; exact ⟨rfl, onB B0.out hh.out hb, by rw [hq]; rfl⟩
    | ok a =>
      obtain rfl := he
      go_wp2_with fail
      go_ret
      exact ⟨onB B0.out hh.out hb, by rw [hq]; rfl⟩
  · obtain ⟨u, hu⟩ := kid_is (t := t) (i := 0) (by have := W.least; rw [ho] at this; exact Nat.lt_of_lt_of_le (by decide) this)
    obtain ⟨u2, hu2⟩ := kid_is (t := t) (i := 1) (by have := W.least; rw [ho] at this; exact Nat.lt_of_lt_of_le (by decide) this)
    have hk0 : kidC (t.kids.map (exprC E.x K)) 0 = exprC E.x K u := kidC_at hu
    have hk1 : kidC (t.kids.map (exprC E.x K)) 1 = exprC E.x K u2 := kidC_at hu2
    have HS : Hid (exprC E.x K t = (exprC E.x K u).bind fun a => (exprC E.x K u2).bind fun b => bothC t.pos a b) := by show _ = _; rw [exprC_eq, ho, ← hk0, ← hk1]; rfl
    go_enter Tryz.func187, Tryz.ntmps187
    go_wp2_with fail
    generalize w.alloc (.cells #[.pointer (some ⟨b, 0, none⟩)] 25) = wa at *
    have u0 := U0.out.c0
    have ul := U0.out.lt
    have sl := H0.out.lt
    have c0 := H0.out.c0
    have c1 := H0.out.c1
    have c2 := H0.out.c2
    refine (cop_at NN.out H0.out.B _ (Below.refl _ _)).mono ?_
    rintro e w1 ⟨rfl, hb⟩
    have u0 := keepC (Below.refl _ _) u0 ul hb
    have hh := Lib.hid hb
    clear hb c0 c1 c2
    rw [ho]
    go_wp2_with fail
    refine (cboth_any E v K f b t u u2 _ (H0.out.below hh.out) HKO.out NN.out hu hu2 (IH.out 0 u hu) (IH.out 1 u2 hu2)).mono ?_
    rintro e w2 ⟨hb, he⟩
    rw [← HS.out] at he
    obtain ⟨q, hq⟩ : ∃ q, exprC E.x K t = q := ⟨_, rfl⟩
    rw [hq] at he
    cases q with
    | bad p er => obtain rfl := he; exact ⟨rfl, onB B0.out hh.out hb, by rw [hq]; rfl⟩
    | ok a =>
      obtain rfl := he
      go_wp2_with fail
      go_ret
      exact ⟨onB B0.out hh.out hb, by rw [hq]; rfl⟩
  · obtain ⟨u, hu⟩ := kid_is (t := t) (i := 0) (by have := W.least; rw [ho] at this; exact Nat.lt_of_lt_of_le (by decide) this)
    obtain ⟨u2, hu2⟩ := kid_is (t := t) (i := 1) (by have := W.least; rw [ho] at this; exact Nat.lt_of_lt_of_le (by decide) this)
    have hk0 : kidC (t.kids.map (exprC E.x K)) 0 = exprC E.x K u := kidC_at hu
    have hk1 : kidC (t.kids.map (exprC E.x K)) 1 = exprC E.x K u2 := kidC_at hu2
    have HS : Hid (exprC E.x K t = (exprC E.x K u).bind fun a => (exprC E.x K u2).bind fun b => bothC t.pos a b) := by show _ = _; rw [exprC_eq, ho, ← hk0, ← hk1]; rfl
    go_enter Tryz.func187, Tryz.ntmps187
    go_wp2_with fail
    generalize w.alloc (.cells #[.pointer (some ⟨b, 0, none⟩)] 25) = wa at *
    have u0 := U0.out.c0
    have ul := U0.out.lt
    have sl := H0.out.lt
    have c0 := H0.out.c0
    have c1 := H0.out.c1
    have c2 := H0.out.c2
    refine (cop_at NN.out H0.out.B _ (Below.refl _ _)).mono ?_
    rintro e w1 ⟨rfl, hb⟩
    have u0 := keepC (Below.refl _ _) u0 ul hb
    have hh := Lib.hid hb
    clear hb c0 c1 c2
    rw [ho]
    go_wp2_with fail
    refine (cboth_any E v K f b t u u2 _ (H0.out.below hh.out) HKO.out NN.out hu hu2 (IH.out 0 u hu) (IH.out 1 u2 hu2)).mono ?_
    rintro e w2 ⟨hb, he⟩
    rw [← HS.out] at he
    obtain ⟨q, hq⟩ : ∃ q, exprC E.x K t = q := ⟨_, rfl⟩
    rw [hq] at he
    cases q with
    | bad p er => obtain rfl := he; exact ⟨rfl, onB B0.out hh.out hb, by rw [hq]; rfl⟩
    | ok a =>
      obtain rfl := he
      go_wp2_with fail
      go_ret
      exact ⟨onB B0.out hh.out hb, by rw [hq]; rfl⟩
  · obtain ⟨n15, n22, n16, n18, n19, n20, n21, n23, n24, n25, n26⟩ := ho
    have HS : Hid (exprC E.x K t = .ok tNil) := by show _ = _; rw [exprC_eq]; unfold exprOfC; simp only [n15, n22, n16, n18, n19, n20, n21, n23, n24, n25, n26, or_self, if_false]
    have f15 : ((t.op : Int) == 15) = false := by rw [beq_eq_false_iff_ne]; omega
    have f22 : ((t.op : Int) == 22) = false := by rw [beq_eq_false_iff_ne]; omega
    have f16 : ((t.op : Int) == 16) = false := by rw [beq_eq_false_iff_ne]; omega
    have f18 : ((t.op : Int) == 18) = false := by rw [beq_eq_false_iff_ne]; omega
    have f19 : ((t.op : Int) == 19) = false := by rw [beq_eq_false_iff_ne]; omega
    have f20 : ((t.op : Int) == 20) = false := by rw [beq_eq_false_iff_ne]; omega
    have f21 : ((t.op : Int) == 21) = false := by rw [beq_eq_false_iff_ne]; omega
    have f23 : ((t.op : Int) == 23) = false := by rw [beq_eq_false_iff_ne]; omega
    have f24 : ((t.op : Int) == 24) = false := by rw [beq_eq_false_iff_ne]; omega
    have f25 : ((t.op : Int) == 25) = false := by rw [beq_eq_false_iff_ne]; omega
    have f26 : ((t.op : Int) == 26) = false := by rw [beq_eq_false_iff_ne]; omega
    clear n15 n22 n16 n18 n19 n20 n21 n23 n24 n25 n26
    go_enter Tryz.func187, Tryz.ntmps187
    go_wp2_with fail
    generalize w.alloc (.cells #[.pointer (some ⟨b, 0, none⟩)] 25) = wa at *
    have u0 := U0.out.c0
    have ul := U0.out.lt
    have sl := H0.out.lt
    have c0 := H0.out.c0
    have c1 := H0.out.c1
    have c2 := H0.out.c2
    refine (cop_at NN.out H0.out.B _ (Below.refl _ _)).mono ?_
    rintro e w1 ⟨rfl, hb⟩
    have u0 := keepC (Below.refl _ _) u0 ul hb
    have hh := Lib.hid hb
    clear hb c0 c1 c2
    go_wp2_with fail
    go_ret
    exact ⟨B0.out.trans (hh.out.mono B0.out.size), by rw [HS.out]; rfl⟩

theorem cexpr_any (E : CE) (hx : InfOk E.x) (N : Nat) : ∀ t : Tree, sizeT t ≤ N → Wt t → XH E t := by
  induction N with
  | zero => intro t h; rw [sizeT_eq] at h; omega
  | succ N ih => exact fun t h W => cexpr_step E hx t W fun k u hu => ih u (by have := size_kid hu; omega) (W.kid hu)

end Go.Proofs.YtkahbhfbgdbnfaaGreatDoor
