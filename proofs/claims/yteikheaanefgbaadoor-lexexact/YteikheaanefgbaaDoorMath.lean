/-
  PLAIN: facts about the tokens of a text: each stands at its place; joined with blanks they are the same; a text behind a line feed is a text for itself. Nothing of the program stands here.
-/
import Derived.Test.YteikheaanefgbaaDoorPlain
import Derived.Lib.Join
namespace Go.Proofs.YteikheaanefgbaaDoor
open Go.RowKit

/-- From e on each token stands at its place, behind the one ahead. -/
def Chain (l : List UInt8) : Nat → List Tok → Prop
  | _, [] => True
  | e, t :: r => e ≤ t.place ∧ 0 < t.text.length ∧ t.place + t.text.length ≤ l.length ∧ (l.drop t.place).take t.text.length = t.text ∧ Chain l (t.place + t.text.length) r
theorem Chain.mono {l : List UInt8} {e e' : Nat} {ts : List Tok} (h : Chain l e ts) (he : e' ≤ e) : Chain l e' ts := by
  cases ts with
  | nil => trivial
  | cons t r => exact ⟨Nat.le_trans he h.1, h.2⟩

/-- A word of a text that stands for itself. -/
def TokOK (t : Tok) : Prop := ∃ c r, t.text = c :: r ∧ blkB c = false ∧ ∀ rest : List UInt8, (rest = [] ∨ ∃ q, rest = 32 :: q) → comB (t.text ++ rest) = false ∧ tokT (t.text ++ rest) = ⟨0, t.kind, t.text.length⟩

theorem runN_stop {f : UInt8 → Bool} (x rest : List UInt8) (hx : x.all f = true) (hr : ∀ c q, rest = c :: q → f c = false) : runN f (x ++ rest) = x.length := by
  induction x with
  | nil =>
    cases rest with
    | nil => rfl
    | cons c q => rw [List.nil_append, runN_zero q (hr c q rfl)]; rfl
  | cons c r ih =>
    rw [List.all_cons, Bool.and_eq_true] at hx
    rw [List.cons_append, runN_pos _ hx.1, ih hx.2]; rfl
theorem run_all_take (f : UInt8 → Bool) (l : List UInt8) : (l.take (runN f l)).all f = true := by
  induction l with
  | nil => rfl
  | cons c r ih =>
    cases h : f c with
    | true => rw [runN_pos r h, List.take_succ_cons, List.all_cons, h, ih]; rfl
    | false => rw [runN_zero r h]; rfl
theorem rest_stop {f : UInt8 → Bool} (h32 : f 32 = false) {rest : List UInt8} (hr : rest = [] ∨ ∃ q, rest = 32 :: q) : ∀ c q, rest = c :: q → f c = false := by
  rintro c q rfl
  rcases hr with hr | ⟨q', hr⟩
  · cases hr
  · injection hr with hr _; rw [hr]; exact h32
theorem com_first {c : UInt8} (r : List UInt8) (h : c.toNat ≠ 47) : comB (c :: r) = false := by
  cases r with
  | nil => rfl
  | cons d r => simp [comB, h]

theorem word_kind {l : List UInt8} (h : (wordT l).err = 0) : (wordT l).len = runN wchB l ∧ ¬ 12 < runN wchB l ∧ (wordT l).kind = (if keyB (l.take (runN wchB l)) then 2 else 1) := by
  unfold wordT at h ⊢
  by_cases h1 : 12 < runN wchB l
  · rw [if_pos h1] at h; exact absurd h (by simp)
  · rw [if_neg h1]
    by_cases h2 : keyB (l.take (runN wchB l)) = true
    · rw [if_pos h2, if_pos h2]; exact ⟨rfl, h1, rfl⟩
    · rw [if_neg h2, if_neg h2]; exact ⟨rfl, h1, rfl⟩
theorem num_kind {l : List UInt8} (h : (numT l).err = 0) : (numT l).len = runN digB l ∧ (numT l).kind = 3 ∧ parE (l.take (runN digB l)) = 0 := by
  unfold numT at h ⊢
  by_cases h1 : afterB (l.drop (runN digB l)) = true
  · rw [if_pos h1] at h; exact absurd h (by simp)
  · rw [if_neg h1] at h ⊢
    by_cases h2 : parE (l.take (runN digB l)) = 0
    · rw [if_pos h2]; exact ⟨rfl, rfl, h2⟩
    · rw [if_neg h2] at h; exact absurd h h2
theorem let_dig {c : UInt8} (h : letB c = true) : digB c = false := by
  unfold letB at h; unfold digB
  simp at h ⊢
  omega
theorem long_set {l : List UInt8} (h : longB l = true) : ∃ a b q, l = a :: b :: q ∧ longTab.contains [a, b] = true := by
  match l with
  | [] => exact absurd h (by decide)
  | [a] => simp [longB, longTab] at h
  | a :: b :: q => exact ⟨a, b, q, rfl, h⟩
theorem long_cases {a b : UInt8} (h : longTab.contains [a, b] = true) : letB a = false ∧ digB a = false ∧ ¬ (a.toNat = 47 ∧ b.toNat = 47) := by
  simp [longTab] at h
  rcases h with h | h | h | h | h | h | h | h | h <;> obtain ⟨rfl, rfl⟩ := h <;> decide
theorem long_no32 (c : UInt8) : longTab.contains [c, 32] = false := by
  simp [longTab]
theorem long_no10 (c : UInt8) : longTab.contains [c, 10] = false := by
  simp [longTab]
theorem long_no1 (c : UInt8) : longTab.contains [c] = false := by
  simp [longTab]
theorem after_rest {rest : List UInt8} (hr : rest = [] ∨ ∃ q, rest = 32 :: q) : afterB rest = false := by
  rcases hr with rfl | ⟨q, rfl⟩
  · rfl
  · show letB 32 = false; decide

theorem tok_word {c : UInt8} {r : List UInt8} (p : Nat) (h1 : letB c = true) (hb : blkB c = false) (h : (wordT (c :: r)).err = 0) : TokOK ⟨(wordT (c :: r)).kind, (c :: r).take (wordT (c :: r)).len, p⟩ := by
  obtain ⟨h2, h3, h4⟩ := word_kind h
  have hw : wchB c = true := by simp [wchB, h1]
  have hp := runN_pos r hw
  have hall := run_all_take wchB (c :: r)
  have hlen : ((c :: r).take (runN wchB (c :: r))).length = runN wchB (c :: r) := by rw [List.length_take]; exact Nat.min_eq_left (runN_le _ _)
  have hcons : (c :: r).take (runN wchB (c :: r)) = c :: r.take (runN wchB r) := by rw [hp, List.take_succ_cons]
  rw [h2, h4]
  refine ⟨c, r.take (runN wchB r), hcons, hb, fun rest hr => ?_⟩
  show comB ((c :: r).take (runN wchB (c :: r)) ++ rest) = false ∧ tokT ((c :: r).take (runN wchB (c :: r)) ++ rest) = ⟨0, _, ((c :: r).take (runN wchB (c :: r))).length⟩
  have hrun : runN wchB ((c :: r).take (runN wchB (c :: r)) ++ rest) = ((c :: r).take (runN wchB (c :: r))).length := runN_stop _ _ hall (rest_stop (by decide) hr)
  generalize hx : (c :: r).take (runN wchB (c :: r)) = x at *
  constructor
  · rw [hcons, List.cons_append]
    apply com_first
    intro e
    have : letB c = true := h1
    unfold letB at this
    simp at this
    omega
  · have : tokT (x ++ rest) = wordT (x ++ rest) := by rw [hcons, List.cons_append]; exact tokT_let _ h1
    rw [this]
    unfold wordT
    rw [hrun, List.take_left, if_neg (by omega)]
    cases keyB x <;> rfl
theorem tok_num {c : UInt8} {r : List UInt8} (p : Nat) (h1 : letB c = false) (hd : digB c = true) (hb : blkB c = false) (h : (numT (c :: r)).err = 0) : TokOK ⟨(numT (c :: r)).kind, (c :: r).take (numT (c :: r)).len, p⟩ := by
  obtain ⟨h2, h4, h5⟩ := num_kind h
  have hp := runN_pos r hd
  have hall := run_all_take digB (c :: r)
  have hcons : (c :: r).take (runN digB (c :: r)) = c :: r.take (runN digB r) := by rw [hp, List.take_succ_cons]
  rw [h2, h4]
  refine ⟨c, r.take (runN digB r), hcons, hb, fun rest hr => ?_⟩
  show comB ((c :: r).take (runN digB (c :: r)) ++ rest) = false ∧ tokT ((c :: r).take (runN digB (c :: r)) ++ rest) = ⟨0, _, ((c :: r).take (runN digB (c :: r))).length⟩
  have hrun : runN digB ((c :: r).take (runN digB (c :: r)) ++ rest) = ((c :: r).take (runN digB (c :: r))).length := runN_stop _ _ hall (rest_stop (by decide) hr)
  generalize hx : (c :: r).take (runN digB (c :: r)) = x at *
  constructor
  · rw [hcons, List.cons_append]
    apply com_first
    intro e
    have : digB c = true := hd
    unfold digB at this
    simp at this
    omega
  · have : tokT (x ++ rest) = numT (x ++ rest) := by rw [hcons, List.cons_append]; exact tokT_dig _ h1 hd
    rw [this]
    unfold numT
    rw [hrun, List.take_left, List.drop_left, after_rest hr, if_neg (by decide), if_pos h5]
theorem tok_sign {c : UInt8} {r : List UInt8} (p : Nat) (h1 : letB c = false) (hd : digB c = false) (hb : blkB c = false) (h : (signT (c :: r) c).err = 0) : TokOK ⟨(signT (c :: r) c).kind, (c :: r).take (signT (c :: r) c).len, p⟩ := by
  by_cases hl : longB (c :: r) = true
  · obtain ⟨a, b, q, he, hc⟩ := long_set hl
    injection he with he1 he2
    subst he1 he2
    have hs : signT (c :: b :: q) c = ⟨0, 4, 2⟩ := by unfold signT; rw [if_pos hl]
    rw [hs]
    refine ⟨c, [b], rfl, hb, fun rest hr => ?_⟩
    show comB (c :: b :: rest) = false ∧ tokT (c :: b :: rest) = ⟨0, 4, 2⟩
    constructor
    · have := (long_cases hc).2.2
      simp only [comB, Bool.and_eq_false_iff, decide_eq_false_iff_not]
      by_cases e : c.toNat = 47
      · exact Or.inr (fun e2 => this ⟨e, e2⟩)
      · exact Or.inl e
    · rw [tokT_sign _ h1 hd]
      unfold signT
      rw [if_pos (show longB (c :: b :: rest) = true from hc)]
  · have hs0 : shortB c = true := by
      unfold signT at h
      rw [if_neg hl] at h
      by_cases h4 : shortB c = true
      · exact h4
      · rw [if_neg h4] at h; exact absurd h (by simp)
    have hs : signT (c :: r) c = ⟨0, 4, 1⟩ := by unfold signT; rw [if_neg hl, if_pos hs0]
    rw [hs]
    refine ⟨c, [], rfl, hb, fun rest hr => ?_⟩
    show comB (c :: rest) = false ∧ tokT (c :: rest) = ⟨0, 4, 1⟩
    rcases hr with rfl | ⟨q, rfl⟩
    · refine ⟨rfl, ?_⟩
      rw [tokT_sign _ h1 hd]
      unfold signT
      rw [if_neg (by rw [show longB [c] = false from long_no1 c]; decide), if_pos hs0]
    · refine ⟨by simp [comB], ?_⟩
      rw [tokT_sign _ h1 hd]
      unfold signT
      rw [if_neg (by rw [show longB (c :: 32 :: q) = false from long_no32 c]; decide), if_pos hs0]
theorem tok_ok {c : UInt8} {r : List UInt8} (p : Nat) (hb : blkB c = false) (h : (tokT (c :: r)).err = 0) : TokOK ⟨(tokT (c :: r)).kind, (c :: r).take (tokT (c :: r)).len, p⟩ := by
  cases h1 : letB c with
  | true => rw [tokT_let r h1] at h ⊢; exact tok_word p h1 hb h
  | false =>
    cases h2 : digB c with
    | true => rw [tokT_dig r h1 h2] at h ⊢; exact tok_num p h1 h2 hb h
    | false => rw [tokT_sign r h1 h2] at h ⊢; exact tok_sign p h1 h2 hb h

/-- What a scan that succeeds gives. -/
theorem sc_chain (l : List UInt8) : ∀ (n k : Nat) (ts : List Tok), l.length - k ≤ n → k ≤ l.length → sc l k = .ok ts → Chain l k ts ∧ (∀ t ∈ ts, TokOK t) ∧ ts.length + k ≤ l.length := by
  intro n
  induction n with
  | zero =>
    intro k ts hn hk h
    rw [sc_end (by omega)] at h
    injection h with h
    subst h
    exact ⟨trivial, by simp, by simpa using hk⟩
  | succ n ih =>
    intro k ts hn hk h
    by_cases hlt : k < l.length
    · by_cases hb : blkB l[k] = true
      · rw [sc_blk hlt hb] at h
        obtain ⟨a, b, c⟩ := ih (k + 1) ts (by omega) (by omega) h
        exact ⟨a.mono (by omega), b, by omega⟩
      · have hb' : blkB l[k] = false := by simpa using hb
        by_cases hc : comAt l k = true
        · have h1 := endAt_com hlt hc
          have h2 : endAt notNl l k ≤ l.length := endAt_le hk
          rw [sc_com hlt hb' hc] at h
          obtain ⟨a, b, c⟩ := ih _ ts (by omega) h2 h
          exact ⟨a.mono (by omega), b, by omega⟩
        · have hc' : comAt l k = false := by simpa using hc
          by_cases he : (tokAt l k).err = 0
          · have hln := tokAt_len hlt he
            have htl : ((l.drop k).take (tokAt l k).len).length = (tokAt l k).len := by rw [List.length_take, List.length_drop]; omega
            rw [sc_tok hlt hb' hc' he] at h
            cases hr : sc l (k + (tokAt l k).len) with
            | bad p e => rw [hr] at h; simp [R.pre] at h
            | ok us =>
              rw [hr] at h
              simp only [R.pre, List.cons_append, List.nil_append] at h
              injection h with h
              subst h
              obtain ⟨a, b, c⟩ := ih _ us (by omega) (by omega) hr
              have hok : TokOK ⟨(tokAt l k).kind, (l.drop k).take (tokAt l k).len, k⟩ := by
                unfold tokAt at he ⊢
                rw [List.drop_eq_getElem_cons hlt] at he ⊢
                exact tok_ok k hb' he
              refine ⟨⟨Nat.le_refl _, by rw [htl]; omega, by rw [htl]; exact hln.2, by rw [htl], by rw [htl]; exact a⟩, ?_, by simp only [List.length_cons]; omega⟩
              intro t ht
              rcases List.mem_cons.1 ht with rfl | ht
              · exact hok
              · exact b t ht
          · rw [sc_bad hlt hb' hc' he] at h; cases h
    · rw [sc_end (by omega)] at h
      injection h with h
      subst h
      exact ⟨trivial, by simp, by simpa using hk⟩
theorem sc_bad_lt (l : List UInt8) : ∀ (n k p e : Nat), l.length - k ≤ n → sc l k = .bad p e → p < l.length ∧ e ≠ 0 := by
  intro n
  induction n with
  | zero =>
    intro k p e hn h
    rw [sc_end (by omega)] at h; cases h
  | succ n ih =>
    intro k p e hn h
    by_cases hlt : k < l.length
    · by_cases hb : blkB l[k] = true
      · rw [sc_blk hlt hb] at h
        exact ih _ p e (by omega) h
      · have hb' : blkB l[k] = false := by simpa using hb
        by_cases hc : comAt l k = true
        · have h1 := endAt_com hlt hc
          rw [sc_com hlt hb' hc] at h
          exact ih _ p e (by omega) h
        · have hc' : comAt l k = false := by simpa using hc
          by_cases he : (tokAt l k).err = 0
          · have hln := tokAt_len hlt he
            rw [sc_tok hlt hb' hc' he] at h
            cases hr : sc l (k + (tokAt l k).len) with
            | bad p' e' =>
              rw [hr] at h
              simp only [R.pre, R.bad.injEq] at h
              obtain ⟨rfl, rfl⟩ := h
              exact ih _ _ _ (by omega) hr
            | ok us => rw [hr] at h; simp [R.pre] at h
          · rw [sc_bad hlt hb' hc' he] at h
            injection h with h1 h2
            subst h1 h2
            exact ⟨hlt, he⟩
    · rw [sc_end (by omega)] at h; cases h

/-- Each with a blank ahead. -/
def jt : List Tok → List UInt8
  | [] => []
  | t :: r => 32 :: (t.text ++ jt r)
theorem jt_rest (r : List Tok) : jt r = [] ∨ ∃ q, jt r = 32 :: q := by
  cases r with
  | nil => exact Or.inl rfl
  | cons t r => exact Or.inr ⟨_, rfl⟩
theorem jt_tail (r : List Tok) : Lib.joinTail [32] (r.map (·.text)) = jt r := by
  induction r with
  | nil => rfl
  | cons t r ih =>
    have : Lib.joinTail [32] ((t :: r).map (·.text)) = ([32] ++ t.text) ++ Lib.joinTail [32] (r.map (·.text)) := by simp [Lib.joinTail]
    rw [this, ih]; simp [jt]
theorem join_jt (t : Tok) (r : List Tok) : Lib.join ((t :: r).map (·.text)) [32] = t.text ++ jt r := by
  rw [List.map_cons, Lib.join_cons, jt_tail]
def same (ms ts : List Tok) : Prop := ms.map (fun t => (t.kind, t.text)) = ts.map (fun t => (t.kind, t.text))
theorem scan_one {t : Tok} (h : TokOK t) (rest : List UInt8) (hr : rest = [] ∨ ∃ q, rest = 32 :: q) (p : Nat) : scanS (t.text ++ rest) p = (scanS rest (p + t.text.length)).pre [⟨t.kind, t.text, p⟩] := by
  obtain ⟨c, r, he, hb, hk⟩ := h
  obtain ⟨h1, h2⟩ := hk rest hr
  have h3 := he
  generalize t.text = x at *
  subst h3
  rw [List.cons_append] at h1 h2 ⊢
  rw [scanS_tok p hb h1 (by rw [h2]), h2]
  show (scanS (((c :: r) ++ rest).drop (c :: r).length) _).pre [⟨t.kind, ((c :: r) ++ rest).take (c :: r).length, p⟩] = _
  rw [List.drop_left, List.take_left]
theorem scan_jt (ts : List Tok) : ∀ p : Nat, (∀ t ∈ ts, TokOK t) → ∃ ms, scanS (jt ts) p = .ok ms ∧ same ms ts := by
  induction ts with
  | nil => intro p _; exact ⟨[], rfl, rfl⟩
  | cons t r ih =>
    intro p h
    obtain ⟨ms, h1, h2⟩ := ih (p + 1 + t.text.length) (fun u hu => h u (List.mem_cons_of_mem _ hu))
    refine ⟨⟨t.kind, t.text, p + 1⟩ :: ms, ?_, ?_⟩
    · show scanS (32 :: (t.text ++ jt r)) p = _
      rw [scanS_blk p (by decide), scan_one (h t (List.mem_cons_self ..)) _ (jt_rest r), h1]; rfl
    · unfold same at h2 ⊢
      rw [List.map_cons, List.map_cons, h2]
theorem scan_join (ts : List Tok) (h : ∀ t ∈ ts, TokOK t) : ∃ ms, sc (Lib.join (ts.map (·.text)) [32]) 0 = .ok ms ∧ same ms ts := by
  cases ts with
  | nil => exact ⟨[], rfl, rfl⟩
  | cons t r =>
    rw [join_jt]
    obtain ⟨ms, h1, h2⟩ := scan_jt r (0 + t.text.length) (fun u hu => h u (List.mem_cons_of_mem _ hu))
    refine ⟨⟨t.kind, t.text, 0⟩ :: ms, ?_, ?_⟩
    · unfold sc
      rw [List.drop_zero, scan_one (h t (List.mem_cons_self ..)) _ (jt_rest r), h1]; rfl
    · unfold same at h2 ⊢
      rw [List.map_cons, List.map_cons, h2]
theorem jt_len (l : List UInt8) (ts : List Tok) : ∀ e : Nat, e ≤ l.length → Chain l e ts → (jt ts).length ≤ 2 * (l.length - e) := by
  induction ts with
  | nil => intro e _ _; exact Nat.zero_le _
  | cons t r ih =>
    intro e he h
    obtain ⟨h1, h2, h3, _, h4⟩ := h
    have := ih _ h3 h4
    show (32 :: (t.text ++ jt r)).length ≤ _
    rw [List.length_cons, List.length_append]
    omega
theorem join_len (l : List UInt8) (ts : List Tok) (h : Chain l 0 ts) : (Lib.join (ts.map (·.text)) [32]).length ≤ 2 * l.length := by
  cases ts with
  | nil => exact Nat.zero_le _
  | cons t r =>
    have := jt_len l (t :: r) 0 (Nat.zero_le _) h
    rw [join_jt]
    have e : (jt (t :: r)).length = (t.text ++ jt r).length + 1 := rfl
    omega

end Go.Proofs.YteikheaanefgbaaDoor
