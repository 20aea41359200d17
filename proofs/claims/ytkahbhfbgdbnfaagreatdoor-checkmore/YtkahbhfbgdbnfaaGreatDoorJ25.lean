/-
  PLAIN: what stands behind a declaration plays no part: the declarations of two rows of tokens, one behind the other. Nothing of the program stands here. No condition.
-/
import Derived.Test.YtkahbhfbgdbnfaaGreatDoorJ24
import Derived.Test.YtkahbhfbgdbnfaaGreatDoorJ16
import Derived.Test.YtkahbhfbgdbnfaaGreatDoorJ22
namespace Go.Proofs.YtkahbhfbgdbnfaaGreatDoor
open Go.RowKit

def Ends {α : Type} (p : Pr α) : Prop := (∃ a, p = .ret a) ∨ ∃ e, p = .fail e
def closed : NT → Prop
  | .parts | .params | .stmts | .args => True
  | _ => False
/-- A reader whose last step takes a token. -/
def Cl {α : Type} : Pr α → Prop
  | .ret _ => False
  | .fail _ => True
  | .peek k => ∀ i t, Cl (k i t)
  | .next p => Cl p ∨ Ends p
  | .call nt _ k => (∀ ts, Cl (k ts)) ∨ (closed nt ∧ ∀ ts, Ends (k ts))
theorem cl_right {α β : Type} {p : Pr α} {f : α → Pr β} (h : ∀ a, Cl (f a)) : Cl (p.bind f) := by
  induction p with
  | ret a => exact h a
  | fail e => trivial
  | peek k ih => exact fun i t => ih i t
  | next p ih => exact .inl ih
  | call nt d k ih => exact .inl fun ts => ih ts
theorem ends_bind {α β : Type} {p : Pr α} {f : α → Pr β} (h : Ends p) (g : ∀ a, Ends (f a)) : Ends (p.bind f) := by
  rcases h with ⟨a, rfl⟩ | ⟨e, rfl⟩
  · exact g a
  · exact .inr ⟨e, rfl⟩
theorem cl_left {α β : Type} {p : Pr α} {f : α → Pr β} (h : Cl p) (g : ∀ a, Ends (f a)) : Cl (p.bind f) := by
  induction p with
  | ret a => exact h.elim
  | fail e => trivial
  | peek k ih => exact fun i t => ih i t (h i t)
  | next p ih =>
    rcases h with h | h
    · exact .inl (ih h)
    · exact .inr (ends_bind h g)
  | call nt d k ih =>
    rcases h with h | h
    · exact .inl fun ts => ih ts (h ts)
    · exact .inr ⟨h.1, fun ts => ends_bind (h.2 ts) g⟩
theorem cl_ite {α : Type} {q : Prop} [Decidable q] {p r : Pr α} (h : Cl p) (g : Cl r) : Cl (if q then p else r) := by split <;> assumption
theorem ends_ret {α : Type} (a : α) : Ends (Pr.ret a) := .inl ⟨a, rfl⟩
theorem cl_need (s : List UInt8) : Cl (need s) := fun _ _ => cl_ite (.inr (ends_ret _)) trivial
theorem cl_word : Cl word := fun _ _ => cl_ite (.inr (ends_ret _)) trivial
theorem cl_named (op : Nat) : Cl (named op) := cl_right fun _ => cl_left (cl_need _) fun _ => ends_ret _
theorem cl_typ : Cl typ := fun _ _ => cl_ite (.inr (ends_ret _)) (cl_ite (.inr (ends_ret _)) (cl_right fun _ => cl_left cl_word fun _ => ends_ret _))
theorem cl_typed (op : Nat) : Cl (typed op) := cl_right fun _ => cl_left cl_typ fun _ => ends_ret _
theorem cl_block (d : Nat) : Cl (block d) := cl_right fun _ => .inr ⟨trivial, fun _ => ends_ret _⟩
theorem cl_struct : Cl structure_ := cl_right fun _ => cl_right fun _ => cl_right fun _ => .inr ⟨trivial, fun _ => ends_ret _⟩
theorem cl_function (d : Nat) : Cl (function d) := cl_right fun _ => cl_right fun _ => cl_right fun _ => cl_left (cl_block d) fun _ => ends_ret _
theorem cl_decl (d : Nat) : Cl (decl d) := fun _ _ => cl_ite (.inl cl_struct) (cl_ite (.inl (cl_named 3)) (cl_ite (.inl (cl_function d)) trivial))
theorem cl_body {nt : NT} (h : closed nt) (d : Nat) : Cl (body nt d) := by
  cases nt with
  | parts => exact fun _ _ => cl_ite (.inr (ends_ret _)) (cl_right fun _ => .inr ⟨trivial, fun _ => ends_ret _⟩)
  | params => exact fun _ _ => cl_ite (.inl (show Cl ((typed 5).bind _) from cl_right fun _ => .inr ⟨trivial, fun _ => ends_ret _⟩)) (cl_left (cl_need _) fun _ => ends_ret _)
  | stmts => exact fun _ _ => cl_ite (.inr (ends_ret _)) (.inl fun _ => .inr ⟨trivial, fun _ => ends_ret _⟩)
  | args => exact fun _ _ => cl_ite (.inl (show Cl ((expr d).bind _) from cl_right fun _ => .inr ⟨trivial, fun _ => ends_ret _⟩)) (cl_left (cl_need _) fun _ => ends_ret _)
  | _ => exact h.elim

/-- What is asked of those that are called: they go on, closed ones by one token at the least; and they are the same over the other tokens, as far as they look. -/
structure CalleeL (T T' : Nat → AT) (c c' : Callee) : Prop where
  mono : ∀ nt d i ts j, c nt d i = some (.ok ts j) → i ≤ j
  step : ∀ nt d i ts j, closed nt → c nt d i = some (.ok ts j) → i < j
  same : ∀ nt d i ts j, c nt d i = some (.ok ts j) → (∀ k, k ≤ j → T' k = T k) → c' nt d i = some (.ok ts j)
  shut : ∀ nt d i ts j, closed nt → c nt d i = some (.ok ts j) → (∀ k, k < j → T' k = T k) → c' nt d i = some (.ok ts j)
theorem ends_same {T T' : Nat → AT} {c c' : Callee} {α : Type} {p : Pr α} (h : Ends p) (i j : Nat) (a : α) (hr : runW T c p i = some (.ok a j)) : runW T' c' p i = some (.ok a j) := by
  rcases h with ⟨b, rfl⟩ | ⟨e, rfl⟩
  · exact hr
  · cases hr
theorem ends_at {T : Nat → AT} {c : Callee} {α : Type} {p : Pr α} (h : Ends p) (i j : Nat) (a : α) (hr : runW T c p i = some (.ok a j)) : j = i := by
  rcases h with ⟨b, rfl⟩ | ⟨e, rfl⟩
  · cases hr; rfl
  · cases hr
section
variable {T T' : Nat → AT} {c c' : Callee} (L : CalleeL T T' c c')
include L
theorem run_mono {α : Type} (p : Pr α) : ∀ (i j : Nat) (a : α), runW T c p i = some (.ok a j) → i ≤ j := by
  induction p with
  | ret a => intro i j a' h; cases h; exact Nat.le_refl _
  | fail e => intro i j a' h; cases h
  | peek k ih => intro i j a' h; exact ih _ _ _ _ _ h
  | next p ih => intro i j a' h; have := ih _ _ _ h; omega
  | call nt d k ih =>
    intro i j a' h
    simp only [runW] at h
    cases hc : c nt d i with
    | none => rw [hc] at h; cases h
    | some r =>
      rw [hc] at h
      cases r with
      | bad j e => cases h
      | ok ts j1 => have := ih _ _ _ _ h; have := L.mono _ _ _ _ _ hc; omega
theorem run_step {α : Type} (p : Pr α) : ∀ (i j : Nat) (a : α), Cl p → runW T c p i = some (.ok a j) → i < j := by
  induction p with
  | ret a => intro i j a' hc h; exact hc.elim
  | fail e => intro i j a' hc h; cases h
  | peek k ih => intro i j a' hc h; exact ih _ _ _ _ _ (hc _ _) h
  | next p ih => intro i j a' hc h; have := run_mono L p _ _ _ h; omega
  | call nt d k ih =>
    intro i j a' hcl h
    simp only [runW] at h
    cases hc : c nt d i with
    | none => rw [hc] at h; cases h
    | some r =>
      rw [hc] at h
      cases r with
      | bad j e => cases h
      | ok ts j1 =>
        rcases hcl with hcl | hcl
        · have := ih _ _ _ _ (hcl ts) h; have := L.mono _ _ _ _ _ hc; omega
        · have := run_mono L _ _ _ _ h; have := L.step _ _ _ _ _ hcl.1 hc; omega
theorem run_same {α : Type} (p : Pr α) : ∀ (i j : Nat) (a : α), runW T c p i = some (.ok a j) → (∀ k, k ≤ j → T' k = T k) → runW T' c' p i = some (.ok a j) := by
  induction p with
  | ret a => intro i j a' h _; exact h
  | fail e => intro i j a' h; cases h
  | peek k ih =>
    intro i j a' h ht
    have := run_mono L (.peek k) _ _ _ h
    show runW T' c' (k i (T' i)) i = _
    rw [ht i this]
    exact ih _ _ _ _ _ h ht
  | next p ih => intro i j a' h ht; exact ih _ _ _ h ht
  | call nt d k ih =>
    intro i j a' h ht
    simp only [runW] at h ⊢
    cases hc : c nt d i with
    | none => rw [hc] at h; cases h
    | some r =>
      rw [hc] at h
      cases r with
      | bad j e => cases h
      | ok ts j1 =>
        have hj := run_mono L _ _ _ _ h
        rw [L.same _ _ _ _ _ hc fun k hk => ht k (by omega)]
        exact ih _ _ _ _ h ht
theorem run_shut {α : Type} (p : Pr α) : ∀ (i j : Nat) (a : α), Cl p → runW T c p i = some (.ok a j) → (∀ k, k < j → T' k = T k) → runW T' c' p i = some (.ok a j) := by
  induction p with
  | ret a => intro i j a' hcl; exact hcl.elim
  | fail e => intro i j a' hcl h; cases h
  | peek k ih =>
    intro i j a' hcl h ht
    have := run_step L (.peek k) _ _ _ hcl h
    show runW T' c' (k i (T' i)) i = _
    rw [ht i this]
    exact ih _ _ _ _ _ (hcl _ _) h ht
  | next p ih =>
    intro i j a' hcl h ht
    rcases hcl with hcl | hcl
    · exact ih _ _ _ hcl h ht
    · exact ends_same hcl _ _ _ h
  | call nt d k ih =>
    intro i j a' hcl h ht
    simp only [runW] at h ⊢
    cases hc : c nt d i with
    | none => rw [hc] at h; cases h
    | some r =>
      rw [hc] at h
      cases r with
      | bad j e => cases h
      | ok ts j1 =>
        rcases hcl with hcl | hcl
        · have hj := run_step L _ _ _ _ (hcl ts) h
          rw [L.same _ _ _ _ _ hc fun k hk => ht k (by omega)]
          exact ih _ _ _ _ (hcl ts) h ht
        · have hj := ends_at (hcl.2 ts) _ _ _ h
          rw [L.shut _ _ _ _ _ hcl.1 hc fun k hk => ht k (by omega)]
          exact ends_same (hcl.2 ts) _ _ _ h
end
theorem P_local (T T' : Nat → AT) (n : Nat) : CalleeL T T' (P T n) (P T' n) := by
  induction n with
  | zero => exact ⟨fun _ _ _ _ _ h => (by cases h), fun _ _ _ _ _ _ h => (by cases h), fun _ _ _ _ _ h => (by cases h), fun _ _ _ _ _ _ h => (by cases h)⟩
  | succ n ih => exact ⟨fun nt d i ts j h => run_mono ih _ _ _ _ h, fun nt d i ts j hc h => run_step ih _ _ _ _ (cl_body hc d) h, fun nt d i ts j h ht => run_same ih _ _ _ _ h ht, fun nt d i ts j hc h ht => run_shut ih _ _ _ _ (cl_body hc d) h ht⟩

/-- THE DECLARATIONS OF TWO, one behind the other. -/
theorem decls_two (T T' : Nat → AT) (d m : Nat) (ks2 : List Tree) (j2 : Nat) (n : Nat) : ∀ (i j : Nat) (ks : List Tree), P T n .decls d i = some (.ok ks j) → (∀ k, k < j → T' k = T k) → (∀ k, k < j → (T k).kind ≠ 0) → P T' m .decls d j = some (.ok ks2 j2) → P T' (n + m) .decls d i = some (.ok (ks ++ ks2) j2) := by
  induction n with
  | zero => intro i j ks h; cases h
  | succ n ih =>
    intro i j ks h ht hk h2
    have hmono := (P_local T T' (n + 1)).mono _ _ _ _ _ h
    have hb : runW T (P T n) (body .decls d) i = some (.ok ks j) := h
    have hb2 : (if (T i).kind = 0 then (some (.ok [] i) : Option (Res (List Tree))) else runW T (P T n) ((decl d).bind fun x => .call .decls d fun xs => .ret (x :: xs)) i) = some (.ok ks j) := by
      rw [← hb]
      show _ = runW T (P T n) (if (T i).kind = 0 then _ else _) i
      split <;> rfl
    by_cases h0 : (T i).kind = 0
    · rw [if_pos h0] at hb2
      have hb3 := Res.ok.inj (Option.some.inj hb2)
      obtain ⟨rfl, rfl⟩ := hb3
      exact P_mono T' (by omega) _ _ _ _ h2
    · rw [if_neg h0, runW_bind] at hb2
      cases hd : runW T (P T n) (decl d) i with
      | none => rw [hd] at hb2; cases hb2
      | some r =>
        rw [hd] at hb2
        cases r with
        | bad j e => cases hb2
        | ok x i1 =>
          simp only [then_, runW] at hb2
          cases hc : P T n .decls d i1 with
          | none => rw [hc] at hb2; cases hb2
          | some r =>
            rw [hc] at hb2
            cases r with
            | bad j e => cases hb2
            | ok xs j1 =>
              obtain ⟨rfl, rfl⟩ := Res.ok.inj (Option.some.inj hb2)
              have L := P_local T T' n
              have hs := run_step L _ _ _ _ (cl_decl d) hd
              have hj := L.mono _ _ _ _ _ hc
              have hd' := run_shut L _ _ _ _ (cl_decl d) hd fun k hk => ht k (by omega)
              have hd2 := runW_at T' (show n ≤ n + m by omega) _ _ _ hd'
              have hr := ih i1 j1 xs hc ht hk h2
              show P T' (n + 1 + m) .decls d i = _
              rw [show n + 1 + m = (n + m) + 1 by omega]
              show runW T' (P T' (n + m)) (body .decls d) i = _
              show runW T' (P T' (n + m)) (if (T' i).kind = 0 then _ else _) i = _
              rw [ht i (by omega), if_neg h0, runW_bind, hd2]
              simp only [then_, runW, hr, List.cons_append]

end Go.Proofs.YtkahbhfbgdbnfaaGreatDoor

/-
  PLAIN: a text behind a line feed is a text for itself: its tokens are those of the first one, then those of the second one, moved. Nothing of the program stands here.
-/
namespace Go.Proofs.YtkahbhfbgdbnfaaGreatDoor
open Go.RowKit

theorem run_app {f : UInt8 → Bool} (h : f 10 = false) (x b : List UInt8) : runN f (x ++ 10 :: b) = runN f x := by
  induction x with
  | nil => rw [List.nil_append, runN_zero b h]; rfl
  | cons c r ih =>
    cases hc : f c with
    | true => rw [List.cons_append, runN_pos _ hc, runN_pos _ hc, ih]
    | false => rw [List.cons_append, runN_zero _ hc, runN_zero _ hc]
theorem com_app (c : UInt8) (r b : List UInt8) : comB ((c :: r) ++ 10 :: b) = comB (c :: r) := by
  cases r with
  | nil => simp [comB]
  | cons d r => rfl
theorem take_app (f : UInt8 → Bool) (x b : List UInt8) : (x ++ 10 :: b).take (runN f x) = x.take (runN f x) := List.take_append_of_le_length (runN_le f x)
theorem drop_app (x b : List UInt8) {n : Nat} (h : n ≤ x.length) : (x ++ 10 :: b).drop n = x.drop n ++ 10 :: b := List.drop_append_of_le_length h
theorem after_app (x b : List UInt8) : afterB (x ++ 10 :: b) = afterB x := by
  cases x with
  | nil => show letB 10 = false; decide
  | cons c r => rfl
theorem long_app (c : UInt8) (r b : List UInt8) : longB ((c :: r) ++ 10 :: b) = longB (c :: r) := by
  cases r with
  | nil => exact (long_no10 c).trans (long_no1 c).symm
  | cons d r => rfl
theorem tok_app (c : UInt8) (r b : List UInt8) : tokT ((c :: r) ++ 10 :: b) = tokT (c :: r) := by
  cases h1 : letB c with
  | true =>
    rw [List.cons_append, tokT_let _ h1, tokT_let _ h1, ← List.cons_append]
    unfold wordT
    rw [run_app (by decide), take_app]
  | false =>
    cases h2 : digB c with
    | true =>
      rw [List.cons_append, tokT_dig _ h1 h2, tokT_dig _ h1 h2, ← List.cons_append]
      unfold numT
      rw [run_app (by decide), take_app, drop_app _ _ (runN_le _ _), after_app]
    | false =>
      rw [List.cons_append, tokT_sign _ h1 h2, tokT_sign _ h1 h2, ← List.cons_append]
      unfold signT
      rw [long_app]

def R.thenR (r : R) (k : R) : R := match r with
  | .ok ts => k.pre ts
  | .bad p e => .bad p e
theorem thenR_pre (us : List Tok) (r k : R) : (r.pre us).thenR k = (r.thenR k).pre us := by
  cases r with
  | ok ts => simp [R.pre, R.thenR]; cases k <;> simp
  | bad p e => rfl
theorem scan_app (b : List UInt8) : ∀ (n : Nat) (x : List UInt8) (p : Nat), x.length ≤ n → scanS (x ++ 10 :: b) p = (scanS x p).thenR (scanS b (p + x.length + 1)) := by
  intro n
  induction n with
  | zero =>
    intro x p h
    have : x = [] := List.length_eq_zero_iff.1 (by omega)
    subst this
    rw [List.nil_append, scanS_blk p (by decide)]
    exact (R.pre_nil _).symm
  | succ n ih =>
    intro x p h
    cases x with
    | nil =>
      rw [List.nil_append, scanS_blk p (by decide)]
      exact (R.pre_nil _).symm
    | cons c r =>
      simp only [List.length_cons] at h
      cases hb : blkB c with
      | true =>
        rw [List.cons_append, scanS_blk p hb, scanS_blk p hb, ih r (p + 1) (by omega), List.length_cons, show p + 1 + r.length + 1 = p + (r.length + 1) + 1 by omega]
      | false =>
        cases hc : comB (c :: r) with
        | true =>
          have hn : notNl c = true := by have := com_head hc; simp [notNl, this]
          have hrn := runN_pos r hn
          have hrl := runN_le notNl (c :: r)
          have hca : comB (c :: (r ++ 10 :: b)) = true := (com_app c r b).trans hc
          rw [List.cons_append, scanS_com p hb hca, scanS_com p hb hc, ← List.cons_append, run_app (by decide), drop_app _ _ hrl]
          rw [ih _ _ (by rw [List.length_drop, List.length_cons]; omega), List.length_drop]
          rw [show p + runN notNl (c :: r) + ((c :: r).length - runN notNl (c :: r)) + 1 = p + (c :: r).length + 1 by omega]
        | false =>
          have hca : comB (c :: (r ++ 10 :: b)) = false := (com_app c r b).trans hc
          have hta : tokT (c :: (r ++ 10 :: b)) = tokT (c :: r) := tok_app c r b
          by_cases he : (tokT (c :: r)).err = 0
          · have hln := tok_len he
            rw [List.cons_append, scanS_tok p hb hca (by rw [hta]; exact he), scanS_tok p hb hc he, hta, ← List.cons_append, drop_app _ _ hln.2, List.take_append_of_le_length hln.2]
            rw [thenR_pre, ih _ _ (by rw [List.length_drop, List.length_cons]; omega), List.length_drop]
            rw [show p + (tokT (c :: r)).len + ((c :: r).length - (tokT (c :: r)).len) + 1 = p + (c :: r).length + 1 by omega]
          · rw [List.cons_append, scanS_bad p hb hca (by rw [hta]; exact he), scanS_bad p hb hc he, hta]; rfl

def moved (d : Nat) (t : Tok) : Tok := ⟨t.kind, t.text, t.place + d⟩
def R.shift (d : Nat) : R → R
  | .ok ts => .ok (ts.map (moved d))
  | .bad p e => .bad (p + d) e
theorem shift_pre (d : Nat) (us : List Tok) (r : R) : (r.pre us).shift d = (r.shift d).pre (us.map (moved d)) := by
  cases r <;> simp [R.pre, R.shift]
theorem scan_shift (d : Nat) : ∀ (n : Nat) (x : List UInt8) (p : Nat), x.length ≤ n → scanS x (p + d) = (scanS x p).shift d := by
  intro n
  induction n with
  | zero =>
    intro x p h
    have : x = [] := List.length_eq_zero_iff.1 (by omega)
    subst this
    rfl
  | succ n ih =>
    intro x p h
    cases x with
    | nil => rfl
    | cons c r =>
      simp only [List.length_cons] at h
      cases hb : blkB c with
      | true => rw [scanS_blk _ hb, scanS_blk _ hb, show p + d + 1 = p + 1 + d by omega, ih r _ (by omega)]
      | false =>
        cases hc : comB (c :: r) with
        | true =>
          have hn : notNl c = true := by have := com_head hc; simp [notNl, this]
          have hrn := runN_pos r hn
          rw [scanS_com _ hb hc, scanS_com _ hb hc, show p + d + runN notNl (c :: r) = p + runN notNl (c :: r) + d by omega, ih _ _ (by rw [List.length_drop, List.length_cons]; omega)]
        | false =>
          by_cases he : (tokT (c :: r)).err = 0
          · have hln := tok_len he
            rw [scanS_tok _ hb hc he, scanS_tok _ hb hc he, show p + d + (tokT (c :: r)).len = p + (tokT (c :: r)).len + d by omega, ih _ _ (by rw [List.length_drop, List.length_cons]; omega), shift_pre]; rfl
          · rw [scanS_bad _ hb hc he, scanS_bad _ hb hc he]; rfl

/-- The tokens of two texts with a line feed between. -/
theorem scan_two (a b : List UInt8) : sc (a ++ 10 :: b) 0 = (sc a 0).thenR ((sc b 0).shift (a.length + 1)) := by
  unfold sc
  rw [List.drop_zero, List.drop_zero, List.drop_zero, scan_app b a.length a 0 (Nat.le_refl _), show 0 + a.length + 1 = 0 + (a.length + 1) by omega, scan_shift (a.length + 1) b.length b 0 (Nat.le_refl _)]

end Go.Proofs.YtkahbhfbgdbnfaaGreatDoor

/-
  PLAIN: two sources, one behind the other: the program has the declarations of both, in order. Nothing of the program stands here. No condition.
-/
namespace Go.Proofs.YtkahbhfbgdbnfaaGreatDoor
open Go.RowKit

theorem decls_end (T : Nat → AT) (d n : Nat) : ∀ (i j : Nat) (ks : List Tree), P T n .decls d i = some (.ok ks j) → (T j).kind = 0 := by
  induction n with
  | zero => intro i j ks h; cases h
  | succ n ih =>
    intro i j ks h
    have hb : runW T (P T n) (body .decls d) i = some (.ok ks j) := h
    have hb2 : (if (T i).kind = 0 then (some (.ok [] i) : Option (Res (List Tree))) else runW T (P T n) ((decl d).bind fun x => .call .decls d fun xs => .ret (x :: xs)) i) = some (.ok ks j) := by
      rw [← hb]
      show _ = runW T (P T n) (if (T i).kind = 0 then _ else _) i
      split <;> rfl
    by_cases h0 : (T i).kind = 0
    · rw [if_pos h0] at hb2
      obtain ⟨rfl, rfl⟩ := Res.ok.inj (Option.some.inj hb2)
      exact h0
    · rw [if_neg h0, runW_bind] at hb2
      cases hd : runW T (P T n) (decl d) i with
      | none => rw [hd] at hb2; cases hb2
      | some r =>
        rw [hd] at hb2
        cases r with
        | bad j e => cases hb2
        | ok x i1 =>
          simp only [then_, runW] at hb2
          cases hc : P T n .decls d i1 with
          | none => rw [hc] at hb2; cases hb2
          | some r =>
            rw [hc] at hb2
            cases r with
            | bad j e => cases hb2
            | ok xs j1 =>
              obtain ⟨rfl, rfl⟩ := Res.ok.inj (Option.some.inj hb2)
              exact ih _ _ _ hc

/-- What a parse gives, with the tokens and where it ends. -/
theorem parse_end {l : List UInt8} {ts : List Tok} {ks : List Tree} (h : parseR l = .ok ts ks) : scanR l = .ok ts ∧ P (Tf ts) (fuelT ts) .decls 0 0 = some (.ok ks ts.length) := by
  unfold parseR at h
  cases hs : scanR l with
  | bad p e => rw [hs] at h; cases h
  | ok ts' =>
    rw [hs] at h
    have hT := toks_of hs
    cases hp : P (Tf ts') (fuelT ts') .decls 0 0 with
    | none => simp only [hp, treeR] at h; cases h
    | some r =>
      simp only [hp, treeR] at h
      cases r with
      | bad j e => cases h
      | ok ks' j =>
        obtain ⟨rfl, rfl⟩ : ts' = ts ∧ ks' = ks := by injection h with a b; exact ⟨a, b⟩
        have hj := P_prog hT.sent (nt := .decls) trivial (Nat.zero_le _) hp
        have hk := decls_end _ _ _ _ _ _ hp
        have hle : ts'.length ≤ j := by
          rcases Nat.lt_or_ge j ts'.length with h | h
          · exact absurd hk (hT.sent.some j h)
          · exact h
        have : j = ts'.length := by omega
        subst this
        exact ⟨rfl, hp⟩
theorem scanR_le {l : List UInt8} {ts : List Tok} (h : scanR l = .ok ts) : sc l 0 = .ok ts ∧ l.length ≤ 4096 := by
  unfold scanR at h
  split at h
  · cases h
  · exact ⟨h, by omega⟩
theorem Tf_left {a b : List Tok} {k : Nat} (h : k < a.length) : Tf (a ++ b) k = Tf a k := by unfold Tf; rw [List.getElem?_append_left h]
theorem Tf_right (a b : List Tok) (d k : Nat) : Tf (a ++ b.map (moved d)) (k + a.length) = Tf b k := by
  unfold Tf
  rw [List.getElem?_append_right (by omega), Nat.add_sub_cancel, List.getElem?_map]
  cases b[k]? <;> rfl
theorem size_er (N : Nat) : ∀ t : Tree, sizeT t ≤ N → sizeT (er t) = sizeT t := by
  induction N with
  | zero => intro t h; have := sizeT_pos t; omega
  | succ N ih =>
    intro t h
    cases t with
    | mk o s ty n p ks =>
      rw [er_mk, sizeT_mk, sizeT_mk]
      rw [sizeT_mk] at h
      congr 1
      have : ∀ l : List Tree, sizeL l ≤ N → sizeL (l.map er) = sizeL l := by
        intro l
        induction l with
        | nil => intro _; rfl
        | cons a r ihr =>
          intro hl
          rw [sizeL_cons] at hl
          rw [List.map_cons, sizeL_cons, sizeL_cons, ih a (by omega), ihr (by omega)]
      exact this ks (by omega)
theorem size_ee {a b : Tree} (h : EE a b) : sizeT a = sizeT b := by
  rw [← size_er _ a (Nat.le_refl _), ← size_er _ b (Nat.le_refl _), show er a = er b from h]
theorem sizeL_el : ∀ {a b : List Tree}, EL a b → sizeL a = sizeL b
  | [], [], _ => rfl
  | [], _ :: _, h => by cases h
  | _ :: _, [], h => by cases h
  | x :: a, y :: b, h => by rw [sizeL_cons, sizeL_cons, size_ee (List.cons.inj h).1, sizeL_el (List.cons.inj h).2]

theorem parse_two {a b : List UInt8} {ta tb : List Tok} {ka kb : List Tree} (ha : parseR a = .ok ta ka) (hb : parseR b = .ok tb kb) (hl : a.length + b.length + 1 ≤ 4096) :
    ∃ tc kb', parseR (a ++ 10 :: b) = .ok tc (ka ++ kb') ∧ EL kb kb' := by
  obtain ⟨sa, pa⟩ := parse_end ha
  obtain ⟨sb, pb⟩ := parse_end hb
  have hTa := toks_of sa
  have h2 : scanR (a ++ 10 :: b) = .ok (ta ++ tb.map (moved (a.length + 1))) := by
    unfold scanR
    rw [if_neg (by simp; omega), scan_two, (scanR_le sa).1, (scanR_le sb).1]; rfl
  have hTc := toks_of h2
  obtain ⟨tc, htc⟩ : ∃ tc, ta ++ tb.map (moved (a.length + 1)) = tc := ⟨_, rfl⟩
  have hR : ∀ k, Tf tc (k + ta.length) = Tf tb k := fun k => by rw [← htc]; exact Tf_right _ _ _ _
  have hL : ∀ k, k < ta.length → Tf tc k = Tf ta k := fun k hk => by rw [← htc]; exact Tf_left hk
  have hlen : tc.length = ta.length + tb.length := by rw [← htc]; simp
  rw [htc] at h2 hTc
  have hs := P_shift hR (fuelT tb) .decls 0 0
  rw [pb, Nat.zero_add] at hs
  cases hq : P (Tf tc) (fuelT tb) .decls 0 ta.length with
  | none => rw [hq] at hs; exact hs.elim
  | some r =>
    rw [hq] at hs
    cases r with
    | bad j e => exact hs.elim
    | ok kb' j =>
      obtain ⟨-, he⟩ := hs
      have hd := decls_two (Tf ta) (Tf tc) 0 (fuelT tb) kb' j (fuelT ta) 0 ta.length ka pa hL (fun k hk => hTa.sent.some k hk) hq
      obtain ⟨rr, hp, -⟩ := P_total hTc.sent (fuelT tc) .decls 0 0 trivial (Nat.zero_le _) (by show 4 * (tc.length - 0) + 0 < 4 * tc.length + 1; omega)
      have h1 := P_one _ hp hd
      subst h1
      refine ⟨tc, kb', ?_, he⟩
      unfold parseR
      rw [h2]
      simp only [hp, treeR]

end Go.Proofs.YtkahbhfbgdbnfaaGreatDoor

/-
  PLAIN: how three short functions are read, wherever their tokens stand. Nothing of the program stands here. No condition.
-/
namespace Go.Proofs.YtkahbhfbgdbnfaaGreatDoor
open Go.RowKit

def qOk (q : List UInt8) : Prop := q = [113, 97] ∨ q = [113, 98] ∨ q = [113, 99] ∨ q = [113, 100]
theorem suf1 (T : Nat → AT) (N n : Nat) (q : List UInt8) (h0 : T N = ⟨2, kFunc⟩) (h1 : T (N + 1) = ⟨1, q⟩) (h2 : T (N + 2) = ⟨4, cLB⟩) (h3 : T (N + 3) = ⟨1, [112]⟩) (h4 : T (N + 4) = ⟨2, kInt⟩) (h5 : T (N + 5) = ⟨4, cRB⟩) (h6 : T (N + 6) = ⟨4, cLC⟩) (h7 : T (N + 7) = ⟨4, cRC⟩) (h8 : T (N + 8) = ⟨0, []⟩) :
    P T (n + 3) .decls 0 N = some (.ok [.mk 4 q [] 0 (N + 1) [.mk 5 [112] kInt 0 (N + 3) [], .mk 6 [] [] 0 (N + 6) []]] (N + 8)) := by
  simp (decide := true) only [P, body, decl, function, word, fparts, need, block, enter, typed, typ, Pr.bind, runW, h0, h1, h2, h3, h4, h5, h6, h7, h8, if_true, if_false, Nat.add_assoc, List.cons_append, List.nil_append]
theorem suf2 (T : Nat → AT) (N n : Nat) (q : List UInt8) (hq : qOk q) (h0 : T N = ⟨2, kFunc⟩) (h1 : T (N + 1) = ⟨1, q⟩) (h2 : T (N + 2) = ⟨4, cLB⟩) (h3 : T (N + 3) = ⟨4, cRB⟩) (h4 : T (N + 4) = ⟨4, cLC⟩) (h5 : T (N + 5) = ⟨1, q⟩) (h6 : T (N + 6) = ⟨4, cEq⟩) (h7 : T (N + 7) = ⟨3, [49]⟩) (h8 : T (N + 8) = ⟨4, cSemi⟩) (h9 : T (N + 9) = ⟨4, cRC⟩) (h10 : T (N + 10) = ⟨0, []⟩) :
    P T (n + 9) .decls 0 N = some (.ok [.mk 4 q [] 0 (N + 1) [.mk 6 [] [] 0 (N + 4) [.mk 8 q [] 0 (N + 5) [.mk 15 [] [] 1 (N + 7) []]]]] (N + 10)) := by
  rcases hq with rfl | rfl | rfl | rfl <;>
  simp (decide := true) only [P, body, decl, function, word, fparts, need, block, enter, typed, typ, stmt, simple, primary, varOrCall, setting, expr, one, binary, unary, postfix_, single, hd, Pr.bind, runW, h0, h1, h2, h3, h4, h5, h6, h7, h8, h9, h10, if_true, if_false, Nat.add_assoc, List.nil_append, List.headD, List.foldl, Tree.op, Tree.name, Tree.pos] <;> rfl
theorem suf3 (T : Nat → AT) (N n : Nat) (q : List UInt8) (h0 : T N = ⟨2, kFunc⟩) (h1 : T (N + 1) = ⟨1, q⟩) (h2 : T (N + 2) = ⟨4, cLB⟩) (h3 : T (N + 3) = ⟨4, cRB⟩) (h4 : T (N + 4) = ⟨4, cLC⟩) (h5 : T (N + 5) = ⟨2, kPrint⟩) (h6 : T (N + 6) = ⟨4, cLB⟩) (h7 : T (N + 7) = ⟨1, [122, 122, 57]⟩) (h8 : T (N + 8) = ⟨4, cRB⟩) (h9 : T (N + 9) = ⟨4, cSemi⟩) (h10 : T (N + 10) = ⟨4, cRC⟩) (h11 : T (N + 11) = ⟨0, []⟩) :
    P T (n + 9) .decls 0 N = some (.ok [.mk 4 q [] 0 (N + 1) [.mk 6 [] [] 0 (N + 4) [.mk 12 [] [] 0 (N + 5) [.mk 18 [122, 122, 57] [] 0 (N + 7) []]]]] (N + 11)) := by
  simp (decide := true) only [P, body, decl, function, word, fparts, need, block, enter, typed, typ, stmt, print, brack, primary, varOrCall, expr, one, binary, unary, postfix_, single, hd, Pr.bind, runW, h0, h1, h2, h3, h4, h5, h6, h7, h8, h9, h10, h11, if_true, if_false, Nat.add_assoc, List.nil_append, List.headD, List.foldl]

/-- A text, a line feed, and a text whose tokens are read alike wherever they stand. -/
theorem parse_more {a b : List UInt8} {ta tb : List Tok} {ka kb : List Tree} {j m : Nat} (ha : parseR a = .ok ta ka) (hb : scanR b = .ok tb) (hl : a.length + b.length + 1 ≤ 4096)
    (hP : ∀ T : Nat → AT, (∀ k, T (ta.length + k) = Tf tb k) → P T m .decls 0 ta.length = some (.ok kb j)) : parseR (a ++ 10 :: b) = .ok (ta ++ tb.map (moved (a.length + 1))) (ka ++ kb) := by
  obtain ⟨sa, pa⟩ := parse_end ha
  have hTa := toks_of sa
  have h2 : scanR (a ++ 10 :: b) = .ok (ta ++ tb.map (moved (a.length + 1))) := by
    unfold scanR
    rw [if_neg (by simp; omega), scan_two, (scanR_le sa).1, (scanR_le hb).1]; rfl
  have hTc := toks_of h2
  obtain ⟨tc, htc⟩ : ∃ tc, ta ++ tb.map (moved (a.length + 1)) = tc := ⟨_, rfl⟩
  have hR : ∀ k, Tf tc (ta.length + k) = Tf tb k := fun k => by rw [← htc, Nat.add_comm ta.length k]; exact Tf_right _ _ _ _
  have hL : ∀ k, k < ta.length → Tf tc k = Tf ta k := fun k hk => by rw [← htc]; exact Tf_left hk
  rw [htc] at h2 hTc ⊢
  have hd := decls_two (Tf ta) (Tf tc) 0 m kb j (fuelT ta) 0 ta.length ka pa hL (fun k hk => hTa.sent.some k hk) (hP _ hR)
  obtain ⟨rr, hp, -⟩ := P_total hTc.sent (fuelT tc) .decls 0 0 trivial (Nat.zero_le _) (by show 4 * (tc.length - 0) + 0 < 4 * tc.length + 1; omega)
  have h1 := P_one _ hp hd
  subst h1
  unfold parseR
  rw [h2]
  simp only [hp, treeR]
def sx1 (q : List UInt8) : List UInt8 := [102, 117, 110, 99, 32] ++ q ++ [40, 112, 32, 105, 110, 116, 41, 32, 123, 32, 125]
def tx1 (q : List UInt8) : List Tok := [⟨2, kFunc, 0⟩, ⟨1, q, 5⟩, ⟨4, cLB, 7⟩, ⟨1, [112], 8⟩, ⟨2, kInt, 10⟩, ⟨4, cRB, 13⟩, ⟨4, cLC, 15⟩, ⟨4, cRC, 17⟩]
theorem sx1_is {q : List UInt8} (hq : qOk q) : scanR (sx1 q) = .ok (tx1 q) := by rcases hq with rfl | rfl | rfl | rfl <;> kernel_rfl
theorem sx1_len {q : List UInt8} (hq : qOk q) : (sx1 q).length ≤ 40 := by rcases hq with rfl | rfl | rfl | rfl <;> decide
def sx2 (q : List UInt8) : List UInt8 := [102, 117, 110, 99, 32] ++ q ++ [40, 41, 32, 123, 32] ++ q ++ [32, 61, 32, 49, 59, 32, 125]
def tx2 (q : List UInt8) : List Tok := [⟨2, kFunc, 0⟩, ⟨1, q, 5⟩, ⟨4, cLB, 7⟩, ⟨4, cRB, 8⟩, ⟨4, cLC, 10⟩, ⟨1, q, 12⟩, ⟨4, cEq, 15⟩, ⟨3, [49], 17⟩, ⟨4, cSemi, 18⟩, ⟨4, cRC, 20⟩]
theorem sx2_is {q : List UInt8} (hq : qOk q) : scanR (sx2 q) = .ok (tx2 q) := by rcases hq with rfl | rfl | rfl | rfl <;> kernel_rfl
theorem sx2_len {q : List UInt8} (hq : qOk q) : (sx2 q).length ≤ 40 := by rcases hq with rfl | rfl | rfl | rfl <;> decide
def sx3 (q : List UInt8) : List UInt8 := [102, 117, 110, 99, 32] ++ q ++ [40, 41, 32, 123, 32, 112, 114, 105, 110, 116, 40, 122, 122, 57, 41, 59, 32, 125]
def tx3 (q : List UInt8) : List Tok := [⟨2, kFunc, 0⟩, ⟨1, q, 5⟩, ⟨4, cLB, 7⟩, ⟨4, cRB, 8⟩, ⟨4, cLC, 10⟩, ⟨2, kPrint, 12⟩, ⟨4, cLB, 17⟩, ⟨1, [122, 122, 57], 18⟩, ⟨4, cRB, 21⟩, ⟨4, cSemi, 22⟩, ⟨4, cRC, 24⟩]
theorem sx3_is {q : List UInt8} (hq : qOk q) : scanR (sx3 q) = .ok (tx3 q) := by rcases hq with rfl | rfl | rfl | rfl <;> kernel_rfl
theorem sx3_len {q : List UInt8} (hq : qOk q) : (sx3 q).length ≤ 40 := by rcases hq with rfl | rfl | rfl | rfl <;> decide
def dx1 (q : List UInt8) (N : Nat) : Tree := .mk 4 q [] 0 (N + 1) [.mk 5 [112] kInt 0 (N + 3) [], .mk 6 [] [] 0 (N + 6) []]
theorem more1 {a q : List UInt8} {ta : List Tok} {ka : List Tree} (ha : parseR a = .ok ta ka) (hl : a.length ≤ 2048) (hq : qOk q) : parseR (a ++ 10 :: sx1 q) = .ok (ta ++ (tx1 q).map (moved (a.length + 1))) (ka ++ [dx1 q ta.length]) :=
  parse_more ha (sx1_is hq) (by have := sx1_len hq; omega) (fun T h => suf1 T ta.length 0 q (h 0) (h 1) (h 2) (h 3) (h 4) (h 5) (h 6) (h 7) (h 8))
def dx2 (q : List UInt8) (N : Nat) : Tree := .mk 4 q [] 0 (N + 1) [.mk 6 [] [] 0 (N + 4) [.mk 8 q [] 0 (N + 5) [.mk 15 [] [] 1 (N + 7) []]]]
theorem more2 {a q : List UInt8} {ta : List Tok} {ka : List Tree} (ha : parseR a = .ok ta ka) (hl : a.length ≤ 2048) (hq : qOk q) : parseR (a ++ 10 :: sx2 q) = .ok (ta ++ (tx2 q).map (moved (a.length + 1))) (ka ++ [dx2 q ta.length]) :=
  parse_more ha (sx2_is hq) (by have := sx2_len hq; omega) (fun T h => suf2 T ta.length 0 q hq (h 0) (h 1) (h 2) (h 3) (h 4) (h 5) (h 6) (h 7) (h 8) (h 9) (h 10))
def dx3 (q : List UInt8) (N : Nat) : Tree := .mk 4 q [] 0 (N + 1) [.mk 6 [] [] 0 (N + 4) [.mk 12 [] [] 0 (N + 5) [.mk 18 [122, 122, 57] [] 0 (N + 7) []]]]
theorem more3 {a q : List UInt8} {ta : List Tok} {ka : List Tree} (ha : parseR a = .ok ta ka) (hl : a.length ≤ 2048) (hq : qOk q) : parseR (a ++ 10 :: sx3 q) = .ok (ta ++ (tx3 q).map (moved (a.length + 1))) (ka ++ [dx3 q ta.length]) :=
  parse_more ha (sx3_is hq) (by have := sx3_len hq; omega) (fun T h => suf3 T ta.length 0 q (h 0) (h 1) (h 2) (h 3) (h 4) (h 5) (h 6) (h 7) (h 8) (h 9) (h 10) (h 11))
theorem more2_at {a q : List UInt8} {ta : List Tok} (n : Nat) : a.length < plf (ta ++ (tx2 q).map (moved (a.length + 1))) n (ta.length + 5) := by
  unfold plf
  rw [List.getElem?_append_right (by omega), show ta.length + 5 - ta.length = 5 by omega]
  show a.length < 12 + (a.length + 1)
  omega

end Go.Proofs.YtkahbhfbgdbnfaaGreatDoor
