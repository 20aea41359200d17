/-
  PLAIN: the kinds of the texts that are shown: each stands for itself ahead of a blank; the text of a number tells the number. Nothing of the program stands here. No condition.
-/
import Derived.Test.YtfbejfoalnhihaaGreatDoorJ6
import Derived.Lib.ItoaNum
import Derived.Lib.ItoaLen
import Derived.Test.YtfbejfoalnhihaaGreatDoorJ1
namespace Go.Proofs.YtfbejfoalnhihaaGreatDoor
open Go.RowKit

theorem dig_nat {u : Nat} (h : u < 10) : (UInt8.ofNat (48 + u)).toNat = 48 + u := by
  rw [UInt8.toNat_ofNat']; omega
theorem dig_dig {u : Nat} (h : u < 10) : digB (UInt8.ofNat (48 + u)) = true := by
  unfold digB; rw [dig_nat h]; simp; omega

theorem dec_step (u : Nat) (h : ¬ u < 10) : Lib.decDigits u = Lib.decDigits (u / 10) ++ [UInt8.ofNat (48 + u % 10)] := by rw [Lib.decDigits, dif_neg h]
theorem dec_all (u : Nat) : (Lib.decDigits u).all digB = true := by
  induction u using Nat.strongRecOn with
  | ind u ih =>
    by_cases h : u < 10
    · rw [Lib.decDigits_one h, List.all_cons, dig_dig h]; rfl
    · rw [dec_step u h, List.all_append, ih (u / 10) (by omega), List.all_cons, dig_dig (Nat.mod_lt u (by omega : 10 > 0))]; rfl
theorem dec_val (u : Nat) : val 0 (Lib.decDigits u) = u := by
  induction u using Nat.strongRecOn with
  | ind u ih =>
    by_cases h : u < 10
    · rw [Lib.decDigits_one h, val_cons, val_nil, dig_nat h]; omega
    · rw [dec_step u h, val_snoc, ih (u / 10) (by omega), dig_nat (Nat.mod_lt u (by omega : 10 > 0))]; omega
theorem dec_ne (u : Nat) : Lib.decDigits u ≠ [] := by
  by_cases h : u < 10
  · rw [Lib.decDigits_one h]; simp
  · rw [dec_step u h]; simp
theorem dec_head (u : Nat) (h0 : u ≠ 0) : (Lib.decDigits u).headD 48 ≠ 48 := by
  induction u using Nat.strongRecOn with
  | ind u ih =>
    by_cases h : u < 10
    · rw [Lib.decDigits_one h]
      intro e
      have : (UInt8.ofNat (48 + u)).toNat = 48 := by rw [show UInt8.ofNat (48 + u) = 48 from e]; rfl
      rw [dig_nat h] at this
      omega
    · rw [dec_step u h]
      have hne := dec_ne (u / 10)
      have := ih (u / 10) (by omega) (by omega)
      cases hl : Lib.decDigits (u / 10) with
      | nil => exact absurd hl hne
      | cons c r => rw [hl] at this; simpa using this
theorem dec_plain (u : Nat) (h0 : u ≠ 0) : plainB (Lib.decDigits u) = true := by
  unfold plainB
  rw [dec_all]
  have h1 : (Lib.decDigits u).isEmpty = false := by
    cases hl : Lib.decDigits u with
    | nil => exact absurd hl (dec_ne u)
    | cons => rfl
  have h2 := dec_head u h0
  have h3 : ((Lib.decDigits u).headD 48 != 48) = true := bne_iff_ne.2 h2
  rw [h1, h3]
  rfl
/-- The kind of a text, as a token. -/
def kd (x : Tx) : Nat := (tokT x).kind
/-- It stands for itself ahead of a blank. -/
def Tx.Ok (x : Tx) : Prop := TokOK ⟨kd x, x, 0⟩
theorem TokOK.at {k p q : Nat} {x : Tx} (h : TokOK ⟨k, x, p⟩) : TokOK ⟨k, x, q⟩ := h
theorem TokOK.kd {k p : Nat} {x : Tx} (h : TokOK ⟨k, x, p⟩) : kd x = k := by
  obtain ⟨c, r, h1, -, h3⟩ := h
  have := (h3 [] (Or.inl rfl)).2
  rw [List.append_nil] at this
  unfold Go.Proofs.YtfbejfoalnhihaaGreatDoor.kd
  rw [show tokT x = _ from this]
theorem TokOK.ok {k p : Nat} {x : Tx} (h : TokOK ⟨k, x, p⟩) : Tx.Ok x := by
  have := h.kd; subst this; exact h
theorem tx_ok {x : Tx} {c : UInt8} {r : Tx} (hx : x = c :: r) (hb : blkB c = false) (he : (tokT x).err = 0) (hl : (tokT x).len = x.length) : Tx.Ok x := by
  subst hx
  have := tok_ok 0 hb he
  rw [hl, List.take_of_length_le (Nat.le_refl _)] at this
  exact this
/-- The texts that do not hang on the source: keys and signs. -/
def fixed : List Tx := [kType, kStruct, kFunc, kVar, kIf, kElse, kFor, kReturn, kPrint, kNew, kNil, kTrue, kFalse, kInt, kBool, kRead, cLB, cRB, cLC, cRC, cSemi, cComma, cDot, cStar, cEq, cDef, cOr, cAnd]
def fixB (x : Tx) : Bool := match x with
  | [] => false
  | c :: r => !blkB c && decide ((tokT (c :: r)).err = 0) && decide ((tokT (c :: r)).len = (c :: r).length) && decide ((c :: r).length ≤ 20)
theorem fix_ok {x : Tx} (h : fixB x = true) : Tx.Ok x ∧ x.length ≤ 20 := by
  cases x with
  | nil => cases h
  | cons c r =>
    simp only [fixB, Bool.and_eq_true, decide_eq_true_eq, Bool.not_eq_true'] at h
    exact ⟨tx_ok rfl h.1.1.1 h.1.1.2 h.1.2, h.2⟩
theorem fixed_all : fixed.all fixB = true := by decide
theorem fixed_ok {x : Tx} (h : x ∈ fixed) : Tx.Ok x ∧ x.length ≤ 20 := fix_ok (List.all_eq_true.1 fixed_all x h)
theorem sign_all : (signTab.drop 1).all fixB = true := by decide
theorem sign_at (n : Int) (h1 : 1 ≤ n) (h2 : n ≤ 18) : ∃ k : Nat, n = k ∧ 1 ≤ k ∧ k ≤ 18 ∧ signL n = signTab.getD k [] := by
  refine ⟨n.toNat, by omega, by omega, by omega, ?_⟩
  unfold signL
  rw [if_neg (by omega)]
theorem sign_ok (n : Int) (h1 : 1 ≤ n) (h2 : n ≤ 18) : Tx.Ok (signL n) ∧ (signL n).length ≤ 20 := by
  obtain ⟨k, -, h3, h4, h5⟩ := sign_at n h1 h2
  rw [h5]
  refine fix_ok (List.all_eq_true.1 sign_all _ ?_)
  rw [List.getD_eq_getElem?_getD]
  obtain ⟨j, rfl⟩ : ∃ j, k = j + 1 := ⟨k - 1, by omega⟩
  have hl : j + 1 < signTab.length := by show j + 1 < 19; omega
  rw [List.getElem?_eq_getElem hl]
  exact List.mem_of_getElem? (i := j) (by rw [List.getElem?_drop, Nat.add_comm 1 j, List.getElem?_eq_getElem hl]; rfl)
theorem sign_bin' : ∀ k : Fin 17, 1 ≤ k.val → findN (signTab.getD k.val []) 1 16 = (k.val : Int) ∧ 3 ≤ lvl (signTab.getD k.val []) ∧ signTab.getD k.val [] ≠ cOr ∧ signTab.getD k.val [] ≠ cAnd ∧ signTab.getD k.val [] ≠ cDot ∧ signTab.getD k.val [] ≠ cLB ∧ lvl (signTab.getD k.val []) ≤ 5 := by decide
theorem sign_bin (n : Int) (h1 : 1 ≤ n) (h2 : n ≤ 16) : findN (signL n) 1 16 = n ∧ 3 ≤ lvl (signL n) ∧ signL n ≠ cOr ∧ signL n ≠ cAnd ∧ signL n ≠ cDot ∧ signL n ≠ cLB ∧ lvl (signL n) ≤ 5 := by
  obtain ⟨k, h0, h3, h4, h5⟩ := sign_at n h1 (by omega)
  rw [h5, h0]
  exact sign_bin' ⟨k, by omega⟩ h3
theorem sign_un (n : Int) (h : n = 17 ∨ n = 18) : findN (signL n) 17 2 = n := by
  rcases h with rfl | rfl <;> decide
theorem text_dec (n : Int) (h0 : 0 ≤ n) : textN n = Lib.decDigits n.toNat := by unfold textN; rw [Lib.itoa, if_neg (by omega)]
theorem text_num (n : Int) (h0 : 0 ≤ n) : numN (textN n) = n := by rw [text_dec n h0]; unfold numN; rw [dec_val]; omega
theorem text_par (n : Int) (h0 : 0 ≤ n) (h1 : n ≤ 9223372036854775807) : parE (textN n) = 0 := by
  rw [text_dec n h0]
  unfold parE
  rw [dec_val, if_pos (show n.toNat < 9223372036854775808 by omega)]
  by_cases hz : n = 0
  · subst hz
    have : Lib.decDigits (0 : Int).toNat = [48] := Lib.decDigits_one (i := 0) (by omega)
    rw [this]; rfl
  · rw [dec_plain n.toNat (by omega), Bool.or_true, if_pos rfl]
theorem run_whole {f : UInt8 → Bool} : ∀ (x : List UInt8), x.all f = true → runN f x = x.length := fun x h => by
  have := runN_stop x [] h (fun c q e => by cases e)
  rwa [List.append_nil] at this
theorem text_tok (n : Int) (h0 : 0 ≤ n) (h1 : n ≤ 9223372036854775807) : Tx.Ok (textN n) ∧ kd (textN n) = 3 ∧ (textN n).length ≤ 21 := by
  have ha : (textN n).all digB = true := by rw [text_dec n h0]; exact dec_all _
  have hp := text_par n h0 h1
  have hlen : (textN n).length ≤ 21 := Lib.itoa_length_le n (by omega) h1
  cases hx : textN n with
  | nil => rw [text_dec n h0] at hx; exact absurd hx (dec_ne _)
  | cons c r =>
    rw [hx] at ha hp hlen
    have hc : digB c = true := by rw [List.all_cons, Bool.and_eq_true] at ha; exact ha.1
    have hlet : letB c = false := by
      cases hl : letB c with
      | false => rfl
      | true => rw [let_dig hl] at hc; cases hc
    have hb : blkB c = false := by
      have : 48 ≤ c.toNat ∧ c.toNat ≤ 57 := by simpa [digB] using hc
      simp [blkB]; omega
    have hr := run_whole _ ha
    have ht : tokT (c :: r) = ⟨0, 3, (c :: r).length⟩ := by
      rw [tokT_dig r hlet hc]
      unfold numT
      rw [hr, List.drop_of_length_le (Nat.le_refl _), List.take_of_length_le (Nat.le_refl _), hp]
      rfl
    refine ⟨tx_ok rfl hb (by rw [ht]) (by rw [ht]), ?_, hlen⟩
    unfold kd
    rw [ht]

/-- What is asked of a name. -/
def NW (s : Tx) : Prop := TokOK ⟨1, s, 0⟩
theorem NW.kd {s : Tx} (h : NW s) : kd s = 1 := TokOK.kd h
theorem NW.facts {s : Tx} (h : NW s) : letB (s.headD 0) = true ∧ s.all wchB = true ∧ s.length ≤ 12 ∧ keyB s = false := by
  have := tok_facts h
  rcases this with h | h | h | h
  · exact h.2
  · exact absurd (show (1 : Nat) = 2 from h.1) (by decide)
  · exact absurd (show (1 : Nat) = 3 from h.1) (by decide)
  · exact absurd (show (1 : Nat) = 4 from h.1) (by decide)
theorem NW.word {s : Tx} (h : NW s) : wordB s = true := by
  obtain ⟨h1, h2, h3, h4⟩ := h.facts
  unfold wordB
  have ha : afterB s = true := by
    cases s with
    | nil => exact absurd h1 (by decide)
    | cons c r => exact h1
  rw [ha, h2, h4]
  simp [h3]
theorem ty_ptr {s : Tx} (h : NW s) : typT (42 :: s) = [cStar, s] := by
  have ht : (tailOf ⟨(42 :: s).toArray⟩).data.toList = s := by
    unfold tailOf
    rw [ByteArray.data_extract, Array.toList_extract]
    simp [List.extract, ByteArray.size]
  have hs : starB ⟨(42 :: s).toArray⟩ = true := by
    show Lib.hasPrefix (42 :: s) [42] = true
    unfold Lib.hasPrefix
    simp
  unfold typT elemO
  rw [hs, ht, h.word]
  simp only [Bool.and_self, if_true, ht]
theorem ty_int : typT kInt = [kInt] := by decide
theorem ty_bool : typT kBool = [kBool] := by decide

end Go.Proofs.YtfbejfoalnhihaaGreatDoor

/-
  PLAIN: trees that are the same but for places; what is read of the same tokens at another place is the same but for places. Nothing of the program stands here. No condition.
-/
namespace Go.Proofs.YtfbejfoalnhihaaGreatDoor
open Go.RowKit

mutual
def er : Tree → Tree
  | .mk o s ty n _ ks => .mk o s ty n 0 (erL ks)
def erL : List Tree → List Tree
  | [] => []
  | t :: r => er t :: erL r
end
theorem erL_map (ks : List Tree) : erL ks = ks.map er := by
  induction ks with
  | nil => rfl
  | cons t r ih => rw [erL, ih]; rfl
theorem er_mk (o : Nat) (s ty : List UInt8) (n : Int) (p : Nat) (ks : List Tree) : er (.mk o s ty n p ks) = .mk o s ty n 0 (ks.map er) := by rw [er, erL_map]
theorem er_parts {a b : Tree} (h : er a = er b) : a.op = b.op ∧ a.name = b.name ∧ a.typ = b.typ ∧ a.n = b.n ∧ a.kids.map er = b.kids.map er := by
  cases a; cases b
  simp only [er_mk, Tree.mk.injEq] at h
  exact ⟨h.1, h.2.1, h.2.2.1, h.2.2.2.1, h.2.2.2.2.2⟩
theorem er_kid {l r : List Tree} (h : l.map er = r.map er) {k : Nat} {u : Tree} (hu : l[k]? = some u) : ∃ v, r[k]? = some v ∧ er u = er v := by
  have h1 := congrArg (fun l => l[k]?) h
  simp only [List.getElem?_map, hu, Option.map_some] at h1
  obtain ⟨v, h2, h3⟩ := Option.map_eq_some_iff.1 h1.symm
  exact ⟨v, h2, h3.symm⟩
abbrev EE (a b : Tree) : Prop := er a = er b
abbrev EL (a b : List Tree) : Prop := a.map er = b.map er
theorem ee_mk {o : Nat} {s ty : List UInt8} {n : Int} {p q : Nat} {ks ks' : List Tree} (h : EL ks ks') : EE (.mk o s ty n p ks) (.mk o s ty n q ks') := by
  show er _ = er _; rw [er_mk, er_mk]; rw [show ks.map er = ks'.map er from h]
theorem el_nil : EL [] [] := rfl
theorem el_cons {a b : Tree} {l r : List Tree} (h : EE a b) (g : EL l r) : EL (a :: l) (b :: r) := by
  show _ :: _ = _ :: _; rw [show er a = er b from h, show l.map er = r.map er from g]
theorem el_app {a b l r : List Tree} (h : EL a b) (g : EL l r) : EL (a ++ l) (b ++ r) := by
  show List.map _ _ = List.map _ _; rw [List.map_append, List.map_append, show a.map er = b.map er from h, show l.map er = r.map er from g]
theorem ee_hd {l r : List Tree} (h : EL l r) : EE (hd l) (hd r) := by
  cases l with
  | nil => cases r with
    | nil => rfl
    | cons b r => cases h
  | cons a l => cases r with
    | nil => cases h
    | cons b r => exact (List.cons.inj h).1
theorem ee_attach {a b x y : Tree} (h : EE a b) (g : EE x y) : EE (attach a x) (attach b y) := by
  obtain ⟨h1, h2, h3, h4, h5⟩ := er_parts g
  cases x; cases y
  simp only [Tree.op, Tree.name, Tree.typ, Tree.n, Tree.kids] at h1 h2 h3 h4 h5
  subst h1 h2 h3 h4
  exact ee_mk (el_cons h h5)
theorem ee_fold : ∀ (l r : List Tree) (a b : Tree), EL l r → EE a b → EE (l.foldl (fun a b => attach a b) a) (r.foldl (fun a b => attach a b) b)
  | [], [], a, b, _, g => g
  | [], _ :: _, _, _, h, _ => by cases h
  | _ :: _, [], _, _, h, _ => by cases h
  | x :: l, y :: r, a, b, h, g => ee_fold l r _ _ (List.cons.inj h).2 (ee_attach g (List.cons.inj h).1)
theorem ee_put : ∀ (l r : List Tree) (h h' f f' v v' : Tree), EL l r → EE h h' → EE f f' → EE v v' → EE (putT h f l v) (putT h' f' r v')
  | [], [], h, h', f, f', v, v', _, g1, g2, g3 => by
    unfold putT
    rw [(er_parts g2).2.1]
    exact ee_mk (el_cons g1 (el_cons g3 el_nil))
  | [], _ :: _, _, _, _, _, _, _, h, _, _, _ => by cases h
  | _ :: _, [], _, _, _, _, _, _, h, _, _, _ => by cases h
  | x :: l, y :: r, h, h', f, f', v, v', g0, g1, g2, g3 => by
    unfold putT
    exact ee_put l r _ _ _ _ _ _ (List.cons.inj g0).2 (ee_attach g1 g2) (List.cons.inj g0).1 g3

/-- Two readers that go the same way, whatever the places. -/
def RelP {α : Type} (E : α → α → Prop) : Pr α → Pr α → Prop
  | .ret a, .ret b => E a b
  | .fail e, .fail e' => e = e'
  | .peek k, .peek k' => ∀ i i' t, RelP E (k i t) (k' i' t)
  | .next p, .next p' => RelP E p p'
  | .call nt d k, .call nt' d' k' => nt = nt' ∧ d = d' ∧ ∀ ts ts', EL ts ts' → RelP E (k ts) (k' ts')
  | _, _ => False
theorem rel_bind0 {α β : Type} {E : α → α → Prop} {F : β → β → Prop} {f f' : α → Pr β} (g : ∀ a a', E a a' → RelP F (f a) (f' a')) : ∀ (p p' : Pr α), RelP E p p' → RelP F (p.bind f) (p'.bind f')
  | .ret a, .ret b, h => g a b h
  | .fail _, .fail _, h => h
  | .peek _, .peek _, h => fun i i' t => rel_bind0 g _ _ (h i i' t)
  | .next p, .next p', h => rel_bind0 g p p' h
  | .call _ _ _, .call _ _ _, h => ⟨h.1, h.2.1, fun ts ts' e => rel_bind0 g _ _ (h.2.2 ts ts' e)⟩
theorem rel_bind {α β : Type} {E : α → α → Prop} {F : β → β → Prop} {p p' : Pr α} {f f' : α → Pr β} (h : RelP E p p') (g : ∀ a a', E a a' → RelP F (f a) (f' a')) : RelP F (p.bind f) (p'.bind f') := rel_bind0 g p p' h
theorem rel_ite {α : Type} {E : α → α → Prop} {q : Prop} [Decidable q] {p p' r r' : Pr α} (h : RelP E p p') (g : RelP E r r') : RelP E (if q then p else r) (if q then p' else r') := by
  split <;> assumption
theorem rel_ite2 {α : Type} {E : α → α → Prop} {q q' : Prop} [Decidable q] [Decidable q'] {p p' r r' : Pr α} (e : q ↔ q') (h : RelP E p p') (g : RelP E r r') : RelP E (if q then p else r) (if q' then p' else r') := by
  by_cases hq : q
  · rw [if_pos hq, if_pos (e.1 hq)]; exact h
  · rw [if_neg hq, if_neg (fun h => hq (e.2 h))]; exact g
abbrev AnyE {α : Type} : α → α → Prop := fun _ _ => True
abbrev SndE (a b : Nat × List UInt8) : Prop := a.2 = b.2
theorem rel_need (s : List UInt8) : RelP AnyE (need s) (need s) := fun _ _ _ => rel_ite trivial rfl
theorem rel_word : RelP SndE word word := fun _ _ _ => rel_ite rfl rfl
theorem rel_enter (d : Nat) (s : List UInt8) : RelP AnyE (enter d s) (enter d s) := fun _ _ _ => rel_ite (rel_ite rfl trivial) rfl
theorem rel_typ : RelP Eq typ typ := fun _ _ _ => rel_ite rfl (rel_ite rfl (rel_bind (rel_need _) (fun _ _ _ => rel_bind rel_word (fun a a' h => by show _ :: _ = _ :: _; rw [show a.2 = a'.2 from h]))))
theorem rel_typed (op : Nat) : RelP EE (typed op) (typed op) := rel_bind rel_word (fun a a' h => rel_bind rel_typ (fun t t' e => by subst e; show EE _ _; rw [show a.2 = a'.2 from h]; exact ee_mk el_nil))
theorem rel_named (op : Nat) : RelP EE (named op) (named op) := rel_bind (rel_typed op) (fun _ _ h => rel_bind (rel_need _) (fun _ _ _ => h))
theorem rel_one (nt : NT) (d : Nat) : RelP EE (one nt d) (one nt d) := ⟨rfl, rfl, fun _ _ h => ee_hd h⟩
theorem rel_expr (d : Nat) : RelP EE (expr d) (expr d) := rel_one _ _
theorem rel_block (d : Nat) : RelP EE (block d) (block d) := rel_bind (rel_enter _ _) (fun _ _ _ => ⟨rfl, rfl, fun _ _ h => ee_mk h⟩)
theorem rel_struct : RelP EE structure_ structure_ := rel_bind rel_word (fun a a' e => rel_bind (rel_need _) (fun _ _ _ => rel_bind (rel_need _) (fun _ _ _ => ⟨rfl, rfl, fun _ _ h => by show EE _ _; rw [show a.2 = a'.2 from e]; exact ee_mk h⟩)))
theorem rel_fparts : RelP EL fparts fparts := rel_bind (rel_need _) (fun _ _ _ _ _ _ => rel_ite el_nil (rel_bind (rel_typed 5) (fun _ _ h => ⟨rfl, rfl, fun _ _ g => el_cons h g⟩)))
theorem rel_function (d : Nat) : RelP EE (function d) (function d) := rel_bind rel_word (fun a a' e => rel_bind rel_fparts (fun _ _ h => rel_bind (E := Eq) (fun _ _ _ => rel_ite rfl rel_typ) (fun t t' e2 => rel_bind (rel_block d) (fun _ _ g => by subst e2; show EE _ _; rw [show a.2 = a'.2 from e]; exact ee_mk (el_app h (el_cons g el_nil))))))
theorem rel_decl (d : Nat) : RelP EE (decl d) (decl d) := fun _ _ _ => rel_ite rel_struct (rel_ite (rel_named 3) (rel_ite (rel_function d) rfl))
theorem rel_args (d : Nat) : RelP EL (args d) (args d) := rel_bind (rel_enter _ _) (fun _ _ _ _ _ _ => rel_ite (rel_bind (rel_need _) (fun _ _ _ => el_nil)) (rel_bind (rel_expr _) (fun _ _ h => ⟨rfl, rfl, fun _ _ g => el_cons h g⟩)))
theorem rel_brack (d : Nat) : RelP EE (brack d) (brack d) := rel_bind (rel_enter _ _) (fun _ _ _ => rel_bind (rel_expr _) (fun _ _ h => rel_bind (rel_need _) (fun _ _ _ => h)))
theorem rel_varOrCall (d : Nat) : RelP EE (varOrCall d) (varOrCall d) := rel_bind rel_word (fun a a' e _ _ _ => rel_ite (rel_bind (rel_args d) (fun _ _ h => by show EE _ _; rw [show a.2 = a'.2 from e]; exact ee_mk h)) (by show EE _ _; rw [show a.2 = a'.2 from e]; exact ee_mk el_nil))
theorem rel_creation : RelP EE creation creation := rel_bind (rel_need _) (fun _ _ _ => rel_bind (rel_need _) (fun _ _ _ => rel_bind rel_word (fun a a' e => rel_bind (rel_need _) (fun _ _ _ => by show EE _ _; rw [show a.2 = a'.2 from e]; exact ee_mk el_nil))))
theorem rel_input : RelP EE input input := rel_bind (rel_need _) (fun _ _ _ => rel_bind (rel_need _) (fun _ _ _ => rel_bind (rel_need _) (fun _ _ _ => ee_mk el_nil)))
theorem rel_primary (d : Nat) : RelP EE (primary d) (primary d) := fun _ _ _ => rel_ite (ee_mk el_nil) (rel_ite (rel_varOrCall d) (rel_ite (ee_mk el_nil) (rel_ite (ee_mk el_nil) (rel_ite (ee_mk el_nil) (rel_ite rel_creation (rel_ite rel_input (rel_ite (rel_brack d) rfl)))))))
theorem rel_fieldName : RelP SndE fieldName fieldName := rel_bind (rel_need _) (fun _ _ _ => rel_word)
theorem rel_postfix (d : Nat) : RelP EE (postfix_ d) (postfix_ d) := rel_bind (rel_primary d) (fun _ _ h => ⟨rfl, rfl, fun _ _ g => ee_fold _ _ _ _ g h⟩)
theorem rel_setting (op : Nat) (h h' : Tree) (d : Nat) (e : EE h h') : RelP EE (setting op h d) (setting op h' d) := rel_bind (rel_expr d) (fun _ _ g => rel_bind (rel_need _) (fun _ _ _ => by show EE _ _; rw [(er_parts e).2.1]; exact ee_mk (el_cons g el_nil)))
theorem ee_bare {a a' : Nat × List UInt8} (h : SndE a a') : EE (bare a) (bare a') := by unfold bare; rw [show a.2 = a'.2 from h]; exact ee_mk el_nil
theorem rel_put (h h' : Tree) (d : Nat) (e : EE h h') : RelP EE (put h d) (put h' d) := rel_bind rel_fieldName (fun _ _ f => ⟨rfl, rfl, fun _ _ g => rel_bind (rel_need _) (fun _ _ _ => rel_bind (rel_expr d) (fun _ _ v => rel_bind (rel_need _) (fun _ _ _ => ee_put _ _ _ _ _ _ _ _ g e (ee_bare f) v)))⟩)
theorem rel_simple (d : Nat) : RelP EE (simple d) (simple d) := fun _ _ t => rel_bind (rel_primary d) (fun h h' e _ _ t2 => by
  have ho := (er_parts e).1
  refine rel_ite2 (by rw [ho]) ?_ (rel_ite2 (by rw [ho]) (rel_setting 7 h h' d e) (rel_ite2 (by rw [ho]) (rel_setting 8 h h' d e) (rel_put h h' d e)))
  exact ee_mk (el_cons e el_nil))
theorem rel_loop (d : Nat) : RelP EE (loop d) (loop d) := rel_bind (rel_need _) (fun _ _ _ => rel_bind (rel_expr d) (fun _ _ h => rel_bind (rel_block d) (fun _ _ g => ee_mk (el_cons h (el_cons g el_nil)))))
theorem rel_print (d : Nat) : RelP EE (print d) (print d) := rel_bind (rel_need _) (fun _ _ _ => rel_bind (rel_brack d) (fun _ _ h => rel_bind (rel_need _) (fun _ _ _ => ee_mk (el_cons h el_nil))))
theorem rel_giveBack (d : Nat) : RelP EE (giveBack d) (giveBack d) := rel_bind (rel_need _) (fun _ _ _ => rel_bind (E := EL) (fun _ _ _ => rel_ite el_nil (rel_bind (rel_expr d) (fun _ _ h => el_cons h el_nil))) (fun _ _ h => rel_bind (rel_need _) (fun _ _ _ => ee_mk h)))
theorem rel_other (d : Nat) : RelP EE (other d) (other d) := fun _ _ _ => rel_ite (rel_one _ _) (rel_block d)
theorem rel_branch (d : Nat) : RelP EE (branch d) (branch d) := rel_bind (rel_need _) (fun _ _ _ => rel_bind (rel_expr d) (fun _ _ h => rel_bind (rel_block d) (fun _ _ g _ _ _ => rel_ite (show RelP EE ((other d).bind _) _ from rel_bind (rel_other d) (fun _ _ f => ee_mk (el_cons h (el_cons g (el_cons f el_nil))))) (ee_mk (el_cons h (el_cons g el_nil))))))
theorem rel_stmt (d : Nat) : RelP EE (stmt d) (stmt d) := fun _ _ _ => rel_ite (rel_one _ _) (rel_ite (rel_loop d) (rel_ite (rel_print d) (rel_ite (rel_giveBack d) (rel_simple d))))
theorem rel_unary (d : Nat) : RelP EE (unary d) (unary d) := fun _ _ _ => rel_ite (rel_postfix d) (rel_bind (rel_enter _ _) (fun _ _ _ => rel_bind (rel_one _ _) (fun _ _ h => ee_mk (el_cons h el_nil))))
theorem rel_binary (l d : Nat) : RelP EE (binary l d) (binary l d) := ⟨rfl, rfl, fun _ _ h => ⟨rfl, rfl, fun _ _ g => ee_fold _ _ _ _ g (ee_hd h)⟩⟩
theorem rel_single {p : Pr Tree} (h : RelP EE p p) : RelP EL (single p) (single p) := rel_bind h (fun _ _ g => el_cons g el_nil)
theorem ee_half {t : AT} {i i' : Nat} {r r' : Tree} (h : EE r r') : EE (half t i r) (half t i' r') := by
  unfold half; split
  · exact ee_mk (el_cons h el_nil)
  · split <;> exact ee_mk (el_cons h el_nil)
theorem rel_body (nt : NT) (d : Nat) : RelP EL (body nt d) (body nt d) := by
  cases nt with
  | decls => exact fun _ _ _ => rel_ite el_nil (rel_bind (rel_decl d) (fun _ _ h => ⟨rfl, rfl, fun _ _ g => el_cons h g⟩))
  | parts => exact fun _ _ _ => rel_ite el_nil (rel_bind (rel_named 5) (fun _ _ h => ⟨rfl, rfl, fun _ _ g => el_cons h g⟩))
  | params => exact fun _ _ _ => rel_ite (show RelP EL ((typed 5).bind _) _ from rel_bind (rel_typed 5) (fun _ _ h => ⟨rfl, rfl, fun _ _ g => el_cons h g⟩)) (rel_bind (rel_need _) (fun _ _ _ => el_nil))
  | stmts => exact fun _ _ _ => rel_ite el_nil ⟨rfl, rfl, fun _ _ h => ⟨rfl, rfl, fun _ _ g => el_cons (ee_hd h) g⟩⟩
  | stmt => exact rel_single (rel_stmt d)
  | branch => exact rel_single (rel_branch d)
  | binary l => exact rel_single (rel_binary l d)
  | tail l => exact fun _ _ _ => rel_ite el_nil ⟨rfl, rfl, fun _ _ h => ⟨rfl, rfl, fun _ _ g => el_cons (ee_half (ee_hd h)) g⟩⟩
  | unary => exact rel_single (rel_unary d)
  | fields => exact fun _ _ _ => rel_ite (rel_bind rel_fieldName (fun _ _ h => ⟨rfl, rfl, fun _ _ g => el_cons (ee_bare h) g⟩)) el_nil
  | args => exact fun _ _ _ => rel_ite (show RelP EL ((expr d).bind _) _ from rel_bind (rel_expr d) (fun _ _ h => ⟨rfl, rfl, fun _ _ g => el_cons h g⟩)) (rel_bind (rel_need _) (fun _ _ _ => el_nil))

/-- Answers that are the same but for places, s tokens later. -/
def RelR {α : Type} (E : α → α → Prop) (s : Nat) (r : Option (Res α)) (r' : Option (Res α)) : Prop := match r, r' with
  | none, none => True
  | some (.bad j e), some (.bad j' e') => j' = j + s ∧ e' = e
  | some (.ok a j), some (.ok a' j') => j' = j + s ∧ E a a'
  | _, _ => False
theorem rel_run {α : Type} {E : α → α → Prop} {T T' : Nat → AT} {s : Nat} (hT : ∀ k, T' (k + s) = T k) {c c' : Callee} (hc : ∀ nt d i, RelR EL s (c nt d i) (c' nt d (i + s))) : ∀ (p p' : Pr α) (i : Nat), RelP E p p' → RelR E s (runW T c p i) (runW T' c' p' (i + s))
  | .ret a, .ret b, i, h => ⟨rfl, h⟩
  | .fail e, .fail e', i, h => ⟨rfl, Eq.symm h⟩
  | .peek k, .peek k', i, h => by
    show RelR E s (runW T c (k i (T i)) i) (runW T' c' (k' (i + s) (T' (i + s))) (i + s))
    rw [hT i]
    exact rel_run hT hc _ _ i (h i (i + s) (T i))
  | .next p, .next p', i, h => by
    show RelR E s (runW T c p (i + 1)) (runW T' c' p' (i + s + 1))
    rw [show i + s + 1 = i + 1 + s by omega]
    exact rel_run hT hc p p' (i + 1) h
  | .call nt d k, .call nt' d' k', i, h => by
    obtain ⟨rfl, rfl, h⟩ := h
    have g := hc nt d i
    simp only [runW]
    cases h1 : c nt d i with
    | none =>
      cases h2 : c' nt d (i + s) with
      | none => trivial
      | some r => rw [h1, h2] at g; cases r <;> exact g.elim
    | some r =>
      cases h2 : c' nt d (i + s) with
      | none => rw [h1, h2] at g; cases r <;> exact g.elim
      | some r' =>
        rw [h1, h2] at g
        cases r with
        | bad j e => cases r' with
          | bad j' e' => exact g
          | ok a' j' => exact g.elim
        | ok a j => cases r' with
          | bad j' e' => exact g.elim
          | ok a' j' =>
            obtain ⟨rfl, g⟩ := g
            exact rel_run hT hc _ _ j (h a a' g)
theorem P_shift {T T' : Nat → AT} {s : Nat} (hT : ∀ k, T' (k + s) = T k) (n : Nat) : ∀ nt d i, RelR EL s (P T n nt d i) (P T' n nt d (i + s)) := by
  induction n with
  | zero => intro nt d i; trivial
  | succ n ih => intro nt d i; exact rel_run hT ih _ _ i (rel_body nt d)

end Go.Proofs.YtfbejfoalnhihaaGreatDoor

/-
  PLAIN: what is shown is read as the same tree, but for places, unless it is too deep: expressions. Nothing of the program stands here.
-/
namespace Go.Proofs.YtfbejfoalnhihaaGreatDoor
open Go.RowKit

/-- The tokens from i on are these texts. -/
def Rd (T : Nat → AT) (i : Nat) (xs : List Tx) : Prop := ∀ k x, xs[k]? = some x → T (i + k) = ⟨kd x, x⟩
theorem Rd.left {T : Nat → AT} {i : Nat} {a b : List Tx} (h : Rd T i (a ++ b)) : Rd T i a := fun k x hk => h k x (by rw [List.getElem?_append_left (List.getElem?_eq_some_iff.1 hk).1]; exact hk)
theorem Rd.right {T : Nat → AT} {i : Nat} {a b : List Tx} (h : Rd T i (a ++ b)) : Rd T (i + a.length) b := fun k x hk => by
  have := h (a.length + k) x (by rw [List.getElem?_append_right (by omega), Nat.add_sub_cancel_left]; exact hk)
  rwa [Nat.add_assoc]
theorem Rd.hd {T : Nat → AT} {i : Nat} {x : Tx} {r : List Tx} (h : Rd T i (x :: r)) : T i = ⟨kd x, x⟩ := h 0 x rfl
theorem Rd.tl {T : Nat → AT} {i : Nat} {x : Tx} {r : List Tx} (h : Rd T i (x :: r)) : Rd T (i + 1) r := fun k y hk => by
  have := h (k + 1) y hk
  rwa [show i + 1 + k = i + (k + 1) by omega]

/-- The answer is that something is too deep, or it is good. -/
def HdC {α : Type} (o : Option (Res α)) (Φ : α → Nat → Prop) : Prop := ∀ r, o = some r → (∃ j, r = .bad j 3) ∨ ∃ a j, r = .ok a j ∧ Φ a j
abbrev Hd {α : Type} (T : Nat → AT) (c : Callee) (Φ : α → Nat → Prop) (p : Pr α) (i : Nat) : Prop := HdC (runW T c p i) Φ
section
variable {T : Nat → AT} {c : Callee} {α β : Type} {Φ : α → Nat → Prop} {i : Nat}
theorem hd_ret {a : α} (h : Φ a i) : Hd T c Φ (.ret a) i := fun r e => by cases e; exact .inr ⟨_, _, rfl, h⟩
theorem hd_peek {k : Nat → AT → Pr α} {t : AT} (ht : T i = t) (h : Hd T c Φ (k i t) i) : Hd T c Φ (.peek k) i := by
  show HdC (runW T c (k i (T i)) i) Φ; rw [ht]; exact h
theorem hd_peek' {k : Nat → AT → Pr α} (h : Hd T c Φ (k i (T i)) i) : Hd T c Φ (.peek k) i := h
theorem hd_next {p : Pr α} (h : Hd T c Φ p (i + 1)) : Hd T c Φ (.next p) i := h
theorem hd_pos {q : Prop} [Decidable q] {p r : Pr α} (hq : q) (h : Hd T c Φ p i) : Hd T c Φ (if q then p else r) i := by rw [if_pos hq]; exact h
theorem hd_neg {q : Prop} [Decidable q] {p r : Pr α} (hq : ¬ q) (h : Hd T c Φ r i) : Hd T c Φ (if q then p else r) i := by rw [if_neg hq]; exact h
theorem hd_bind {Ψ : β → Nat → Prop} {p : Pr β} {f : β → Pr α} (h : Hd T c Ψ p i) (g : ∀ a j, Ψ a j → Hd T c Φ (f a) j) : Hd T c Φ (p.bind f) i := fun r e => by
  rw [runW_bind] at e
  cases hr : runW T c p i with
  | none => rw [hr] at e; cases e
  | some q =>
    rw [hr] at e
    rcases h q hr with ⟨j, rfl⟩ | ⟨a, j, rfl, ha⟩
    · cases e; exact .inl ⟨j, rfl⟩
    · exact g a j ha r e
theorem hd_call {nt : NT} {d : Nat} {k : List Tree → Pr α} {Ψ : List Tree → Nat → Prop} (h : HdC (c nt d i) Ψ) (g : ∀ ts j, Ψ ts j → Hd T c Φ (k ts) j) : Hd T c Φ (.call nt d k) i := fun r e => by
  simp only [runW] at e
  cases hr : c nt d i with
  | none => rw [hr] at e; cases e
  | some q =>
    rw [hr] at e
    rcases h q hr with ⟨j, rfl⟩ | ⟨a, j, rfl, ha⟩
    · cases e; exact .inl ⟨j, rfl⟩
    · exact g a j ha r e
theorem HdC.imp {o : Option (Res α)} {Ψ : α → Nat → Prop} (h : HdC o Φ) (g : ∀ a j, Φ a j → Ψ a j) : HdC o Ψ := fun r e => (h r e).imp id fun ⟨a, j, h1, h2⟩ => ⟨a, j, h1, g a j h2⟩
theorem hd_need {s : Tx} (h : (T i).text = s) : Hd T c (fun _ j => j = i + 1) (need s) i := hd_peek' (hd_pos h (hd_next (hd_ret rfl)))
theorem hd_word {s : Tx} (h : T i = ⟨1, s⟩) : Hd T c (fun p j => p.2 = s ∧ j = i + 1) word i := hd_peek h (hd_pos rfl (hd_next (hd_ret ⟨rfl, rfl⟩)))
theorem hd_enter {d : Nat} {s : Tx} (h : (T i).text = s) : Hd T c (fun _ j => j = i + 1) (enter d s) i := hd_peek' (hd_pos h (by
  by_cases hd : d = 40
  · rw [if_pos hd]; exact fun r e => .inl ⟨i, by cases e; rfl⟩
  · rw [if_neg hd]; exact hd_next (hd_ret rfl)))
end

/-- It ends an expression. -/
abbrev Stp (x : Tx) : Prop := x ≠ cDot ∧ x ≠ cLB
abbrev One (t : Tree) (i : Nat) (ts : List Tree) (j : Nat) : Prop := j = i + (showE t).length ∧ ∃ u, ts = [u] ∧ EE u t
def bare0 (s : Tx) : Tree := .mk 20 s [] 0 0 []
def dots (fs : List Tx) : List Tx := fs.flatMap fun s => [cDot, s]
/-- What stands within the brackets of an operation. -/
def inner (t : Tree) : List Tx :=
  if t.op = 23 then signL t.n :: kidE t 0 else if t.op = 24 then kidE t 0 ++ signL t.n :: kidE t 1 else if t.op = 25 then kidE t 0 ++ cAnd :: kidE t 1 else kidE t 0 ++ cOr :: kidE t 1

/-- What is known of those that are called. -/
structure IHE (W : Tx → Prop) (T : Nat → AT) (c : Callee) : Prop where
  un : ∀ t d i, Al W t → isE t → Rd T i (showE t) → Stp (T (i + (showE t).length)).text → HdC (c .unary d i) (One t i)
  bin : ∀ l t d i, 1 ≤ l → Al W t → isE t → Rd T i (showE t) → Stp (T (i + (showE t).length)).text → lvl (T (i + (showE t).length)).text < l → HdC (c (.binary l) d i) (One t i)
  inn : ∀ t d i, Al W t → 23 ≤ t.op → t.op ≤ 26 → Rd T i (inner t) → (T (i + (inner t).length)).text = cRB → HdC (c (.binary 1) d i) (fun ts j => j = i + (inner t).length ∧ ∃ u, ts = [u] ∧ EE u t)
  ux : ∀ t d i, Al W t → t.op = 23 → Rd T i (inner t) → (T (i + (inner t).length)).text = cRB → HdC (c .unary d i) (fun ts j => j = i + (inner t).length ∧ ∃ u, ts = [u] ∧ EE u t)
  tl0 : ∀ l d i, lvl (T i).text < l → HdC (c (.tail l) d i) (fun ts j => j = i ∧ ts = [])
  tl1 : ∀ l d i y, 1 ≤ l → l ≤ lvl (T i).text → Al W y → isE y → Rd T (i + 1) (showE y) → (T (i + 1 + (showE y).length)).text = cRB → HdC (c (.tail l) d i) (fun ts j => j = i + 1 + (showE y).length ∧ ∃ y', EE y' y ∧ ts = [half (T i) i y'])
  fl : ∀ fs d i, (∀ s ∈ fs, W s) → Rd T i (dots fs) → (T (i + (dots fs).length)).text ≠ cDot → HdC (c .fields d i) (fun ts j => j = i + (dots fs).length ∧ EL ts (fs.map bare0))
  ar : ∀ ks d i, (∀ u ∈ ks, Al W u ∧ isE u) → Rd T i ((ks.flatMap fun b => cComma :: showE b) ++ [cRB]) → HdC (c .args d i) (fun ts j => j = i + ((ks.flatMap fun b => cComma :: showE b).length + 1) ∧ EL ts ks)

theorem Al.loc {W : Tx → Prop} {t : Tree} (h : Al W t) : Loc W t := by cases h with | mk h hk => exact h
theorem Al.kid {W : Tx → Prop} {t u : Tree} (h : Al W t) (hu : u ∈ t.kids) : Al W u := by cases h with | mk h hk => exact hk u hu

theorem showE_mk (op : Nat) (s ty : Tx) (n : Int) (p : Nat) (ks : List Tree) : showE (.mk op s ty n p ks) = exprOf op s n (ks.map showE) := showE_eq _
/-- A chain of fields: what it begins with, and the names. -/
theorem fdec {W : Tx → Prop} (N : Nat) : ∀ t, sizeT t ≤ N → Al W t → isE t → ∃ b fs, Al W b ∧ isE b ∧ b.op ≠ 20 ∧ (∀ s ∈ fs, W s) ∧ showE t = showE b ++ dots fs ∧ EE ((fs.map bare0).foldl (fun a b => attach a b) b) t := by
  induction N with
  | zero => intro t h; have := sizeT_pos t; omega
  | succ N ih =>
    intro t hN ha he
    by_cases h20 : t.op = 20
    · have hl := ha.loc
      cases t with
      | mk op s ty n p ks =>
        have : op = 20 := h20
        subst this
        cases hl with
        | name ho => omega
        | var ho => omega
        | set ho => omega
        | binary ho => omega
        | @field _ _ x h hx =>
          obtain ⟨b, fs, h1, h2, h3, h4, h5, h6⟩ := ih x (by rw [sizeT_mk, sizeL_cons, sizeL_nil] at hN; omega) (ha.kid (List.mem_singleton.2 rfl)) hx
          refine ⟨b, fs ++ [s], h1, h2, h3, fun y hy => ?_, ?_, ?_⟩
          · rcases List.mem_append.1 hy with hy | hy
            · exact h4 y hy
            · rw [List.mem_singleton.1 hy]; exact h
          · rw [showE_mk]
            show showE x ++ [cDot, s] = _
            rw [h5, List.append_assoc]
            unfold dots
            rw [List.flatMap_append]; rfl
          · rw [List.map_append, List.foldl_append]
            show EE (attach _ (bare0 s)) _
            unfold bare0
            exact ee_mk (el_cons h6 el_nil)
    · exact ⟨t, [], ha, he, h20, (fun s hs => by cases hs), by simp [dots], rfl⟩

theorem kd_ne {s x : Tx} {k : Nat} (h : kd s = k) (hx : kd x ≠ k) : s ≠ x := fun e => hx (by rw [← e]; exact h)
/-- How an expression begins. -/
def FirstE (x : Tx) : Prop := kd x = 1 ∨ kd x = 3 ∨ x = kTrue ∨ x = kFalse ∨ x = kNil ∨ x = kNew ∨ x = kRead ∨ x = cLB
theorem first_b {W : Tx → Prop} (hW : ∀ s, W s → NW s) {t : Tree} (ha : Al W t) (he : isE t) (h20 : t.op ≠ 20) : ∃ x r, showE t = x :: r ∧ FirstE x := by
  have hl := ha.loc
  cases t with
  | mk op s ty n p ks =>
    rw [showE_mk]
    have he1 : 15 ≤ op := he.1
    have h201 : op ≠ 20 := h20
    cases hl with
    | num h0 h1 => exact ⟨_, _, rfl, .inr (.inl (text_tok n h0 h1).2.1)⟩
    | truth h => rcases h with rfl | rfl <;> exact ⟨_, _, rfl, by unfold FirstE; decide⟩
    | none => exact ⟨_, _, rfl, by unfold FirstE; decide⟩
    | name ho h => rcases ho with rfl | rfl
                   · exact ⟨_, _, rfl, .inl (hW _ h).kd⟩
                   · exact ⟨_, _, rfl, by unfold FirstE; decide⟩
    | field h hx => exact absurd rfl h201
    | call h hk => exact ⟨_, _, rfl, .inl (hW _ h).kd⟩
    | input => exact ⟨_, _, rfl, by unfold FirstE; decide⟩
    | unary hn hx => exact ⟨_, _, rfl, by unfold FirstE; decide⟩
    | binary ho hx hy =>
      rcases ho with ⟨rfl, -⟩ | ⟨rfl | rfl, -⟩ <;> exact ⟨_, _, rfl, by unfold FirstE; decide⟩
    | var ho => omega
    | set ho => omega
    | _ => omega
theorem first_e {W : Tx → Prop} (hW : ∀ s, W s → NW s) {t : Tree} (ha : Al W t) (he : isE t) : ∃ x r, showE t = x :: r ∧ FirstE x := by
  obtain ⟨b, fs, h1, h2, h3, -, h5, -⟩ := fdec _ t (Nat.le_refl _) ha he
  obtain ⟨x, r, h6, h7⟩ := first_b hW h1 h2 h3
  exact ⟨x, r ++ dots fs, by rw [h5, h6]; rfl, h7⟩

end Go.Proofs.YtfbejfoalnhihaaGreatDoor

/-
  PLAIN: what is shown is read as the same tree, but for places, unless it is too deep: expressions, by one step. Nothing of the program stands here.
-/
namespace Go.Proofs.YtfbejfoalnhihaaGreatDoor
open Go.RowKit

theorem first_un {x : Tx} (h : FirstE x) : findN x 17 2 = 0 := by
  have g : ∀ y, kd y = 4 → y ≠ cLB → y ≠ x := fun y hy hl e => by
    subst e
    rcases h with h | h | h | h | h | h | h | h
    · omega
    · omega
    all_goals first | exact hl h | (rw [h] at hy; exact absurd hy (by decide))
  rw [findN, if_neg (g _ (by decide) (by decide)), findN, if_neg (g _ (by decide) (by decide)), findN]
theorem first_ne {x y : Tx} (h : FirstE x) (h1 : kd y ≠ 1) (h3 : kd y ≠ 3) (hn : y ≠ kTrue ∧ y ≠ kFalse ∧ y ≠ kNil ∧ y ≠ kNew ∧ y ≠ kRead ∧ y ≠ cLB) : x ≠ y := fun e => by
  subst e
  obtain ⟨a, b, c, d, e, f⟩ := hn
  rcases h with h | h | h | h | h | h | h | h
  · exact h1 h
  · exact h3 h
  · exact a h
  · exact b h
  · exact c h
  · exact d h
  · exact e h
  · exact f h
theorem stp_of {x : Tx} (h : x = cComma ∨ x = cRB ∨ x = cSemi ∨ x = cLC) : Stp x ∧ lvl x < 1 := by
  rcases h with rfl | rfl | rfl | rfl <;> exact ⟨by decide, by decide⟩
theorem showE_br {W : Tx → Prop} {t : Tree} (ha : Al W t) (h1 : 23 ≤ t.op) (h2 : t.op ≤ 26) : showE t = cLB :: (inner t ++ [cRB]) := by
  have hl := ha.loc
  cases t with
  | mk op s ty n p ks =>
    have h11 : 23 ≤ op := h1
    have h22 : op ≤ 26 := h2
    rw [showE_mk]
    cases hl with
    | unary hn hx => rfl
    | @binary _ _ _ x y ho hx hy =>
      rcases ho with ⟨rfl, -⟩ | ⟨rfl | rfl, -⟩
      · show [cLB] ++ showE x ++ [signL n] ++ showE y ++ [cRB] = cLB :: ((showE x ++ signL n :: showE y) ++ [cRB]); simp
      · show [cLB] ++ showE x ++ [cAnd] ++ showE y ++ [cRB] = cLB :: ((showE x ++ cAnd :: showE y) ++ [cRB]); simp
      · show [cLB] ++ showE x ++ [cOr] ++ showE y ++ [cRB] = cLB :: ((showE x ++ cOr :: showE y) ++ [cRB]); simp
    | var ho => omega
    | set ho => omega
    | name ho => omega
    | _ => omega

section
variable {W : Tx → Prop} {T : Nat → AT} {c : Callee} (hW : ∀ s, W s → NW s) (H : IHE W T c)
include hW H
theorem rd_expr {t : Tree} {d i : Nat} (ha : Al W t) (he : isE t) (h : Rd T i (showE t)) (hs : Stp (T (i + (showE t).length)).text ∧ lvl (T (i + (showE t).length)).text < 1) : Hd T c (fun u j => j = i + (showE t).length ∧ EE u t) (expr d) i :=
  have _ := hW
  hd_call (H.bin 1 t d i (Nat.le_refl _) ha he h hs.1 hs.2) fun ts j ⟨hj, u, hu, he⟩ => hd_ret ⟨hj, by rw [hu]; exact he⟩
theorem commaF_cons (k : Tree) (ks : List Tree) : commaF ((k :: ks).map showE) = showE k ++ ks.flatMap fun b => cComma :: showE b := by
  have _ := hW
  have _ := H
  show showE k ++ (ks.map showE).flatMap _ = _
  rw [List.flatMap_map]
theorem rd_args {ks : List Tree} {d i : Nat} (hk : ∀ u ∈ ks, Al W u ∧ isE u) (h : Rd T i ([cLB] ++ commaF (ks.map showE) ++ [cRB])) : Hd T c (fun ts j => j = i + ((commaF (ks.map showE)).length + 2) ∧ EL ts ks) (args d) i := by
  have h1 : Rd T i (cLB :: (commaF (ks.map showE) ++ [cRB])) := h
  refine hd_bind (hd_enter (by rw [h1.hd])) fun _ j hj => ?_
  subst hj
  cases ks with
  | nil =>
    have h2 : Rd T (i + 1) [cRB] := h1.tl
    exact hd_peek h2.hd (hd_pos rfl (hd_bind (hd_need (by rw [h2.hd])) fun _ j hj => hd_ret ⟨by rw [hj]; rfl, rfl⟩))
  | cons k ks =>
    rw [commaF_cons hW H, List.append_assoc] at h1
    rw [commaF_cons hW H]
    obtain ⟨x, r, hx, hf⟩ := first_e hW (hk k (List.mem_cons_self ..)).1 (hk k (List.mem_cons_self ..)).2
    have h2 := h1.tl
    have hx1 : T (i + 1) = ⟨kd x, x⟩ := by have := h2.left; rw [hx] at this; exact this.hd
    have h3 := h2.right
    have hnx : (T (i + 1 + (showE k).length)).text = cComma ∨ (T (i + 1 + (showE k).length)).text = cRB := by
      cases ks with
      | nil => right; rw [show T (i + 1 + (showE k).length) = _ from Rd.hd (r := []) h3]
      | cons a b => left; rw [show T (i + 1 + (showE k).length) = _ from Rd.hd h3]
    refine hd_peek hx1 (hd_neg (first_ne hf (by decide) (by decide) (by decide)) ?_)
    refine hd_bind (rd_expr hW H (hk k (List.mem_cons_self ..)).1 (hk k (List.mem_cons_self ..)).2 h2.left (stp_of (by rcases hnx with e | e; exact .inl e; exact .inr (.inl e)))) fun u j hu => ?_
    obtain ⟨rfl, hu⟩ := hu
    refine hd_call (H.ar ks _ _ (fun u hu => hk u (List.mem_cons_of_mem _ hu)) h3) fun ts j ⟨hj, he⟩ => hd_ret ⟨?_, el_cons hu he⟩
    rw [hj, List.length_append]; omega
theorem rd_primary {b : Tree} {d i : Nat} (ha : Al W b) (he : isE b) (h20 : b.op ≠ 20) (h : Rd T i (showE b)) (hn : b.op = 18 → (T (i + (showE b).length)).text ≠ cLB) : Hd T c (fun u j => j = i + (showE b).length ∧ EE u b) (primary d) i := by
  by_cases hbr : 23 ≤ b.op
  · have e := showE_br ha hbr he.2
    rw [e] at h
    have h2 := h.tl
    refine hd_peek h.hd (hd_neg (by decide) (hd_neg (by decide) (hd_neg (by decide) (hd_neg (by decide) (hd_neg (by decide) (hd_neg (by decide) (hd_neg (by decide) (hd_pos rfl ?_))))))))
    refine hd_bind (hd_enter (by rw [h.hd])) fun _ j hj => ?_
    subst hj
    have h3 := h2.right
    refine hd_bind (Ψ := fun u j => j = i + 1 + (inner b).length ∧ EE u b) (hd_call (H.inn b _ _ ha hbr he.2 h2.left (by rw [h3.hd])) fun ts j ⟨hj, u, hu, hv⟩ => hd_ret ⟨hj, by rw [hu]; exact hv⟩) fun u j hu => ?_
    obtain ⟨rfl, hu⟩ := hu
    refine hd_bind (hd_need (by rw [h3.hd])) fun _ j hj => hd_ret ⟨?_, hu⟩
    rw [hj, e, List.length_cons, List.length_append]; show _ = _ + (_ + 1 + 1); omega
  · have hl := ha.loc
    cases b with
    | mk op s ty n p ks =>
      have he1 : 15 ≤ op := he.1
      have h201 : op ≠ 20 := h20
      have hb1 : ¬ 23 ≤ op := hbr
      rw [showE_mk] at h hn ⊢
      cases hl with
      | num h0 h1 =>
        have hT : T i = ⟨3, textN n⟩ := by have := h.hd; rw [(text_tok n h0 h1).2.1] at this; exact this
        refine hd_peek hT (hd_pos rfl (hd_next (hd_ret ⟨rfl, ?_⟩)))
        rw [text_num n h0]; exact ee_mk el_nil
      | truth hv =>
        rcases hv with rfl | rfl
        · exact hd_peek h.hd (hd_neg (by decide) (hd_neg (by decide) (hd_neg (by decide) (hd_pos rfl (hd_next (hd_ret ⟨rfl, ee_mk el_nil⟩))))))
        · exact hd_peek h.hd (hd_neg (by decide) (hd_neg (by decide) (hd_pos rfl (hd_next (hd_ret ⟨rfl, ee_mk el_nil⟩)))))
      | none => exact hd_peek h.hd (hd_neg (by decide) (hd_neg (by decide) (hd_neg (by decide) (hd_neg (by decide) (hd_pos rfl (hd_next (hd_ret ⟨rfl, ee_mk el_nil⟩)))))))
      | name ho hs =>
        rcases ho with rfl | rfl
        · have hT : T i = ⟨1, s⟩ := by have := h.hd; rw [(hW _ hs).kd] at this; exact this
          have hq : (T (i + 1)).text ≠ cLB := hn rfl
          refine hd_peek hT (hd_neg (show ¬ (1 : Nat) = 3 by decide) (hd_pos rfl ?_))
          refine hd_bind (hd_word hT) fun q j hq2 => ?_
          obtain ⟨e1, rfl⟩ := hq2
          refine hd_peek' (hd_neg hq (hd_ret ⟨rfl, ?_⟩))
          rw [e1]; exact ee_mk el_nil
        · have h1 : Rd T i [kNew, cLB, s, cRB] := h
          refine hd_peek h1.hd (hd_neg (by decide) (hd_neg (by decide) (hd_neg (by decide) (hd_neg (by decide) (hd_neg (by decide) (hd_pos rfl ?_))))))
          refine hd_bind (hd_need (by rw [h1.hd])) fun _ j hj => ?_
          subst hj
          refine hd_bind (hd_need (by rw [h1.tl.hd])) fun _ j hj => ?_
          subst hj
          have hT : T (i + 1 + 1) = ⟨1, s⟩ := by have := h1.tl.tl.hd; rw [(hW _ hs).kd] at this; exact this
          refine hd_bind (hd_word hT) fun q j hq2 => ?_
          obtain ⟨e1, rfl⟩ := hq2
          refine hd_bind (hd_need (by rw [h1.tl.tl.tl.hd])) fun _ j hj => hd_ret ⟨hj, ?_⟩
          rw [e1]; exact ee_mk el_nil
      | field hs hx => exact absurd rfl h201
      | call hs hk =>
        have h1 : Rd T i (s :: ([cLB] ++ commaF (ks.map showE) ++ [cRB])) := h
        have hT : T i = ⟨1, s⟩ := by have := h1.hd; rw [(hW _ hs).kd] at this; exact this
        refine hd_peek hT (hd_neg (show ¬ (1 : Nat) = 3 by decide) (hd_pos rfl ?_))
        refine hd_bind (hd_word hT) fun q j hq2 => ?_
        obtain ⟨e1, rfl⟩ := hq2
        have h2 := h1.tl
        have h3 : Rd T (i + 1) (cLB :: (commaF (ks.map showE) ++ [cRB])) := h2
        refine hd_peek h3.hd (hd_pos rfl ?_)
        refine hd_bind (rd_args hW H (fun u hu => ⟨ha.kid hu, hk u hu⟩) h2) fun ts j ⟨hj, he⟩ => hd_ret ⟨?_, ?_⟩
        · have hj : j = i + 1 + ((commaF (ks.map showE)).length + 2) := hj
          rw [hj]
          show _ = i + (s :: ([cLB] ++ commaF (ks.map showE) ++ [cRB])).length
          simp; omega
        · rw [e1]; exact ee_mk he
      | input =>
        have h1 : Rd T i [kRead, cLB, cRB] := h
        refine hd_peek h1.hd (hd_neg (by decide) (hd_neg (by decide) (hd_neg (by decide) (hd_neg (by decide) (hd_neg (by decide) (hd_neg (by decide) (hd_pos rfl ?_)))))))
        refine hd_bind (hd_need (by rw [h1.hd])) fun _ j hj => ?_
        subst hj
        refine hd_bind (hd_need (by rw [h1.tl.hd])) fun _ j hj => ?_
        subst hj
        exact hd_bind (hd_need (by rw [h1.tl.tl.hd])) fun _ j hj => hd_ret ⟨hj, ee_mk el_nil⟩
      | unary hv hx => omega
      | binary ho => omega
      | var ho => omega
      | set ho => omega
      | _ => omega
theorem rd_postfix {t : Tree} {d i : Nat} (ha : Al W t) (he : isE t) (h : Rd T i (showE t)) (hs : Stp (T (i + (showE t).length)).text) : Hd T c (fun u j => j = i + (showE t).length ∧ EE u t) (postfix_ d) i := by
  obtain ⟨b, fs, h1, h2, h3, h4, h5, h6⟩ := fdec _ t (Nat.le_refl _) ha he
  rw [h5] at h hs ⊢
  rw [List.length_append, ← Nat.add_assoc] at hs ⊢
  refine hd_bind (rd_primary hW H h1 h2 h3 h.left ?_) fun u j hu => ?_
  · intro _
    cases fs with
    | nil => exact hs.2
    | cons s fs => rw [show T (i + (showE b).length) = _ from Rd.hd h.right]; decide
  · obtain ⟨rfl, hu⟩ := hu
    exact hd_call (H.fl fs d _ h4 h.right hs.1) fun ts j ⟨hj, he⟩ => hd_ret ⟨hj, (ee_fold _ _ _ _ he hu).trans h6⟩
theorem rd_unary {t : Tree} {d i : Nat} (ha : Al W t) (he : isE t) (h : Rd T i (showE t)) (hs : Stp (T (i + (showE t).length)).text) : Hd T c (fun u j => j = i + (showE t).length ∧ EE u t) (unary d) i := by
  obtain ⟨x, r, hx, hf⟩ := first_e hW ha he
  have hT : T i = ⟨kd x, x⟩ := by have := h; rw [hx] at this; exact this.hd
  exact hd_peek hT (hd_pos (first_un hf) (rd_postfix hW H ha he h hs))
theorem rd_ux {t : Tree} {d i : Nat} (ha : Al W t) (ho : t.op = 23) (h : Rd T i (inner t)) (hs : (T (i + (inner t).length)).text = cRB) : Hd T c (fun u j => j = i + (inner t).length ∧ EE u t) (unary d) i := by
  have _ := hW
  have hl := ha.loc
  cases t with
  | mk op s ty n p ks =>
    have : op = 23 := ho
    subst this
    cases hl with
    | @unary _ _ x hn hx =>
      have h1 : Rd T i (signL n :: showE x) := h
      have hs1 : (T (i + 1 + (showE x).length)).text = cRB := by rw [show i + 1 + (showE x).length = i + ((showE x).length + 1) by omega]; exact hs
      refine hd_peek h1.hd (hd_neg (by show ¬ findN (signL n) 17 2 = 0; rw [sign_un n hn]; rcases hn with rfl | rfl <;> omega) ?_)
      refine hd_bind (hd_enter (by rw [h1.hd])) fun _ j hj => ?_
      subst hj
      refine hd_bind (Ψ := fun u j => j = i + 1 + (showE x).length ∧ EE u x) (hd_call (H.un x _ _ (ha.kid (List.mem_singleton.2 rfl)) hx h1.tl (by rw [hs1]; decide)) fun ts j ⟨hj, u, hu, hv⟩ => hd_ret ⟨hj, by rw [hu]; exact hv⟩) fun u j hu => ?_
      obtain ⟨rfl, hu⟩ := hu
      refine hd_ret ⟨?_, ?_⟩
      · show _ = i + ((showE x).length + 1); omega
      · show EE (.mk 23 [] [] (findN (signL n) 17 2) i [u]) _
        rw [sign_un n hn]
        exact ee_mk (el_cons hu el_nil)
    | name ho => omega
    | var ho => omega
    | set ho => omega
    | binary ho => omega
end

theorem hd_step {T : Nat → AT} {n d i : Nat} {nt : NT} {Φ : List Tree → Nat → Prop} (h : Hd T (P T n) Φ (body nt d) i) : HdC (P T (n + 1) nt d i) Φ := h
theorem step_e {W : Tx → Prop} {T : Nat → AT} (hW : ∀ s, W s → NW s) (n : Nat) (H : IHE W T (P T n)) : IHE W T (P T (n + 1)) where
  un t d i ha he h hs := hd_step <| hd_bind (rd_unary hW H ha he h hs) fun u j hu => hd_ret ⟨hu.1, u, rfl, hu.2⟩
  bin l t d i hl ha he h hs hlv := by
    refine hd_bind (Ψ := fun u j => j = i + (showE t).length ∧ EE u t) (hd_call (H.un t d i ha he h hs) fun xs j hx => ?_) fun u j hu => hd_ret ⟨hu.1, u, rfl, hu.2⟩
    obtain ⟨rfl, u, rfl, hu⟩ := hx
    exact hd_call (H.tl0 l d _ hlv) fun ts j ⟨hj, he⟩ => hd_ret ⟨hj, by rw [he]; exact hu⟩
  inn t d i ha h1 h2 h hs := by
    refine hd_bind (Ψ := fun u j => j = i + (inner t).length ∧ EE u t) ?_ fun u j hu => hd_ret ⟨hu.1, u, rfl, hu.2⟩
    by_cases h23 : t.op = 23
    · refine hd_call (H.ux t d i ha h23 h hs) fun xs j hx => ?_
      obtain ⟨rfl, u, rfl, hu⟩ := hx
      exact hd_call (H.tl0 1 d _ (by rw [hs]; decide)) fun ts j ⟨hj, he⟩ => hd_ret ⟨hj, by rw [he]; exact hu⟩
    · have hl := ha.loc
      cases t with
      | mk op s ty n p ks =>
        have g1 : 23 ≤ op := h1
        have g2 : op ≤ 26 := h2
        have g3 : ¬ op = 23 := h23
        cases hl with
        | @binary _ _ _ x y ho hx hy =>
          obtain ⟨sg, hin, hlv, hst, hhf⟩ : ∃ sg, inner (.mk op [] [] n p [x, y]) = showE x ++ sg :: showE y ∧ 1 ≤ lvl sg ∧ Stp sg ∧ ∀ k i r l, EE (attach l (half ⟨k, sg⟩ i r)) (.mk op [] [] n p [l, r]) := by
            rcases ho with ⟨rfl, hn1, hn2⟩ | ⟨rfl | rfl, rfl⟩
            · obtain ⟨f1, f2, f3, f4, f5, f6, -⟩ := sign_bin n hn1 hn2
              refine ⟨signL n, rfl, by omega, ⟨f5, f6⟩, fun k i r l => ?_⟩
              show EE (attach l (if signL n = cOr then _ else if signL n = cAnd then _ else _)) _
              rw [if_neg f3, if_neg f4, f1]
              exact ee_mk rfl
            · exact ⟨cAnd, rfl, by decide, by decide, fun k i r l => ee_mk rfl⟩
            · exact ⟨cOr, rfl, by decide, by decide, fun k i r l => ee_mk rfl⟩
          rw [hin] at h hs ⊢
          have hr := h.right
          have hx1 := ha.kid (u := x) (List.mem_cons_self ..)
          have hy1 := ha.kid (u := y) (List.mem_cons_of_mem _ (List.mem_singleton.2 rfl))
          have hT := hr.hd
          refine hd_call (H.un x d i hx1 hx h.left (by rw [hT]; exact hst)) fun xs j hxs => ?_
          obtain ⟨rfl, u, rfl, hu⟩ := hxs
          have hs1 : (T (i + (showE x).length + 1 + (showE y).length)).text = cRB := by
            rw [List.length_append, List.length_cons] at hs
            rw [← hs]; congr 2; omega
          refine hd_call (H.tl1 1 d _ y (Nat.le_refl _) (by rw [hT]; exact hlv) hy1 hy hr.tl hs1) fun ts j ⟨hj, y', hy', hts⟩ => hd_ret ⟨?_, ?_⟩
          · rw [hj, List.length_append, List.length_cons]; omega
          · rw [hts, hT]
            show EE (attach u (half _ _ y')) _
            exact (hhf _ _ _ _).trans (ee_mk (el_cons hu (el_cons hy' el_nil)))
        | unary hn hx => exact absurd rfl g3
        | name ho => omega
        | var ho => omega
        | set ho => omega
        | _ => omega
  ux t d i ha ho h hs := hd_bind (rd_ux hW H ha ho h hs) fun u j hu => hd_ret ⟨hu.1, u, rfl, hu.2⟩
  tl0 l d i h := hd_step <| hd_peek' (hd_pos h (hd_ret ⟨rfl, rfl⟩))
  tl1 l d i y hl hlv ha he h hs := by
    refine hd_step (hd_peek' (hd_neg (by omega) (hd_next ?_)))
    refine hd_call (H.bin _ y d _ (Nat.succ_le_succ (Nat.zero_le _)) ha he h (by rw [hs]; decide) (by rw [hs]; exact Nat.succ_pos _)) fun xs j hx => ?_
    obtain ⟨rfl, u, rfl, hu⟩ := hx
    exact hd_call (H.tl0 l d _ (by rw [hs]; exact hl)) fun ts j ⟨hj, he⟩ => hd_ret ⟨hj, u, hu, by rw [he]; rfl⟩
  fl fs d i hf h hs := by
    cases fs with
    | nil => exact hd_step (hd_peek' (hd_neg hs (hd_ret ⟨rfl, rfl⟩)))
    | cons s fs =>
      have h1 : Rd T i (cDot :: s :: dots fs) := h
      refine hd_step (hd_peek h1.hd (hd_pos rfl ?_))
      have hT : T (i + 1) = ⟨1, s⟩ := by have := h1.tl.hd; rw [(hW _ (hf s (List.mem_cons_self ..))).kd] at this; exact this
      refine hd_bind (Ψ := fun p j => p.2 = s ∧ j = i + 1 + 1) (hd_bind (hd_need (by rw [h1.hd])) fun _ j hj => by subst hj; exact hd_word hT) fun p j hp => ?_
      obtain ⟨e1, rfl⟩ := hp
      have hlen : (dots (s :: fs)).length = (dots fs).length + 2 := by show (cDot :: s :: dots fs).length = _; simp
      refine hd_call (H.fl fs d _ (fun y hy => hf y (List.mem_cons_of_mem _ hy)) h1.tl.tl (by rw [hlen] at hs; rw [show i + 1 + 1 + (dots fs).length = i + ((dots fs).length + 2) by omega]; exact hs)) fun ts j ⟨hj, he⟩ => hd_ret ⟨by rw [hj, hlen]; omega, ?_⟩
      exact el_cons (by unfold bare bare0; rw [e1]; exact ee_mk el_nil) he
  ar ks d i hk h := by
    cases ks with
    | nil =>
      have h1 : Rd T i [cRB] := h
      exact hd_step (hd_peek h1.hd (hd_neg (by decide) (hd_bind (hd_need (by rw [h1.hd])) fun _ j hj => hd_ret ⟨by rw [hj]; rfl, rfl⟩)))
    | cons k ks =>
      have h1 : Rd T i (cComma :: (showE k ++ ((ks.flatMap fun b => cComma :: showE b) ++ [cRB]))) := by
        have h0 : Rd T i ((cComma :: showE k ++ ks.flatMap fun b => cComma :: showE b) ++ [cRB]) := h
        rw [List.append_assoc] at h0; exact h0
      have h2 := h1.tl
      have h3 := h2.right
      have hnx : (T (i + 1 + (showE k).length)).text = cComma ∨ (T (i + 1 + (showE k).length)).text = cRB := by
        cases ks with
        | nil => right; rw [show T (i + 1 + (showE k).length) = _ from Rd.hd (r := []) h3]
        | cons a b => left; rw [show T (i + 1 + (showE k).length) = _ from Rd.hd h3]
      refine hd_step (hd_peek h1.hd (hd_pos rfl (hd_next ?_)))
      refine hd_bind (rd_expr hW H (hk k (List.mem_cons_self ..)).1 (hk k (List.mem_cons_self ..)).2 h2.left (stp_of (by rcases hnx with e | e; exact .inl e; exact .inr (.inl e)))) fun u j hu => ?_
      obtain ⟨rfl, hu⟩ := hu
      refine hd_call (H.ar ks _ _ (fun u hu => hk u (List.mem_cons_of_mem _ hu)) h3) fun ts j ⟨hj, he⟩ => hd_ret ⟨?_, el_cons hu he⟩
      rw [hj, List.flatMap_cons, List.length_append, List.length_cons]; omega
theorem base_e {W : Tx → Prop} {T : Nat → AT} : IHE W T (P T 0) := by
  constructor <;> intros <;> intro r e <;> cases e
theorem all_e {W : Tx → Prop} {T : Nat → AT} (hW : ∀ s, W s → NW s) (n : Nat) : IHE W T (P T n) := by
  induction n with
  | zero => exact base_e
  | succ n ih => exact step_e hW n ih

end Go.Proofs.YtfbejfoalnhihaaGreatDoor
