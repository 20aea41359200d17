/-
  PLAIN: trees that are the same but for places; what is read of the same tokens at another place is the same but for places. Nothing of the program stands here. No condition.
-/
import Derived.Test.YtfbejfoalnhihaaGreatDoorJ1
import Derived.Test.YtfbejfoalnhihaaGreatDoorJ5
import Derived.Test.YtfbejfoalnhihaaGreatDoorJ9
namespace Go.Proofs.YtfbejfoalnhihaaGreatDoor
open Go.RowKit

mutual
def er : Tree → Tree
  | .mk o s ty n _ ks => .mk o s ty n 0 (erL ks)
def erL : List Tree → List Tree
  | [] => []
  | t :: r => er t :: erL r
end
theorem erL_map (ks : List Tree) : erL ks = ks.map er := by
  induction ks with
  | nil => rfl
  | cons t r ih => rw [erL, ih]; rfl
theorem er_mk (o : Nat) (s ty : List UInt8) (n : Int) (p : Nat) (ks : List Tree) : er (.mk o s ty n p ks) = .mk o s ty n 0 (ks.map er) := by rw [er, erL_map]
theorem er_parts {a b : Tree} (h : er a = er b) : a.op = b.op ∧ a.name = b.name ∧ a.typ = b.typ ∧ a.n = b.n ∧ a.kids.map er = b.kids.map er := by
  cases a; cases b
  simp only [er_mk, Tree.mk.injEq] at h
  exact ⟨h.1, h.2.1, h.2.2.1, h.2.2.2.1, h.2.2.2.2.2⟩
theorem er_kid {l r : List Tree} (h : l.map er = r.map er) {k : Nat} {u : Tree} (hu : l[k]? = some u) : ∃ v, r[k]? = some v ∧ er u = er v := by
  have h1 := congrArg (fun l => l[k]?) h
  simp only [List.getElem?_map, hu, Option.map_some] at h1
  obtain ⟨v, h2, h3⟩ := Option.map_eq_some_iff.1 h1.symm
  exact ⟨v, h2, h3.symm⟩
abbrev EE (a b : Tree) : Prop := er a = er b
abbrev EL (a b : List Tree) : Prop := a.map er = b.map er
theorem ee_mk {o : Nat} {s ty : List UInt8} {n : Int} {p q : Nat} {ks ks' : List Tree} (h : EL ks ks') : EE (.mk o s ty n p ks) (.mk o s ty n q ks') := by
  show er _ = er _; rw [er_mk, er_mk]; rw [show ks.map er = ks'.map er from h]
theorem el_nil : EL [] [] := rfl
theorem el_cons {a b : Tree} {l r : List Tree} (h : EE a b) (g : EL l r) : EL (a :: l) (b :: r) := by
  show _ :: _ = _ :: _; rw [show er a = er b from h, show l.map er = r.map er from g]
theorem el_app {a b l r : List Tree} (h : EL a b) (g : EL l r) : EL (a ++ l) (b ++ r) := by
  show List.map _ _ = List.map _ _; rw [List.map_append, List.map_append, show a.map er = b.map er from h, show l.map er = r.map er from g]
theorem ee_hd {l r : List Tree} (h : EL l r) : EE (hd l) (hd r) := by
  cases l with
  | nil => cases r with
    | nil => rfl
    | cons b r => cases h
  | cons a l => cases r with
    | nil => cases h
    | cons b r => exact (List.cons.inj h).1
theorem ee_attach {a b x y : Tree} (h : EE a b) (g : EE x y) : EE (attach a x) (attach b y) := by
  obtain ⟨h1, h2, h3, h4, h5⟩ := er_parts g
  cases x; cases y
  simp only [Tree.op, Tree.name, Tree.typ, Tree.n, Tree.kids] at h1 h2 h3 h4 h5
  subst h1 h2 h3 h4
  exact ee_mk (el_cons h h5)
theorem ee_fold : ∀ (l r : List Tree) (a b : Tree), EL l r → EE a b → EE (l.foldl (fun a b => attach a b) a) (r.foldl (fun a b => attach a b) b)
  | [], [], a, b, _, g => g
  | [], _ :: _, _, _, h, _ => by cases h
  | _ :: _, [], _, _, h, _ => by cases h
  | x :: l, y :: r, a, b, h, g => ee_fold l r _ _ (List.cons.inj h).2 (ee_attach g (List.cons.inj h).1)
theorem ee_put : ∀ (l r : List Tree) (h h' f f' v v' : Tree), EL l r → EE h h' → EE f f' → EE v v' → EE (putT h f l v) (putT h' f' r v')
  | [], [], h, h', f, f', v, v', _, g1, g2, g3 => by
    unfold putT
    rw [(er_parts g2).2.1]
    exact ee_mk (el_cons g1 (el_cons g3 el_nil))
  | [], _ :: _, _, _, _, _, _, _, h, _, _, _ => by cases h
  | _ :: _, [], _, _, _, _, _, _, h, _, _, _ => by cases h
  | x :: l, y :: r, h, h', f, f', v, v', g0, g1, g2, g3 => by
    unfold putT
    exact ee_put l r _ _ _ _ _ _ (List.cons.inj g0).2 (ee_attach g1 g2) (List.cons.inj g0).1 g3

/-- Two readers that go the same way, whatever the places. -/
def RelP {α : Type} (E : α → α → Prop) : Pr α → Pr α → Prop
  | .ret a, .ret b => E a b
  | .fail e, .fail e' => e = e'
  | .peek k, .peek k' => ∀ i i' t, RelP E (k i t) (k' i' t)
  | .next p, .next p' => RelP E p p'
  | .call nt d k, .call nt' d' k' => nt = nt' ∧ d = d' ∧ ∀ ts ts', EL ts ts' → RelP E (k ts) (k' ts')
  | _, _ => False
theorem rel_bind0 {α β : Type} {E : α → α → Prop} {F : β → β → Prop} {f f' : α → Pr β} (g : ∀ a a', E a a' → RelP F (f a) (f' a')) : ∀ (p p' : Pr α), RelP E p p' → RelP F (p.bind f) (p'.bind f')
  | .ret a, .ret b, h => g a b h
  | .fail _, .fail _, h => h
  | .peek _, .peek _, h => fun i i' t => rel_bind0 g _ _ (h i i' t)
  | .next p, .next p', h => rel_bind0 g p p' h
  | .call _ _ _, .call _ _ _, h => ⟨h.1, h.2.1, fun ts ts' e => rel_bind0 g _ _ (h.2.2 ts ts' e)⟩
theorem rel_bind {α β : Type} {E : α → α → Prop} {F : β → β → Prop} {p p' : Pr α} {f f' : α → Pr β} (h : RelP E p p') (g : ∀ a a', E a a' → RelP F (f a) (f' a')) : RelP F (p.bind f) (p'.bind f') := rel_bind0 g p p' h
theorem rel_ite {α : Type} {E : α → α → Prop} {q : Prop} [Decidable q] {p p' r r' : Pr α} (h : RelP E p p') (g : RelP E r r') : RelP E (if q then p else r) (if q then p' else r') := by
  split <;> assumption
theorem rel_ite2 {α : Type} {E : α → α → Prop} {q q' : Prop} [Decidable q] [Decidable q'] {p p' r r' : Pr α} (e : q ↔ q') (h : RelP E p p') (g : RelP E r r') : RelP E (if q then p else r) (if q' then p' else r') := by
  by_cases hq : q
  · rw [if_pos hq, if_pos (e.1 hq)]; exact h
  · rw [if_neg hq, if_neg (fun h => hq (e.2 h))]; exact g
abbrev AnyE {α : Type} : α → α → Prop := fun _ _ => True
abbrev SndE (a b : Nat × List UInt8) : Prop := a.2 = b.2
theorem rel_need (s : List UInt8) : RelP AnyE (need s) (need s) := fun _ _ _ => rel_ite trivial rfl
theorem rel_word : RelP SndE word word := fun _ _ _ => rel_ite rfl rfl
theorem rel_enter (d : Nat) (s : List UInt8) : RelP AnyE (enter d s) (enter d s) := fun _ _ _ => rel_ite (rel_ite rfl trivial) rfl
theorem rel_typ : RelP Eq typ typ := fun _ _ _ => rel_ite rfl (rel_ite rfl (rel_bind (rel_need _) (fun _ _ _ => rel_bind rel_word (fun a a' h => by show _ :: _ = _ :: _; rw [show a.2 = a'.2 from h]))))
theorem rel_typed (op : Nat) : RelP EE (typed op) (typed op) := rel_bind rel_word (fun a a' h => rel_bind rel_typ (fun t t' e => by subst e; show EE _ _; rw [show a.2 = a'.2 from h]; exact ee_mk el_nil))
theorem rel_named (op : Nat) : RelP EE (named op) (named op) := rel_bind (rel_typed op) (fun _ _ h => rel_bind (rel_need _) (fun _ _ _ => h))
theorem rel_one (nt : NT) (d : Nat) : RelP EE (one nt d) (one nt d) := ⟨rfl, rfl, fun _ _ h => ee_hd h⟩
theorem rel_expr (d : Nat) : RelP EE (expr d) (expr d) := rel_one _ _
theorem rel_block (d : Nat) : RelP EE (block d) (block d) := rel_bind (rel_enter _ _) (fun _ _ _ => ⟨rfl, rfl, fun _ _ h => ee_mk h⟩)
theorem rel_struct : RelP EE structure_ structure_ := rel_bind rel_word (fun a a' e => rel_bind (rel_need _) (fun _ _ _ => rel_bind (rel_need _) (fun _ _ _ => ⟨rfl, rfl, fun _ _ h => by show EE _ _; rw [show a.2 = a'.2 from e]; exact ee_mk h⟩)))
theorem rel_fparts : RelP EL fparts fparts := rel_bind (rel_need _) (fun _ _ _ _ _ _ => rel_ite el_nil (rel_bind (rel_typed 5) (fun _ _ h => ⟨rfl, rfl, fun _ _ g => el_cons h g⟩)))
theorem rel_function (d : Nat) : RelP EE (function d) (function d) := rel_bind rel_word (fun a a' e => rel_bind rel_fparts (fun _ _ h => rel_bind (E := Eq) (fun _ _ _ => rel_ite rfl rel_typ) (fun t t' e2 => rel_bind (rel_block d) (fun _ _ g => by subst e2; show EE _ _; rw [show a.2 = a'.2 from e]; exact ee_mk (el_app h (el_cons g el_nil))))))
theorem rel_decl (d : Nat) : RelP EE (decl d) (decl d) := fun _ _ _ => rel_ite rel_struct (rel_ite (rel_named 3) (rel_ite (rel_function d) rfl))
theorem rel_args (d : Nat) : RelP EL (args d) (args d) := rel_bind (rel_enter _ _) (fun _ _ _ _ _ _ => rel_ite (rel_bind (rel_need _) (fun _ _ _ => el_nil)) (rel_bind (rel_expr _) (fun _ _ h => ⟨rfl, rfl, fun _ _ g => el_cons h g⟩)))
theorem rel_brack (d : Nat) : RelP EE (brack d) (brack d) := rel_bind (rel_enter _ _) (fun _ _ _ => rel_bind (rel_expr _) (fun _ _ h => rel_bind (rel_need _) (fun _ _ _ => h)))
theorem rel_varOrCall (d : Nat) : RelP EE (varOrCall d) (varOrCall d) := rel_bind rel_word (fun a a' e _ _ _ => rel_ite (rel_bind (rel_args d) (fun _ _ h => by show EE _ _; rw [show a.2 = a'.2 from e]; exact ee_mk h)) (by show EE _ _; rw [show a.2 = a'.2 from e]; exact ee_mk el_nil))
theorem rel_creation : RelP EE creation creation := rel_bind (rel_need _) (fun _ _ _ => rel_bind (rel_need _) (fun _ _ _ => rel_bind rel_word (fun a a' e => rel_bind (rel_need _) (fun _ _ _ => by show EE _ _; rw [show a.2 = a'.2 from e]; exact ee_mk el_nil))))
theorem rel_input : RelP EE input input := rel_bind (rel_need _) (fun _ _ _ => rel_bind (rel_need _) (fun _ _ _ => rel_bind (rel_need _) (fun _ _ _ => ee_mk el_nil)))
theorem rel_primary (d : Nat) : RelP EE (primary d) (primary d) := fun _ _ _ => rel_ite (ee_mk el_nil) (rel_ite (rel_varOrCall d) (rel_ite (ee_mk el_nil) (rel_ite (ee_mk el_nil) (rel_ite (ee_mk el_nil) (rel_ite rel_creation (rel_ite rel_input (rel_ite (rel_brack d) rfl)))))))
theorem rel_fieldName : RelP SndE fieldName fieldName := rel_bind (rel_need _) (fun _ _ _ => rel_word)
theorem rel_postfix (d : Nat) : RelP EE (postfix_ d) (postfix_ d) := rel_bind (rel_primary d) (fun _ _ h => ⟨rfl, rfl, fun _ _ g => ee_fold _ _ _ _ g h⟩)
theorem rel_setting (op : Nat) (h h' : Tree) (d : Nat) (e : EE h h') : RelP EE (setting op h d) (setting op h' d) := rel_bind (rel_expr d) (fun _ _ g => rel_bind (rel_need _) (fun _ _ _ => by show EE _ _; rw [(er_parts e).2.1]; exact ee_mk (el_cons g el_nil)))
theorem ee_bare {a a' : Nat × List UInt8} (h : SndE a a') : EE (bare a) (bare a') := by unfold bare; rw [show a.2 = a'.2 from h]; exact ee_mk el_nil
theorem rel_put (h h' : Tree) (d : Nat) (e : EE h h') : RelP EE (put h d) (put h' d) := rel_bind rel_fieldName (fun _ _ f => ⟨rfl, rfl, fun _ _ g => rel_bind (rel_need _) (fun _ _ _ => rel_bind (rel_expr d) (fun _ _ v => rel_bind (rel_need _) (fun _ _ _ => ee_put _ _ _ _ _ _ _ _ g e (ee_bare f) v)))⟩)
theorem rel_simple (d : Nat) : RelP EE (simple d) (simple d) := fun _ _ t => rel_bind (rel_primary d) (fun h h' e _ _ t2 => by
  have ho := (er_parts e).1
  refine rel_ite2 (by rw [ho]) ?_ (rel_ite2 (by rw [ho]) (rel_setting 7 h h' d e) (rel_ite2 (by rw [ho]) (rel_setting 8 h h' d e) (rel_put h h' d e)))
  exact ee_mk (el_cons e el_nil))
theorem rel_loop (d : Nat) : RelP EE (loop d) (loop d) := rel_bind (rel_need _) (fun _ _ _ => rel_bind (rel_expr d) (fun _ _ h => rel_bind (rel_block d) (fun _ _ g => ee_mk (el_cons h (el_cons g el_nil)))))
theorem rel_print (d : Nat) : RelP EE (print d) (print d) := rel_bind (rel_need _) (fun _ _ _ => rel_bind (rel_brack d) (fun _ _ h => rel_bind (rel_need _) (fun _ _ _ => ee_mk (el_cons h el_nil))))
theorem rel_giveBack (d : Nat) : RelP EE (giveBack d) (giveBack d) := rel_bind (rel_need _) (fun _ _ _ => rel_bind (E := EL) (fun _ _ _ => rel_ite el_nil (rel_bind (rel_expr d) (fun _ _ h => el_cons h el_nil))) (fun _ _ h => rel_bind (rel_need _) (fun _ _ _ => ee_mk h)))
theorem rel_other (d : Nat) : RelP EE (other d) (other d) := fun _ _ _ => rel_ite (rel_one _ _) (rel_block d)
theorem rel_branch (d : Nat) : RelP EE (branch d) (branch d) := rel_bind (rel_need _) (fun _ _ _ => rel_bind (rel_expr d) (fun _ _ h => rel_bind (rel_block d) (fun _ _ g _ _ _ => rel_ite (show RelP EE ((other d).bind _) _ from rel_bind (rel_other d) (fun _ _ f => ee_mk (el_cons h (el_cons g (el_cons f el_nil))))) (ee_mk (el_cons h (el_cons g el_nil))))))
theorem rel_stmt (d : Nat) : RelP EE (stmt d) (stmt d) := fun _ _ _ => rel_ite (rel_one _ _) (rel_ite (rel_loop d) (rel_ite (rel_print d) (rel_ite (rel_giveBack d) (rel_simple d))))
theorem rel_unary (d : Nat) : RelP EE (unary d) (unary d) := fun _ _ _ => rel_ite (rel_postfix d) (rel_bind (rel_enter _ _) (fun _ _ _ => rel_bind (rel_one _ _) (fun _ _ h => ee_mk (el_cons h el_nil))))
theorem rel_binary (l d : Nat) : RelP EE (binary l d) (binary l d) := ⟨rfl, rfl, fun _ _ h => ⟨rfl, rfl, fun _ _ g => ee_fold _ _ _ _ g (ee_hd h)⟩⟩
theorem rel_single {p : Pr Tree} (h : RelP EE p p) : RelP EL (single p) (single p) := rel_bind h (fun _ _ g => el_cons g el_nil)
theorem ee_half {t : AT} {i i' : Nat} {r r' : Tree} (h : EE r r') : EE (half t i r) (half t i' r') := by
  unfold half; split
  · exact ee_mk (el_cons h el_nil)
  · split <;> exact ee_mk (el_cons h el_nil)
theorem rel_body (nt : NT) (d : Nat) : RelP EL (body nt d) (body nt d) := by
  cases nt with
  | decls => exact fun _ _ _ => rel_ite el_nil (rel_bind (rel_decl d) (fun _ _ h => ⟨rfl, rfl, fun _ _ g => el_cons h g⟩))
  | parts => exact fun _ _ _ => rel_ite el_nil (rel_bind (rel_named 5) (fun _ _ h => ⟨rfl, rfl, fun _ _ g => el_cons h g⟩))
  | params => exact fun _ _ _ => rel_ite (show RelP EL ((typed 5).bind _) _ from rel_bind (rel_typed 5) (fun _ _ h => ⟨rfl, rfl, fun _ _ g => el_cons h g⟩)) (rel_bind (rel_need _) (fun _ _ _ => el_nil))
  | stmts => exact fun _ _ _ => rel_ite el_nil ⟨rfl, rfl, fun _ _ h => ⟨rfl, rfl, fun _ _ g => el_cons (ee_hd h) g⟩⟩
  | stmt => exact rel_single (rel_stmt d)
  | branch => exact rel_single (rel_branch d)
  | binary l => exact rel_single (rel_binary l d)
  | tail l => exact fun _ _ _ => rel_ite el_nil ⟨rfl, rfl, fun _ _ h => ⟨rfl, rfl, fun _ _ g => el_cons (ee_half (ee_hd h)) g⟩⟩
  | unary => exact rel_single (rel_unary d)
  | fields => exact fun _ _ _ => rel_ite (rel_bind rel_fieldName (fun _ _ h => ⟨rfl, rfl, fun _ _ g => el_cons (ee_bare h) g⟩)) el_nil
  | args => exact fun _ _ _ => rel_ite (show RelP EL ((expr d).bind _) _ from rel_bind (rel_expr d) (fun _ _ h => ⟨rfl, rfl, fun _ _ g => el_cons h g⟩)) (rel_bind (rel_need _) (fun _ _ _ => el_nil))

/-- Answers that are the same but for places, s tokens later. -/
def RelR {α : Type} (E : α → α → Prop) (s : Nat) (r : Option (Res α)) (r' : Option (Res α)) : Prop := match r, r' with
  | none, none => True
  | some (.bad j e), some (.bad j' e') => j' = j + s ∧ e' = e
  | some (.ok a j), some (.ok a' j') => j' = j + s ∧ E a a'
  | _, _ => False
theorem rel_run {α : Type} {E : α → α → Prop} {T T' : Nat → AT} {s : Nat} (hT : ∀ k, T' (k + s) = T k) {c c' : Callee} (hc : ∀ nt d i, RelR EL s (c nt d i) (c' nt d (i + s))) : ∀ (p p' : Pr α) (i : Nat), RelP E p p' → RelR E s (runW T c p i) (runW T' c' p' (i + s))
  | .ret a, .ret b, i, h => ⟨rfl, h⟩
  | .fail e, .fail e', i, h => ⟨rfl, Eq.symm h⟩
  | .peek k, .peek k', i, h => by
    show RelR E s (runW T c (k i (T i)) i) (runW T' c' (k' (i + s) (T' (i + s))) (i + s))
    rw [hT i]
    exact rel_run hT hc _ _ i (h i (i + s) (T i))
  | .next p, .next p', i, h => by
    show RelR E s (runW T c p (i + 1)) (runW T' c' p' (i + s + 1))
    rw [show i + s + 1 = i + 1 + s by omega]
    exact rel_run hT hc p p' (i + 1) h
  | .call nt d k, .call nt' d' k', i, h => by
    obtain ⟨rfl, rfl, h⟩ := h
    have g := hc nt d i
    simp only [runW]
    cases h1 : c nt d i with
    | none =>
      cases h2 : c' nt d (i + s) with
      | none => trivial
      | some r => rw [h1, h2] at g; cases r <;> exact g.elim
    | some r =>
      cases h2 : c' nt d (i + s) with
      | none => rw [h1, h2] at g; cases r <;> exact g.elim
      | some r' =>
        rw [h1, h2] at g
        cases r with
        | bad j e => cases r' with
          | bad j' e' => exact g
          | ok a' j' => exact g.elim
        | ok a j => cases r' with
          | bad j' e' => exact g.elim
          | ok a' j' =>
            obtain ⟨rfl, g⟩ := g
            exact rel_run hT hc _ _ j (h a a' g)
theorem P_shift {T T' : Nat → AT} {s : Nat} (hT : ∀ k, T' (k + s) = T k) (n : Nat) : ∀ nt d i, RelR EL s (P T n nt d i) (P T' n nt d (i + s)) := by
  induction n with
  | zero => intro nt d i; trivial
  | succ n ih => intro nt d i; exact rel_run hT ih _ _ i (rel_body nt d)

end Go.Proofs.YtfbejfoalnhihaaGreatDoor

/-
  PLAIN: what stands behind a declaration plays no part: the declarations of two rows of tokens, one behind the other. Nothing of the program stands here. No condition.
-/
namespace Go.Proofs.YtfbejfoalnhihaaGreatDoor
open Go.RowKit

def Ends {α : Type} (p : Pr α) : Prop := (∃ a, p = .ret a) ∨ ∃ e, p = .fail e
def closed : NT → Prop
  | .parts | .params | .stmts | .args => True
  | _ => False
/-- A reader whose last step takes a token. -/
def Cl {α : Type} : Pr α → Prop
  | .ret _ => False
  | .fail _ => True
  | .peek k => ∀ i t, Cl (k i t)
  | .next p => Cl p ∨ Ends p
  | .call nt _ k => (∀ ts, Cl (k ts)) ∨ (closed nt ∧ ∀ ts, Ends (k ts))
theorem cl_right {α β : Type} {p : Pr α} {f : α → Pr β} (h : ∀ a, Cl (f a)) : Cl (p.bind f) := by
  induction p with
  | ret a => exact h a
  | fail e => trivial
  | peek k ih => exact fun i t => ih i t
  | next p ih => exact .inl ih
  | call nt d k ih => exact .inl fun ts => ih ts
theorem ends_bind {α β : Type} {p : Pr α} {f : α → Pr β} (h : Ends p) (g : ∀ a, Ends (f a)) : Ends (p.bind f) := by
  rcases h with ⟨a, rfl⟩ | ⟨e, rfl⟩
  · exact g a
  · exact .inr ⟨e, rfl⟩
theorem cl_left {α β : Type} {p : Pr α} {f : α → Pr β} (h : Cl p) (g : ∀ a, Ends (f a)) : Cl (p.bind f) := by
  induction p with
  | ret a => exact h.elim
  | fail e => trivial
  | peek k ih => exact fun i t => ih i t (h i t)
  | next p ih =>
    rcases h with h | h
    · exact .inl (ih h)
    · exact .inr (ends_bind h g)
  | call nt d k ih =>
    rcases h with h | h
    · exact .inl fun ts => ih ts (h ts)
    · exact .inr ⟨h.1, fun ts => ends_bind (h.2 ts) g⟩
theorem cl_ite {α : Type} {q : Prop} [Decidable q] {p r : Pr α} (h : Cl p) (g : Cl r) : Cl (if q then p else r) := by split <;> assumption
theorem ends_ret {α : Type} (a : α) : Ends (Pr.ret a) := .inl ⟨a, rfl⟩
theorem cl_need (s : List UInt8) : Cl (need s) := fun _ _ => cl_ite (.inr (ends_ret _)) trivial
theorem cl_word : Cl word := fun _ _ => cl_ite (.inr (ends_ret _)) trivial
theorem cl_named (op : Nat) : Cl (named op) := cl_right fun _ => cl_left (cl_need _) fun _ => ends_ret _
theorem cl_typ : Cl typ := fun _ _ => cl_ite (.inr (ends_ret _)) (cl_ite (.inr (ends_ret _)) (cl_right fun _ => cl_left cl_word fun _ => ends_ret _))
theorem cl_typed (op : Nat) : Cl (typed op) := cl_right fun _ => cl_left cl_typ fun _ => ends_ret _
theorem cl_block (d : Nat) : Cl (block d) := cl_right fun _ => .inr ⟨trivial, fun _ => ends_ret _⟩
theorem cl_struct : Cl structure_ := cl_right fun _ => cl_right fun _ => cl_right fun _ => .inr ⟨trivial, fun _ => ends_ret _⟩
theorem cl_function (d : Nat) : Cl (function d) := cl_right fun _ => cl_right fun _ => cl_right fun _ => cl_left (cl_block d) fun _ => ends_ret _
theorem cl_decl (d : Nat) : Cl (decl d) := fun _ _ => cl_ite (.inl cl_struct) (cl_ite (.inl (cl_named 3)) (cl_ite (.inl (cl_function d)) trivial))
theorem cl_body {nt : NT} (h : closed nt) (d : Nat) : Cl (body nt d) := by
  cases nt with
  | parts => exact fun _ _ => cl_ite (.inr (ends_ret _)) (cl_right fun _ => .inr ⟨trivial, fun _ => ends_ret _⟩)
  | params => exact fun _ _ => cl_ite (.inl (show Cl ((typed 5).bind _) from cl_right fun _ => .inr ⟨trivial, fun _ => ends_ret _⟩)) (cl_left (cl_need _) fun _ => ends_ret _)
  | stmts => exact fun _ _ => cl_ite (.inr (ends_ret _)) (.inl fun _ => .inr ⟨trivial, fun _ => ends_ret _⟩)
  | args => exact fun _ _ => cl_ite (.inl (show Cl ((expr d).bind _) from cl_right fun _ => .inr ⟨trivial, fun _ => ends_ret _⟩)) (cl_left (cl_need _) fun _ => ends_ret _)
  | _ => exact h.elim

/-- What is asked of those that are called: they go on, closed ones by one token at the least; and they are the same over the other tokens, as far as they look. -/
structure CalleeL (T T' : Nat → AT) (c c' : Callee) : Prop where
  mono : ∀ nt d i ts j, c nt d i = some (.ok ts j) → i ≤ j
  step : ∀ nt d i ts j, closed nt → c nt d i = some (.ok ts j) → i < j
  same : ∀ nt d i ts j, c nt d i = some (.ok ts j) → (∀ k, k ≤ j → T' k = T k) → c' nt d i = some (.ok ts j)
  shut : ∀ nt d i ts j, closed nt → c nt d i = some (.ok ts j) → (∀ k, k < j → T' k = T k) → c' nt d i = some (.ok ts j)
theorem ends_same {T T' : Nat → AT} {c c' : Callee} {α : Type} {p : Pr α} (h : Ends p) (i j : Nat) (a : α) (hr : runW T c p i = some (.ok a j)) : runW T' c' p i = some (.ok a j) := by
  rcases h with ⟨b, rfl⟩ | ⟨e, rfl⟩
  · exact hr
  · cases hr
theorem ends_at {T : Nat → AT} {c : Callee} {α : Type} {p : Pr α} (h : Ends p) (i j : Nat) (a : α) (hr : runW T c p i = some (.ok a j)) : j = i := by
  rcases h with ⟨b, rfl⟩ | ⟨e, rfl⟩
  · cases hr; rfl
  · cases hr
section
variable {T T' : Nat → AT} {c c' : Callee} (L : CalleeL T T' c c')
include L
theorem run_mono {α : Type} (p : Pr α) : ∀ (i j : Nat) (a : α), runW T c p i = some (.ok a j) → i ≤ j := by
  induction p with
  | ret a => intro i j a' h; cases h; exact Nat.le_refl _
  | fail e => intro i j a' h; cases h
  | peek k ih => intro i j a' h; exact ih _ _ _ _ _ h
  | next p ih => intro i j a' h; have := ih _ _ _ h; omega
  | call nt d k ih =>
    intro i j a' h
    simp only [runW] at h
    cases hc : c nt d i with
    | none => rw [hc] at h; cases h
    | some r =>
      rw [hc] at h
      cases r with
      | bad j e => cases h
      | ok ts j1 => have := ih _ _ _ _ h; have := L.mono _ _ _ _ _ hc; omega
theorem run_step {α : Type} (p : Pr α) : ∀ (i j : Nat) (a : α), Cl p → runW T c p i = some (.ok a j) → i < j := by
  induction p with
  | ret a => intro i j a' hc h; exact hc.elim
  | fail e => intro i j a' hc h; cases h
  | peek k ih => intro i j a' hc h; exact ih _ _ _ _ _ (hc _ _) h
  | next p ih => intro i j a' hc h; have := run_mono L p _ _ _ h; omega
  | call nt d k ih =>
    intro i j a' hcl h
    simp only [runW] at h
    cases hc : c nt d i with
    | none => rw [hc] at h; cases h
    | some r =>
      rw [hc] at h
      cases r with
      | bad j e => cases h
      | ok ts j1 =>
        rcases hcl with hcl | hcl
        · have := ih _ _ _ _ (hcl ts) h; have := L.mono _ _ _ _ _ hc; omega
        · have := run_mono L _ _ _ _ h; have := L.step _ _ _ _ _ hcl.1 hc; omega
theorem run_same {α : Type} (p : Pr α) : ∀ (i j : Nat) (a : α), runW T c p i = some (.ok a j) → (∀ k, k ≤ j → T' k = T k) → runW T' c' p i = some (.ok a j) := by
  induction p with
  | ret a => intro i j a' h _; exact h
  | fail e => intro i j a' h; cases h
  | peek k ih =>
    intro i j a' h ht
    have := run_mono L (.peek k) _ _ _ h
    show runW T' c' (k i (T' i)) i = _
    rw [ht i this]
    exact ih _ _ _ _ _ h ht
  | next p ih => intro i j a' h ht; exact ih _ _ _ h ht
  | call nt d k ih =>
    intro i j a' h ht
    simp only [runW] at h ⊢
    cases hc : c nt d i with
    | none => rw [hc] at h; cases h
    | some r =>
      rw [hc] at h
      cases r with
      | bad j e => cases h
      | ok ts j1 =>
        have hj := run_mono L _ _ _ _ h
        rw [L.same _ _ _ _ _ hc fun k hk => ht k (by omega)]
        exact ih _ _ _ _ h ht
theorem run_shut {α : Type} (p : Pr α) : ∀ (i j : Nat) (a : α), Cl p → runW T c p i = some (.ok a j) → (∀ k, k < j → T' k = T k) → runW T' c' p i = some (.ok a j) := by
  induction p with
  | ret a => intro i j a' hcl; exact hcl.elim
  | fail e => intro i j a' hcl h; cases h
  | peek k ih =>
    intro i j a' hcl h ht
    have := run_step L (.peek k) _ _ _ hcl h
    show runW T' c' (k i (T' i)) i = _
    rw [ht i this]
    exact ih _ _ _ _ _ (hcl _ _) h ht
  | next p ih =>
    intro i j a' hcl h ht
    rcases hcl with hcl | hcl
    · exact ih _ _ _ hcl h ht
    · exact ends_same hcl _ _ _ h
  | call nt d k ih =>
    intro i j a' hcl h ht
    simp only [runW] at h ⊢
    cases hc : c nt d i with
    | none => rw [hc] at h; cases h
    | some r =>
      rw [hc] at h
      cases r with
      | bad j e => cases h
      | ok ts j1 =>
        rcases hcl with hcl | hcl
        · have hj := run_step L _ _ _ _ (hcl ts) h
          rw [L.same _ _ _ _ _ hc fun k hk => ht k (by omega)]
          exact ih _ _ _ _ (hcl ts) h ht
        · have hj := ends_at (hcl.2 ts) _ _ _ h
          rw [L.shut _ _ _ _ _ hcl.1 hc fun k hk => ht k (by omega)]
          exact ends_same (hcl.2 ts) _ _ _ h
end
theorem P_local (T T' : Nat → AT) (n : Nat) : CalleeL T T' (P T n) (P T' n) := by
  induction n with
  | zero => exact ⟨fun _ _ _ _ _ h => (by cases h), fun _ _ _ _ _ _ h => (by cases h), fun _ _ _ _ _ h => (by cases h), fun _ _ _ _ _ _ h => (by cases h)⟩
  | succ n ih => exact ⟨fun nt d i ts j h => run_mono ih _ _ _ _ h, fun nt d i ts j hc h => run_step ih _ _ _ _ (cl_body hc d) h, fun nt d i ts j h ht => run_same ih _ _ _ _ h ht, fun nt d i ts j hc h ht => run_shut ih _ _ _ _ (cl_body hc d) h ht⟩

/-- THE DECLARATIONS OF TWO, one behind the other. -/
theorem decls_two (T T' : Nat → AT) (d m : Nat) (ks2 : List Tree) (j2 : Nat) (n : Nat) : ∀ (i j : Nat) (ks : List Tree), P T n .decls d i = some (.ok ks j) → (∀ k, k < j → T' k = T k) → (∀ k, k < j → (T k).kind ≠ 0) → P T' m .decls d j = some (.ok ks2 j2) → P T' (n + m) .decls d i = some (.ok (ks ++ ks2) j2) := by
  induction n with
  | zero => intro i j ks h; cases h
  | succ n ih =>
    intro i j ks h ht hk h2
    have hmono := (P_local T T' (n + 1)).mono _ _ _ _ _ h
    have hb : runW T (P T n) (body .decls d) i = some (.ok ks j) := h
    have hb2 : (if (T i).kind = 0 then (some (.ok [] i) : Option (Res (List Tree))) else runW T (P T n) ((decl d).bind fun x => .call .decls d fun xs => .ret (x :: xs)) i) = some (.ok ks j) := by
      rw [← hb]
      show _ = runW T (P T n) (if (T i).kind = 0 then _ else _) i
      split <;> rfl
    by_cases h0 : (T i).kind = 0
    · rw [if_pos h0] at hb2
      have hb3 := Res.ok.inj (Option.some.inj hb2)
      obtain ⟨rfl, rfl⟩ := hb3
      exact P_mono T' (by omega) _ _ _ _ h2
    · rw [if_neg h0, runW_bind] at hb2
      cases hd : runW T (P T n) (decl d) i with
      | none => rw [hd] at hb2; cases hb2
      | some r =>
        rw [hd] at hb2
        cases r with
        | bad j e => cases hb2
        | ok x i1 =>
          simp only [then_, runW] at hb2
          cases hc : P T n .decls d i1 with
          | none => rw [hc] at hb2; cases hb2
          | some r =>
            rw [hc] at hb2
            cases r with
            | bad j e => cases hb2
            | ok xs j1 =>
              obtain ⟨rfl, rfl⟩ := Res.ok.inj (Option.some.inj hb2)
              have L := P_local T T' n
              have hs := run_step L _ _ _ _ (cl_decl d) hd
              have hj := L.mono _ _ _ _ _ hc
              have hd' := run_shut L _ _ _ _ (cl_decl d) hd fun k hk => ht k (by omega)
              have hd2 := runW_at T' (show n ≤ n + m by omega) _ _ _ hd'
              have hr := ih i1 j1 xs hc ht hk h2
              show P T' (n + 1 + m) .decls d i = _
              rw [show n + 1 + m = (n + m) + 1 by omega]
              show runW T' (P T' (n + m)) (body .decls d) i = _
              show runW T' (P T' (n + m)) (if (T' i).kind = 0 then _ else _) i = _
              rw [ht i (by omega), if_neg h0, runW_bind, hd2]
              simp only [then_, runW, hr, List.cons_append]

end Go.Proofs.YtfbejfoalnhihaaGreatDoor

/-
  PLAIN: a text behind a line feed is a text for itself: its tokens are those of the first one, then those of the second one, moved. Nothing of the program stands here.
-/
namespace Go.Proofs.YtfbejfoalnhihaaGreatDoor
open Go.RowKit

theorem run_app {f : UInt8 → Bool} (h : f 10 = false) (x b : List UInt8) : runN f (x ++ 10 :: b) = runN f x := by
  induction x with
  | nil => rw [List.nil_append, runN_zero b h]; rfl
  | cons c r ih =>
    cases hc : f c with
    | true => rw [List.cons_append, runN_pos _ hc, runN_pos _ hc, ih]
    | false => rw [List.cons_append, runN_zero _ hc, runN_zero _ hc]
theorem com_app (c : UInt8) (r b : List UInt8) : comB ((c :: r) ++ 10 :: b) = comB (c :: r) := by
  cases r with
  | nil => simp [comB]
  | cons d r => rfl
theorem take_app (f : UInt8 → Bool) (x b : List UInt8) : (x ++ 10 :: b).take (runN f x) = x.take (runN f x) := List.take_append_of_le_length (runN_le f x)
theorem drop_app (x b : List UInt8) {n : Nat} (h : n ≤ x.length) : (x ++ 10 :: b).drop n = x.drop n ++ 10 :: b := List.drop_append_of_le_length h
theorem after_app (x b : List UInt8) : afterB (x ++ 10 :: b) = afterB x := by
  cases x with
  | nil => show letB 10 = false; decide
  | cons c r => rfl
theorem long_app (c : UInt8) (r b : List UInt8) : longB ((c :: r) ++ 10 :: b) = longB (c :: r) := by
  cases r with
  | nil => exact (long_no10 c).trans (long_no1 c).symm
  | cons d r => rfl
theorem tok_app (c : UInt8) (r b : List UInt8) : tokT ((c :: r) ++ 10 :: b) = tokT (c :: r) := by
  cases h1 : letB c with
  | true =>
    rw [List.cons_append, tokT_let _ h1, tokT_let _ h1, ← List.cons_append]
    unfold wordT
    rw [run_app (by decide), take_app]
  | false =>
    cases h2 : digB c with
    | true =>
      rw [List.cons_append, tokT_dig _ h1 h2, tokT_dig _ h1 h2, ← List.cons_append]
      unfold numT
      rw [run_app (by decide), take_app, drop_app _ _ (runN_le _ _), after_app]
    | false =>
      rw [List.cons_append, tokT_sign _ h1 h2, tokT_sign _ h1 h2, ← List.cons_append]
      unfold signT
      rw [long_app]

def R.thenR (r : R) (k : R) : R := match r with
  | .ok ts => k.pre ts
  | .bad p e => .bad p e
theorem thenR_pre (us : List Tok) (r k : R) : (r.pre us).thenR k = (r.thenR k).pre us := by
  cases r with
  | ok ts => simp [R.pre, R.thenR]; cases k <;> simp
  | bad p e => rfl
theorem scan_app (b : List UInt8) : ∀ (n : Nat) (x : List UInt8) (p : Nat), x.length ≤ n → scanS (x ++ 10 :: b) p = (scanS x p).thenR (scanS b (p + x.length + 1)) := by
  intro n
  induction n with
  | zero =>
    intro x p h
    have : x = [] := List.length_eq_zero_iff.1 (by omega)
    subst this
    rw [List.nil_append, scanS_blk p (by decide)]
    exact (R.pre_nil _).symm
  | succ n ih =>
    intro x p h
    cases x with
    | nil =>
      rw [List.nil_append, scanS_blk p (by decide)]
      exact (R.pre_nil _).symm
    | cons c r =>
      simp only [List.length_cons] at h
      cases hb : blkB c with
      | true =>
        rw [List.cons_append, scanS_blk p hb, scanS_blk p hb, ih r (p + 1) (by omega), List.length_cons, show p + 1 + r.length + 1 = p + (r.length + 1) + 1 by omega]
      | false =>
        cases hc : comB (c :: r) with
        | true =>
          have hn : notNl c = true := by have := com_head hc; simp [notNl, this]
          have hrn := runN_pos r hn
          have hrl := runN_le notNl (c :: r)
          have hca : comB (c :: (r ++ 10 :: b)) = true := (com_app c r b).trans hc
          rw [List.cons_append, scanS_com p hb hca, scanS_com p hb hc, ← List.cons_append, run_app (by decide), drop_app _ _ hrl]
          rw [ih _ _ (by rw [List.length_drop, List.length_cons]; omega), List.length_drop]
          rw [show p + runN notNl (c :: r) + ((c :: r).length - runN notNl (c :: r)) + 1 = p + (c :: r).length + 1 by omega]
        | false =>
          have hca : comB (c :: (r ++ 10 :: b)) = false := (com_app c r b).trans hc
          have hta : tokT (c :: (r ++ 10 :: b)) = tokT (c :: r) := tok_app c r b
          by_cases he : (tokT (c :: r)).err = 0
          · have hln := tok_len he
            rw [List.cons_append, scanS_tok p hb hca (by rw [hta]; exact he), scanS_tok p hb hc he, hta, ← List.cons_append, drop_app _ _ hln.2, List.take_append_of_le_length hln.2]
            rw [thenR_pre, ih _ _ (by rw [List.length_drop, List.length_cons]; omega), List.length_drop]
            rw [show p + (tokT (c :: r)).len + ((c :: r).length - (tokT (c :: r)).len) + 1 = p + (c :: r).length + 1 by omega]
          · rw [List.cons_append, scanS_bad p hb hca (by rw [hta]; exact he), scanS_bad p hb hc he, hta]; rfl

def moved (d : Nat) (t : Tok) : Tok := ⟨t.kind, t.text, t.place + d⟩
def R.shift (d : Nat) : R → R
  | .ok ts => .ok (ts.map (moved d))
  | .bad p e => .bad (p + d) e
theorem shift_pre (d : Nat) (us : List Tok) (r : R) : (r.pre us).shift d = (r.shift d).pre (us.map (moved d)) := by
  cases r <;> simp [R.pre, R.shift]
theorem scan_shift (d : Nat) : ∀ (n : Nat) (x : List UInt8) (p : Nat), x.length ≤ n → scanS x (p + d) = (scanS x p).shift d := by
  intro n
  induction n with
  | zero =>
    intro x p h
    have : x = [] := List.length_eq_zero_iff.1 (by omega)
    subst this
    rfl
  | succ n ih =>
    intro x p h
    cases x with
    | nil => rfl
    | cons c r =>
      simp only [List.length_cons] at h
      cases hb : blkB c with
      | true => rw [scanS_blk _ hb, scanS_blk _ hb, show p + d + 1 = p + 1 + d by omega, ih r _ (by omega)]
      | false =>
        cases hc : comB (c :: r) with
        | true =>
          have hn : notNl c = true := by have := com_head hc; simp [notNl, this]
          have hrn := runN_pos r hn
          rw [scanS_com _ hb hc, scanS_com _ hb hc, show p + d + runN notNl (c :: r) = p + runN notNl (c :: r) + d by omega, ih _ _ (by rw [List.length_drop, List.length_cons]; omega)]
        | false =>
          by_cases he : (tokT (c :: r)).err = 0
          · have hln := tok_len he
            rw [scanS_tok _ hb hc he, scanS_tok _ hb hc he, show p + d + (tokT (c :: r)).len = p + (tokT (c :: r)).len + d by omega, ih _ _ (by rw [List.length_drop, List.length_cons]; omega), shift_pre]; rfl
          · rw [scanS_bad _ hb hc he, scanS_bad _ hb hc he]; rfl

/-- The tokens of two texts with a line feed between. -/
theorem scan_two (a b : List UInt8) : sc (a ++ 10 :: b) 0 = (sc a 0).thenR ((sc b 0).shift (a.length + 1)) := by
  unfold sc
  rw [List.drop_zero, List.drop_zero, List.drop_zero, scan_app b a.length a 0 (Nat.le_refl _), show 0 + a.length + 1 = 0 + (a.length + 1) by omega, scan_shift (a.length + 1) b.length b 0 (Nat.le_refl _)]

end Go.Proofs.YtfbejfoalnhihaaGreatDoor

/-
  PLAIN: two sources, one behind the other: the program has the declarations of both, in order. Nothing of the program stands here. No condition.
-/
namespace Go.Proofs.YtfbejfoalnhihaaGreatDoor
open Go.RowKit

theorem decls_end (T : Nat → AT) (d n : Nat) : ∀ (i j : Nat) (ks : List Tree), P T n .decls d i = some (.ok ks j) → (T j).kind = 0 := by
  induction n with
  | zero => intro i j ks h; cases h
  | succ n ih =>
    intro i j ks h
    have hb : runW T (P T n) (body .decls d) i = some (.ok ks j) := h
    have hb2 : (if (T i).kind = 0 then (some (.ok [] i) : Option (Res (List Tree))) else runW T (P T n) ((decl d).bind fun x => .call .decls d fun xs => .ret (x :: xs)) i) = some (.ok ks j) := by
      rw [← hb]
      show _ = runW T (P T n) (if (T i).kind = 0 then _ else _) i
      split <;> rfl
    by_cases h0 : (T i).kind = 0
    · rw [if_pos h0] at hb2
      obtain ⟨rfl, rfl⟩ := Res.ok.inj (Option.some.inj hb2)
      exact h0
    · rw [if_neg h0, runW_bind] at hb2
      cases hd : runW T (P T n) (decl d) i with
      | none => rw [hd] at hb2; cases hb2
      | some r =>
        rw [hd] at hb2
        cases r with
        | bad j e => cases hb2
        | ok x i1 =>
          simp only [then_, runW] at hb2
          cases hc : P T n .decls d i1 with
          | none => rw [hc] at hb2; cases hb2
          | some r =>
            rw [hc] at hb2
            cases r with
            | bad j e => cases hb2
            | ok xs j1 =>
              obtain ⟨rfl, rfl⟩ := Res.ok.inj (Option.some.inj hb2)
              exact ih _ _ _ hc

/-- What a parse gives, with the tokens and where it ends. -/
theorem parse_end {l : List UInt8} {ts : List Tok} {ks : List Tree} (h : parseR l = .ok ts ks) : scanR l = .ok ts ∧ P (Tf ts) (fuelT ts) .decls 0 0 = some (.ok ks ts.length) := by
  unfold parseR at h
  cases hs : scanR l with
  | bad p e => rw [hs] at h; cases h
  | ok ts' =>
    rw [hs] at h
    have hT := toks_of hs
    cases hp : P (Tf ts') (fuelT ts') .decls 0 0 with
    | none => simp only [hp, treeR] at h; cases h
    | some r =>
      simp only [hp, treeR] at h
      cases r with
      | bad j e => cases h
      | ok ks' j =>
        obtain ⟨rfl, rfl⟩ : ts' = ts ∧ ks' = ks := by injection h with a b; exact ⟨a, b⟩
        have hj := P_prog hT.sent (nt := .decls) trivial (Nat.zero_le _) hp
        have hk := decls_end _ _ _ _ _ _ hp
        have hle : ts'.length ≤ j := by
          rcases Nat.lt_or_ge j ts'.length with h | h
          · exact absurd hk (hT.sent.some j h)
          · exact h
        have : j = ts'.length := by omega
        subst this
        exact ⟨rfl, hp⟩
theorem scanR_le {l : List UInt8} {ts : List Tok} (h : scanR l = .ok ts) : sc l 0 = .ok ts ∧ l.length ≤ 4096 := by
  unfold scanR at h
  split at h
  · cases h
  · exact ⟨h, by omega⟩
theorem Tf_left {a b : List Tok} {k : Nat} (h : k < a.length) : Tf (a ++ b) k = Tf a k := by unfold Tf; rw [List.getElem?_append_left h]
theorem Tf_right (a b : List Tok) (d k : Nat) : Tf (a ++ b.map (moved d)) (k + a.length) = Tf b k := by
  unfold Tf
  rw [List.getElem?_append_right (by omega), Nat.add_sub_cancel, List.getElem?_map]
  cases b[k]? <;> rfl
theorem size_er (N : Nat) : ∀ t : Tree, sizeT t ≤ N → sizeT (er t) = sizeT t := by
  induction N with
  | zero => intro t h; have := sizeT_pos t; omega
  | succ N ih =>
    intro t h
    cases t with
    | mk o s ty n p ks =>
      rw [er_mk, sizeT_mk, sizeT_mk]
      rw [sizeT_mk] at h
      congr 1
      have : ∀ l : List Tree, sizeL l ≤ N → sizeL (l.map er) = sizeL l := by
        intro l
        induction l with
        | nil => intro _; rfl
        | cons a r ihr =>
          intro hl
          rw [sizeL_cons] at hl
          rw [List.map_cons, sizeL_cons, sizeL_cons, ih a (by omega), ihr (by omega)]
      exact this ks (by omega)
theorem size_ee {a b : Tree} (h : EE a b) : sizeT a = sizeT b := by
  rw [← size_er _ a (Nat.le_refl _), ← size_er _ b (Nat.le_refl _), show er a = er b from h]
theorem sizeL_el : ∀ {a b : List Tree}, EL a b → sizeL a = sizeL b
  | [], [], _ => rfl
  | [], _ :: _, h => by cases h
  | _ :: _, [], h => by cases h
  | x :: a, y :: b, h => by rw [sizeL_cons, sizeL_cons, size_ee (List.cons.inj h).1, sizeL_el (List.cons.inj h).2]

theorem parse_two {a b : List UInt8} {ta tb : List Tok} {ka kb : List Tree} (ha : parseR a = .ok ta ka) (hb : parseR b = .ok tb kb) (hl : a.length + b.length + 1 ≤ 4096) :
    ∃ tc kb', parseR (a ++ 10 :: b) = .ok tc (ka ++ kb') ∧ EL kb kb' := by
  obtain ⟨sa, pa⟩ := parse_end ha
  obtain ⟨sb, pb⟩ := parse_end hb
  have hTa := toks_of sa
  have h2 : scanR (a ++ 10 :: b) = .ok (ta ++ tb.map (moved (a.length + 1))) := by
    unfold scanR
    rw [if_neg (by simp; omega), scan_two, (scanR_le sa).1, (scanR_le sb).1]; rfl
  have hTc := toks_of h2
  obtain ⟨tc, htc⟩ : ∃ tc, ta ++ tb.map (moved (a.length + 1)) = tc := ⟨_, rfl⟩
  have hR : ∀ k, Tf tc (k + ta.length) = Tf tb k := fun k => by rw [← htc]; exact Tf_right _ _ _ _
  have hL : ∀ k, k < ta.length → Tf tc k = Tf ta k := fun k hk => by rw [← htc]; exact Tf_left hk
  have hlen : tc.length = ta.length + tb.length := by rw [← htc]; simp
  rw [htc] at h2 hTc
  have hs := P_shift hR (fuelT tb) .decls 0 0
  rw [pb, Nat.zero_add] at hs
  cases hq : P (Tf tc) (fuelT tb) .decls 0 ta.length with
  | none => rw [hq] at hs; exact hs.elim
  | some r =>
    rw [hq] at hs
    cases r with
    | bad j e => exact hs.elim
    | ok kb' j =>
      obtain ⟨-, he⟩ := hs
      have hd := decls_two (Tf ta) (Tf tc) 0 (fuelT tb) kb' j (fuelT ta) 0 ta.length ka pa hL (fun k hk => hTa.sent.some k hk) hq
      obtain ⟨rr, hp, -⟩ := P_total hTc.sent (fuelT tc) .decls 0 0 trivial (Nat.zero_le _) (by show 4 * (tc.length - 0) + 0 < 4 * tc.length + 1; omega)
      have h1 := P_one _ hp hd
      subst h1
      refine ⟨tc, kb', ?_, he⟩
      unfold parseR
      rw [h2]
      simp only [hp, treeR]

end Go.Proofs.YtfbejfoalnhihaaGreatDoor

/-
  PLAIN: wherever the reader of the grammar ends or fails, it is no further than the tokens' end. Nothing of the program stands here. No condition.
-/
namespace Go.Proofs.YtfbejfoalnhihaaGreatDoor
open Go.RowKit

def Res.pos {α : Type} : Res α → Nat | .ok _ j => j | .bad j _ => j
def Bd {α : Type} (T : Nat → AT) (z : Nat) (c : Callee) (p : Pr α) (i : Nat) : Prop := i ≤ z → ∀ r, runW T c p i = some r → r.pos ≤ z
section
variable {T : Nat → AT} {z : Nat} {c : Callee} {α β : Type} {i : Nat}
theorem bd_ret {a : α} : Bd T z c (.ret a) i := fun h r e => by cases e; exact h
theorem bd_fail {e : Nat} : Bd T z c (.fail e : Pr α) i := fun h r e => by cases e; exact h
theorem bd_peek {k : Nat → AT → Pr α} (h : Bd T z c (k i (T i)) i) : Bd T z c (.peek k) i := h
theorem bd_next {p : Pr α} (hi : i < z) (h : Bd T z c p (i + 1)) : Bd T z c (.next p) i := fun _ r e => h hi r e
theorem bd_ite {q : Prop} [Decidable q] {p r : Pr α} (h : q → Bd T z c p i) (g : ¬ q → Bd T z c r i) : Bd T z c (if q then p else r) i := by
  split
  · exact h ‹_›
  · exact g ‹_›
theorem bd_bind {p : Pr β} {f : β → Pr α} (h : Bd T z c p i) (g : ∀ a j, Bd T z c (f a) j) : Bd T z c (p.bind f) i := fun hi r e => by
  rw [runW_bind] at e
  cases hr : runW T c p i with
  | none => rw [hr] at e; cases e
  | some q =>
    rw [hr] at e
    have hq := h hi q hr
    cases q with
    | bad j e' => cases e; exact hq
    | ok a k => exact g a k hq r e
variable (C : ∀ nt d i r, okNT nt → i ≤ z → c nt d i = some r → Res.pos r ≤ z)
include C
theorem bd_call {nt : NT} {d : Nat} {k : List Tree → Pr α} (hn : okNT nt) (h : ∀ ts j, Bd T z c (k ts) j) : Bd T z c (.call nt d k) i := fun hi r e => by
  simp only [runW] at e
  cases hr : c nt d i with
  | none => rw [hr] at e; cases e
  | some q =>
    rw [hr] at e
    have hq := C _ _ _ _ hn hi hr
    cases q with
    | bad j e' => cases e; exact hq
    | ok a k => exact h a k hq r e
end
section
variable {T : Nat → AT} {z : Nat} {c : Callee} (S : Sent T z)
include S
theorem bd_need {s : List UInt8} (hs : s ≠ []) (i : Nat) : Bd T z c (need s) i := bd_peek (bd_ite (fun h => bd_next (lt_text S hs h) bd_ret) fun _ => bd_fail)
theorem bd_word (i : Nat) : Bd T z c word i := bd_peek (bd_ite (fun h => bd_next (lt_kind S (by decide) h) bd_ret) fun _ => bd_fail)
theorem bd_enter (d : Nat) {s : List UInt8} (hs : s ≠ []) (i : Nat) : Bd T z c (enter d s) i := bd_peek (bd_ite (fun h => bd_ite (fun _ => bd_fail) fun _ => bd_next (lt_text S hs h) bd_ret) fun _ => bd_fail)
theorem bd_typ (i : Nat) : Bd T z c typ i := bd_peek (bd_ite (fun h => bd_next (lt_text S (by decide) h) bd_ret) fun _ => bd_ite (fun h => bd_next (lt_text S (by decide) h) bd_ret) fun _ => bd_bind (bd_need S (by decide) i) fun _ j => bd_bind (bd_word S j) fun _ _ => bd_ret)
theorem bd_typed (op i : Nat) : Bd T z c (typed op) i := bd_bind (bd_word S i) fun _ j => bd_bind (bd_typ S j) fun _ _ => bd_ret
theorem bd_named (op i : Nat) : Bd T z c (named op) i := bd_bind (bd_typed S op i) fun _ j => bd_bind (bd_need S (by decide) j) fun _ _ => bd_ret
theorem bd_creation (i : Nat) : Bd T z c creation i := bd_bind (bd_need S (by decide) i) fun _ j => bd_bind (bd_need S (by decide) j) fun _ j => bd_bind (bd_word S j) fun _ j => bd_bind (bd_need S (by decide) j) fun _ _ => bd_ret
theorem bd_input (i : Nat) : Bd T z c input i := bd_bind (bd_need S (by decide) i) fun _ j => bd_bind (bd_need S (by decide) j) fun _ j => bd_bind (bd_need S (by decide) j) fun _ _ => bd_ret
theorem bd_fieldName (i : Nat) : Bd T z c fieldName i := bd_bind (bd_need S (by decide) i) fun _ j => bd_word S j
variable (C : ∀ nt d i r, okNT nt → i ≤ z → c nt d i = some r → Res.pos r ≤ z)
include C
theorem bd_expr (d i : Nat) : Bd T z c (expr d) i := have _ := S; bd_call C (Nat.le_refl 1) fun _ _ => bd_ret
theorem bd_block (d i : Nat) : Bd T z c (block d) i := bd_bind (bd_enter S d (by decide) i) fun _ _ => bd_call C trivial fun _ _ => bd_ret
theorem bd_struct (i : Nat) : Bd T z c structure_ i := bd_bind (bd_word S i) fun _ j => bd_bind (bd_need S (by decide) j) fun _ j => bd_bind (bd_need S (by decide) j) fun _ _ => bd_call C trivial fun _ _ => bd_ret
theorem bd_fparts (i : Nat) : Bd T z c fparts i := bd_bind (bd_need S (by decide) i) fun _ j => bd_peek (bd_ite (fun h => bd_next (lt_text S (by decide) h) bd_ret) fun _ => bd_bind (bd_typed S 5 j) fun _ _ => bd_call C trivial fun _ _ => bd_ret)
theorem bd_function (d i : Nat) : Bd T z c (function d) i := bd_bind (bd_word S i) fun _ j => bd_bind (bd_fparts S C j) fun _ j => bd_bind (bd_peek (bd_ite (fun _ => bd_ret) fun _ => bd_typ S j)) fun _ j => bd_bind (bd_block S C d j) fun _ _ => bd_ret
theorem bd_decl (d i : Nat) : Bd T z c (decl d) i := bd_peek (bd_ite (fun h => bd_next (lt_text S (by decide) h) (bd_struct S C _)) fun _ => bd_ite (fun h => bd_next (lt_text S (by decide) h) (bd_named S 3 _)) fun _ => bd_ite (fun h => bd_next (lt_text S (by decide) h) (bd_function S C d _)) fun _ => bd_fail)
theorem bd_args (d i : Nat) : Bd T z c (args d) i := bd_bind (bd_enter S d (by decide) i) fun _ j => bd_peek (bd_ite (fun _ => bd_bind (bd_need S (by decide) j) fun _ _ => bd_ret) fun _ => bd_bind (bd_expr S C (d + 1) j) fun _ _ => bd_call C trivial fun _ _ => bd_ret)
theorem bd_brack (d i : Nat) : Bd T z c (brack d) i := bd_bind (bd_enter S d (by decide) i) fun _ j => bd_bind (bd_expr S C (d + 1) j) fun _ j => bd_bind (bd_need S (by decide) j) fun _ _ => bd_ret
theorem bd_varOrCall (d i : Nat) : Bd T z c (varOrCall d) i := bd_bind (bd_word S i) fun _ j => bd_peek (bd_ite (fun _ => bd_bind (bd_args S C d j) fun _ _ => bd_ret) fun _ => bd_ret)
theorem bd_primary (d i : Nat) : Bd T z c (primary d) i := bd_peek (bd_ite (fun h => bd_next (lt_kind S (by decide) h) bd_ret) fun _ => bd_ite (fun _ => bd_varOrCall S C d i) fun _ => bd_ite (fun h => bd_next (lt_text S (by decide) h) bd_ret) fun _ => bd_ite (fun h => bd_next (lt_text S (by decide) h) bd_ret) fun _ => bd_ite (fun h => bd_next (lt_text S (by decide) h) bd_ret) fun _ => bd_ite (fun _ => bd_creation S i) fun _ => bd_ite (fun _ => bd_input S i) fun _ => bd_ite (fun _ => bd_brack S C d i) fun _ => bd_fail)
theorem bd_postfix (d i : Nat) : Bd T z c (postfix_ d) i := bd_bind (bd_primary S C d i) fun _ _ => bd_call C trivial fun _ _ => bd_ret
theorem bd_setting (op : Nat) (h : Tree) (d i : Nat) : Bd T z c (setting op h d) i := bd_bind (bd_expr S C d i) fun _ j => bd_bind (bd_need S (by decide) j) fun _ _ => bd_ret
theorem bd_put (h : Tree) (d i : Nat) : Bd T z c (put h d) i := bd_bind (bd_fieldName S i) fun _ _ => bd_call C trivial fun _ j => bd_bind (bd_need S (by decide) j) fun _ j => bd_bind (bd_expr S C d j) fun _ j => bd_bind (bd_need S (by decide) j) fun _ _ => bd_ret
theorem bd_simple (d i : Nat) : Bd T z c (simple d) i := bd_peek (bd_bind (bd_primary S C d i) fun h j => bd_peek (bd_ite (fun g => bd_next (lt_text S (by decide) g.2.2) bd_ret) fun _ => bd_ite (fun g => bd_next (lt_text S (by decide) g.2.2) (bd_setting S C 7 h d _)) fun _ => bd_ite (fun g => bd_next (lt_text S (by decide) g.2.2) (bd_setting S C 8 h d _)) fun _ => bd_put S C h d j))
theorem bd_loop (d i : Nat) : Bd T z c (loop d) i := bd_bind (bd_need S (by decide) i) fun _ j => bd_bind (bd_expr S C d j) fun _ j => bd_bind (bd_block S C d j) fun _ _ => bd_ret
theorem bd_print (d i : Nat) : Bd T z c (print d) i := bd_bind (bd_need S (by decide) i) fun _ j => bd_bind (bd_brack S C d j) fun _ j => bd_bind (bd_need S (by decide) j) fun _ _ => bd_ret
theorem bd_giveBack (d i : Nat) : Bd T z c (giveBack d) i := bd_bind (bd_need S (by decide) i) fun _ j => bd_bind (bd_peek (bd_ite (fun _ => bd_ret) fun _ => bd_bind (bd_expr S C d j) fun _ _ => bd_ret)) fun _ j => bd_bind (bd_need S (by decide) j) fun _ _ => bd_ret
theorem bd_one (nt : NT) (d i : Nat) (h : okNT nt) : Bd T z c (one nt d) i := have _ := S; bd_call C h fun _ _ => bd_ret
theorem bd_other (d i : Nat) : Bd T z c (other d) i := bd_peek (bd_ite (fun _ => bd_one S C _ _ _ trivial) fun _ => bd_block S C d i)
theorem bd_branch (d i : Nat) : Bd T z c (branch d) i := bd_bind (bd_need S (by decide) i) fun _ j => bd_bind (bd_expr S C d j) fun _ j => bd_bind (bd_block S C d j) fun _ _ => bd_peek (bd_ite (fun h => bd_next (lt_text S (by decide) h) (show Bd T z c ((other d).bind _) _ from bd_bind (bd_other S C d _) fun _ _ => bd_ret)) fun _ => bd_ret)
theorem bd_stmt (d i : Nat) : Bd T z c (stmt d) i := bd_peek (bd_ite (fun _ => bd_one S C _ _ _ trivial) fun _ => bd_ite (fun _ => bd_loop S C d i) fun _ => bd_ite (fun _ => bd_print S C d i) fun _ => bd_ite (fun _ => bd_giveBack S C d i) fun _ => bd_simple S C d i)
theorem bd_unary (d i : Nat) : Bd T z c (unary d) i := bd_peek (bd_ite (fun _ => bd_postfix S C d i) fun h => bd_bind (bd_enter S d (find_some (by omega) (by omega) h) i) fun _ _ => bd_bind (bd_one S C _ _ _ trivial) fun _ _ => bd_ret)
theorem bd_single {p : Pr Tree} {i : Nat} (h : Bd T z c p i) : Bd T z c (single p) i := have _ := S; have _ := C; bd_bind h fun _ _ => bd_ret
theorem bd_body (nt : NT) (hn : okNT nt) (d i : Nat) : Bd T z c (body nt d) i := by
  cases nt with
  | decls => exact bd_peek (bd_ite (fun _ => bd_ret) fun _ => bd_bind (bd_decl S C d i) fun _ _ => bd_call C trivial fun _ _ => bd_ret)
  | parts => exact bd_peek (bd_ite (fun h => bd_next (lt_text S (by decide) h) bd_ret) fun _ => bd_bind (bd_named S 5 i) fun _ _ => bd_call C trivial fun _ _ => bd_ret)
  | params => exact bd_peek (bd_ite (fun h => bd_next (lt_text S (by decide) h) (show Bd T z c ((typed 5).bind _) _ from bd_bind (bd_typed S 5 _) fun _ _ => bd_call C trivial fun _ _ => bd_ret)) fun _ => bd_bind (bd_need S (by decide) i) fun _ _ => bd_ret)
  | stmts => exact bd_peek (bd_ite (fun h => bd_next (lt_text S (by decide) h) bd_ret) fun _ => bd_call C trivial fun _ _ => bd_call C trivial fun _ _ => bd_ret)
  | stmt => exact bd_single S C (bd_stmt S C d i)
  | branch => exact bd_single S C (bd_branch S C d i)
  | binary l => exact bd_single S C (bd_call C trivial fun _ _ => bd_call C hn fun _ _ => bd_ret)
  | tail l =>
    have hl : 1 ≤ l := hn
    exact bd_peek (bd_ite (fun _ => bd_ret) fun h => bd_next (lt_text S (lvl_some (l := (T i).text) (by omega)) rfl) (bd_call C (Nat.succ_le_succ (Nat.zero_le _)) fun _ _ => bd_call C hn fun _ _ => bd_ret))
  | unary => exact bd_single S C (bd_unary S C d i)
  | fields => exact bd_peek (bd_ite (fun _ => bd_bind (bd_fieldName S i) fun _ _ => bd_call C trivial fun _ _ => bd_ret) fun _ => bd_ret)
  | args => exact bd_peek (bd_ite (fun h => bd_next (lt_text S (by decide) h) (show Bd T z c ((expr d).bind _) _ from bd_bind (bd_expr S C d _) fun _ _ => bd_call C trivial fun _ _ => bd_ret)) fun _ => bd_bind (bd_need S (by decide) i) fun _ _ => bd_ret)
end
theorem P_bound {T : Nat → AT} {z : Nat} (S : Sent T z) (n : Nat) : ∀ nt d i r, okNT nt → i ≤ z → P T n nt d i = some r → Res.pos r ≤ z := by
  induction n with
  | zero => intro nt d i r _ _ h; cases h
  | succ n ih => intro nt d i r hn hi h; exact bd_body S ih nt hn d i hi r h

end Go.Proofs.YtfbejfoalnhihaaGreatDoor
