/-
  PLAIN: what is read is a tree of the grammar, rule by rule. Nothing of the program stands here.
-/
import Derived.Test.YtkahbhfbgdbnfaaGreatDoorJ21
namespace Go.Proofs.YtkahbhfbgdbnfaaGreatDoor
open Go.RowKit

/-- A word of the tokens T. -/
def Wd (T : Nat → AT) (s : Tx) : Prop := ∃ k, (T k).kind = 1 ∧ (T k).text = s
def Bare (W : Tx → Prop) (f : Tree) : Prop := ∃ s p, f = .mk 20 s [] 0 p [] ∧ W s
def Half (W : Tx → Prop) (h : Tree) : Prop := ∃ op n p r, h = .mk op [] [] n p [r] ∧ (op = 24 ∧ 1 ≤ n ∧ n ≤ 16 ∨ (op = 25 ∨ op = 26) ∧ n = 0) ∧ Al W r ∧ isE r
def XE (W : Tx → Prop) (i : Nat) (t : Tree) (j : Nat) : Prop := Al W t ∧ isE t ∧ i + sizeT t ≤ j
def XS (W : Tx → Prop) (i : Nat) (t : Tree) (j : Nat) : Prop := Al W t ∧ isS t ∧ i + sizeT t ≤ j
def XO (W : Tx → Prop) (op : Nat) (i : Nat) (t : Tree) (j : Nat) : Prop := Al W t ∧ t.op = op ∧ i + sizeT t ≤ j
def LX (X : Tree → Prop) (i : Nat) (ts : List Tree) (j : Nat) : Prop := (∀ t ∈ ts, X t) ∧ i + sizeL ts ≤ j
def Gd (W : Tx → Prop) : NT → Nat → List Tree → Nat → Prop
  | .decls, i, ts, j => LX (fun t => Al W t ∧ (t.op = 2 ∨ t.op = 3 ∨ t.op = 4)) i ts j
  | .parts, i, ts, j => LX (fun t => Al W t ∧ t.op = 5) i ts j
  | .params, i, ts, j => LX (fun t => Al W t ∧ t.op = 5) i ts j
  | .stmts, i, ts, j => LX (fun t => Al W t ∧ isS t) i ts j
  | .stmt, i, ts, j => ∃ t, ts = [t] ∧ XS W i t j
  | .branch, i, ts, j => ∃ t, ts = [t] ∧ XO W 10 i t j
  | .binary l, i, ts, j => 1 ≤ l → ∃ t, ts = [t] ∧ XE W i t j
  | .unary, i, ts, j => ∃ t, ts = [t] ∧ XE W i t j
  | .tail l, i, ts, j => 1 ≤ l → LX (Half W) i ts j
  | .fields, i, ts, j => LX (Bare W) i ts j
  | .args, i, ts, j => LX (fun t => Al W t ∧ isE t) i ts j
theorem sizeT_mk (op : Nat) (s ty : Tx) (n : Int) (p : Nat) (ks : List Tree) : sizeT (.mk op s ty n p ks) = sizeL ks + 1 := rfl
theorem sizeL_nil : sizeL [] = 0 := rfl
theorem sizeL_cons (t : Tree) (l : List Tree) : sizeL (t :: l) = sizeT t + sizeL l := rfl
theorem LX.nil {X : Tree → Prop} {i j : Nat} (h : i ≤ j) : LX X i [] j := ⟨(fun t ht => by cases ht), h⟩
theorem LX.cons {X : Tree → Prop} {i k j : Nat} {t : Tree} {ts : List Tree} (h : X t) (hs : i + sizeT t ≤ k) (hl : LX X k ts j) : LX X i (t :: ts) j :=
  ⟨fun u hu => by rcases List.mem_cons.1 hu with rfl | hu; exact h; exact hl.1 u hu, by rw [sizeL_cons]; have := hl.2; omega⟩
theorem LX.up {X : Tree → Prop} {i i' j j' : Nat} {ts : List Tree} (h : LX X i ts j) (h1 : i' ≤ i) (h2 : j ≤ j') : LX X i' ts j' := ⟨h.1, by have := h.2; omega⟩

/-- Fields behind a part. -/
theorem fold_bare {W : Tx → Prop} (fs : List Tree) : ∀ x, Al W x → isE x → (∀ f ∈ fs, Bare W f) → Al W (fs.foldl (fun a b => attach a b) x) ∧ isE (fs.foldl (fun a b => attach a b) x) ∧ sizeT (fs.foldl (fun a b => attach a b) x) = sizeT x + sizeL fs := by
  induction fs with
  | nil => intro x h1 h2 _; exact ⟨h1, h2, rfl⟩
  | cons f r ih =>
    intro x h1 h2 h3
    obtain ⟨s, p, rfl, hs⟩ := h3 f (List.mem_cons_self ..)
    have := ih (attach x (.mk 20 s [] 0 p [])) (.mk (.field hs h2) (fun u hu => by obtain rfl := List.mem_singleton.1 hu; exact h1)) ⟨by show 15 ≤ 20; omega, by show 20 ≤ 26; omega⟩ (fun g hg => h3 g (List.mem_cons_of_mem _ hg))
    refine ⟨this.1, this.2.1, ?_⟩
    rw [List.foldl_cons, this.2.2]
    simp only [attach, sizeT_mk, sizeL_cons, sizeL_nil]
    omega
theorem fold_half {W : Tx → Prop} (fs : List Tree) : ∀ x, Al W x → isE x → (∀ f ∈ fs, Half W f) → Al W (fs.foldl (fun a b => attach a b) x) ∧ isE (fs.foldl (fun a b => attach a b) x) ∧ sizeT (fs.foldl (fun a b => attach a b) x) = sizeT x + sizeL fs := by
  induction fs with
  | nil => intro x h1 h2 _; exact ⟨h1, h2, rfl⟩
  | cons f r ih =>
    intro x h1 h2 h3
    obtain ⟨op, n, p, y, rfl, ho, hy, hey⟩ := h3 f (List.mem_cons_self ..)
    have := ih (attach x (.mk op [] [] n p [y])) (.mk (.binary ho h2 hey) (fun u hu => by
      rcases List.mem_cons.1 hu with rfl | hu
      · exact h1
      · obtain rfl := List.mem_singleton.1 hu; exact hy)) (show 15 ≤ op ∧ op ≤ 26 by omega) (fun g hg => h3 g (List.mem_cons_of_mem _ hg))
    refine ⟨this.1, this.2.1, ?_⟩
    rw [List.foldl_cons, this.2.2]
    simp only [attach, sizeT_mk, sizeL_cons, sizeL_nil]
    omega
theorem put_al {W : Tx → Prop} (fs : List Tree) : ∀ h f v, Al W h → isE h → Bare W f → (∀ g ∈ fs, Bare W g) → Al W v → isE v → Al W (putT h f fs v) ∧ (putT h f fs v).op = 9 ∧ sizeT (putT h f fs v) = sizeT h + sizeT f + sizeL fs + sizeT v := by
  induction fs with
  | nil =>
    rintro h f v h1 h2 ⟨s, p, rfl, hs⟩ _ h5 h6
    refine ⟨.mk (.put hs h2 h6) (fun u hu => ?_), rfl, ?_⟩
    · rcases List.mem_cons.1 hu with rfl | hu
      · exact h1
      · obtain rfl := List.mem_singleton.1 hu; exact h5
    · simp only [putT, sizeT_mk, sizeL_cons, sizeL_nil]; omega
  | cons g r ih =>
    rintro h f v h1 h2 ⟨s, p, rfl, hs⟩ h4 h5 h6
    have := ih (attach h (.mk 20 s [] 0 p [])) g v (.mk (.field hs h2) (fun u hu => by obtain rfl := List.mem_singleton.1 hu; exact h1)) ⟨by show 15 ≤ 20; omega, by show 20 ≤ 26; omega⟩ (h4 g (List.mem_cons_self ..)) (fun g hg => h4 g (List.mem_cons_of_mem _ hg)) h5 h6
    refine ⟨this.1, this.2.1, ?_⟩
    rw [putT, this.2.2]
    simp only [attach, sizeT_mk, sizeL_cons, sizeL_nil]
    omega

section
variable {T : Nat → AT} {c : Callee} (C : ∀ nt d i ts j, c nt d i = some (.ok ts j) → Gd (Wd T) nt i ts j) (HN : ∀ k, (T k).kind = 3 → numN (T k).text ≤ 9223372036854775807)
include C in
theorem l_expr (d i : Nat) : Lf T c (XE (Wd T) i) (expr d) i := lf_call fun ts j h => by
  obtain ⟨t, rfl, ht⟩ := C _ _ _ _ _ h (Nat.le_refl _)
  exact lf_ret ht
theorem l_typ (i : Nat) : Lf T c (fun ty j => Ty (Wd T) ty ∧ i + 1 ≤ j) typ i :=
  lf_peek (lf_ite (fun _ => lf_next (lf_ret ⟨.inl rfl, Nat.le_refl _⟩)) fun _ => lf_ite (fun _ => lf_next (lf_ret ⟨.inr (.inl rfl), Nat.le_refl _⟩)) fun _ =>
    lf_bind lf_need fun a j h => lf_bind lf_word fun b k g => lf_ret ⟨.inr (.inr ⟨_, rfl, by rw [g.1]; exact ⟨j, g.2.1, rfl⟩⟩), by omega⟩)
theorem l_typed (op i : Nat) (ho : op = 3 ∨ op = 5) : Lf T c (XO (Wd T) op i) (typed op) i :=
  lf_bind lf_word fun p j h => lf_bind (l_typ j) fun ty k g => lf_ret ⟨.mk (.var ho (by rw [h.1]; exact ⟨i, h.2.1, rfl⟩) g.1) (fun u hu => by cases hu), rfl, by rw [sizeT_mk, sizeL_nil]; omega⟩
theorem l_named (op i : Nat) (ho : op = 3 ∨ op = 5) : Lf T c (XO (Wd T) op i) (named op) i :=
  lf_bind (l_typed op i ho) fun x j h => lf_bind lf_need fun a k g => lf_ret ⟨h.1, h.2.1, by have := h.2.2; omega⟩
include C in
theorem l_block (d i : Nat) : Lf T c (XO (Wd T) 6 i) (block d) i :=
  lf_bind lf_enter fun a j h => lf_call fun ks k g => lf_ret (by
    have := C _ _ _ _ _ g
    exact ⟨.mk (.block fun u hu => (this.1 u hu).2) (fun u hu => (this.1 u hu).1), rfl, by rw [sizeT_mk]; have := this.2; omega⟩)
include C in
theorem l_struct (i : Nat) : Lf T c (XO (Wd T) 2 i) structure_ i :=
  lf_bind lf_word fun p j h => lf_bind lf_need fun _ k g => lf_bind lf_need fun _ m f => lf_call fun ks n e => lf_ret (by
    have := C _ _ _ _ _ e
    exact ⟨.mk (.struct (by rw [h.1]; exact ⟨i, h.2.1, rfl⟩) fun u hu => (this.1 u hu).2) (fun u hu => (this.1 u hu).1), rfl, by rw [sizeT_mk]; have := this.2; omega⟩)
include C in
theorem l_fparts (i : Nat) : Lf T c (fun ks j => LX (fun t => Al (Wd T) t ∧ t.op = 5) i ks j) fparts i :=
  lf_bind lf_need fun _ j h => lf_peek (lf_ite (fun _ => lf_next (lf_ret (LX.nil (by omega)))) fun _ =>
    lf_bind (l_typed 5 j (.inr rfl)) fun x k g => lf_call fun xs m e => lf_ret (LX.cons ⟨g.1, g.2.1⟩ (by have := g.2.2; omega) (C _ _ _ _ _ e)))
include C in
theorem l_function (d i : Nat) : Lf T c (XO (Wd T) 4 i) (function d) i :=
  lf_bind lf_word fun p j h => lf_bind (l_fparts C j) fun ks k g =>
    lf_bind (Ψ := fun ty m => (ty = [] ∨ Ty (Wd T) ty) ∧ k ≤ m) (lf_peek (lf_ite (fun _ => lf_ret ⟨.inl rfl, Nat.le_refl _⟩) fun _ => (l_typ k).imp fun a j h => ⟨.inr h.1, by omega⟩)) fun ty m f =>
      lf_bind (l_block C d m) fun b n e => lf_ret ⟨.mk (.func (by rw [h.1]; exact ⟨i, h.2.1, rfl⟩) f.1 (fun u hu => (g.1 u hu).2) e.2.1) (fun u hu => by
        rcases List.mem_append.1 hu with hu | hu
        · exact (g.1 u hu).1
        · obtain rfl := List.mem_singleton.1 hu; exact e.1), rfl, by rw [sizeT_mk, sizeL_append, sizeL_cons, sizeL_nil]; have := g.2; have := e.2.2; omega⟩
include C in
theorem l_decl (d i : Nat) : Lf T c (fun t j => (Al (Wd T) t ∧ (t.op = 2 ∨ t.op = 3 ∨ t.op = 4)) ∧ i + sizeT t ≤ j) (decl d) i :=
  lf_peek (lf_ite (fun _ => lf_next ((l_struct C _).imp fun a j h => ⟨⟨h.1, .inl h.2.1⟩, by have := h.2.2; omega⟩)) fun _ =>
    lf_ite (fun _ => lf_next ((l_named 3 _ (.inl rfl)).imp fun a j h => ⟨⟨h.1, .inr (.inl h.2.1)⟩, by have := h.2.2; omega⟩)) fun _ =>
    lf_ite (fun _ => lf_next ((l_function C d _).imp fun a j h => ⟨⟨h.1, .inr (.inr h.2.1)⟩, by have := h.2.2; omega⟩)) fun _ => lf_fail)
include C in
theorem l_args (d i : Nat) : Lf T c (fun ks j => LX (fun t => Al (Wd T) t ∧ isE t) i ks j) (args d) i :=
  lf_bind lf_enter fun _ j h => lf_peek (lf_ite (fun _ => lf_bind lf_need fun _ k g => lf_ret (LX.nil (by omega))) fun _ =>
    lf_bind (l_expr C (d + 1) j) fun x k g => lf_call fun xs m e => lf_ret (LX.cons ⟨g.1, g.2.1⟩ (by have := g.2.2; omega) (C _ _ _ _ _ e)))
include C in
theorem l_brack (d i : Nat) : Lf T c (XE (Wd T) i) (brack d) i :=
  lf_bind lf_enter fun _ j h => lf_bind (l_expr C (d + 1) j) fun x k g => lf_bind lf_need fun _ m e => lf_ret ⟨g.1, g.2.1, by have := g.2.2; omega⟩
include C in
theorem l_varOrCall (d i : Nat) : Lf T c (XE (Wd T) i) (varOrCall d) i :=
  lf_bind lf_word fun p j h => lf_peek (lf_ite (fun _ => lf_bind (l_args C d j) fun ks k g => lf_ret ⟨.mk (.call (by rw [h.1]; exact ⟨i, h.2.1, rfl⟩) fun u hu => (g.1 u hu).2) (fun u hu => (g.1 u hu).1), ⟨by show 15 ≤ 21; omega, by show 21 ≤ 26; omega⟩, by rw [sizeT_mk]; have := g.2; omega⟩) fun _ =>
    lf_ret ⟨.mk (.name (.inl rfl) (by rw [h.1]; exact ⟨i, h.2.1, rfl⟩)) (fun u hu => by cases hu), ⟨by show 15 ≤ 18; omega, by show 18 ≤ 26; omega⟩, by rw [sizeT_mk, sizeL_nil]; omega⟩)
theorem l_creation (i : Nat) : Lf T c (XE (Wd T) i) creation i :=
  lf_bind lf_need fun _ j h => lf_bind lf_need fun _ k g => lf_bind lf_word fun p m f => lf_bind lf_need fun _ n e => lf_ret ⟨.mk (.name (.inr rfl) (by rw [f.1]; exact ⟨k, f.2.1, rfl⟩)) (fun u hu => by cases hu), ⟨by show 15 ≤ 19; omega, by show 19 ≤ 26; omega⟩, by rw [sizeT_mk, sizeL_nil]; omega⟩
theorem l_input (i : Nat) : Lf T c (XE (Wd T) i) input i :=
  lf_bind lf_need fun _ j h => lf_bind lf_need fun _ k g => lf_bind lf_need fun _ n e => lf_ret ⟨.mk .input (fun u hu => by cases hu), ⟨by show 15 ≤ 22; omega, by show 22 ≤ 26; omega⟩, by rw [sizeT_mk, sizeL_nil]; omega⟩
theorem leaf {W : Tx → Prop} {op : Nat} {n : Int} {i j : Nat} (h : Loc W (.mk op [] [] n i [])) (h1 : 15 ≤ op) (h2 : op ≤ 26) (hj : j = i + 1) : XE W i (.mk op [] [] n i []) j := ⟨.mk h (fun u hu => by cases hu), ⟨h1, h2⟩, by rw [sizeT_mk, sizeL_nil]; omega⟩
include C HN in
theorem l_primary (d i : Nat) : Lf T c (XE (Wd T) i) (primary d) i :=
  lf_peek (lf_ite (fun h => lf_next (lf_ret (leaf (.num (Int.natCast_nonneg _) (HN i h)) (by omega) (by omega) rfl))) fun _ => lf_ite (fun _ => l_varOrCall C d i) fun _ =>
    lf_ite (fun _ => lf_next (lf_ret (leaf (.truth (.inr rfl)) (by omega) (by omega) rfl))) fun _ => lf_ite (fun _ => lf_next (lf_ret (leaf (.truth (.inl rfl)) (by omega) (by omega) rfl))) fun _ =>
    lf_ite (fun _ => lf_next (lf_ret (leaf .none (by omega) (by omega) rfl))) fun _ => lf_ite (fun _ => l_creation i) fun _ => lf_ite (fun _ => l_input i) fun _ => lf_ite (fun _ => l_brack C d i) fun _ => lf_fail)
theorem l_fieldName (i : Nat) : Lf T c (fun p j => Wd T p.2 ∧ i + 2 ≤ j) fieldName i :=
  lf_bind lf_need fun _ j h => lf_word.imp fun p k g => ⟨by rw [g.1]; exact ⟨j, g.2.1, rfl⟩, by omega⟩
include C HN in
theorem l_postfix (d i : Nat) : Lf T c (XE (Wd T) i) (postfix_ d) i :=
  lf_bind (l_primary C HN d i) fun x j h => lf_call fun fs k g => lf_ret (by
    have hg := C _ _ _ _ _ g
    have := fold_bare fs x h.1 h.2.1 hg.1
    exact ⟨this.1, this.2.1, by rw [this.2.2]; have := hg.2; have := h.2.2; omega⟩)
end

end Go.Proofs.YtkahbhfbgdbnfaaGreatDoor

/-
  PLAIN: what is read is a tree of the grammar: statements, signs; all together. Nothing of the program stands here.
-/
namespace Go.Proofs.YtkahbhfbgdbnfaaGreatDoor
open Go.RowKit

theorem find_range (l : List UInt8) : ∀ (n k : Nat), findN l k n = 0 ∨ (k : Int) ≤ findN l k n ∧ findN l k n < k + n := by
  intro n
  induction n with
  | zero => intro k; exact .inl rfl
  | succ n ih =>
    intro k
    rw [findN]
    split
    · right; omega
    · rcases ih (k + 1) with h | h
      · exact .inl h
      · right; omega
theorem lvl_find {l : List UInt8} (h : 1 ≤ lvl l) (h1 : ¬ l = cOr) (h2 : ¬ l = cAnd) : 1 ≤ findN l 1 16 ∧ findN l 1 16 ≤ 16 := by
  unfold lvl at h
  rw [if_neg h1, if_neg h2] at h
  rcases find_range l 16 1 with e | e
  · rw [e] at h; exact absurd h (by decide)
  · omega
theorem Loc.var18 {W : Tx → Prop} {t : Tree} (h : Loc W t) (ho : t.op = 18) : W t.name := by
  cases h with
  | var ho' => simp only [Tree.op] at ho; omega
  | set ho' => simp only [Tree.op] at ho; omega
  | name ho' h => exact h
  | binary ho' => simp only [Tree.op] at ho; omega
  | _ => cases ho
theorem Al.var {W : Tx → Prop} {t : Tree} (h : Al W t) (ho : t.op = 18) : W t.name := by
  cases h with
  | mk h hk => exact h.var18 ho
section
variable {T : Nat → AT} {c : Callee} (C : ∀ nt d i ts j, c nt d i = some (.ok ts j) → Gd (Wd T) nt i ts j) (HN : ∀ k, (T k).kind = 3 → numN (T k).text ≤ 9223372036854775807)
theorem mem1 {X : Tree → Prop} {x : Tree} (h : X x) : ∀ u ∈ [x], X u := fun u hu => by obtain rfl := List.mem_singleton.1 hu; exact h
theorem mem2 {X : Tree → Prop} {x y : Tree} (h : X x) (g : X y) : ∀ u ∈ [x, y], X u := fun u hu => by
  rcases List.mem_cons.1 hu with rfl | hu
  · exact h
  · exact mem1 g u hu
theorem mem3 {X : Tree → Prop} {x y z : Tree} (h : X x) (g : X y) (f : X z) : ∀ u ∈ [x, y, z], X u := fun u hu => by
  rcases List.mem_cons.1 hu with rfl | hu
  · exact h
  · exact mem2 g f u hu
include C in
theorem l_setting (op : Nat) (h : Tree) (d i : Nat) (ho : op = 7 ∨ op = 8) (hw : Wd T h.name) : Lf T c (fun t j => Al (Wd T) t ∧ isS t ∧ i + sizeT t ≤ j) (setting op h d) i :=
  lf_bind (l_expr C d i) fun v j g => lf_bind lf_need fun _ k e => lf_ret ⟨.mk (.set ho hw g.2.1) (mem1 g.1), (show 7 ≤ op ∧ op ≤ 14 by omega), by rw [sizeT_mk, sizeL_cons, sizeL_nil]; have := g.2.2; omega⟩
include C in
theorem l_put (h : Tree) (d i : Nat) (ha : Al (Wd T) h) (he : isE h) : Lf T c (fun t j => Al (Wd T) t ∧ isS t ∧ i + sizeT t ≤ j + sizeT h) (put h d) i :=
  lf_bind (l_fieldName i) fun p j g => lf_call fun fs k f => lf_bind lf_need fun _ m e => lf_bind (l_expr C d m) fun v n v1 => lf_bind lf_need fun _ q e2 => lf_ret (by
    have hf := C _ _ _ _ _ f
    have := put_al fs h (bare p) v ha he ⟨_, _, rfl, g.1⟩ hf.1 v1.1 v1.2.1
    have hb : sizeT (bare p) = 1 := rfl
    refine ⟨this.1, ⟨by rw [this.2.1]; omega, by rw [this.2.1]; omega⟩, ?_⟩
    rw [this.2.2]
    have := hf.2
    have := v1.2.2
    omega)
include C HN in
theorem l_simple (d i : Nat) : Lf T c (XS (Wd T) i) (simple d) i :=
  lf_peek (lf_bind (l_primary C HN d i) fun h j g => lf_peek (
    lf_ite (fun q => lf_next (lf_ret ⟨.mk (.act q.2.1) (mem1 g.1), ⟨by show 7 ≤ 14; omega, by show 14 ≤ 14; omega⟩, by rw [sizeT_mk, sizeL_cons, sizeL_nil]; have := g.2.2; omega⟩)) fun _ =>
    lf_ite (fun q => lf_next ((l_setting C 7 h d _ (.inl rfl) (g.1.var q.2.1)).imp fun t k f => ⟨f.1, f.2.1, by have := f.2.2; have := g.2.2; omega⟩)) fun _ =>
    lf_ite (fun q => lf_next ((l_setting C 8 h d _ (.inr rfl) (g.1.var q.2.1)).imp fun t k f => ⟨f.1, f.2.1, by have := f.2.2; have := g.2.2; omega⟩)) fun _ =>
    (l_put C h d j g.1 g.2.1).imp fun t k f => ⟨f.1, f.2.1, by have := f.2.2; have := g.2.2; omega⟩))
include C in
theorem l_loop (d i : Nat) : Lf T c (XS (Wd T) i) (loop d) i :=
  lf_bind lf_need fun _ j h => lf_bind (l_expr C d j) fun x k g => lf_bind (l_block C d k) fun b m f => lf_ret ⟨.mk (.loop g.2.1 f.2.1) (mem2 g.1 f.1), ⟨by show 7 ≤ 11; omega, by show 11 ≤ 14; omega⟩, by rw [sizeT_mk, sizeL_cons, sizeL_cons, sizeL_nil]; have := g.2.2; have := f.2.2; omega⟩
include C in
theorem l_print (d i : Nat) : Lf T c (XS (Wd T) i) (print d) i :=
  lf_bind lf_need fun _ j h => lf_bind (l_brack C d j) fun x k g => lf_bind lf_need fun _ m f => lf_ret ⟨.mk (.print g.2.1) (mem1 g.1), ⟨by show 7 ≤ 12; omega, by show 12 ≤ 14; omega⟩, by rw [sizeT_mk, sizeL_cons, sizeL_nil]; have := g.2.2; omega⟩
include C in
theorem l_giveBack (d i : Nat) : Lf T c (XS (Wd T) i) (giveBack d) i :=
  lf_bind lf_need fun _ j h => lf_bind (Ψ := fun ks k => (ks = [] ∧ j ≤ k) ∨ ∃ x, ks = [x] ∧ XE (Wd T) j x k) (lf_peek (lf_ite (fun _ => lf_ret (.inl ⟨rfl, Nat.le_refl _⟩)) fun _ => lf_bind (l_expr C d j) fun x k g => lf_ret (.inr ⟨x, rfl, g⟩))) fun ks k g =>
    lf_bind lf_need fun _ m f => lf_ret (by
      rcases g with ⟨rfl, hk⟩ | ⟨x, rfl, hx⟩
      · exact ⟨.mk .back0 (fun u hu => by cases hu), ⟨by show 7 ≤ 13; omega, by show 13 ≤ 14; omega⟩, by rw [sizeT_mk, sizeL_nil]; omega⟩
      · exact ⟨.mk (.back1 hx.2.1) (mem1 hx.1), ⟨by show 7 ≤ 13; omega, by show 13 ≤ 14; omega⟩, by rw [sizeT_mk, sizeL_cons, sizeL_nil]; have := hx.2.2; omega⟩)
include C in
theorem l_other (d i : Nat) : Lf T c (fun t j => Al (Wd T) t ∧ (t.op = 6 ∨ t.op = 10) ∧ i + sizeT t ≤ j) (other d) i :=
  lf_peek (lf_ite (fun _ => lf_call fun ts j h => by
    obtain ⟨t, rfl, ht⟩ := C _ _ _ _ _ h
    exact lf_ret ⟨ht.1, .inr ht.2.1, ht.2.2⟩) fun _ => (l_block C d i).imp fun t j h => ⟨h.1, .inl h.2.1, h.2.2⟩)
include C in
theorem l_branch (d i : Nat) : Lf T c (XO (Wd T) 10 i) (branch d) i :=
  lf_bind lf_need fun _ j h => lf_bind (l_expr C d j) fun x k g => lf_bind (l_block C d k) fun b m f => lf_peek (
    lf_ite (fun _ => lf_next (lf_bind (l_other C d (m + 1)) fun e n o => lf_ret ⟨.mk (.conde g.2.1 f.2.1 o.2.1) (mem3 g.1 f.1 o.1), rfl, by rw [sizeT_mk, sizeL_cons, sizeL_cons, sizeL_cons, sizeL_nil]; have := g.2.2; have := f.2.2; have := o.2.2; omega⟩)) fun _ =>
    lf_ret ⟨.mk (.cond g.2.1 f.2.1) (mem2 g.1 f.1), rfl, by rw [sizeT_mk, sizeL_cons, sizeL_cons, sizeL_nil]; have := g.2.2; have := f.2.2; omega⟩)
include C HN in
theorem l_stmt (d i : Nat) : Lf T c (XS (Wd T) i) (stmt d) i :=
  lf_peek (lf_ite (fun _ => lf_call fun ts j h => by
    obtain ⟨t, rfl, ht⟩ := C _ _ _ _ _ h
    exact lf_ret ⟨ht.1, ⟨by show 7 ≤ t.op; rw [ht.2.1]; omega, by show t.op ≤ 14; rw [ht.2.1]; omega⟩, ht.2.2⟩) fun _ => lf_ite (fun _ => l_loop C d i) fun _ => lf_ite (fun _ => l_print C d i) fun _ => lf_ite (fun _ => l_giveBack C d i) fun _ => l_simple C HN d i)
include C HN in
theorem l_unary (d i : Nat) : Lf T c (XE (Wd T) i) (unary d) i :=
  lf_peek (lf_ite (fun _ => l_postfix C HN d i) fun q => lf_bind lf_enter fun _ j h => lf_bind (Ψ := XE (Wd T) j) (lf_call fun ts k g => by
    obtain ⟨t, rfl, ht⟩ := C _ _ _ _ _ g
    exact lf_ret ht) fun x k g => lf_ret ⟨.mk (.unary (by rcases find_range (T i).text 2 17 with e | e; exact absurd e q; omega) g.2.1) (mem1 g.1), ⟨by show 15 ≤ 23; omega, by show 23 ≤ 26; omega⟩, by rw [sizeT_mk, sizeL_cons, sizeL_nil]; have := g.2.2; omega⟩)
include C in
theorem l_binary (l d i : Nat) (hl : 1 ≤ l) : Lf T c (XE (Wd T) i) (binary l d) i :=
  lf_call fun xs j h => lf_call fun hs k g => lf_ret (by
    obtain ⟨x, rfl, hx⟩ := C _ _ _ _ _ h
    have hg := C _ _ _ _ _ g hl
    have := fold_half hs x hx.1 hx.2.1 hg.1
    exact ⟨this.1, this.2.1, by show i + sizeT (hs.foldl _ x) ≤ k; rw [this.2.2]; have := hg.2; have := hx.2.2; omega⟩)
theorem half_is {W : Tx → Prop} {t : AT} {i : Nat} {r : Tree} (hl : 1 ≤ lvl t.text) (h : Al W r) (he : isE r) : Half W (half t i r) ∧ sizeT (half t i r) = sizeT r + 1 := by
  unfold half
  split
  · exact ⟨⟨26, 0, i, r, rfl, .inr ⟨.inr rfl, rfl⟩, h, he⟩, rfl⟩
  · split
    · exact ⟨⟨25, 0, i, r, rfl, .inr ⟨.inl rfl, rfl⟩, h, he⟩, rfl⟩
    · exact ⟨⟨24, _, i, r, rfl, .inl ⟨rfl, lvl_find hl ‹_› ‹_›⟩, h, he⟩, rfl⟩
theorem l_single {X : Tree → Nat → Prop} {p : Pr Tree} {i : Nat} (h : Lf T c X p i) : Lf T c (fun ts j => ∃ t, ts = [t] ∧ X t j) (single p) i := lf_bind h fun a _ g => lf_ret ⟨a, rfl, g⟩
include C HN in
theorem l_body (nt : NT) (d i : Nat) : Lf T c (Gd (Wd T) nt i) (body nt d) i := by
  cases nt with
  | decls => exact lf_peek (lf_ite (fun _ => lf_ret (LX.nil (Nat.le_refl _))) fun _ => lf_bind (l_decl C d i) fun x j h => lf_call fun xs k g => lf_ret (LX.cons h.1 h.2 (C _ _ _ _ _ g)))
  | parts => exact lf_peek (lf_ite (fun _ => lf_next (lf_ret (LX.nil (by omega)))) fun _ => lf_bind (l_named 5 i (.inr rfl)) fun x j h => lf_call fun xs k g => lf_ret (LX.cons ⟨h.1, h.2.1⟩ h.2.2 (C _ _ _ _ _ g)))
  | params => exact lf_peek (lf_ite (fun _ => lf_next (lf_bind (l_typed 5 (i + 1) (.inr rfl)) fun x j h => lf_call fun xs k g => lf_ret (LX.cons ⟨h.1, h.2.1⟩ (by have := h.2.2; omega) (C _ _ _ _ _ g)))) fun _ => lf_bind lf_need fun _ j h => lf_ret (LX.nil (by omega)))
  | stmts => exact lf_peek (lf_ite (fun _ => lf_next (lf_ret (LX.nil (by omega)))) fun _ => lf_call fun x j h => lf_call fun xs k g => lf_ret (by
      obtain ⟨t, rfl, ht⟩ := C _ _ _ _ _ h
      exact LX.cons ⟨ht.1, ht.2.1⟩ ht.2.2 (C _ _ _ _ _ g)))
  | stmt => exact l_single (l_stmt C HN d i)
  | branch => exact l_single (l_branch C d i)
  | binary l => exact fun a j e hl => l_single (l_binary C l d i hl) a j e
  | tail l =>
    intro a j e hl
    have key : Lf T c (LX (Half (Wd T)) i) (body (.tail l) d) i := lf_peek (lf_ite (fun _ => lf_ret (LX.nil (Nat.le_refl _))) (fun q => lf_next (lf_call fun rs k h => lf_call fun hs m g => lf_ret (by
      obtain ⟨r, rfl, hr⟩ := C _ _ _ _ _ h (by omega)
      have hh := half_is (t := T i) (i := i) (by omega) hr.1 hr.2.1
      exact LX.cons hh.1 (by show i + sizeT (half (T i) i r) ≤ k; rw [hh.2]; have := hr.2.2; omega) (C _ _ _ _ _ g hl)))))
    exact key a j e
  | unary => exact l_single (l_unary C HN d i)
  | fields => exact lf_peek (lf_ite (fun _ => lf_bind (l_fieldName i) fun p j h => lf_call fun fs k g => lf_ret (LX.cons ⟨_, _, rfl, h.1⟩ (by have h9 : sizeT (bare p) = 1 := rfl; omega) (C _ _ _ _ _ g))) fun _ => lf_ret (LX.nil (Nat.le_refl _)))
  | args => exact lf_peek (lf_ite (fun _ => lf_next (lf_bind (l_expr C d (i + 1)) fun x j h => lf_call fun xs k g => lf_ret (LX.cons ⟨h.1, h.2.1⟩ (by have := h.2.2; omega) (C _ _ _ _ _ g)))) fun _ => lf_bind lf_need fun _ j h => lf_ret (LX.nil (by omega)))
end
theorem P_good {T : Nat → AT} (HN : ∀ k, (T k).kind = 3 → numN (T k).text ≤ 9223372036854775807) (n : Nat) : ∀ nt d i ts j, P T n nt d i = some (.ok ts j) → Gd (Wd T) nt i ts j := by
  induction n with
  | zero => intro nt d i ts j h; cases h
  | succ n ih => intro nt d i ts j h; exact l_body ih HN nt d i ts j h

end Go.Proofs.YtkahbhfbgdbnfaaGreatDoor

/-
  PLAIN: what a source that is read gives.
-/
namespace Go.Proofs.YtkahbhfbgdbnfaaGreatDoor
open Go.RowKit

theorem TokS.num_le {l : List UInt8} {ts : List Tok} (h : TokS l ts) (k : Nat) (hk : (Tf ts k).kind = 3) : numN (Tf ts k).text ≤ 9223372036854775807 := by
  unfold Tf at hk ⊢
  cases hg : ts[k]? with
  | none => rw [hg] at hk; cases hk
  | some t =>
    rw [hg] at hk
    simp only at hk ⊢
    have hf := tok_facts (h.ok _ (List.mem_of_getElem? hg))
    obtain ⟨-, -, h2, -⟩ : t.kind = 3 ∧ t.text.all digB = true ∧ parE t.text = 0 ∧ 0 < t.text.length := by
      rcases hf with hf | hf | hf | hf
      · omega
      · omega
      · exact hf
      · omega
    unfold parE at h2
    unfold numN
    split at h2
    · split at h2
      · omega
      · cases h2
    · cases h2
theorem parsed {l : List UInt8} {ts : List Tok} {ks : List Tree} (h : parseR l = .ok ts ks) : TokS l ts ∧ LX (fun t => Al (Wd (Tf ts)) t ∧ (t.op = 2 ∨ t.op = 3 ∨ t.op = 4)) 0 ks ts.length := by
  unfold parseR at h
  cases hs : scanR l with
  | bad p e => rw [hs] at h; cases h
  | ok ts' =>
    rw [hs] at h
    have hT := toks_of hs
    cases hp : P (Tf ts') (fuelT ts') .decls 0 0 with
    | none => simp only [hp, treeR] at h; cases h
    | some r =>
      simp only [hp, treeR] at h
      cases r with
      | bad j e => cases h
      | ok ks' j =>
        obtain ⟨rfl, rfl⟩ : ts' = ts ∧ ks' = ks := by injection h with a b; exact ⟨a, b⟩
        have hg := P_good hT.num_le _ _ _ _ _ _ hp
        have hj := P_prog hT.sent (nt := .decls) trivial (Nat.zero_le _) hp
        exact ⟨hT, hg.1, by have := hg.2; omega⟩

end Go.Proofs.YtkahbhfbgdbnfaaGreatDoor

/-
  PLAIN: an error of the reader is 1 or 3; a text's error is not 0, and its place lies in the text. Nothing of the program stands here.
-/
namespace Go.Proofs.YtkahbhfbgdbnfaaGreatDoor
open Go.RowKit

/-- Every fail is with 1 or 3. -/
def Fz {α : Type} : Pr α → Prop
  | .ret _ => True
  | .fail e => e = 1 ∨ e = 3
  | .peek k => ∀ i t, Fz (k i t)
  | .next p => Fz p
  | .call _ _ k => ∀ ts, Fz (k ts)
theorem fz_bind {α β : Type} {p : Pr α} {f : α → Pr β} (h : Fz p) (g : ∀ a, Fz (f a)) : Fz (p.bind f) := by
  induction p with
  | ret a => exact g a
  | fail e => exact h
  | peek k ih => exact fun i t => ih i t (h i t)
  | next p ih => exact ih h
  | call nt d k ih => exact fun ts => ih ts (h ts)
theorem fz_ite {α : Type} {q : Prop} [Decidable q] {p r : Pr α} (h : Fz p) (g : Fz r) : Fz (if q then p else r) := by split <;> assumption
theorem fz_run {α : Type} {T : Nat → AT} {c : Callee} (hc : ∀ nt d i j e, c nt d i = some (.bad j e) → e = 1 ∨ e = 3) (p : Pr α) : ∀ (i j e : Nat), Fz p → runW T c p i = some (.bad j e) → e = 1 ∨ e = 3 := by
  induction p with
  | ret a => intro i j e _ h; cases h
  | fail e' => intro i j e h h'; cases h'; exact h
  | peek k ih => intro i j e h h'; exact ih i (T i) i j e (h i (T i)) h'
  | next p ih => intro i j e h h'; exact ih (i + 1) j e h h'
  | call nt d k ih =>
    intro i j e h h'
    simp only [runW] at h'
    cases hr : c nt d i with
    | none => rw [hr] at h'; cases h'
    | some r =>
      rw [hr] at h'
      cases r with
      | bad j' e' => cases h'; exact hc _ _ _ _ _ hr
      | ok ts k' => exact ih ts k' j e (h ts) h'
theorem fz_need (s : List UInt8) : Fz (need s) := fun _ _ => fz_ite trivial (.inl rfl)
theorem fz_word : Fz word := fun _ _ => fz_ite trivial (.inl rfl)
theorem fz_enter (d : Nat) (s : List UInt8) : Fz (enter d s) := fun _ _ => fz_ite (fz_ite (.inr rfl) trivial) (.inl rfl)
theorem fz_typ : Fz typ := fun _ _ => fz_ite trivial (fz_ite trivial (fz_bind (fz_need _) fun _ => fz_bind fz_word fun _ => trivial))
theorem fz_typed (op : Nat) : Fz (typed op) := fz_bind fz_word fun _ => fz_bind fz_typ fun _ => trivial
theorem fz_named (op : Nat) : Fz (named op) := fz_bind (fz_typed op) fun _ => fz_bind (fz_need _) fun _ => trivial
theorem fz_one (nt : NT) (d : Nat) : Fz (one nt d) := fun _ => trivial
theorem fz_block (d : Nat) : Fz (block d) := fz_bind (fz_enter _ _) fun _ _ => trivial
theorem fz_struct : Fz structure_ := fz_bind fz_word fun _ => fz_bind (fz_need _) fun _ => fz_bind (fz_need _) fun _ _ => trivial
theorem fz_fparts : Fz fparts := fz_bind (fz_need _) fun _ _ _ => fz_ite trivial (fz_bind (fz_typed 5) fun _ _ => trivial)
theorem fz_function (d : Nat) : Fz (function d) := fz_bind fz_word fun _ => fz_bind fz_fparts fun _ => fz_bind (show Fz (Pr.peek _) from fun _ _ => fz_ite trivial fz_typ) fun _ => fz_bind (fz_block d) fun _ => trivial
theorem fz_decl (d : Nat) : Fz (decl d) := fun _ _ => fz_ite fz_struct (fz_ite (fz_named 3) (fz_ite (fz_function d) (.inl rfl)))
theorem fz_args (d : Nat) : Fz (args d) := fz_bind (fz_enter _ _) fun _ _ _ => fz_ite (fz_bind (fz_need _) fun _ => trivial) (fz_bind (fz_one _ _) fun _ _ => trivial)
theorem fz_brack (d : Nat) : Fz (brack d) := fz_bind (fz_enter _ _) fun _ => fz_bind (fz_one _ _) fun _ => fz_bind (fz_need _) fun _ => trivial
theorem fz_varOrCall (d : Nat) : Fz (varOrCall d) := fz_bind fz_word fun _ _ _ => fz_ite (fz_bind (fz_args d) fun _ => trivial) trivial
theorem fz_creation : Fz creation := fz_bind (fz_need _) fun _ => fz_bind (fz_need _) fun _ => fz_bind fz_word fun _ => fz_bind (fz_need _) fun _ => trivial
theorem fz_input : Fz input := fz_bind (fz_need _) fun _ => fz_bind (fz_need _) fun _ => fz_bind (fz_need _) fun _ => trivial
theorem fz_primary (d : Nat) : Fz (primary d) := fun _ _ => fz_ite trivial (fz_ite (fz_varOrCall d) (fz_ite trivial (fz_ite trivial (fz_ite trivial (fz_ite fz_creation (fz_ite fz_input (fz_ite (fz_brack d) (.inl rfl))))))))
theorem fz_fieldName : Fz fieldName := fz_bind (fz_need _) fun _ => fz_word
theorem fz_postfix (d : Nat) : Fz (postfix_ d) := fz_bind (fz_primary d) fun _ _ => trivial
theorem fz_setting (op : Nat) (h : Tree) (d : Nat) : Fz (setting op h d) := fz_bind (fz_one _ _) fun _ => fz_bind (fz_need _) fun _ => trivial
theorem fz_put (h : Tree) (d : Nat) : Fz (put h d) := fz_bind fz_fieldName fun _ _ => fz_bind (fz_need _) fun _ => fz_bind (fz_one _ _) fun _ => fz_bind (fz_need _) fun _ => trivial
theorem fz_simple (d : Nat) : Fz (simple d) := fun _ _ => fz_bind (fz_primary d) fun h _ _ => fz_ite trivial (fz_ite (fz_setting 7 h d) (fz_ite (fz_setting 8 h d) (fz_put h d)))
theorem fz_loop (d : Nat) : Fz (loop d) := fz_bind (fz_need _) fun _ => fz_bind (fz_one _ _) fun _ => fz_bind (fz_block d) fun _ => trivial
theorem fz_print (d : Nat) : Fz (print d) := fz_bind (fz_need _) fun _ => fz_bind (fz_brack d) fun _ => fz_bind (fz_need _) fun _ => trivial
theorem fz_giveBack (d : Nat) : Fz (giveBack d) := fz_bind (fz_need _) fun _ => fz_bind (show Fz (Pr.peek _) from fun _ _ => fz_ite trivial (fz_bind (fz_one _ _) fun _ => trivial)) fun _ => fz_bind (fz_need _) fun _ => trivial
theorem fz_other (d : Nat) : Fz (other d) := fun _ _ => fz_ite (fz_one _ _) (fz_block d)
theorem fz_branch (d : Nat) : Fz (branch d) := fz_bind (fz_need _) fun _ => fz_bind (fz_one _ _) fun _ => fz_bind (fz_block d) fun _ _ _ => fz_ite (fz_bind (p := other d) (fz_other d) fun _ => trivial) trivial
theorem fz_stmt (d : Nat) : Fz (stmt d) := fun _ _ => fz_ite (fz_one _ _) (fz_ite (fz_loop d) (fz_ite (fz_print d) (fz_ite (fz_giveBack d) (fz_simple d))))
theorem fz_unary (d : Nat) : Fz (unary d) := fun _ _ => fz_ite (fz_postfix d) (fz_bind (fz_enter _ _) fun _ => fz_bind (fz_one _ _) fun _ => trivial)
theorem fz_single {p : Pr Tree} (h : Fz p) : Fz (single p) := fz_bind h fun _ => trivial
theorem fz_body (nt : NT) (d : Nat) : Fz (body nt d) := by
  cases nt with
  | decls => exact fun _ _ => fz_ite trivial (fz_bind (fz_decl d) fun _ _ => trivial)
  | parts => exact fun _ _ => fz_ite trivial (fz_bind (fz_named 5) fun _ _ => trivial)
  | params => exact fun _ _ => fz_ite (show Fz (Pr.bind _ _) from fz_bind (fz_typed 5) fun _ _ => trivial) (fz_bind (fz_need _) fun _ => trivial)
  | stmts => exact fun _ _ => fz_ite trivial (fun _ _ => trivial)
  | stmt => exact fz_single (fz_stmt d)
  | branch => exact fz_single (fz_branch d)
  | binary l => exact fz_single (fun _ _ => trivial)
  | tail l => exact fun _ _ => fz_ite trivial (fun _ _ => trivial)
  | unary => exact fz_single (fz_unary d)
  | fields => exact fun _ _ => fz_ite (fz_bind fz_fieldName fun _ _ => trivial) trivial
  | args => exact fun _ _ => fz_ite (show Fz (Pr.bind _ _) from fz_bind (fz_one _ _) fun _ _ => trivial) (fz_bind (fz_need _) fun _ => trivial)
theorem P_err {T : Nat → AT} (n : Nat) : ∀ nt d i j e, P T n nt d i = some (.bad j e) → e = 1 ∨ e = 3 := by
  induction n with
  | zero => intro nt d i j e h; cases h
  | succ n ih => intro nt d i j e h; exact fz_run ih _ i j e (fz_body nt d) h
theorem parse_err {l : List UInt8} {p e : Nat} (h : parseR l = .bad p e) : ¬ e = 0 := by
  unfold parseR at h
  cases hs : scanR l with
  | bad p' e' =>
    rw [hs] at h
    obtain ⟨rfl, rfl⟩ : p' = p ∧ e' = e := by injection h with a b; exact ⟨a, b⟩
    unfold scanR at hs
    split at hs
    · injection hs with a b; omega
    · exact (sc_bad_lt l l.length 0 _ _ (by omega) hs).2
  | ok ts =>
    rw [hs] at h
    have hT := toks_of hs
    obtain ⟨r, hr, -⟩ := P_total hT.sent (fuelT ts) .decls 0 0 trivial (Nat.zero_le _) (by simp [fuelT, rank])
    simp only [hr, treeR] at h
    cases r with
    | ok ks j => cases h
    | bad j e' =>
      have := P_err _ _ _ _ _ _ hr
      injection h with a b
      omega

end Go.Proofs.YtkahbhfbgdbnfaaGreatDoor
