/-
  PLAIN: what is read is a tree of the grammar: statements, signs; all together. Nothing of the program stands here.
-/
import Derived.Test.YtfbejfoalnhihaaGreatDoorJ5
namespace Go.Proofs.YtfbejfoalnhihaaGreatDoor
open Go.RowKit

theorem find_range (l : List UInt8) : ∀ (n k : Nat), findN l k n = 0 ∨ (k : Int) ≤ findN l k n ∧ findN l k n < k + n := by
  intro n
  induction n with
  | zero => intro k; exact .inl rfl
  | succ n ih =>
    intro k
    rw [findN]
    split
    · right; omega
    · rcases ih (k + 1) with h | h
      · exact .inl h
      · right; omega
theorem lvl_find {l : List UInt8} (h : 1 ≤ lvl l) (h1 : ¬ l = cOr) (h2 : ¬ l = cAnd) : 1 ≤ findN l 1 16 ∧ findN l 1 16 ≤ 16 := by
  unfold lvl at h
  rw [if_neg h1, if_neg h2] at h
  rcases find_range l 16 1 with e | e
  · rw [e] at h; exact absurd h (by decide)
  · omega
theorem Loc.var18 {W : Tx → Prop} {t : Tree} (h : Loc W t) (ho : t.op = 18) : W t.name := by
  cases h with
  | var ho' => simp only [Tree.op] at ho; omega
  | set ho' => simp only [Tree.op] at ho; omega
  | name ho' h => exact h
  | binary ho' => simp only [Tree.op] at ho; omega
  | _ => cases ho
theorem Al.var {W : Tx → Prop} {t : Tree} (h : Al W t) (ho : t.op = 18) : W t.name := by
  cases h with
  | mk h hk => exact h.var18 ho
section
variable {T : Nat → AT} {c : Callee} (C : ∀ nt d i ts j, c nt d i = some (.ok ts j) → Gd (Wd T) nt i ts j) (HN : ∀ k, (T k).kind = 3 → numN (T k).text ≤ 9223372036854775807)
theorem mem1 {X : Tree → Prop} {x : Tree} (h : X x) : ∀ u ∈ [x], X u := fun u hu => by obtain rfl := List.mem_singleton.1 hu; exact h
theorem mem2 {X : Tree → Prop} {x y : Tree} (h : X x) (g : X y) : ∀ u ∈ [x, y], X u := fun u hu => by
  rcases List.mem_cons.1 hu with rfl | hu
  · exact h
  · exact mem1 g u hu
theorem mem3 {X : Tree → Prop} {x y z : Tree} (h : X x) (g : X y) (f : X z) : ∀ u ∈ [x, y, z], X u := fun u hu => by
  rcases List.mem_cons.1 hu with rfl | hu
  · exact h
  · exact mem2 g f u hu
include C in
theorem l_setting (op : Nat) (h : Tree) (d i : Nat) (ho : op = 7 ∨ op = 8) (hw : Wd T h.name) : Lf T c (fun t j => Al (Wd T) t ∧ isS t ∧ i + sizeT t ≤ j) (setting op h d) i :=
  lf_bind (l_expr C d i) fun v j g => lf_bind lf_need fun _ k e => lf_ret ⟨.mk (.set ho hw g.2.1) (mem1 g.1), (show 7 ≤ op ∧ op ≤ 14 by omega), by rw [sizeT_mk, sizeL_cons, sizeL_nil]; have := g.2.2; omega⟩
include C in
theorem l_put (h : Tree) (d i : Nat) (ha : Al (Wd T) h) (he : isE h) : Lf T c (fun t j => Al (Wd T) t ∧ isS t ∧ i + sizeT t ≤ j + sizeT h) (put h d) i :=
  lf_bind (l_fieldName i) fun p j g => lf_call fun fs k f => lf_bind lf_need fun _ m e => lf_bind (l_expr C d m) fun v n v1 => lf_bind lf_need fun _ q e2 => lf_ret (by
    have hf := C _ _ _ _ _ f
    have := put_al fs h (bare p) v ha he ⟨_, _, rfl, g.1⟩ hf.1 v1.1 v1.2.1
    have hb : sizeT (bare p) = 1 := rfl
    refine ⟨this.1, ⟨by rw [this.2.1]; omega, by rw [this.2.1]; omega⟩, ?_⟩
    rw [this.2.2]
    have := hf.2
    have := v1.2.2
    omega)
include C HN in
theorem l_simple (d i : Nat) : Lf T c (XS (Wd T) i) (simple d) i :=
  lf_peek (lf_bind (l_primary C HN d i) fun h j g => lf_peek (
    lf_ite (fun q => lf_next (lf_ret ⟨.mk (.act q.2.1) (mem1 g.1), ⟨by show 7 ≤ 14; omega, by show 14 ≤ 14; omega⟩, by rw [sizeT_mk, sizeL_cons, sizeL_nil]; have := g.2.2; omega⟩)) fun _ =>
    lf_ite (fun q => lf_next ((l_setting C 7 h d _ (.inl rfl) (g.1.var q.2.1)).imp fun t k f => ⟨f.1, f.2.1, by have := f.2.2; have := g.2.2; omega⟩)) fun _ =>
    lf_ite (fun q => lf_next ((l_setting C 8 h d _ (.inr rfl) (g.1.var q.2.1)).imp fun t k f => ⟨f.1, f.2.1, by have := f.2.2; have := g.2.2; omega⟩)) fun _ =>
    (l_put C h d j g.1 g.2.1).imp fun t k f => ⟨f.1, f.2.1, by have := f.2.2; have := g.2.2; omega⟩))
include C in
theorem l_loop (d i : Nat) : Lf T c (XS (Wd T) i) (loop d) i :=
  lf_bind lf_need fun _ j h => lf_bind (l_expr C d j) fun x k g => lf_bind (l_block C d k) fun b m f => lf_ret ⟨.mk (.loop g.2.1 f.2.1) (mem2 g.1 f.1), ⟨by show 7 ≤ 11; omega, by show 11 ≤ 14; omega⟩, by rw [sizeT_mk, sizeL_cons, sizeL_cons, sizeL_nil]; have := g.2.2; have := f.2.2; omega⟩
include C in
theorem l_print (d i : Nat) : Lf T c (XS (Wd T) i) (print d) i :=
  lf_bind lf_need fun _ j h => lf_bind (l_brack C d j) fun x k g => lf_bind lf_need fun _ m f => lf_ret ⟨.mk (.print g.2.1) (mem1 g.1), ⟨by show 7 ≤ 12; omega, by show 12 ≤ 14; omega⟩, by rw [sizeT_mk, sizeL_cons, sizeL_nil]; have := g.2.2; omega⟩
include C in
theorem l_giveBack (d i : Nat) : Lf T c (XS (Wd T) i) (giveBack d) i :=
  lf_bind lf_need fun _ j h => lf_bind (Ψ := fun ks k => (ks = [] ∧ j ≤ k) ∨ ∃ x, ks = [x] ∧ XE (Wd T) j x k) (lf_peek (lf_ite (fun _ => lf_ret (.inl ⟨rfl, Nat.le_refl _⟩)) fun _ => lf_bind (l_expr C d j) fun x k g => lf_ret (.inr ⟨x, rfl, g⟩))) fun ks k g =>
    lf_bind lf_need fun _ m f => lf_ret (by
      rcases g with ⟨rfl, hk⟩ | ⟨x, rfl, hx⟩
      · exact ⟨.mk .back0 (fun u hu => by cases hu), ⟨by show 7 ≤ 13; omega, by show 13 ≤ 14; omega⟩, by rw [sizeT_mk, sizeL_nil]; omega⟩
      · exact ⟨.mk (.back1 hx.2.1) (mem1 hx.1), ⟨by show 7 ≤ 13; omega, by show 13 ≤ 14; omega⟩, by rw [sizeT_mk, sizeL_cons, sizeL_nil]; have := hx.2.2; omega⟩)
include C in
theorem l_other (d i : Nat) : Lf T c (fun t j => Al (Wd T) t ∧ (t.op = 6 ∨ t.op = 10) ∧ i + sizeT t ≤ j) (other d) i :=
  lf_peek (lf_ite (fun _ => lf_call fun ts j h => by
    obtain ⟨t, rfl, ht⟩ := C _ _ _ _ _ h
    exact lf_ret ⟨ht.1, .inr ht.2.1, ht.2.2⟩) fun _ => (l_block C d i).imp fun t j h => ⟨h.1, .inl h.2.1, h.2.2⟩)
include C in
theorem l_branch (d i : Nat) : Lf T c (XO (Wd T) 10 i) (branch d) i :=
  lf_bind lf_need fun _ j h => lf_bind (l_expr C d j) fun x k g => lf_bind (l_block C d k) fun b m f => lf_peek (
    lf_ite (fun _ => lf_next (lf_bind (l_other C d (m + 1)) fun e n o => lf_ret ⟨.mk (.conde g.2.1 f.2.1 o.2.1) (mem3 g.1 f.1 o.1), rfl, by rw [sizeT_mk, sizeL_cons, sizeL_cons, sizeL_cons, sizeL_nil]; have := g.2.2; have := f.2.2; have := o.2.2; omega⟩)) fun _ =>
    lf_ret ⟨.mk (.cond g.2.1 f.2.1) (mem2 g.1 f.1), rfl, by rw [sizeT_mk, sizeL_cons, sizeL_cons, sizeL_nil]; have := g.2.2; have := f.2.2; omega⟩)
include C HN in
theorem l_stmt (d i : Nat) : Lf T c (XS (Wd T) i) (stmt d) i :=
  lf_peek (lf_ite (fun _ => lf_call fun ts j h => by
    obtain ⟨t, rfl, ht⟩ := C _ _ _ _ _ h
    exact lf_ret ⟨ht.1, ⟨by show 7 ≤ t.op; rw [ht.2.1]; omega, by show t.op ≤ 14; rw [ht.2.1]; omega⟩, ht.2.2⟩) fun _ => lf_ite (fun _ => l_loop C d i) fun _ => lf_ite (fun _ => l_print C d i) fun _ => lf_ite (fun _ => l_giveBack C d i) fun _ => l_simple C HN d i)
include C HN in
theorem l_unary (d i : Nat) : Lf T c (XE (Wd T) i) (unary d) i :=
  lf_peek (lf_ite (fun _ => l_postfix C HN d i) fun q => lf_bind lf_enter fun _ j h => lf_bind (Ψ := XE (Wd T) j) (lf_call fun ts k g => by
    obtain ⟨t, rfl, ht⟩ := C _ _ _ _ _ g
    exact lf_ret ht) fun x k g => lf_ret ⟨.mk (.unary (by rcases find_range (T i).text 2 17 with e | e; exact absurd e q; omega) g.2.1) (mem1 g.1), ⟨by show 15 ≤ 23; omega, by show 23 ≤ 26; omega⟩, by rw [sizeT_mk, sizeL_cons, sizeL_nil]; have := g.2.2; omega⟩)
include C in
theorem l_binary (l d i : Nat) (hl : 1 ≤ l) : Lf T c (XE (Wd T) i) (binary l d) i :=
  lf_call fun xs j h => lf_call fun hs k g => lf_ret (by
    obtain ⟨x, rfl, hx⟩ := C _ _ _ _ _ h
    have hg := C _ _ _ _ _ g hl
    have := fold_half hs x hx.1 hx.2.1 hg.1
    exact ⟨this.1, this.2.1, by show i + sizeT (hs.foldl _ x) ≤ k; rw [this.2.2]; have := hg.2; have := hx.2.2; omega⟩)
theorem half_is {W : Tx → Prop} {t : AT} {i : Nat} {r : Tree} (hl : 1 ≤ lvl t.text) (h : Al W r) (he : isE r) : Half W (half t i r) ∧ sizeT (half t i r) = sizeT r + 1 := by
  unfold half
  split
  · exact ⟨⟨26, 0, i, r, rfl, .inr ⟨.inr rfl, rfl⟩, h, he⟩, rfl⟩
  · split
    · exact ⟨⟨25, 0, i, r, rfl, .inr ⟨.inl rfl, rfl⟩, h, he⟩, rfl⟩
    · exact ⟨⟨24, _, i, r, rfl, .inl ⟨rfl, lvl_find hl ‹_› ‹_›⟩, h, he⟩, rfl⟩
theorem l_single {X : Tree → Nat → Prop} {p : Pr Tree} {i : Nat} (h : Lf T c X p i) : Lf T c (fun ts j => ∃ t, ts = [t] ∧ X t j) (single p) i := lf_bind h fun a _ g => lf_ret ⟨a, rfl, g⟩
include C HN in
theorem l_body (nt : NT) (d i : Nat) : Lf T c (Gd (Wd T) nt i) (body nt d) i := by
  cases nt with
  | decls => exact lf_peek (lf_ite (fun _ => lf_ret (LX.nil (Nat.le_refl _))) fun _ => lf_bind (l_decl C d i) fun x j h => lf_call fun xs k g => lf_ret (LX.cons h.1 h.2 (C _ _ _ _ _ g)))
  | parts => exact lf_peek (lf_ite (fun _ => lf_next (lf_ret (LX.nil (by omega)))) fun _ => lf_bind (l_named 5 i (.inr rfl)) fun x j h => lf_call fun xs k g => lf_ret (LX.cons ⟨h.1, h.2.1⟩ h.2.2 (C _ _ _ _ _ g)))
  | params => exact lf_peek (lf_ite (fun _ => lf_next (lf_bind (l_typed 5 (i + 1) (.inr rfl)) fun x j h => lf_call fun xs k g => lf_ret (LX.cons ⟨h.1, h.2.1⟩ (by have := h.2.2; omega) (C _ _ _ _ _ g)))) fun _ => lf_bind lf_need fun _ j h => lf_ret (LX.nil (by omega)))
  | stmts => exact lf_peek (lf_ite (fun _ => lf_next (lf_ret (LX.nil (by omega)))) fun _ => lf_call fun x j h => lf_call fun xs k g => lf_ret (by
      obtain ⟨t, rfl, ht⟩ := C _ _ _ _ _ h
      exact LX.cons ⟨ht.1, ht.2.1⟩ ht.2.2 (C _ _ _ _ _ g)))
  | stmt => exact l_single (l_stmt C HN d i)
  | branch => exact l_single (l_branch C d i)
  | binary l => exact fun a j e hl => l_single (l_binary C l d i hl) a j e
  | tail l =>
    intro a j e hl
    have key : Lf T c (LX (Half (Wd T)) i) (body (.tail l) d) i := lf_peek (lf_ite (fun _ => lf_ret (LX.nil (Nat.le_refl _))) (fun q => lf_next (lf_call fun rs k h => lf_call fun hs m g => lf_ret (by
      obtain ⟨r, rfl, hr⟩ := C _ _ _ _ _ h (by omega)
      have hh := half_is (t := T i) (i := i) (by omega) hr.1 hr.2.1
      exact LX.cons hh.1 (by show i + sizeT (half (T i) i r) ≤ k; rw [hh.2]; have := hr.2.2; omega) (C _ _ _ _ _ g hl)))))
    exact key a j e
  | unary => exact l_single (l_unary C HN d i)
  | fields => exact lf_peek (lf_ite (fun _ => lf_bind (l_fieldName i) fun p j h => lf_call fun fs k g => lf_ret (LX.cons ⟨_, _, rfl, h.1⟩ (by have h9 : sizeT (bare p) = 1 := rfl; omega) (C _ _ _ _ _ g))) fun _ => lf_ret (LX.nil (Nat.le_refl _)))
  | args => exact lf_peek (lf_ite (fun _ => lf_next (lf_bind (l_expr C d (i + 1)) fun x j h => lf_call fun xs k g => lf_ret (LX.cons ⟨h.1, h.2.1⟩ (by have := h.2.2; omega) (C _ _ _ _ _ g)))) fun _ => lf_bind lf_need fun _ j h => lf_ret (LX.nil (by omega)))
end
theorem P_good {T : Nat → AT} (HN : ∀ k, (T k).kind = 3 → numN (T k).text ≤ 9223372036854775807) (n : Nat) : ∀ nt d i ts j, P T n nt d i = some (.ok ts j) → Gd (Wd T) nt i ts j := by
  induction n with
  | zero => intro nt d i ts j h; cases h
  | succ n ih => intro nt d i ts j h; exact l_body ih HN nt d i ts j h

end Go.Proofs.YtfbejfoalnhihaaGreatDoor

/-
  CONTRACTS: truth, typeTokens, typed of the shower. Nobody but the shower's own blocks has turned.
-/
namespace Go.Proofs.YtfbejfoalnhihaaGreatDoor
open Go.RowKit

set_option maxRecDepth 100000 in
set_option maxHeartbeats 400000 in
theorem truth_any (w : World) (sb : Nat) (v : Value) (xs : List Tx) (pl : Nat → Nat) (b : Nat) (t : Tree) (h : SH w sb v xs) (hn : NodeAt (fun x => x < sb) pl w b t) (hl : xs.length + ([truthT t.n]).length ≤ 1000000) :
    Calls Tryz.prog 108 #[.pointer (some ⟨sb, 0, none⟩), .agg #[.pointer (some ⟨b, 0, none⟩)]] w (SQ sb v w (xs ++ [truthT t.n])) := by
  have H := Lib.hid h
  have hlt := h.lt
  have HBA := Lib.hid (b1 w (.cells #[.pointer (some ⟨b, 0, none⟩)] 25))
  have S0 := Lib.hid (SST.refl (h.below (b1 w (.cells #[.pointer (some ⟨b, 0, none⟩)] 25))))
  have U := Lib.hid (PtrAt.new w (some ⟨b, 0, none⟩))
  have N := Lib.hid (hn.bl (b1 w (.cells #[.pointer (some ⟨b, 0, none⟩)] 25)))
  have l0 := U.out.lt
  clear h hn
  have hfo := row_op
  have hfn := row_name
  clear hfo hfn
  go_enter Tryz.func108, Tryz.ntmps108
  have U0 := U.out.c0
  go_wp2_with fail
  clear U0
  generalize w.alloc (.cells #[.pointer (some ⟨b, 0, none⟩)] 25) = wa at *
  obtain ⟨Ao, co, hro⟩ := N.out.rowOf
  refine (n_of _ _ _ _ _ _ _ _ _ _ hro).mono ?_
  rintro e w1 ⟨rfl, hb⟩
  clear hro
  have U1 := Lib.hid (U.out.below hb)
  have N1 := Lib.hid (N.out.bl hb)
  have S1 := Lib.hid (S0.out.below hb)
  have z1 := hb.size
  clear U N
  have U := U1
  have N := N1
  clear U1 N1
  clear hb
  by_cases h0 : t.n = 0
  · skip
    have hb0 : (t.n == 0) = true := by rw [h0]; rfl
    have H0 := Lib.hid h0
    clear h0
    have C2 := Lib.hid (show ∀ (j : Nat) (y : Tx), ([kFalse] : List Tx)[j]? = some y → (w1.alloc (.cells #[.string ⟨#[102, 97, 108, 115, 101]⟩] 9)).cell? ⟨w1.heap.size, j, none⟩ = some (.string ⟨y.toArray⟩) from lit_cells w1 [kFalse])
    have U2 := Lib.hid (U.out.below (b1 w1 (.cells #[.string ⟨#[102, 97, 108, 115, 101]⟩] 9)))
    have N2 := Lib.hid (N.out.bl (b1 w1 (.cells #[.string ⟨#[102, 97, 108, 115, 101]⟩] 9)))
    have S2 := Lib.hid (S1.out.below (b1 w1 (.cells #[.string ⟨#[102, 97, 108, 115, 101]⟩] 9)))
    have z2 := (b1 w1 (.cells #[.string ⟨#[102, 97, 108, 115, 101]⟩] 9)).size
    clear U N
    have U := U2
    have N := N2
    clear U2 N2
    have U0 := U.out.c0
    go_wp2_with fail
    clear U0
    generalize w1.alloc (.cells #[.string ⟨#[102, 97, 108, 115, 101]⟩] 9) = wb2 at *
    refine (add_any _ sb _ _ w1.heap.size 1 [kFalse] S2.out.sh (Lib.hid rfl) C2 (by omega) (by first | omega | (simp only [List.length_append, List.length_cons, List.length_nil]; omega) | (simp only [List.length_append, List.length_cons, List.length_nil] at hl ⊢; omega))).mono ?_
    rintro e w3 ⟨v3, rfl, hs⟩
    clear C2
    have U3 := Lib.hid (U.out.sg hs.sg (by omega) (ub_ne S2.out H.out l0))
    have N3 := Lib.hid (N.out.low (hs.sg.low S2.out.sh))
    have S3 := Lib.hid (S2.out.trans hs)
    have z3 := hs.sg.size
    clear U N hs
    have U := U3
    have N := N3
    clear U3 N3
    go_wp2_with fail
    first | refine bodyPost_end (v := .tuple #[]) (by simp [results, Tryz.results108, go_sem]) rfl ?_ | refine bodyPost_ret (v := .tuple #[]) (by simp [results, Tryz.results108, go_sem]) rfl ?_
    have hfin := ((SST.refl H.out).below HBA.out).trans S3.out
    have hx : xs ++ [truthT t.n] = (xs ++ [kFalse]) := by unfold truthT; rw [if_pos H0.out]
    exact ⟨_, rfl, by rw [hx]; exact hfin⟩
  · skip
    have hb0 : (t.n == 0) = false := by simpa using h0
    have H0 := Lib.hid h0
    clear h0
    have C2 := Lib.hid (show ∀ (j : Nat) (y : Tx), ([kTrue] : List Tx)[j]? = some y → (w1.alloc (.cells #[.string ⟨#[116, 114, 117, 101]⟩] 9)).cell? ⟨w1.heap.size, j, none⟩ = some (.string ⟨y.toArray⟩) from lit_cells w1 [kTrue])
    have U2 := Lib.hid (U.out.below (b1 w1 (.cells #[.string ⟨#[116, 114, 117, 101]⟩] 9)))
    have N2 := Lib.hid (N.out.bl (b1 w1 (.cells #[.string ⟨#[116, 114, 117, 101]⟩] 9)))
    have S2 := Lib.hid (S1.out.below (b1 w1 (.cells #[.string ⟨#[116, 114, 117, 101]⟩] 9)))
    have z2 := (b1 w1 (.cells #[.string ⟨#[116, 114, 117, 101]⟩] 9)).size
    clear U N
    have U := U2
    have N := N2
    clear U2 N2
    have U0 := U.out.c0
    go_wp2_with fail
    clear U0
    generalize w1.alloc (.cells #[.string ⟨#[116, 114, 117, 101]⟩] 9) = wb2 at *
    refine (add_any _ sb _ _ w1.heap.size 1 [kTrue] S2.out.sh (Lib.hid rfl) C2 (by omega) (by first | omega | (simp only [List.length_append, List.length_cons, List.length_nil]; omega) | (simp only [List.length_append, List.length_cons, List.length_nil] at hl ⊢; omega))).mono ?_
    rintro e w3 ⟨v3, rfl, hs⟩
    clear C2
    have U3 := Lib.hid (U.out.sg hs.sg (by omega) (ub_ne S2.out H.out l0))
    have N3 := Lib.hid (N.out.low (hs.sg.low S2.out.sh))
    have S3 := Lib.hid (S2.out.trans hs)
    have z3 := hs.sg.size
    clear U N hs
    have U := U3
    have N := N3
    clear U3 N3
    go_wp2_with fail
    first | refine bodyPost_end (v := .tuple #[]) (by simp [results, Tryz.results108, go_sem]) rfl ?_ | refine bodyPost_ret (v := .tuple #[]) (by simp [results, Tryz.results108, go_sem]) rfl ?_
    have hfin := ((SST.refl H.out).below HBA.out).trans S3.out
    have hx : xs ++ [truthT t.n] = (xs ++ [kTrue]) := by unfold truthT; rw [if_neg H0.out]
    exact ⟨_, rfl, by rw [hx]; exact hfin⟩

set_option maxRecDepth 100000 in
set_option maxHeartbeats 400000 in
theorem typeTokens_any (w : World) (sb : Nat) (v : Value) (xs : List Tx) (ty : Tx) (h : SH w sb v xs) (hl : xs.length + 2 ≤ 1000000) :
    Calls Tryz.prog 82 #[.pointer (some ⟨sb, 0, none⟩), .string ⟨ty.toArray⟩] w (SQ sb v w (xs ++ typT ty)) := by
  have H := Lib.hid h
  obtain ⟨r, hr⟩ : ∃ r, elemO ⟨ty.toArray⟩ = r := ⟨_, rfl⟩
  have HE := Lib.hid (elem_any ⟨ty.toArray⟩ r w (Lib.hid h.good.keys) (Lib.hid hr))
  have HR := Lib.hid hr
  clear h hr
  go_enter Tryz.func82, Tryz.ntmps82
  go_wp2_with fail
  refine HE.out.mono ?_
  rintro e w' ⟨rfl, rfl⟩
  clear HE
  cases r with
  | none =>
    unfold elemV
    have HT : Hid (typT ty = [ty]) := by show _ = _; unfold typT; rw [HR.out]
    have C := Lib.hid (show ∀ (j : Nat) (y : Tx), ([ty] : List Tx)[j]? = some y → (w.alloc (.cells #[.string ⟨ty.toArray⟩] 9)).cell? ⟨w.heap.size, j, none⟩ = some (.string ⟨y.toArray⟩) from lit_cells w [ty])
    have S1 := Lib.hid ((SST.refl H.out).below (b1 w (.cells #[.string ⟨ty.toArray⟩] 9)))
    go_wp2_with fail
    generalize w.alloc (.cells #[.string ⟨ty.toArray⟩] 9) = w1 at *
    refine (add_any _ sb _ _ w.heap.size 1 [ty] S1.out.sh (Lib.hid rfl) C (by omega) (by omega)).mono ?_
    rintro e w2 ⟨v2, rfl, hs⟩
    have S2 := Lib.hid (S1.out.trans hs)
    clear hs C
    go_wp2_with fail
    refine bodyPost_end (v := .tuple #[]) (by simp [results, Tryz.results82, go_sem]) rfl ?_
    exact ⟨_, rfl, by rw [HT.out]; exact S2.out⟩
  | some nm =>
    unfold elemV
    have HT : Hid (typT ty = [[42], nm.data.toList]) := by show _ = _; unfold typT; rw [HR.out]
    have C := Lib.hid (show ∀ (j : Nat) (y : Tx), ([[42], nm.data.toList] : List Tx)[j]? = some y → (w.alloc (.cells #[.string ⟨#[42]⟩, .string nm] 9)).cell? ⟨w.heap.size, j, none⟩ = some (.string ⟨y.toArray⟩) from lit_cells w [[42], nm.data.toList])
    have S1 := Lib.hid ((SST.refl H.out).below (b1 w (.cells #[.string ⟨#[42]⟩, .string nm] 9)))
    go_wp2_with fail
    generalize w.alloc (.cells #[.string ⟨#[42]⟩, .string nm] 9) = w1 at *
    refine (add_any _ sb _ _ w.heap.size 2 [[42], nm.data.toList] S1.out.sh (Lib.hid rfl) C (by omega) (by omega)).mono ?_
    rintro e w2 ⟨v2, rfl, hs⟩
    have S2 := Lib.hid (S1.out.trans hs)
    clear hs C
    go_wp2_with fail
    refine bodyPost_ret (v := .tuple #[]) (by simp [results, Tryz.results82, go_sem]) rfl ?_
    exact ⟨_, rfl, by rw [HT.out]; exact S2.out⟩

set_option maxRecDepth 100000 in
set_option maxHeartbeats 400000 in
theorem typedS_any (w : World) (sb : Nat) (v : Value) (xs : List Tx) (pl : Nat → Nat) (b : Nat) (t : Tree) (h : SH w sb v xs) (hn : NodeAt (fun x => x < sb) pl w b t) (hl : xs.length + 3 ≤ 1000000) :
    Calls Tryz.prog 58 #[.pointer (some ⟨sb, 0, none⟩), .agg #[.pointer (some ⟨b, 0, none⟩)]] w (SQ sb v w (xs ++ typedT t)) := by
  have H := Lib.hid h
  have hlt := h.lt
  have HBA := Lib.hid (b1 w (.cells #[.pointer (some ⟨b, 0, none⟩)] 25))
  have S0 := Lib.hid (SST.refl (h.below (b1 w (.cells #[.pointer (some ⟨b, 0, none⟩)] 25))))
  have U := Lib.hid (PtrAt.new w (some ⟨b, 0, none⟩))
  have N := Lib.hid (hn.bl (b1 w (.cells #[.pointer (some ⟨b, 0, none⟩)] 25)))
  have l0 := U.out.lt
  clear h hn
  have hfo := row_op
  have hfn := row_name
  clear hfo hfn
  go_enter Tryz.func58, Tryz.ntmps58
  have U0 := U.out.c0
  go_wp2_with fail
  clear U0
  generalize w.alloc (.cells #[.pointer (some ⟨b, 0, none⟩)] 25) = wa at *
  obtain ⟨Ao, co, hro⟩ := N.out.rowOf
  refine (name_of _ _ _ _ _ _ _ _ _ _ hro).mono ?_
  rintro e w1 ⟨rfl, hb⟩
  clear hro
  have U1 := Lib.hid (U.out.below hb)
  have N1 := Lib.hid (N.out.bl hb)
  have S1 := Lib.hid (S0.out.below hb)
  have z1 := hb.size
  clear U N
  have U := U1
  have N := N1
  clear U1 N1
  clear hb
  have C2 := Lib.hid (show ∀ (j : Nat) (y : Tx), ([t.name] : List Tx)[j]? = some y → (w1.alloc (.cells #[.string ⟨t.name.toArray⟩] 9)).cell? ⟨w1.heap.size, j, none⟩ = some (.string ⟨y.toArray⟩) from lit_cells w1 [t.name])
  have U2 := Lib.hid (U.out.below (b1 w1 (.cells #[.string ⟨t.name.toArray⟩] 9)))
  have N2 := Lib.hid (N.out.bl (b1 w1 (.cells #[.string ⟨t.name.toArray⟩] 9)))
  have S2 := Lib.hid (S1.out.below (b1 w1 (.cells #[.string ⟨t.name.toArray⟩] 9)))
  have z2 := (b1 w1 (.cells #[.string ⟨t.name.toArray⟩] 9)).size
  clear U N
  have U := U2
  have N := N2
  clear U2 N2
  have U0 := U.out.c0
  go_wp2_with fail
  clear U0
  generalize w1.alloc (.cells #[.string ⟨t.name.toArray⟩] 9) = wb2 at *
  refine (add_any _ sb _ _ w1.heap.size 1 [t.name] S2.out.sh (Lib.hid rfl) C2 (by omega) (by first | omega | (simp only [List.length_append, List.length_cons, List.length_nil]; omega) | (simp only [List.length_append, List.length_cons, List.length_nil] at hl ⊢; omega))).mono ?_
  rintro e w3 ⟨v3, rfl, hs⟩
  clear C2
  have U3 := Lib.hid (U.out.sg hs.sg (by omega) (ub_ne S2.out H.out l0))
  have N3 := Lib.hid (N.out.low (hs.sg.low S2.out.sh))
  have S3 := Lib.hid (S2.out.trans hs)
  have z3 := hs.sg.size
  clear U N hs
  have U := U3
  have N := N3
  clear U3 N3
  have U0 := U.out.c0
  go_wp2_with fail
  clear U0
  obtain ⟨Ao, co, hro⟩ := N.out.rowOf
  refine (typ_of _ _ _ _ _ _ _ _ _ _ hro).mono ?_
  rintro e w4 ⟨rfl, hb⟩
  clear hro
  have U4 := Lib.hid (U.out.below hb)
  have N4 := Lib.hid (N.out.bl hb)
  have S4 := Lib.hid (S3.out.below hb)
  have z4 := hb.size
  clear U N
  have U := U4
  have N := N4
  clear U4 N4
  clear hb
  have U0 := U.out.c0
  go_wp2_with fail
  clear U0
  refine (typeTokens_any _ sb _ _ t.typ S4.out.sh (by simp only [List.length_append, List.length_cons, List.length_nil]; omega)).mono ?_
  rintro e w5 ⟨v5, rfl, hs⟩
  have U5 := Lib.hid (U.out.sg hs.sg (by omega) (ub_ne S4.out H.out l0))
  have N5 := Lib.hid (N.out.low (hs.sg.low S4.out.sh))
  have S5 := Lib.hid (S4.out.trans hs)
  have z5 := hs.sg.size
  clear U N hs
  have U := U5
  have N := N5
  clear U5 N5
  go_wp2_with fail
  first | refine bodyPost_end (v := .tuple #[]) (by simp [results, Tryz.results58, go_sem]) rfl ?_ | refine bodyPost_ret (v := .tuple #[]) (by simp [results, Tryz.results58, go_sem]) rfl ?_
  have hfin := ((SST.refl H.out).below HBA.out).trans S5.out
  have hx : xs ++ typedT t = ((xs ++ [t.name]) ++ typT t.typ) := by simp [typedT]
  exact ⟨_, rfl, by rw [hx]; exact hfin⟩

end Go.Proofs.YtfbejfoalnhihaaGreatDoor

/-
  CONTRACT: inBrackets of the shower. Nobody but the shower's own blocks has turned.
-/
namespace Go.Proofs.YtfbejfoalnhihaaGreatDoor
open Go.RowKit

theorem SST.cast {sb : Nat} {v v' : Value} {w w' : World} {xs ys : List Tx} (h : SST sb v w v' w' xs) (e : xs = ys) : SST sb v w v' w' ys := e ▸ h
/-- Each kid is shown by the function F as its item. -/
def Shows (F : FuncId) (sb : Nat) (pl : Nat → Nat) (t : Tree) (m : Nat) (items : List (List Tx)) : Prop :=
  ∀ (k : Nat) (u : Tree) (ys : List Tx), k < m → t.kids[k]? = some u → items[k]? = some ys → ∀ (w' : World) (v' : Value) (xs' : List Tx) (nb : Nat), SH w' sb v' xs' → NodeAt (fun x => x < sb) pl w' nb u → xs'.length + ys.length + 1 ≤ 1000000 → Calls Tryz.prog F #[.pointer (some ⟨sb, 0, none⟩), .agg #[.pointer (some ⟨nb, 0, none⟩)]] w' (SQ sb v' w' (xs' ++ ys))
def BrRel (sb : Nat) (v : Value) (w wa : World) (xs : List Tx) (pl : Nat → Nat) (b : Nat) (t : Tree) (m : Nat) (items : List (List Tx)) (i : Value) (wr : World) : Prop :=
  ∃ (k : Nat) (vr : Value), k ≤ m ∧ i = .int .i64 k ∧ Hid (SST sb v wa vr wr (xs ++ [cLB] ++ commaF (items.take k))) ∧ Hid (PtrAt wr w.heap.size (some ⟨b, 0, none⟩)) ∧ Hid (NodeAt (fun x => x < sb) pl wr b t)
theorem comma_take (items : List (List Tx)) (k : Nat) (ys : List Tx) (h : items[k]? = some ys) : commaF (items.take (k + 1)) = commaF (items.take k) ++ (if k = 0 then ys else cComma :: ys) := by
  have hk := (List.getElem?_eq_some_iff.1 h).1
  rw [List.take_succ_eq_append_getElem hk, commaF_snoc, (List.getElem?_eq_some_iff.1 h).2]
  cases k with
  | zero => simp
  | succ k => rw [if_neg (by cases items with | nil => simp at hk | cons => simp), if_neg (by omega)]
theorem comma_len (items : List (List Tx)) : (commaF items).length = items.flatten.length + (items.length - 1) := by
  have h : ∀ l : List (List Tx), (l.flatMap fun b => cComma :: b).length = l.flatten.length + l.length := by
    intro l
    induction l with
    | nil => simp
    | cons a r ih => simp only [List.flatMap_cons, List.flatten_cons, List.length_append, List.length_cons]; omega
  cases items with
  | nil => simp [commaF]
  | cons a r => have := h r; simp only [commaF, List.flatten_cons, List.length_append, List.length_cons]; omega
theorem flat_take (items : List (List Tx)) (k : Nat) (ys : List Tx) (h : items[k]? = some ys) : (items.take k).flatten.length + ys.length ≤ items.flatten.length := by
  have hk := (List.getElem?_eq_some_iff.1 h).1
  have e := List.take_append_drop k items
  rw [List.drop_eq_getElem_cons hk, (List.getElem?_eq_some_iff.1 h).2] at e
  have := congrArg (fun l => l.flatten.length) e
  simp only [List.flatten_append, List.flatten_cons, List.length_append] at this
  omega
set_option maxRecDepth 100000 in
set_option maxHeartbeats 1000000 in
theorem inBrackets_typed (w : World) (sb : Nat) (v : Value) (xs : List Tx) (pl : Nat → Nat) (b : Nat) (t : Tree) (m : Nat) (items : List (List Tx)) (h : SH w sb v xs) (hn : NodeAt (fun x => x < sb) pl w b t) (hm : Hid (items.length = m)) (hmk : m ≤ t.kids.length) (hF : Hid (Shows 58 sb pl t m items)) (hl : xs.length + (items.flatten.length + (m - 1) + 3) ≤ 1000000) :
    Calls Tryz.prog 83 #[.pointer (some ⟨sb, 0, none⟩), .agg #[.pointer (some ⟨b, 0, none⟩)], .int .i64 m, .func (.func 58) #[.pointer (some ⟨sb, 0, none⟩)] #[]] w (SQ sb v w (xs ++ ([cLB] ++ commaF items ++ [cRB]))) := by
  have HMK := Lib.hid hmk
  have HCL := Lib.hid (comma_len items)
  clear hmk
  have H := Lib.hid h
  have hlt := h.lt
  have HBA := Lib.hid (b1 w (.cells #[.pointer (some ⟨b, 0, none⟩)] 25))
  have S0 := Lib.hid (SST.refl (h.below (b1 w (.cells #[.pointer (some ⟨b, 0, none⟩)] 25))))
  have U := Lib.hid (PtrAt.new w (some ⟨b, 0, none⟩))
  have N := Lib.hid (hn.bl (b1 w (.cells #[.pointer (some ⟨b, 0, none⟩)] 25)))
  have l0 := U.out.lt
  clear h hn
  have hfo := row_op
  have hfn := row_name
  clear hfo hfn
  go_enter Tryz.func83, Tryz.ntmps83
  have U0 := U.out.c0
  have C1 := Lib.hid (show ∀ (j : Nat) (y : Tx), ([cLB] : List Tx)[j]? = some y → ((w.alloc (.cells #[.pointer (some ⟨b, 0, none⟩)] 25)).alloc (.cells #[.string ⟨#[40]⟩] 9)).cell? ⟨(w.alloc (.cells #[.pointer (some ⟨b, 0, none⟩)] 25)).heap.size, j, none⟩ = some (.string ⟨y.toArray⟩) from lit_cells (w.alloc (.cells #[.pointer (some ⟨b, 0, none⟩)] 25)) [cLB])
  rw [show (w.alloc (.cells #[.pointer (some ⟨b, 0, none⟩)] 25)).heap.size = w.heap.size + 1 by simp] at C1
  have U1 := Lib.hid (U.out.below (b1 _ (.cells #[.string ⟨#[40]⟩] 9)))
  have N1 := Lib.hid (N.out.bl (b1 _ (.cells #[.string ⟨#[40]⟩] 9)))
  have S1 := Lib.hid (S0.out.below (b1 _ (.cells #[.string ⟨#[40]⟩] 9)))
  go_wp2_with fail
  clear U0
  generalize (w.alloc (.cells #[.pointer (some ⟨b, 0, none⟩)] 25)).alloc (.cells #[.string ⟨#[40]⟩] 9) = wb at *
  generalize w.alloc (.cells #[.pointer (some ⟨b, 0, none⟩)] 25) = wa at *
  clear U N
  have U := U1
  have N := N1
  clear U1 N1
  refine (add_any _ sb _ _ (w.heap.size + 1) 1 [cLB] S1.out.sh (Lib.hid rfl) C1 (by omega) (by omega)).mono ?_
  rintro e w2 ⟨v2, rfl, hs⟩
  clear C1
  have U2 := Lib.hid (U.out.sg hs.sg (by omega) (ub_ne S1.out H.out l0))
  have N2 := Lib.hid (N.out.low (hs.sg.low S1.out.sh))
  have S2 := Lib.hid (S1.out.trans hs)
  have z2 := hs.sg.size
  clear U N hs
  have U := U2
  have N := N2
  clear U2 N2
  go_wp2_with fail
  go_loopw [13] (fun i wr => BrRel sb v w wa xs pl b t m items i wr) (fun i _ => m - (intOf i).toNat)
  case atStart => exact ⟨0, v2, Nat.zero_le _, rfl, by show SST _ _ _ _ _ _; simpa [commaF] using S2.out, U, N⟩
  case round =>
    obtain ⟨k, vr, hk, rfl, S, U, N⟩ := hrel
    by_cases hlt : k < m
    · skip
      obtain ⟨u, hu⟩ : ∃ u, t.kids[k]? = some u := ⟨_, List.getElem?_eq_getElem (by have := HMK.out; omega)⟩
      obtain ⟨ys, hy⟩ : ∃ ys, items[k]? = some ys := ⟨_, List.getElem?_eq_getElem (by rw [hm.out]; exact hlt)⟩
      have HU := Lib.hid hu
      have HY := Lib.hid hy
      have HCT := Lib.hid (comma_take items k ys hy)
      have hfl := flat_take items k ys hy
      have hcl := comma_len (items.take k)
      have htk : (items.take k).length = k := by rw [List.length_take, hm.out]; omega
      rw [htk] at hcl
      have HTK := Lib.hid htk
      clear hu hy htk
      have hki : (k : Int) < (m : Int) := by omega
      by_cases h0 : k = 0
      · skip
        have hk0 : ¬ (0 : Int) < (k : Int) := by omega
        have H0 := Lib.hid h0
        clear h0
        have U0 := U.out.c0
        go_wp2_with fail
        clear U0
        obtain ⟨nm, hm, hc⟩ := kid_at N.out k u HU.out
        refine hc.mono ?_
        rintro e w3 ⟨rfl, hb⟩
        have M := Lib.hid (hm.bl hb)
        have U3 := Lib.hid (U.out.below hb)
        have N3 := Lib.hid (N.out.bl hb)
        have S3 := Lib.hid (S.out.below hb)
        have z3 := hb.size
        clear U N
        have U := U3
        have N := N3
        clear U3 N3
        clear hb hc hm
        go_wp2_with fail
        refine (hF.out k u ys hlt HU.out HY.out _ _ _ nm S3.out.sh M.out (by simp only [List.length_append, List.length_cons, List.length_nil]; omega)).mono ?_
        rintro e w4 ⟨v4, rfl, hs⟩
        have U4 := Lib.hid (U.out.sg hs.sg (by omega) (ub_ne S3.out H.out l0))
        have N4 := Lib.hid (N.out.low (hs.sg.low S3.out.sh))
        have S4 := Lib.hid (S3.out.trans hs)
        have z4 := hs.sg.size
        clear U N hs
        have U := U4
        have N := N4
        clear U4 N4
        clear M
        go_wp2_with fail
        go_roundw
        case rel => exact ⟨k + 1, _, by omega, by go_num, by show SST _ _ _ _ _ _; have h9 := S4.out; rw [HCT.out, if_pos H0.out]; simpa [List.append_assoc] using h9, U, N⟩
        case measure => simp [intOf]; omega
      · skip
        have hk0 : (0 : Int) < (k : Int) := by omega
        have H0 := Lib.hid h0
        clear h0
        have C3 := Lib.hid (show ∀ (j : Nat) (y : Tx), ([cComma] : List Tx)[j]? = some y → (wr.alloc (.cells #[.string ⟨#[44]⟩] 9)).cell? ⟨wr.heap.size, j, none⟩ = some (.string ⟨y.toArray⟩) from lit_cells wr [cComma])
        have U3 := Lib.hid (U.out.below (b1 wr (.cells #[.string ⟨#[44]⟩] 9)))
        have N3 := Lib.hid (N.out.bl (b1 wr (.cells #[.string ⟨#[44]⟩] 9)))
        have S3 := Lib.hid (S.out.below (b1 wr (.cells #[.string ⟨#[44]⟩] 9)))
        have z3 := (b1 wr (.cells #[.string ⟨#[44]⟩] 9)).size
        clear U N
        have U := U3
        have N := N3
        clear U3 N3
        have U0 := U.out.c0
        go_wp2_with fail
        clear U0
        generalize wr.alloc (.cells #[.string ⟨#[44]⟩] 9) = wb3 at *
        refine (add_any _ sb _ _ wr.heap.size 1 [cComma] S3.out.sh (Lib.hid rfl) C3 (by omega) (by first | omega | (simp only [List.length_append, List.length_cons, List.length_nil]; omega) | (simp only [List.length_append, List.length_cons, List.length_nil] at hl ⊢; omega))).mono ?_
        rintro e w4 ⟨v4, rfl, hs⟩
        clear C3
        have U4 := Lib.hid (U.out.sg hs.sg (by omega) (ub_ne S3.out H.out l0))
        have N4 := Lib.hid (N.out.low (hs.sg.low S3.out.sh))
        have S4 := Lib.hid (S3.out.trans hs)
        have z4 := hs.sg.size
        clear U N hs
        have U := U4
        have N := N4
        clear U4 N4
        have U0 := U.out.c0
        go_wp2_with fail
        clear U0
        obtain ⟨nm, hm, hc⟩ := kid_at N.out k u HU.out
        refine hc.mono ?_
        rintro e w5 ⟨rfl, hb⟩
        have M := Lib.hid (hm.bl hb)
        have U5 := Lib.hid (U.out.below hb)
        have N5 := Lib.hid (N.out.bl hb)
        have S5 := Lib.hid (S4.out.below hb)
        have z5 := hb.size
        clear U N
        have U := U5
        have N := N5
        clear U5 N5
        clear hb hc hm
        go_wp2_with fail
        refine (hF.out k u ys hlt HU.out HY.out _ _ _ nm S5.out.sh M.out (by simp only [List.length_append, List.length_cons, List.length_nil]; omega)).mono ?_
        rintro e w6 ⟨v6, rfl, hs⟩
        have U6 := Lib.hid (U.out.sg hs.sg (by omega) (ub_ne S5.out H.out l0))
        have N6 := Lib.hid (N.out.low (hs.sg.low S5.out.sh))
        have S6 := Lib.hid (S5.out.trans hs)
        have z6 := hs.sg.size
        clear U N hs
        have U := U6
        have N := N6
        clear U6 N6
        clear M
        go_wp2_with fail
        go_roundw
        case rel => exact ⟨k + 1, _, by omega, by go_num, by show SST _ _ _ _ _ _; have h9 := S6.out; rw [HCT.out, if_neg H0.out]; simpa [List.append_assoc] using h9, U, N⟩
        case measure => simp [intOf]; omega
    · skip
      obtain rfl : k = m := by omega
      have htk : items.take k = items := List.take_of_length_le (by rw [hm.out]; exact Nat.le_refl _)
      rw [htk] at S
      clear htk
      have hcl := HCL.out
      rw [hm.out] at hcl
      have C3 := Lib.hid (show ∀ (j : Nat) (y : Tx), ([cRB] : List Tx)[j]? = some y → (wr.alloc (.cells #[.string ⟨#[41]⟩] 9)).cell? ⟨wr.heap.size, j, none⟩ = some (.string ⟨y.toArray⟩) from lit_cells wr [cRB])
      have U3 := Lib.hid (U.out.below (b1 wr (.cells #[.string ⟨#[41]⟩] 9)))
      have N3 := Lib.hid (N.out.bl (b1 wr (.cells #[.string ⟨#[41]⟩] 9)))
      have S3 := Lib.hid (S.out.below (b1 wr (.cells #[.string ⟨#[41]⟩] 9)))
      have z3 := (b1 wr (.cells #[.string ⟨#[41]⟩] 9)).size
      clear U N
      have U := U3
      have N := N3
      clear U3 N3
      have U0 := U.out.c0
      go_wp2_with fail
      clear U0
      generalize wr.alloc (.cells #[.string ⟨#[41]⟩] 9) = wb3 at *
      refine (add_any _ sb _ _ wr.heap.size 1 [cRB] S3.out.sh (Lib.hid rfl) C3 (by omega) (by first | omega | (simp only [List.length_append, List.length_cons, List.length_nil]; omega) | (simp only [List.length_append, List.length_cons, List.length_nil] at hl ⊢; omega))).mono ?_
      rintro e w4 ⟨v4, rfl, hs⟩
      clear C3
      have U4 := Lib.hid (U.out.sg hs.sg (by omega) (ub_ne S3.out H.out l0))
      have N4 := Lib.hid (N.out.low (hs.sg.low S3.out.sh))
      have S4 := Lib.hid (S3.out.trans hs)
      have z4 := hs.sg.size
      clear U N hs
      have U := U4
      have N := N4
      clear U4 N4
      go_wp2_with fail
      first | refine bodyPost_end (v := .tuple #[]) (by simp [results, Tryz.results83, go_sem]) rfl ?_ | refine bodyPost_ret (v := .tuple #[]) (by simp [results, Tryz.results83, go_sem]) rfl ?_
      have hfin := ((SST.refl H.out).below HBA.out).trans S4.out
      have hx : xs ++ ([cLB] ++ commaF items ++ [cRB]) = ((xs ++ [cLB] ++ commaF items) ++ [cRB]) := by simp [List.append_assoc]
      first | exact ⟨_, rfl, hfin.cast hx.symm⟩ | exact ⟨_, rfl, hfin.cast (by simp [List.append_assoc])⟩

set_option maxRecDepth 100000 in
set_option maxHeartbeats 1000000 in
theorem inBrackets_expr (w : World) (sb : Nat) (v : Value) (xs : List Tx) (pl : Nat → Nat) (b : Nat) (t : Tree) (m : Nat) (items : List (List Tx)) (h : SH w sb v xs) (hn : NodeAt (fun x => x < sb) pl w b t) (hm : Hid (items.length = m)) (hmk : m ≤ t.kids.length) (hF : Hid (Shows 86 sb pl t m items)) (hl : xs.length + (items.flatten.length + (m - 1) + 3) ≤ 1000000) :
    Calls Tryz.prog 83 #[.pointer (some ⟨sb, 0, none⟩), .agg #[.pointer (some ⟨b, 0, none⟩)], .int .i64 m, .func (.func 86) #[.pointer (some ⟨sb, 0, none⟩)] #[]] w (SQ sb v w (xs ++ ([cLB] ++ commaF items ++ [cRB]))) := by
  have HMK := Lib.hid hmk
  have HCL := Lib.hid (comma_len items)
  clear hmk
  have H := Lib.hid h
  have hlt := h.lt
  have HBA := Lib.hid (b1 w (.cells #[.pointer (some ⟨b, 0, none⟩)] 25))
  have S0 := Lib.hid (SST.refl (h.below (b1 w (.cells #[.pointer (some ⟨b, 0, none⟩)] 25))))
  have U := Lib.hid (PtrAt.new w (some ⟨b, 0, none⟩))
  have N := Lib.hid (hn.bl (b1 w (.cells #[.pointer (some ⟨b, 0, none⟩)] 25)))
  have l0 := U.out.lt
  clear h hn
  have hfo := row_op
  have hfn := row_name
  clear hfo hfn
  go_enter Tryz.func83, Tryz.ntmps83
  have U0 := U.out.c0
  have C1 := Lib.hid (show ∀ (j : Nat) (y : Tx), ([cLB] : List Tx)[j]? = some y → ((w.alloc (.cells #[.pointer (some ⟨b, 0, none⟩)] 25)).alloc (.cells #[.string ⟨#[40]⟩] 9)).cell? ⟨(w.alloc (.cells #[.pointer (some ⟨b, 0, none⟩)] 25)).heap.size, j, none⟩ = some (.string ⟨y.toArray⟩) from lit_cells (w.alloc (.cells #[.pointer (some ⟨b, 0, none⟩)] 25)) [cLB])
  rw [show (w.alloc (.cells #[.pointer (some ⟨b, 0, none⟩)] 25)).heap.size = w.heap.size + 1 by simp] at C1
  have U1 := Lib.hid (U.out.below (b1 _ (.cells #[.string ⟨#[40]⟩] 9)))
  have N1 := Lib.hid (N.out.bl (b1 _ (.cells #[.string ⟨#[40]⟩] 9)))
  have S1 := Lib.hid (S0.out.below (b1 _ (.cells #[.string ⟨#[40]⟩] 9)))
  go_wp2_with fail
  clear U0
  generalize (w.alloc (.cells #[.pointer (some ⟨b, 0, none⟩)] 25)).alloc (.cells #[.string ⟨#[40]⟩] 9) = wb at *
  generalize w.alloc (.cells #[.pointer (some ⟨b, 0, none⟩)] 25) = wa at *
  clear U N
  have U := U1
  have N := N1
  clear U1 N1
  refine (add_any _ sb _ _ (w.heap.size + 1) 1 [cLB] S1.out.sh (Lib.hid rfl) C1 (by omega) (by omega)).mono ?_
  rintro e w2 ⟨v2, rfl, hs⟩
  clear C1
  have U2 := Lib.hid (U.out.sg hs.sg (by omega) (ub_ne S1.out H.out l0))
  have N2 := Lib.hid (N.out.low (hs.sg.low S1.out.sh))
  have S2 := Lib.hid (S1.out.trans hs)
  have z2 := hs.sg.size
  clear U N hs
  have U := U2
  have N := N2
  clear U2 N2
  go_wp2_with fail
  go_loopw [13] (fun i wr => BrRel sb v w wa xs pl b t m items i wr) (fun i _ => m - (intOf i).toNat)
  case atStart => exact ⟨0, v2, Nat.zero_le _, rfl, by show SST _ _ _ _ _ _; simpa [commaF] using S2.out, U, N⟩
  case round =>
    obtain ⟨k, vr, hk, rfl, S, U, N⟩ := hrel
    by_cases hlt : k < m
    · skip
      obtain ⟨u, hu⟩ : ∃ u, t.kids[k]? = some u := ⟨_, List.getElem?_eq_getElem (by have := HMK.out; omega)⟩
      obtain ⟨ys, hy⟩ : ∃ ys, items[k]? = some ys := ⟨_, List.getElem?_eq_getElem (by rw [hm.out]; exact hlt)⟩
      have HU := Lib.hid hu
      have HY := Lib.hid hy
      have HCT := Lib.hid (comma_take items k ys hy)
      have hfl := flat_take items k ys hy
      have hcl := comma_len (items.take k)
      have htk : (items.take k).length = k := by rw [List.length_take, hm.out]; omega
      rw [htk] at hcl
      have HTK := Lib.hid htk
      clear hu hy htk
      have hki : (k : Int) < (m : Int) := by omega
      by_cases h0 : k = 0
      · skip
        have hk0 : ¬ (0 : Int) < (k : Int) := by omega
        have H0 := Lib.hid h0
        clear h0
        have U0 := U.out.c0
        go_wp2_with fail
        clear U0
        obtain ⟨nm, hm, hc⟩ := kid_at N.out k u HU.out
        refine hc.mono ?_
        rintro e w3 ⟨rfl, hb⟩
        have M := Lib.hid (hm.bl hb)
        have U3 := Lib.hid (U.out.below hb)
        have N3 := Lib.hid (N.out.bl hb)
        have S3 := Lib.hid (S.out.below hb)
        have z3 := hb.size
        clear U N
        have U := U3
        have N := N3
        clear U3 N3
        clear hb hc hm
        go_wp2_with fail
        refine (hF.out k u ys hlt HU.out HY.out _ _ _ nm S3.out.sh M.out (by simp only [List.length_append, List.length_cons, List.length_nil]; omega)).mono ?_
        rintro e w4 ⟨v4, rfl, hs⟩
        have U4 := Lib.hid (U.out.sg hs.sg (by omega) (ub_ne S3.out H.out l0))
        have N4 := Lib.hid (N.out.low (hs.sg.low S3.out.sh))
        have S4 := Lib.hid (S3.out.trans hs)
        have z4 := hs.sg.size
        clear U N hs
        have U := U4
        have N := N4
        clear U4 N4
        clear M
        go_wp2_with fail
        go_roundw
        case rel => exact ⟨k + 1, _, by omega, by go_num, by show SST _ _ _ _ _ _; have h9 := S4.out; rw [HCT.out, if_pos H0.out]; simpa [List.append_assoc] using h9, U, N⟩
        case measure => simp [intOf]; omega
      · skip
        have hk0 : (0 : Int) < (k : Int) := by omega
        have H0 := Lib.hid h0
        clear h0
        have C3 := Lib.hid (show ∀ (j : Nat) (y : Tx), ([cComma] : List Tx)[j]? = some y → (wr.alloc (.cells #[.string ⟨#[44]⟩] 9)).cell? ⟨wr.heap.size, j, none⟩ = some (.string ⟨y.toArray⟩) from lit_cells wr [cComma])
        have U3 := Lib.hid (U.out.below (b1 wr (.cells #[.string ⟨#[44]⟩] 9)))
        have N3 := Lib.hid (N.out.bl (b1 wr (.cells #[.string ⟨#[44]⟩] 9)))
        have S3 := Lib.hid (S.out.below (b1 wr (.cells #[.string ⟨#[44]⟩] 9)))
        have z3 := (b1 wr (.cells #[.string ⟨#[44]⟩] 9)).size
        clear U N
        have U := U3
        have N := N3
        clear U3 N3
        have U0 := U.out.c0
        go_wp2_with fail
        clear U0
        generalize wr.alloc (.cells #[.string ⟨#[44]⟩] 9) = wb3 at *
        refine (add_any _ sb _ _ wr.heap.size 1 [cComma] S3.out.sh (Lib.hid rfl) C3 (by omega) (by first | omega | (simp only [List.length_append, List.length_cons, List.length_nil]; omega) | (simp only [List.length_append, List.length_cons, List.length_nil] at hl ⊢; omega))).mono ?_
        rintro e w4 ⟨v4, rfl, hs⟩
        clear C3
        have U4 := Lib.hid (U.out.sg hs.sg (by omega) (ub_ne S3.out H.out l0))
        have N4 := Lib.hid (N.out.low (hs.sg.low S3.out.sh))
        have S4 := Lib.hid (S3.out.trans hs)
        have z4 := hs.sg.size
        clear U N hs
        have U := U4
        have N := N4
        clear U4 N4
        have U0 := U.out.c0
        go_wp2_with fail
        clear U0
        obtain ⟨nm, hm, hc⟩ := kid_at N.out k u HU.out
        refine hc.mono ?_
        rintro e w5 ⟨rfl, hb⟩
        have M := Lib.hid (hm.bl hb)
        have U5 := Lib.hid (U.out.below hb)
        have N5 := Lib.hid (N.out.bl hb)
        have S5 := Lib.hid (S4.out.below hb)
        have z5 := hb.size
        clear U N
        have U := U5
        have N := N5
        clear U5 N5
        clear hb hc hm
        go_wp2_with fail
        refine (hF.out k u ys hlt HU.out HY.out _ _ _ nm S5.out.sh M.out (by simp only [List.length_append, List.length_cons, List.length_nil]; omega)).mono ?_
        rintro e w6 ⟨v6, rfl, hs⟩
        have U6 := Lib.hid (U.out.sg hs.sg (by omega) (ub_ne S5.out H.out l0))
        have N6 := Lib.hid (N.out.low (hs.sg.low S5.out.sh))
        have S6 := Lib.hid (S5.out.trans hs)
        have z6 := hs.sg.size
        clear U N hs
        have U := U6
        have N := N6
        clear U6 N6
        clear M
        go_wp2_with fail
        go_roundw
        case rel => exact ⟨k + 1, _, by omega, by go_num, by show SST _ _ _ _ _ _; have h9 := S6.out; rw [HCT.out, if_neg H0.out]; simpa [List.append_assoc] using h9, U, N⟩
        case measure => simp [intOf]; omega
    · skip
      obtain rfl : k = m := by omega
      have htk : items.take k = items := List.take_of_length_le (by rw [hm.out]; exact Nat.le_refl _)
      rw [htk] at S
      clear htk
      have hcl := HCL.out
      rw [hm.out] at hcl
      have C3 := Lib.hid (show ∀ (j : Nat) (y : Tx), ([cRB] : List Tx)[j]? = some y → (wr.alloc (.cells #[.string ⟨#[41]⟩] 9)).cell? ⟨wr.heap.size, j, none⟩ = some (.string ⟨y.toArray⟩) from lit_cells wr [cRB])
      have U3 := Lib.hid (U.out.below (b1 wr (.cells #[.string ⟨#[41]⟩] 9)))
      have N3 := Lib.hid (N.out.bl (b1 wr (.cells #[.string ⟨#[41]⟩] 9)))
      have S3 := Lib.hid (S.out.below (b1 wr (.cells #[.string ⟨#[41]⟩] 9)))
      have z3 := (b1 wr (.cells #[.string ⟨#[41]⟩] 9)).size
      clear U N
      have U := U3
      have N := N3
      clear U3 N3
      have U0 := U.out.c0
      go_wp2_with fail
      clear U0
      generalize wr.alloc (.cells #[.string ⟨#[41]⟩] 9) = wb3 at *
      refine (add_any _ sb _ _ wr.heap.size 1 [cRB] S3.out.sh (Lib.hid rfl) C3 (by omega) (by first | omega | (simp only [List.length_append, List.length_cons, List.length_nil]; omega) | (simp only [List.length_append, List.length_cons, List.length_nil] at hl ⊢; omega))).mono ?_
      rintro e w4 ⟨v4, rfl, hs⟩
      clear C3
      have U4 := Lib.hid (U.out.sg hs.sg (by omega) (ub_ne S3.out H.out l0))
      have N4 := Lib.hid (N.out.low (hs.sg.low S3.out.sh))
      have S4 := Lib.hid (S3.out.trans hs)
      have z4 := hs.sg.size
      clear U N hs
      have U := U4
      have N := N4
      clear U4 N4
      go_wp2_with fail
      first | refine bodyPost_end (v := .tuple #[]) (by simp [results, Tryz.results83, go_sem]) rfl ?_ | refine bodyPost_ret (v := .tuple #[]) (by simp [results, Tryz.results83, go_sem]) rfl ?_
      have hfin := ((SST.refl H.out).below HBA.out).trans S4.out
      have hx : xs ++ ([cLB] ++ commaF items ++ [cRB]) = ((xs ++ [cLB] ++ commaF items) ++ [cRB]) := by simp [List.append_assoc]
      first | exact ⟨_, rfl, hfin.cast hx.symm⟩ | exact ⟨_, rfl, hfin.cast (by simp [List.append_assoc])⟩

end Go.Proofs.YtfbejfoalnhihaaGreatDoor

/-
  CONTRACT: expr of the shower, way by way. Nobody but the shower's own blocks has turned.
-/
namespace Go.Proofs.YtfbejfoalnhihaaGreatDoor
open Go.RowKit

/-- The tree u is shown as an expression. -/
def ShE (sb : Nat) (pl : Nat → Nat) (u : Tree) : Prop :=
  ∀ (w' : World) (v' : Value) (xs' : List Tx) (nb : Nat), SH w' sb v' xs' → NodeAt (fun x => x < sb) pl w' nb u → xs'.length + (showE u).length + 1 ≤ 1000000 → Calls Tryz.prog 86 #[.pointer (some ⟨sb, 0, none⟩), .agg #[.pointer (some ⟨nb, 0, none⟩)]] w' (SQ sb v' w' (xs' ++ showE u))
theorem sign_txt (op : Int) (w : World) (hS : SignsIn w) : Calls Tryz.prog 109 #[.int .i64 op] w fun e w' => e = .returned (.string ⟨(signL op).toArray⟩) ∧ w = w' := sign_any op w hS

set_option maxRecDepth 100000 in
set_option maxHeartbeats 1000000 in
theorem pair_shown (w : World) (sb : Nat) (v : Value) (xs : List Tx) (pl : Nat → Nat) (b : Nat) (t : Tree) (sg : Tx) (u0 u1 : Tree) (h : SH w sb v xs) (hn : NodeAt (fun x => x < sb) pl w b t) (hu0 : Hid (t.kids[0]? = some u0)) (hu1 : Hid (t.kids[1]? = some u1)) (hE : Hid (∀ (k : Nat) (u : Tree), t.kids[k]? = some u → ShE sb pl u)) (hl : xs.length + (([cLB] ++ showE u0 ++ [sg] ++ showE u1 ++ [cRB])).length + 1 ≤ 1000000) :
    Calls Tryz.prog 110 #[.pointer (some ⟨sb, 0, none⟩), .agg #[.pointer (some ⟨b, 0, none⟩)], .string ⟨sg.toArray⟩] w (SQ sb v w (xs ++ ([cLB] ++ showE u0 ++ [sg] ++ showE u1 ++ [cRB]))) := by
  have H := Lib.hid h
  have hlt := h.lt
  have HBA := Lib.hid (b1 w (.cells #[.pointer (some ⟨b, 0, none⟩)] 25))
  have S0 := Lib.hid (SST.refl (h.below (b1 w (.cells #[.pointer (some ⟨b, 0, none⟩)] 25))))
  have U := Lib.hid (PtrAt.new w (some ⟨b, 0, none⟩))
  have N := Lib.hid (hn.bl (b1 w (.cells #[.pointer (some ⟨b, 0, none⟩)] 25)))
  have l0 := U.out.lt
  clear h hn
  have hfo := row_op
  have hfn := row_name
  clear hfo hfn
  go_enter Tryz.func110, Tryz.ntmps110
  have U0 := U.out.c0
  have C1 := Lib.hid (show ∀ (j : Nat) (y : Tx), ([cLB] : List Tx)[j]? = some y → ((w.alloc (.cells #[.pointer (some ⟨b, 0, none⟩)] 25)).alloc (.cells #[.string ⟨#[40]⟩] 9)).cell? ⟨(w.alloc (.cells #[.pointer (some ⟨b, 0, none⟩)] 25)).heap.size, j, none⟩ = some (.string ⟨y.toArray⟩) from lit_cells (w.alloc (.cells #[.pointer (some ⟨b, 0, none⟩)] 25)) [cLB])
  rw [show (w.alloc (.cells #[.pointer (some ⟨b, 0, none⟩)] 25)).heap.size = w.heap.size + 1 by simp] at C1
  have U1 := Lib.hid (U.out.below (b1 _ (.cells #[.string ⟨#[40]⟩] 9)))
  have N1 := Lib.hid (N.out.bl (b1 _ (.cells #[.string ⟨#[40]⟩] 9)))
  have S1 := Lib.hid (S0.out.below (b1 _ (.cells #[.string ⟨#[40]⟩] 9)))
  go_wp2_with fail
  clear U0
  generalize (w.alloc (.cells #[.pointer (some ⟨b, 0, none⟩)] 25)).alloc (.cells #[.string ⟨#[40]⟩] 9) = wb at *
  generalize w.alloc (.cells #[.pointer (some ⟨b, 0, none⟩)] 25) = wa at *
  clear U N
  have U := U1
  have N := N1
  clear U1 N1
  simp only [List.length_append, List.length_cons, List.length_nil] at hl
  refine (add_any _ sb _ _ (w.heap.size + 1) 1 [cLB] S1.out.sh (Lib.hid rfl) C1 (by omega) (by omega)).mono ?_
  rintro e w2 ⟨v2, rfl, hs⟩
  clear C1
  have U2 := Lib.hid (U.out.sg hs.sg (by omega) (ub_ne S1.out H.out l0))
  have N2 := Lib.hid (N.out.low (hs.sg.low S1.out.sh))
  have S2 := Lib.hid (S1.out.trans hs)
  have z2 := hs.sg.size
  clear U N hs
  have U := U2
  have N := N2
  clear U2 N2
  have U0 := U.out.c0
  go_wp2_with fail
  clear U0
  obtain ⟨nm, hm, hc⟩ := kid_at N.out 0 u0 hu0.out
  refine hc.mono ?_
  rintro e w3 ⟨rfl, hb⟩
  have M := Lib.hid (hm.bl hb)
  have U3 := Lib.hid (U.out.below hb)
  have N3 := Lib.hid (N.out.bl hb)
  have S3 := Lib.hid (S2.out.below hb)
  have z3 := hb.size
  clear U N
  have U := U3
  have N := N3
  clear U3 N3
  clear hb hc hm
  go_wp2_with fail
  refine (hE.out 0 u0 hu0.out _ _ _ nm S3.out.sh M.out (by first | omega | (simp only [List.length_append, List.length_cons, List.length_nil]; omega) | (simp only [List.length_append, List.length_cons, List.length_nil] at hl ⊢; omega))).mono ?_
  rintro e w4 ⟨v4, rfl, hs⟩
  have U4 := Lib.hid (U.out.sg hs.sg (by omega) (ub_ne S3.out H.out l0))
  have N4 := Lib.hid (N.out.low (hs.sg.low S3.out.sh))
  have S4 := Lib.hid (S3.out.trans hs)
  have z4 := hs.sg.size
  clear U N hs
  have U := U4
  have N := N4
  clear U4 N4
  clear M
  have C5 := Lib.hid (show ∀ (j : Nat) (y : Tx), ([sg] : List Tx)[j]? = some y → (w4.alloc (.cells #[.string ⟨sg.toArray⟩] 9)).cell? ⟨w4.heap.size, j, none⟩ = some (.string ⟨y.toArray⟩) from lit_cells w4 [sg])
  have U5 := Lib.hid (U.out.below (b1 w4 (.cells #[.string ⟨sg.toArray⟩] 9)))
  have N5 := Lib.hid (N.out.bl (b1 w4 (.cells #[.string ⟨sg.toArray⟩] 9)))
  have S5 := Lib.hid (S4.out.below (b1 w4 (.cells #[.string ⟨sg.toArray⟩] 9)))
  have z5 := (b1 w4 (.cells #[.string ⟨sg.toArray⟩] 9)).size
  clear U N
  have U := U5
  have N := N5
  clear U5 N5
  have U0 := U.out.c0
  go_wp2_with fail
  clear U0
  generalize w4.alloc (.cells #[.string ⟨sg.toArray⟩] 9) = wb5 at *
  refine (add_any _ sb _ _ w4.heap.size 1 [sg] S5.out.sh (Lib.hid rfl) C5 (by omega) (by first | omega | (simp only [List.length_append, List.length_cons, List.length_nil]; omega) | (simp only [List.length_append, List.length_cons, List.length_nil] at hl ⊢; omega))).mono ?_
  rintro e w6 ⟨v6, rfl, hs⟩
  clear C5
  have U6 := Lib.hid (U.out.sg hs.sg (by omega) (ub_ne S5.out H.out l0))
  have N6 := Lib.hid (N.out.low (hs.sg.low S5.out.sh))
  have S6 := Lib.hid (S5.out.trans hs)
  have z6 := hs.sg.size
  clear U N hs
  have U := U6
  have N := N6
  clear U6 N6
  have U0 := U.out.c0
  go_wp2_with fail
  clear U0
  obtain ⟨nm, hm, hc⟩ := kid_at N.out 1 u1 hu1.out
  refine hc.mono ?_
  rintro e w7 ⟨rfl, hb⟩
  have M := Lib.hid (hm.bl hb)
  have U7 := Lib.hid (U.out.below hb)
  have N7 := Lib.hid (N.out.bl hb)
  have S7 := Lib.hid (S6.out.below hb)
  have z7 := hb.size
  clear U N
  have U := U7
  have N := N7
  clear U7 N7
  clear hb hc hm
  go_wp2_with fail
  refine (hE.out 1 u1 hu1.out _ _ _ nm S7.out.sh M.out (by first | omega | (simp only [List.length_append, List.length_cons, List.length_nil]; omega) | (simp only [List.length_append, List.length_cons, List.length_nil] at hl ⊢; omega))).mono ?_
  rintro e w8 ⟨v8, rfl, hs⟩
  have U8 := Lib.hid (U.out.sg hs.sg (by omega) (ub_ne S7.out H.out l0))
  have N8 := Lib.hid (N.out.low (hs.sg.low S7.out.sh))
  have S8 := Lib.hid (S7.out.trans hs)
  have z8 := hs.sg.size
  clear U N hs
  have U := U8
  have N := N8
  clear U8 N8
  clear M
  have C9 := Lib.hid (show ∀ (j : Nat) (y : Tx), ([cRB] : List Tx)[j]? = some y → (w8.alloc (.cells #[.string ⟨#[41]⟩] 9)).cell? ⟨w8.heap.size, j, none⟩ = some (.string ⟨y.toArray⟩) from lit_cells w8 [cRB])
  have U9 := Lib.hid (U.out.below (b1 w8 (.cells #[.string ⟨#[41]⟩] 9)))
  have N9 := Lib.hid (N.out.bl (b1 w8 (.cells #[.string ⟨#[41]⟩] 9)))
  have S9 := Lib.hid (S8.out.below (b1 w8 (.cells #[.string ⟨#[41]⟩] 9)))
  have z9 := (b1 w8 (.cells #[.string ⟨#[41]⟩] 9)).size
  clear U N
  have U := U9
  have N := N9
  clear U9 N9
  have U0 := U.out.c0
  go_wp2_with fail
  clear U0
  generalize w8.alloc (.cells #[.string ⟨#[41]⟩] 9) = wb9 at *
  refine (add_any _ sb _ _ w8.heap.size 1 [cRB] S9.out.sh (Lib.hid rfl) C9 (by omega) (by first | omega | (simp only [List.length_append, List.length_cons, List.length_nil]; omega) | (simp only [List.length_append, List.length_cons, List.length_nil] at hl ⊢; omega))).mono ?_
  rintro e w10 ⟨v10, rfl, hs⟩
  clear C9
  have U10 := Lib.hid (U.out.sg hs.sg (by omega) (ub_ne S9.out H.out l0))
  have N10 := Lib.hid (N.out.low (hs.sg.low S9.out.sh))
  have S10 := Lib.hid (S9.out.trans hs)
  have z10 := hs.sg.size
  clear U N hs
  have U := U10
  have N := N10
  clear U10 N10
  go_wp2_with fail
  first | refine bodyPost_end (v := .tuple #[]) (by simp [results, Tryz.results110, go_sem]) rfl ?_ | refine bodyPost_ret (v := .tuple #[]) (by simp [results, Tryz.results110, go_sem]) rfl ?_
  have hfin := ((SST.refl H.out).below HBA.out).trans S10.out
  have hx : xs ++ ([cLB] ++ showE u0 ++ [sg] ++ showE u1 ++ [cRB]) = (((((xs ++ [cLB]) ++ showE u0) ++ [sg]) ++ showE u1) ++ [cRB]) := by simp [List.append_assoc]
  first | exact ⟨_, rfl, hfin.cast hx.symm⟩ | exact ⟨_, rfl, hfin.cast (by simp [List.append_assoc])⟩

set_option maxRecDepth 100000 in
set_option maxHeartbeats 1000000 in
theorem expr_15 (w : World) (sb : Nat) (v : Value) (xs : List Tx) (pl : Nat → Nat) (b : Nat) (t : Tree) (h : SH w sb v xs) (hn : NodeAt (fun x => x < sb) pl w b t) (hop : t.op = 15) (hn0 : 0 ≤ t.n) (hn1 : t.n ≤ 9223372036854775807) (hl : xs.length + ([textN t.n]).length + 1 ≤ 1000000) :
    Calls Tryz.prog 86 #[.pointer (some ⟨sb, 0, none⟩), .agg #[.pointer (some ⟨b, 0, none⟩)]] w (SQ sb v w (xs ++ [textN t.n])) := by
  have H := Lib.hid h
  have hlt := h.lt
  have HBA := Lib.hid (b1 w (.cells #[.pointer (some ⟨b, 0, none⟩)] 25))
  have S0 := Lib.hid (SST.refl (h.below (b1 w (.cells #[.pointer (some ⟨b, 0, none⟩)] 25))))
  have U := Lib.hid (PtrAt.new w (some ⟨b, 0, none⟩))
  have N := Lib.hid (hn.bl (b1 w (.cells #[.pointer (some ⟨b, 0, none⟩)] 25)))
  have l0 := U.out.lt
  clear h hn
  have hfo := row_op
  have hfn := row_name
  clear hfo hfn
  go_enter Tryz.func86, Tryz.ntmps86
  have U0 := U.out.c0
  go_wp2_with fail
  clear U0
  generalize w.alloc (.cells #[.pointer (some ⟨b, 0, none⟩)] 25) = wa at *
  obtain ⟨Ao, co, hro⟩ := N.out.rowOf
  refine (op_of _ _ _ _ _ _ _ _ _ _ hro).mono ?_
  rintro e w1 ⟨rfl, hb⟩
  clear hro
  have U1 := Lib.hid (U.out.below hb)
  have N1 := Lib.hid (N.out.bl hb)
  have S1 := Lib.hid (S0.out.below hb)
  have z1 := hb.size
  clear U N
  have U := U1
  have N := N1
  clear U1 N1
  clear hb
  simp only [List.length_cons, List.length_nil] at hl
  have U0 := U.out.c0
  go_wp2_with fail
  clear U0
  obtain ⟨Ao, co, hro⟩ := N.out.rowOf
  refine (n_of _ _ _ _ _ _ _ _ _ _ hro).mono ?_
  rintro e w2 ⟨rfl, hb⟩
  clear hro
  have U2 := Lib.hid (U.out.below hb)
  have N2 := Lib.hid (N.out.bl hb)
  have S2 := Lib.hid (S1.out.below hb)
  have z2 := hb.size
  clear U N
  have U := U2
  have N := N2
  clear U2 N2
  clear hb
  go_wp2_with fail
  refine (text_any t.n _ S2.out.sh.pow (by omega) (by omega)).mono ?_
  rintro e w3 ⟨rfl, hb⟩
  have U3 := Lib.hid (U.out.below hb)
  have N3 := Lib.hid (N.out.bl hb)
  have S3 := Lib.hid (S2.out.below hb)
  have z3 := hb.size
  clear U N
  have U := U3
  have N := N3
  clear U3 N3
  clear hb
  have C4 := Lib.hid (show ∀ (j : Nat) (y : Tx), ([textN t.n] : List Tx)[j]? = some y → (w3.alloc (.cells #[.string ⟨(textN t.n).toArray⟩] 9)).cell? ⟨w3.heap.size, j, none⟩ = some (.string ⟨y.toArray⟩) from lit_cells w3 [textN t.n])
  have U4 := Lib.hid (U.out.below (b1 w3 (.cells #[.string ⟨(textN t.n).toArray⟩] 9)))
  have N4 := Lib.hid (N.out.bl (b1 w3 (.cells #[.string ⟨(textN t.n).toArray⟩] 9)))
  have S4 := Lib.hid (S3.out.below (b1 w3 (.cells #[.string ⟨(textN t.n).toArray⟩] 9)))
  have z4 := (b1 w3 (.cells #[.string ⟨(textN t.n).toArray⟩] 9)).size
  clear U N
  have U := U4
  have N := N4
  clear U4 N4
  have U0 := U.out.c0
  go_wp2_with fail
  clear U0
  generalize w3.alloc (.cells #[.string ⟨(textN t.n).toArray⟩] 9) = wb4 at *
  refine (add_any _ sb _ _ w3.heap.size 1 [textN t.n] S4.out.sh (Lib.hid rfl) C4 (by omega) (by first | omega | (simp only [List.length_append, List.length_cons, List.length_nil]; omega) | (simp only [List.length_append, List.length_cons, List.length_nil] at hl ⊢; omega))).mono ?_
  rintro e w5 ⟨v5, rfl, hs⟩
  clear C4
  have U5 := Lib.hid (U.out.sg hs.sg (by omega) (ub_ne S4.out H.out l0))
  have N5 := Lib.hid (N.out.low (hs.sg.low S4.out.sh))
  have S5 := Lib.hid (S4.out.trans hs)
  have z5 := hs.sg.size
  clear U N hs
  have U := U5
  have N := N5
  clear U5 N5
  go_wp2_with fail
  first | refine bodyPost_end (v := .tuple #[]) (by simp [results, Tryz.results86, go_sem]) rfl ?_ | refine bodyPost_ret (v := .tuple #[]) (by simp [results, Tryz.results86, go_sem]) rfl ?_
  have hfin := ((SST.refl H.out).below HBA.out).trans S5.out
  have hx : xs ++ [textN t.n] = (xs ++ [textN t.n]) := by simp
  first | exact ⟨_, rfl, hfin.cast hx.symm⟩ | exact ⟨_, rfl, hfin.cast (by simp [List.append_assoc])⟩

set_option maxRecDepth 100000 in
set_option maxHeartbeats 1000000 in
theorem expr_16 (w : World) (sb : Nat) (v : Value) (xs : List Tx) (pl : Nat → Nat) (b : Nat) (t : Tree) (h : SH w sb v xs) (hn : NodeAt (fun x => x < sb) pl w b t) (hop : t.op = 16) (hl : xs.length + ([truthT t.n]).length + 1 ≤ 1000000) :
    Calls Tryz.prog 86 #[.pointer (some ⟨sb, 0, none⟩), .agg #[.pointer (some ⟨b, 0, none⟩)]] w (SQ sb v w (xs ++ [truthT t.n])) := by
  have H := Lib.hid h
  have hlt := h.lt
  have HBA := Lib.hid (b1 w (.cells #[.pointer (some ⟨b, 0, none⟩)] 25))
  have S0 := Lib.hid (SST.refl (h.below (b1 w (.cells #[.pointer (some ⟨b, 0, none⟩)] 25))))
  have U := Lib.hid (PtrAt.new w (some ⟨b, 0, none⟩))
  have N := Lib.hid (hn.bl (b1 w (.cells #[.pointer (some ⟨b, 0, none⟩)] 25)))
  have l0 := U.out.lt
  clear h hn
  have hfo := row_op
  have hfn := row_name
  clear hfo hfn
  go_enter Tryz.func86, Tryz.ntmps86
  have U0 := U.out.c0
  go_wp2_with fail
  clear U0
  generalize w.alloc (.cells #[.pointer (some ⟨b, 0, none⟩)] 25) = wa at *
  obtain ⟨Ao, co, hro⟩ := N.out.rowOf
  refine (op_of _ _ _ _ _ _ _ _ _ _ hro).mono ?_
  rintro e w1 ⟨rfl, hb⟩
  clear hro
  have U1 := Lib.hid (U.out.below hb)
  have N1 := Lib.hid (N.out.bl hb)
  have S1 := Lib.hid (S0.out.below hb)
  have z1 := hb.size
  clear U N
  have U := U1
  have N := N1
  clear U1 N1
  clear hb
  simp only [List.length_cons, List.length_nil] at hl
  have U0 := U.out.c0
  go_wp2_with fail
  clear U0
  refine (truth_any _ sb _ _ pl b t S1.out.sh N.out (by first | omega | (simp only [List.length_cons, List.length_nil]; omega) | (simp only [List.length_append, List.length_cons, List.length_nil] at hl ⊢; omega))).mono ?_
  rintro e w2 ⟨v2, rfl, hs⟩
  have U2 := Lib.hid (U.out.sg hs.sg (by omega) (ub_ne S1.out H.out l0))
  have N2 := Lib.hid (N.out.low (hs.sg.low S1.out.sh))
  have S2 := Lib.hid (S1.out.trans hs)
  have z2 := hs.sg.size
  clear U N hs
  have U := U2
  have N := N2
  clear U2 N2
  go_wp2_with fail
  first | refine bodyPost_end (v := .tuple #[]) (by simp [results, Tryz.results86, go_sem]) rfl ?_ | refine bodyPost_ret (v := .tuple #[]) (by simp [results, Tryz.results86, go_sem]) rfl ?_
  have hfin := ((SST.refl H.out).below HBA.out).trans S2.out
  have hx : xs ++ [truthT t.n] = (xs ++ [truthT t.n]) := by simp
  first | exact ⟨_, rfl, hfin.cast hx.symm⟩ | exact ⟨_, rfl, hfin.cast (by simp [List.append_assoc])⟩

set_option maxRecDepth 100000 in
set_option maxHeartbeats 1000000 in
theorem expr_17 (w : World) (sb : Nat) (v : Value) (xs : List Tx) (pl : Nat → Nat) (b : Nat) (t : Tree) (h : SH w sb v xs) (hn : NodeAt (fun x => x < sb) pl w b t) (hop : t.op = 17) (hl : xs.length + ([kNil]).length + 1 ≤ 1000000) :
    Calls Tryz.prog 86 #[.pointer (some ⟨sb, 0, none⟩), .agg #[.pointer (some ⟨b, 0, none⟩)]] w (SQ sb v w (xs ++ [kNil])) := by
  have H := Lib.hid h
  have hlt := h.lt
  have HBA := Lib.hid (b1 w (.cells #[.pointer (some ⟨b, 0, none⟩)] 25))
  have S0 := Lib.hid (SST.refl (h.below (b1 w (.cells #[.pointer (some ⟨b, 0, none⟩)] 25))))
  have U := Lib.hid (PtrAt.new w (some ⟨b, 0, none⟩))
  have N := Lib.hid (hn.bl (b1 w (.cells #[.pointer (some ⟨b, 0, none⟩)] 25)))
  have l0 := U.out.lt
  clear h hn
  have hfo := row_op
  have hfn := row_name
  clear hfo hfn
  go_enter Tryz.func86, Tryz.ntmps86
  have U0 := U.out.c0
  go_wp2_with fail
  clear U0
  generalize w.alloc (.cells #[.pointer (some ⟨b, 0, none⟩)] 25) = wa at *
  obtain ⟨Ao, co, hro⟩ := N.out.rowOf
  refine (op_of _ _ _ _ _ _ _ _ _ _ hro).mono ?_
  rintro e w1 ⟨rfl, hb⟩
  clear hro
  have U1 := Lib.hid (U.out.below hb)
  have N1 := Lib.hid (N.out.bl hb)
  have S1 := Lib.hid (S0.out.below hb)
  have z1 := hb.size
  clear U N
  have U := U1
  have N := N1
  clear U1 N1
  clear hb
  simp only [List.length_cons, List.length_nil] at hl
  have C2 := Lib.hid (show ∀ (j : Nat) (y : Tx), ([kNil] : List Tx)[j]? = some y → (w1.alloc (.cells #[.string ⟨#[110, 105, 108]⟩] 9)).cell? ⟨w1.heap.size, j, none⟩ = some (.string ⟨y.toArray⟩) from lit_cells w1 [kNil])
  have U2 := Lib.hid (U.out.below (b1 w1 (.cells #[.string ⟨#[110, 105, 108]⟩] 9)))
  have N2 := Lib.hid (N.out.bl (b1 w1 (.cells #[.string ⟨#[110, 105, 108]⟩] 9)))
  have S2 := Lib.hid (S1.out.below (b1 w1 (.cells #[.string ⟨#[110, 105, 108]⟩] 9)))
  have z2 := (b1 w1 (.cells #[.string ⟨#[110, 105, 108]⟩] 9)).size
  clear U N
  have U := U2
  have N := N2
  clear U2 N2
  have U0 := U.out.c0
  go_wp2_with fail
  clear U0
  generalize w1.alloc (.cells #[.string ⟨#[110, 105, 108]⟩] 9) = wb2 at *
  refine (add_any _ sb _ _ w1.heap.size 1 [kNil] S2.out.sh (Lib.hid rfl) C2 (by omega) (by first | omega | (simp only [List.length_append, List.length_cons, List.length_nil]; omega) | (simp only [List.length_append, List.length_cons, List.length_nil] at hl ⊢; omega))).mono ?_
  rintro e w3 ⟨v3, rfl, hs⟩
  clear C2
  have U3 := Lib.hid (U.out.sg hs.sg (by omega) (ub_ne S2.out H.out l0))
  have N3 := Lib.hid (N.out.low (hs.sg.low S2.out.sh))
  have S3 := Lib.hid (S2.out.trans hs)
  have z3 := hs.sg.size
  clear U N hs
  have U := U3
  have N := N3
  clear U3 N3
  go_wp2_with fail
  first | refine bodyPost_end (v := .tuple #[]) (by simp [results, Tryz.results86, go_sem]) rfl ?_ | refine bodyPost_ret (v := .tuple #[]) (by simp [results, Tryz.results86, go_sem]) rfl ?_
  have hfin := ((SST.refl H.out).below HBA.out).trans S3.out
  have hx : xs ++ [kNil] = (xs ++ [kNil]) := by simp
  first | exact ⟨_, rfl, hfin.cast hx.symm⟩ | exact ⟨_, rfl, hfin.cast (by simp [List.append_assoc])⟩

set_option maxRecDepth 100000 in
set_option maxHeartbeats 1000000 in
theorem expr_18 (w : World) (sb : Nat) (v : Value) (xs : List Tx) (pl : Nat → Nat) (b : Nat) (t : Tree) (h : SH w sb v xs) (hn : NodeAt (fun x => x < sb) pl w b t) (hop : t.op = 18) (hl : xs.length + ([t.name]).length + 1 ≤ 1000000) :
    Calls Tryz.prog 86 #[.pointer (some ⟨sb, 0, none⟩), .agg #[.pointer (some ⟨b, 0, none⟩)]] w (SQ sb v w (xs ++ [t.name])) := by
  have H := Lib.hid h
  have hlt := h.lt
  have HBA := Lib.hid (b1 w (.cells #[.pointer (some ⟨b, 0, none⟩)] 25))
  have S0 := Lib.hid (SST.refl (h.below (b1 w (.cells #[.pointer (some ⟨b, 0, none⟩)] 25))))
  have U := Lib.hid (PtrAt.new w (some ⟨b, 0, none⟩))
  have N := Lib.hid (hn.bl (b1 w (.cells #[.pointer (some ⟨b, 0, none⟩)] 25)))
  have l0 := U.out.lt
  clear h hn
  have hfo := row_op
  have hfn := row_name
  clear hfo hfn
  go_enter Tryz.func86, Tryz.ntmps86
  have U0 := U.out.c0
  go_wp2_with fail
  clear U0
  generalize w.alloc (.cells #[.pointer (some ⟨b, 0, none⟩)] 25) = wa at *
  obtain ⟨Ao, co, hro⟩ := N.out.rowOf
  refine (op_of _ _ _ _ _ _ _ _ _ _ hro).mono ?_
  rintro e w1 ⟨rfl, hb⟩
  clear hro
  have U1 := Lib.hid (U.out.below hb)
  have N1 := Lib.hid (N.out.bl hb)
  have S1 := Lib.hid (S0.out.below hb)
  have z1 := hb.size
  clear U N
  have U := U1
  have N := N1
  clear U1 N1
  clear hb
  simp only [List.length_cons, List.length_nil] at hl
  have U0 := U.out.c0
  go_wp2_with fail
  clear U0
  obtain ⟨Ao, co, hro⟩ := N.out.rowOf
  refine (name_of _ _ _ _ _ _ _ _ _ _ hro).mono ?_
  rintro e w2 ⟨rfl, hb⟩
  clear hro
  have U2 := Lib.hid (U.out.below hb)
  have N2 := Lib.hid (N.out.bl hb)
  have S2 := Lib.hid (S1.out.below hb)
  have z2 := hb.size
  clear U N
  have U := U2
  have N := N2
  clear U2 N2
  clear hb
  have C3 := Lib.hid (show ∀ (j : Nat) (y : Tx), ([t.name] : List Tx)[j]? = some y → (w2.alloc (.cells #[.string ⟨t.name.toArray⟩] 9)).cell? ⟨w2.heap.size, j, none⟩ = some (.string ⟨y.toArray⟩) from lit_cells w2 [t.name])
  have U3 := Lib.hid (U.out.below (b1 w2 (.cells #[.string ⟨t.name.toArray⟩] 9)))
  have N3 := Lib.hid (N.out.bl (b1 w2 (.cells #[.string ⟨t.name.toArray⟩] 9)))
  have S3 := Lib.hid (S2.out.below (b1 w2 (.cells #[.string ⟨t.name.toArray⟩] 9)))
  have z3 := (b1 w2 (.cells #[.string ⟨t.name.toArray⟩] 9)).size
  clear U N
  have U := U3
  have N := N3
  clear U3 N3
  have U0 := U.out.c0
  go_wp2_with fail
  clear U0
  generalize w2.alloc (.cells #[.string ⟨t.name.toArray⟩] 9) = wb3 at *
  refine (add_any _ sb _ _ w2.heap.size 1 [t.name] S3.out.sh (Lib.hid rfl) C3 (by omega) (by first | omega | (simp only [List.length_append, List.length_cons, List.length_nil]; omega) | (simp only [List.length_append, List.length_cons, List.length_nil] at hl ⊢; omega))).mono ?_
  rintro e w4 ⟨v4, rfl, hs⟩
  clear C3
  have U4 := Lib.hid (U.out.sg hs.sg (by omega) (ub_ne S3.out H.out l0))
  have N4 := Lib.hid (N.out.low (hs.sg.low S3.out.sh))
  have S4 := Lib.hid (S3.out.trans hs)
  have z4 := hs.sg.size
  clear U N hs
  have U := U4
  have N := N4
  clear U4 N4
  go_wp2_with fail
  first | refine bodyPost_end (v := .tuple #[]) (by simp [results, Tryz.results86, go_sem]) rfl ?_ | refine bodyPost_ret (v := .tuple #[]) (by simp [results, Tryz.results86, go_sem]) rfl ?_
  have hfin := ((SST.refl H.out).below HBA.out).trans S4.out
  have hx : xs ++ [t.name] = (xs ++ [t.name]) := by simp
  first | exact ⟨_, rfl, hfin.cast hx.symm⟩ | exact ⟨_, rfl, hfin.cast (by simp [List.append_assoc])⟩

set_option maxRecDepth 100000 in
set_option maxHeartbeats 1000000 in
theorem expr_19 (w : World) (sb : Nat) (v : Value) (xs : List Tx) (pl : Nat → Nat) (b : Nat) (t : Tree) (h : SH w sb v xs) (hn : NodeAt (fun x => x < sb) pl w b t) (hop : t.op = 19) (hl : xs.length + ([kNew, cLB, t.name, cRB]).length + 1 ≤ 1000000) :
    Calls Tryz.prog 86 #[.pointer (some ⟨sb, 0, none⟩), .agg #[.pointer (some ⟨b, 0, none⟩)]] w (SQ sb v w (xs ++ [kNew, cLB, t.name, cRB])) := by
  have H := Lib.hid h
  have hlt := h.lt
  have HBA := Lib.hid (b1 w (.cells #[.pointer (some ⟨b, 0, none⟩)] 25))
  have S0 := Lib.hid (SST.refl (h.below (b1 w (.cells #[.pointer (some ⟨b, 0, none⟩)] 25))))
  have U := Lib.hid (PtrAt.new w (some ⟨b, 0, none⟩))
  have N := Lib.hid (hn.bl (b1 w (.cells #[.pointer (some ⟨b, 0, none⟩)] 25)))
  have l0 := U.out.lt
  clear h hn
  have hfo := row_op
  have hfn := row_name
  clear hfo hfn
  go_enter Tryz.func86, Tryz.ntmps86
  have U0 := U.out.c0
  go_wp2_with fail
  clear U0
  generalize w.alloc (.cells #[.pointer (some ⟨b, 0, none⟩)] 25) = wa at *
  obtain ⟨Ao, co, hro⟩ := N.out.rowOf
  refine (op_of _ _ _ _ _ _ _ _ _ _ hro).mono ?_
  rintro e w1 ⟨rfl, hb⟩
  clear hro
  have U1 := Lib.hid (U.out.below hb)
  have N1 := Lib.hid (N.out.bl hb)
  have S1 := Lib.hid (S0.out.below hb)
  have z1 := hb.size
  clear U N
  have U := U1
  have N := N1
  clear U1 N1
  clear hb
  simp only [List.length_cons, List.length_nil] at hl
  have U0 := U.out.c0
  go_wp2_with fail
  clear U0
  obtain ⟨Ao, co, hro⟩ := N.out.rowOf
  refine (name_of _ _ _ _ _ _ _ _ _ _ hro).mono ?_
  rintro e w2 ⟨rfl, hb⟩
  clear hro
  have U2 := Lib.hid (U.out.below hb)
  have N2 := Lib.hid (N.out.bl hb)
  have S2 := Lib.hid (S1.out.below hb)
  have z2 := hb.size
  clear U N
  have U := U2
  have N := N2
  clear U2 N2
  clear hb
  have C3 := Lib.hid (show ∀ (j : Nat) (y : Tx), ([kNew, cLB, t.name, cRB] : List Tx)[j]? = some y → (w2.alloc (.cells #[.string ⟨#[110, 101, 119]⟩, .string ⟨#[40]⟩, .string ⟨t.name.toArray⟩, .string ⟨#[41]⟩] 9)).cell? ⟨w2.heap.size, j, none⟩ = some (.string ⟨y.toArray⟩) from lit_cells w2 [kNew, cLB, t.name, cRB])
  have U3 := Lib.hid (U.out.below (b1 w2 (.cells #[.string ⟨#[110, 101, 119]⟩, .string ⟨#[40]⟩, .string ⟨t.name.toArray⟩, .string ⟨#[41]⟩] 9)))
  have N3 := Lib.hid (N.out.bl (b1 w2 (.cells #[.string ⟨#[110, 101, 119]⟩, .string ⟨#[40]⟩, .string ⟨t.name.toArray⟩, .string ⟨#[41]⟩] 9)))
  have S3 := Lib.hid (S2.out.below (b1 w2 (.cells #[.string ⟨#[110, 101, 119]⟩, .string ⟨#[40]⟩, .string ⟨t.name.toArray⟩, .string ⟨#[41]⟩] 9)))
  have z3 := (b1 w2 (.cells #[.string ⟨#[110, 101, 119]⟩, .string ⟨#[40]⟩, .string ⟨t.name.toArray⟩, .string ⟨#[41]⟩] 9)).size
  clear U N
  have U := U3
  have N := N3
  clear U3 N3
  have U0 := U.out.c0
  go_wp2_with fail
  clear U0
  generalize w2.alloc (.cells #[.string ⟨#[110, 101, 119]⟩, .string ⟨#[40]⟩, .string ⟨t.name.toArray⟩, .string ⟨#[41]⟩] 9) = wb3 at *
  refine (add_any _ sb _ _ w2.heap.size 4 [kNew, cLB, t.name, cRB] S3.out.sh (Lib.hid rfl) C3 (by omega) (by first | omega | (simp only [List.length_append, List.length_cons, List.length_nil]; omega) | (simp only [List.length_append, List.length_cons, List.length_nil] at hl ⊢; omega))).mono ?_
  rintro e w4 ⟨v4, rfl, hs⟩
  clear C3
  have U4 := Lib.hid (U.out.sg hs.sg (by omega) (ub_ne S3.out H.out l0))
  have N4 := Lib.hid (N.out.low (hs.sg.low S3.out.sh))
  have S4 := Lib.hid (S3.out.trans hs)
  have z4 := hs.sg.size
  clear U N hs
  have U := U4
  have N := N4
  clear U4 N4
  go_wp2_with fail
  first | refine bodyPost_end (v := .tuple #[]) (by simp [results, Tryz.results86, go_sem]) rfl ?_ | refine bodyPost_ret (v := .tuple #[]) (by simp [results, Tryz.results86, go_sem]) rfl ?_
  have hfin := ((SST.refl H.out).below HBA.out).trans S4.out
  have hx : xs ++ [kNew, cLB, t.name, cRB] = (xs ++ [kNew, cLB, t.name, cRB]) := by simp
  first | exact ⟨_, rfl, hfin.cast hx.symm⟩ | exact ⟨_, rfl, hfin.cast (by simp [List.append_assoc])⟩

set_option maxRecDepth 100000 in
set_option maxHeartbeats 1000000 in
theorem expr_20 (w : World) (sb : Nat) (v : Value) (xs : List Tx) (pl : Nat → Nat) (b : Nat) (t : Tree) (u0 : Tree) (h : SH w sb v xs) (hn : NodeAt (fun x => x < sb) pl w b t) (hop : t.op = 20) (hu0 : Hid (t.kids[0]? = some u0)) (hE : Hid (∀ (k : Nat) (u : Tree), t.kids[k]? = some u → ShE sb pl u)) (hl : xs.length + ((showE u0 ++ [cDot, t.name])).length + 1 ≤ 1000000) :
    Calls Tryz.prog 86 #[.pointer (some ⟨sb, 0, none⟩), .agg #[.pointer (some ⟨b, 0, none⟩)]] w (SQ sb v w (xs ++ (showE u0 ++ [cDot, t.name]))) := by
  have H := Lib.hid h
  have hlt := h.lt
  have HBA := Lib.hid (b1 w (.cells #[.pointer (some ⟨b, 0, none⟩)] 25))
  have S0 := Lib.hid (SST.refl (h.below (b1 w (.cells #[.pointer (some ⟨b, 0, none⟩)] 25))))
  have U := Lib.hid (PtrAt.new w (some ⟨b, 0, none⟩))
  have N := Lib.hid (hn.bl (b1 w (.cells #[.pointer (some ⟨b, 0, none⟩)] 25)))
  have l0 := U.out.lt
  clear h hn
  have hfo := row_op
  have hfn := row_name
  clear hfo hfn
  go_enter Tryz.func86, Tryz.ntmps86
  have U0 := U.out.c0
  go_wp2_with fail
  clear U0
  generalize w.alloc (.cells #[.pointer (some ⟨b, 0, none⟩)] 25) = wa at *
  obtain ⟨Ao, co, hro⟩ := N.out.rowOf
  refine (op_of _ _ _ _ _ _ _ _ _ _ hro).mono ?_
  rintro e w1 ⟨rfl, hb⟩
  clear hro
  have U1 := Lib.hid (U.out.below hb)
  have N1 := Lib.hid (N.out.bl hb)
  have S1 := Lib.hid (S0.out.below hb)
  have z1 := hb.size
  clear U N
  have U := U1
  have N := N1
  clear U1 N1
  clear hb
  simp only [List.length_append, List.length_cons, List.length_nil] at hl
  have U0 := U.out.c0
  go_wp2_with fail
  clear U0
  obtain ⟨nm, hm, hc⟩ := kid_at N.out 0 u0 hu0.out
  refine hc.mono ?_
  rintro e w2 ⟨rfl, hb⟩
  have M := Lib.hid (hm.bl hb)
  have U2 := Lib.hid (U.out.below hb)
  have N2 := Lib.hid (N.out.bl hb)
  have S2 := Lib.hid (S1.out.below hb)
  have z2 := hb.size
  clear U N
  have U := U2
  have N := N2
  clear U2 N2
  clear hb hc hm
  go_wp2_with fail
  refine (hE.out 0 u0 hu0.out _ _ _ nm S2.out.sh M.out (by first | omega | (simp only [List.length_append, List.length_cons, List.length_nil]; omega) | (simp only [List.length_append, List.length_cons, List.length_nil] at hl ⊢; omega))).mono ?_
  rintro e w3 ⟨v3, rfl, hs⟩
  have U3 := Lib.hid (U.out.sg hs.sg (by omega) (ub_ne S2.out H.out l0))
  have N3 := Lib.hid (N.out.low (hs.sg.low S2.out.sh))
  have S3 := Lib.hid (S2.out.trans hs)
  have z3 := hs.sg.size
  clear U N hs
  have U := U3
  have N := N3
  clear U3 N3
  clear M
  have U0 := U.out.c0
  go_wp2_with fail
  clear U0
  obtain ⟨Ao, co, hro⟩ := N.out.rowOf
  refine (name_of _ _ _ _ _ _ _ _ _ _ hro).mono ?_
  rintro e w4 ⟨rfl, hb⟩
  clear hro
  have U4 := Lib.hid (U.out.below hb)
  have N4 := Lib.hid (N.out.bl hb)
  have S4 := Lib.hid (S3.out.below hb)
  have z4 := hb.size
  clear U N
  have U := U4
  have N := N4
  clear U4 N4
  clear hb
  have C5 := Lib.hid (show ∀ (j : Nat) (y : Tx), ([cDot, t.name] : List Tx)[j]? = some y → (w4.alloc (.cells #[.string ⟨#[46]⟩, .string ⟨t.name.toArray⟩] 9)).cell? ⟨w4.heap.size, j, none⟩ = some (.string ⟨y.toArray⟩) from lit_cells w4 [cDot, t.name])
  have U5 := Lib.hid (U.out.below (b1 w4 (.cells #[.string ⟨#[46]⟩, .string ⟨t.name.toArray⟩] 9)))
  have N5 := Lib.hid (N.out.bl (b1 w4 (.cells #[.string ⟨#[46]⟩, .string ⟨t.name.toArray⟩] 9)))
  have S5 := Lib.hid (S4.out.below (b1 w4 (.cells #[.string ⟨#[46]⟩, .string ⟨t.name.toArray⟩] 9)))
  have z5 := (b1 w4 (.cells #[.string ⟨#[46]⟩, .string ⟨t.name.toArray⟩] 9)).size
  clear U N
  have U := U5
  have N := N5
  clear U5 N5
  have U0 := U.out.c0
  go_wp2_with fail
  clear U0
  generalize w4.alloc (.cells #[.string ⟨#[46]⟩, .string ⟨t.name.toArray⟩] 9) = wb5 at *
  refine (add_any _ sb _ _ w4.heap.size 2 [cDot, t.name] S5.out.sh (Lib.hid rfl) C5 (by omega) (by first | omega | (simp only [List.length_append]; omega) | (simp only [List.length_append, List.length_cons, List.length_nil] at hl ⊢; omega))).mono ?_
  rintro e w6 ⟨v6, rfl, hs⟩
  clear C5
  have U6 := Lib.hid (U.out.sg hs.sg (by omega) (ub_ne S5.out H.out l0))
  have N6 := Lib.hid (N.out.low (hs.sg.low S5.out.sh))
  have S6 := Lib.hid (S5.out.trans hs)
  have z6 := hs.sg.size
  clear U N hs
  have U := U6
  have N := N6
  clear U6 N6
  go_wp2_with fail
  first | refine bodyPost_end (v := .tuple #[]) (by simp [results, Tryz.results86, go_sem]) rfl ?_ | refine bodyPost_ret (v := .tuple #[]) (by simp [results, Tryz.results86, go_sem]) rfl ?_
  have hfin := ((SST.refl H.out).below HBA.out).trans S6.out
  have hx : xs ++ (showE u0 ++ [cDot, t.name]) = ((xs ++ showE u0) ++ [cDot, t.name]) := by simp [List.append_assoc]
  first | exact ⟨_, rfl, hfin.cast hx.symm⟩ | exact ⟨_, rfl, hfin.cast (by simp [List.append_assoc])⟩

set_option maxRecDepth 100000 in
set_option maxHeartbeats 1000000 in
theorem expr_22 (w : World) (sb : Nat) (v : Value) (xs : List Tx) (pl : Nat → Nat) (b : Nat) (t : Tree) (h : SH w sb v xs) (hn : NodeAt (fun x => x < sb) pl w b t) (hop : t.op = 22) (hl : xs.length + ([kRead, cLB, cRB]).length + 1 ≤ 1000000) :
    Calls Tryz.prog 86 #[.pointer (some ⟨sb, 0, none⟩), .agg #[.pointer (some ⟨b, 0, none⟩)]] w (SQ sb v w (xs ++ [kRead, cLB, cRB])) := by
  have H := Lib.hid h
  have hlt := h.lt
  have HBA := Lib.hid (b1 w (.cells #[.pointer (some ⟨b, 0, none⟩)] 25))
  have S0 := Lib.hid (SST.refl (h.below (b1 w (.cells #[.pointer (some ⟨b, 0, none⟩)] 25))))
  have U := Lib.hid (PtrAt.new w (some ⟨b, 0, none⟩))
  have N := Lib.hid (hn.bl (b1 w (.cells #[.pointer (some ⟨b, 0, none⟩)] 25)))
  have l0 := U.out.lt
  clear h hn
  have hfo := row_op
  have hfn := row_name
  clear hfo hfn
  go_enter Tryz.func86, Tryz.ntmps86
  have U0 := U.out.c0
  go_wp2_with fail
  clear U0
  generalize w.alloc (.cells #[.pointer (some ⟨b, 0, none⟩)] 25) = wa at *
  obtain ⟨Ao, co, hro⟩ := N.out.rowOf
  refine (op_of _ _ _ _ _ _ _ _ _ _ hro).mono ?_
  rintro e w1 ⟨rfl, hb⟩
  clear hro
  have U1 := Lib.hid (U.out.below hb)
  have N1 := Lib.hid (N.out.bl hb)
  have S1 := Lib.hid (S0.out.below hb)
  have z1 := hb.size
  clear U N
  have U := U1
  have N := N1
  clear U1 N1
  clear hb
  simp only [List.length_cons, List.length_nil] at hl
  have C2 := Lib.hid (show ∀ (j : Nat) (y : Tx), ([kRead, cLB, cRB] : List Tx)[j]? = some y → (w1.alloc (.cells #[.string ⟨#[114, 101, 97, 100]⟩, .string ⟨#[40]⟩, .string ⟨#[41]⟩] 9)).cell? ⟨w1.heap.size, j, none⟩ = some (.string ⟨y.toArray⟩) from lit_cells w1 [kRead, cLB, cRB])
  have U2 := Lib.hid (U.out.below (b1 w1 (.cells #[.string ⟨#[114, 101, 97, 100]⟩, .string ⟨#[40]⟩, .string ⟨#[41]⟩] 9)))
  have N2 := Lib.hid (N.out.bl (b1 w1 (.cells #[.string ⟨#[114, 101, 97, 100]⟩, .string ⟨#[40]⟩, .string ⟨#[41]⟩] 9)))
  have S2 := Lib.hid (S1.out.below (b1 w1 (.cells #[.string ⟨#[114, 101, 97, 100]⟩, .string ⟨#[40]⟩, .string ⟨#[41]⟩] 9)))
  have z2 := (b1 w1 (.cells #[.string ⟨#[114, 101, 97, 100]⟩, .string ⟨#[40]⟩, .string ⟨#[41]⟩] 9)).size
  clear U N
  have U := U2
  have N := N2
  clear U2 N2
  have U0 := U.out.c0
  go_wp2_with fail
  clear U0
  generalize w1.alloc (.cells #[.string ⟨#[114, 101, 97, 100]⟩, .string ⟨#[40]⟩, .string ⟨#[41]⟩] 9) = wb2 at *
  refine (add_any _ sb _ _ w1.heap.size 3 [kRead, cLB, cRB] S2.out.sh (Lib.hid rfl) C2 (by omega) (by first | omega | (simp only [List.length_append, List.length_cons, List.length_nil]; omega) | (simp only [List.length_append, List.length_cons, List.length_nil] at hl ⊢; omega))).mono ?_
  rintro e w3 ⟨v3, rfl, hs⟩
  clear C2
  have U3 := Lib.hid (U.out.sg hs.sg (by omega) (ub_ne S2.out H.out l0))
  have N3 := Lib.hid (N.out.low (hs.sg.low S2.out.sh))
  have S3 := Lib.hid (S2.out.trans hs)
  have z3 := hs.sg.size
  clear U N hs
  have U := U3
  have N := N3
  clear U3 N3
  go_wp2_with fail
  first | refine bodyPost_end (v := .tuple #[]) (by simp [results, Tryz.results86, go_sem]) rfl ?_ | refine bodyPost_ret (v := .tuple #[]) (by simp [results, Tryz.results86, go_sem]) rfl ?_
  have hfin := ((SST.refl H.out).below HBA.out).trans S3.out
  have hx : xs ++ [kRead, cLB, cRB] = (xs ++ [kRead, cLB, cRB]) := by simp
  first | exact ⟨_, rfl, hfin.cast hx.symm⟩ | exact ⟨_, rfl, hfin.cast (by simp [List.append_assoc])⟩

set_option maxRecDepth 100000 in
set_option maxHeartbeats 1000000 in
theorem expr_23 (w : World) (sb : Nat) (v : Value) (xs : List Tx) (pl : Nat → Nat) (b : Nat) (t : Tree) (u0 : Tree) (h : SH w sb v xs) (hn : NodeAt (fun x => x < sb) pl w b t) (hop : t.op = 23) (hu0 : Hid (t.kids[0]? = some u0)) (hE : Hid (∀ (k : Nat) (u : Tree), t.kids[k]? = some u → ShE sb pl u)) (hl : xs.length + (([cLB, signL t.n] ++ showE u0 ++ [cRB])).length + 1 ≤ 1000000) :
    Calls Tryz.prog 86 #[.pointer (some ⟨sb, 0, none⟩), .agg #[.pointer (some ⟨b, 0, none⟩)]] w (SQ sb v w (xs ++ ([cLB, signL t.n] ++ showE u0 ++ [cRB]))) := by
  have H := Lib.hid h
  have hlt := h.lt
  have HBA := Lib.hid (b1 w (.cells #[.pointer (some ⟨b, 0, none⟩)] 25))
  have S0 := Lib.hid (SST.refl (h.below (b1 w (.cells #[.pointer (some ⟨b, 0, none⟩)] 25))))
  have U := Lib.hid (PtrAt.new w (some ⟨b, 0, none⟩))
  have N := Lib.hid (hn.bl (b1 w (.cells #[.pointer (some ⟨b, 0, none⟩)] 25)))
  have l0 := U.out.lt
  clear h hn
  have hfo := row_op
  have hfn := row_name
  clear hfo hfn
  go_enter Tryz.func86, Tryz.ntmps86
  have U0 := U.out.c0
  go_wp2_with fail
  clear U0
  generalize w.alloc (.cells #[.pointer (some ⟨b, 0, none⟩)] 25) = wa at *
  obtain ⟨Ao, co, hro⟩ := N.out.rowOf
  refine (op_of _ _ _ _ _ _ _ _ _ _ hro).mono ?_
  rintro e w1 ⟨rfl, hb⟩
  clear hro
  have U1 := Lib.hid (U.out.below hb)
  have N1 := Lib.hid (N.out.bl hb)
  have S1 := Lib.hid (S0.out.below hb)
  have z1 := hb.size
  clear U N
  have U := U1
  have N := N1
  clear U1 N1
  clear hb
  simp only [List.length_append, List.length_cons, List.length_nil] at hl
  have U0 := U.out.c0
  go_wp2_with fail
  clear U0
  obtain ⟨Ao, co, hro⟩ := N.out.rowOf
  refine (n_of _ _ _ _ _ _ _ _ _ _ hro).mono ?_
  rintro e w2 ⟨rfl, hb⟩
  clear hro
  have U2 := Lib.hid (U.out.below hb)
  have N2 := Lib.hid (N.out.bl hb)
  have S2 := Lib.hid (S1.out.below hb)
  have z2 := hb.size
  clear U N
  have U := U2
  have N := N2
  clear U2 N2
  clear hb
  go_wp2_with fail
  refine (sign_txt t.n _ S2.out.sh.good.signs).mono ?_
  rintro e w' ⟨rfl, rfl⟩
  have C3 := Lib.hid (show ∀ (j : Nat) (y : Tx), ([cLB, signL t.n] : List Tx)[j]? = some y → (w2.alloc (.cells #[.string ⟨#[40]⟩, .string ⟨(signL t.n).toArray⟩] 9)).cell? ⟨w2.heap.size, j, none⟩ = some (.string ⟨y.toArray⟩) from lit_cells w2 [cLB, signL t.n])
  have U3 := Lib.hid (U.out.below (b1 w2 (.cells #[.string ⟨#[40]⟩, .string ⟨(signL t.n).toArray⟩] 9)))
  have N3 := Lib.hid (N.out.bl (b1 w2 (.cells #[.string ⟨#[40]⟩, .string ⟨(signL t.n).toArray⟩] 9)))
  have S3 := Lib.hid (S2.out.below (b1 w2 (.cells #[.string ⟨#[40]⟩, .string ⟨(signL t.n).toArray⟩] 9)))
  have z3 := (b1 w2 (.cells #[.string ⟨#[40]⟩, .string ⟨(signL t.n).toArray⟩] 9)).size
  clear U N
  have U := U3
  have N := N3
  clear U3 N3
  have U0 := U.out.c0
  go_wp2_with fail
  clear U0
  generalize w2.alloc (.cells #[.string ⟨#[40]⟩, .string ⟨(signL t.n).toArray⟩] 9) = wb3 at *
  refine (add_any _ sb _ _ w2.heap.size 2 [cLB, signL t.n] S3.out.sh (Lib.hid rfl) C3 (by omega) (by first | omega | (simp only [List.length_append, List.length_cons, List.length_nil]; omega) | (simp only [List.length_append, List.length_cons, List.length_nil] at hl ⊢; omega))).mono ?_
  rintro e w4 ⟨v4, rfl, hs⟩
  clear C3
  have U4 := Lib.hid (U.out.sg hs.sg (by omega) (ub_ne S3.out H.out l0))
  have N4 := Lib.hid (N.out.low (hs.sg.low S3.out.sh))
  have S4 := Lib.hid (S3.out.trans hs)
  have z4 := hs.sg.size
  clear U N hs
  have U := U4
  have N := N4
  clear U4 N4
  have U0 := U.out.c0
  go_wp2_with fail
  clear U0
  obtain ⟨nm, hm, hc⟩ := kid_at N.out 0 u0 hu0.out
  refine hc.mono ?_
  rintro e w5 ⟨rfl, hb⟩
  have M := Lib.hid (hm.bl hb)
  have U5 := Lib.hid (U.out.below hb)
  have N5 := Lib.hid (N.out.bl hb)
  have S5 := Lib.hid (S4.out.below hb)
  have z5 := hb.size
  clear U N
  have U := U5
  have N := N5
  clear U5 N5
  clear hb hc hm
  go_wp2_with fail
  refine (hE.out 0 u0 hu0.out _ _ _ nm S5.out.sh M.out (by first | omega | (simp only [List.length_append, List.length_cons, List.length_nil]; omega) | (simp only [List.length_append, List.length_cons, List.length_nil] at hl ⊢; omega))).mono ?_
  rintro e w6 ⟨v6, rfl, hs⟩
  have U6 := Lib.hid (U.out.sg hs.sg (by omega) (ub_ne S5.out H.out l0))
  have N6 := Lib.hid (N.out.low (hs.sg.low S5.out.sh))
  have S6 := Lib.hid (S5.out.trans hs)
  have z6 := hs.sg.size
  clear U N hs
  have U := U6
  have N := N6
  clear U6 N6
  clear M
  have C7 := Lib.hid (show ∀ (j : Nat) (y : Tx), ([cRB] : List Tx)[j]? = some y → (w6.alloc (.cells #[.string ⟨#[41]⟩] 9)).cell? ⟨w6.heap.size, j, none⟩ = some (.string ⟨y.toArray⟩) from lit_cells w6 [cRB])
  have U7 := Lib.hid (U.out.below (b1 w6 (.cells #[.string ⟨#[41]⟩] 9)))
  have N7 := Lib.hid (N.out.bl (b1 w6 (.cells #[.string ⟨#[41]⟩] 9)))
  have S7 := Lib.hid (S6.out.below (b1 w6 (.cells #[.string ⟨#[41]⟩] 9)))
  have z7 := (b1 w6 (.cells #[.string ⟨#[41]⟩] 9)).size
  clear U N
  have U := U7
  have N := N7
  clear U7 N7
  have U0 := U.out.c0
  go_wp2_with fail
  clear U0
  generalize w6.alloc (.cells #[.string ⟨#[41]⟩] 9) = wb7 at *
  refine (add_any _ sb _ _ w6.heap.size 1 [cRB] S7.out.sh (Lib.hid rfl) C7 (by omega) (by first | omega | (simp only [List.length_append, List.length_cons, List.length_nil]; omega) | (simp only [List.length_append, List.length_cons, List.length_nil] at hl ⊢; omega))).mono ?_
  rintro e w8 ⟨v8, rfl, hs⟩
  clear C7
  have U8 := Lib.hid (U.out.sg hs.sg (by omega) (ub_ne S7.out H.out l0))
  have N8 := Lib.hid (N.out.low (hs.sg.low S7.out.sh))
  have S8 := Lib.hid (S7.out.trans hs)
  have z8 := hs.sg.size
  clear U N hs
  have U := U8
  have N := N8
  clear U8 N8
  go_wp2_with fail
  first | refine bodyPost_end (v := .tuple #[]) (by simp [results, Tryz.results86, go_sem]) rfl ?_ | refine bodyPost_ret (v := .tuple #[]) (by simp [results, Tryz.results86, go_sem]) rfl ?_
  have hfin := ((SST.refl H.out).below HBA.out).trans S8.out
  have hx : xs ++ ([cLB, signL t.n] ++ showE u0 ++ [cRB]) = (((xs ++ [cLB, signL t.n]) ++ showE u0) ++ [cRB]) := by simp [List.append_assoc]
  first | exact ⟨_, rfl, hfin.cast hx.symm⟩ | exact ⟨_, rfl, hfin.cast (by simp [List.append_assoc])⟩

set_option maxRecDepth 100000 in
set_option maxHeartbeats 1000000 in
theorem expr_25 (w : World) (sb : Nat) (v : Value) (xs : List Tx) (pl : Nat → Nat) (b : Nat) (t : Tree) (u0 u1 : Tree) (h : SH w sb v xs) (hn : NodeAt (fun x => x < sb) pl w b t) (hop : t.op = 25) (hu0 : Hid (t.kids[0]? = some u0)) (hu1 : Hid (t.kids[1]? = some u1)) (hE : Hid (∀ (k : Nat) (u : Tree), t.kids[k]? = some u → ShE sb pl u)) (hl : xs.length + (([cLB] ++ showE u0 ++ [cAnd] ++ showE u1 ++ [cRB])).length + 1 ≤ 1000000) :
    Calls Tryz.prog 86 #[.pointer (some ⟨sb, 0, none⟩), .agg #[.pointer (some ⟨b, 0, none⟩)]] w (SQ sb v w (xs ++ ([cLB] ++ showE u0 ++ [cAnd] ++ showE u1 ++ [cRB]))) := by
  have H := Lib.hid h
  have hlt := h.lt
  have HBA := Lib.hid (b1 w (.cells #[.pointer (some ⟨b, 0, none⟩)] 25))
  have S0 := Lib.hid (SST.refl (h.below (b1 w (.cells #[.pointer (some ⟨b, 0, none⟩)] 25))))
  have U := Lib.hid (PtrAt.new w (some ⟨b, 0, none⟩))
  have N := Lib.hid (hn.bl (b1 w (.cells #[.pointer (some ⟨b, 0, none⟩)] 25)))
  have l0 := U.out.lt
  clear h hn
  have hfo := row_op
  have hfn := row_name
  clear hfo hfn
  go_enter Tryz.func86, Tryz.ntmps86
  have U0 := U.out.c0
  go_wp2_with fail
  clear U0
  generalize w.alloc (.cells #[.pointer (some ⟨b, 0, none⟩)] 25) = wa at *
  obtain ⟨Ao, co, hro⟩ := N.out.rowOf
  refine (op_of _ _ _ _ _ _ _ _ _ _ hro).mono ?_
  rintro e w1 ⟨rfl, hb⟩
  clear hro
  have U1 := Lib.hid (U.out.below hb)
  have N1 := Lib.hid (N.out.bl hb)
  have S1 := Lib.hid (S0.out.below hb)
  have z1 := hb.size
  clear U N
  have U := U1
  have N := N1
  clear U1 N1
  clear hb
  simp only [List.length_append, List.length_cons, List.length_nil] at hl
  have U0 := U.out.c0
  go_wp2_with fail
  clear U0
  refine (pair_shown _ sb _ _ pl b t cAnd u0 u1 S1.out.sh N.out hu0 hu1 hE (by first | omega | (simp only [List.length_append, List.length_cons, List.length_nil]; omega) | (simp only [List.length_append, List.length_cons, List.length_nil] at hl ⊢; omega))).mono ?_
  rintro e w2 ⟨v2, rfl, hs⟩
  have U2 := Lib.hid (U.out.sg hs.sg (by omega) (ub_ne S1.out H.out l0))
  have N2 := Lib.hid (N.out.low (hs.sg.low S1.out.sh))
  have S2 := Lib.hid (S1.out.trans hs)
  have z2 := hs.sg.size
  clear U N hs
  have U := U2
  have N := N2
  clear U2 N2
  go_wp2_with fail
  first | refine bodyPost_end (v := .tuple #[]) (by simp [results, Tryz.results86, go_sem]) rfl ?_ | refine bodyPost_ret (v := .tuple #[]) (by simp [results, Tryz.results86, go_sem]) rfl ?_
  have hfin := ((SST.refl H.out).below HBA.out).trans S2.out
  have hx : xs ++ ([cLB] ++ showE u0 ++ [cAnd] ++ showE u1 ++ [cRB]) = (xs ++ ([cLB] ++ showE u0 ++ [cAnd] ++ showE u1 ++ [cRB])) := by simp [List.append_assoc]
  first | exact ⟨_, rfl, hfin.cast hx.symm⟩ | exact ⟨_, rfl, hfin.cast (by simp [List.append_assoc])⟩

set_option maxRecDepth 100000 in
set_option maxHeartbeats 1000000 in
theorem expr_26 (w : World) (sb : Nat) (v : Value) (xs : List Tx) (pl : Nat → Nat) (b : Nat) (t : Tree) (u0 u1 : Tree) (h : SH w sb v xs) (hn : NodeAt (fun x => x < sb) pl w b t) (hop : t.op = 26) (hu0 : Hid (t.kids[0]? = some u0)) (hu1 : Hid (t.kids[1]? = some u1)) (hE : Hid (∀ (k : Nat) (u : Tree), t.kids[k]? = some u → ShE sb pl u)) (hl : xs.length + (([cLB] ++ showE u0 ++ [cOr] ++ showE u1 ++ [cRB])).length + 1 ≤ 1000000) :
    Calls Tryz.prog 86 #[.pointer (some ⟨sb, 0, none⟩), .agg #[.pointer (some ⟨b, 0, none⟩)]] w (SQ sb v w (xs ++ ([cLB] ++ showE u0 ++ [cOr] ++ showE u1 ++ [cRB]))) := by
  have H := Lib.hid h
  have hlt := h.lt
  have HBA := Lib.hid (b1 w (.cells #[.pointer (some ⟨b, 0, none⟩)] 25))
  have S0 := Lib.hid (SST.refl (h.below (b1 w (.cells #[.pointer (some ⟨b, 0, none⟩)] 25))))
  have U := Lib.hid (PtrAt.new w (some ⟨b, 0, none⟩))
  have N := Lib.hid (hn.bl (b1 w (.cells #[.pointer (some ⟨b, 0, none⟩)] 25)))
  have l0 := U.out.lt
  clear h hn
  have hfo := row_op
  have hfn := row_name
  clear hfo hfn
  go_enter Tryz.func86, Tryz.ntmps86
  have U0 := U.out.c0
  go_wp2_with fail
  clear U0
  generalize w.alloc (.cells #[.pointer (some ⟨b, 0, none⟩)] 25) = wa at *
  obtain ⟨Ao, co, hro⟩ := N.out.rowOf
  refine (op_of _ _ _ _ _ _ _ _ _ _ hro).mono ?_
  rintro e w1 ⟨rfl, hb⟩
  clear hro
  have U1 := Lib.hid (U.out.below hb)
  have N1 := Lib.hid (N.out.bl hb)
  have S1 := Lib.hid (S0.out.below hb)
  have z1 := hb.size
  clear U N
  have U := U1
  have N := N1
  clear U1 N1
  clear hb
  simp only [List.length_append, List.length_cons, List.length_nil] at hl
  have U0 := U.out.c0
  go_wp2_with fail
  clear U0
  refine (pair_shown _ sb _ _ pl b t cOr u0 u1 S1.out.sh N.out hu0 hu1 hE (by first | omega | (simp only [List.length_append, List.length_cons, List.length_nil]; omega) | (simp only [List.length_append, List.length_cons, List.length_nil] at hl ⊢; omega))).mono ?_
  rintro e w2 ⟨v2, rfl, hs⟩
  have U2 := Lib.hid (U.out.sg hs.sg (by omega) (ub_ne S1.out H.out l0))
  have N2 := Lib.hid (N.out.low (hs.sg.low S1.out.sh))
  have S2 := Lib.hid (S1.out.trans hs)
  have z2 := hs.sg.size
  clear U N hs
  have U := U2
  have N := N2
  clear U2 N2
  go_wp2_with fail
  first | refine bodyPost_end (v := .tuple #[]) (by simp [results, Tryz.results86, go_sem]) rfl ?_ | refine bodyPost_ret (v := .tuple #[]) (by simp [results, Tryz.results86, go_sem]) rfl ?_
  have hfin := ((SST.refl H.out).below HBA.out).trans S2.out
  have hx : xs ++ ([cLB] ++ showE u0 ++ [cOr] ++ showE u1 ++ [cRB]) = (xs ++ ([cLB] ++ showE u0 ++ [cOr] ++ showE u1 ++ [cRB])) := by simp [List.append_assoc]
  first | exact ⟨_, rfl, hfin.cast hx.symm⟩ | exact ⟨_, rfl, hfin.cast (by simp [List.append_assoc])⟩

set_option maxRecDepth 100000 in
set_option maxHeartbeats 1000000 in
theorem expr_else (w : World) (sb : Nat) (v : Value) (xs : List Tx) (pl : Nat → Nat) (b : Nat) (t : Tree) (h : SH w sb v xs) (hn : NodeAt (fun x => x < sb) pl w b t) (hop : Hid (t.op < 15 ∨ 26 < t.op)) (_ : xs.length + (([] : List Tx)).length + 1 ≤ 1000000) :
    Calls Tryz.prog 86 #[.pointer (some ⟨sb, 0, none⟩), .agg #[.pointer (some ⟨b, 0, none⟩)]] w (SQ sb v w (xs ++ ([] : List Tx))) := by
  have H := Lib.hid h
  have hlt := h.lt
  have HBA := Lib.hid (b1 w (.cells #[.pointer (some ⟨b, 0, none⟩)] 25))
  have S0 := Lib.hid (SST.refl (h.below (b1 w (.cells #[.pointer (some ⟨b, 0, none⟩)] 25))))
  have U := Lib.hid (PtrAt.new w (some ⟨b, 0, none⟩))
  have N := Lib.hid (hn.bl (b1 w (.cells #[.pointer (some ⟨b, 0, none⟩)] 25)))
  have l0 := U.out.lt
  clear h hn
  have hfo := row_op
  have hfn := row_name
  clear hfo hfn
  go_enter Tryz.func86, Tryz.ntmps86
  have U0 := U.out.c0
  go_wp2_with fail
  clear U0
  generalize w.alloc (.cells #[.pointer (some ⟨b, 0, none⟩)] 25) = wa at *
  obtain ⟨Ao, co, hro⟩ := N.out.rowOf
  refine (op_of _ _ _ _ _ _ _ _ _ _ hro).mono ?_
  rintro e w1 ⟨rfl, hb⟩
  clear hro
  have U1 := Lib.hid (U.out.below hb)
  have N1 := Lib.hid (N.out.bl hb)
  have S1 := Lib.hid (S0.out.below hb)
  have z1 := hb.size
  clear U N
  have U := U1
  have N := N1
  clear U1 N1
  clear hb
  have e15 : ((t.op : Int) == 15) = false := by have := hop.out; simp; omega
  have e16 : ((t.op : Int) == 16) = false := by have := hop.out; simp; omega
  have e17 : ((t.op : Int) == 17) = false := by have := hop.out; simp; omega
  have e18 : ((t.op : Int) == 18) = false := by have := hop.out; simp; omega
  have e19 : ((t.op : Int) == 19) = false := by have := hop.out; simp; omega
  have e20 : ((t.op : Int) == 20) = false := by have := hop.out; simp; omega
  have e21 : ((t.op : Int) == 21) = false := by have := hop.out; simp; omega
  have e22 : ((t.op : Int) == 22) = false := by have := hop.out; simp; omega
  have e23 : ((t.op : Int) == 23) = false := by have := hop.out; simp; omega
  have e24 : ((t.op : Int) == 24) = false := by have := hop.out; simp; omega
  have e25 : ((t.op : Int) == 25) = false := by have := hop.out; simp; omega
  have e26 : ((t.op : Int) == 26) = false := by have := hop.out; simp; omega
  go_wp2_with fail
  first | refine bodyPost_end (v := .tuple #[]) (by simp [results, Tryz.results86, go_sem]) rfl ?_ | refine bodyPost_ret (v := .tuple #[]) (by simp [results, Tryz.results86, go_sem]) rfl ?_
  have hfin := ((SST.refl H.out).below HBA.out).trans S1.out
  have hx : xs ++ ([] : List Tx) = xs := by simp
  first | exact ⟨_, rfl, hfin.cast hx.symm⟩ | exact ⟨_, rfl, hfin.cast (by simp [List.append_assoc])⟩

end Go.Proofs.YtfbejfoalnhihaaGreatDoor
