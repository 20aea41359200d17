/-
  RULES: a region that draws its order, taken step by step, where some operations at its end may break what the loads lean on. No condition.
-/
import Derived.Test.YtkahbhfbgdbnfaaGreatDoorJ8
import Derived.Test.YtkahbhfbgdbnfaaGreatDoorJ16
namespace Go.Proofs.YtkahbhfbgdbnfaaGreatDoor
open Go.RowKit

section
variable {P : Program} {ops : Array Oper} {Q : Exit → Act → World → Prop} {S : World → Prop} {X : List Nat}
/-- Whatever order is picked; S is kept by each operation that is not in X. -/
def wpX (P : Program) (ops : Array Oper) (Q : Exit → Act → World → Prop) (S : World → Prop) (X : List Nat) : Nat → Array Bool → Act → World → Prop
  | 0, listed, a, w => Region.ready .any ops listed = [] ∧ Q .normal a w
  | fuel + 1, listed, a, w => (Region.ready .any ops listed = [] → Q .normal a w) ∧
      ∀ i ∈ Region.ready .any ops listed, wpOp P ops Q i (fun a' w' => (X.contains i = false → S w → S w') ∧ wpX P ops Q S X fuel (listed.setIfInBounds i true) a' w') a w
theorem any_of_x : ∀ (fuel : Nat) (listed : Array Bool) (a : Act) (w : World), wpX P ops Q S X fuel listed a w → wpAny P .any ops Q fuel listed a w
  | 0, _, _, _, h => h
  | fuel + 1, _, _, _, h => ⟨h.1, fun i hi => wpOp_mono (fun a' w' h' => any_of_x fuel _ a' w' h'.2) (h.2 i hi)⟩
/-- One that yields its value in every world that meets S, and for which all of X wait. -/
theorem x_first {i : Nat} {oi : Oper} {v : Value} (c : Bool) (hi : ops[i]? = some oi) (hsel : ∀ (j : Nat) (o : Oper) cs b, ops[j]? = some o → o.op ≠ .select cs b)
    (hQ : ∀ c a w, Q (.panic c) (a.put oi.dst v) w → Q (.panic c) a w)
    (hX : ∀ j oj, ops[j]? = some oj → X.contains j = true → c = true ∨ ∃ e ∈ oj.after, Region.binds .any e = true ∧ e.on = i) :
    ∀ (fuel : Nat) (listed : Array Bool) (a : Act) (w : World),
      (∀ j oj, ops[j]? = some oj → j ≠ i → listed.getD j true = false → (∀ e ∈ oj.after, Region.binds .any e = true → e.on ≠ i) → oi.apart ops oj = true) →
      i ∈ Region.ready .any ops listed → YieldsIf P ops (fun w => c = false → S w) oi v a → (c = false → S w) →
      wpX P ops Q S X fuel (listed.setIfInBounds i true) (a.put oi.dst v) w → wpX P ops Q S X (fuel + 1) listed a w := by
  intro fuel
  induction fuel with
  | zero =>
    intro listed a w _ hr hy hS H
    refine ⟨fun h => (by rw [h] at hr; cases hr), fun j hj => ?_⟩
    by_cases hji : j = i
    · subst hji; exact hy.wpOp hi hS ⟨fun _ h => h, H⟩
    · have := ready_mono hj hji
      rw [H.1] at this
      cases this
  | succ fuel ih =>
    intro listed a w hfree hr hy hS H
    refine ⟨fun h => (by rw [h] at hr; cases hr), fun j hj => ?_⟩
    by_cases hji : j = i
    · subst hji; exact hy.wpOp hi hS ⟨fun _ h => h, H⟩
    · have h1 := H.2 j (ready_mono hj hji)
      obtain ⟨hjun, oj, hoj, hall⟩ := mem_ready.1 hj
      have hnot : ∀ e ∈ oj.after, Region.binds .any e = true → e.on ≠ i := fun e he hb heq => by
        have h1 := hall e he hb
        have h0 := (mem_ready.1 hr).1
        rw [heq] at h1
        rcases Nat.lt_or_ge i listed.size with h' | h'
        · simp [h'] at h0 h1; rw [h0] at h1; cases h1
        · simp [Array.getElem?_eq_none h'] at h1
      have h2 := wpOp_putIf hoj (hfree j oj hoj hji hjun hnot) (fun cs b => hsel i oi cs b hi) (fun cs b => hsel j oj cs b hoj) hQ hy h1
      have hfree' : ∀ k ok, ops[k]? = some ok → k ≠ i → (listed.setIfInBounds j true).getD k true = false →
          (∀ e ∈ ok.after, Region.binds .any e = true → e.on ≠ i) → oi.apart ops ok = true := fun k ok hk hki hun hno => by
        refine hfree k ok hk hki ?_ hno
        by_cases hjk : j = k
        · subst hjk; exact hjun
        · rw [getD_set_ne true hjk] at hun; exact hun
      have hSj : c = false → X.contains j = false := fun hc => by
        cases hx : X.contains j with
        | false => rfl
        | true =>
          rcases hX j oj hoj hx with h | ⟨e, he, hb, ho⟩
          · rw [hc] at h; cases h
          · exact absurd ho (hnot e he hb)
      refine wpOp_mono (fun a' w' h3 => ⟨h3.2.1, ih (listed.setIfInBounds j true) a' w' hfree' (ready_mono hr (Ne.symm hji)) h3.1 (fun hc => h3.2.1 (hSj hc) (hS hc)) ?_⟩) h2
      rw [Array.setIfInBounds_comm _ _ hji]
      exact h3.2.2
def waitB (ops : Array Oper) (X : List Nat) (i : Nat) : Bool := X.all fun j => match ops[j]? with
  | some oj => oj.after.any fun e => Region.binds .any e && e.on == i
  | none => true
theorem waitB_spec {i : Nat} (h : waitB ops X i = true) (j : Nat) (oj : Oper) (ho : ops[j]? = some oj) (hx : X.contains j = true) : ∃ e ∈ oj.after, Region.binds .any e = true ∧ e.on = i := by
  have := List.all_eq_true.1 h j (by simpa using hx)
  simp only [ho, Array.any_eq_true', Bool.and_eq_true, beq_iff_eq] at this
  exact this
variable {fuel : Nat} {listed : Array Bool} {a : Act} {w : World}
theorem rgX (S : World → Prop) (X : List Nat) {id : Nat} (hm : P.follows .mixedOrders = true) (hS : S w.drew) (hq : PutOk Q)
    (h : S w.drew → PutOk Q → wpX P ops Q S X ops.size (Array.replicate ops.size false) a w.drew) : (Code.region id ops true).wp P Q a w :=
  wp_region_any hm (any_of_x _ _ _ _ (h hS hq))
/-- A load. -/
theorem tkX (i : Nat) (oi : Oper) {v : Value} (hq : PutOk Q) (hS : S w) (hi : ops[i]? = some oi) (hb : (Region.noSelect ops && Region.free .any ops listed i && (Region.ready .any ops listed).contains i && Region.wanted oi (yielded ops a.tmps) && waitB ops X i) = true)
    (hy : ∀ w, S w → (execOp a.eval oi).run P w = .ok (.value v) w)
    (h : wpX P ops Q S X fuel (listed.setIfInBounds i true) (a.put oi.dst v) w) : wpX P ops Q S X (fuel + 1) listed a w := by
  simp only [Bool.and_eq_true] at hb
  exact x_first false hi (Region.noSelect_spec hb.1.1.1.1) (fun c a w => hq c a _ _ w) (fun j oj ho hx => .inr (waitB_spec hb.2 j oj ho hx)) fuel listed a w (Region.free_spec hi hb.1.1.1.2) (by simpa using hb.1.1.2) (.inl ⟨hb.1.2, fun w hw => hy w (hw rfl)⟩) (fun _ => hS) h
/-- One that looks at no memory. -/
theorem twX (i : Nat) (oi : Oper) {v : Value} (hq : PutOk Q) (hi : ops[i]? = some oi) (hb : (Region.noSelect ops && Region.free .any ops listed i && (Region.ready .any ops listed).contains i && Region.wanted oi (yielded ops a.tmps)) = true)
    (hy : ∀ w, (execOp a.eval oi).run P w = .ok (.value v) w)
    (h : wpX P ops Q S X fuel (listed.setIfInBounds i true) (a.put oi.dst v) w) : wpX P ops Q S X (fuel + 1) listed a w := by
  simp only [Bool.and_eq_true] at hb
  exact x_first true hi (Region.noSelect_spec hb.1.1.1) (fun c a w => hq c a _ _ w) (fun _ _ _ _ => .inl rfl) fuel listed a w (Region.free_spec hi hb.1.1.2) (by simpa using hb.1.2) (.inl ⟨hb.2, fun w _ => hy w⟩) (fun h => by cases h) h
theorem clX (i : Nat) (o : Oper) (ho : ops[i]? = some o) (hr : Region.ready .any ops listed = [i]) (hw : Region.wanted o (yielded ops a.tmps) = true)
    (h : ∀ K' : Act → World → Prop, Shut (∀ a' w', (X.contains i = false → S w → S w') → wpX P ops Q S X fuel (listed.setIfInBounds i true) a' w' → K' a' w') → Oper.wp P o a w K' Q) : wpX P ops Q S X (fuel + 1) listed a w := by
  refine ⟨fun h0 => (by rw [h0] at hr; cases hr), fun j hj => ?_⟩
  rw [hr] at hj
  obtain rfl := List.mem_singleton.1 hj
  exact wpOp_step ho fun K' hK => by rw [if_pos hw]; exact h K' (fun a' w' h1 h2 => hK a' w' ⟨h1, h2⟩)
/-- One of two that may come up. -/
theorem clX2 (i j : Nat) (o o' : Oper) (ho : ops[i]? = some o) (ho' : ops[j]? = some o') (hr : Region.ready .any ops listed = [i, j]) (hw : Region.wanted o (yielded ops a.tmps) = true) (hw' : Region.wanted o' (yielded ops a.tmps) = true)
    (h : ∀ K' : Act → World → Prop, Shut (∀ a' w', (X.contains i = false → S w → S w') → wpX P ops Q S X fuel (listed.setIfInBounds i true) a' w' → K' a' w') → Oper.wp P o a w K' Q)
    (h' : ∀ K' : Act → World → Prop, Shut (∀ a' w', (X.contains j = false → S w → S w') → wpX P ops Q S X fuel (listed.setIfInBounds j true) a' w' → K' a' w') → Oper.wp P o' a w K' Q) : wpX P ops Q S X (fuel + 1) listed a w := by
  refine ⟨fun h0 => (by rw [h0] at hr; cases hr), fun k hk => ?_⟩
  rw [hr] at hk
  rcases List.mem_cons.1 hk with rfl | hk
  · exact wpOp_step ho fun K' hK => by rw [if_pos hw]; exact h K' (fun a' w' h1 h2 => hK a' w' ⟨h1, h2⟩)
  · obtain rfl := List.mem_singleton.1 hk
    exact wpOp_step ho' fun K' hK => by rw [if_pos hw']; exact h' K' (fun a' w' h1 h2 => hK a' w' ⟨h1, h2⟩)
theorem dnX (hr : Region.ready .any ops listed = []) (h : Q .normal a w) : ∀ fuel, wpX P ops Q S X fuel listed a w
  | 0 => ⟨hr, h⟩
  | _ + 1 => ⟨fun _ => h, by rw [hr]; simp⟩
end

end Go.Proofs.YtkahbhfbgdbnfaaGreatDoor

/-
  WORDS: the scope behind a statement; what a statement's check leaves of the variables. No condition.
-/
namespace Go.Proofs.YtkahbhfbgdbnfaaGreatDoor
open Go.RowKit

/-- From w on the scope has come so far. -/
structure SS (E : CE) (v : Value) (w : World) (v' : Value) (w' : World) (K : List Fld) (f : Nat) : Prop where
  sc : SC E w' v' K f
  sg : SG E.sb v w w'
  nv : ∀ g, v'.ownBlock = some g → v.ownBlock = some g ∨ w.heap.size ≤ g
theorem SS.refl {E : CE} {v : Value} {w : World} {K : List Fld} {f : Nat} (h : SC E w v K f) : SS E v w v w K f := ⟨h, ⟨rfl, rfl, rfl, Nat.le_refl _, fun _ _ _ _ => rfl⟩, fun _ h => .inl h⟩
theorem SS.trans {E : CE} {v v1 v2 : Value} {w w1 w2 : World} {K K' : List Fld} {f f' : Nat} (h : SS E v w v1 w1 K f) (k : SS E v1 w1 v2 w2 K' f') : SS E v w v2 w2 K' f' := by
  refine ⟨k.sc, ⟨k.sg.os.trans h.sg.os, k.sg.tape.trans h.sg.tape, k.sg.output.trans h.sg.output, Nat.le_trans h.sg.size k.sg.size, fun b hb h1 h2 => ?_⟩, fun g hg => ?_⟩
  · refine (k.sg.blk b (Nat.lt_of_lt_of_le hb h.sg.size) h1 (fun e => ?_)).trans (h.sg.blk b hb h1 h2)
    rcases h.nv b e with h3 | h3
    · exact h2 h3
    · omega
  · rcases k.nv g hg with h3 | h3
    · exact h.nv g h3
    · exact .inr (Nat.le_trans h.sg.size h3)
theorem SS.below {E : CE} {v v1 : Value} {w w1 w2 : World} {K : List Fld} {f : Nat} (h : SS E v w v1 w1 K f) (hb : Below w1.heap.size w1 w2) : SS E v w v1 w2 K f :=
  h.trans ⟨h.sc.below hb, SG.below hb, fun _ h => .inl h⟩
/-- A variable's block stays. -/
theorem keepG {E : CE} {v v' : Value} {w w' : World} {K K' : List Fld} {f f' u : Nat} {x : Value} (h : SS E v w v' w' K f) (hs : SC E w v K' f') (h0 : w.heap.size ≤ u ∨ (u ≠ E.sb ∧ v.ownBlock ≠ some u)) {wb : World} (hb : wb = w) (hl : u < w.heap.size) (hc : wb.cell? ⟨u, 0, none⟩ = some x) : w'.cell? ⟨u, 0, none⟩ = some x := by
  subst hb
  rcases h0 with h0 | ⟨h1, h2⟩
  · omega
  · exact (World.cell?_of_block (w := wb) (h.sg.blk u hl h1 h2)).trans hc
/-- What a statement's method answers. -/
def KQ (E : CE) (v : Value) (w : World) (r : CR (List Fld)) (f : Nat) (e : Ending) (w' : World) : Prop := match r with
  | .ok K' => ∃ v', e = .returned (.tuple #[]) ∧ SS E v w v' w' K' f
  | .bad p er => e = cfE (E.pl p) er ∧ Below E.w0.heap.size E.w0 w'
def YH (E : CE) (t : Tree) : Prop := ∀ (w : World) (v : Value) (K : List Fld) (f b : Nat), SC E w v K f → KOk E.x K → Nd E b t → K.length + sizeT t ≤ 100000 → Calls Tryz.prog 171 #[.pointer (some ⟨E.sb, 0, none⟩), .agg #[.pointer (some ⟨b, 0, none⟩)]] w (KQ E v w (stmtC E.x E.res t K f) f)

/-- What is behind a statement begins with what was ahead. -/
def Pre (x : Inf) (K K' : List Fld) (n : Nat) : Prop := ∃ L, K' = K ++ L ∧ L.length ≤ n ∧ (KOk x K → KOk x K')
theorem Pre.refl (x : Inf) (K : List Fld) (n : Nat) : Pre x K K n := ⟨[], by simp, Nat.zero_le _, fun h => h⟩
theorem leaf_pre {x : Inf} {res : ByteArray} {t : Tree} {K K' : List Fld} {f : Nat} (hx : InfOk x) (h : leafC x res K f t.op t.name t.pos (t.kids.map (exprC x K)) = .ok K') : Pre x K K' 1 := by
  unfold leafC at h
  split at h
  · obtain ⟨a, ha, h⟩ := bind_ok h
    have h := (nd_ok (nd_ok h).2).2
    obtain rfl := cr_inj h
    refine ⟨_, rfl, Nat.le_refl _, fun hK g hg => ?_⟩
    rcases List.mem_append.1 hg with hg | hg
    · exact hK g hg
    · obtain rfl := List.mem_singleton.1 hg
      unfold kidC at ha
      rw [List.getD_eq_getElem?_getD, List.getElem?_map] at ha
      cases hk : t.kids[0]? with
      | none => rw [hk] at ha; obtain rfl := cr_inj ha; exact ty_none (show elemO tNil = none by decide)
      | some u => rw [hk] at ha; exact expr_ty hx hK ha
  split at h
  · obtain ⟨a, -, h⟩ := bind_ok h
    obtain ⟨b, -, h⟩ := bind_ok h
    obtain rfl := cr_inj (nd_ok h).2; exact Pre.refl _ _ _
  split at h
  · obtain ⟨a, -, h⟩ := bind_ok h
    obtain ⟨b, -, h⟩ := bind_ok h
    obtain ⟨c, -, h⟩ := bind_ok h
    obtain rfl := cr_inj (nd_ok h).2; exact Pre.refl _ _ _
  split at h
  · obtain ⟨a, -, h⟩ := bind_ok h
    obtain rfl := cr_inj (nd_ok h).2; exact Pre.refl _ _ _
  split at h
  · split at h
    · obtain rfl := cr_inj (nd_ok h).2; exact Pre.refl _ _ _
    · obtain ⟨a, -, h⟩ := bind_ok h
      obtain rfl := cr_inj (nd_ok h).2; exact Pre.refl _ _ _
  split at h
  · obtain ⟨a, -, h⟩ := bind_ok h
    obtain rfl := cr_inj h; exact Pre.refl _ _ _
  · obtain rfl := cr_inj h; exact Pre.refl _ _ _
theorem Pre.trans {x : Inf} {K K' K'' : List Fld} {n m l : Nat} (h : Pre x K K' n) (g : Pre x K' K'' m) (hl : n + m ≤ l) : Pre x K K'' l := by
  obtain ⟨L, rfl, h1, h2⟩ := h
  obtain ⟨L', rfl, h3, h4⟩ := g
  exact ⟨L ++ L', by rw [List.append_assoc], by rw [List.length_append]; omega, fun hK => h4 (h2 hK)⟩
theorem stmt_pre {x : Inf} {res : ByteArray} (hx : InfOk x) (N : Nat) : (∀ t K f K', sizeT t ≤ N → stmtC x res t K f = .ok K' → Pre x K K' (sizeT t)) ∧ (∀ l K f K', sizeL l ≤ N → stmtsC x res l K f = .ok K' → Pre x K K' (sizeL l)) := by
  induction N with
  | zero =>
    refine ⟨fun t K f K' h => ?_, fun l K f K' h hs => ?_⟩
    · rw [sizeT_eq] at h; omega
    · cases l with
      | nil => simp only [stmtsC] at hs; obtain rfl := cr_inj hs; exact Pre.refl _ _ _
      | cons a r => simp only [sizeL] at h; have := sizeT_eq a; omega
  | succ N ih =>
    have hT : ∀ t K f K', sizeT t ≤ N + 1 → stmtC x res t K f = .ok K' → Pre x K K' (sizeT t) := by
      intro t K f K' h hs
      have hz := sizeT_eq t
      rw [stmtC_eq] at hs
      split at hs
      · obtain ⟨K1, -, hs⟩ := bind_ok hs
        obtain rfl := cr_inj hs; exact Pre.refl _ _ _
      split at hs
      · obtain ⟨a, -, hs⟩ := bind_ok hs
        have hs := (nd_ok hs).2
        have hd : sizeL (t.kids.drop 1) ≤ sizeL t.kids := by
          cases t.kids with
          | nil => exact Nat.le_refl _
          | cons a r => simp only [List.drop_succ_cons, List.drop_zero, sizeL]; omega
        obtain ⟨L, h1, h2, h3⟩ := ih.2 _ K f K' (by omega) hs
        exact ⟨L, h1, by omega, h3⟩
      · obtain ⟨L, h1, h2, h3⟩ := leaf_pre hx hs
        exact ⟨L, h1, by omega, h3⟩
    refine ⟨hT, fun l => ?_⟩
    induction l with
    | nil => intro K f K' h hs; simp only [stmtsC] at hs; obtain rfl := cr_inj hs; exact Pre.refl _ _ _
    | cons a r ihr =>
      intro K f K' h hs
      simp only [sizeL] at h
      simp only [stmtsC] at hs
      obtain ⟨K1, h1, hs⟩ := bind_ok hs
      have g1 := hT a K f K1 (by omega) h1
      have g2 := ihr K1 f K' (by omega) hs
      exact g1.trans g2 (by simp only [sizeL]; omega)
theorem stmt_preT {x : Inf} {res : ByteArray} (hx : InfOk x) {t : Tree} {K K' : List Fld} {f : Nat} (h : stmtC x res t K f = .ok K') : Pre x K K' (sizeT t) := (stmt_pre hx (sizeT t)).1 t K f K' (Nat.le_refl _) h
theorem stmt_preL {x : Inf} {res : ByteArray} (hx : InfOk x) {l : List Tree} {K K' : List Fld} {f : Nat} (h : stmtsC x res l K f = .ok K') : Pre x K K' (sizeL l) := (stmt_pre hx (sizeL l)).2 l K f K' (Nat.le_refl _) h

end Go.Proofs.YtkahbhfbgdbnfaaGreatDoor

/-
  CONTRACTS: statements, branch, block of package check, given statement of the kids. Only the scope's own blocks have turned.
-/
namespace Go.Proofs.YtkahbhfbgdbnfaaGreatDoor
open Go.RowKit

theorem bpost0 {P : Program} {fn : Func} {R : Ending → World → Prop} {a : Act} {w : World} (hd : a.defers = []) (hr : (results fn a.tmps).run P w = .ok (.tuple #[]) w) (h : R (.returned (.tuple #[])) w) : bodyPost P fn R .normal a w := ⟨hd, _, hr, h⟩
theorem stmts_drop {x : Inf} {res : ByteArray} {l : List Tree} {k : Nat} {u : Tree} (h : l[k]? = some u) (K : List Fld) (f : Nat) : stmtsC x res (l.drop k) K f = (stmtC x res u K f).bind fun K' => stmtsC x res (l.drop (k + 1)) K' f := by
  obtain ⟨h1, rfl⟩ := List.getElem?_eq_some_iff.1 h
  rw [List.drop_eq_getElem_cons h1, stmtsC]
theorem stmts_end {x : Inf} {res : ByteArray} {l : List Tree} {k : Nat} (h : l.length ≤ k) (K : List Fld) (f : Nat) : stmtsC x res (l.drop k) K f = .ok K := by
  rw [List.drop_eq_nil_of_le h, stmtsC]
theorem sizeL_drop {l : List Tree} {k : Nat} {u : Tree} (h : l[k]? = some u) : sizeL (l.drop k) = sizeT u + sizeL (l.drop (k + 1)) := by
  obtain ⟨h1, rfl⟩ := List.getElem?_eq_some_iff.1 h
  rw [List.drop_eq_getElem_cons h1, sizeL]
theorem sizeL_drop_le : ∀ (l : List Tree) (k : Nat), sizeL (l.drop k) ≤ sizeL l
  | l, 0 => Nat.le_refl _
  | [], k + 1 => by simp
  | a :: r, k + 1 => by simp only [List.drop_succ_cons, sizeL]; have := sizeL_drop_le r k; omega
/-- So many statements are asked: the others' answer is the whole's. -/
def LRel (E : CE) (v : Value) (wa : World) (u : Nat) (x : Value) (t : Tree) (r : CR (List Fld)) (f m : Nat) (i : Value) (wr : World) : Prop :=
  ∃ (k : Nat) (v' : Value) (K : List Fld), k ≤ m ∧ i = .int .i64 k ∧ Hid (stmtsC E.x E.res (t.kids.drop k) K f = r) ∧ Hid (SS E v wa v' wr K f) ∧ Hid (KOk E.x K) ∧ K.length + sizeL (t.kids.drop k) ≤ 100000 ∧ wr.cell? ⟨u, 0, none⟩ = some x
theorem kq_bad {E : CE} {v _ : Value} {w w' : World} {p er f : Nat} (h : Below E.w0.heap.size E.w0 w') : KQ E v w (.bad p er) f (cfE (E.pl p) er) w' := ⟨rfl, h⟩
theorem SS.ne {E : CE} {v v' : Value} {w wa wr : World} {K K' : List Fld} {f : Nat} (h : SS E v wa v' wr K f) (h0 : SC E w v K' f) (hw : w.heap.size < wa.heap.size) (_ : wa.heap.size ≤ wr.heap.size) : v'.ownBlock ≠ some w.heap.size := fun e => by
  rcases h.nv _ e with h1 | h1
  · have := (h0.own.lt _ h1).2; omega
  · omega
set_option maxRecDepth 100000 in
set_option maxHeartbeats 400000 in
theorem cstatements_any (E : CE) (hx : Hid (InfOk E.x)) (v : Value) (K : List Fld) (f b : Nat) (t : Tree) (w : World) (H : SC E w v K f) (hKo : KOk E.x K) (N : Nd E b t) (hz : K.length + sizeL t.kids ≤ 100000) (ih : ∀ (k : Nat) (u : Tree), t.kids[k]? = some u → YH E u) :
    Calls Tryz.prog 154 #[.pointer (some ⟨E.sb, 0, none⟩), .agg #[.pointer (some ⟨b, 0, none⟩)]] w (KQ E v w (stmtsC E.x E.res t.kids K f) f) := by
  have B0 := Lib.hid (b1 w (.cells #[.pointer (some ⟨b, 0, none⟩)] 25))
  have H0 := Lib.hid (H.below (b1 w (.cells #[.pointer (some ⟨b, 0, none⟩)] 25)))
  have U0 := Lib.hid (PtrAt.new w (some ⟨b, 0, none⟩))
  have NN := Lib.hid N
  have HH := Lib.hid H
  have IH := Lib.hid ih
  have HKO := Lib.hid hKo
  obtain ⟨r, hr⟩ : ∃ r, stmtsC E.x E.res t.kids K f = r := ⟨_, rfl⟩
  have HR : Hid (stmtsC E.x E.res (t.kids.drop 0) K f = r) := hr
  rw [hr]
  obtain ⟨m, hm⟩ : ∃ m, t.kids.length = m := ⟨_, rfl⟩
  have HM := Lib.hid hm
  have hm6 : m ≤ 6000 := by obtain ⟨-, -, -, -, h, -⟩ := N.kid; omega
  clear H N ih hKo hr
  go_enter Tryz.func154, Tryz.ntmps154
  go_wp2_with fail
  generalize w.alloc (.cells #[.pointer (some ⟨b, 0, none⟩)] 25) = wa at *
  have u0 := U0.out.c0
  have ul := U0.out.lt
  have sl := H0.out.lt
  have c0 := H0.out.c0
  have c1 := H0.out.c1
  have c2 := H0.out.c2
  refine (ckids_at NN.out H0.out.B _ (Below.refl _ _)).mono ?_
  rintro e w1 ⟨rfl, hb0⟩
  have u1 := keepC (Below.refl _ _) u0 ul hb0
  have HB0 := Lib.hid hb0
  have ul1 := Nat.lt_of_lt_of_le ul hb0.size
  rw [hm]
  have S0 := Lib.hid ((SS.refl H0.out).below hb0)
  clear hb0 hm c0 c1 c2 sl
  go_wp2_with fail
  go_loopw [7] (fun i wr => LRel E v wa w.heap.size (.pointer (some ⟨b, 0, none⟩)) t r f m i wr) (fun i _ => m - (intOf i).toNat)
  case atStart => exact ⟨0, v, K, Nat.zero_le _, rfl, HR, S0, HKO, hz, u1⟩
  case round =>
    obtain ⟨k, v', K', hk, rfl, HRK, HS, HKK, hlen, ur⟩ := hrel
    by_cases hlt : k < m
    · obtain ⟨u, hu⟩ : ∃ u, t.kids[k]? = some u := ⟨_, List.getElem?_eq_getElem (by have := HM.out; omega)⟩
      obtain ⟨q, hq⟩ : ∃ q, stmtC E.x E.res u K' f = q := ⟨_, rfl⟩
      have HQ := Lib.hid hq
      have HRQ : Hid (r = q.bind fun K2 => stmtsC E.x E.res (t.kids.drop (k + 1)) K2 f) := by show _ = _; rw [← HRK.out, stmts_drop hu, hq]
      have hsz := sizeL_drop hu
      have BW := Lib.hid HS.out.sc.B
      obtain ⟨nb, hn, hkd⟩ := ckid_at NN.out BW.out k u hu
      have HU := Lib.hid hu
      have N1 := Lib.hid hn
      have KD := Lib.hid hkd
      clear hq hu hn hkd
      go_wp2_with fail
      refine (KD.out _ (Below.refl _ _)).mono ?_
      rintro e w2 ⟨rfl, hb2⟩
      have S2 := Lib.hid (HS.out.below hb2)
      have ur2 := keepC (Below.refl _ _) ur (Nat.lt_of_lt_of_le ul HS.out.sg.size) hb2
      clear hb2 KD
      go_wp2_with fail
      refine (IH.out k u HU.out w2 v' K' f nb S2.out.sc HKK.out N1.out (by omega)).mono ?_
      rw [HQ.out]
      intro e w3 he
      cases q with
      | bad p er =>
        obtain ⟨rfl, hb⟩ := he
        exact ⟨rfl, by rw [HRQ.out]; exact ⟨rfl, hb⟩⟩
      | ok K2 =>
        obtain ⟨v3, rfl, hs3⟩ := he
        obtain ⟨L, hL, hLl, hLo⟩ := stmt_preT hx.out HQ.out
        have S3 := Lib.hid (S2.out.trans hs3)
        have ur3 : w3.cell? ⟨w.heap.size, 0, none⟩ = some (.pointer (some ⟨b, 0, none⟩)) := (World.cell?_of_block (w := w2) (hs3.sg.blk w.heap.size (Nat.lt_of_lt_of_le ul S2.out.sg.size) (by have := HH.out.lt; omega) (S2.out.ne HH.out ul S2.out.sg.size))).trans ur2
        have HK3 := Lib.hid (hLo HKK.out)
        have hl3 : K2.length + sizeL (t.kids.drop (k + 1)) ≤ 100000 := by rw [hL, List.length_append]; omega
        clear hs3 hL hLo
        go_wp2_with fail
        go_roundw
        case rel => exact ⟨k + 1, v3, K2, by omega, by go_num, HRQ.out.symm, S3, HK3, hl3, ur3⟩
        case measure => simp [intOf]; omega
    · obtain rfl : k = m := by omega
      have HE : Hid (r = .ok K') := by show _ = _; rw [← HRK.out, stmts_end (by have := HM.out; omega)]
      go_wp2_with fail
      refine bodyPost_end (v := .tuple #[]) (by simp [results, Tryz.results154, go_sem]) rfl ?_
      rw [HE.out]
      exact ⟨v', rfl, ((SS.refl HH.out).below B0.out).trans HS.out⟩

end Go.Proofs.YtkahbhfbgdbnfaaGreatDoor

/-
  CONTRACTS: branch, block of package check, given statement of the kids. Only the scope's own blocks have turned.
-/
namespace Go.Proofs.YtkahbhfbgdbnfaaGreatDoor
open Go.RowKit

theorem set_other {w : World} {sb i j : Nat} {x : Value} (h : i ≠ j) : (w.setCell ⟨sb, i, none⟩ x).cell? ⟨sb, j, none⟩ = w.cell? ⟨sb, j, none⟩ := World.cell?_setCell_other _ _ _ _ (by intro e; injection e with e1 e2; omega)
theorem low_set {B : Nat} {w0 w : World} {sb i : Nat} {x : Value} (h : Below B w0 w) (hs : B ≤ sb) : Below B w0 (w.setCell ⟨sb, i, none⟩ x) := h.setCell (p := ⟨sb, i, none⟩) hs x
theorem own_set {w : World} {base sb i n : Nat} {v : Value} {xs : List Value} {x : Value} (h : w.ownsRow base 97 2 v n xs) (hne : v.ownBlock ≠ some sb) : (w.setCell ⟨sb, i, none⟩ x).ownsRow base 97 2 v n xs := h.kept (kb_set w ⟨sb, i, none⟩ x) (.inr hne)
/-- Where this block's variables begin is set. -/
theorem SC.setF {E : CE} {w : World} {v : Value} {K : List Fld} {f : Nat} (h : SC E w v K f) (f' : Nat) (hf : f' ≤ K.length) : SC E (w.setCell ⟨E.sb, 5, none⟩ (.int .i64 f')) v K f' :=
  { B := low_set h.B h.sb0, sb0 := h.sb0, lt := Nat.lt_of_lt_of_le h.lt (kb_set w _ _).size, c0 := (set_other (by decide)).trans h.c0, c1 := (set_other (by decide)).trans h.c1, c2 := (set_other (by decide)).trans h.c2, c3 := (set_other (by decide)).trans h.c3, c4 := (set_other (by decide)).trans h.c4, c5 := World.cell?_setCell_same _ _ _ h.c5, fr := fun k => (World.frozen?_setCell _ _ _ _).trans (h.fr k), own := own_set h.own h.ne, ne := h.ne, im := h.im, kl := h.kl, fle := hf }
/-- The variables are set. -/
theorem SC.setK {E : CE} {w : World} {v v' : Value} {K K' : List Fld} {f : Nat} (h : SC E w v K f) (ho : w.ownsRow E.w0.heap.size 97 2 v' K'.length (cellsF K')) (hne : v'.ownBlock ≠ some E.sb) (hl : K'.length ≤ 100000) (hf : f ≤ K'.length) : SC E (w.setCell ⟨E.sb, 4, none⟩ v') v' K' f :=
  { B := low_set h.B h.sb0, sb0 := h.sb0, lt := Nat.lt_of_lt_of_le h.lt (kb_set w _ _).size, c0 := (set_other (by decide)).trans h.c0, c1 := (set_other (by decide)).trans h.c1, c2 := (set_other (by decide)).trans h.c2, c3 := (set_other (by decide)).trans h.c3, c4 := World.cell?_setCell_same _ _ _ h.c4, c5 := (set_other (by decide)).trans h.c5, fr := fun k => (World.frozen?_setCell _ _ _ _).trans (h.fr k), own := own_set ho hne, ne := hne, im := h.im, kl := hl, fle := hf }
theorem SG.set {sb i : Nat} {v : Value} {w : World} {x : Value} : SG sb v w (w.setCell ⟨sb, i, none⟩ x) :=
  ⟨rfl, rfl, rfl, (kb_set w ⟨sb, i, none⟩ x).size, fun k hk h1 _ => (kb_set w ⟨sb, i, none⟩ x).block k hk (fun e => h1 (Option.some.inj e))⟩
theorem SS.setF {E : CE} {w : World} {v : Value} {K : List Fld} {f : Nat} (h : SC E w v K f) (f' : Nat) (hf : f' ≤ K.length) : SS E v w v (w.setCell ⟨E.sb, 5, none⟩ (.int .i64 f')) K f' := ⟨h.setF f' hf, SG.set, fun _ h => .inl h⟩
theorem SS.setK {E : CE} {w : World} {v v' : Value} {K K' : List Fld} {f : Nat} (h : SC E w v K f) (ho : w.ownsRow E.w0.heap.size 97 2 v' K'.length (cellsF K')) (hb : ∀ g, v'.ownBlock = some g → v.ownBlock = some g) (hl : K'.length ≤ 100000) (hf : f ≤ K'.length) : SS E v w v' (w.setCell ⟨E.sb, 4, none⟩ v') K' f :=
  ⟨h.setK ho (fun e => h.ne (hb _ e)) hl hf, SG.set, fun g hg => .inl (hb g hg)⟩
set_option maxRecDepth 100000 in
set_option maxHeartbeats 400000 in
theorem cbranch_any (E : CE) (hx : Hid (InfOk E.x)) (v : Value) (K : List Fld) (f b : Nat) (t u0 : Tree) (w : World) (H : SC E w v K f) (hKo : KOk E.x K) (N : Nd E b t) (hu0 : t.kids[0]? = some u0) (hz : K.length + sizeL t.kids ≤ 100000) (ihx : XH E u0) (ih : ∀ (k : Nat) (u : Tree), 1 ≤ k → t.kids[k]? = some u → YH E u) :
    Calls Tryz.prog 191 #[.pointer (some ⟨E.sb, 0, none⟩), .agg #[.pointer (some ⟨b, 0, none⟩)]] w (KQ E v w ((exprC E.x K u0).bind fun a => nd t.pos (eqB a tBool) 7 (stmtsC E.x E.res (t.kids.drop 1) K f)) f) := by
  have B0 := Lib.hid (b1 w (.cells #[.pointer (some ⟨b, 0, none⟩)] 25))
  have H0 := Lib.hid (H.below (b1 w (.cells #[.pointer (some ⟨b, 0, none⟩)] 25)))
  have U0 := Lib.hid (PtrAt.new w (some ⟨b, 0, none⟩))
  have NN := Lib.hid N
  have HH := Lib.hid H
  have IH := Lib.hid ih
  have IHX := Lib.hid ihx
  have HKO := Lib.hid hKo
  obtain ⟨q0, hq0⟩ : ∃ r, exprC E.x K u0 = r := ⟨_, rfl⟩
  have HQ0 := Lib.hid hq0
  obtain ⟨r, hr⟩ : ∃ r, stmtsC E.x E.res (t.kids.drop 1) K f = r := ⟨_, rfl⟩
  have HR := Lib.hid hr
  rw [hr, hq0]
  obtain ⟨m, hm⟩ : ∃ m, t.kids.length = m := ⟨_, rfl⟩
  have HM := Lib.hid hm
  have hm6 : m ≤ 6000 := by obtain ⟨-, -, -, -, h, -⟩ := N.kid; omega
  have hm1 : 1 ≤ m := by have := (List.getElem?_eq_some_iff.1 hu0).1; omega
  have hz1 : K.length + sizeL (t.kids.drop 1) ≤ 100000 := by have := sizeL_drop_le t.kids 1; omega
  obtain ⟨nb0, hn0, hkd0⟩ := ckid_at N H0.out.B 0 u0 hu0
  have N0 := Lib.hid hn0
  have HKD := Lib.hid hkd0
  clear H N ih ihx hKo hr hq0 hn0 hkd0 hu0
  go_enter Tryz.func191, Tryz.ntmps191
  go_wp2_with fail
  generalize w.alloc (.cells #[.pointer (some ⟨b, 0, none⟩)] 25) = wa at *
  have u0 := U0.out.c0
  have ul := U0.out.lt
  have sl := H0.out.lt
  have c0 := H0.out.c0
  have c1 := H0.out.c1
  have c2 := H0.out.c2
  have BE : Hid (∀ w', Below wa.heap.size wa w' → Below E.w0.heap.size E.w0 w') := fun w' h => H0.out.B.trans (h.mono H0.out.B.size)
  clear c0 c1 c2
  refine rgS (fun w' => Below wa.heap.size wa w' ∧ w'.cell? ⟨w.heap.size, 0, none⟩ = some (.pointer (some ⟨b, 0, none⟩))) (by kernel_rfl) (⟨(Below.refl _ _).drew, u0⟩) (fun _ a d v _ h => And.intro ((put_df a d v).symm.trans (And.left h)) (And.right h)) fun hHeld hq => ?_
  refine tkS 0 { dst := some 5, op := .load 25 (.tmp 3), type := 25, pos := "body.go:70", after := #[], guard := none } (v := ?v1_0) hq hHeld rfl (by kernel_rfl) ?y1_0 ?_
  case y1_0 => (intro w h; try dsimp only at h); go_simp <;> with_reducible rfl
  try simp only [Act.put, List.setIfInBounds_toArray, List.set_cons_zero, List.set_cons_succ]
  refine tkS 1 { dst := some 6, op := .move (.tmp 0), type := 185, pos := "body.go:70", after := #[], guard := none } (v := ?v1_1) hq hHeld rfl (by kernel_rfl) ?y1_1 ?_
  case y1_1 => (intro w h; try dsimp only at h); go_simp <;> with_reducible rfl
  try simp only [Act.put, List.setIfInBounds_toArray, List.set_cons_zero, List.set_cons_succ]
  refine tkS 2 { dst := some 7, op := .load 25 (.tmp 3), type := 25, pos := "body.go:70", after := #[], guard := none } (v := ?v1_2) hq hHeld rfl (by kernel_rfl) ?y1_2 ?_
  case y1_2 => (intro w h; try dsimp only at h); go_simp <;> with_reducible rfl
  try simp only [Act.put, List.setIfInBounds_toArray, List.set_cons_zero, List.set_cons_succ]
  refine clS 3 { dst := some 8, op := .call { callee := .value (.func 29), args := #[.tmp 7, .const (.int .i64 0)], argTypes := #[25, 3] }, type := 25, pos := "body.go:70", after := #[{ on := 2, ground := .data }], guard := none } rfl (by kernel_rfl) (by kernel_rfl) fun Kc hK => ?_
  go_simp
  refine (kid0_of 0 _ _ (HKD.out _ hHeld.1) 0 rfl).mono ?_
  rintro e w1 ⟨rfl, hb⟩
  refine hK.out _ _ ⟨hHeld.1.trans (hb.mono hHeld.1.size), keepC hHeld.1 hHeld.2 ul hb⟩ fun hHeld => ?_
  clear hb
  clear hK Kc
  try simp only [Act.put, List.setIfInBounds_toArray, List.set_cons_zero, List.set_cons_succ]
  refine clS 4 { dst := some 9, op := .call { callee := .value (.func 187), args := #[.tmp 6, .tmp 8], argTypes := #[185, 25] }, type := 9, pos := "body.go:70", after := #[{ on := 1, ground := .data }, { on := 3, ground := .data }, { on := 3, ground := .chain }], guard := none } rfl (by kernel_rfl) (by kernel_rfl) fun Kc hK => ?_
  go_simp
  refine (IHX.out _ v K f _ (H0.out.below hHeld.1) HKO.out N0.out).mono ?_
  rw [HQ0.out]
  rintro e w1 ⟨hb, he⟩
  cases q0 with
  | bad p er => obtain rfl := he; exact ⟨rfl, rfl, BE.out _ (hHeld.1.trans (hb.mono hHeld.1.size))⟩
  | ok a =>
  obtain rfl := he
  obtain ⟨d, hd⟩ : ∃ d, (a.toList == [98, 111, 111, 108]) = d := ⟨_, rfl⟩
  have HD : Hid (eqB a tBool = d) := eqB_of hd
  refine hK.out _ _ ⟨hHeld.1.trans (hb.mono hHeld.1.size), keepC hHeld.1 hHeld.2 ul hb⟩ fun hHeld => ?_
  clear hb
  clear hK Kc
  try simp only [Act.put, List.setIfInBounds_toArray, List.set_cons_zero, List.set_cons_succ]
  refine tkS 5 { dst := some 10, op := .binOp .eql 9 (.tmp 9) (.const (.string { data := #[98, 111, 111, 108] })) 9, type := 4, pos := "body.go:70", after := #[{ on := 4, ground := .data }], guard := none } (v := ?v1_5) hq hHeld rfl (by kernel_rfl) ?y1_5 ?_
  case y1_5 => (intro w h; try dsimp only at h); go_simp <;> with_reducible rfl
  try simp only [Act.put, List.setIfInBounds_toArray, List.set_cons_zero, List.set_cons_succ]
  refine clS 6 { dst := some 11, op := .call { callee := .value (.func 148), args := #[.tmp 5, .tmp 10, .const (.int .i64 7)], argTypes := #[25, 4, 26] }, type := 0, pos := "body.go:70", after := #[{ on := 0, ground := .data }, { on := 5, ground := .data }, { on := 4, ground := .chain }], guard := none } rfl (by kernel_rfl) (by kernel_rfl) fun Kc hK => ?_
  go_simp
  refine (cneed_at NN.out H0.out.B d 7 _ hHeld.1).mono ?_
  rintro e w1 ⟨hb, he⟩
  cases d with
  | false => obtain rfl := he; exact ⟨rfl, by simp only [CR.bind, HD.out]; exact ⟨rfl, BE.out _ (hHeld.1.trans (hb.mono hHeld.1.size))⟩⟩
  | true =>
  obtain rfl := he
  refine hK.out _ _ ⟨hHeld.1.trans (hb.mono hHeld.1.size), keepC hHeld.1 hHeld.2 ul hb⟩ fun hHeld => ?_
  clear hb
  clear hK Kc
  try simp only [Act.put, List.setIfInBounds_toArray, List.set_cons_zero, List.set_cons_succ]
  refine wpAnyH_done (by kernel_rfl) ?_ _
  have HPO : Hid ((CR.ok a).bind (fun a => nd t.pos (eqB a tBool) 7 r) = r) := by show _ = _; simp only [CR.bind, HD.out, nd, if_true]
  have u1 := hHeld.2
  have S0 := Lib.hid ((SS.refl H0.out).below hHeld.1)
  clear hHeld hd HD
  go_wp2_with fail
  go_loopw [4] (fun i wr => LRel E v wa w.heap.size (.pointer (some ⟨b, 0, none⟩)) t r f m i wr ∧ 1 ≤ (intOf i).toNat) (fun i _ => m - (intOf i).toNat)
  case atStart => exact ⟨⟨1, v, K, hm1, rfl, HR, S0, HKO, hz1, u1⟩, Nat.le_refl _⟩
  case round =>
    obtain ⟨⟨k, v', K', hk, rfl, HRK, HS, HKK, hlen, ur⟩, hk1⟩ := hrel
    have hk1' : 1 ≤ k := by simpa [intOf] using hk1
    have BW := Lib.hid HS.out.sc.B
    have ulr := Nat.lt_of_lt_of_le ul HS.out.sg.size
    go_wp2_with fail
    refine (ckids_at NN.out BW.out _ (Below.refl _ _)).mono ?_
    rintro e w9 ⟨rfl, hb9⟩
    rw [HM.out]
    have S9 := Lib.hid (HS.out.below hb9)
    have ur9 := keepC (Below.refl _ _) ur ulr hb9
    have ul9 := Nat.lt_of_lt_of_le ulr hb9.size
    clear hb9
    by_cases hlt : k < m
    · obtain ⟨u, hu⟩ : ∃ u, t.kids[k]? = some u := ⟨_, List.getElem?_eq_getElem (by have := HM.out; omega)⟩
      obtain ⟨q, hq⟩ : ∃ q, stmtC E.x E.res u K' f = q := ⟨_, rfl⟩
      have HQ := Lib.hid hq
      have HRQ : Hid (r = q.bind fun K2 => stmtsC E.x E.res (t.kids.drop (k + 1)) K2 f) := by show _ = _; rw [← HRK.out, stmts_drop hu, hq]
      have hsz := sizeL_drop hu
      obtain ⟨nb, hn, hkd⟩ := ckid_at NN.out S9.out.sc.B k u hu
      have HU := Lib.hid hu
      have N1 := Lib.hid hn
      have KD := Lib.hid hkd
      clear hq hu hn hkd
      go_wp2_with fail
      refine (KD.out _ (Below.refl _ _)).mono ?_
      rintro e w2 ⟨rfl, hb2⟩
      have S2 := Lib.hid (S9.out.below hb2)
      have ur2 := keepC (Below.refl _ _) ur9 ul9 hb2
      clear hb2 KD
      go_wp2_with fail
      refine (IH.out k u hk1' HU.out w2 v' K' f nb S2.out.sc HKK.out N1.out (by omega)).mono ?_
      rw [HQ.out]
      intro e w3 he
      cases q with
      | bad p er =>
        obtain ⟨rfl, hb⟩ := he
        exact ⟨rfl, by rw [HPO.out, HRQ.out]; exact ⟨rfl, hb⟩⟩
      | ok K2 =>
        obtain ⟨v3, rfl, hs3⟩ := he
        obtain ⟨L, hL, hLl, hLo⟩ := stmt_preT hx.out HQ.out
        have S3 := Lib.hid (S2.out.trans hs3)
        have ur3 : w3.cell? ⟨w.heap.size, 0, none⟩ = some (.pointer (some ⟨b, 0, none⟩)) := (World.cell?_of_block (w := w2) (hs3.sg.blk w.heap.size (Nat.lt_of_lt_of_le ul S2.out.sg.size) (by have := HH.out.lt; omega) (S2.out.ne HH.out ul S2.out.sg.size))).trans ur2
        have HK3 := Lib.hid (hLo HKK.out)
        have hl3 : K2.length + sizeL (t.kids.drop (k + 1)) ≤ 100000 := by rw [hL, List.length_append]; omega
        clear hs3 hL hLo
        go_wp2_with fail
        go_roundw
        case rel => exact ⟨⟨k + 1, v3, K2, by omega, by go_num, HRQ.out.symm, S3, HK3, hl3, ur3⟩, by simp [intOf]⟩
        case measure => simp [intOf]; omega
    · obtain rfl : k = m := by omega
      have HE : Hid (r = .ok K') := by show _ = _; rw [← HRK.out, stmts_end (by have := HM.out; omega)]
      go_wp2_with fail
      refine bodyPost_end (v := .tuple #[]) (by simp [results, Tryz.results191, go_sem]) rfl ?_
      rw [HPO.out, HE.out]
      exact ⟨v', rfl, ((SS.refl HH.out).below B0.out).trans S9.out⟩

set_option maxRecDepth 100000 in
set_option maxHeartbeats 400000 in
theorem cblock_any (E : CE) (hx : Hid (InfOk E.x)) (v : Value) (K : List Fld) (f b : Nat) (t : Tree) (w : World) (H : SC E w v K f) (hKo : KOk E.x K) (N : Nd E b t) (hz : K.length + sizeL t.kids ≤ 100000) (ih : ∀ (k : Nat) (u : Tree), t.kids[k]? = some u → YH E u) :
    Calls Tryz.prog 185 #[.pointer (some ⟨E.sb, 0, none⟩), .agg #[.pointer (some ⟨b, 0, none⟩)]] w (KQ E v w ((stmtsC E.x E.res t.kids K K.length).bind fun _ => .ok K) f) := by
  have B0 := Lib.hid (b1 w (.cells #[.pointer (some ⟨b, 0, none⟩)] 25))
  have H0 := Lib.hid (H.below (b1 w (.cells #[.pointer (some ⟨b, 0, none⟩)] 25)))
  have U0 := Lib.hid (PtrAt.new w (some ⟨b, 0, none⟩))
  have NN := Lib.hid N
  have HH := Lib.hid H
  have IH := Lib.hid ih
  have HKO := Lib.hid hKo
  obtain ⟨r, hr⟩ : ∃ r, stmtsC E.x E.res t.kids K K.length = r := ⟨_, rfl⟩
  rw [hr]
  have HR := Lib.hid hr
  obtain ⟨A, c, hv, hc, -⟩ := fr_own H.own
  have HV := Lib.hid hv
  have hkl := H.kl
  have hfl := H.fle
  clear H N ih hKo hr
  obtain ⟨m, hm⟩ : ∃ m, K.length = m := ⟨_, rfl⟩
  have HM := Lib.hid hm
  rw [hm] at hv hc hkl hfl
  have HRm : Hid (stmtsC E.x E.res t.kids K m = r) := by show _ = _; rw [← hm]; exact HR.out
  go_enter Tryz.func185, Tryz.ntmps185
  go_wp2_with fail
  generalize w.alloc (.cells #[.pointer (some ⟨b, 0, none⟩)] 25) = wa at *
  have u0 := U0.out.c0
  have ul := U0.out.lt
  have sl := H0.out.lt
  have c0 := H0.out.c0
  have c1 := H0.out.c1
  have c2 := H0.out.c2
  have c4 := H0.out.c4
  have c5 := H0.out.c5
  have f5 := H0.out.fr 5
  rw [hv] at c4
  clear c0 c1 c2 hv hm
  refine rgS (fun w' => Below wa.heap.size wa w' ∧ w'.cell? ⟨w.heap.size, 0, none⟩ = some (.pointer (some ⟨b, 0, none⟩)) ∧ w'.cell? ⟨E.sb, 4, none⟩ = some (.slice A m c) ∧ w'.cell? ⟨E.sb, 5, none⟩ = some (.int .i64 f)) (by kernel_rfl) (⟨(Below.refl _ _).drew, u0, c4, c5⟩) (fun _ a d v _ h => And.intro ((put_df a d v).symm.trans (And.left h)) (And.right h)) fun hHeld hq => ?_
  refine tkS 0 { dst := some 6, op := .move (.tmp 0), type := 185, pos := "body.go:54", after := #[], guard := none } (v := ?v2_0) hq hHeld rfl (by kernel_rfl) ?y2_0 ?_
  case y2_0 => (intro w h; try dsimp only at h); go_simp <;> with_reducible rfl
  try simp only [Act.put, List.setIfInBounds_toArray, List.set_cons_zero, List.set_cons_succ]
  refine tkS 1 { dst := some 7, op := .nilCheck (.tmp 6), type := 0, pos := "body.go:54", after := #[{ on := 0, ground := .data }], guard := none } (v := ?v2_1) hq hHeld rfl (by kernel_rfl) ?y2_1 ?_
  case y2_1 => (intro w h; try dsimp only at h); go_simp <;> with_reducible rfl
  try simp only [Act.put, List.setIfInBounds_toArray, List.set_cons_zero, List.set_cons_succ]
  refine tkS 2 { dst := some 8, op := .fieldAddr 179 (.tmp 7) 3, type := 0, pos := "body.go:54", after := #[{ on := 1, ground := .data }], guard := none } (v := ?v2_2) hq hHeld rfl (by kernel_rfl) ?y2_2 ?_
  case y2_2 => (intro w h; try dsimp only at h); go_simp <;> with_reducible rfl
  try simp only [Act.put, List.setIfInBounds_toArray, List.set_cons_zero, List.set_cons_succ]
  refine tkS 3 { dst := some 9, op := .load 3 (.tmp 8), type := 3, pos := "body.go:54", after := #[{ on := 2, ground := .data }], guard := none } (v := ?v2_3) hq hHeld rfl (by kernel_rfl) ?y2_3 ?_
  case y2_3 => (intro w h; try dsimp only at h); go_simp <;> with_reducible rfl
  try simp only [Act.put, List.setIfInBounds_toArray, List.set_cons_zero, List.set_cons_succ]
  refine tkS 4 { dst := some 10, op := .move (.tmp 0), type := 185, pos := "body.go:54", after := #[], guard := none } (v := ?v2_4) hq hHeld rfl (by kernel_rfl) ?y2_4 ?_
  case y2_4 => (intro w h; try dsimp only at h); go_simp <;> with_reducible rfl
  try simp only [Act.put, List.setIfInBounds_toArray, List.set_cons_zero, List.set_cons_succ]
  refine tkS 5 { dst := some 11, op := .nilCheck (.tmp 10), type := 0, pos := "body.go:54", after := #[{ on := 4, ground := .data }], guard := none } (v := ?v2_5) hq hHeld rfl (by kernel_rfl) ?y2_5 ?_
  case y2_5 => (intro w h; try dsimp only at h); go_simp <;> with_reducible rfl
  try simp only [Act.put, List.setIfInBounds_toArray, List.set_cons_zero, List.set_cons_succ]
  refine tkS 6 { dst := some 12, op := .fieldAddr 179 (.tmp 11) 2, type := 0, pos := "body.go:54", after := #[{ on := 5, ground := .data }], guard := none } (v := ?v2_6) hq hHeld rfl (by kernel_rfl) ?y2_6 ?_
  case y2_6 => (intro w h; try dsimp only at h); go_simp <;> with_reducible rfl
  try simp only [Act.put, List.setIfInBounds_toArray, List.set_cons_zero, List.set_cons_succ]
  refine tkS 7 { dst := some 13, op := .load 41 (.tmp 12), type := 41, pos := "body.go:54", after := #[{ on := 6, ground := .data }], guard := none } (v := ?v2_7) hq hHeld rfl (by kernel_rfl) ?y2_7 ?_
  case y2_7 => (intro w h; try dsimp only at h); go_simp <;> with_reducible rfl
  try simp only [Act.put, List.setIfInBounds_toArray, List.set_cons_zero, List.set_cons_succ]
  refine tkS 8 { dst := some 14, op := .call { callee := .builtin Builtin.len, args := #[.tmp 13], argTypes := #[41] }, type := 3, pos := "body.go:54", after := #[{ on := 7, ground := .data }], guard := none } (v := ?v2_8) hq hHeld rfl (by kernel_rfl) ?y2_8 ?_
  case y2_8 => (intro w h; try dsimp only at h); go_simp <;> with_reducible rfl
  try simp only [Act.put, List.setIfInBounds_toArray, List.set_cons_zero, List.set_cons_succ]
  refine tkS 9 { dst := some 4, op := .assign (.tmp 9), type := 3, pos := "body.go:54", after := #[{ on := 3, ground := .data }, { on := 0, ground := .phase }, { on := 1, ground := .phase }, { on := 2, ground := .phase }, { on := 3, ground := .phase }, { on := 4, ground := .textOnly .lateStores }, { on := 5, ground := .textOnly .lateStores }, { on := 6, ground := .textOnly .lateStores }, { on := 7, ground := .textOnly .lateStores }, { on := 8, ground := .textOnly .lateStoresUnsure }], guard := none } (v := ?v2_9) hq hHeld rfl (by kernel_rfl) ?y2_9 ?_
  case y2_9 => (intro w h; try dsimp only at h); go_simp <;> with_reducible rfl
  try simp only [Act.put, List.setIfInBounds_toArray, List.set_cons_zero, List.set_cons_succ]
  refine tkS 10 { dst := some 5, op := .assign (.tmp 14), type := 3, pos := "body.go:54", after := #[{ on := 8, ground := .data }, { on := 9, ground := .chain }, { on := 0, ground := .phase }, { on := 1, ground := .phase }, { on := 2, ground := .phase }, { on := 3, ground := .phase }, { on := 4, ground := .phase }, { on := 5, ground := .phase }, { on := 6, ground := .phase }, { on := 7, ground := .phase }, { on := 8, ground := .phase }, { on := 9, ground := .phase }], guard := none } (v := ?v2_10) hq hHeld rfl (by kernel_rfl) ?y2_10 ?_
  case y2_10 => (intro w h; try dsimp only at h); go_simp <;> with_reducible rfl
  try simp only [Act.put, List.setIfInBounds_toArray, List.set_cons_zero, List.set_cons_succ]
  refine wpAnyH_done (by kernel_rfl) ?_ _
  have u1 := hHeld.2.1
  have S1 := Lib.hid ((SS.refl H0.out).below hHeld.1)
  have c5 := hHeld.2.2.2
  have f5 := (hHeld.1.frozen (p := ⟨E.sb, 5, none⟩) sl).trans f5
  have ul1 := Nat.lt_of_lt_of_le ul hHeld.1.size
  clear hHeld c4
  generalize wa.drew = wd at *
  have S2 := Lib.hid (S1.out.trans (SS.setF S1.out.sc K.length (Nat.le_refl _)))
  rw [HM.out] at S2
  have hne : w.heap.size ≠ E.sb := by have := HH.out.lt; omega
  have u2 : (wd.setCell ⟨E.sb, 5, none⟩ (.int .i64 m)).cell? ⟨w.heap.size, 0, none⟩ = some (.pointer (some ⟨b, 0, none⟩)) := (World.cell?_setCell_other _ _ _ _ (by intro e; injection e with e1 e2; exact hne e1.symm)).trans u1
  go_wp2_with fail
  generalize wd.setCell ⟨E.sb, 5, none⟩ (.int .i64 m) = ws at *
  have ul2 := Nat.lt_of_lt_of_le ul S2.out.sg.size
  refine (cstatements_any E hx v K m b t ws S2.out.sc HKO.out NN.out hz IH.out).mono ?_
  rw [HRm.out]
  intro e w3 he
  cases r with
  | bad p er =>
    obtain ⟨rfl, hb⟩ := he
    exact ⟨rfl, rfl, hb⟩
  | ok K2 =>
    obtain ⟨v3, rfl, hs3⟩ := he
    obtain ⟨L, rfl, -, -⟩ := stmt_preL hx.out HR.out
    have S3 := Lib.hid (S2.out.trans hs3)
    clear hs3
    obtain ⟨A3, k3, rfl, hk3, -⟩ := fr_own S3.out.sc.own
    have d4 := S3.out.sc.c4
    have d5 := S3.out.sc.c5
    have q4 := S3.out.sc.fr 4
    have q5 := S3.out.sc.fr 5
    have lt3 := S3.out.sc.lt
    obtain ⟨M, hM⟩ : ∃ M, (K ++ L).length = M := ⟨_, rfl⟩
    have hMl : m ≤ M := by have := HM.out; rw [← hM, List.length_append]; omega
    have HMM := Lib.hid hM
    have hM5 : M ≤ 100000 := by have := S3.out.sc.kl; omega
    rw [hM] at d4 hk3
    have HFIN : Hid (∀ A', Hid (A' = A3) → SS E v wa (.slice A' m k3) ((w3.setCell ⟨E.sb, 5, none⟩ (.int .i64 f)).setCell ⟨E.sb, 4, none⟩ (.slice A' m k3)) K f) := by
      intro A' hA
      obtain rfl := hA.out
      have h5 := SS.setF S3.out.sc f (by rw [List.length_append]; have := HM.out; omega)
      refine S3.out.trans (h5.trans ?_)
      rw [← HM.out]
      refine SS.setK h5.sc ?_ (fun g hg => by cases A' <;> exact hg) (by have := HM.out; omega) (by have := HM.out; omega)
      cases A' with
      | some a0 => exact own_take h5.sc.own rfl
      | none =>
        rcases h5.sc.own.2 with ⟨h1, h2⟩ | ⟨g, cap, cur, h1, -⟩
        · have h3 : K = [] := List.length_eq_zero_iff.1 (by rw [List.length_append] at h2; omega)
          simp only [Value.slice.injEq] at h1
          rw [h3, h1.2.2]
          exact World.ownsRow_nil _ _ _ _
        · simp at h1
    clear hM
    have b0 : (0 : Int) ≤ (m : Int) := by omega
    have bm : (m : Int) ≤ (k3 : Int) := by omega
    cases A3 with
    | some a3 =>
      go_wp2_with fail
      refine rgX (fun w' => w'.cell? ⟨E.sb, 4, none⟩ = some (.slice (some a3) M k3)) [11, 14] (by kernel_rfl) (d4) (fun _ a d v _ h => And.intro ((put_df a d v).symm.trans (And.left h)) (And.right h)) fun hHeld hq => ?_
      refine twX 0 { dst := some 22, op := .move (.tmp 0), type := 185, pos := "body.go:57", after := #[], guard := none } (v := ?v3_0) hq rfl (by kernel_rfl) ?y3_0 ?_
      case y3_0 => intro w; go_simp <;> with_reducible rfl
      try simp only [Act.put, List.setIfInBounds_toArray, List.set_cons_zero, List.set_cons_succ]
      refine twX 1 { dst := some 23, op := .move (.tmp 0), type := 185, pos := "body.go:57", after := #[{ on := 11, ground := .gcOnly .lateStores }], guard := none } (v := ?v3_1) hq rfl (by kernel_rfl) ?y3_1 ?_
      case y3_1 => intro w; go_simp <;> with_reducible rfl
      try simp only [Act.put, List.setIfInBounds_toArray, List.set_cons_zero, List.set_cons_succ]
      refine twX 2 { dst := some 24, op := .move (.tmp 4), type := 3, pos := "body.go:57", after := #[], guard := none } (v := ?v3_2) hq rfl (by kernel_rfl) ?y3_2 ?_
      case y3_2 => intro w; go_simp <;> with_reducible rfl
      try simp only [Act.put, List.setIfInBounds_toArray, List.set_cons_zero, List.set_cons_succ]
      refine twX 3 { dst := some 25, op := .move (.tmp 0), type := 185, pos := "body.go:57", after := #[], guard := none } (v := ?v3_3) hq rfl (by kernel_rfl) ?y3_3 ?_
      case y3_3 => intro w; go_simp <;> with_reducible rfl
      try simp only [Act.put, List.setIfInBounds_toArray, List.set_cons_zero, List.set_cons_succ]
      refine twX 4 { dst := some 26, op := .nilCheck (.tmp 25), type := 0, pos := "body.go:57", after := #[{ on := 3, ground := .data }], guard := none } (v := ?v3_4) hq rfl (by kernel_rfl) ?y3_4 ?_
      case y3_4 => intro w; go_simp <;> with_reducible rfl
      try simp only [Act.put, List.setIfInBounds_toArray, List.set_cons_zero, List.set_cons_succ]
      refine twX 5 { dst := some 27, op := .fieldAddr 179 (.tmp 26) 2, type := 0, pos := "body.go:57", after := #[{ on := 4, ground := .data }], guard := none } (v := ?v3_5) hq rfl (by kernel_rfl) ?y3_5 ?_
      case y3_5 => intro w; go_simp <;> with_reducible rfl
      try simp only [Act.put, List.setIfInBounds_toArray, List.set_cons_zero, List.set_cons_succ]
      refine tkX 6 { dst := some 28, op := .load 41 (.tmp 27), type := 41, pos := "body.go:57", after := #[{ on := 5, ground := .data }], guard := none } (v := ?v3_6) hq hHeld rfl (by kernel_rfl) ?y3_6 ?_
      case y3_6 => (intro w h; try dsimp only at h); go_simp <;> with_reducible rfl
      try simp only [Act.put, List.setIfInBounds_toArray, List.set_cons_zero, List.set_cons_succ]
      refine twX 7 { dst := some 29, op := .move (.tmp 5), type := 3, pos := "body.go:57", after := #[], guard := none } (v := ?v3_7) hq rfl (by kernel_rfl) ?y3_7 ?_
      case y3_7 => intro w; go_simp <;> with_reducible rfl
      try simp only [Act.put, List.setIfInBounds_toArray, List.set_cons_zero, List.set_cons_succ]
      refine twX 8 { dst := some 30, op := .slice 41 (.tmp 28) none (some (.tmp 29)) none, type := 41, pos := "body.go:57", after := #[{ on := 6, ground := .data }, { on := 7, ground := .data }], guard := none } (v := ?v3_8) hq rfl (by kernel_rfl) ?y3_8 ?_
      case y3_8 => intro w; go_simp <;> with_reducible rfl
      try simp only [Act.put, List.setIfInBounds_toArray, List.set_cons_zero, List.set_cons_succ]
      refine twX 9 { dst := some 31, op := .nilCheck (.tmp 22), type := 0, pos := "body.go:57", after := #[{ on := 0, ground := .data }, { on := 0, ground := .phase }, { on := 1, ground := .textOnly .lateStores }, { on := 2, ground := .phase }, { on := 3, ground := .textOnly .lateStores }, { on := 4, ground := .textOnly .lateStoresUnsure }, { on := 5, ground := .textOnly .lateStoresUnsure }, { on := 6, ground := .phase }, { on := 7, ground := .textOnly .lateStores }, { on := 8, ground := .textOnly .lateStoresUnsure }], guard := none } (v := ?v3_9) hq rfl (by kernel_rfl) ?y3_9 ?_
      case y3_9 => intro w; go_simp <;> with_reducible rfl
      try simp only [Act.put, List.setIfInBounds_toArray, List.set_cons_zero, List.set_cons_succ]
      refine twX 10 { dst := some 32, op := .fieldAddr 179 (.tmp 31) 3, type := 0, pos := "body.go:57", after := #[{ on := 9, ground := .data }, { on := 0, ground := .phase }, { on := 1, ground := .textOnly .lateStores }, { on := 2, ground := .phase }, { on := 3, ground := .textOnly .lateStores }, { on := 4, ground := .textOnly .lateStoresUnsure }, { on := 5, ground := .textOnly .lateStoresUnsure }, { on := 6, ground := .phase }, { on := 7, ground := .textOnly .lateStores }, { on := 8, ground := .textOnly .lateStoresUnsure }], guard := none } (v := ?v3_10) hq rfl (by kernel_rfl) ?y3_10 ?_
      case y3_10 => intro w; go_simp <;> with_reducible rfl
      try simp only [Act.put, List.setIfInBounds_toArray, List.set_cons_zero, List.set_cons_succ]
      refine clX 11 { dst := none, op := .store 3 (.tmp 32) (.tmp 24), type := 0, pos := "body.go:57", after := #[{ on := 10, ground := .data }, { on := 2, ground := .data }, { on := 0, ground := .phase }, { on := 1, ground := .textOnly .lateStores }, { on := 2, ground := .phase }, { on := 3, ground := .textOnly .lateStores }, { on := 4, ground := .textOnly .lateStoresUnsure }, { on := 5, ground := .textOnly .lateStoresUnsure }, { on := 6, ground := .phase }, { on := 7, ground := .textOnly .lateStores }, { on := 8, ground := .textOnly .lateStoresUnsure }], guard := none } rfl (by kernel_rfl) (by kernel_rfl) fun Kc hK => ?_
      go_simp
      refine hK.out _ _ (fun h => absurd h (by decide)) ?_
      clear hK Kc
      try simp only [Act.put, List.setIfInBounds_toArray, List.set_cons_zero, List.set_cons_succ]
      refine twX 12 { dst := some 33, op := .nilCheck (.tmp 23), type := 0, pos := "body.go:57", after := #[{ on := 1, ground := .data }, { on := 0, ground := .phase }, { on := 1, ground := .phase }, { on := 2, ground := .phase }, { on := 3, ground := .phase }, { on := 4, ground := .phase }, { on := 5, ground := .phase }, { on := 6, ground := .phase }, { on := 7, ground := .phase }, { on := 8, ground := .phase }, { on := 9, ground := .phase }, { on := 10, ground := .phase }, { on := 11, ground := .phase }], guard := none } (v := ?v3_12) hq rfl (by kernel_rfl) ?y3_12 ?_
      case y3_12 => intro w; go_simp <;> with_reducible rfl
      try simp only [Act.put, List.setIfInBounds_toArray, List.set_cons_zero, List.set_cons_succ]
      refine twX 13 { dst := some 34, op := .fieldAddr 179 (.tmp 33) 2, type := 0, pos := "body.go:57", after := #[{ on := 12, ground := .data }, { on := 0, ground := .phase }, { on := 1, ground := .phase }, { on := 2, ground := .phase }, { on := 3, ground := .phase }, { on := 4, ground := .phase }, { on := 5, ground := .phase }, { on := 6, ground := .phase }, { on := 7, ground := .phase }, { on := 8, ground := .phase }, { on := 9, ground := .phase }, { on := 10, ground := .phase }, { on := 11, ground := .phase }], guard := none } (v := ?v3_13) hq rfl (by kernel_rfl) ?y3_13 ?_
      case y3_13 => intro w; go_simp <;> with_reducible rfl
      try simp only [Act.put, List.setIfInBounds_toArray, List.set_cons_zero, List.set_cons_succ]
      refine clX 14 { dst := none, op := .store 41 (.tmp 34) (.tmp 30), type := 0, pos := "body.go:57", after := #[{ on := 13, ground := .data }, { on := 8, ground := .data }, { on := 11, ground := .chain }, { on := 0, ground := .phase }, { on := 1, ground := .phase }, { on := 2, ground := .phase }, { on := 3, ground := .phase }, { on := 4, ground := .phase }, { on := 5, ground := .phase }, { on := 6, ground := .phase }, { on := 7, ground := .phase }, { on := 8, ground := .phase }, { on := 9, ground := .phase }, { on := 10, ground := .phase }, { on := 11, ground := .phase }], guard := none } rfl (by kernel_rfl) (by kernel_rfl) fun Kc hK => ?_
      go_simp
      refine hK.out _ _ (fun h => absurd h (by decide)) ?_
      clear hK Kc
      try simp only [Act.put, List.setIfInBounds_toArray, List.set_cons_zero, List.set_cons_succ]
      refine dnX (by kernel_rfl) ?_ _
      go_wp2_with fail
      refine bodyPost_end (v := .tuple #[]) (by simp [results, Tryz.results185, go_sem]) rfl ?_
      exact ⟨_, rfl, ((SS.refl HH.out).below B0.out).trans ((HFIN.out _ rfl).below (Below.refl _ _).drew)⟩
    | none =>
      obtain ⟨rfl, rfl, rfl⟩ : M = 0 ∧ k3 = 0 ∧ m = 0 := by
        rcases S3.out.sc.own.2 with ⟨h1, h2⟩ | ⟨g, cap, cur, h1, -⟩
        · simp only [Value.slice.injEq] at h1
          have := HMM.out
          exact ⟨by omega, h1.2.2, by omega⟩
        · simp at h1
      go_wp2_with fail
      refine rgX (fun w' => w'.cell? ⟨E.sb, 4, none⟩ = some (.slice none 0 0)) [11, 14] (by kernel_rfl) (d4) (fun _ a d v _ h => And.intro ((put_df a d v).symm.trans (And.left h)) (And.right h)) fun hHeld hq => ?_
      refine twX 0 { dst := some 22, op := .move (.tmp 0), type := 185, pos := "body.go:57", after := #[], guard := none } (v := ?v4_0) hq rfl (by kernel_rfl) ?y4_0 ?_
      case y4_0 => intro w; go_simp <;> with_reducible rfl
      try simp only [Act.put, List.setIfInBounds_toArray, List.set_cons_zero, List.set_cons_succ]
      refine twX 1 { dst := some 23, op := .move (.tmp 0), type := 185, pos := "body.go:57", after := #[{ on := 11, ground := .gcOnly .lateStores }], guard := none } (v := ?v4_1) hq rfl (by kernel_rfl) ?y4_1 ?_
      case y4_1 => intro w; go_simp <;> with_reducible rfl
      try simp only [Act.put, List.setIfInBounds_toArray, List.set_cons_zero, List.set_cons_succ]
      refine twX 2 { dst := some 24, op := .move (.tmp 4), type := 3, pos := "body.go:57", after := #[], guard := none } (v := ?v4_2) hq rfl (by kernel_rfl) ?y4_2 ?_
      case y4_2 => intro w; go_simp <;> with_reducible rfl
      try simp only [Act.put, List.setIfInBounds_toArray, List.set_cons_zero, List.set_cons_succ]
      refine twX 3 { dst := some 25, op := .move (.tmp 0), type := 185, pos := "body.go:57", after := #[], guard := none } (v := ?v4_3) hq rfl (by kernel_rfl) ?y4_3 ?_
      case y4_3 => intro w; go_simp <;> with_reducible rfl
      try simp only [Act.put, List.setIfInBounds_toArray, List.set_cons_zero, List.set_cons_succ]
      refine twX 4 { dst := some 26, op := .nilCheck (.tmp 25), type := 0, pos := "body.go:57", after := #[{ on := 3, ground := .data }], guard := none } (v := ?v4_4) hq rfl (by kernel_rfl) ?y4_4 ?_
      case y4_4 => intro w; go_simp <;> with_reducible rfl
      try simp only [Act.put, List.setIfInBounds_toArray, List.set_cons_zero, List.set_cons_succ]
      refine twX 5 { dst := some 27, op := .fieldAddr 179 (.tmp 26) 2, type := 0, pos := "body.go:57", after := #[{ on := 4, ground := .data }], guard := none } (v := ?v4_5) hq rfl (by kernel_rfl) ?y4_5 ?_
      case y4_5 => intro w; go_simp <;> with_reducible rfl
      try simp only [Act.put, List.setIfInBounds_toArray, List.set_cons_zero, List.set_cons_succ]
      refine tkX 6 { dst := some 28, op := .load 41 (.tmp 27), type := 41, pos := "body.go:57", after := #[{ on := 5, ground := .data }], guard := none } (v := ?v4_6) hq hHeld rfl (by kernel_rfl) ?y4_6 ?_
      case y4_6 => (intro w h; try dsimp only at h); go_simp <;> with_reducible rfl
      try simp only [Act.put, List.setIfInBounds_toArray, List.set_cons_zero, List.set_cons_succ]
      refine twX 7 { dst := some 29, op := .move (.tmp 5), type := 3, pos := "body.go:57", after := #[], guard := none } (v := ?v4_7) hq rfl (by kernel_rfl) ?y4_7 ?_
      case y4_7 => intro w; go_simp <;> with_reducible rfl
      try simp only [Act.put, List.setIfInBounds_toArray, List.set_cons_zero, List.set_cons_succ]
      refine twX 8 { dst := some 30, op := .slice 41 (.tmp 28) none (some (.tmp 29)) none, type := 41, pos := "body.go:57", after := #[{ on := 6, ground := .data }, { on := 7, ground := .data }], guard := none } (v := ?v4_8) hq rfl (by kernel_rfl) ?y4_8 ?_
      case y4_8 => intro w; go_simp <;> with_reducible rfl
      try simp only [Act.put, List.setIfInBounds_toArray, List.set_cons_zero, List.set_cons_succ]
      refine twX 9 { dst := some 31, op := .nilCheck (.tmp 22), type := 0, pos := "body.go:57", after := #[{ on := 0, ground := .data }, { on := 0, ground := .phase }, { on := 1, ground := .textOnly .lateStores }, { on := 2, ground := .phase }, { on := 3, ground := .textOnly .lateStores }, { on := 4, ground := .textOnly .lateStoresUnsure }, { on := 5, ground := .textOnly .lateStoresUnsure }, { on := 6, ground := .phase }, { on := 7, ground := .textOnly .lateStores }, { on := 8, ground := .textOnly .lateStoresUnsure }], guard := none } (v := ?v4_9) hq rfl (by kernel_rfl) ?y4_9 ?_
      case y4_9 => intro w; go_simp <;> with_reducible rfl
      try simp only [Act.put, List.setIfInBounds_toArray, List.set_cons_zero, List.set_cons_succ]
      refine twX 10 { dst := some 32, op := .fieldAddr 179 (.tmp 31) 3, type := 0, pos := "body.go:57", after := #[{ on := 9, ground := .data }, { on := 0, ground := .phase }, { on := 1, ground := .textOnly .lateStores }, { on := 2, ground := .phase }, { on := 3, ground := .textOnly .lateStores }, { on := 4, ground := .textOnly .lateStoresUnsure }, { on := 5, ground := .textOnly .lateStoresUnsure }, { on := 6, ground := .phase }, { on := 7, ground := .textOnly .lateStores }, { on := 8, ground := .textOnly .lateStoresUnsure }], guard := none } (v := ?v4_10) hq rfl (by kernel_rfl) ?y4_10 ?_
      case y4_10 => intro w; go_simp <;> with_reducible rfl
      try simp only [Act.put, List.setIfInBounds_toArray, List.set_cons_zero, List.set_cons_succ]
      refine clX 11 { dst := none, op := .store 3 (.tmp 32) (.tmp 24), type := 0, pos := "body.go:57", after := #[{ on := 10, ground := .data }, { on := 2, ground := .data }, { on := 0, ground := .phase }, { on := 1, ground := .textOnly .lateStores }, { on := 2, ground := .phase }, { on := 3, ground := .textOnly .lateStores }, { on := 4, ground := .textOnly .lateStoresUnsure }, { on := 5, ground := .textOnly .lateStoresUnsure }, { on := 6, ground := .phase }, { on := 7, ground := .textOnly .lateStores }, { on := 8, ground := .textOnly .lateStoresUnsure }], guard := none } rfl (by kernel_rfl) (by kernel_rfl) fun Kc hK => ?_
      go_simp
      refine hK.out _ _ (fun h => absurd h (by decide)) ?_
      clear hK Kc
      try simp only [Act.put, List.setIfInBounds_toArray, List.set_cons_zero, List.set_cons_succ]
      refine twX 12 { dst := some 33, op := .nilCheck (.tmp 23), type := 0, pos := "body.go:57", after := #[{ on := 1, ground := .data }, { on := 0, ground := .phase }, { on := 1, ground := .phase }, { on := 2, ground := .phase }, { on := 3, ground := .phase }, { on := 4, ground := .phase }, { on := 5, ground := .phase }, { on := 6, ground := .phase }, { on := 7, ground := .phase }, { on := 8, ground := .phase }, { on := 9, ground := .phase }, { on := 10, ground := .phase }, { on := 11, ground := .phase }], guard := none } (v := ?v4_12) hq rfl (by kernel_rfl) ?y4_12 ?_
      case y4_12 => intro w; go_simp <;> with_reducible rfl
      try simp only [Act.put, List.setIfInBounds_toArray, List.set_cons_zero, List.set_cons_succ]
      refine twX 13 { dst := some 34, op := .fieldAddr 179 (.tmp 33) 2, type := 0, pos := "body.go:57", after := #[{ on := 12, ground := .data }, { on := 0, ground := .phase }, { on := 1, ground := .phase }, { on := 2, ground := .phase }, { on := 3, ground := .phase }, { on := 4, ground := .phase }, { on := 5, ground := .phase }, { on := 6, ground := .phase }, { on := 7, ground := .phase }, { on := 8, ground := .phase }, { on := 9, ground := .phase }, { on := 10, ground := .phase }, { on := 11, ground := .phase }], guard := none } (v := ?v4_13) hq rfl (by kernel_rfl) ?y4_13 ?_
      case y4_13 => intro w; go_simp <;> with_reducible rfl
      try simp only [Act.put, List.setIfInBounds_toArray, List.set_cons_zero, List.set_cons_succ]
      refine clX 14 { dst := none, op := .store 41 (.tmp 34) (.tmp 30), type := 0, pos := "body.go:57", after := #[{ on := 13, ground := .data }, { on := 8, ground := .data }, { on := 11, ground := .chain }, { on := 0, ground := .phase }, { on := 1, ground := .phase }, { on := 2, ground := .phase }, { on := 3, ground := .phase }, { on := 4, ground := .phase }, { on := 5, ground := .phase }, { on := 6, ground := .phase }, { on := 7, ground := .phase }, { on := 8, ground := .phase }, { on := 9, ground := .phase }, { on := 10, ground := .phase }, { on := 11, ground := .phase }], guard := none } rfl (by kernel_rfl) (by kernel_rfl) fun Kc hK => ?_
      go_simp
      refine hK.out _ _ (fun h => absurd h (by decide)) ?_
      clear hK Kc
      try simp only [Act.put, List.setIfInBounds_toArray, List.set_cons_zero, List.set_cons_succ]
      refine dnX (by kernel_rfl) ?_ _
      go_wp2_with fail
      refine bodyPost_end (v := .tuple #[]) (by simp [results, Tryz.results185, go_sem]) rfl ?_
      exact ⟨_, rfl, ((SS.refl HH.out).below B0.out).trans ((HFIN.out _ rfl).below (Below.refl _ _).drew)⟩

end Go.Proofs.YtkahbhfbgdbnfaaGreatDoor
