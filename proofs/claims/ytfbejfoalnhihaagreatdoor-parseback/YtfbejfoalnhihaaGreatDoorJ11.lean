/-
  PLAIN: what is shown is read as the same tree, but for places, unless it is too deep: statements, declarations, programs. Nothing of the program stands here.
-/
import Derived.Test.YtfbejfoalnhihaaGreatDoorJ10
import Derived.Test.YtfbejfoalnhihaaGreatDoorJ5
import Derived.Test.YtfbejfoalnhihaaGreatDoorJ9
namespace Go.Proofs.YtfbejfoalnhihaaGreatDoor
open Go.RowKit

theorem showS_mk (op : Nat) (s ty : Tx) (n : Int) (p : Nat) (ks : List Tree) : showS (.mk op s ty n p ks) = stmtOf op s (ks.map showE) (ks.map showS) (showE (.mk op s ty n p ks)) := showS_eq _
theorem putT_is (s : Tx) (y : Tree) (fs : List Tx) : ∀ (b : Tree) (f : Tx) (rest : List Tx), fs ++ [s] = f :: rest → EE (putT b (bare0 f) (rest.map bare0) y) (.mk 9 s [] 0 0 [(fs.map bare0).foldl (fun a b => attach a b) b, y]) := by
  induction fs with
  | nil =>
    intro b f rest h
    have h1 : s = f ∧ [] = rest := by simpa using h
    obtain ⟨rfl, rfl⟩ := h1
    exact rfl
  | cons g fs ih =>
    intro b f rest h
    have h1 : g = f ∧ fs ++ [s] = rest := by simpa using h
    obtain ⟨rfl, rfl⟩ := h1
    cases hr : fs ++ [s] with
    | nil => exact absurd hr (by simp)
    | cons f' r' => exact ih (attach b (bare0 g)) f' r' hr
abbrev OneS (t : Tree) (i : Nat) (ts : List Tree) (j : Nat) : Prop := j = i + (showS t).length ∧ ∃ u, ts = [u] ∧ EE u t
structure IHS (W : Tx → Prop) (T : Nat → AT) (c : Callee) : Prop extends IHE W T c where
  st : ∀ t d i, Al W t → isS t → Rd T i (showS t) → (T (i + (showS t).length)).text ≠ kElse → HdC (c .stmt d i) (OneS t i)
  br : ∀ t d i, Al W t → t.op = 10 → Rd T i (showS t) → (T (i + (showS t).length)).text ≠ kElse → HdC (c .branch d i) (OneS t i)
  ss : ∀ ks d i, (∀ u ∈ ks, Al W u ∧ isS u) → Rd T i ((ks.map showS).flatten ++ [cRC]) → HdC (c .stmts d i) (fun ts j => j = i + ((ks.map showS).flatten.length + 1) ∧ EL ts ks)
  pa : ∀ ks d i, (∀ u ∈ ks, Al W u ∧ u.op = 5) → Rd T i ((ks.flatMap fun b => cComma :: typedT b) ++ [cRB]) → HdC (c .params d i) (fun ts j => j = i + ((ks.flatMap fun b => cComma :: typedT b).length + 1) ∧ EL ts ks)
  pt : ∀ ks d i, (∀ u ∈ ks, Al W u ∧ u.op = 5) → Rd T i ((ks.flatMap fun b => typedT b ++ [cSemi]) ++ [cRC]) → HdC (c .parts d i) (fun ts j => j = i + ((ks.flatMap fun b => typedT b ++ [cSemi]).length + 1) ∧ EL ts ks)
  dl : ∀ ks d i, (∀ u ∈ ks, Al W u ∧ (u.op = 2 ∨ u.op = 3 ∨ u.op = 4)) → Rd T i (ks.flatMap declOf) → (T (i + (ks.flatMap declOf).length)).kind = 0 → HdC (c .decls d i) (fun ts j => j = i + (ks.flatMap declOf).length ∧ EL ts ks)

theorem first_s {W : Tx → Prop} (hW : ∀ s, W s → NW s) {t : Tree} (ha : Al W t) (hs : isS t) : ∃ x r, showS t = x :: r ∧ x ≠ kElse ∧ x ≠ cRC := by
  have hl := ha.loc
  have fe : ∀ x, FirstE x → x ≠ kElse ∧ x ≠ cRC := fun x h => ⟨first_ne h (by decide) (by decide) (by decide), first_ne h (by decide) (by decide) (by decide)⟩
  cases t with
  | mk op s ty n p ks =>
    have h1 : 7 ≤ op := hs.1
    have h2 : op ≤ 14 := hs.2
    rw [showS_mk]
    cases hl with
    | set ho h hx =>
      have hk := (hW _ h).kd
      rcases ho with rfl | rfl <;> exact ⟨_, _, rfl, kd_ne hk (by decide), kd_ne hk (by decide)⟩
    | @put _ _ x y h hx hy =>
      obtain ⟨z, r, hz, hf⟩ := first_e hW (ha.kid (u := x) (List.mem_cons_self ..)) hx
      refine ⟨z, r ++ [cDot, s, cEq] ++ (showE y ++ [cSemi]), ?_, fe z hf⟩
      show showE x ++ [cDot, s, cEq] ++ (showE y ++ [cSemi]) = _
      rw [hz]; rfl
    | cond hx hb => exact ⟨_, _, rfl, by decide, by decide⟩
    | conde hx hb he => exact ⟨_, _, rfl, by decide, by decide⟩
    | loop hx hb => exact ⟨_, _, rfl, by decide, by decide⟩
    | print hx => exact ⟨_, _, rfl, by decide, by decide⟩
    | back0 => exact ⟨_, _, rfl, by decide, by decide⟩
    | back1 hx => exact ⟨_, _, rfl, by decide, by decide⟩
    | @act _ x hx =>
      obtain ⟨z, r, hz, hf⟩ := first_e hW (ha.kid (u := x) (List.mem_cons_self ..)) (by unfold isE; omega)
      refine ⟨z, r ++ [cSemi], ?_, fe z hf⟩
      show showE x ++ [cSemi] = _
      rw [hz]; rfl
    | var ho => omega
    | name ho => omega
    | binary ho => omega
    | _ => omega

section
variable {W : Tx → Prop} {T : Nat → AT} {c : Callee} (hW : ∀ s, W s → NW s) (H : IHS W T c)
include hW H
theorem rd_typ {ty : Tx} {i : Nat} (ht : Ty W ty) (h : Rd T i (typT ty)) : Hd T c (fun x j => x = ty ∧ j = i + (typT ty).length) typ i := by
  have _ := H
  rcases ht with rfl | rfl | ⟨s, rfl, hs⟩
  · rw [ty_int] at h ⊢
    exact hd_peek h.hd (hd_pos rfl (hd_next (hd_ret ⟨rfl, rfl⟩)))
  · rw [ty_bool] at h ⊢
    exact hd_peek h.hd (hd_neg (by decide) (hd_pos rfl (hd_next (hd_ret ⟨rfl, rfl⟩))))
  · rw [ty_ptr (hW _ hs)] at h ⊢
    refine hd_peek h.hd (hd_neg (by decide) (hd_neg (by decide) ?_))
    refine hd_bind (hd_need (by rw [h.hd])) fun _ j hj => ?_
    subst hj
    have hT : T (i + 1) = ⟨1, s⟩ := by have := h.tl.hd; rw [(hW _ hs).kd] at this; exact this
    refine hd_bind (hd_word hT) fun q j hq => ?_
    obtain ⟨e1, rfl⟩ := hq
    exact hd_ret ⟨by rw [e1], rfl⟩
theorem rd_typed {t : Tree} {op i : Nat} (ho : op = 3 ∨ op = 5) (ha : Al W t) (hop : t.op = op) (h : Rd T i (typedT t)) : Hd T c (fun u j => j = i + (typedT t).length ∧ EE u t) (typed op) i := by
  have hl := ha.loc
  cases t with
  | mk o s ty n p ks =>
    have : o = op := hop
    subst this
    cases hl with
    | var _ hs ht =>
      have h1 : Rd T i (s :: typT ty) := h
      have hT : T i = ⟨1, s⟩ := by have := h1.hd; rw [(hW _ hs).kd] at this; exact this
      refine hd_bind (hd_word hT) fun q j hq => ?_
      obtain ⟨e1, rfl⟩ := hq
      refine hd_bind (rd_typ hW H ht h1.tl) fun x j hx => ?_
      obtain ⟨rfl, rfl⟩ := hx
      refine hd_ret ⟨?_, ?_⟩
      · show _ = i + (s :: typT x).length; rw [List.length_cons]; omega
      · rw [e1]; exact ee_mk el_nil
    | name h => omega
    | set h => omega
    | binary h => omega
    | _ => omega
theorem rd_named {t : Tree} {op i : Nat} (ho : op = 3 ∨ op = 5) (ha : Al W t) (hop : t.op = op) (h : Rd T i (typedT t ++ [cSemi])) : Hd T c (fun u j => j = i + (typedT t ++ [cSemi]).length ∧ EE u t) (named op) i := by
  refine hd_bind (rd_typed hW H ho ha hop h.left) fun u j hu => ?_
  obtain ⟨rfl, hu⟩ := hu
  refine hd_bind (hd_need (by rw [h.right.hd])) fun _ j hj => hd_ret ⟨?_, hu⟩
  rw [hj, List.length_append]; rfl
theorem rd_block {b : Tree} {d i : Nat} (ha : Al W b) (ho : b.op = 6) (h : Rd T i (showS b)) : Hd T c (fun u j => j = i + (showS b).length ∧ EE u b) (block d) i := by
  have _ := hW
  have hl := ha.loc
  cases b with
  | mk o s ty n p ks =>
    have : o = 6 := ho
    subst this
    rw [showS_mk] at h ⊢
    cases hl with
    | block hk =>
      have h1 : Rd T i (cLC :: ((ks.map showS).flatten ++ [cRC])) := h
      refine hd_bind (hd_enter (by rw [h1.hd])) fun _ j hj => ?_
      subst hj
      refine hd_call (H.ss ks (d + 1) _ (fun u hu => ⟨ha.kid hu, hk u hu⟩) h1.tl) fun ts j ⟨hj, he⟩ => hd_ret ⟨?_, ee_mk he⟩
      rw [hj]
      show _ = i + (cLC :: ((ks.map showS).flatten ++ [cRC])).length
      simp; omega
    | var h => omega
    | name h => omega
    | set h => omega
    | binary h => omega
theorem block_hd {b : Tree} (ha : Al W b) (ho : b.op = 6) : ∃ r, showS b = cLC :: r := by
  have _ := hW
  have _ := H
  have hl := ha.loc
  cases b with
  | mk o s ty n p ks =>
    have : o = 6 := ho
    subst this
    rw [showS_mk]
    exact ⟨_, rfl⟩
theorem rd_setting {s : Tx} {x h : Tree} {op d i : Nat} (hn : h.name = s) (ha : Al W x) (hx : isE x) (hr : Rd T i (showE x ++ [cSemi])) : Hd T c (fun u j => j = i + ((showE x).length + 1) ∧ ∀ p, EE u (.mk op s [] 0 p [x])) (setting op h d) i := by
  refine hd_bind (rd_expr hW H.toIHE ha hx hr.left (stp_of (by rw [hr.right.hd]; exact .inr (.inr (.inl rfl))))) fun u j hu => ?_
  obtain ⟨rfl, hu⟩ := hu
  refine hd_bind (hd_need (by rw [hr.right.hd])) fun _ j hj => hd_ret ⟨by rw [hj]; omega, fun p => ?_⟩
  rw [hn]; exact ee_mk (el_cons hu el_nil)
theorem rd_simple {t : Tree} {d i : Nat} (ha : Al W t) (ho : t.op = 7 ∨ t.op = 8 ∨ t.op = 9 ∨ t.op = 14) (h : Rd T i (showS t)) : Hd T c (fun u j => j = i + (showS t).length ∧ EE u t) (simple d) i := by
  have hl := ha.loc
  cases t with
  | mk op s ty n p ks =>
    have ho1 : op = 7 ∨ op = 8 ∨ op = 9 ∨ op = 14 := ho
    rw [showS_mk] at h ⊢
    cases hl with
    | @set _ _ _ x ho2 hs hx =>
      have hx1 := ha.kid (u := x) (List.mem_cons_self ..)
      have hb : Al W (.mk 18 s [] 0 0 []) := .mk (.name (.inl rfl) hs) (fun u hu => by cases hu)
      rcases ho2 with rfl | rfl
      · have h1 : Rd T i ([s] ++ (cDef :: (showE x ++ [cSemi]))) := h
        have hT : T i = ⟨1, s⟩ := by have := Rd.hd h1; rw [(hW _ hs).kd] at this; exact this
        have h2 := h1.right
        refine hd_peek hT (hd_bind (rd_primary hW H.toIHE hb (show (15 : Nat) ≤ 18 ∧ (18 : Nat) ≤ 26 by decide) (show (18 : Nat) ≠ 20 by decide) h1.left (fun _ => by show (T (i + 1)).text ≠ cLB; rw [show T (i + 1) = _ from h2.hd]; decide)) fun u j hu => ?_)
        obtain ⟨rfl, hu⟩ := hu
        obtain ⟨e1, e2, -⟩ := er_parts hu
        have e1 : u.op = 18 := e1
        refine hd_peek h2.hd (hd_neg (fun q => by have := q.2.1; omega) (hd_pos ⟨rfl, e1, rfl⟩ (hd_next ?_)))
        refine (rd_setting hW H (s := s) e2 hx1 hx h2.tl).imp fun v j hv => ⟨?_, hv.2 p⟩
        rw [hv.1]
        show _ = i + ([s, cDef] ++ (showE x ++ [cSemi])).length
        simp; omega
      · have h1 : Rd T i ([s] ++ (cEq :: (showE x ++ [cSemi]))) := h
        have hT : T i = ⟨1, s⟩ := by have := Rd.hd h1; rw [(hW _ hs).kd] at this; exact this
        have h2 := h1.right
        refine hd_peek hT (hd_bind (rd_primary hW H.toIHE hb (show (15 : Nat) ≤ 18 ∧ (18 : Nat) ≤ 26 by decide) (show (18 : Nat) ≠ 20 by decide) h1.left (fun _ => by show (T (i + 1)).text ≠ cLB; rw [show T (i + 1) = _ from h2.hd]; decide)) fun u j hu => ?_)
        obtain ⟨rfl, hu⟩ := hu
        obtain ⟨e1, e2, -⟩ := er_parts hu
        have e1 : u.op = 18 := e1
        refine hd_peek h2.hd (hd_neg (fun q => by have := q.2.1; omega) (hd_neg (fun q => absurd q.2.2 (by decide)) (hd_pos ⟨rfl, e1, rfl⟩ (hd_next ?_))))
        refine (rd_setting hW H (s := s) e2 hx1 hx h2.tl).imp fun v j hv => ⟨?_, hv.2 p⟩
        rw [hv.1]
        show _ = i + ([s, cEq] ++ (showE x ++ [cSemi])).length
        simp; omega
    | @put _ _ x y hs hx hy =>
      have hx1 := ha.kid (u := x) (List.mem_cons_self ..)
      have hy1 := ha.kid (u := y) (List.mem_cons_of_mem _ (List.mem_singleton.2 rfl))
      obtain ⟨b, fs, g1, g2, g3, g4, g5, g6⟩ := fdec _ x (Nat.le_refl _) hx1 hx
      cases hfs : fs ++ [s] with
      | nil => exact absurd hfs (by simp)
      | cons f rest =>
        have hfr : ∀ z ∈ f :: rest, W z := fun z hz => by
          rw [← hfs] at hz
          rcases List.mem_append.1 hz with hz | hz
          · exact g4 z hz
          · rw [List.mem_singleton.1 hz]; exact hs
        have hd1 : dots fs ++ [cDot, s] = cDot :: f :: dots rest := by
          have : dots (fs ++ [s]) = dots fs ++ [cDot, s] := by unfold dots; rw [List.flatMap_append]; rfl
          rw [← this, hfs]; rfl
        have heq : stmtOf 9 s ([x, y].map showE) ([x, y].map showS) (showE (.mk 9 s [] 0 p [x, y])) = showE b ++ (cDot :: f :: (dots rest ++ (cEq :: (showE y ++ [cSemi])))) := by
          show showE x ++ [cDot, s, cEq] ++ (showE y ++ [cSemi]) = _
          rw [g5]
          have : dots fs ++ [cDot, s, cEq] = cDot :: f :: (dots rest ++ [cEq]) := by
            rw [show ([cDot, s, cEq] : List Tx) = [cDot, s] ++ [cEq] from rfl, ← List.append_assoc, hd1]; rfl
          rw [List.append_assoc (showE b), this]
          simp
        rw [heq] at h ⊢
        have h2 := h.right
        obtain ⟨x0, r0, hx0, hf0⟩ := first_b hW g1 g2 g3
        refine hd_peek' (hd_bind (rd_primary hW H.toIHE g1 g2 g3 h.left (fun _ => by rw [h2.hd]; decide)) fun u j hu => ?_)
        obtain ⟨rfl, hu⟩ := hu
        refine hd_peek h2.hd (hd_neg (fun q => absurd q.2.2 (by decide)) (hd_neg (fun q => absurd q.2.2 (by decide)) (hd_neg (fun q => absurd q.2.2 (by decide)) ?_)))
        have hT : T (i + (showE b).length + 1) = ⟨1, f⟩ := by have := h2.tl.hd; rw [(hW _ (hfr f (List.mem_cons_self ..))).kd] at this; exact this
        refine hd_bind (Ψ := fun p j => p.2 = f ∧ j = i + (showE b).length + 1 + 1) (hd_bind (hd_need (by rw [h2.hd])) fun _ j hj => by subst hj; exact hd_word hT) fun q j hq => ?_
        obtain ⟨e1, rfl⟩ := hq
        have h3 := h2.tl.tl
        have h4 := h3.right
        refine hd_call (H.fl rest d _ (fun z hz => hfr z (List.mem_cons_of_mem _ hz)) h3.left (by rw [h4.hd]; decide)) fun ts j ⟨hj, he⟩ => ?_
        subst hj
        refine hd_bind (hd_need (by rw [h4.hd])) fun _ j hj => ?_
        subst hj
        have h5 := h4.tl
        refine hd_bind (rd_expr hW H.toIHE hy1 hy h5.left (stp_of (by rw [h5.right.hd]; exact .inr (.inr (.inl rfl))))) fun v j hv => ?_
        obtain ⟨rfl, hv⟩ := hv
        refine hd_bind (hd_need (by rw [h5.right.hd])) fun _ j hj => hd_ret ⟨?_, ?_⟩
        · rw [hj]; simp; omega
        · have k1 := ee_put _ _ _ _ _ _ _ _ he hu (show EE (bare q) (bare0 f) by unfold bare bare0; rw [e1]; exact ee_mk el_nil) hv
          exact k1.trans ((putT_is s y fs b f rest hfs).trans (ee_mk (el_cons g6 (el_cons rfl el_nil))))
    | @act _ x hx =>
      have hx1 := ha.kid (u := x) (List.mem_cons_self ..)
      have h1 : Rd T i (showE x ++ [cSemi]) := h
      obtain ⟨nm, r, hr, hk⟩ : ∃ nm r, showE x = nm :: r ∧ kd nm = 1 := by
        have hl2 := hx1.loc
        cases x with
        | mk o2 s2 ty2 n2 p2 ks2 =>
          have : o2 = 21 := hx
          subst this
          rw [showE_mk]
          cases hl2 with
          | call hs2 hk2 => exact ⟨_, _, rfl, (hW _ hs2).kd⟩
          | name h => omega
          | var h => omega
          | set h => omega
          | binary h => omega
      have hT : T i = ⟨1, nm⟩ := by have := h1.left; rw [hr] at this; have := this.hd; rw [hk] at this; exact this
      refine hd_peek hT (hd_bind (rd_primary hW H.toIHE hx1 (by unfold isE; omega) (by omega) h1.left (fun e => by omega)) fun u j hu => ?_)
      obtain ⟨rfl, hu⟩ := hu
      have e1 : u.op = 21 := (er_parts hu).1.trans hx
      refine hd_peek h1.right.hd (hd_pos ⟨rfl, e1, rfl⟩ (hd_next (hd_ret ⟨?_, ee_mk (el_cons hu el_nil)⟩)))
      show _ = i + (showE x ++ [cSemi]).length
      rw [List.length_append]; rfl
    | var h => omega
    | name h => omega
    | binary h => omega
    | _ => omega
end

end Go.Proofs.YtfbejfoalnhihaaGreatDoor

/-
  PLAIN: what is shown is read as the same tree, but for places, unless it is too deep: all of it. Nothing of the program stands here.
-/
namespace Go.Proofs.YtfbejfoalnhihaaGreatDoor
open Go.RowKit

section
variable {W : Tx → Prop} {T : Nat → AT} {c : Callee} (hW : ∀ s, W s → NW s) (H : IHS W T c)
include hW H
theorem rd_other {e : Tree} {d i : Nat} (ha : Al W e) (ho : e.op = 6 ∨ e.op = 10) (h : Rd T i (showS e)) (hn : (T (i + (showS e).length)).text ≠ kElse) : Hd T c (fun u j => j = i + (showS e).length ∧ EE u e) (other d) i := by
  rcases ho with ho | ho
  · obtain ⟨r, hr⟩ := block_hd hW H ha ho
    have hT : T i = ⟨kd cLC, cLC⟩ := by have := h; rw [hr] at this; exact this.hd
    exact hd_peek hT (hd_neg (by decide) (rd_block hW H ha ho h))
  · have hT : (T i).text = kIf := by
      cases e with
      | mk o s ty n p ks =>
        have : o = 10 := ho
        subst this
        rw [showS_mk] at h
        have h1 : Rd T i (kIf :: (((ks.map showE).getD 0 [] ++ (ks.map showS).getD 1 []) ++ (if 2 < (ks.map showS).length then [kElse] ++ (ks.map showS).getD 2 [] else []))) := h
        rw [h1.hd]
    exact hd_peek' (hd_pos hT (hd_call (H.br e d i ha ho h hn) fun ts j ⟨hj, u, hu, hv⟩ => hd_ret ⟨hj, by rw [hu]; exact hv⟩))
theorem rd_cb {x b : Tree} {d i : Nat} {R : List Tx} {α : Type} {Φ : α → Nat → Prop} {f : Tree → Tree → Pr α} (hx1 : Al W x) (hx : isE x) (hb1 : Al W b) (hb : b.op = 6) (h : Rd T i (showE x ++ (showS b ++ R)))
    (g : ∀ u v, EE u x → EE v b → Hd T c Φ (f u v) (i + (showE x).length + (showS b).length)) : Hd T c Φ ((expr d).bind fun u => (block d).bind fun v => f u v) i := by
  obtain ⟨r, hr⟩ := block_hd hW H hb1 hb
  have h2 := h.right
  have hT : T (i + (showE x).length) = ⟨kd cLC, cLC⟩ := by have := h2.left; rw [hr] at this; exact this.hd
  refine hd_bind (rd_expr hW H.toIHE hx1 hx h.left (stp_of (by rw [hT]; exact .inr (.inr (.inr rfl))))) fun u j hu => ?_
  obtain ⟨rfl, hu⟩ := hu
  refine hd_bind (rd_block hW H hb1 hb h2.left) fun v j hv => ?_
  obtain ⟨rfl, hv⟩ := hv
  exact g u v hu hv
theorem rd_branch {t : Tree} {d i : Nat} (ha : Al W t) (ho : t.op = 10) (h : Rd T i (showS t)) (hn : (T (i + (showS t).length)).text ≠ kElse) : Hd T c (fun u j => j = i + (showS t).length ∧ EE u t) (branch d) i := by
  have hl := ha.loc
  cases t with
  | mk op s ty n p ks =>
    have : op = 10 := ho
    subst this
    rw [showS_mk] at h hn ⊢
    cases hl with
    | @cond _ x b hx hb =>
      have hx1 := ha.kid (u := x) (List.mem_cons_self ..)
      have hb1 := ha.kid (u := b) (List.mem_cons_of_mem _ (List.mem_singleton.2 rfl))
      have heq : stmtOf 10 [] ([x, b].map showE) ([x, b].map showS) (showE (.mk 10 [] [] 0 p [x, b])) = kIf :: (showE x ++ (showS b ++ [])) := by
        show [kIf] ++ showE x ++ showS b ++ [] = _
        simp
      rw [heq] at h hn ⊢
      have hlen : i + (kIf :: (showE x ++ (showS b ++ []))).length = i + 1 + (showE x).length + (showS b).length := by simp; omega
      rw [hlen] at hn ⊢
      refine hd_bind (hd_need (by rw [h.hd])) fun _ j hj => ?_
      subst hj
      exact rd_cb hW H hx1 hx hb1 hb h.tl fun u v hu hv => hd_peek' (hd_neg hn (hd_ret ⟨rfl, ee_mk (el_cons hu (el_cons hv el_nil))⟩))
    | @conde _ x b e hx hb he =>
      have hx1 := ha.kid (u := x) (List.mem_cons_self ..)
      have hb1 := ha.kid (u := b) (List.mem_cons_of_mem _ (List.mem_cons_self ..))
      have he1 := ha.kid (u := e) (List.mem_cons_of_mem _ (List.mem_cons_of_mem _ (List.mem_singleton.2 rfl)))
      have heq : stmtOf 10 [] ([x, b, e].map showE) ([x, b, e].map showS) (showE (.mk 10 [] [] 0 p [x, b, e])) = kIf :: (showE x ++ (showS b ++ (kElse :: showS e))) := by
        show [kIf] ++ showE x ++ showS b ++ ([kElse] ++ showS e) = _
        simp
      rw [heq] at h hn ⊢
      have hlen : i + (kIf :: (showE x ++ (showS b ++ (kElse :: showS e)))).length = i + 1 + (showE x).length + (showS b).length + 1 + (showS e).length := by simp; omega
      rw [hlen] at hn ⊢
      refine hd_bind (hd_need (by rw [h.hd])) fun _ j hj => ?_
      subst hj
      have h3 := h.tl.right.right
      refine rd_cb hW H hx1 hx hb1 hb h.tl fun u v hu hv => hd_peek h3.hd (hd_pos rfl (hd_next ?_))
      refine hd_bind (rd_other hW H he1 he h3.tl hn) fun z j hz => ?_
      obtain ⟨rfl, hz⟩ := hz
      exact hd_ret ⟨rfl, ee_mk (el_cons hu (el_cons hv (el_cons hz el_nil)))⟩
    | var h => omega
    | name h => omega
    | set h => omega
    | binary h => omega
theorem rd_stmt {t : Tree} {d i : Nat} (ha : Al W t) (hs : isS t) (h : Rd T i (showS t)) (hn : (T (i + (showS t).length)).text ≠ kElse) : Hd T c (fun u j => j = i + (showS t).length ∧ EE u t) (stmt d) i := by
  by_cases h10 : t.op = 10
  · have hT : (T i).text = kIf := by
      cases t with
      | mk o s ty n p ks =>
        have : o = 10 := h10
        subst this
        rw [showS_mk] at h
        have h1 : Rd T i (kIf :: (((ks.map showE).getD 0 [] ++ (ks.map showS).getD 1 []) ++ (if 2 < (ks.map showS).length then [kElse] ++ (ks.map showS).getD 2 [] else []))) := h
        rw [h1.hd]
    exact hd_peek' (hd_pos hT (hd_call (H.br t d i ha h10 h hn) fun ts j ⟨hj, u, hu, hv⟩ => hd_ret ⟨hj, by rw [hu]; exact hv⟩))
  by_cases hsim : t.op = 7 ∨ t.op = 8 ∨ t.op = 9 ∨ t.op = 14
  · obtain ⟨x, r, hx, hne⟩ : ∃ x r, showS t = x :: r ∧ (x ≠ kIf ∧ x ≠ kFor ∧ x ≠ kPrint ∧ x ≠ kReturn) := by
      have fe : ∀ x, FirstE x → x ≠ kIf ∧ x ≠ kFor ∧ x ≠ kPrint ∧ x ≠ kReturn := fun x h => ⟨first_ne h (by decide) (by decide) (by decide), first_ne h (by decide) (by decide) (by decide), first_ne h (by decide) (by decide) (by decide), first_ne h (by decide) (by decide) (by decide)⟩
      have hl := ha.loc
      cases t with
      | mk op s ty n p ks =>
        have hs1 : op = 7 ∨ op = 8 ∨ op = 9 ∨ op = 14 := hsim
        rw [showS_mk]
        cases hl with
        | set ho hs2 hx =>
          have hk := (hW _ hs2).kd
          rcases ho with rfl | rfl <;> exact ⟨_, _, rfl, kd_ne hk (by decide), kd_ne hk (by decide), kd_ne hk (by decide), kd_ne hk (by decide)⟩
        | @put _ _ x y h hx hy =>
          obtain ⟨z, r, hz, hf⟩ := first_e hW (ha.kid (u := x) (List.mem_cons_self ..)) hx
          refine ⟨z, r ++ [cDot, s, cEq] ++ (showE y ++ [cSemi]), ?_, fe z hf⟩
          show showE x ++ [cDot, s, cEq] ++ (showE y ++ [cSemi]) = _
          rw [hz]; rfl
        | @act _ x hx =>
          obtain ⟨z, r, hz, hf⟩ := first_e hW (ha.kid (u := x) (List.mem_cons_self ..)) (by unfold isE; omega)
          refine ⟨z, r ++ [cSemi], ?_, fe z hf⟩
          show showE x ++ [cSemi] = _
          rw [hz]; rfl
        | var ho => omega
        | name ho => omega
        | binary ho => omega
        | _ => omega
    have hT : T i = ⟨kd x, x⟩ := by have := h; rw [hx] at this; exact this.hd
    exact hd_peek hT (hd_neg hne.1 (hd_neg hne.2.1 (hd_neg hne.2.2.1 (hd_neg hne.2.2.2 (rd_simple hW H ha hsim h)))))
  have hl := ha.loc
  cases t with
  | mk op s ty n p ks =>
    have g1 : 7 ≤ op := hs.1
    have g2 : op ≤ 14 := hs.2
    have g3 : ¬ op = 10 := h10
    have g4 : ¬ (op = 7 ∨ op = 8 ∨ op = 9 ∨ op = 14) := hsim
    rw [showS_mk] at h hn ⊢
    cases hl with
    | @loop _ x b hx hb =>
      have hx1 := ha.kid (u := x) (List.mem_cons_self ..)
      have hb1 := ha.kid (u := b) (List.mem_cons_of_mem _ (List.mem_singleton.2 rfl))
      have heq : stmtOf 11 [] ([x, b].map showE) ([x, b].map showS) (showE (.mk 11 [] [] 0 p [x, b])) = kFor :: (showE x ++ (showS b ++ [])) := by
        show [kFor] ++ showE x ++ showS b = _
        simp
      rw [heq] at h ⊢
      refine hd_peek h.hd (hd_neg (by decide) (hd_pos rfl ?_))
      refine hd_bind (hd_need (by rw [h.hd])) fun _ j hj => ?_
      subst hj
      refine rd_cb hW H hx1 hx hb1 hb h.tl fun u v hu hv => hd_ret ⟨?_, ee_mk (el_cons hu (el_cons hv el_nil))⟩
      simp; omega
    | @print _ x hx =>
      have hx1 := ha.kid (u := x) (List.mem_cons_self ..)
      have heq : stmtOf 12 [] ([x].map showE) ([x].map showS) (showE (.mk 12 [] [] 0 p [x])) = kPrint :: cLB :: (showE x ++ [cRB, cSemi]) := by
        show [kPrint] ++ ([cLB] ++ showE x ++ [cRB]) ++ [cSemi] = _
        simp
      rw [heq] at h ⊢
      refine hd_peek h.hd (hd_neg (by decide) (hd_neg (by decide) (hd_pos rfl ?_)))
      refine hd_bind (hd_need (by rw [h.hd])) fun _ j hj => ?_
      subst hj
      have h2 := h.tl
      have h3 := h2.tl.right
      refine hd_bind (Ψ := fun u j => j = i + 1 + 1 + (showE x).length + 1 ∧ EE u x) ?_ fun u j hu => ?_
      · refine hd_bind (hd_enter (by rw [h2.hd])) fun _ j hj => ?_
        subst hj
        refine hd_bind (rd_expr hW H.toIHE hx1 hx h2.tl.left (stp_of (by rw [h3.hd]; exact .inr (.inl rfl)))) fun u j hu => ?_
        obtain ⟨rfl, hu⟩ := hu
        exact hd_bind (hd_need (by rw [h3.hd])) fun _ j hj => hd_ret ⟨hj, hu⟩
      · obtain ⟨rfl, hu⟩ := hu
        refine hd_bind (hd_need (by rw [h3.tl.hd])) fun _ j hj => hd_ret ⟨?_, ee_mk (el_cons hu el_nil)⟩
        rw [hj]; simp; omega
    | back0 =>
      have h1 : Rd T i [kReturn, cSemi] := h
      refine hd_peek h1.hd (hd_neg (by decide) (hd_neg (by decide) (hd_neg (by decide) (hd_pos rfl ?_))))
      refine hd_bind (hd_need (by rw [h1.hd])) fun _ j hj => ?_
      subst hj
      refine hd_bind (Ψ := fun ts j => j = i + 1 ∧ ts = []) (hd_peek h1.tl.hd (hd_pos rfl (hd_ret ⟨rfl, rfl⟩))) fun ts j ht => ?_
      obtain ⟨rfl, rfl⟩ := ht
      exact hd_bind (hd_need (by rw [h1.tl.hd])) fun _ j hj => hd_ret ⟨by rw [hj]; rfl, ee_mk el_nil⟩
    | @back1 _ x hx =>
      have hx1 := ha.kid (u := x) (List.mem_cons_self ..)
      have h1 : Rd T i (kReturn :: (showE x ++ [cSemi])) := h
      obtain ⟨z, r, hz, hf⟩ := first_e hW hx1 hx
      have h2 := h1.tl
      have hT : T (i + 1) = ⟨kd z, z⟩ := by have := h2.left; rw [hz] at this; exact this.hd
      refine hd_peek h1.hd (hd_neg (by decide) (hd_neg (by decide) (hd_neg (by decide) (hd_pos rfl ?_))))
      refine hd_bind (hd_need (by rw [h1.hd])) fun _ j hj => ?_
      subst hj
      refine hd_bind (Ψ := fun ts j => j = i + 1 + (showE x).length ∧ EL ts [x]) (hd_peek hT (hd_neg (first_ne hf (by decide) (by decide) (by decide)) ?_)) fun ts j ht => ?_
      · refine hd_bind (rd_expr hW H.toIHE hx1 hx h2.left (stp_of (by rw [h2.right.hd]; exact .inr (.inr (.inl rfl))))) fun u j hu => ?_
        obtain ⟨rfl, hu⟩ := hu
        exact hd_ret ⟨rfl, el_cons hu el_nil⟩
      · obtain ⟨rfl, ht⟩ := ht
        refine hd_bind (hd_need (by rw [h2.right.hd])) fun _ j hj => hd_ret ⟨?_, ee_mk ht⟩
        rw [hj]
        show _ = i + (kReturn :: (showE x ++ [cSemi])).length
        simp; omega
    | var h => omega
    | name h => omega
    | set h => omega
    | binary h => omega
    | cond => omega
    | conde => omega
    | _ => omega
theorem commaT_cons (k : Tree) (ks : List Tree) : commaF ((k :: ks).map typedT) = typedT k ++ ks.flatMap fun b => cComma :: typedT b := by
  have _ := hW
  have _ := H
  show typedT k ++ (ks.map typedT).flatMap _ = _
  rw [List.flatMap_map]
theorem rd_fparts {ks : List Tree} {i : Nat} (hk : ∀ u ∈ ks, Al W u ∧ u.op = 5) (h : Rd T i (cLB :: (commaF (ks.map typedT) ++ [cRB]))) : Hd T c (fun ts j => j = i + ((commaF (ks.map typedT)).length + 2) ∧ EL ts ks) fparts i := by
  refine hd_bind (hd_need (by rw [h.hd])) fun _ j hj => ?_
  subst hj
  cases ks with
  | nil =>
    have h2 : Rd T (i + 1) [cRB] := h.tl
    exact hd_peek h2.hd (hd_pos rfl (hd_next (hd_ret ⟨rfl, rfl⟩)))
  | cons k ks =>
    rw [commaT_cons hW H, List.append_assoc] at h
    rw [commaT_cons hW H]
    have hk1 := hk k (List.mem_cons_self ..)
    have h2 := h.tl
    have hT : (T (i + 1)).text ≠ cRB := by
      have hl := hk1.1.loc
      have h20 := h2.left
      cases k with
      | mk o s ty n p q =>
        have : o = 5 := hk1.2
        subst this
        cases hl with
        | var _ hs ht =>
          have h21 : Rd T (i + 1) (s :: typT ty) := h20
          rw [h21.hd]; exact kd_ne (hW _ hs).kd (by decide)
        | name h => omega
        | set h => omega
        | binary h => omega
    refine hd_peek' (hd_neg hT ?_)
    refine hd_bind (rd_typed hW H (.inr rfl) hk1.1 hk1.2 h2.left) fun u j hu => ?_
    obtain ⟨rfl, hu⟩ := hu
    refine hd_call (H.pa ks _ _ (fun u hu => hk u (List.mem_cons_of_mem _ hu)) h2.right) fun ts j ⟨hj, he⟩ => hd_ret ⟨?_, el_cons hu he⟩
    rw [hj, List.length_append]; omega
theorem rd_decl {t : Tree} {d i : Nat} (ha : Al W t) (ho : t.op = 2 ∨ t.op = 3 ∨ t.op = 4) (h : Rd T i (declOf t)) : Hd T c (fun u j => j = i + (declOf t).length ∧ EE u t) (decl d) i := by
  have hl := ha.loc
  cases t with
  | mk op s ty n p ks =>
    have ho1 : op = 2 ∨ op = 3 ∨ op = 4 := ho
    cases hl with
    | struct hs hk =>
      have heq : declOf (.mk 2 s [] 0 p ks) = kType :: s :: kStruct :: cLC :: ((ks.flatMap fun k => typedT k ++ [cSemi]) ++ [cRC]) := rfl
      rw [heq] at h ⊢
      refine hd_peek h.hd (hd_pos rfl (hd_next ?_))
      have hT : T (i + 1) = ⟨1, s⟩ := by have := h.tl.hd; rw [(hW _ hs).kd] at this; exact this
      refine hd_bind (hd_word hT) fun q j hq => ?_
      obtain ⟨e1, rfl⟩ := hq
      refine hd_bind (hd_need (by rw [h.tl.tl.hd])) fun _ j hj => ?_
      subst hj
      refine hd_bind (hd_need (by rw [h.tl.tl.tl.hd])) fun _ j hj => ?_
      subst hj
      refine hd_call (H.pt ks _ _ (fun u hu => ⟨ha.kid hu, hk u hu⟩) h.tl.tl.tl.tl) fun ts j ⟨hj, he⟩ => hd_ret ⟨?_, by rw [e1]; exact ee_mk he⟩
      rw [hj]; simp; omega
    | @var _ _ _ _ ho2 hs ht =>
      have h3 : op = 3 := by omega
      subst h3
      have heq : declOf (.mk 3 s ty 0 p []) = kVar :: (typedT (.mk 3 s ty 0 p []) ++ [cSemi]) := rfl
      rw [heq] at h ⊢
      refine hd_peek h.hd (hd_neg (by decide) (hd_pos rfl (hd_next ?_)))
      refine (rd_named hW H (.inl rfl) ha rfl h.tl).imp fun u j hu => ⟨?_, hu.2⟩
      rw [hu.1, List.length_cons]; omega
    | @func _ _ _ qs b hs ht hk hb =>
      have hb1 := ha.kid (u := b) (List.mem_append_right _ (List.mem_singleton.2 rfl))
      have heq : declOf (.mk 4 s ty 0 p (qs ++ [b])) = kFunc :: s :: ((cLB :: (commaF (qs.map typedT) ++ [cRB])) ++ ((if ty = [] then [] else typT ty) ++ showS b)) := by
        have e1 : (qs ++ [b]).take ((qs ++ [b]).length - 1) = qs := by simp
        have e2 : ((qs ++ [b]).map showS).getD ((qs ++ [b]).length - 1) [] = showS b := by simp [List.getD_eq_getElem?_getD]
        show [kFunc, s] ++ ([cLB] ++ commaF (((qs ++ [b]).take ((qs ++ [b]).length - 1)).map typedT) ++ [cRB]) ++ (if ty = [] then [] else typT ty) ++ (((qs ++ [b]).map showS).getD ((qs ++ [b]).length - 1) []) = _
        rw [e1, e2]
        simp
      rw [heq] at h ⊢
      refine hd_peek h.hd (hd_neg (by decide) (hd_neg (by decide) (hd_pos rfl (hd_next ?_))))
      have hT : T (i + 1) = ⟨1, s⟩ := by have := h.tl.hd; rw [(hW _ hs).kd] at this; exact this
      refine hd_bind (hd_word hT) fun q j hq => ?_
      obtain ⟨e1, rfl⟩ := hq
      have h2 := h.tl.tl
      refine hd_bind (rd_fparts hW H (fun u hu => ⟨ha.kid (List.mem_append_left _ hu), hk u hu⟩) h2.left) fun ts j ht2 => ?_
      obtain ⟨rfl, he⟩ := ht2
      have h3 : Rd T (i + 1 + 1 + ((commaF (qs.map typedT)).length + 2)) ((if ty = [] then [] else typT ty) ++ showS b) := by
        have := h2.right
        rw [show (cLB :: (commaF (qs.map typedT) ++ [cRB])).length = (commaF (qs.map typedT)).length + 2 by simp] at this
        exact this
      obtain ⟨r, hr⟩ := block_hd hW H hb1 hb
      refine hd_bind (Ψ := fun x j => x = ty ∧ j = i + 1 + 1 + ((commaF (qs.map typedT)).length + 2) + (if ty = [] then ([] : List Tx) else typT ty).length) ?_ fun x j hx => ?_
      · rcases ht with rfl | ht
        · have h4 : Rd T (i + 1 + 1 + ((commaF (qs.map typedT)).length + 2)) (showS b) := h3
          rw [hr] at h4
          exact hd_peek h4.hd (hd_pos rfl (hd_ret ⟨rfl, rfl⟩))
        · have hne : ty ≠ [] := by rcases ht with rfl | rfl | ⟨z, rfl, -⟩ <;> simp
          rw [if_neg hne] at h3 ⊢
          have h4 := h3.left
          have hnc : (T (i + 1 + 1 + ((commaF (qs.map typedT)).length + 2))).text ≠ cLC := by
            rcases ht with rfl | rfl | ⟨z, rfl, hz⟩
            · rw [ty_int] at h4; rw [h4.hd]; decide
            · rw [ty_bool] at h4; rw [h4.hd]; decide
            · rw [ty_ptr (hW _ hz)] at h4; rw [h4.hd]; decide
          exact hd_peek' (hd_neg hnc (rd_typ hW H ht h4))
      · obtain ⟨rfl, rfl⟩ := hx
        refine hd_bind (rd_block hW H hb1 hb h3.right) fun u j hu => ?_
        obtain ⟨rfl, hu⟩ := hu
        refine hd_ret ⟨?_, by rw [e1]; exact ee_mk (el_app he (el_cons hu el_nil))⟩
        simp only [List.length_cons, List.length_append, List.length_nil]; omega
    | name h => omega
    | set h => omega
    | binary h => omega
    | _ => omega
end
theorem first_decl {W : Tx → Prop} {t : Tree} (ha : Al W t) (ho : t.op = 2 ∨ t.op = 3 ∨ t.op = 4) : ∃ x r, declOf t = x :: r ∧ kd x ≠ 0 := by
  cases t with
  | mk op s ty n p ks =>
    have ho1 : op = 2 ∨ op = 3 ∨ op = 4 := ho
    have _ := ha
    rcases ho1 with rfl | rfl | rfl
    · exact ⟨kType, _, rfl, by decide⟩
    · exact ⟨kVar, _, rfl, by decide⟩
    · exact ⟨kFunc, _, rfl, by decide⟩

theorem step_s {W : Tx → Prop} {T : Nat → AT} (hW : ∀ s, W s → NW s) (n : Nat) (H : IHS W T (P T n)) : IHS W T (P T (n + 1)) where
  toIHE := step_e hW n H.toIHE
  st t d i ha hs h hn := hd_step <| hd_bind (rd_stmt hW H ha hs h hn) fun u j hu => hd_ret ⟨hu.1, u, rfl, hu.2⟩
  br t d i ha ho h hn := hd_step <| hd_bind (rd_branch hW H ha ho h hn) fun u j hu => hd_ret ⟨hu.1, u, rfl, hu.2⟩
  ss ks d i hk h := by
    cases ks with
    | nil =>
      have h1 : Rd T i [cRC] := h
      exact hd_step (hd_peek h1.hd (hd_pos rfl (hd_next (hd_ret ⟨rfl, rfl⟩))))
    | cons k ks =>
      have h1 : Rd T i (showS k ++ ((ks.map showS).flatten ++ [cRC])) := by
        have h0 : Rd T i ((showS k ++ (ks.map showS).flatten) ++ [cRC]) := h
        rw [List.append_assoc] at h0; exact h0
      have hk1 := hk k (List.mem_cons_self ..)
      obtain ⟨x, r, hx, hne1, hne2⟩ := first_s hW hk1.1 hk1.2
      have hT : T i = ⟨kd x, x⟩ := by have := h1.left; rw [hx] at this; exact this.hd
      have h2 := h1.right
      have hnx : (T (i + (showS k).length)).text ≠ kElse := by
        cases ks with
        | nil => rw [show T (i + (showS k).length) = _ from Rd.hd (r := []) h2]; decide
        | cons k2 ks2 =>
          obtain ⟨x2, r2, hx2, hne3, -⟩ := first_s hW (hk k2 (List.mem_cons_of_mem _ (List.mem_cons_self ..))).1 (hk k2 (List.mem_cons_of_mem _ (List.mem_cons_self ..))).2
          have h3 : Rd T (i + (showS k).length) (showS k2 ++ ((ks2.map showS).flatten ++ [cRC])) := by
            have h0 : Rd T (i + (showS k).length) ((showS k2 ++ (ks2.map showS).flatten) ++ [cRC]) := h2
            rw [List.append_assoc] at h0; exact h0
          have h4 := h3.left
          rw [hx2] at h4
          rw [h4.hd]; exact hne3
      refine hd_step (hd_peek hT (hd_neg hne2 ?_))
      refine hd_call (H.st k d i hk1.1 hk1.2 h1.left hnx) fun xs j hxs => ?_
      obtain ⟨rfl, u, rfl, hu⟩ := hxs
      refine hd_call (H.ss ks d _ (fun u hu => hk u (List.mem_cons_of_mem _ hu)) h2) fun ts j ⟨hj, he⟩ => hd_ret ⟨?_, el_cons hu he⟩
      rw [hj]
      show _ = i + ((showS k ++ (ks.map showS).flatten).length + 1)
      rw [List.length_append]; omega
  pa ks d i hk h := by
    cases ks with
    | nil =>
      have h1 : Rd T i [cRB] := h
      exact hd_step (hd_peek h1.hd (hd_neg (by decide) (hd_bind (hd_need (by rw [h1.hd])) fun _ j hj => hd_ret ⟨by rw [hj]; rfl, rfl⟩)))
    | cons k ks =>
      have h1 : Rd T i (cComma :: (typedT k ++ ((ks.flatMap fun b => cComma :: typedT b) ++ [cRB]))) := by
        have h0 : Rd T i ((cComma :: typedT k ++ ks.flatMap fun b => cComma :: typedT b) ++ [cRB]) := h
        rw [List.append_assoc] at h0; exact h0
      have hk1 := hk k (List.mem_cons_self ..)
      refine hd_step (hd_peek h1.hd (hd_pos rfl (hd_next ?_)))
      refine hd_bind (rd_typed hW H (.inr rfl) hk1.1 hk1.2 h1.tl.left) fun u j hu => ?_
      obtain ⟨rfl, hu⟩ := hu
      refine hd_call (H.pa ks _ _ (fun u hu => hk u (List.mem_cons_of_mem _ hu)) h1.tl.right) fun ts j ⟨hj, he⟩ => hd_ret ⟨?_, el_cons hu he⟩
      rw [hj, List.flatMap_cons, List.length_append, List.length_cons]; omega
  pt ks d i hk h := by
    cases ks with
    | nil =>
      have h1 : Rd T i [cRC] := h
      exact hd_step (hd_peek h1.hd (hd_pos rfl (hd_next (hd_ret ⟨rfl, rfl⟩))))
    | cons k ks =>
      have h1 : Rd T i ((typedT k ++ [cSemi]) ++ ((ks.flatMap fun b => typedT b ++ [cSemi]) ++ [cRC])) := by
        have h0 : Rd T i (((typedT k ++ [cSemi]) ++ ks.flatMap fun b => typedT b ++ [cSemi]) ++ [cRC]) := h
        rw [List.append_assoc] at h0; exact h0
      have hk1 := hk k (List.mem_cons_self ..)
      have hT : (T i).text ≠ cRC := by
        have hl := hk1.1.loc
        have h20 := h1.left.left
        cases k with
        | mk o s ty n p q =>
          have : o = 5 := hk1.2
          subst this
          cases hl with
          | var _ hs ht =>
            have h21 : Rd T i (s :: typT ty) := h20
            rw [h21.hd]; exact kd_ne (hW _ hs).kd (by decide)
          | name h => omega
          | set h => omega
          | binary h => omega
      refine hd_step (hd_peek' (hd_neg hT ?_))
      refine hd_bind (rd_named hW H (.inr rfl) hk1.1 hk1.2 h1.left) fun u j hu => ?_
      obtain ⟨rfl, hu⟩ := hu
      refine hd_call (H.pt ks _ _ (fun u hu => hk u (List.mem_cons_of_mem _ hu)) h1.right) fun ts j ⟨hj, he⟩ => hd_ret ⟨?_, el_cons hu he⟩
      rw [hj]; simp only [List.flatMap_cons, List.length_append]; omega
  dl ks d i hk h hn := by
    cases ks with
    | nil => exact hd_step (hd_peek' (hd_pos hn (hd_ret ⟨rfl, rfl⟩)))
    | cons k ks =>
      rw [List.flatMap_cons] at h hn ⊢
      rw [List.length_append, ← Nat.add_assoc] at hn ⊢
      have hk1 := hk k (List.mem_cons_self ..)
      obtain ⟨x, r, hx, hne⟩ := first_decl hk1.1 hk1.2
      have hT : T i = ⟨kd x, x⟩ := by have := h.left; rw [hx] at this; exact this.hd
      refine hd_step (hd_peek hT (hd_neg hne ?_))
      refine hd_bind (rd_decl hW H hk1.1 hk1.2 h.left) fun u j hu => ?_
      obtain ⟨rfl, hu⟩ := hu
      exact hd_call (H.dl ks d _ (fun u hu => hk u (List.mem_cons_of_mem _ hu)) h.right hn) fun ts j ⟨hj, he⟩ => hd_ret ⟨hj, el_cons hu he⟩
theorem base_s {W : Tx → Prop} {T : Nat → AT} : IHS W T (P T 0) :=
  ⟨base_e, fun _ _ _ _ _ _ _ r e => (by cases e), fun _ _ _ _ _ _ _ r e => (by cases e), fun _ _ _ _ _ r e => (by cases e), fun _ _ _ _ _ r e => (by cases e), fun _ _ _ _ _ r e => (by cases e), fun _ _ _ _ _ _ r e => (by cases e)⟩
theorem all_s {W : Tx → Prop} {T : Nat → AT} (hW : ∀ s, W s → NW s) (n : Nat) : IHS W T (P T n) := by
  induction n with
  | zero => exact base_s
  | succ n ih => exact step_s hW n ih

end Go.Proofs.YtfbejfoalnhihaaGreatDoor

/-
  PLAIN: what stands behind a declaration plays no part: the declarations of two rows of tokens, one behind the other. Nothing of the program stands here. No condition.
-/
namespace Go.Proofs.YtfbejfoalnhihaaGreatDoor
open Go.RowKit

def Ends {α : Type} (p : Pr α) : Prop := (∃ a, p = .ret a) ∨ ∃ e, p = .fail e
def closed : NT → Prop
  | .parts | .params | .stmts | .args => True
  | _ => False
/-- A reader whose last step takes a token. -/
def Cl {α : Type} : Pr α → Prop
  | .ret _ => False
  | .fail _ => True
  | .peek k => ∀ i t, Cl (k i t)
  | .next p => Cl p ∨ Ends p
  | .call nt _ k => (∀ ts, Cl (k ts)) ∨ (closed nt ∧ ∀ ts, Ends (k ts))
theorem cl_right {α β : Type} {p : Pr α} {f : α → Pr β} (h : ∀ a, Cl (f a)) : Cl (p.bind f) := by
  induction p with
  | ret a => exact h a
  | fail e => trivial
  | peek k ih => exact fun i t => ih i t
  | next p ih => exact .inl ih
  | call nt d k ih => exact .inl fun ts => ih ts
theorem ends_bind {α β : Type} {p : Pr α} {f : α → Pr β} (h : Ends p) (g : ∀ a, Ends (f a)) : Ends (p.bind f) := by
  rcases h with ⟨a, rfl⟩ | ⟨e, rfl⟩
  · exact g a
  · exact .inr ⟨e, rfl⟩
theorem cl_left {α β : Type} {p : Pr α} {f : α → Pr β} (h : Cl p) (g : ∀ a, Ends (f a)) : Cl (p.bind f) := by
  induction p with
  | ret a => exact h.elim
  | fail e => trivial
  | peek k ih => exact fun i t => ih i t (h i t)
  | next p ih =>
    rcases h with h | h
    · exact .inl (ih h)
    · exact .inr (ends_bind h g)
  | call nt d k ih =>
    rcases h with h | h
    · exact .inl fun ts => ih ts (h ts)
    · exact .inr ⟨h.1, fun ts => ends_bind (h.2 ts) g⟩
theorem cl_ite {α : Type} {q : Prop} [Decidable q] {p r : Pr α} (h : Cl p) (g : Cl r) : Cl (if q then p else r) := by split <;> assumption
theorem ends_ret {α : Type} (a : α) : Ends (Pr.ret a) := .inl ⟨a, rfl⟩
theorem cl_need (s : List UInt8) : Cl (need s) := fun _ _ => cl_ite (.inr (ends_ret _)) trivial
theorem cl_word : Cl word := fun _ _ => cl_ite (.inr (ends_ret _)) trivial
theorem cl_named (op : Nat) : Cl (named op) := cl_right fun _ => cl_left (cl_need _) fun _ => ends_ret _
theorem cl_typ : Cl typ := fun _ _ => cl_ite (.inr (ends_ret _)) (cl_ite (.inr (ends_ret _)) (cl_right fun _ => cl_left cl_word fun _ => ends_ret _))
theorem cl_typed (op : Nat) : Cl (typed op) := cl_right fun _ => cl_left cl_typ fun _ => ends_ret _
theorem cl_block (d : Nat) : Cl (block d) := cl_right fun _ => .inr ⟨trivial, fun _ => ends_ret _⟩
theorem cl_struct : Cl structure_ := cl_right fun _ => cl_right fun _ => cl_right fun _ => .inr ⟨trivial, fun _ => ends_ret _⟩
theorem cl_function (d : Nat) : Cl (function d) := cl_right fun _ => cl_right fun _ => cl_right fun _ => cl_left (cl_block d) fun _ => ends_ret _
theorem cl_decl (d : Nat) : Cl (decl d) := fun _ _ => cl_ite (.inl cl_struct) (cl_ite (.inl (cl_named 3)) (cl_ite (.inl (cl_function d)) trivial))
theorem cl_body {nt : NT} (h : closed nt) (d : Nat) : Cl (body nt d) := by
  cases nt with
  | parts => exact fun _ _ => cl_ite (.inr (ends_ret _)) (cl_right fun _ => .inr ⟨trivial, fun _ => ends_ret _⟩)
  | params => exact fun _ _ => cl_ite (.inl (show Cl ((typed 5).bind _) from cl_right fun _ => .inr ⟨trivial, fun _ => ends_ret _⟩)) (cl_left (cl_need _) fun _ => ends_ret _)
  | stmts => exact fun _ _ => cl_ite (.inr (ends_ret _)) (.inl fun _ => .inr ⟨trivial, fun _ => ends_ret _⟩)
  | args => exact fun _ _ => cl_ite (.inl (show Cl ((expr d).bind _) from cl_right fun _ => .inr ⟨trivial, fun _ => ends_ret _⟩)) (cl_left (cl_need _) fun _ => ends_ret _)
  | _ => exact h.elim

/-- What is asked of those that are called: they go on, closed ones by one token at the least; and they are the same over the other tokens, as far as they look. -/
structure CalleeL (T T' : Nat → AT) (c c' : Callee) : Prop where
  mono : ∀ nt d i ts j, c nt d i = some (.ok ts j) → i ≤ j
  step : ∀ nt d i ts j, closed nt → c nt d i = some (.ok ts j) → i < j
  same : ∀ nt d i ts j, c nt d i = some (.ok ts j) → (∀ k, k ≤ j → T' k = T k) → c' nt d i = some (.ok ts j)
  shut : ∀ nt d i ts j, closed nt → c nt d i = some (.ok ts j) → (∀ k, k < j → T' k = T k) → c' nt d i = some (.ok ts j)
theorem ends_same {T T' : Nat → AT} {c c' : Callee} {α : Type} {p : Pr α} (h : Ends p) (i j : Nat) (a : α) (hr : runW T c p i = some (.ok a j)) : runW T' c' p i = some (.ok a j) := by
  rcases h with ⟨b, rfl⟩ | ⟨e, rfl⟩
  · exact hr
  · cases hr
theorem ends_at {T : Nat → AT} {c : Callee} {α : Type} {p : Pr α} (h : Ends p) (i j : Nat) (a : α) (hr : runW T c p i = some (.ok a j)) : j = i := by
  rcases h with ⟨b, rfl⟩ | ⟨e, rfl⟩
  · cases hr; rfl
  · cases hr
section
variable {T T' : Nat → AT} {c c' : Callee} (L : CalleeL T T' c c')
include L
theorem run_mono {α : Type} (p : Pr α) : ∀ (i j : Nat) (a : α), runW T c p i = some (.ok a j) → i ≤ j := by
  induction p with
  | ret a => intro i j a' h; cases h; exact Nat.le_refl _
  | fail e => intro i j a' h; cases h
  | peek k ih => intro i j a' h; exact ih _ _ _ _ _ h
  | next p ih => intro i j a' h; have := ih _ _ _ h; omega
  | call nt d k ih =>
    intro i j a' h
    simp only [runW] at h
    cases hc : c nt d i with
    | none => rw [hc] at h; cases h
    | some r =>
      rw [hc] at h
      cases r with
      | bad j e => cases h
      | ok ts j1 => have := ih _ _ _ _ h; have := L.mono _ _ _ _ _ hc; omega
theorem run_step {α : Type} (p : Pr α) : ∀ (i j : Nat) (a : α), Cl p → runW T c p i = some (.ok a j) → i < j := by
  induction p with
  | ret a => intro i j a' hc h; exact hc.elim
  | fail e => intro i j a' hc h; cases h
  | peek k ih => intro i j a' hc h; exact ih _ _ _ _ _ (hc _ _) h
  | next p ih => intro i j a' hc h; have := run_mono L p _ _ _ h; omega
  | call nt d k ih =>
    intro i j a' hcl h
    simp only [runW] at h
    cases hc : c nt d i with
    | none => rw [hc] at h; cases h
    | some r =>
      rw [hc] at h
      cases r with
      | bad j e => cases h
      | ok ts j1 =>
        rcases hcl with hcl | hcl
        · have := ih _ _ _ _ (hcl ts) h; have := L.mono _ _ _ _ _ hc; omega
        · have := run_mono L _ _ _ _ h; have := L.step _ _ _ _ _ hcl.1 hc; omega
theorem run_same {α : Type} (p : Pr α) : ∀ (i j : Nat) (a : α), runW T c p i = some (.ok a j) → (∀ k, k ≤ j → T' k = T k) → runW T' c' p i = some (.ok a j) := by
  induction p with
  | ret a => intro i j a' h _; exact h
  | fail e => intro i j a' h; cases h
  | peek k ih =>
    intro i j a' h ht
    have := run_mono L (.peek k) _ _ _ h
    show runW T' c' (k i (T' i)) i = _
    rw [ht i this]
    exact ih _ _ _ _ _ h ht
  | next p ih => intro i j a' h ht; exact ih _ _ _ h ht
  | call nt d k ih =>
    intro i j a' h ht
    simp only [runW] at h ⊢
    cases hc : c nt d i with
    | none => rw [hc] at h; cases h
    | some r =>
      rw [hc] at h
      cases r with
      | bad j e => cases h
      | ok ts j1 =>
        have hj := run_mono L _ _ _ _ h
        rw [L.same _ _ _ _ _ hc fun k hk => ht k (by omega)]
        exact ih _ _ _ _ h ht
theorem run_shut {α : Type} (p : Pr α) : ∀ (i j : Nat) (a : α), Cl p → runW T c p i = some (.ok a j) → (∀ k, k < j → T' k = T k) → runW T' c' p i = some (.ok a j) := by
  induction p with
  | ret a => intro i j a' hcl; exact hcl.elim
  | fail e => intro i j a' hcl h; cases h
  | peek k ih =>
    intro i j a' hcl h ht
    have := run_step L (.peek k) _ _ _ hcl h
    show runW T' c' (k i (T' i)) i = _
    rw [ht i this]
    exact ih _ _ _ _ _ (hcl _ _) h ht
  | next p ih =>
    intro i j a' hcl h ht
    rcases hcl with hcl | hcl
    · exact ih _ _ _ hcl h ht
    · exact ends_same hcl _ _ _ h
  | call nt d k ih =>
    intro i j a' hcl h ht
    simp only [runW] at h ⊢
    cases hc : c nt d i with
    | none => rw [hc] at h; cases h
    | some r =>
      rw [hc] at h
      cases r with
      | bad j e => cases h
      | ok ts j1 =>
        rcases hcl with hcl | hcl
        · have hj := run_step L _ _ _ _ (hcl ts) h
          rw [L.same _ _ _ _ _ hc fun k hk => ht k (by omega)]
          exact ih _ _ _ _ (hcl ts) h ht
        · have hj := ends_at (hcl.2 ts) _ _ _ h
          rw [L.shut _ _ _ _ _ hcl.1 hc fun k hk => ht k (by omega)]
          exact ends_same (hcl.2 ts) _ _ _ h
end
theorem P_local (T T' : Nat → AT) (n : Nat) : CalleeL T T' (P T n) (P T' n) := by
  induction n with
  | zero => exact ⟨fun _ _ _ _ _ h => (by cases h), fun _ _ _ _ _ _ h => (by cases h), fun _ _ _ _ _ h => (by cases h), fun _ _ _ _ _ _ h => (by cases h)⟩
  | succ n ih => exact ⟨fun nt d i ts j h => run_mono ih _ _ _ _ h, fun nt d i ts j hc h => run_step ih _ _ _ _ (cl_body hc d) h, fun nt d i ts j h ht => run_same ih _ _ _ _ h ht, fun nt d i ts j hc h ht => run_shut ih _ _ _ _ (cl_body hc d) h ht⟩

/-- THE DECLARATIONS OF TWO, one behind the other. -/
theorem decls_two (T T' : Nat → AT) (d m : Nat) (ks2 : List Tree) (j2 : Nat) (n : Nat) : ∀ (i j : Nat) (ks : List Tree), P T n .decls d i = some (.ok ks j) → (∀ k, k < j → T' k = T k) → (∀ k, k < j → (T k).kind ≠ 0) → P T' m .decls d j = some (.ok ks2 j2) → P T' (n + m) .decls d i = some (.ok (ks ++ ks2) j2) := by
  induction n with
  | zero => intro i j ks h; cases h
  | succ n ih =>
    intro i j ks h ht hk h2
    have hmono := (P_local T T' (n + 1)).mono _ _ _ _ _ h
    have hb : runW T (P T n) (body .decls d) i = some (.ok ks j) := h
    have hb2 : (if (T i).kind = 0 then (some (.ok [] i) : Option (Res (List Tree))) else runW T (P T n) ((decl d).bind fun x => .call .decls d fun xs => .ret (x :: xs)) i) = some (.ok ks j) := by
      rw [← hb]
      show _ = runW T (P T n) (if (T i).kind = 0 then _ else _) i
      split <;> rfl
    by_cases h0 : (T i).kind = 0
    · rw [if_pos h0] at hb2
      have hb3 := Res.ok.inj (Option.some.inj hb2)
      obtain ⟨rfl, rfl⟩ := hb3
      exact P_mono T' (by omega) _ _ _ _ h2
    · rw [if_neg h0, runW_bind] at hb2
      cases hd : runW T (P T n) (decl d) i with
      | none => rw [hd] at hb2; cases hb2
      | some r =>
        rw [hd] at hb2
        cases r with
        | bad j e => cases hb2
        | ok x i1 =>
          simp only [then_, runW] at hb2
          cases hc : P T n .decls d i1 with
          | none => rw [hc] at hb2; cases hb2
          | some r =>
            rw [hc] at hb2
            cases r with
            | bad j e => cases hb2
            | ok xs j1 =>
              obtain ⟨rfl, rfl⟩ := Res.ok.inj (Option.some.inj hb2)
              have L := P_local T T' n
              have hs := run_step L _ _ _ _ (cl_decl d) hd
              have hj := L.mono _ _ _ _ _ hc
              have hd' := run_shut L _ _ _ _ (cl_decl d) hd fun k hk => ht k (by omega)
              have hd2 := runW_at T' (show n ≤ n + m by omega) _ _ _ hd'
              have hr := ih i1 j1 xs hc ht hk h2
              show P T' (n + 1 + m) .decls d i = _
              rw [show n + 1 + m = (n + m) + 1 by omega]
              show runW T' (P T' (n + m)) (body .decls d) i = _
              show runW T' (P T' (n + m)) (if (T' i).kind = 0 then _ else _) i = _
              rw [ht i (by omega), if_neg h0, runW_bind, hd2]
              simp only [then_, runW, hr, List.cons_append]

end Go.Proofs.YtfbejfoalnhihaaGreatDoor

/-
  PLAIN: a text behind a line feed is a text for itself: its tokens are those of the first one, then those of the second one, moved. Nothing of the program stands here.
-/
namespace Go.Proofs.YtfbejfoalnhihaaGreatDoor
open Go.RowKit

theorem run_app {f : UInt8 → Bool} (h : f 10 = false) (x b : List UInt8) : runN f (x ++ 10 :: b) = runN f x := by
  induction x with
  | nil => rw [List.nil_append, runN_zero b h]; rfl
  | cons c r ih =>
    cases hc : f c with
    | true => rw [List.cons_append, runN_pos _ hc, runN_pos _ hc, ih]
    | false => rw [List.cons_append, runN_zero _ hc, runN_zero _ hc]
theorem com_app (c : UInt8) (r b : List UInt8) : comB ((c :: r) ++ 10 :: b) = comB (c :: r) := by
  cases r with
  | nil => simp [comB]
  | cons d r => rfl
theorem take_app (f : UInt8 → Bool) (x b : List UInt8) : (x ++ 10 :: b).take (runN f x) = x.take (runN f x) := List.take_append_of_le_length (runN_le f x)
theorem drop_app (x b : List UInt8) {n : Nat} (h : n ≤ x.length) : (x ++ 10 :: b).drop n = x.drop n ++ 10 :: b := List.drop_append_of_le_length h
theorem after_app (x b : List UInt8) : afterB (x ++ 10 :: b) = afterB x := by
  cases x with
  | nil => show letB 10 = false; decide
  | cons c r => rfl
theorem long_app (c : UInt8) (r b : List UInt8) : longB ((c :: r) ++ 10 :: b) = longB (c :: r) := by
  cases r with
  | nil => exact (long_no10 c).trans (long_no1 c).symm
  | cons d r => rfl
theorem tok_app (c : UInt8) (r b : List UInt8) : tokT ((c :: r) ++ 10 :: b) = tokT (c :: r) := by
  cases h1 : letB c with
  | true =>
    rw [List.cons_append, tokT_let _ h1, tokT_let _ h1, ← List.cons_append]
    unfold wordT
    rw [run_app (by decide), take_app]
  | false =>
    cases h2 : digB c with
    | true =>
      rw [List.cons_append, tokT_dig _ h1 h2, tokT_dig _ h1 h2, ← List.cons_append]
      unfold numT
      rw [run_app (by decide), take_app, drop_app _ _ (runN_le _ _), after_app]
    | false =>
      rw [List.cons_append, tokT_sign _ h1 h2, tokT_sign _ h1 h2, ← List.cons_append]
      unfold signT
      rw [long_app]

def R.thenR (r : R) (k : R) : R := match r with
  | .ok ts => k.pre ts
  | .bad p e => .bad p e
theorem thenR_pre (us : List Tok) (r k : R) : (r.pre us).thenR k = (r.thenR k).pre us := by
  cases r with
  | ok ts => simp [R.pre, R.thenR]; cases k <;> simp
  | bad p e => rfl
theorem scan_app (b : List UInt8) : ∀ (n : Nat) (x : List UInt8) (p : Nat), x.length ≤ n → scanS (x ++ 10 :: b) p = (scanS x p).thenR (scanS b (p + x.length + 1)) := by
  intro n
  induction n with
  | zero =>
    intro x p h
    have : x = [] := List.length_eq_zero_iff.1 (by omega)
    subst this
    rw [List.nil_append, scanS_blk p (by decide)]
    exact (R.pre_nil _).symm
  | succ n ih =>
    intro x p h
    cases x with
    | nil =>
      rw [List.nil_append, scanS_blk p (by decide)]
      exact (R.pre_nil _).symm
    | cons c r =>
      simp only [List.length_cons] at h
      cases hb : blkB c with
      | true =>
        rw [List.cons_append, scanS_blk p hb, scanS_blk p hb, ih r (p + 1) (by omega), List.length_cons, show p + 1 + r.length + 1 = p + (r.length + 1) + 1 by omega]
      | false =>
        cases hc : comB (c :: r) with
        | true =>
          have hn : notNl c = true := by have := com_head hc; simp [notNl, this]
          have hrn := runN_pos r hn
          have hrl := runN_le notNl (c :: r)
          have hca : comB (c :: (r ++ 10 :: b)) = true := (com_app c r b).trans hc
          rw [List.cons_append, scanS_com p hb hca, scanS_com p hb hc, ← List.cons_append, run_app (by decide), drop_app _ _ hrl]
          rw [ih _ _ (by rw [List.length_drop, List.length_cons]; omega), List.length_drop]
          rw [show p + runN notNl (c :: r) + ((c :: r).length - runN notNl (c :: r)) + 1 = p + (c :: r).length + 1 by omega]
        | false =>
          have hca : comB (c :: (r ++ 10 :: b)) = false := (com_app c r b).trans hc
          have hta : tokT (c :: (r ++ 10 :: b)) = tokT (c :: r) := tok_app c r b
          by_cases he : (tokT (c :: r)).err = 0
          · have hln := tok_len he
            rw [List.cons_append, scanS_tok p hb hca (by rw [hta]; exact he), scanS_tok p hb hc he, hta, ← List.cons_append, drop_app _ _ hln.2, List.take_append_of_le_length hln.2]
            rw [thenR_pre, ih _ _ (by rw [List.length_drop, List.length_cons]; omega), List.length_drop]
            rw [show p + (tokT (c :: r)).len + ((c :: r).length - (tokT (c :: r)).len) + 1 = p + (c :: r).length + 1 by omega]
          · rw [List.cons_append, scanS_bad p hb hca (by rw [hta]; exact he), scanS_bad p hb hc he, hta]; rfl

def moved (d : Nat) (t : Tok) : Tok := ⟨t.kind, t.text, t.place + d⟩
def R.shift (d : Nat) : R → R
  | .ok ts => .ok (ts.map (moved d))
  | .bad p e => .bad (p + d) e
theorem shift_pre (d : Nat) (us : List Tok) (r : R) : (r.pre us).shift d = (r.shift d).pre (us.map (moved d)) := by
  cases r <;> simp [R.pre, R.shift]
theorem scan_shift (d : Nat) : ∀ (n : Nat) (x : List UInt8) (p : Nat), x.length ≤ n → scanS x (p + d) = (scanS x p).shift d := by
  intro n
  induction n with
  | zero =>
    intro x p h
    have : x = [] := List.length_eq_zero_iff.1 (by omega)
    subst this
    rfl
  | succ n ih =>
    intro x p h
    cases x with
    | nil => rfl
    | cons c r =>
      simp only [List.length_cons] at h
      cases hb : blkB c with
      | true => rw [scanS_blk _ hb, scanS_blk _ hb, show p + d + 1 = p + 1 + d by omega, ih r _ (by omega)]
      | false =>
        cases hc : comB (c :: r) with
        | true =>
          have hn : notNl c = true := by have := com_head hc; simp [notNl, this]
          have hrn := runN_pos r hn
          rw [scanS_com _ hb hc, scanS_com _ hb hc, show p + d + runN notNl (c :: r) = p + runN notNl (c :: r) + d by omega, ih _ _ (by rw [List.length_drop, List.length_cons]; omega)]
        | false =>
          by_cases he : (tokT (c :: r)).err = 0
          · have hln := tok_len he
            rw [scanS_tok _ hb hc he, scanS_tok _ hb hc he, show p + d + (tokT (c :: r)).len = p + (tokT (c :: r)).len + d by omega, ih _ _ (by rw [List.length_drop, List.length_cons]; omega), shift_pre]; rfl
          · rw [scanS_bad _ hb hc he, scanS_bad _ hb hc he]; rfl

/-- The tokens of two texts with a line feed between. -/
theorem scan_two (a b : List UInt8) : sc (a ++ 10 :: b) 0 = (sc a 0).thenR ((sc b 0).shift (a.length + 1)) := by
  unfold sc
  rw [List.drop_zero, List.drop_zero, List.drop_zero, scan_app b a.length a 0 (Nat.le_refl _), show 0 + a.length + 1 = 0 + (a.length + 1) by omega, scan_shift (a.length + 1) b.length b 0 (Nat.le_refl _)]

end Go.Proofs.YtfbejfoalnhihaaGreatDoor

/-
  PLAIN: two sources, one behind the other: the program has the declarations of both, in order. Nothing of the program stands here. No condition.
-/
namespace Go.Proofs.YtfbejfoalnhihaaGreatDoor
open Go.RowKit

theorem decls_end (T : Nat → AT) (d n : Nat) : ∀ (i j : Nat) (ks : List Tree), P T n .decls d i = some (.ok ks j) → (T j).kind = 0 := by
  induction n with
  | zero => intro i j ks h; cases h
  | succ n ih =>
    intro i j ks h
    have hb : runW T (P T n) (body .decls d) i = some (.ok ks j) := h
    have hb2 : (if (T i).kind = 0 then (some (.ok [] i) : Option (Res (List Tree))) else runW T (P T n) ((decl d).bind fun x => .call .decls d fun xs => .ret (x :: xs)) i) = some (.ok ks j) := by
      rw [← hb]
      show _ = runW T (P T n) (if (T i).kind = 0 then _ else _) i
      split <;> rfl
    by_cases h0 : (T i).kind = 0
    · rw [if_pos h0] at hb2
      obtain ⟨rfl, rfl⟩ := Res.ok.inj (Option.some.inj hb2)
      exact h0
    · rw [if_neg h0, runW_bind] at hb2
      cases hd : runW T (P T n) (decl d) i with
      | none => rw [hd] at hb2; cases hb2
      | some r =>
        rw [hd] at hb2
        cases r with
        | bad j e => cases hb2
        | ok x i1 =>
          simp only [then_, runW] at hb2
          cases hc : P T n .decls d i1 with
          | none => rw [hc] at hb2; cases hb2
          | some r =>
            rw [hc] at hb2
            cases r with
            | bad j e => cases hb2
            | ok xs j1 =>
              obtain ⟨rfl, rfl⟩ := Res.ok.inj (Option.some.inj hb2)
              exact ih _ _ _ hc

/-- What a parse gives, with the tokens and where it ends. -/
theorem parse_end {l : List UInt8} {ts : List Tok} {ks : List Tree} (h : parseR l = .ok ts ks) : scanR l = .ok ts ∧ P (Tf ts) (fuelT ts) .decls 0 0 = some (.ok ks ts.length) := by
  unfold parseR at h
  cases hs : scanR l with
  | bad p e => rw [hs] at h; cases h
  | ok ts' =>
    rw [hs] at h
    have hT := toks_of hs
    cases hp : P (Tf ts') (fuelT ts') .decls 0 0 with
    | none => simp only [hp, treeR] at h; cases h
    | some r =>
      simp only [hp, treeR] at h
      cases r with
      | bad j e => cases h
      | ok ks' j =>
        obtain ⟨rfl, rfl⟩ : ts' = ts ∧ ks' = ks := by injection h with a b; exact ⟨a, b⟩
        have hj := P_prog hT.sent (nt := .decls) trivial (Nat.zero_le _) hp
        have hk := decls_end _ _ _ _ _ _ hp
        have hle : ts'.length ≤ j := by
          rcases Nat.lt_or_ge j ts'.length with h | h
          · exact absurd hk (hT.sent.some j h)
          · exact h
        have : j = ts'.length := by omega
        subst this
        exact ⟨rfl, hp⟩
theorem scanR_le {l : List UInt8} {ts : List Tok} (h : scanR l = .ok ts) : sc l 0 = .ok ts ∧ l.length ≤ 4096 := by
  unfold scanR at h
  split at h
  · cases h
  · exact ⟨h, by omega⟩
theorem Tf_left {a b : List Tok} {k : Nat} (h : k < a.length) : Tf (a ++ b) k = Tf a k := by unfold Tf; rw [List.getElem?_append_left h]
theorem Tf_right (a b : List Tok) (d k : Nat) : Tf (a ++ b.map (moved d)) (k + a.length) = Tf b k := by
  unfold Tf
  rw [List.getElem?_append_right (by omega), Nat.add_sub_cancel, List.getElem?_map]
  cases b[k]? <;> rfl
theorem size_er (N : Nat) : ∀ t : Tree, sizeT t ≤ N → sizeT (er t) = sizeT t := by
  induction N with
  | zero => intro t h; have := sizeT_pos t; omega
  | succ N ih =>
    intro t h
    cases t with
    | mk o s ty n p ks =>
      rw [er_mk, sizeT_mk, sizeT_mk]
      rw [sizeT_mk] at h
      congr 1
      have : ∀ l : List Tree, sizeL l ≤ N → sizeL (l.map er) = sizeL l := by
        intro l
        induction l with
        | nil => intro _; rfl
        | cons a r ihr =>
          intro hl
          rw [sizeL_cons] at hl
          rw [List.map_cons, sizeL_cons, sizeL_cons, ih a (by omega), ihr (by omega)]
      exact this ks (by omega)
theorem size_ee {a b : Tree} (h : EE a b) : sizeT a = sizeT b := by
  rw [← size_er _ a (Nat.le_refl _), ← size_er _ b (Nat.le_refl _), show er a = er b from h]
theorem sizeL_el : ∀ {a b : List Tree}, EL a b → sizeL a = sizeL b
  | [], [], _ => rfl
  | [], _ :: _, h => by cases h
  | _ :: _, [], h => by cases h
  | x :: a, y :: b, h => by rw [sizeL_cons, sizeL_cons, size_ee (List.cons.inj h).1, sizeL_el (List.cons.inj h).2]

theorem parse_two {a b : List UInt8} {ta tb : List Tok} {ka kb : List Tree} (ha : parseR a = .ok ta ka) (hb : parseR b = .ok tb kb) (hl : a.length + b.length + 1 ≤ 4096) :
    ∃ tc kb', parseR (a ++ 10 :: b) = .ok tc (ka ++ kb') ∧ EL kb kb' := by
  obtain ⟨sa, pa⟩ := parse_end ha
  obtain ⟨sb, pb⟩ := parse_end hb
  have hTa := toks_of sa
  have h2 : scanR (a ++ 10 :: b) = .ok (ta ++ tb.map (moved (a.length + 1))) := by
    unfold scanR
    rw [if_neg (by simp; omega), scan_two, (scanR_le sa).1, (scanR_le sb).1]; rfl
  have hTc := toks_of h2
  obtain ⟨tc, htc⟩ : ∃ tc, ta ++ tb.map (moved (a.length + 1)) = tc := ⟨_, rfl⟩
  have hR : ∀ k, Tf tc (k + ta.length) = Tf tb k := fun k => by rw [← htc]; exact Tf_right _ _ _ _
  have hL : ∀ k, k < ta.length → Tf tc k = Tf ta k := fun k hk => by rw [← htc]; exact Tf_left hk
  have hlen : tc.length = ta.length + tb.length := by rw [← htc]; simp
  rw [htc] at h2 hTc
  have hs := P_shift hR (fuelT tb) .decls 0 0
  rw [pb, Nat.zero_add] at hs
  cases hq : P (Tf tc) (fuelT tb) .decls 0 ta.length with
  | none => rw [hq] at hs; exact hs.elim
  | some r =>
    rw [hq] at hs
    cases r with
    | bad j e => exact hs.elim
    | ok kb' j =>
      obtain ⟨-, he⟩ := hs
      have hd := decls_two (Tf ta) (Tf tc) 0 (fuelT tb) kb' j (fuelT ta) 0 ta.length ka pa hL (fun k hk => hTa.sent.some k hk) hq
      obtain ⟨rr, hp, -⟩ := P_total hTc.sent (fuelT tc) .decls 0 0 trivial (Nat.zero_le _) (by show 4 * (tc.length - 0) + 0 < 4 * tc.length + 1; omega)
      have h1 := P_one _ hp hd
      subst h1
      refine ⟨tc, kb', ?_, he⟩
      unfold parseR
      rw [h2]
      simp only [hp, treeR]

end Go.Proofs.YtfbejfoalnhihaaGreatDoor
