/-
  PLAIN: the reader of the grammar ends, wherever it begins; and where. Nothing of the program stands here. No condition.
-/
import Derived.Test.YtkahbhfbgdbnfaaGreatDoorJ3
import Derived.Test.YtkahbhfbgdbnfaaGreatDoorProg
import Derived.Below
import Derived.Laws.OwnMore
import Derived.Deep.AppendLies
import Derived.Deep.Draws
import Derived.Maps.AppendAt
import Derived.OwnWalk
import Derived.RegionTactic
import Derived.BigQuiet
import Derived.Deep.QuietTactic
import Derived.IntWalk
import Derived.Lib.Hide
import Derived.StillTailTactics
namespace Go.Proofs.YtkahbhfbgdbnfaaGreatDoor
open Go.RowKit

/-- From z on there is the end, and nothing else is it. -/
structure Sent (T : Nat → AT) (z : Nat) : Prop where
  stop : ∀ k, z ≤ k → T k = ⟨0, []⟩
  some : ∀ k, k < z → (T k).kind ≠ 0

def minc : NT → Nat
  | .decls | .tail _ | .fields => 0
  | _ => 1
def rank : NT → Nat
  | .binary _ | .stmt => 1
  | .stmts => 2
  | _ => 0
theorem rank_le (nt : NT) : rank nt ≤ 2 := by cases nt <;> simp [rank]

section
variable {T : Nat → AT} {z : Nat} {c : Callee}
def Tot {α : Type} (T : Nat → AT) (z : Nat) (c : Callee) (k : Nat) (p : Pr α) (i : Nat) : Prop := ∃ r, runW T c p i = some r ∧ ∀ a j, r = .ok a j → i + k ≤ j ∧ j ≤ z
def CallOK (z : Nat) (c : Callee) (nt : NT) (d j : Nat) : Prop := ∃ r, c nt d j = some r ∧ ∀ ts j', r = .ok ts j' → j + minc nt ≤ j' ∧ j' ≤ z
def okNT : NT → Prop
  | .tail l | .binary l => 1 ≤ l
  | _ => True
def Later (z : Nat) (c : Callee) (i : Nat) : Prop := ∀ nt d j, okNT nt → i < j → j ≤ z → CallOK z c nt d j
theorem Later.mono {i i' : Nat} (h : Later z c i) (hi : i ≤ i') : Later z c i' := fun nt d j h0 h1 h2 => h nt d j h0 (by omega) h2

theorem tot_ret {α : Type} (a : α) (i : Nat) (h : i ≤ z) : Tot T z c 0 (.ret a) i := ⟨_, rfl, fun a j h' => by cases h'; exact ⟨by omega, h⟩⟩
theorem tot_fail {α : Type} (e i k : Nat) : Tot T z c k (.fail e : Pr α) i := ⟨_, rfl, fun a j h' => by cases h'⟩
theorem Tot.weak {α : Type} {k k' : Nat} {p : Pr α} {i : Nat} (h : Tot T z c k p i) (hk : k' ≤ k) : Tot T z c k' p i := by
  obtain ⟨r, h1, h2⟩ := h
  exact ⟨r, h1, fun a j h' => by have := h2 a j h'; omega⟩
theorem tot_peek {α : Type} {k : Nat} {f : Nat → AT → Pr α} {i : Nat} (h : Tot T z c k (f i (T i)) i) : Tot T z c k (.peek f) i := h
theorem tot_next {α : Type} {k : Nat} {p : Pr α} {i : Nat} (h : Tot T z c k p (i + 1)) : Tot T z c (k + 1) (.next p) i := by
  obtain ⟨r, h1, h2⟩ := h
  exact ⟨r, h1, fun a j h' => by have := h2 a j h'; omega⟩
theorem tot_bind {α β : Type} {k1 k2 : Nat} {p : Pr α} {f : α → Pr β} {i : Nat} (h : Tot T z c k1 p i) (g : ∀ a j, i + k1 ≤ j → j ≤ z → Tot T z c k2 (f a) j) : Tot T z c (k1 + k2) (p.bind f) i := by
  obtain ⟨r, h1, h2⟩ := h
  unfold Tot
  rw [runW_bind, h1]
  cases r with
  | bad j e => exact ⟨_, rfl, fun a j h' => by cases h'⟩
  | ok a j =>
    obtain ⟨h3, h4⟩ := h2 a j rfl
    obtain ⟨r, g1, g2⟩ := g a j h3 h4
    exact ⟨r, g1, fun b j' h' => by have := g2 b j' h'; omega⟩
theorem tot_call {α : Type} {k : Nat} {nt : NT} {d : Nat} {f : List Tree → Pr α} {i : Nat} (h : CallOK z c nt d i) (g : ∀ ts j, i + minc nt ≤ j → j ≤ z → Tot T z c k (f ts) j) : Tot T z c (minc nt + k) (.call nt d f) i := by
  obtain ⟨r, h1, h2⟩ := h
  unfold Tot
  simp only [runW, h1]
  cases r with
  | bad j e => exact ⟨_, rfl, fun a j h' => by cases h'⟩
  | ok a j =>
    obtain ⟨h3, h4⟩ := h2 a j rfl
    obtain ⟨r, g1, g2⟩ := g a j h3 h4
    exact ⟨r, g1, fun b j' h' => by have := g2 b j' h'; omega⟩
theorem tot_ite {α : Type} {k : Nat} {b : Prop} [Decidable b] {p q : Pr α} {i : Nat} (h : b → Tot T z c k p i) (g : ¬ b → Tot T z c k q i) : Tot T z c k (if b then p else q) i := by
  by_cases hb : b
  · rw [if_pos hb]; exact h hb
  · rw [if_neg hb]; exact g hb

theorem lt_text (S : Sent T z) {i : Nat} {s : List UInt8} (hs : s ≠ []) (h : (T i).text = s) : i < z := by
  rcases Nat.lt_or_ge i z with g | g
  · exact g
  · rw [S.stop i g] at h; exact absurd h.symm hs
theorem lt_kind (S : Sent T z) {i k : Nat} (hk : k ≠ 0) (h : (T i).kind = k) : i < z := by
  rcases Nat.lt_or_ge i z with g | g
  · exact g
  · rw [S.stop i g] at h; exact absurd h.symm hk

theorem tot_need (S : Sent T z) {s : List UInt8} (hs : s ≠ []) (i : Nat) : Tot T z c 1 (need s) i :=
  tot_peek (tot_ite (fun h => (tot_next (tot_ret i (i + 1) (by have := lt_text S hs h; omega)))) fun _ => tot_fail _ _ _)
theorem tot_word (S : Sent T z) (i : Nat) : Tot T z c 1 word i :=
  tot_peek (tot_ite (fun h => (tot_next (tot_ret _ (i + 1) (by have := lt_kind S (by decide) h; omega)))) fun _ => tot_fail _ _ _)
theorem tot_enter (S : Sent T z) {s : List UInt8} (hs : s ≠ []) (d i : Nat) : Tot T z c 1 (enter d s) i :=
  tot_peek (tot_ite (fun h => tot_ite (fun _ => tot_fail _ _ _) fun _ => (tot_next (tot_ret i (i + 1) (by have := lt_text S hs h; omega)))) fun _ => tot_fail _ _ _)
theorem tot_typ (S : Sent T z) (i : Nat) : Tot T z c 1 typ i := by
  refine tot_peek (tot_ite (fun h => tot_next (tot_ret _ _ (by have := lt_text S (by decide) h; omega))) fun _ => tot_ite (fun h => tot_next (tot_ret _ _ (by have := lt_text S (by decide) h; omega))) fun _ => ?_)
  exact (tot_bind (tot_need S (by decide) i) fun _ j _ _ => tot_bind (tot_word S j) fun _ j _ hj => tot_ret _ _ hj).weak (by omega)
theorem tot_typed (S : Sent T z) (op i : Nat) : Tot T z c 1 (typed op) i :=
  (tot_bind (tot_word S i) fun _ j _ _ => tot_bind (tot_typ S j) fun _ j _ hj => tot_ret _ _ hj).weak (by omega)
theorem tot_named (S : Sent T z) (op i : Nat) : Tot T z c 1 (named op) i :=
  (tot_bind (tot_typed S op i) fun _ j _ _ => tot_bind (tot_need S (by decide) j) fun _ j _ hj => tot_ret _ _ hj).weak (by omega)
theorem tot_one {nt : NT} {d i : Nat} (h : CallOK z c nt d i) : Tot T z c (minc nt) (one nt d) i := tot_call h fun _ _ _ hj => tot_ret _ _ hj
theorem tot_expr {d i : Nat} (h : CallOK z c (.binary 1) d i) : Tot T z c 1 (expr d) i := tot_one h
theorem tot_block (S : Sent T z) (d i : Nat) (L : Later z c i) : Tot T z c 1 (block d) i :=
  (tot_bind (tot_enter S (by decide) d i) fun _ j h hj => tot_call (L _ _ j (by first | trivial | exact Nat.le_refl 1 | exact Nat.succ_le_succ (Nat.zero_le _) | assumption) (by omega) hj) fun _ j _ hj => tot_ret _ _ hj).weak (by omega)
theorem tot_structure (S : Sent T z) (i : Nat) (L : Later z c i) : Tot T z c 1 structure_ i :=
  (tot_bind (tot_word S i) fun _ j _ _ => tot_bind (tot_need S (by decide) j) fun _ j _ _ => tot_bind (tot_need S (by decide) j) fun _ j _ hj => tot_call (L _ _ j (by first | trivial | exact Nat.le_refl 1 | exact Nat.succ_le_succ (Nat.zero_le _) | assumption) (by omega) hj) fun _ j _ hj => tot_ret _ _ hj).weak (by omega)
theorem tot_fparts (S : Sent T z) (i : Nat) (L : Later z c i) : Tot T z c 1 fparts i := by
  refine (tot_bind (k2 := 0) (tot_need S (by decide) i) fun _ j hij hj => tot_peek (tot_ite (fun h => ?_) fun _ => ?_)).weak (by omega)
  · exact (tot_next (tot_ret _ _ (by have := lt_text S (by decide) h; omega))).weak (by omega)
  · exact (tot_bind (tot_typed S 5 j) fun _ j _ hj => tot_call (L _ _ j (by first | trivial | exact Nat.le_refl 1 | exact Nat.succ_le_succ (Nat.zero_le _) | assumption) (by omega) hj) fun _ j _ hj => tot_ret _ _ hj).weak (by omega)
theorem tot_function (S : Sent T z) (d i : Nat) (L : Later z c i) : Tot T z c 1 (function d) i := by
  refine (tot_bind (tot_word S i) fun _ j hj1 _ => tot_bind (tot_fparts S j (L.mono (by omega))) fun _ j _ hj => tot_bind (k1 := 0) (tot_peek (tot_ite (fun h => tot_ret _ _ hj) fun _ => (tot_typ S j).weak (by omega))) fun _ j _ _ => tot_bind (tot_block S d j (L.mono (by omega))) fun _ j _ hj => tot_ret _ _ hj).weak (by omega)
theorem tot_decl (S : Sent T z) (d i : Nat) (L : Later z c i) : Tot T z c 1 (decl d) i := by
  refine tot_peek (tot_ite (fun h => ?_) fun _ => tot_ite (fun h => ?_) fun _ => tot_ite (fun h => ?_) fun _ => tot_fail _ _ _)
  · exact (tot_next (tot_structure S _ (L.mono (by omega)))).weak (by omega)
  · exact (tot_next (tot_named S 3 _)).weak (by omega)
  · exact (tot_next (tot_function S d _ (L.mono (by omega)))).weak (by omega)
theorem tot_args (S : Sent T z) (d i : Nat) (L : Later z c i) : Tot T z c 1 (args d) i := by
  refine (tot_bind (k2 := 0) (tot_enter S (by decide) d i) fun _ j hij hj => tot_peek (tot_ite (fun h => ?_) fun _ => ?_)).weak (by omega)
  · exact (tot_bind (tot_need S (by decide) j) fun _ j _ hj => tot_ret _ _ hj).weak (by omega)
  · exact (tot_bind (tot_expr (L _ _ j (by first | trivial | exact Nat.le_refl 1 | exact Nat.succ_le_succ (Nat.zero_le _) | assumption) (by omega) hj)) fun _ j _ hj => tot_call (L _ _ j (by first | trivial | exact Nat.le_refl 1 | exact Nat.succ_le_succ (Nat.zero_le _) | assumption) (by omega) hj) fun _ j _ hj => tot_ret _ _ hj).weak (by omega)
theorem tot_brack (S : Sent T z) (d i : Nat) (L : Later z c i) : Tot T z c 1 (brack d) i :=
  (tot_bind (tot_enter S (by decide) d i) fun _ j _ hj => tot_bind (tot_expr (L _ _ j (by first | trivial | exact Nat.le_refl 1 | exact Nat.succ_le_succ (Nat.zero_le _) | assumption) (by omega) hj)) fun _ j _ _ => tot_bind (tot_need S (by decide) j) fun _ j _ hj => tot_ret _ _ hj).weak (by omega)
theorem tot_varOrCall (S : Sent T z) (d i : Nat) (L : Later z c i) : Tot T z c 1 (varOrCall d) i :=
  (tot_bind (k2 := 0) (tot_word S i) fun _ j hij hj => tot_peek (tot_ite (fun _ => (tot_bind (tot_args S d j (L.mono (by omega))) fun _ j _ hj => tot_ret _ _ hj).weak (by omega)) fun _ => tot_ret _ _ hj)).weak (by omega)
theorem tot_creation (S : Sent T z) (i : Nat) : Tot T z c 1 creation i :=
  (tot_bind (tot_need S (by decide) i) fun _ j _ _ => tot_bind (tot_need S (by decide) j) fun _ j _ _ => tot_bind (tot_word S j) fun _ j _ _ => tot_bind (tot_need S (by decide) j) fun _ j _ hj => tot_ret _ _ hj).weak (by omega)
theorem tot_input (S : Sent T z) (i : Nat) : Tot T z c 1 input i :=
  (tot_bind (tot_need S (by decide) i) fun _ j _ _ => tot_bind (tot_need S (by decide) j) fun _ j _ _ => tot_bind (tot_need S (by decide) j) fun _ j _ hj => tot_ret _ _ hj).weak (by omega)
theorem tot_primary (S : Sent T z) (d i : Nat) (L : Later z c i) : Tot T z c 1 (primary d) i := by
  refine tot_peek (tot_ite (fun h => tot_next (tot_ret _ _ (by have := lt_kind S (by decide) h; omega))) fun _ => tot_ite (fun _ => tot_varOrCall S d i L) fun _ => ?_)
  refine tot_ite (fun h => tot_next (tot_ret _ _ (by have := lt_text S (by decide) h; omega))) fun _ => tot_ite (fun h => tot_next (tot_ret _ _ (by have := lt_text S (by decide) h; omega))) fun _ => tot_ite (fun h => tot_next (tot_ret _ _ (by have := lt_text S (by decide) h; omega))) fun _ => ?_
  exact tot_ite (fun _ => tot_creation S i) fun _ => tot_ite (fun _ => tot_input S i) fun _ => tot_ite (fun _ => tot_brack S d i L) fun _ => tot_fail _ _ _
theorem tot_fieldName (S : Sent T z) (i : Nat) : Tot T z c 1 fieldName i :=
  (tot_bind (tot_need S (by decide) i) fun _ _ _ _ => tot_word S _).weak (by omega)
theorem tot_postfix (S : Sent T z) (d i : Nat) (L : Later z c i) : Tot T z c 1 (postfix_ d) i :=
  (tot_bind (tot_primary S d i L) fun _ j _ hj => tot_call (L _ _ j (by first | trivial | exact Nat.le_refl 1 | exact Nat.succ_le_succ (Nat.zero_le _) | assumption) (by omega) hj) fun _ j _ hj => tot_ret _ _ hj).weak (by omega)
theorem tot_setting (S : Sent T z) (op : Nat) (h : Tree) (d i : Nat) (L : CallOK z c (.binary 1) d i) : Tot T z c 1 (setting op h d) i :=
  (tot_bind (tot_expr L) fun _ j _ _ => tot_bind (tot_need S (by decide) j) fun _ j _ hj => tot_ret _ _ hj).weak (by omega)
theorem tot_put (S : Sent T z) (h : Tree) (d i : Nat) (L : Later z c i) : Tot T z c 1 (put h d) i :=
  (tot_bind (tot_fieldName S i) fun _ j hj1 hj => tot_call (L _ _ j (by first | trivial | exact Nat.le_refl 1 | exact Nat.succ_le_succ (Nat.zero_le _) | assumption) (by omega) hj) fun _ j hj2 _ => tot_bind (tot_need S (by decide) j) fun _ j _ hj => tot_bind (tot_expr (L _ _ j (by first | trivial | exact Nat.le_refl 1 | exact Nat.succ_le_succ (Nat.zero_le _) | assumption) (by omega) hj)) fun _ j _ _ => tot_bind (tot_need S (by decide) j) fun _ j _ hj => tot_ret _ _ hj).weak (by omega)
theorem tot_simple (S : Sent T z) (d i : Nat) (L : Later z c i) : Tot T z c 1 (simple d) i := by
  refine tot_peek ((tot_bind (k2 := 0) (tot_primary S d i L) fun h j hij hj => tot_peek (tot_ite (fun g => ?_) fun _ => tot_ite (fun g => ?_) fun _ => tot_ite (fun g => ?_) fun _ => ?_)).weak (by omega))
  · exact (tot_next (tot_ret _ _ (by have := lt_text S (by decide) g.2.2; omega))).weak (by omega)
  · exact (tot_next (tot_setting S 7 h d _ (L _ _ _ (by first | trivial | exact Nat.le_refl 1 | exact Nat.succ_le_succ (Nat.zero_le _) | assumption) (by omega) (by have := lt_text S (by decide) g.2.2; omega)))).weak (by omega)
  · exact (tot_next (tot_setting S 8 h d _ (L _ _ _ (by first | trivial | exact Nat.le_refl 1 | exact Nat.succ_le_succ (Nat.zero_le _) | assumption) (by omega) (by have := lt_text S (by decide) g.2.2; omega)))).weak (by omega)
  · exact (tot_put S h d j (L.mono (by omega))).weak (by omega)
theorem tot_loop (S : Sent T z) (d i : Nat) (L : Later z c i) : Tot T z c 1 (loop d) i :=
  (tot_bind (tot_need S (by decide) i) fun _ j _ hj => tot_bind (tot_expr (L _ _ j (by first | trivial | exact Nat.le_refl 1 | exact Nat.succ_le_succ (Nat.zero_le _) | assumption) (by omega) hj)) fun _ j _ _ => tot_bind (tot_block S d j (L.mono (by omega))) fun _ j _ hj => tot_ret _ _ hj).weak (by omega)
theorem tot_print (S : Sent T z) (d i : Nat) (L : Later z c i) : Tot T z c 1 (print d) i :=
  (tot_bind (tot_need S (by decide) i) fun _ j _ _ => tot_bind (tot_brack S d j (L.mono (by omega))) fun _ j _ _ => tot_bind (tot_need S (by decide) j) fun _ j _ hj => tot_ret _ _ hj).weak (by omega)
theorem tot_giveBack (S : Sent T z) (d i : Nat) (L : Later z c i) : Tot T z c 1 (giveBack d) i :=
  (tot_bind (tot_need S (by decide) i) fun _ j _ hj => tot_bind (k1 := 0) (tot_peek (tot_ite (fun _ => tot_ret _ _ hj) fun _ => (tot_bind (tot_expr (L _ _ j (by first | trivial | exact Nat.le_refl 1 | exact Nat.succ_le_succ (Nat.zero_le _) | assumption) (by omega) hj)) fun _ j _ hj => tot_ret _ _ hj).weak (by omega))) fun _ j _ _ => tot_bind (tot_need S (by decide) j) fun _ j _ hj => tot_ret _ _ hj).weak (by omega)
theorem tot_other (S : Sent T z) (d i : Nat) (L : Later z c i) (h : CallOK z c .branch d i) : Tot T z c 1 (other d) i :=
  tot_peek (tot_ite (fun _ => tot_one h) fun _ => tot_block S d i L)
theorem tot_branch (S : Sent T z) (d i : Nat) (L : Later z c i) : Tot T z c 1 (branch d) i := by
  refine (tot_bind (tot_need S (by decide) i) fun _ j _ hj => tot_bind (tot_expr (L _ _ j (by first | trivial | exact Nat.le_refl 1 | exact Nat.succ_le_succ (Nat.zero_le _) | assumption) (by omega) hj)) fun _ j _ _ => tot_bind (k2 := 0) (tot_block S d j (L.mono (by omega))) fun _ j _ hj => tot_peek (tot_ite (fun h => ?_) fun _ => tot_ret _ _ hj)).weak (by omega)
  have hlt := lt_text S (by decide) h
  exact (tot_next (tot_bind (tot_other S d _ (L.mono (by omega)) (L _ _ _ (by first | trivial | exact Nat.le_refl 1 | exact Nat.succ_le_succ (Nat.zero_le _) | assumption) (by omega) (by omega))) fun _ j _ hj => tot_ret _ _ hj)).weak (by omega)
theorem tot_stmt (S : Sent T z) (d i : Nat) (L : Later z c i) (h : CallOK z c .branch d i) : Tot T z c 1 (stmt d) i :=
  tot_peek (tot_ite (fun _ => tot_one h) fun _ => tot_ite (fun _ => tot_loop S d i L) fun _ => tot_ite (fun _ => tot_print S d i L) fun _ => tot_ite (fun _ => tot_giveBack S d i L) fun _ => tot_simple S d i L)
theorem find_ne {l : List UInt8} {k n : Nat} (h : findN l k n ≠ 0) : ∃ j, k ≤ j ∧ j < k + n ∧ signTab.getD j [] = l := by
  induction n generalizing k with
  | zero => exact absurd rfl h
  | succ n ih =>
    rw [findN] at h
    split at h
    · exact ⟨k, by omega, by omega, by assumption⟩
    · obtain ⟨j, h1, h2, h3⟩ := ih h; exact ⟨j, by omega, by omega, h3⟩
theorem sign_ne' : ∀ k : Fin 19, 1 ≤ k.val → signTab.getD k.val [] ≠ [] := by decide
theorem sign_ne (k : Nat) (h : 1 ≤ k) (h2 : k < 19) : signTab.getD k [] ≠ [] := sign_ne' ⟨k, h2⟩ h
theorem find_some {l : List UInt8} {k n : Nat} (h1 : 1 ≤ k) (h2 : k + n ≤ 19) (h : findN l k n ≠ 0) : l ≠ [] := by
  obtain ⟨j, h3, h4, rfl⟩ := find_ne h
  exact sign_ne j (by omega) (by omega)
theorem lvl_some {l : List UInt8} (h : 0 < lvl l) : l ≠ [] := by
  rintro rfl
  exact absurd h (by decide)
theorem tot_unary (S : Sent T z) (d i : Nat) (L : Later z c i) : Tot T z c 1 (unary d) i :=
  tot_peek (tot_ite (fun _ => tot_postfix S d i L) fun h => (tot_bind (tot_enter S (find_some (by omega) (by omega) h) d i) fun _ j _ hj => tot_bind (tot_one (L _ _ j (by first | trivial | exact Nat.le_refl 1 | exact Nat.succ_le_succ (Nat.zero_le _) | assumption) (by omega) hj)) fun _ j _ hj => tot_ret _ _ hj).weak (by omega))
theorem tot_binary (l d i : Nat) (hl : 1 ≤ l) (L : Later z c i) (h : CallOK z c .unary d i) : Tot T z c 1 (binary l d) i :=
  (tot_call h fun _ j hj1 hj => tot_call (L _ _ j (by first | trivial | exact Nat.le_refl 1 | exact Nat.succ_le_succ (Nat.zero_le _) | assumption) (by simp [minc] at hj1; omega) hj) fun _ j _ hj => tot_ret _ _ hj).weak (by simp [minc])
theorem tot_single {p : Pr Tree} {i : Nat} (h : Tot T z c 1 p i) : Tot T z c 1 (single p) i := (tot_bind h fun _ j _ hj => tot_ret _ _ hj).weak (by omega)

theorem tot_body (S : Sent T z) (nt : NT) (d i : Nat) (hi : i ≤ z) (hl : okNT nt) (L : Later z c i) (h : ∀ nt', rank nt' < rank nt → okNT nt' → CallOK z c nt' d i) : Tot T z c (minc nt) (body nt d) i := by
  cases nt with
  | decls => exact tot_peek (tot_ite (fun _ => tot_ret _ _ hi) fun _ => (tot_bind (tot_decl S d i L) fun _ j _ hj => tot_call (L _ _ j (by first | trivial | exact Nat.le_refl 1 | exact Nat.succ_le_succ (Nat.zero_le _) | assumption) (by omega) hj) fun _ j _ hj => tot_ret _ _ hj).weak (by simp [minc]))
  | parts =>
    refine tot_peek (tot_ite (fun g => (tot_next (tot_ret _ _ (by have := lt_text S (by decide) g; omega)))) fun _ => ?_)
    exact (tot_bind (tot_named S 5 i) fun _ j _ hj => tot_call (L _ _ j (by first | trivial | exact Nat.le_refl 1 | exact Nat.succ_le_succ (Nat.zero_le _) | assumption) (by omega) hj) fun _ j _ hj => tot_ret _ _ hj).weak (by simp [minc])
  | params =>
    refine tot_peek (tot_ite (fun g => ?_) fun _ => ?_)
    · exact (tot_next (tot_bind (tot_typed S 5 _) fun _ j _ hj => tot_call (L _ _ j (by first | trivial | exact Nat.le_refl 1 | exact Nat.succ_le_succ (Nat.zero_le _) | assumption) (by omega) hj) fun _ j _ hj => tot_ret _ _ hj)).weak (by simp [minc])
    · exact (tot_bind (tot_need S (by decide) i) fun _ j _ hj => tot_ret _ _ hj).weak (by simp [minc])
  | stmts =>
    refine tot_peek (tot_ite (fun g => (tot_next (tot_ret _ _ (by have := lt_text S (by decide) g; omega)))) fun _ => ?_)
    exact (tot_call (h .stmt (by decide) trivial) fun _ j hj1 hj => tot_call (L _ _ j (by first | trivial | exact Nat.le_refl 1 | exact Nat.succ_le_succ (Nat.zero_le _) | assumption) (by simp [minc] at hj1; omega) hj) fun _ j _ hj => tot_ret _ _ hj).weak (by simp [minc])
  | stmt => exact tot_single (tot_stmt S d i L (h .branch (by decide) trivial))
  | branch => exact tot_single (tot_branch S d i L)
  | binary l => exact tot_single (tot_binary l d i hl L (h .unary Nat.zero_lt_one trivial))
  | tail l =>
    refine tot_peek (tot_ite (fun _ => tot_ret _ _ hi) fun g => ?_)
    have h1 : 1 ≤ l := hl
    have hlt := lt_text S (lvl_some (l := (T i).text) (by omega)) rfl
    exact (tot_next (tot_call (L _ _ _ (by first | trivial | exact Nat.le_refl 1 | exact Nat.succ_le_succ (Nat.zero_le _) | assumption) (by omega) (by omega)) fun _ j hj1 hj => tot_call (L _ _ j (by first | trivial | exact Nat.le_refl 1 | exact Nat.succ_le_succ (Nat.zero_le _) | assumption) (by omega) hj) fun _ j _ hj => tot_ret _ _ hj)).weak (by simp [minc])
  | unary => exact tot_single (tot_unary S d i L)
  | fields => exact tot_peek (tot_ite (fun _ => (tot_bind (tot_fieldName S i) fun _ j _ hj => tot_call (L _ _ j (by first | trivial | exact Nat.le_refl 1 | exact Nat.succ_le_succ (Nat.zero_le _) | assumption) (by omega) hj) fun _ j _ hj => tot_ret _ _ hj).weak (by simp [minc])) fun _ => tot_ret _ _ hi)
  | args =>
    refine tot_peek (tot_ite (fun g => ?_) fun _ => ?_)
    · have hlt := lt_text S (by decide) g
      exact (tot_next (tot_bind (tot_expr (L _ _ _ (by first | trivial | exact Nat.le_refl 1 | exact Nat.succ_le_succ (Nat.zero_le _) | assumption) (by omega) (by omega))) fun _ j _ hj => tot_call (L _ _ j (by first | trivial | exact Nat.le_refl 1 | exact Nat.succ_le_succ (Nat.zero_le _) | assumption) (by omega) hj) fun _ j _ hj => tot_ret _ _ hj)).weak (by simp [minc])
    · exact (tot_bind (tot_need S (by decide) i) fun _ j _ hj => tot_ret _ _ hj).weak (by simp [minc])
end

theorem P_total {T : Nat → AT} {z : Nat} (S : Sent T z) (n : Nat) : ∀ nt d i, okNT nt → i ≤ z → 4 * (z - i) + rank nt < n → CallOK z (P T n) nt d i := by
  induction n with
  | zero => intro nt d i _ _ h; omega
  | succ n ih =>
    intro nt d i hok hi hn
    have := tot_body S (c := P T n) nt d i hi hok (fun nt' d' j hok' h1 h2 => ih nt' d' j hok' h2 (by have := rank_le nt'; omega)) (fun nt' hr hok' => ih nt' d i hok' hi (by omega))
    exact this

end Go.Proofs.YtkahbhfbgdbnfaaGreatDoor

/-
  WORDS FOR MEMORY: a reader over tokens, a node and what stands below it, kids in a slice; what keeps them. No condition.
-/
namespace Go.Proofs.YtkahbhfbgdbnfaaGreatDoor
open Go.RowKit

/-- What stays while a source is read: the reader's block, the tokens' block and its room, how many tokens there are, the tokens and their places. -/
structure Env where
  rb : Nat
  lb : Nat
  cap : Nat
  z : Nat
  T : Nat → AT
  pl : Nat → Nat

def tokV (t : AT) (p : Nat) : Value := .agg #[.int .i64 t.kind, .string ⟨t.text.toArray⟩, .int .i64 p]
def nodeV (b : Nat) : Value := .agg #[.pointer (some ⟨b, 0, none⟩)]
def faultE (p e : Nat) : Ending := .panicked [{ v := .iface 67 (.agg #[.int .i64 p, .int .i64 e]), recovered := false }]

structure RD (E : Env) (w : World) (i d : Nat) : Prop where
  sent : Sent E.T E.z
  ne : E.lb ≠ E.rb
  cap : E.z + 1 ≤ E.cap
  zle : E.z ≤ 5000
  text : ∀ k, (E.T k).text.length ≤ 5000
  ple : ∀ k, E.pl k ≤ 5000
  lt : E.rb < w.heap.size
  llt : E.lb < w.heap.size
  c0 : w.cell? ⟨E.rb, 0, none⟩ = some (.slice (some ⟨E.lb, 0, none⟩) (E.z + 1) E.cap)
  c1 : w.cell? ⟨E.rb, 1, none⟩ = some (.int .i64 i)
  c2 : w.cell? ⟨E.rb, 2, none⟩ = some (.int .i64 d)
  fr : ∀ k, w.frozen? ⟨E.rb, k, none⟩ = false
  k0 : ∀ k, k ≤ E.z → w.cell? ⟨E.lb, k * 3, none⟩ = some (.int .i64 (E.T k).kind)
  k1 : ∀ k, k ≤ E.z → w.cell? ⟨E.lb, k * 3 + 1, none⟩ = some (.string ⟨(E.T k).text.toArray⟩)
  k2 : ∀ k, k ≤ E.z → w.cell? ⟨E.lb, k * 3 + 2, none⟩ = some (.int .i64 (E.pl k))
  ile : i ≤ E.z
  dle : d ≤ 40
  good : Good w
  rb8 : 8 ≤ E.rb
  nums : ∀ k, (E.T k).kind = 3 → (specP ⟨(E.T k).text.toArray⟩).1 = numN (E.T k).text

theorem kb_below {b : Nat} {w w' : World} (h : Below w.heap.size w w') : w.grownBy w' (some b) := ⟨h.os, h.tape, h.output, h.size, fun i hi _ => h.block i hi⟩
theorem kb_set (w : World) (a : Addr) (u : Value) : w.grownBy (w.setCell a u) (some a.block) :=
  ⟨rfl, rfl, rfl, by simp, fun i _ hne => Below.heap_setCell w a u i (fun e => hne (by rw [e]))⟩
theorem kb_refl (b : Nat) (w : World) : w.grownBy w (some b) := kb_below (Below.refl _ _)

theorem low_grown {w w' : World} {row : Option Nat} (hg : w.grownBy w' row) (hr : ∀ b, row = some b → 8 ≤ b) (hs : 8 ≤ w.heap.size) : Below 8 w w' := ⟨hg.os, hg.tape, hg.output, hg.size, fun k hk => hg.block k (Nat.lt_of_lt_of_le hk hs) (fun e => by have := hr k e.symm; omega)⟩
theorem RD.kept {E : Env} {w w' : World} {i d i' d' : Nat} (h : RD E w i d) (hg : w.grownBy w' (some E.rb)) (h0 : w'.cell? ⟨E.rb, 0, none⟩ = w.cell? ⟨E.rb, 0, none⟩) (h1 : w'.cell? ⟨E.rb, 1, none⟩ = some (.int .i64 i')) (h2 : w'.cell? ⟨E.rb, 2, none⟩ = some (.int .i64 d')) (hf : ∀ k, w'.frozen? ⟨E.rb, k, none⟩ = false) (hi : i' ≤ E.z) (hd : d' ≤ 40) : RD E w' i' d' :=
  have far : ∀ o, w'.cell? ⟨E.lb, o, none⟩ = w.cell? ⟨E.lb, o, none⟩ := fun o => hg.cell_far ⟨E.lb, o, none⟩ h.llt (fun e => h.ne (Option.some.inj e))
  { h with lt := Nat.lt_of_lt_of_le h.lt hg.size, llt := Nat.lt_of_lt_of_le h.llt hg.size, c0 := h0.trans h.c0, c1 := h1, c2 := h2, fr := hf, k0 := fun k hk => (far _).trans (h.k0 k hk), k1 := fun k hk => (far _).trans (h.k1 k hk), k2 := fun k hk => (far _).trans (h.k2 k hk), ile := hi, dle := hd, good := h.good.low (low_grown hg (fun b e => by obtain rfl := Option.some.inj e; exact h.rb8) h.good.size) }
theorem RD.below {E : Env} {w w' : World} {i d : Nat} (h : RD E w i d) (hb : Below w.heap.size w w') : RD E w' i d :=
  h.kept (kb_below hb) (hb.cell (p := ⟨E.rb, 0, none⟩) h.lt) ((hb.cell (p := ⟨E.rb, 1, none⟩) h.lt).trans h.c1) ((hb.cell (p := ⟨E.rb, 2, none⟩) h.lt).trans h.c2) (fun k => (hb.frozen (p := ⟨E.rb, k, none⟩) h.lt).trans (h.fr k)) h.ile h.dle
theorem RD.setI {E : Env} {w : World} {i d : Nat} (h : RD E w i d) (i' : Nat) (hi : i' ≤ E.z) : RD E (w.setCell ⟨E.rb, 1, none⟩ (.int .i64 i')) i' d := by
  refine h.kept (kb_set w _ _) ?_ ?_ ?_ ?_ hi h.dle
  · rw [World.cell?_setCell_other _ _ _ _ (by simp)]
  · rw [World.cell?_setCell_same _ _ _ h.c1]
  · rw [World.cell?_setCell_other _ _ _ _ (by simp)]; exact h.c2
  · intro k; rw [World.frozen?_setCell]; exact h.fr k
theorem RD.setD {E : Env} {w : World} {i d : Nat} (h : RD E w i d) (d' : Nat) (hd : d' ≤ 40) : RD E (w.setCell ⟨E.rb, 2, none⟩ (.int .i64 d')) i d' := by
  refine h.kept (kb_set w _ _) ?_ ?_ ?_ ?_ h.ile hd
  · rw [World.cell?_setCell_other _ _ _ _ (by simp)]
  · rw [World.cell?_setCell_other _ _ _ _ (by simp)]; exact h.c1
  · rw [World.cell?_setCell_same _ _ _ h.c2]
  · intro k; rw [World.frozen?_setCell]; exact h.fr k

/-- What may be reached stays as it was. -/
structure Keeps (ok : Nat → Prop) (w w' : World) : Prop where
  size : w.heap.size ≤ w'.heap.size
  blk : ∀ b, ok b → b < w.heap.size → w'.heap[b]? = w.heap[b]?
theorem Keeps.refl (ok : Nat → Prop) (w : World) : Keeps ok w w := ⟨Nat.le_refl _, fun _ _ _ => rfl⟩
theorem Keeps.trans {ok : Nat → Prop} {a b c : World} (h : Keeps ok a b) (k : Keeps ok b c) : Keeps ok a c := ⟨Nat.le_trans h.size k.size, fun x hx hl => (k.blk x hx (Nat.lt_of_lt_of_le hl h.size)).trans (h.blk x hx hl)⟩
theorem Keeps.below {ok : Nat → Prop} {w w' : World} (h : Below w.heap.size w w') : Keeps ok w w' := ⟨h.size, fun b _ hb => h.block b hb⟩
theorem Keeps.grown {ok : Nat → Prop} {w w' : World} {row : Option Nat} (h : w.grownBy w' row) (hr : ∀ b, row = some b → ¬ ok b) : Keeps ok w w' := ⟨h.size, fun b hb hl => h.block b hl (fun e => hr b e.symm hb)⟩
theorem Keeps.set {ok : Nat → Prop} (w : World) (a : Addr) (u : Value) (h : ¬ ok a.block) : Keeps ok w (w.setCell a u) := .grown (kb_set w a u) (fun b e hb => h (by rw [Option.some.inj e]; exact hb))
theorem Keeps.cell {ok : Nat → Prop} {w w' : World} (h : Keeps ok w w') {b : Nat} (hb : ok b) (hl : b < w.heap.size) (o : Nat) : w'.cell? ⟨b, o, none⟩ = w.cell? ⟨b, o, none⟩ := World.cell?_of_block (w := w) (h.blk b hb hl)

/-- The block b reads as that tree, and nobody who is not ok is in it. -/
inductive NodeAt (ok : Nat → Prop) (pl : Nat → Nat) (w : World) : Nat → Tree → Prop
  | mk {b op : Nat} {name typ : List UInt8} {n : Int} {pos : Nat} {kids : List Tree} (A : Option Addr) (c : Nat) (bs : List Nat)
      (hb : b < w.heap.size) (hok : ok b)
      (h0 : w.cell? ⟨b, 0, none⟩ = some (.int .i64 op)) (h1 : w.cell? ⟨b, 1, none⟩ = some (.string ⟨name.toArray⟩)) (h2 : w.cell? ⟨b, 2, none⟩ = some (.string ⟨typ.toArray⟩))
      (h3 : w.cell? ⟨b, 3, none⟩ = some (.int .i64 n)) (h4 : w.cell? ⟨b, 4, none⟩ = some (.int .i64 (pl pos))) (h5 : w.cell? ⟨b, 5, none⟩ = some (.slice A kids.length c))
      (hc : kids.length ≤ c) (hk : kids.length ≤ 6000) (hl : bs.length = kids.length)
      (hs : ∀ (k x : Nat), bs[k]? = some x → ∃ g, A = some ⟨g, 0, none⟩ ∧ g < w.heap.size ∧ ok g ∧ w.cell? ⟨g, k, none⟩ = some (.pointer (some ⟨x, 0, none⟩)))
      (ht : ∀ (k x : Nat) (t : Tree), bs[k]? = some x → kids[k]? = some t → NodeAt ok pl w x t) : NodeAt ok pl w b (.mk op name typ n pos kids)

theorem NodeAt.keep {ok ok' : Nat → Prop} {pl : Nat → Nat} {w w' : World} {b : Nat} {t : Tree} (h : NodeAt ok pl w b t) (hg : Keeps ok w w') (hok : ∀ b, ok b → b < w.heap.size → ok' b) : NodeAt ok' pl w' b t := by
  induction h with
  | mk A c bs hb hne h0 h1 h2 h3 h4 h5 hc hk hl hs ht ih =>
    refine .mk A c bs (Nat.lt_of_lt_of_le hb hg.size) (hok _ hne hb) ((hg.cell hne hb _).trans h0) ((hg.cell hne hb _).trans h1) ((hg.cell hne hb _).trans h2) ((hg.cell hne hb _).trans h3) ((hg.cell hne hb _).trans h4) ((hg.cell hne hb _).trans h5) hc hk hl ?_ ih
    intro k x hx
    obtain ⟨g, h6, h7, h8, h9⟩ := hs k x hx
    exact ⟨g, h6, Nat.lt_of_lt_of_le h7 hg.size, hok _ h8 h7, (hg.cell h8 h7 _).trans h9⟩
theorem NodeAt.kept {ok : Nat → Prop} {pl : Nat → Nat} {w w' : World} {b : Nat} {t : Tree} (h : NodeAt ok pl w b t) (hg : Keeps ok w w') : NodeAt ok pl w' b t := h.keep hg fun _ h _ => h
theorem NodeAt.weak {ok ok' : Nat → Prop} {pl : Nat → Nat} {w : World} {b : Nat} {t : Tree} (h : NodeAt ok pl w b t) (hok : ∀ b, ok b → b < w.heap.size → ok' b) : NodeAt ok' pl w b t := h.keep (Keeps.refl _ _) hok
theorem NodeAt.lt {ok : Nat → Prop} {pl : Nat → Nat} {w : World} {b : Nat} {t : Tree} (h : NodeAt ok pl w b t) : b < w.heap.size ∧ ok b := by
  cases h with
  | mk A c bs hb hne => exact ⟨hb, hne⟩

def ptrsOf (bs : List Nat) : List Value := bs.map fun b => .pointer (some ⟨b, 0, none⟩)
/-- A slice of the call's own reads as those trees. -/
def KidsIn (ok : Nat → Prop) (pl : Nat → Nat) (w : World) (v : Value) (n : Nat) (ts : List Tree) : Prop :=
  ∃ bs, w.ownsRow 0 25 1 v n (ptrsOf bs) ∧ bs.length = n ∧ ts.length = n ∧ (∀ g, v.ownBlock = some g → ok g) ∧ ∀ (k x : Nat) (t : Tree), bs[k]? = some x → ts[k]? = some t → NodeAt (fun b => ok b ∧ v.ownBlock ≠ some b) pl w x t
theorem KidsIn.keep {ok ok' : Nat → Prop} {pl : Nat → Nat} {w w' : World} {row : Option Nat} {v : Value} {n : Nat} {ts : List Tree} (h : KidsIn ok pl w v n ts) (hg : w.grownBy w' row) (hr : ∀ b, row = some b → ¬ ok b) (hok : ∀ b, ok b → b < w.heap.size → ok' b) : KidsIn ok' pl w' v n ts := by
  obtain ⟨bs, h1, h2, h3, h5, h4⟩ := h
  refine ⟨bs, h1.kept hg ?_, h2, h3, fun g hv => hok g (h5 g hv) (h1.lt g hv).2, fun k x t hx ht => (h4 k x t hx ht).keep (Keeps.grown hg fun b e hb => hr b e hb.1) fun b hb hl => ⟨hok b hb.1 hl, hb.2⟩⟩
  cases hv : v.ownBlock with
  | none => exact .inl rfl
  | some g => exact .inr (fun e => hr g e.symm (h5 g hv))
theorem KidsIn.nil (ok : Nat → Prop) (pl : Nat → Nat) (w : World) : KidsIn ok pl w (.slice none 0 0) 0 [] := ⟨[], World.ownsRow_nil _ _ _ _, rfl, rfl, (fun g h => by cases h), (fun k x t hx => by simp at hx)⟩

end Go.Proofs.YtkahbhfbgdbnfaaGreatDoor

/-
  CONTRACTS: the reader's smallest methods: peek, is, take, misfit, need, needWord, enter, leave. Nobody but the reader's own block has turned.
-/
namespace Go.Proofs.YtkahbhfbgdbnfaaGreatDoor
open Go.RowKit

set_option maxRecDepth 100000 in
set_option maxHeartbeats 400000 in
theorem peek_any (E : Env) (w : World) (i d : Nat) (h : RD E w i d) :
    Calls Tryz.prog 133 #[.pointer (some ⟨E.rb, 0, none⟩)] w fun e w' => e = .returned (tokV (E.T i) (E.pl i)) ∧ Below w.heap.size w w' := by
  have hi := h.ile
  have hz := h.zle
  have hcap := h.cap
  have c0 := h.c0
  have c1 := h.c1
  have k0 := h.k0 i hi
  have k1 := h.k1 i hi
  have k2 := h.k2 i hi
  have hlt : (i : Int) < (E.z : Int) + 1 := by omega
  have hr := h.lt
  have hl := h.llt
  clear h
  unfold tokV
  generalize (E.T i).text.toArray = tx at *
  generalize (E.T i).kind = kd at *
  generalize E.pl i = p at *
  generalize E.rb = rb at *
  generalize E.lb = lb at *
  generalize E.cap = cap at *
  generalize E.z = z at *
  go_enter Tryz.func133, Tryz.ntmps133
  go_wp2_with fail
  go_region
  go_wp2_with fail
  refine bodyPost_ret (v := .agg #[.int .i64 kd, .string ⟨tx⟩, .int .i64 p]) (by simp [results, Tryz.results133, go_sem]) rfl ⟨rfl, ?_⟩
  exact ((Below.refl _ _).alloc (Nat.le_refl _) _).drew

theorem tok_text : ∀ (k : Int) (s : ByteArray) (p : Int) (w : World), (Instr.field 108 (.agg #[.int .i64 k, .string s, .int .i64 p]) 1).run Tryz.prog w = .ok (.string s) w := fun _ _ _ _ => by kernel_rfl
theorem tok_kind : ∀ (k : Int) (s : ByteArray) (p : Int) (w : World), (Instr.field 108 (.agg #[.int .i64 k, .string s, .int .i64 p]) 0).run Tryz.prog w = .ok (.int .i64 k) w := fun _ _ _ _ => by kernel_rfl
theorem tok_at : ∀ (k : Int) (s : ByteArray) (p : Int) (w : World), (Instr.field 108 (.agg #[.int .i64 k, .string s, .int .i64 p]) 2).run Tryz.prog w = .ok (.int .i64 p) w := fun _ _ _ _ => by kernel_rfl
theorem list_ext {l : List UInt8} {s : ByteArray} (h : l = s.data.toList) : (⟨l.toArray⟩ : ByteArray) = s := by rw [h]
theorem list_ne {l : List UInt8} {s : ByteArray} (h : ¬ l = s.data.toList) : (l == s.toList) = false := by
  rw [ByteArray.toList_eq]; simpa using h

set_option maxRecDepth 100000 in
set_option maxHeartbeats 400000 in
theorem is_yes (E : Env) (w : World) (i d : Nat) (s : ByteArray) (h : RD E w i d) (ht : Hid ((E.T i).text = s.data.toList)) :
    Calls Tryz.prog 126 #[.pointer (some ⟨E.rb, 0, none⟩), .string s] w fun e w' => e = .returned (.bool true) ∧ Below w.heap.size w w' := by
  have HP := Lib.hid (peek_any E w i d h)
  clear h
  have hf := tok_text
  go_enter Tryz.func126, Tryz.ntmps126
  go_wp2_with fail
  refine HP.out.mono ?_
  rintro e w' ⟨rfl, hb⟩
  unfold tokV
  rw [list_ext ht.out]
  clear HP
  go_wp2_with fail
  go_ret
  exact ⟨rfl, hb⟩

set_option maxRecDepth 100000 in
set_option maxHeartbeats 400000 in
theorem is_no (E : Env) (w : World) (i d : Nat) (s : ByteArray) (h : RD E w i d) (ht : Hid (¬ (E.T i).text = s.data.toList)) :
    Calls Tryz.prog 126 #[.pointer (some ⟨E.rb, 0, none⟩), .string s] w fun e w' => e = .returned (.bool false) ∧ Below w.heap.size w w' := by
  have HP := Lib.hid (peek_any E w i d h)
  have hn := list_ne ht.out
  clear h
  have hf := tok_text
  go_enter Tryz.func126, Tryz.ntmps126
  go_wp2_with fail
  refine HP.out.mono ?_
  rintro e w' ⟨rfl, hb⟩
  unfold tokV
  clear HP
  generalize (E.T i).text = tx at *
  go_wp2_with fail
  go_ret
  exact ⟨rfl, hb⟩

/-- The reader stands at i, at the depth d; nobody else has turned. -/
def ST (E : Env) (w w' : World) (i d : Nat) : Prop := RD E w' i d ∧ w.grownBy w' (some E.rb)
theorem ST.refl {E : Env} {w : World} {i d : Nat} (h : RD E w i d) : ST E w w i d := ⟨h, kb_refl _ _⟩
theorem ST.below {E : Env} {w0 w w' : World} {i d : Nat} (h : ST E w0 w i d) (hb : Below w.heap.size w w') : ST E w0 w' i d := ⟨h.1.below hb, h.2.trans (kb_below hb)⟩
theorem ST.trans {E : Env} {w0 w w' : World} {i d i' d' : Nat} (h : ST E w0 w i d) (h' : ST E w w' i' d') : ST E w0 w' i' d' := ⟨h'.1, h.2.trans h'.2⟩
theorem ST.setI {E : Env} {w0 w : World} {i d : Nat} (h : ST E w0 w i d) (i' : Nat) (hi : i' ≤ E.z) : ST E w0 (w.setCell ⟨E.rb, 1, none⟩ (.int .i64 i')) i' d := ⟨h.1.setI i' hi, h.2.trans (kb_set w ⟨E.rb, 1, none⟩ _)⟩
theorem ST.setD {E : Env} {w0 w : World} {i d : Nat} (h : ST E w0 w i d) (d' : Nat) (hd : d' ≤ 40) : ST E w0 (w.setCell ⟨E.rb, 2, none⟩ (.int .i64 d')) i d' := ⟨h.1.setD d' hd, h.2.trans (kb_set w ⟨E.rb, 2, none⟩ _)⟩
theorem b1 (w : World) (o : Obj) : Below w.heap.size w (w.alloc o) := (Below.refl _ _).alloc (Nat.le_refl _) _

set_option maxRecDepth 100000 in
set_option maxHeartbeats 400000 in
theorem take_yes (E : Env) (w : World) (i d : Nat) (s : ByteArray) (h : RD E w i d) (ht : Hid ((E.T i).text = s.data.toList)) (hs : Hid (s.data.toList ≠ [])) :
    Calls Tryz.prog 89 #[.pointer (some ⟨E.rb, 0, none⟩), .string s] w fun e w' => e = .returned (.bool true) ∧ ST E w w' (i + 1) d := by
  have HI := Lib.hid (is_yes E w i d s h ht)
  have hlt := lt_text h.sent hs.out ht.out
  have hz := h.zle
  have H := Lib.hid h
  clear h ht
  go_enter Tryz.func89, Tryz.ntmps89
  go_wp2_with fail
  refine HI.out.mono ?_
  rintro e w' ⟨rfl, hb⟩
  clear HI
  have R := H.out.below hb
  have c1 := R.c1
  have c2 := R.fr 1
  have HR := Lib.hid R
  clear R
  go_wp2_with fail
  go_ret
  refine ⟨rfl, ?_⟩
  have := (ST.below (ST.refl H.out) hb).setI (i + 1) (by omega)
  exact this

set_option maxRecDepth 100000 in
set_option maxHeartbeats 400000 in
theorem take_no (E : Env) (w : World) (i d : Nat) (s : ByteArray) (h : RD E w i d) (ht : Hid (¬ (E.T i).text = s.data.toList)) :
    Calls Tryz.prog 89 #[.pointer (some ⟨E.rb, 0, none⟩), .string s] w fun e w' => e = .returned (.bool false) ∧ Below w.heap.size w w' := by
  have HI := Lib.hid (is_no E w i d s h ht)
  clear h ht
  go_enter Tryz.func89, Tryz.ntmps89
  go_wp2_with fail
  refine HI.out.mono ?_
  rintro e w' ⟨rfl, hb⟩
  clear HI
  go_wp2_with fail
  go_ret
  exact ⟨rfl, hb⟩

set_option maxRecDepth 100000 in
set_option maxHeartbeats 400000 in
theorem misfit_any (E : Env) (w : World) (i d : Nat) (h : RD E w i d) :
    Calls Tryz.prog 93 #[.pointer (some ⟨E.rb, 0, none⟩)] w fun e w' => e = .returned (.agg #[.int .i64 (E.pl i), .int .i64 1]) ∧ Below w.heap.size w w' := by
  have HP := Lib.hid (peek_any E _ i d (h.below (b1 w (.cells #[.int .i64 0, .int .i64 0] 67))))
  have hf := tok_at
  clear h
  go_enter Tryz.func93, Tryz.ntmps93
  go_wp2_with fail
  refine HP.out.mono ?_
  rintro e w' ⟨rfl, hb⟩
  unfold tokV
  clear HP
  have hb1 := (b1 w (.cells #[.int .i64 0, .int .i64 0] 67)).trans (hb.mono (by simp))
  have hc : w'.cell? ⟨w.heap.size, 0, none⟩ = some (.int .i64 0) := (hb.cell (p := ⟨w.heap.size, 0, none⟩) (by simp)).trans (by simp [go_sem])
  have hc1 : w'.cell? ⟨w.heap.size, 1, none⟩ = some (.int .i64 0) := (hb.cell (p := ⟨w.heap.size, 1, none⟩) (by simp)).trans (by simp [go_sem])
  have hfz : w'.frozen? ⟨w.heap.size, 0, none⟩ = false := (hb.frozen (p := ⟨w.heap.size, 0, none⟩) (by simp)).trans (by simp [go_sem])
  have hfz1 : w'.frozen? ⟨w.heap.size, 1, none⟩ = false := (hb.frozen (p := ⟨w.heap.size, 1, none⟩) (by simp)).trans (by simp [go_sem])
  clear hb
  go_wp2_with fail
  refine bodyPost_ret (v := .agg #[.int .i64 (E.pl i), .int .i64 1]) (by simp [results, Tryz.results93, go_sem, hc, hc1]) rfl ⟨rfl, ?_⟩
  exact (hb1.setCell (p := ⟨w.heap.size, 0, none⟩) (Nat.le_refl _) _).setCell (p := ⟨w.heap.size, 1, none⟩) (Nat.le_refl _) _

end Go.Proofs.YtkahbhfbgdbnfaaGreatDoor

/-
  CONTRACTS: the reader's methods need, needWord, enter, leave, and newNode. Nobody but the reader's own block has turned.
-/
namespace Go.Proofs.YtkahbhfbgdbnfaaGreatDoor
open Go.RowKit

/-- What a method of the reader answers: what V says of the value, and the reader stands where it should; or it has thrown what is wrong. -/
def Q {α : Type} (E : Env) (w : World) (d : Nat) (V : α → Value → World → Prop) (r : Res α) (e : Ending) (w' : World) : Prop := match r with
  | .ok a j => ∃ v, e = .returned v ∧ V a v w' ∧ ST E w w' j d
  | .bad j er => e = faultE (E.pl j) er ∧ w.grownBy w' (some E.rb)
def VT (E : Env) (p : Nat) (v : Value) (_ : World) : Prop := v = tokV (E.T p) (E.pl p)
def VW (E : Env) (p : Nat × List UInt8) (v : Value) (_ : World) : Prop := v = tokV (E.T p.1) (E.pl p.1) ∧ (E.T p.1).text = p.2
def VS (s : List UInt8) (v : Value) (_ : World) : Prop := v = .string ⟨s.toArray⟩
/-- A node of blocks from lo on. -/
def VN (E : Env) (lo : Nat) (t : Tree) (v : Value) (w' : World) : Prop := ∃ b, v = nodeV b ∧ NodeAt (fun x => lo ≤ x) E.pl w' b t
def VL (E : Env) (lo : Nat) (ts : List Tree) (v : Value) (w' : World) : Prop := ts.length ≤ 5001 ∧ KidsIn (fun x => lo ≤ x) E.pl w' v ts.length ts

theorem then_cases {α β : Type} {x : Option (Res α)} {f : α → Nat → Option (Res β)} {r : Res β} (h : then_ x f = some r) : (∃ j e, x = some (.bad j e) ∧ r = .bad j e) ∨ (∃ a j, x = some (.ok a j) ∧ f a j = some r) := by
  cases x with
  | none => cases h
  | some x => cases x with
    | ok a j => exact .inr ⟨a, j, rfl, h⟩
    | bad j e => exact .inl ⟨j, e, rfl, (Option.some.inj h).symm⟩
theorem bind_cases {α β : Type} {T : Nat → AT} {c : Callee} {p : Pr α} {f : α → Pr β} {i : Nat} {r : Res β} (h : runW T c (p.bind f) i = some r) : (∃ j e, runW T c p i = some (.bad j e) ∧ r = .bad j e) ∨ (∃ a j, runW T c p i = some (.ok a j) ∧ runW T c (f a) j = some r) := by
  rw [runW_bind] at h; exact then_cases h
theorem call_cases {α : Type} {T : Nat → AT} {c : Callee} {nt : NT} {d : Nat} {f : List Tree → Pr α} {i : Nat} {r : Res α} (h : runW T c (.call nt d f) i = some r) : (∃ j e, c nt d i = some (.bad j e) ∧ r = .bad j e) ∨ (∃ a j, c nt d i = some (.ok a j) ∧ runW T c (f a) j = some r) := by
  unfold runW at h
  cases hx : c nt d i with
  | none => rw [hx] at h; cases h
  | some x => cases x with
    | ok a j => rw [hx] at h; exact .inr ⟨a, j, rfl, h⟩
    | bad j e => rw [hx] at h; exact .inl ⟨j, e, rfl, (Option.some.inj h).symm⟩
theorem run_need_yes {T : Nat → AT} {c : Callee} {s : List UInt8} {i : Nat} (h : (T i).text = s) : runW T c (need s) i = some (.ok i (i + 1)) := by simp only [need, runW, if_pos h]
theorem run_need_no {T : Nat → AT} {c : Callee} {s : List UInt8} {i : Nat} (h : ¬ (T i).text = s) : runW T c (need s) i = some (.bad i 1) := by simp only [need, runW, if_neg h]

theorem far {rb : Nat} {w w' : World} (hg : w.grownBy w' (some rb)) {b : Nat} (hlt : b < w.heap.size) (hne : b ≠ rb) (o : Nat) : w'.cell? ⟨b, o, none⟩ = w.cell? ⟨b, o, none⟩ := hg.cell_far ⟨b, o, none⟩ hlt (fun e => hne (Option.some.inj e))
theorem farF {rb : Nat} {w w' : World} (hg : w.grownBy w' (some rb)) {b : Nat} (hlt : b < w.heap.size) (hne : b ≠ rb) (o : Nat) : w'.frozen? ⟨b, o, none⟩ = w.frozen? ⟨b, o, none⟩ := hg.frozen_far ⟨b, o, none⟩ hlt (fun e => hne (Option.some.inj e))

/-- A token's three cells lie at b, and may be written. -/
structure TokAt (w : World) (b : Nat) (k : Int) (s : ByteArray) (p : Int) : Prop where
  lt : b < w.heap.size
  c0 : w.cell? ⟨b, 0, none⟩ = some (.int .i64 k)
  c1 : w.cell? ⟨b, 1, none⟩ = some (.string s)
  c2 : w.cell? ⟨b, 2, none⟩ = some (.int .i64 p)
  f0 : w.frozen? ⟨b, 0, none⟩ = false
  f1 : w.frozen? ⟨b, 1, none⟩ = false
  f2 : w.frozen? ⟨b, 2, none⟩ = false
theorem TokAt.new (w : World) (k : Int) (s : ByteArray) (p : Int) : TokAt (w.alloc (.cells #[.int .i64 k, .string s, .int .i64 p] 108)) w.heap.size k s p := by
  refine ⟨by simp, ?_, ?_, ?_, ?_, ?_, ?_⟩ <;> simp [go_sem]
theorem TokAt.kept {w w' : World} {b rb : Nat} {k : Int} {s : ByteArray} {p : Int} (h : TokAt w b k s p) (hg : w.grownBy w' (some rb)) (hne : b ≠ rb) : TokAt w' b k s p :=
  ⟨Nat.lt_of_lt_of_le h.lt hg.size, (far hg h.lt hne _).trans h.c0, (far hg h.lt hne _).trans h.c1, (far hg h.lt hne _).trans h.c2, (farF hg h.lt hne _).trans h.f0, (farF hg h.lt hne _).trans h.f1, (farF hg h.lt hne _).trans h.f2⟩
theorem TokAt.below {w w' : World} {b : Nat} {k : Int} {s : ByteArray} {p : Int} (h : TokAt w b k s p) (hb : Below w.heap.size w w') : TokAt w' b k s p :=
  h.kept (rb := b + 1) (kb_below hb) (by omega)
/-- A node's one cell lies at b, and may be written. -/
structure PtrAt (w : World) (b : Nat) (x : Option Addr) : Prop where
  lt : b < w.heap.size
  c0 : w.cell? ⟨b, 0, none⟩ = some (.pointer x)
  f0 : w.frozen? ⟨b, 0, none⟩ = false
theorem PtrAt.new (w : World) (x : Option Addr) : PtrAt (w.alloc (.cells #[.pointer x] 25)) w.heap.size x := by
  refine ⟨by simp, ?_, ?_⟩ <;> simp [go_sem]
theorem PtrAt.kept {w w' : World} {b rb : Nat} {x : Option Addr} (h : PtrAt w b x) (hg : w.grownBy w' (some rb)) (hne : b ≠ rb) : PtrAt w' b x :=
  ⟨Nat.lt_of_lt_of_le h.lt hg.size, (far hg h.lt hne _).trans h.c0, (farF hg h.lt hne _).trans h.f0⟩
theorem PtrAt.below {w w' : World} {b : Nat} {x : Option Addr} (h : PtrAt w b x) (hb : Below w.heap.size w w') : PtrAt w' b x := h.kept (rb := b + 1) (kb_below hb) (by omega)

theorem kb_then {a b c : World} {row row' : Option Nat} (h : a.grownBy b row) (k : b.grownBy c row') (hr : ∀ j, row' = some j → a.heap.size ≤ j ∨ row = some j) : a.grownBy c row :=
  ⟨k.os.trans h.os, k.tape.trans h.tape, k.output.trans h.output, Nat.le_trans h.size k.size, fun i hi hne => (k.block i (Nat.lt_of_lt_of_le hi h.size) (fun e => (hr i e.symm).elim (fun g => absurd hi (by omega)) (fun g => hne g.symm))).trans (h.block i hi hne)⟩
/-- A store into a block that is younger than the call. -/
theorem ST.set {E : Env} {w0 w : World} {i0 d0 i d : Nat} (R0 : RD E w0 i0 d0) (h : ST E w0 w i d) (b o : Nat) (hb : w0.heap.size ≤ b) (u : Value) : ST E w0 (w.setCell ⟨b, o, none⟩ u) i d := by
  have hr : E.rb ≠ b := by have := R0.lt; omega
  have hl : E.lb ≠ b := by have := R0.llt; omega
  have g := kb_set w ⟨b, o, none⟩ u
  have c : ∀ x o', x ≠ b → (w.setCell ⟨b, o, none⟩ u).cell? ⟨x, o', none⟩ = w.cell? ⟨x, o', none⟩ := fun x o' hx => World.cell?_setCell_other _ _ _ _ (fun e => hx (congrArg Addr.block e).symm)
  refine ⟨?_, ?_⟩
  · exact { h.1 with lt := Nat.lt_of_lt_of_le h.1.lt g.size, llt := Nat.lt_of_lt_of_le h.1.llt g.size, c0 := (c _ _ hr).trans h.1.c0, c1 := (c _ _ hr).trans h.1.c1, c2 := (c _ _ hr).trans h.1.c2, fr := fun k => (World.frozen?_setCell _ _ _ _).trans (h.1.fr k), k0 := fun k hk => (c _ _ hl).trans (h.1.k0 k hk), k1 := fun k hk => (c _ _ hl).trans (h.1.k1 k hk), k2 := fun k hk => (c _ _ hl).trans (h.1.k2 k hk), good := h.1.good.low (low_grown g (fun x e => by have h9 : b = x := Option.some.inj e; have := R0.good.size; omega) h.1.good.size) }
  · exact kb_then h.2 g (fun j e => .inl (by obtain rfl := Option.some.inj e; exact hb))

set_option maxRecDepth 100000 in
set_option maxHeartbeats 400000 in
theorem need_any (E : Env) (w : World) (i d : Nat) (s : ByteArray) (c : Callee) (r : Res Nat) (h : RD E w i d) (hs : Hid (s.data.toList ≠ [])) (hr : Hid (runW E.T c (need s.data.toList) i = some r)) :
    Calls Tryz.prog 128 #[.pointer (some ⟨E.rb, 0, none⟩), .string s] w (Q E w d (VT E) r) := by
  have R0 := h.below (b1 w (.cells #[.int .i64 0, .string ⟨#[]⟩, .int .i64 0] 108))
  have HP := Lib.hid (peek_any E _ i d R0)
  have H0 := Lib.hid h
  have H := Lib.hid R0
  clear h R0
  by_cases ht : (E.T i).text = s.data.toList
  · have HQ : Hid (r = .ok i (i + 1)) := by
      have := hr.out; rw [run_need_yes ht] at this; exact (Option.some.inj this).symm
    have HT := Lib.hid ht
    clear ht hr
    go_enter Tryz.func128, Tryz.ntmps128
    go_wp2_with fail
    refine HP.out.mono ?_
    rintro e w1 ⟨rfl, hb1⟩
    clear HP
    unfold tokV
    have S1 := ((ST.below (ST.refl H0.out) (b1 w _)).below hb1).below (b1 w1 (.cells #[.int .i64 (E.T i).kind, .string ⟨(E.T i).text.toArray⟩, .int .i64 (E.pl i)] 108))
    have HT1 := Lib.hid (take_yes E _ i d s S1.1 HT hs)
    have A1 := ((TokAt.new w 0 ⟨#[]⟩ 0).below hb1).below (b1 w1 (.cells #[.int .i64 (E.T i).kind, .string ⟨(E.T i).text.toArray⟩, .int .i64 (E.pl i)] 108))
    have A2 := TokAt.new w1 (E.T i).kind ⟨(E.T i).text.toArray⟩ (E.pl i)
    have hs1 : w.heap.size < w1.heap.size := by have := hb1.size; simp at this; omega
    have hr1 := H0.out.lt
    have q0 := (hb1.cell (p := ⟨w.heap.size, 0, none⟩) (by simp)).trans (TokAt.new w 0 ⟨#[]⟩ 0).c0
    have HA1 := Lib.hid A1
    have HA2 := Lib.hid A2
    have HS1 := Lib.hid S1
    clear A1 A2 S1 hb1 q0
    go_wp2_with fail
    refine HT1.out.mono ?_
    rintro e w2 ⟨rfl, hs2⟩
    clear HT1
    have A1 := HA1.out.kept hs2.2 (by omega)
    have A2 := HA2.out.kept hs2.2 (by omega)
    have S2 := Lib.hid (HS1.out.trans hs2)
    obtain ⟨l1, c0, c1, c2, f0, f1, f2⟩ := A1
    obtain ⟨l2, c3, c4, c5, -, -, -⟩ := A2
    clear hs2 HA1 HA2 HS1
    have hne : ¬ w1.heap.size = w.heap.size := by omega
    go_wp2_with fail
    refine bodyPost_ret (v := tokV (E.T i) (E.pl i)) ?_ rfl ?_
    · rw [show (tokV (E.T i) (E.pl i)) = .agg #[.int .i64 (E.T i).kind, .string ⟨(E.T i).text.toArray⟩, .int .i64 (E.pl i)] from rfl]
      simp [results, Tryz.results128, go_sem, c0, c1, c2]
    · rw [HQ.out]
      exact ⟨_, rfl, rfl, ST.set H0.out (ST.set H0.out (ST.set H0.out S2.out _ _ (Nat.le_refl _) _) _ _ (Nat.le_refl _) _) _ _ (Nat.le_refl _) _⟩
  · have HQ : Hid (r = .bad i 1) := by
      have := hr.out; rw [run_need_no ht] at this; exact (Option.some.inj this).symm
    have HT := Lib.hid ht
    clear ht hr
    go_enter Tryz.func128, Tryz.ntmps128
    go_wp2_with fail
    refine HP.out.mono ?_
    rintro e w1 ⟨rfl, hb1⟩
    clear HP
    unfold tokV
    have S1 := ((ST.below (ST.refl H0.out) (b1 w _)).below hb1).below (b1 w1 (.cells #[.int .i64 (E.T i).kind, .string ⟨(E.T i).text.toArray⟩, .int .i64 (E.pl i)] 108))
    have HT1 := Lib.hid (take_no E _ i d s S1.1 HT)
    have HS1 := Lib.hid S1
    clear S1 hb1
    go_wp2_with fail
    refine HT1.out.mono ?_
    rintro e w2 ⟨rfl, hb2⟩
    clear HT1
    have S2 := HS1.out.below hb2
    have HM := Lib.hid (misfit_any E _ i d S2.1)
    have HS2 := Lib.hid S2
    clear S2 hb2
    go_wp2_with fail
    refine HM.out.mono ?_
    rintro e w3 ⟨rfl, hb3⟩
    clear HM
    go_wp2_with fail
    refine ⟨rfl, ?_⟩
    rw [HQ.out]
    exact ⟨rfl, (HS2.out.below hb3).2⟩

theorem run_word_yes {T : Nat → AT} {c : Callee} {i : Nat} (h : (T i).kind = 1) : runW T c word i = some (.ok (i, (T i).text) (i + 1)) := by simp only [word, runW, if_pos h]
theorem run_word_no {T : Nat → AT} {c : Callee} {i : Nat} (h : ¬ (T i).kind = 1) : runW T c word i = some (.bad i 1) := by simp only [word, runW, if_neg h]

set_option maxRecDepth 100000 in
set_option maxHeartbeats 400000 in
theorem word_any (E : Env) (w : World) (i d : Nat) (c : Callee) (r : Res (Nat × List UInt8)) (h : RD E w i d) (hr : Hid (runW E.T c word i = some r)) :
    Calls Tryz.prog 127 #[.pointer (some ⟨E.rb, 0, none⟩)] w (Q E w d (VW E) r) := by
  have R0 := h.below (b1 w (.cells #[.int .i64 0, .string ⟨#[]⟩, .int .i64 0] 108))
  have HP := Lib.hid (peek_any E _ i d R0)
  have H0 := Lib.hid h
  clear h R0
  by_cases ht : (E.T i).kind = 1
  · have HQ : Hid (r = .ok (i, (E.T i).text) (i + 1)) := by
      have := hr.out; rw [run_word_yes ht] at this; exact (Option.some.inj this).symm
    have hlt := lt_kind H0.out.sent (by decide) ht
    have hz := H0.out.zle
    have HT := Lib.hid ht
    clear ht hr
    go_enter Tryz.func127, Tryz.ntmps127
    go_wp2_with fail
    refine HP.out.mono ?_
    rintro e w1 ⟨rfl, hb1⟩
    clear HP
    unfold tokV
    rw [HT.out]
    have S1 := ((ST.below (ST.refl H0.out) (b1 w _)).below hb1).below (b1 w1 (.cells #[.int .i64 1, .string ⟨(E.T i).text.toArray⟩, .int .i64 (E.pl i)] 108))
    have A1 := ((TokAt.new w 0 ⟨#[]⟩ 0).below hb1).below (b1 w1 (.cells #[.int .i64 1, .string ⟨(E.T i).text.toArray⟩, .int .i64 (E.pl i)] 108))
    have A2 := TokAt.new w1 1 ⟨(E.T i).text.toArray⟩ (E.pl i)
    have hs1 : w.heap.size < w1.heap.size := by have := hb1.size; simp at this; omega
    have hr1 := H0.out.lt
    have HS1 := Lib.hid S1
    obtain ⟨l1, c0, c1, c2, f0, f1, f2⟩ := A1
    obtain ⟨l2, c3, c4, c5, -, -, -⟩ := A2
    have r1 := S1.1.c1
    have r2 := S1.1.fr 1
    clear S1 hb1
    have hne : ¬ w1.heap.size = w.heap.size := by omega
    have hne2 : ¬ w.heap.size = E.rb := by omega
    have hne3 : ¬ w1.heap.size = E.rb := by omega
    go_wp2_with fail
    refine bodyPost_ret (v := tokV (E.T i) (E.pl i)) ?_ rfl ?_
    · rw [show (tokV (E.T i) (E.pl i)) = .agg #[.int .i64 (E.T i).kind, .string ⟨(E.T i).text.toArray⟩, .int .i64 (E.pl i)] from rfl, HT.out]
      simp [results, Tryz.results127, go_sem, c0, c1, c2]
    · rw [HQ.out]
      exact ⟨_, rfl, ⟨rfl, rfl⟩, ST.set H0.out (ST.set H0.out (ST.set H0.out (HS1.out.setI (i + 1) (by omega)) _ _ (Nat.le_refl _) _) _ _ (Nat.le_refl _) _) _ _ (Nat.le_refl _) _⟩
  · have HQ : Hid (r = .bad i 1) := by
      have := hr.out; rw [run_word_no ht] at this; exact (Option.some.inj this).symm
    have hk : (((E.T i).kind : Int) != 1) = true := by simp; omega
    clear ht hr
    go_enter Tryz.func127, Tryz.ntmps127
    go_wp2_with fail
    refine HP.out.mono ?_
    rintro e w1 ⟨rfl, hb1⟩
    clear HP
    unfold tokV
    have S1 := ((ST.below (ST.refl H0.out) (b1 w _)).below hb1).below (b1 w1 (.cells #[.int .i64 (E.T i).kind, .string ⟨(E.T i).text.toArray⟩, .int .i64 (E.pl i)] 108))
    have HM := Lib.hid (misfit_any E _ i d S1.1)
    have HS2 := Lib.hid S1
    obtain ⟨l2, c3, c4, c5, -, -, -⟩ := TokAt.new w1 (E.T i).kind ⟨(E.T i).text.toArray⟩ (E.pl i)
    clear S1 hb1
    go_wp2_with fail
    refine HM.out.mono ?_
    rintro e w3 ⟨rfl, hb3⟩
    clear HM
    go_wp2_with fail
    refine ⟨rfl, ?_⟩
    rw [HQ.out]
    exact ⟨rfl, (HS2.out.below hb3).2⟩

theorem run_enter_no {T : Nat → AT} {c : Callee} {s : List UInt8} {d i : Nat} (h : ¬ (T i).text = s) : runW T c (enter d s) i = some (.bad i 1) := by simp only [enter, runW, if_neg h]
theorem run_enter_deep {T : Nat → AT} {c : Callee} {s : List UInt8} {i : Nat} (h : (T i).text = s) : runW T c (enter 40 s) i = some (.bad i 3) := by simp only [enter, runW, if_pos h, if_true]
theorem run_enter_yes {T : Nat → AT} {c : Callee} {s : List UInt8} {d i : Nat} (h : (T i).text = s) (hd : ¬ d = 40) : runW T c (enter d s) i = some (.ok i (i + 1)) := by simp only [enter, runW, if_pos h, if_neg hd]

set_option maxRecDepth 100000 in
set_option maxHeartbeats 400000 in
/-- enter hands back its token one deeper; leave is met apart. -/
theorem enter_any (E : Env) (w : World) (i d : Nat) (s : ByteArray) (c : Callee) (r : Res Nat) (h : RD E w i d) (hs : Hid (s.data.toList ≠ [])) (hr : Hid (runW E.T c (enter d s.data.toList) i = some r)) :
    Calls Tryz.prog 163 #[.pointer (some ⟨E.rb, 0, none⟩), .string s] w (Q E w (d + 1) (VT E) r) := by
  have R0 := h.below (b1 w (.cells #[.int .i64 0, .string ⟨#[]⟩, .int .i64 0] 108))
  have H0 := Lib.hid h
  have H := Lib.hid R0
  clear h R0
  by_cases ht : (E.T i).text = s.data.toList
  · have HN := Lib.hid (need_any E _ i d s c (.ok i (i + 1)) H.out hs (run_need_yes ht))
    by_cases hd : d = 40
    · have HQ : Hid (r = .bad i 3) := by
        have := hr.out; rw [hd, run_enter_deep ht] at this; exact (Option.some.inj this).symm
      have hdi : (d : Int) = 40 := by omega
      have HD := Lib.hid hdi
      clear ht hr hd hdi
      go_enter Tryz.func163, Tryz.ntmps163
      go_wp2_with fail
      refine HN.out.mono ?_
      rintro e w1 ⟨v, rfl, hv, hst⟩
      obtain rfl := hv
      clear HN
      unfold tokV
      have S1 := (ST.below (ST.refl H0.out) (b1 w _)).trans hst
      have S2 := S1.below (b1 w1 (.cells #[.int .i64 (E.T i).kind, .string ⟨(E.T i).text.toArray⟩, .int .i64 (E.pl i)] 108))
      have r2 := S2.1.c2
      rw [HD.out] at r2
      obtain ⟨l2, c3, c4, c5, -, -, -⟩ := TokAt.new w1 (E.T i).kind ⟨(E.T i).text.toArray⟩ (E.pl i)
      have HS2 := Lib.hid S2
      clear S1 S2 hst
      go_wp2_with fail
      refine ⟨rfl, ?_⟩
      rw [HQ.out]
      exact ⟨rfl, HS2.out.2⟩
    · have HQ : Hid (r = .ok i (i + 1)) := by
        have := hr.out; rw [run_enter_yes ht hd] at this; exact (Option.some.inj this).symm
      have hdi : ((d : Int) == 40) = false := by simp; omega
      have hdl := H0.out.dle
      clear ht hr
      go_enter Tryz.func163, Tryz.ntmps163
      go_wp2_with fail
      refine HN.out.mono ?_
      rintro e w1 ⟨v, rfl, hv, hst⟩
      obtain rfl := hv
      clear HN
      unfold tokV
      have hr1 := H0.out.lt
      have S1 := (ST.below (ST.refl H0.out) (b1 w _)).trans hst
      have S2 := S1.below (b1 w1 (.cells #[.int .i64 (E.T i).kind, .string ⟨(E.T i).text.toArray⟩, .int .i64 (E.pl i)] 108))
      have r2 := S2.1.c2
      have r3 := S2.1.fr 2
      obtain ⟨l1, c0, c1, c2, f0, f1, f2⟩ := ((TokAt.new w 0 ⟨#[]⟩ 0).kept hst.2 (by omega)).below (b1 w1 (.cells #[.int .i64 (E.T i).kind, .string ⟨(E.T i).text.toArray⟩, .int .i64 (E.pl i)] 108))
      obtain ⟨l2, c3, c4, c5, -, -, -⟩ := TokAt.new w1 (E.T i).kind ⟨(E.T i).text.toArray⟩ (E.pl i)
      have HS2 := Lib.hid S2
      have hs1 : w.heap.size < w1.heap.size := by have := hst.2.size; simp at this; omega
      clear S1 S2 hst
      have hne : ¬ w1.heap.size = w.heap.size := by omega
      have hne2 : ¬ w.heap.size = E.rb := by omega
      have hne3 : ¬ w1.heap.size = E.rb := by omega
      go_wp2_with fail
      refine bodyPost_ret (v := tokV (E.T i) (E.pl i)) ?_ rfl ?_
      · rw [show (tokV (E.T i) (E.pl i)) = .agg #[.int .i64 (E.T i).kind, .string ⟨(E.T i).text.toArray⟩, .int .i64 (E.pl i)] from rfl]
        simp [results, Tryz.results163, go_sem, c0, c1, c2]
      · rw [HQ.out]
        exact ⟨_, rfl, rfl, ST.set H0.out (ST.set H0.out (ST.set H0.out (HS2.out.setD (d + 1) (by omega)) _ _ (Nat.le_refl _) _) _ _ (Nat.le_refl _) _) _ _ (Nat.le_refl _) _⟩
  · have HQ : Hid (r = .bad i 1) := by
      have := hr.out; rw [run_enter_no ht] at this; exact (Option.some.inj this).symm
    have HN := Lib.hid (need_any E _ i d s c (.bad i 1) H.out hs (run_need_no ht))
    clear ht hr
    go_enter Tryz.func163, Tryz.ntmps163
    go_wp2_with fail
    refine HN.out.mono ?_
    rintro e w1 ⟨rfl, hg⟩
    refine ⟨rfl, ?_⟩
    rw [HQ.out]
    exact ⟨rfl, (kb_below (b1 w _)).trans hg⟩

set_option maxRecDepth 100000 in
set_option maxHeartbeats 400000 in
theorem leave_any (E : Env) (w : World) (i d : Nat) (h : RD E w i (d + 1)) :
    Calls Tryz.prog 165 #[.pointer (some ⟨E.rb, 0, none⟩)] w fun e w' => e = .returned (.tuple #[]) ∧ ST E w w' i d := by
  have r1 := h.c2
  have r2 := h.fr 2
  have hd := h.dle
  have H := Lib.hid h
  clear h
  go_enter Tryz.func165, Tryz.ntmps165
  go_wp2_with fail
  refine bodyPost_end (v := .tuple #[]) (by simp [results, Tryz.results165, go_sem]) rfl ⟨rfl, ?_⟩
  have := (ST.refl H.out).setD d (by omega)
  simpa using this

end Go.Proofs.YtkahbhfbgdbnfaaGreatDoor
