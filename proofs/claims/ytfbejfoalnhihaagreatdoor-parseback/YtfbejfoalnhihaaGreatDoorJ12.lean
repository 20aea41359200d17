/-
  PLAIN: wherever the reader of the grammar ends or fails, it is no further than the tokens' end. Nothing of the program stands here. No condition.
-/
import Derived.Test.YtfbejfoalnhihaaGreatDoorJ1
import Derived.Test.YtfbejfoalnhihaaGreatDoorJ8
import Derived.Laws.OwnMore
import Derived.Test.YtfbejfoalnhihaaGreatDoorJ5
import Derived.Test.YtfbejfoalnhihaaGreatDoorJ11
namespace Go.Proofs.YtfbejfoalnhihaaGreatDoor
open Go.RowKit

def Res.pos {α : Type} : Res α → Nat | .ok _ j => j | .bad j _ => j
def Bd {α : Type} (T : Nat → AT) (z : Nat) (c : Callee) (p : Pr α) (i : Nat) : Prop := i ≤ z → ∀ r, runW T c p i = some r → r.pos ≤ z
section
variable {T : Nat → AT} {z : Nat} {c : Callee} {α β : Type} {i : Nat}
theorem bd_ret {a : α} : Bd T z c (.ret a) i := fun h r e => by cases e; exact h
theorem bd_fail {e : Nat} : Bd T z c (.fail e : Pr α) i := fun h r e => by cases e; exact h
theorem bd_peek {k : Nat → AT → Pr α} (h : Bd T z c (k i (T i)) i) : Bd T z c (.peek k) i := h
theorem bd_next {p : Pr α} (hi : i < z) (h : Bd T z c p (i + 1)) : Bd T z c (.next p) i := fun _ r e => h hi r e
theorem bd_ite {q : Prop} [Decidable q] {p r : Pr α} (h : q → Bd T z c p i) (g : ¬ q → Bd T z c r i) : Bd T z c (if q then p else r) i := by
  split
  · exact h ‹_›
  · exact g ‹_›
theorem bd_bind {p : Pr β} {f : β → Pr α} (h : Bd T z c p i) (g : ∀ a j, Bd T z c (f a) j) : Bd T z c (p.bind f) i := fun hi r e => by
  rw [runW_bind] at e
  cases hr : runW T c p i with
  | none => rw [hr] at e; cases e
  | some q =>
    rw [hr] at e
    have hq := h hi q hr
    cases q with
    | bad j e' => cases e; exact hq
    | ok a k => exact g a k hq r e
variable (C : ∀ nt d i r, okNT nt → i ≤ z → c nt d i = some r → Res.pos r ≤ z)
include C
theorem bd_call {nt : NT} {d : Nat} {k : List Tree → Pr α} (hn : okNT nt) (h : ∀ ts j, Bd T z c (k ts) j) : Bd T z c (.call nt d k) i := fun hi r e => by
  simp only [runW] at e
  cases hr : c nt d i with
  | none => rw [hr] at e; cases e
  | some q =>
    rw [hr] at e
    have hq := C _ _ _ _ hn hi hr
    cases q with
    | bad j e' => cases e; exact hq
    | ok a k => exact h a k hq r e
end
section
variable {T : Nat → AT} {z : Nat} {c : Callee} (S : Sent T z)
include S
theorem bd_need {s : List UInt8} (hs : s ≠ []) (i : Nat) : Bd T z c (need s) i := bd_peek (bd_ite (fun h => bd_next (lt_text S hs h) bd_ret) fun _ => bd_fail)
theorem bd_word (i : Nat) : Bd T z c word i := bd_peek (bd_ite (fun h => bd_next (lt_kind S (by decide) h) bd_ret) fun _ => bd_fail)
theorem bd_enter (d : Nat) {s : List UInt8} (hs : s ≠ []) (i : Nat) : Bd T z c (enter d s) i := bd_peek (bd_ite (fun h => bd_ite (fun _ => bd_fail) fun _ => bd_next (lt_text S hs h) bd_ret) fun _ => bd_fail)
theorem bd_typ (i : Nat) : Bd T z c typ i := bd_peek (bd_ite (fun h => bd_next (lt_text S (by decide) h) bd_ret) fun _ => bd_ite (fun h => bd_next (lt_text S (by decide) h) bd_ret) fun _ => bd_bind (bd_need S (by decide) i) fun _ j => bd_bind (bd_word S j) fun _ _ => bd_ret)
theorem bd_typed (op i : Nat) : Bd T z c (typed op) i := bd_bind (bd_word S i) fun _ j => bd_bind (bd_typ S j) fun _ _ => bd_ret
theorem bd_named (op i : Nat) : Bd T z c (named op) i := bd_bind (bd_typed S op i) fun _ j => bd_bind (bd_need S (by decide) j) fun _ _ => bd_ret
theorem bd_creation (i : Nat) : Bd T z c creation i := bd_bind (bd_need S (by decide) i) fun _ j => bd_bind (bd_need S (by decide) j) fun _ j => bd_bind (bd_word S j) fun _ j => bd_bind (bd_need S (by decide) j) fun _ _ => bd_ret
theorem bd_input (i : Nat) : Bd T z c input i := bd_bind (bd_need S (by decide) i) fun _ j => bd_bind (bd_need S (by decide) j) fun _ j => bd_bind (bd_need S (by decide) j) fun _ _ => bd_ret
theorem bd_fieldName (i : Nat) : Bd T z c fieldName i := bd_bind (bd_need S (by decide) i) fun _ j => bd_word S j
variable (C : ∀ nt d i r, okNT nt → i ≤ z → c nt d i = some r → Res.pos r ≤ z)
include C
theorem bd_expr (d i : Nat) : Bd T z c (expr d) i := have _ := S; bd_call C (Nat.le_refl 1) fun _ _ => bd_ret
theorem bd_block (d i : Nat) : Bd T z c (block d) i := bd_bind (bd_enter S d (by decide) i) fun _ _ => bd_call C trivial fun _ _ => bd_ret
theorem bd_struct (i : Nat) : Bd T z c structure_ i := bd_bind (bd_word S i) fun _ j => bd_bind (bd_need S (by decide) j) fun _ j => bd_bind (bd_need S (by decide) j) fun _ _ => bd_call C trivial fun _ _ => bd_ret
theorem bd_fparts (i : Nat) : Bd T z c fparts i := bd_bind (bd_need S (by decide) i) fun _ j => bd_peek (bd_ite (fun h => bd_next (lt_text S (by decide) h) bd_ret) fun _ => bd_bind (bd_typed S 5 j) fun _ _ => bd_call C trivial fun _ _ => bd_ret)
theorem bd_function (d i : Nat) : Bd T z c (function d) i := bd_bind (bd_word S i) fun _ j => bd_bind (bd_fparts S C j) fun _ j => bd_bind (bd_peek (bd_ite (fun _ => bd_ret) fun _ => bd_typ S j)) fun _ j => bd_bind (bd_block S C d j) fun _ _ => bd_ret
theorem bd_decl (d i : Nat) : Bd T z c (decl d) i := bd_peek (bd_ite (fun h => bd_next (lt_text S (by decide) h) (bd_struct S C _)) fun _ => bd_ite (fun h => bd_next (lt_text S (by decide) h) (bd_named S 3 _)) fun _ => bd_ite (fun h => bd_next (lt_text S (by decide) h) (bd_function S C d _)) fun _ => bd_fail)
theorem bd_args (d i : Nat) : Bd T z c (args d) i := bd_bind (bd_enter S d (by decide) i) fun _ j => bd_peek (bd_ite (fun _ => bd_bind (bd_need S (by decide) j) fun _ _ => bd_ret) fun _ => bd_bind (bd_expr S C (d + 1) j) fun _ _ => bd_call C trivial fun _ _ => bd_ret)
theorem bd_brack (d i : Nat) : Bd T z c (brack d) i := bd_bind (bd_enter S d (by decide) i) fun _ j => bd_bind (bd_expr S C (d + 1) j) fun _ j => bd_bind (bd_need S (by decide) j) fun _ _ => bd_ret
theorem bd_varOrCall (d i : Nat) : Bd T z c (varOrCall d) i := bd_bind (bd_word S i) fun _ j => bd_peek (bd_ite (fun _ => bd_bind (bd_args S C d j) fun _ _ => bd_ret) fun _ => bd_ret)
theorem bd_primary (d i : Nat) : Bd T z c (primary d) i := bd_peek (bd_ite (fun h => bd_next (lt_kind S (by decide) h) bd_ret) fun _ => bd_ite (fun _ => bd_varOrCall S C d i) fun _ => bd_ite (fun h => bd_next (lt_text S (by decide) h) bd_ret) fun _ => bd_ite (fun h => bd_next (lt_text S (by decide) h) bd_ret) fun _ => bd_ite (fun h => bd_next (lt_text S (by decide) h) bd_ret) fun _ => bd_ite (fun _ => bd_creation S i) fun _ => bd_ite (fun _ => bd_input S i) fun _ => bd_ite (fun _ => bd_brack S C d i) fun _ => bd_fail)
theorem bd_postfix (d i : Nat) : Bd T z c (postfix_ d) i := bd_bind (bd_primary S C d i) fun _ _ => bd_call C trivial fun _ _ => bd_ret
theorem bd_setting (op : Nat) (h : Tree) (d i : Nat) : Bd T z c (setting op h d) i := bd_bind (bd_expr S C d i) fun _ j => bd_bind (bd_need S (by decide) j) fun _ _ => bd_ret
theorem bd_put (h : Tree) (d i : Nat) : Bd T z c (put h d) i := bd_bind (bd_fieldName S i) fun _ _ => bd_call C trivial fun _ j => bd_bind (bd_need S (by decide) j) fun _ j => bd_bind (bd_expr S C d j) fun _ j => bd_bind (bd_need S (by decide) j) fun _ _ => bd_ret
theorem bd_simple (d i : Nat) : Bd T z c (simple d) i := bd_peek (bd_bind (bd_primary S C d i) fun h j => bd_peek (bd_ite (fun g => bd_next (lt_text S (by decide) g.2.2) bd_ret) fun _ => bd_ite (fun g => bd_next (lt_text S (by decide) g.2.2) (bd_setting S C 7 h d _)) fun _ => bd_ite (fun g => bd_next (lt_text S (by decide) g.2.2) (bd_setting S C 8 h d _)) fun _ => bd_put S C h d j))
theorem bd_loop (d i : Nat) : Bd T z c (loop d) i := bd_bind (bd_need S (by decide) i) fun _ j => bd_bind (bd_expr S C d j) fun _ j => bd_bind (bd_block S C d j) fun _ _ => bd_ret
theorem bd_print (d i : Nat) : Bd T z c (print d) i := bd_bind (bd_need S (by decide) i) fun _ j => bd_bind (bd_brack S C d j) fun _ j => bd_bind (bd_need S (by decide) j) fun _ _ => bd_ret
theorem bd_giveBack (d i : Nat) : Bd T z c (giveBack d) i := bd_bind (bd_need S (by decide) i) fun _ j => bd_bind (bd_peek (bd_ite (fun _ => bd_ret) fun _ => bd_bind (bd_expr S C d j) fun _ _ => bd_ret)) fun _ j => bd_bind (bd_need S (by decide) j) fun _ _ => bd_ret
theorem bd_one (nt : NT) (d i : Nat) (h : okNT nt) : Bd T z c (one nt d) i := have _ := S; bd_call C h fun _ _ => bd_ret
theorem bd_other (d i : Nat) : Bd T z c (other d) i := bd_peek (bd_ite (fun _ => bd_one S C _ _ _ trivial) fun _ => bd_block S C d i)
theorem bd_branch (d i : Nat) : Bd T z c (branch d) i := bd_bind (bd_need S (by decide) i) fun _ j => bd_bind (bd_expr S C d j) fun _ j => bd_bind (bd_block S C d j) fun _ _ => bd_peek (bd_ite (fun h => bd_next (lt_text S (by decide) h) (show Bd T z c ((other d).bind _) _ from bd_bind (bd_other S C d _) fun _ _ => bd_ret)) fun _ => bd_ret)
theorem bd_stmt (d i : Nat) : Bd T z c (stmt d) i := bd_peek (bd_ite (fun _ => bd_one S C _ _ _ trivial) fun _ => bd_ite (fun _ => bd_loop S C d i) fun _ => bd_ite (fun _ => bd_print S C d i) fun _ => bd_ite (fun _ => bd_giveBack S C d i) fun _ => bd_simple S C d i)
theorem bd_unary (d i : Nat) : Bd T z c (unary d) i := bd_peek (bd_ite (fun _ => bd_postfix S C d i) fun h => bd_bind (bd_enter S d (find_some (by omega) (by omega) h) i) fun _ _ => bd_bind (bd_one S C _ _ _ trivial) fun _ _ => bd_ret)
theorem bd_single {p : Pr Tree} {i : Nat} (h : Bd T z c p i) : Bd T z c (single p) i := have _ := S; have _ := C; bd_bind h fun _ _ => bd_ret
theorem bd_body (nt : NT) (hn : okNT nt) (d i : Nat) : Bd T z c (body nt d) i := by
  cases nt with
  | decls => exact bd_peek (bd_ite (fun _ => bd_ret) fun _ => bd_bind (bd_decl S C d i) fun _ _ => bd_call C trivial fun _ _ => bd_ret)
  | parts => exact bd_peek (bd_ite (fun h => bd_next (lt_text S (by decide) h) bd_ret) fun _ => bd_bind (bd_named S 5 i) fun _ _ => bd_call C trivial fun _ _ => bd_ret)
  | params => exact bd_peek (bd_ite (fun h => bd_next (lt_text S (by decide) h) (show Bd T z c ((typed 5).bind _) _ from bd_bind (bd_typed S 5 _) fun _ _ => bd_call C trivial fun _ _ => bd_ret)) fun _ => bd_bind (bd_need S (by decide) i) fun _ _ => bd_ret)
  | stmts => exact bd_peek (bd_ite (fun h => bd_next (lt_text S (by decide) h) bd_ret) fun _ => bd_call C trivial fun _ _ => bd_call C trivial fun _ _ => bd_ret)
  | stmt => exact bd_single S C (bd_stmt S C d i)
  | branch => exact bd_single S C (bd_branch S C d i)
  | binary l => exact bd_single S C (bd_call C trivial fun _ _ => bd_call C hn fun _ _ => bd_ret)
  | tail l =>
    have hl : 1 ≤ l := hn
    exact bd_peek (bd_ite (fun _ => bd_ret) fun h => bd_next (lt_text S (lvl_some (l := (T i).text) (by omega)) rfl) (bd_call C (Nat.succ_le_succ (Nat.zero_le _)) fun _ _ => bd_call C hn fun _ _ => bd_ret))
  | unary => exact bd_single S C (bd_unary S C d i)
  | fields => exact bd_peek (bd_ite (fun _ => bd_bind (bd_fieldName S i) fun _ _ => bd_call C trivial fun _ _ => bd_ret) fun _ => bd_ret)
  | args => exact bd_peek (bd_ite (fun h => bd_next (lt_text S (by decide) h) (show Bd T z c ((expr d).bind _) _ from bd_bind (bd_expr S C d _) fun _ _ => bd_call C trivial fun _ _ => bd_ret)) fun _ => bd_bind (bd_need S (by decide) i) fun _ _ => bd_ret)
end
theorem P_bound {T : Nat → AT} {z : Nat} (S : Sent T z) (n : Nat) : ∀ nt d i r, okNT nt → i ≤ z → P T n nt d i = some r → Res.pos r ≤ z := by
  induction n with
  | zero => intro nt d i r _ _ h; cases h
  | succ n ih => intro nt d i r hn hi h; exact bd_body S ih nt hn d i hi r h

end Go.Proofs.YtfbejfoalnhihaaGreatDoor

/-
  CONTRACT: Join of package lex at every list of at most 100000 tokens whose texts are together short enough. Blocks from the world's end on alone are new.
-/
namespace Go.Proofs.YtfbejfoalnhihaaGreatDoor
open Go.RowKit

/-- The slice's elements read as these tokens. -/
def TokIn (w : World) (g i : Nat) (t : Tok) : Prop := w.cell? ⟨g, i * 3, none⟩ = some (.int .i64 t.kind) ∧ w.cell? ⟨g, i * 3 + 1, none⟩ = some (.string ⟨t.text.toArray⟩) ∧ w.cell? ⟨g, i * 3 + 2, none⟩ = some (.int .i64 t.place)
def TR (w : World) (A : Option Addr) (ts : List Tok) : Prop := 0 < ts.length → ∃ g, A = some ⟨g, 0, none⟩ ∧ g < w.heap.size ∧ ∀ i t, ts[i]? = some t → TokIn w g i t
theorem TR.below {w w' : World} {A : Option Addr} {ts : List Tok} (h : TR w A ts) (hb : Below w.heap.size w w') : TR w' A ts := by
  intro h0
  obtain ⟨g, hA, hg, hc⟩ := h h0
  refine ⟨g, hA, Nat.lt_of_lt_of_le hg hb.size, fun i t ht => ?_⟩
  obtain ⟨a, b, c⟩ := hc i t ht
  exact ⟨(hb.cell (p := ⟨g, i * 3, none⟩) hg).trans a, (hb.cell (p := ⟨g, i * 3 + 1, none⟩) hg).trans b, (hb.cell (p := ⟨g, i * 3 + 2, none⟩) hg).trans c⟩
theorem tr_own {w : World} {base : Nat} {e : TypeId} {v : Value} {ts : List Tok} (h : w.ownsRow base e 3 v ts.length (cellsT ts)) : ∃ A c, v = .slice A ts.length c ∧ ts.length ≤ c ∧ TR w A ts := by
  rcases Nat.eq_zero_or_pos ts.length with h0 | h0
  · rcases h.2 with ⟨rfl, _⟩ | ⟨g, cap, cur, rfl, _, _, hc, _⟩
    · exact ⟨none, 0, by rw [h0], by omega, fun h => by omega⟩
    · exact ⟨_, _, rfl, hc, fun h => by omega⟩
  · obtain ⟨g, cap, rfl, hb, hlt⟩ := h.form h0
    have hcap : ts.length ≤ cap := by
      rcases h.2 with ⟨h1, _⟩ | ⟨g', cap', cur, h1, _, _, hc, _⟩
      · cases h1
      · injection h1 with _ _ h1; omega
    refine ⟨_, _, rfl, hcap, fun _ => ⟨g, rfl, hlt, fun i t ht => ?_⟩⟩
    have hi : i < ts.length := (List.getElem?_eq_some_iff.1 ht).1
    obtain ⟨a, b, c⟩ := cellsT_at ts i t ht
    exact ⟨(h.cellAt (i * 3) (by omega)).trans a, (h.cellAt (i * 3 + 1) (by omega)).trans b, (h.cellAt (i * 3 + 2) (by omega)).trans c⟩

theorem strs_snoc (ts : List Tok) (k : Nat) (t : Tok) (h : ts[k]? = some t) : strL ((ts.take (k + 1)).map (·.text)) = strL ((ts.take k).map (·.text)) ++ [.string ⟨t.text.toArray⟩] := by
  obtain ⟨hk, rfl⟩ := List.getElem?_eq_some_iff.1 h
  unfold strL
  rw [List.take_succ_eq_append_getElem hk, List.map_append, List.map_append]; rfl
theorem news1 (w : World) (A : Array Value) (t e : TypeId) (a : Value) : ∀ j u, [a][j]? = some u → ((w.alloc (.cells A t)).alloc (.cells #[a] e)).cell? ((⟨w.heap.size + 1, 0, none⟩ : Addr).add j) = some u := by
  have h := heap_alloc_new (w.alloc (.cells A t)) (.cells #[a] e)
  rw [show (w.alloc (.cells A t)).heap.size = w.heap.size + 1 by simp] at h
  exact World.news_of_block h
def JRel (w : World) (ts : List Tok) (v i : Value) (wr : World) : Prop :=
  ∃ k : Nat, k ≤ ts.length ∧ i = .int .i64 k ∧ Hid (wr.ownsRow w.heap.size 9 1 v k (strL ((ts.take k).map (·.text)))) ∧ Below w.heap.size w wr

set_option maxRecDepth 100000 in
set_option maxHeartbeats 400000 in
theorem join_any (A : Option Addr) (c : Nat) (ts : List Tok) (w : World) (hT : TR w A ts) (hn : ts.length ≤ 100000) (hxs : (joinT (ts.map (·.text))).length ≤ 140737488355328) :
    Calls Tryz.prog 20 #[.slice A ts.length c] w fun e w' => e = .returned (.string ⟨(joinT (ts.map (·.text))).toArray⟩) ∧ Below w.heap.size w w' := by
  obtain ⟨i0, hi0, hz0, hz1, hz2⟩ := info_parts str_info
  have HI0 := Lib.hid hi0
  have HZ0 := Lib.hid hz0
  have HZ1 := Lib.hid hz1
  have HZ2 := Lib.hid hz2
  have HT := Lib.hid hT
  have HX := Lib.hid hxs
  obtain ⟨n, hnn⟩ : ∃ n, ts.length = n := ⟨_, rfl⟩
  have HN := Lib.hid hnn
  obtain ⟨x, hx⟩ : ∃ x : ByteArray, x = ⟨(joinT (ts.map (·.text))).toArray⟩ := ⟨_, rfl⟩
  have HXX := Lib.hid hx
  rw [← hx]
  rw [hnn] at hn ⊢
  clear hi0 hz0 hz1 hz2 hT hnn hxs hx
  go_enter Tryz.func20, Tryz.ntmps20
  go_wp2_with fail
  go_loopw [3, 8] (fun v i wr => JRel w ts v i wr) (fun _ i _ => ts.length - (intOf i).toNat)
  case atStart => exact ⟨0, Nat.zero_le _, rfl, World.ownsRow_nil _ _ _ _, Below.refl _ _⟩
  case round =>
    obtain ⟨k, hk, rfl, HO, hb⟩ := hrel
    have hkn : k ≤ n := by have := HN.out; omega
    by_cases hlt : k < n
    · obtain ⟨g, rfl, hg, hcs⟩ := HT.out (by have := HN.out; omega)
      obtain ⟨t, ht⟩ : ∃ t, ts[k]? = some t := ⟨_, List.getElem?_eq_getElem (by have := HN.out; omega)⟩
      obtain ⟨c0, c1, c2⟩ := hcs k t ht
      have c0 := (hb.cell (p := ⟨g, k * 3, none⟩) hg).trans c0
      have c1 := (hb.cell (p := ⟨g, k * 3 + 1, none⟩) hg).trans c1
      have c2 := (hb.cell (p := ⟨g, k * 3 + 2, none⟩) hg).trans c2
      have HTK := Lib.hid ht
      have HCS := Lib.hid hcs
      clear ht hcs
      obtain ⟨tk, tt, tp⟩ := t
      go_wp2_with (at_builtin; refine Hid.out ?_)
      refine Lib.hid ?_
      refine wpList_append_lies _ rfl (.tmp 12) (.tmp 15) _ rfl w.heap.size 9 i0 _ 1 16 Tryz.underlying71 HI0.out HZ0.out HZ1.out HZ2.out rfl (by omega) u3 k (strL ((ts.take k).map (·.text))) rfl (by exact (HO.out.alloc _).alloc _) ⟨wr.heap.size + 1, 0, none⟩ 1 1 [.string ⟨tt.toArray⟩] rfl rfl (by exact news1 wr _ 46 9 _) (by simp [Value.oneCell']) (by omega) (by simp only [maxLen]; omega) (by omega) (by simp; have := hb.size; omega) (wr.heap.size + 2) (by simp) ?_
      intro g2 cap w2 hown2 hg2 hat2 hlt2
      have hb3 : Below w.heap.size w w2 := ((hb.alloc hb.size _).alloc (by simp; have := hb.size; omega) _).grown hg2 (by simp; have := hb.size; omega) (fun k hk => (HO.out.lt k hk).1)
      have hown3 : w2.ownsRow w.heap.size 9 1 (.slice (some ⟨g2, 0, none⟩) (k + 1) cap) (k + 1) (strL ((ts.take (k + 1)).map (·.text))) := by
        rw [strs_snoc ts k _ HTK.out]; exact hown2
      have HO3 := Lib.hid hown3
      clear hown2 hown3 hg2 hat2 c0 c1 c2
      go_wp2_with fail
      go_roundw
      case rel => exact ⟨k + 1, by have := HN.out; omega, by go_num, HO3, hb3⟩
      case measure => simp [intOf]; have := HN.out; omega
    · have hkk : k = n := by omega
      have HO2 : Hid (wr.ownsRow w.heap.size 9 1 u3 n (strL (ts.map (·.text)))) := by
        have := HO.out
        rw [hkk, ← HN.out, List.take_length] at this
        rw [← HN.out]; exact this
      have hj : Calls Tryz.prog 38 #[u3, .string ⟨#[32]⟩] wr fun e w' => e = .returned (.string x) ∧ Below wr.heap.size wr w' := by
        rw [HXX.out]
        exact join_own HO2.out (by rw [List.length_map]; have := HN.out; omega) HX.out
      have HJ := Lib.hid hj
      clear hj HO2 HO
      go_wp2_with fail
      refine HJ.out.mono ?_
      rintro e w' ⟨rfl, hb'⟩
      have HB := Lib.hid (hb.trans (hb'.mono hb.size))
      clear hb hb'
      go_wp2_with fail
      go_ret
      exact ⟨rfl, HB.out⟩

end Go.Proofs.YtfbejfoalnhihaaGreatDoor

/-
  PLAIN: blanks play no part: what is read of a text whose tokens are joined with one blank each. Nothing of the program stands here. No condition.
-/
namespace Go.Proofs.YtfbejfoalnhihaaGreatDoor
open Go.RowKit

theorem Tf_same {a b : List Tok} (h : same a b) : Tf a = Tf b := by
  funext k
  unfold Tf
  have h1 := congrArg (fun l => l[k]?) (show a.map (fun t => (t.kind, t.text)) = b.map (fun t => (t.kind, t.text)) from h)
  simp only [List.getElem?_map] at h1
  cases ha : a[k]? with
  | none =>
    rw [ha] at h1
    cases hb : b[k]? with
    | none => rfl
    | some y => rw [hb] at h1; cases h1
  | some x =>
    rw [ha] at h1
    cases hb : b[k]? with
    | none => rw [hb] at h1; cases h1
    | some y =>
      rw [hb] at h1
      simp only [Option.map_some, Option.some.injEq, Prod.mk.injEq] at h1
      simp only [h1.1, h1.2]
theorem same_len {a b : List Tok} (h : same a b) : a.length = b.length := by
  have := congrArg List.length (show a.map (fun t => (t.kind, t.text)) = b.map (fun t => (t.kind, t.text)) from h)
  simpa using this
theorem chain_up {l : List UInt8} : ∀ {ts : List Tok} {e : Nat}, Chain l e ts → ∀ (i j : Nat) (t u : Tok), ts[i]? = some t → ts[j]? = some u → i < j → t.place < u.place
  | [], _, _, i, j, t, u, h, _, _ => by simp at h
  | a :: r, e, h, i, j, t, u, h1, h2, hij => by
    have hge : ∀ {ts : List Tok} {e : Nat}, Chain l e ts → ∀ t ∈ ts, e ≤ t.place := by
      intro ts
      induction ts with
      | nil => intro e _ t ht; cases ht
      | cons b q ih =>
        intro e h t ht
        rcases List.mem_cons.1 ht with rfl | ht
        · exact h.1
        · have := ih h.2.2.2.2 t ht
          have := h.1
          omega
    cases j with
    | zero => omega
    | succ j =>
      cases i with
      | zero =>
        have e1 : a = t := by simpa using h1
        subst e1
        have := hge h.2.2.2.2 u (List.mem_of_getElem? (by simpa using h2))
        have := h.2.1
        omega
      | succ i => exact chain_up h.2.2.2.2 i j t u (by simpa using h1) (by simpa using h2) (by omega)
/-- What the two readings of ParseBlanks have to do with each other. -/
inductive Bl (l t : List UInt8) (ts ms : List Tok) : Prop
  | ok (ks : List Tree) (h1 : parseR l = .ok ts ks) (h2 : parseR t = .ok ms ks)
  | bad (j e : Nat) (hj : j ≤ ts.length) (h1 : parseR l = .bad (plf ts l.length j) e) (h2 : parseR t = .bad (plf ms t.length j) e)
theorem blanks {l : List UInt8} {ts : List Tok} (h : scanR l = .ok ts) (hl : l.length ≤ 2048) : ∃ ms, scanR (joinT (ts.map (·.text))) = .ok ms ∧ ms.length = ts.length ∧ Bl l (joinT (ts.map (·.text))) ts ms ∧ (joinT (ts.map (·.text))).length ≤ 4096 := by
  have hT := toks_of h
  obtain ⟨ms, h1, h2⟩ := scan_join ts hT.ok
  have h3 := join_len l ts hT.chain
  have hs : scanR (joinT (ts.map (·.text))) = .ok ms := by
    unfold scanR
    rw [if_neg (by show ¬ _; unfold joinT; omega)]
    exact h1
  refine ⟨ms, hs, same_len h2, ?_, by unfold joinT; omega⟩
  obtain ⟨r, hp, -⟩ := P_total hT.sent (fuelT ts) .decls 0 0 trivial (Nat.zero_le _) (by show 4 * (ts.length - 0) + 0 < 4 * ts.length + 1; omega)
  have hb := P_bound hT.sent _ _ _ _ _ (show okNT .decls from trivial) (Nat.zero_le _) hp
  have e1 : parseR l = treeR ts l.length (some r) := by unfold parseR; rw [h]; simp only [hp]
  have e2 : parseR (joinT (ts.map (·.text))) = treeR ms (joinT (ts.map (·.text))).length (some r) := by
    unfold parseR; rw [hs]; simp only
    rw [show fuelT ms = fuelT ts by unfold fuelT; rw [same_len h2], Tf_same h2, hp]
  cases r with
  | ok ks j => exact .ok ks e1 e2
  | bad j e => exact .bad j e hb e1 e2

end Go.Proofs.YtfbejfoalnhihaaGreatDoor

/-
  PLAIN: the texts that a tree's tokens are shown with: each is a token; how many there are; they hang on no place. What is shown is parsed as the same tree, but for places, unless it is too long, or too deep. Nothing of the program stands here.
-/
namespace Go.Proofs.YtfbejfoalnhihaaGreatDoor
open Go.RowKit

def GT (x : Tx) : Prop := Tx.Ok x ∧ x.length ≤ 21
def GA (xs : List Tx) : Prop := ∀ x ∈ xs, GT x
theorem ga_nil : GA [] := fun x h => by cases h
theorem ga_cons {x : Tx} {r : List Tx} (h : GT x) (g : GA r) : GA (x :: r) := fun y hy => by
  rcases List.mem_cons.1 hy with rfl | hy
  · exact h
  · exact g y hy
theorem ga_app {a b : List Tx} (h : GA a) (g : GA b) : GA (a ++ b) := fun y hy => by
  rcases List.mem_append.1 hy with hy | hy
  · exact h y hy
  · exact g y hy
theorem gt_fix {x : Tx} (h : x ∈ fixed) : GT x := ⟨(fixed_ok h).1, by have := (fixed_ok h).2; omega⟩
theorem gt_name {s : Tx} (h : NW s) : GT s := ⟨TokOK.ok h, by have := h.facts.2.2.1; omega⟩
theorem gt_sign (n : Int) (h1 : 1 ≤ n) (h2 : n ≤ 18) : GT (signL n) := ⟨(sign_ok n h1 h2).1, by have := (sign_ok n h1 h2).2; omega⟩
/-- The texts are tokens, and not too many. -/
def GS (xs : List Tx) (m : Nat) : Prop := GA xs ∧ xs.length + 2 ≤ 8 * m
def GE (t : Tree) : Prop := GS (showE t) (sizeT t)
theorem comma_gs (f : Tree → List Tx) : ∀ ks : List Tree, (∀ u ∈ ks, GS (f u) (sizeT u)) → GA (ks.flatMap fun b => cComma :: f b) ∧ (ks.flatMap fun b => cComma :: f b).length ≤ 8 * sizeL ks
  | [], _ => ⟨ga_nil, Nat.zero_le _⟩
  | k :: ks, h => by
    obtain ⟨h1, h2⟩ := comma_gs f ks fun u hu => h u (List.mem_cons_of_mem _ hu)
    obtain ⟨g1, g2⟩ := h k (List.mem_cons_self ..)
    refine ⟨ga_app (ga_cons (gt_fix (by decide)) g1) h1, ?_⟩
    rw [List.flatMap_cons, List.length_append, List.length_cons, sizeL_cons]; omega
theorem commaF_gs (f : Tree → List Tx) (ks : List Tree) (h : ∀ u ∈ ks, GS (f u) (sizeT u)) : GA (commaF (ks.map f)) ∧ (commaF (ks.map f)).length ≤ 8 * sizeL ks := by
  cases ks with
  | nil => exact ⟨ga_nil, Nat.zero_le _⟩
  | cons k ks =>
    obtain ⟨h1, h2⟩ := comma_gs f ks fun u hu => h u (List.mem_cons_of_mem _ hu)
    obtain ⟨g1, g2⟩ := h k (List.mem_cons_self ..)
    have e : commaF ((k :: ks).map f) = f k ++ ks.flatMap fun b => cComma :: f b := by show f k ++ (ks.map f).flatMap _ = _; rw [List.flatMap_map]
    rw [e]
    refine ⟨ga_app g1 h1, ?_⟩
    rw [List.length_append, sizeL_cons]; omega
theorem ge_all {W : Tx → Prop} (hW : ∀ s, W s → NW s) {t : Tree} (ha : Al W t) : isE t → GE t := by
  induction ha with
  | @mk op s ty n p ks hl hk ih =>
    intro he
    have h1 : 15 ≤ op := he.1
    unfold GE GS
    rw [showE_mk, sizeT_mk]
    cases hl with
    | num h0 h1 => exact ⟨ga_cons ⟨(text_tok n h0 h1).1, (text_tok n h0 h1).2.2⟩ ga_nil, by show 1 + 2 ≤ _; omega⟩
    | truth h => rcases h with rfl | rfl <;> exact ⟨ga_cons (gt_fix (by decide)) ga_nil, by show 1 + 2 ≤ _; omega⟩
    | none => exact ⟨ga_cons (gt_fix (by decide)) ga_nil, by show 1 + 2 ≤ _; omega⟩
    | name ho h =>
      rcases ho with rfl | rfl
      · exact ⟨ga_cons (gt_name (hW _ h)) ga_nil, by show 1 + 2 ≤ _; omega⟩
      · exact ⟨ga_cons (gt_fix (by decide)) (ga_cons (gt_fix (by decide)) (ga_cons (gt_name (hW _ h)) (ga_cons (gt_fix (by decide)) ga_nil))), by show 4 + 2 ≤ _; omega⟩
    | @field _ _ x h hx =>
      obtain ⟨g1, g2⟩ := ih x (List.mem_singleton.2 rfl) hx
      refine ⟨ga_app g1 (ga_cons (gt_fix (by decide)) (ga_cons (gt_name (hW _ h)) ga_nil)), ?_⟩
      show (showE x ++ [cDot, s]).length + 2 ≤ _
      rw [List.length_append, sizeL_cons, sizeL_nil]; show _ + 2 + 2 ≤ _; omega
    | call h hu =>
      obtain ⟨g1, g2⟩ := commaF_gs showE ks fun u hm => ih u hm (hu u hm)
      refine ⟨(show GA ([s] ++ ([cLB] ++ commaF (ks.map showE) ++ [cRB])) from ga_app (ga_cons (gt_name (hW _ h)) ga_nil) (ga_app (ga_app (ga_cons (gt_fix (by decide)) ga_nil) g1) (ga_cons (gt_fix (by decide)) ga_nil))), ?_⟩
      show ([s] ++ ([cLB] ++ commaF (ks.map showE) ++ [cRB])).length + 2 ≤ _
      simp only [List.length_append, List.length_cons, List.length_nil]; omega
    | input => exact ⟨ga_cons (gt_fix (by decide)) (ga_cons (gt_fix (by decide)) (ga_cons (gt_fix (by decide)) ga_nil)), by show 3 + 2 ≤ _; omega⟩
    | @unary _ _ x hn hx =>
      obtain ⟨g1, g2⟩ := ih x (List.mem_singleton.2 rfl) hx
      refine ⟨ga_app (ga_app (ga_cons (gt_fix (by decide)) (ga_cons (gt_sign n (by omega) (by omega)) ga_nil)) g1) (ga_cons (gt_fix (by decide)) ga_nil), ?_⟩
      show ([cLB, signL n] ++ showE x ++ [cRB]).length + 2 ≤ _
      simp only [List.length_append, List.length_cons, List.length_nil, sizeL_cons, sizeL_nil]; omega
    | @binary _ _ _ x y ho hx hy =>
      obtain ⟨g1, g2⟩ := ih x (List.mem_cons_self ..) hx
      obtain ⟨f1, f2⟩ := ih y (List.mem_cons_of_mem _ (List.mem_singleton.2 rfl)) hy
      have key : ∀ sg, GT sg → GS ([cLB] ++ showE x ++ [sg] ++ showE y ++ [cRB]) (sizeL [x, y] + 1) := fun sg hs => by
        refine ⟨ga_app (ga_app (ga_app (ga_app (ga_cons (gt_fix (by decide)) ga_nil) g1) (ga_cons hs ga_nil)) f1) (ga_cons (gt_fix (by decide)) ga_nil), ?_⟩
        simp only [List.length_append, List.length_cons, List.length_nil, sizeL_cons, sizeL_nil]; omega
      rcases ho with ⟨rfl, hn1, hn2⟩ | ⟨rfl | rfl, -⟩
      · exact key _ (gt_sign n hn1 (by omega))
      · exact key _ (gt_fix (by decide))
      · exact key _ (gt_fix (by decide))
    | var ho => omega
    | set ho => omega
    | _ => omega
theorem gty {W : Tx → Prop} (hW : ∀ s, W s → NW s) {ty : Tx} (h : Ty W ty) : GA (typT ty) ∧ (typT ty).length ≤ 2 := by
  rcases h with rfl | rfl | ⟨s, rfl, hs⟩
  · rw [ty_int]; exact ⟨ga_cons (gt_fix (by decide)) ga_nil, by decide⟩
  · rw [ty_bool]; exact ⟨ga_cons (gt_fix (by decide)) ga_nil, by decide⟩
  · rw [ty_ptr (hW _ hs)]; exact ⟨ga_cons (gt_fix (by decide)) (ga_cons (gt_name (hW _ hs)) ga_nil), Nat.le_refl _⟩
theorem gtyped {W : Tx → Prop} (hW : ∀ s, W s → NW s) {t : Tree} (ha : Al W t) (ho : t.op = 3 ∨ t.op = 5) : GS (typedT t) (sizeT t) ∧ (typedT t).length ≤ 3 := by
  have hl := ha.loc
  cases t with
  | mk op s ty n p ks =>
    have ho1 : op = 3 ∨ op = 5 := ho
    cases hl with
    | var _ hs ht =>
      obtain ⟨g1, g2⟩ := gty hW ht
      have hlen : (typedT (.mk op s ty 0 p [])).length ≤ 3 := by show ([s] ++ typT ty).length ≤ 3; rw [List.length_append]; show 1 + _ ≤ 3; omega
      exact ⟨⟨ga_app (ga_cons (gt_name (hW _ hs)) ga_nil) g1, by rw [sizeT_mk, sizeL_nil]; omega⟩, hlen⟩
    | name h => omega
    | set h => omega
    | binary h => omega
    | _ => omega
theorem flat_gs (f : Tree → List Tx) : ∀ ks : List Tree, (∀ u ∈ ks, GS (f u) (sizeT u)) → GA (ks.map f).flatten ∧ (ks.map f).flatten.length ≤ 8 * sizeL ks
  | [], _ => ⟨ga_nil, Nat.zero_le _⟩
  | k :: ks, h => by
    obtain ⟨h1, h2⟩ := flat_gs f ks fun u hu => h u (List.mem_cons_of_mem _ hu)
    obtain ⟨g1, g2⟩ := h k (List.mem_cons_self ..)
    refine ⟨ga_app g1 h1, ?_⟩
    show (f k ++ (ks.map f).flatten).length ≤ _
    rw [List.length_append, sizeL_cons]; omega
theorem gs_all {W : Tx → Prop} (hW : ∀ s, W s → NW s) {t : Tree} (ha : Al W t) : (isS t ∨ t.op = 6) → GS (showS t) (sizeT t) := by
  induction ha with
  | @mk op s ty n p ks hl hk ih =>
    intro he
    have h1 : 7 ≤ op ∧ op ≤ 14 ∨ op = 6 := he
    unfold GS
    rw [showS_mk, sizeT_mk]
    have ge : ∀ x ∈ ks, isE x → GE x := fun x hx hi => ge_all hW (hk x hx) hi
    cases hl with
    | block hb =>
      obtain ⟨g1, g2⟩ := flat_gs showS ks fun u hu => ih u hu (.inl (hb u hu))
      refine ⟨ga_app (ga_app (ga_cons (gt_fix (by decide)) ga_nil) g1) (ga_cons (gt_fix (by decide)) ga_nil), ?_⟩
      show ([cLC] ++ (ks.map showS).flatten ++ [cRC]).length + 2 ≤ _
      simp only [List.length_append, List.length_cons, List.length_nil]; omega
    | @set _ _ _ x ho hs hx =>
      obtain ⟨g1, g2⟩ := ge x (List.mem_singleton.2 rfl) hx
      have key : ∀ sg, GT sg → GS ([s, sg] ++ (showE x ++ [cSemi])) (sizeL [x] + 1) := fun sg h => by
        refine ⟨ga_app (ga_cons (gt_name (hW _ hs)) (ga_cons h ga_nil)) (ga_app g1 (ga_cons (gt_fix (by decide)) ga_nil)), ?_⟩
        simp only [List.length_append, List.length_cons, List.length_nil, sizeL_cons, sizeL_nil]; omega
      rcases ho with rfl | rfl
      · exact key cDef (gt_fix (by decide))
      · exact key cEq (gt_fix (by decide))
    | @put _ _ x y hs hx hy =>
      obtain ⟨g1, g2⟩ := ge x (List.mem_cons_self ..) hx
      obtain ⟨f1, f2⟩ := ge y (List.mem_cons_of_mem _ (List.mem_singleton.2 rfl)) hy
      refine ⟨ga_app (ga_app g1 (ga_cons (gt_fix (by decide)) (ga_cons (gt_name (hW _ hs)) (ga_cons (gt_fix (by decide)) ga_nil)))) (ga_app f1 (ga_cons (gt_fix (by decide)) ga_nil)), ?_⟩
      show (showE x ++ [cDot, s, cEq] ++ (showE y ++ [cSemi])).length + 2 ≤ _
      simp only [List.length_append, List.length_cons, List.length_nil, sizeL_cons, sizeL_nil]; omega
    | @cond _ x b hx hb =>
      obtain ⟨g1, g2⟩ := ge x (List.mem_cons_self ..) hx
      obtain ⟨f1, f2⟩ := ih b (List.mem_cons_of_mem _ (List.mem_singleton.2 rfl)) (.inr hb)
      refine ⟨ga_app (ga_app (ga_app (ga_cons (gt_fix (by decide)) ga_nil) g1) f1) ga_nil, ?_⟩
      show ([kIf] ++ showE x ++ showS b ++ []).length + 2 ≤ _
      simp only [List.length_append, List.length_cons, List.length_nil, sizeL_cons, sizeL_nil]; omega
    | @conde _ x b e hx hb hee =>
      obtain ⟨g1, g2⟩ := ge x (List.mem_cons_self ..) hx
      obtain ⟨f1, f2⟩ := ih b (List.mem_cons_of_mem _ (List.mem_cons_self ..)) (.inr hb)
      obtain ⟨e1, e2⟩ := ih e (List.mem_cons_of_mem _ (List.mem_cons_of_mem _ (List.mem_singleton.2 rfl))) (by rcases hee with h | h; exact .inr h; exact .inl (by unfold isS; omega))
      refine ⟨ga_app (ga_app (ga_app (ga_cons (gt_fix (by decide)) ga_nil) g1) f1) (ga_app (ga_cons (gt_fix (by decide)) ga_nil) e1), ?_⟩
      show ([kIf] ++ showE x ++ showS b ++ ([kElse] ++ showS e)).length + 2 ≤ _
      simp only [List.length_append, List.length_cons, List.length_nil, sizeL_cons, sizeL_nil]; omega
    | @loop _ x b hx hb =>
      obtain ⟨g1, g2⟩ := ge x (List.mem_cons_self ..) hx
      obtain ⟨f1, f2⟩ := ih b (List.mem_cons_of_mem _ (List.mem_singleton.2 rfl)) (.inr hb)
      refine ⟨ga_app (ga_app (ga_cons (gt_fix (by decide)) ga_nil) g1) f1, ?_⟩
      show ([kFor] ++ showE x ++ showS b).length + 2 ≤ _
      simp only [List.length_append, List.length_cons, List.length_nil, sizeL_cons, sizeL_nil]; omega
    | @print _ x hx =>
      obtain ⟨g1, g2⟩ := ge x (List.mem_singleton.2 rfl) hx
      refine ⟨ga_app (ga_app (ga_cons (gt_fix (by decide)) ga_nil) (ga_app (ga_app (ga_cons (gt_fix (by decide)) ga_nil) g1) (ga_cons (gt_fix (by decide)) ga_nil))) (ga_cons (gt_fix (by decide)) ga_nil), ?_⟩
      show ([kPrint] ++ ([cLB] ++ showE x ++ [cRB]) ++ [cSemi]).length + 2 ≤ _
      simp only [List.length_append, List.length_cons, List.length_nil, sizeL_cons, sizeL_nil]; omega
    | back0 => exact ⟨ga_cons (gt_fix (by decide)) (ga_cons (gt_fix (by decide)) ga_nil), by show 2 + 2 ≤ _; omega⟩
    | @back1 _ x hx =>
      obtain ⟨g1, g2⟩ := ge x (List.mem_singleton.2 rfl) hx
      refine ⟨ga_app (ga_cons (gt_fix (by decide)) ga_nil) (ga_app g1 (ga_cons (gt_fix (by decide)) ga_nil)), ?_⟩
      show ([kReturn] ++ (showE x ++ [cSemi])).length + 2 ≤ _
      simp only [List.length_append, List.length_cons, List.length_nil, sizeL_cons, sizeL_nil]; omega
    | @act _ x hx =>
      obtain ⟨g1, g2⟩ := ge x (List.mem_singleton.2 rfl) (by unfold isE; omega)
      refine ⟨ga_app g1 (ga_cons (gt_fix (by decide)) ga_nil), ?_⟩
      show (showE x ++ [cSemi]).length + 2 ≤ _
      simp only [List.length_append, List.length_cons, List.length_nil, sizeL_cons, sizeL_nil]; omega
    | var ho => omega
    | name ho => omega
    | binary ho => omega
    | _ => omega
theorem parts_gs {W : Tx → Prop} (hW : ∀ s, W s → NW s) : ∀ ks : List Tree, (∀ u ∈ ks, Al W u ∧ u.op = 5) → GA (ks.flatMap fun b => typedT b ++ [cSemi]) ∧ (ks.flatMap fun b => typedT b ++ [cSemi]).length ≤ 8 * sizeL ks
  | [], _ => ⟨ga_nil, Nat.zero_le _⟩
  | k :: ks, h => by
    obtain ⟨h1, h2⟩ := parts_gs hW ks fun u hu => h u (List.mem_cons_of_mem _ hu)
    obtain ⟨⟨g1, g2⟩, g3⟩ := gtyped hW (h k (List.mem_cons_self ..)).1 (.inr (h k (List.mem_cons_self ..)).2)
    refine ⟨ga_app (ga_app g1 (ga_cons (gt_fix (by decide)) ga_nil)) h1, ?_⟩
    have := sizeT_pos k
    simp only [List.flatMap_cons, List.length_append, List.length_cons, List.length_nil, sizeL_cons]; omega
theorem gd_all {W : Tx → Prop} (hW : ∀ s, W s → NW s) {t : Tree} (ha : Al W t) (ho : t.op = 2 ∨ t.op = 3 ∨ t.op = 4) : GS (declOf t) (sizeT t) := by
  have hl := ha.loc
  cases t with
  | mk op s ty n p ks =>
    have ho1 : op = 2 ∨ op = 3 ∨ op = 4 := ho
    unfold GS
    cases hl with
    | struct hs hk =>
      obtain ⟨g1, g2⟩ := parts_gs hW ks fun u hu => ⟨ha.kid hu, hk u hu⟩
      refine ⟨ga_app (ga_app (ga_cons (gt_fix (by decide)) (ga_cons (gt_name (hW _ hs)) (ga_cons (gt_fix (by decide)) (ga_cons (gt_fix (by decide)) ga_nil)))) g1) (ga_cons (gt_fix (by decide)) ga_nil), ?_⟩
      show ([kType, s, kStruct, cLC] ++ (ks.flatMap fun k => typedT k ++ [cSemi]) ++ [cRC]).length + 2 ≤ _
      rw [sizeT_mk]
      simp only [List.length_append, List.length_cons, List.length_nil]; omega
    | @var _ _ _ _ ho2 hs ht =>
      have h3 : op = 3 := by omega
      subst h3
      obtain ⟨⟨g1, g2⟩, g3⟩ := gtyped hW ha (.inl rfl)
      refine ⟨ga_app (ga_app (ga_cons (gt_fix (by decide)) ga_nil) g1) (ga_cons (gt_fix (by decide)) ga_nil), ?_⟩
      show ([kVar] ++ typedT (.mk 3 s ty 0 p []) ++ [cSemi]).length + 2 ≤ _
      rw [sizeT_mk, sizeL_nil]
      simp only [List.length_append, List.length_cons, List.length_nil]; omega
    | @func _ _ _ qs b hs ht hk hb =>
      have hb1 := ha.kid (u := b) (List.mem_append_right _ (List.mem_singleton.2 rfl))
      obtain ⟨g1, g2⟩ := commaF_gs typedT qs fun u hu => (gtyped hW (ha.kid (List.mem_append_left _ hu)) (.inr (hk u hu))).1
      obtain ⟨f1, f2⟩ := gs_all hW hb1 (.inr hb)
      have e1 : (qs ++ [b]).take ((qs ++ [b]).length - 1) = qs := by simp
      have e2 : ((qs ++ [b]).map showS).getD ((qs ++ [b]).length - 1) [] = showS b := by simp [List.getD_eq_getElem?_getD]
      have ht1 : GA (if ty = [] then ([] : List Tx) else typT ty) ∧ (if ty = [] then ([] : List Tx) else typT ty).length ≤ 2 := by
        split
        · exact ⟨ga_nil, Nat.zero_le _⟩
        · exact gty hW (by rcases ht with h | h; exact absurd h ‹_›; exact h)
      have heq : declOf (.mk 4 s ty 0 p (qs ++ [b])) = [kFunc, s] ++ ([cLB] ++ commaF (qs.map typedT) ++ [cRB]) ++ (if ty = [] then [] else typT ty) ++ showS b := by
        show [kFunc, s] ++ ([cLB] ++ commaF (((qs ++ [b]).take ((qs ++ [b]).length - 1)).map typedT) ++ [cRB]) ++ (if ty = [] then [] else typT ty) ++ (((qs ++ [b]).map showS).getD ((qs ++ [b]).length - 1) []) = _
        rw [e1, e2]
      rw [heq]
      refine ⟨ga_app (ga_app (ga_app (ga_cons (gt_fix (by decide)) (ga_cons (gt_name (hW _ hs)) ga_nil)) (ga_app (ga_app (ga_cons (gt_fix (by decide)) ga_nil) g1) (ga_cons (gt_fix (by decide)) ga_nil))) ht1.1) f1, ?_⟩
      rw [sizeT_mk, sizeL_append]
      have := ht1.2
      simp only [List.length_append, List.length_cons, List.length_nil, sizeL_cons, sizeL_nil]; omega
    | name h => omega
    | set h => omega
    | binary h => omega
    | _ => omega

/-! ### They hang on no place -/
theorem show_er (N : Nat) : ∀ t, sizeT t ≤ N → showE (er t) = showE t ∧ showS (er t) = showS t := by
  induction N with
  | zero => intro t h; have := sizeT_pos t; omega
  | succ N ih =>
    intro t h
    cases t with
    | mk o s ty n p ks =>
      rw [sizeT_mk] at h
      have hk : ∀ u ∈ ks, sizeT u ≤ N := fun u hu => by
        obtain ⟨k, hk⟩ := List.mem_iff_getElem?.1 hu
        have := size_kid (t := .mk o s ty n p ks) (k := k) hk
        rw [sizeT_mk] at this; omega
      have e1 : (ks.map er).map showE = ks.map showE := by rw [List.map_map]; exact List.map_congr_left fun u hu => (ih u (hk u hu)).1
      have e2 : (ks.map er).map showS = ks.map showS := by rw [List.map_map]; exact List.map_congr_left fun u hu => (ih u (hk u hu)).2
      have e3 : showE (er (.mk o s ty n p ks)) = showE (.mk o s ty n p ks) := by rw [er_mk, showE_mk, showE_mk, e1]
      refine ⟨e3, ?_⟩
      rw [er_mk] at e3 ⊢
      rw [showS_mk, showS_mk, e1, e2, e3]
theorem decl_er (t : Tree) : declOf (er t) = declOf t := by
  cases t with
  | mk o s ty n p ks =>
    have e2 : (ks.map er).map showS = ks.map showS := by rw [List.map_map]; exact List.map_congr_left fun u _ => (show_er _ u (Nat.le_refl _)).2
    have e4 : ∀ u, typedT (er u) = typedT u := fun u => by cases u; rw [er_mk]; rfl
    have e5 := (show_er _ (.mk o s ty n p ks) (Nat.le_refl _)).2
    rw [er_mk] at e5 ⊢
    unfold declOf
    simp only [Tree.op, Tree.name, Tree.typ, Tree.kids, e2, e5, List.length_map]
    have e6 : ((ks.map er).flatMap fun k => typedT k ++ [cSemi]) = ks.flatMap fun k => typedT k ++ [cSemi] := by
      rw [List.flatMap_map]; exact congrArg (fun f => ks.flatMap f) (funext fun u => by rw [e4])
    have e7 : ((ks.map er).take (ks.length - 1)).map typedT = (ks.take (ks.length - 1)).map typedT := by
      rw [← List.map_take, List.map_map]; exact List.map_congr_left fun u _ => e4 u
    have e8 : ∀ q : List Tree, typedT (.mk o s ty n 0 q) = typedT (.mk o s ty n p ks) := fun q => rfl
    rw [e6, e7, e8]
    rfl
theorem showP_el {a b : List Tree} (h : EL a b) : a.flatMap declOf = b.flatMap declOf := by
  have e : ∀ l : List Tree, l.flatMap declOf = (l.map er).flatMap declOf := fun l => by
    rw [List.flatMap_map]; exact congrArg (fun f => l.flatMap f) (funext fun u => (decl_er u).symm)
  rw [e a, e b, show a.map er = b.map er from h]

end Go.Proofs.YtfbejfoalnhihaaGreatDoor
