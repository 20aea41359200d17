/-
  CONTRACTS: get, Op, Name, Type, N, At, Kids of a node, and of the zero one; fieldOf; levelOf. Of what was there nothing has turned.
-/
import Derived.Test.YtkahbhfbgdbnfaaGreatDoorJ5
import Derived.Test.YtkahbhfbgdbnfaaGreatDoorJ3
namespace Go.Proofs.YtkahbhfbgdbnfaaGreatDoor
open Go.RowKit

def rowV (op : Int) (name typ : ByteArray) (n p : Int) (A : Option Addr) (m c : Nat) : Value := .agg #[.int .i64 op, .string name, .string typ, .int .i64 n, .int .i64 p, .slice A m c]

set_option maxRecDepth 100000 in
set_option maxHeartbeats 400000 in
theorem get_any (w : World) (b : Nat) (op : Int) (name typ : ByteArray) (n p : Int) (A : Option Addr) (m c : Nat) (h : RowAt w b op name typ n p (.slice A m c)) :
    Calls Tryz.prog 37 #[.agg #[.pointer (some ⟨b, 0, none⟩)]] w fun e w' => e = .returned (rowV op name typ n p A m c) ∧ Below w.heap.size w w' := by
  obtain ⟨hl, h0, h1, h2, h3, h4, h5⟩ := h
  go_enter Tryz.func37, Tryz.ntmps37
  go_wp2_with fail
  refine bodyPost_ret (v := rowV op name typ n p A m c) (by unfold rowV; simp [results, Tryz.results37, go_sem]) rfl ⟨rfl, ?_⟩
  exact (b1 w _).trans ((b1 _ _).mono (by simp))

set_option maxRecDepth 100000 in
set_option maxHeartbeats 400000 in
theorem get_zero (w : World) :
    Calls Tryz.prog 37 #[.agg #[.pointer none]] w fun e w' => e = .returned (rowV 0 ⟨#[]⟩ ⟨#[]⟩ 0 0 none 0 0) ∧ Below w.heap.size w w' := by
  go_enter Tryz.func37, Tryz.ntmps37
  go_wp2_with fail
  refine bodyPost_ret (v := rowV 0 ⟨#[]⟩ ⟨#[]⟩ 0 0 none 0 0) (by unfold rowV; simp [results, Tryz.results37, go_sem]) rfl ⟨rfl, ?_⟩
  exact (b1 w _).trans ((b1 _ _).mono (by simp))

theorem row_op : ∀ (op : Int) (name typ : ByteArray) (n p : Int) (A : Option Addr) (m c : Nat) (w : World), (Instr.field 82 (.agg #[.int .i64 op, .string name, .string typ, .int .i64 n, .int .i64 p, .slice A m c]) 0).run Tryz.prog w = .ok (.int .i64 op) w := fun _ _ _ _ _ _ _ _ _ => by kernel_rfl
theorem row_name : ∀ (op : Int) (name typ : ByteArray) (n p : Int) (A : Option Addr) (m c : Nat) (w : World), (Instr.field 82 (.agg #[.int .i64 op, .string name, .string typ, .int .i64 n, .int .i64 p, .slice A m c]) 1).run Tryz.prog w = .ok (.string name) w := fun _ _ _ _ _ _ _ _ _ => by kernel_rfl
theorem row_typ : ∀ (op : Int) (name typ : ByteArray) (n p : Int) (A : Option Addr) (m c : Nat) (w : World), (Instr.field 82 (.agg #[.int .i64 op, .string name, .string typ, .int .i64 n, .int .i64 p, .slice A m c]) 2).run Tryz.prog w = .ok (.string typ) w := fun _ _ _ _ _ _ _ _ _ => by kernel_rfl
theorem row_n : ∀ (op : Int) (name typ : ByteArray) (n p : Int) (A : Option Addr) (m c : Nat) (w : World), (Instr.field 82 (.agg #[.int .i64 op, .string name, .string typ, .int .i64 n, .int .i64 p, .slice A m c]) 3).run Tryz.prog w = .ok (.int .i64 n) w := fun _ _ _ _ _ _ _ _ _ => by kernel_rfl
theorem row_at : ∀ (op : Int) (name typ : ByteArray) (n p : Int) (A : Option Addr) (m c : Nat) (w : World), (Instr.field 82 (.agg #[.int .i64 op, .string name, .string typ, .int .i64 n, .int .i64 p, .slice A m c]) 4).run Tryz.prog w = .ok (.int .i64 p) w := fun _ _ _ _ _ _ _ _ _ => by kernel_rfl
theorem row_kids : ∀ (op : Int) (name typ : ByteArray) (n p : Int) (A : Option Addr) (m c : Nat) (w : World), (Instr.field 82 (.agg #[.int .i64 op, .string name, .string typ, .int .i64 n, .int .i64 p, .slice A m c]) 5).run Tryz.prog w = .ok (.slice A m c) w := fun _ _ _ _ _ _ _ _ _ => by kernel_rfl

/-- The row that a block reads as, or of none. -/
def RowOf (w : World) (x : Option Addr) (op : Int) (name typ : ByteArray) (n p : Int) (A : Option Addr) (m c : Nat) : Prop :=
  (∃ b, x = some ⟨b, 0, none⟩ ∧ RowAt w b op name typ n p (.slice A m c)) ∨ (x = none ∧ op = 0 ∧ name = ⟨#[]⟩ ∧ typ = ⟨#[]⟩ ∧ n = 0 ∧ p = 0 ∧ A = none ∧ m = 0 ∧ c = 0)
theorem RowAt.below {w w' : World} {b : Nat} {op : Int} {name typ : ByteArray} {n p : Int} {kv : Value} (h : RowAt w b op name typ n p kv) (hb : Below w.heap.size w w') : RowAt w' b op name typ n p kv :=
  ⟨Nat.lt_of_lt_of_le h.lt hb.size, (hb.cell (p := ⟨b, 0, none⟩) h.lt).trans h.h0, (hb.cell (p := ⟨b, 1, none⟩) h.lt).trans h.h1, (hb.cell (p := ⟨b, 2, none⟩) h.lt).trans h.h2, (hb.cell (p := ⟨b, 3, none⟩) h.lt).trans h.h3, (hb.cell (p := ⟨b, 4, none⟩) h.lt).trans h.h4, (hb.cell (p := ⟨b, 5, none⟩) h.lt).trans h.h5⟩
theorem RowOf.below {w w' : World} {x : Option Addr} {op : Int} {name typ : ByteArray} {n p : Int} {A : Option Addr} {m c : Nat} (h : RowOf w x op name typ n p A m c) (hb : Below w.heap.size w w') : RowOf w' x op name typ n p A m c := by
  rcases h with ⟨b, h1, h2⟩ | h
  · exact .inl ⟨b, h1, h2.below hb⟩
  · exact .inr h
theorem b1t {w w' : World} {o : Obj} (h : Below (w.alloc o).heap.size (w.alloc o) w') : Below w.heap.size w w' := (b1 w o).trans (h.mono (by simp))
theorem get_of (w : World) (x : Option Addr) (op : Int) (name typ : ByteArray) (n p : Int) (A : Option Addr) (m c : Nat) (h : RowOf w x op name typ n p A m c) :
    Calls Tryz.prog 37 #[.agg #[.pointer x]] w fun e w' => e = .returned (rowV op name typ n p A m c) ∧ Below w.heap.size w w' := by
  rcases h with ⟨b, rfl, h⟩ | ⟨rfl, rfl, rfl, rfl, rfl, rfl, rfl, rfl, rfl⟩
  · exact get_any w b op name typ n p A m c h
  · exact get_zero w

set_option maxRecDepth 100000 in
theorem op_of (w : World) (x : Option Addr) (op : Int) (name typ : ByteArray) (n p : Int) (A : Option Addr) (m c : Nat) (h : RowOf w x op name typ n p A m c) :
    Calls Tryz.prog 10 #[.agg #[.pointer x]] w fun e w' => e = .returned (.int .i64 op) ∧ Below w.heap.size w w' := by
  have H := Lib.hid (get_of _ x op name typ n p A m c (h.below (b1 w (.cells #[.pointer x] 25))))
  have hf := row_op
  clear h
  go_enter Tryz.func10, Tryz.ntmps10
  go_wp2_with fail
  refine H.out.mono ?_
  rintro e w1 ⟨rfl, hb⟩
  unfold rowV
  clear H
  go_wp2_with fail
  go_ret
  exact ⟨rfl, b1t hb⟩
set_option maxRecDepth 100000 in
theorem name_of (w : World) (x : Option Addr) (op : Int) (name typ : ByteArray) (n p : Int) (A : Option Addr) (m c : Nat) (h : RowOf w x op name typ n p A m c) :
    Calls Tryz.prog 42 #[.agg #[.pointer x]] w fun e w' => e = .returned (.string name) ∧ Below w.heap.size w w' := by
  have H := Lib.hid (get_of _ x op name typ n p A m c (h.below (b1 w (.cells #[.pointer x] 25))))
  have hf := row_name
  clear h
  go_enter Tryz.func42, Tryz.ntmps42
  go_wp2_with fail
  refine H.out.mono ?_
  rintro e w1 ⟨rfl, hb⟩
  unfold rowV
  clear H
  go_wp2_with fail
  go_ret
  exact ⟨rfl, b1t hb⟩
set_option maxRecDepth 100000 in
theorem typ_of (w : World) (x : Option Addr) (op : Int) (name typ : ByteArray) (n p : Int) (A : Option Addr) (m c : Nat) (h : RowOf w x op name typ n p A m c) :
    Calls Tryz.prog 43 #[.agg #[.pointer x]] w fun e w' => e = .returned (.string typ) ∧ Below w.heap.size w w' := by
  have H := Lib.hid (get_of _ x op name typ n p A m c (h.below (b1 w (.cells #[.pointer x] 25))))
  have hf := row_typ
  clear h
  go_enter Tryz.func43, Tryz.ntmps43
  go_wp2_with fail
  refine H.out.mono ?_
  rintro e w1 ⟨rfl, hb⟩
  unfold rowV
  clear H
  go_wp2_with fail
  go_ret
  exact ⟨rfl, b1t hb⟩
set_option maxRecDepth 100000 in
theorem n_of (w : World) (x : Option Addr) (op : Int) (name typ : ByteArray) (n p : Int) (A : Option Addr) (m c : Nat) (h : RowOf w x op name typ n p A m c) :
    Calls Tryz.prog 30 #[.agg #[.pointer x]] w fun e w' => e = .returned (.int .i64 n) ∧ Below w.heap.size w w' := by
  have H := Lib.hid (get_of _ x op name typ n p A m c (h.below (b1 w (.cells #[.pointer x] 25))))
  have hf := row_n
  clear h
  go_enter Tryz.func30, Tryz.ntmps30
  go_wp2_with fail
  refine H.out.mono ?_
  rintro e w1 ⟨rfl, hb⟩
  unfold rowV
  clear H
  go_wp2_with fail
  go_ret
  exact ⟨rfl, b1t hb⟩
set_option maxRecDepth 100000 in
theorem at_of (w : World) (x : Option Addr) (op : Int) (name typ : ByteArray) (n p : Int) (A : Option Addr) (m c : Nat) (h : RowOf w x op name typ n p A m c) :
    Calls Tryz.prog 31 #[.agg #[.pointer x]] w fun e w' => e = .returned (.int .i64 p) ∧ Below w.heap.size w w' := by
  have H := Lib.hid (get_of _ x op name typ n p A m c (h.below (b1 w (.cells #[.pointer x] 25))))
  have hf := row_at
  clear h
  go_enter Tryz.func31, Tryz.ntmps31
  go_wp2_with fail
  refine H.out.mono ?_
  rintro e w1 ⟨rfl, hb⟩
  unfold rowV
  clear H
  go_wp2_with fail
  go_ret
  exact ⟨rfl, b1t hb⟩
set_option maxRecDepth 100000 in
theorem kids_of (w : World) (x : Option Addr) (op : Int) (name typ : ByteArray) (n p : Int) (A : Option Addr) (m c : Nat) (h : RowOf w x op name typ n p A m c) :
    Calls Tryz.prog 11 #[.agg #[.pointer x]] w fun e w' => e = .returned (.int .i64 m) ∧ Below w.heap.size w w' := by
  have H := Lib.hid (get_of _ x op name typ n p A m c (h.below (b1 w (.cells #[.pointer x] 25))))
  have hf := row_kids
  clear h
  go_enter Tryz.func11, Tryz.ntmps11
  go_wp2_with fail
  refine H.out.mono ?_
  rintro e w1 ⟨rfl, hb⟩
  unfold rowV
  clear H
  go_wp2_with fail
  go_ret
  exact ⟨rfl, b1t hb⟩

theorem NodeAt.row {ok : Nat → Prop} {pl : Nat → Nat} {w : World} {b : Nat} {t : Tree} (h : NodeAt ok pl w b t) : ∃ A c, RowAt w b t.op ⟨t.name.toArray⟩ ⟨t.typ.toArray⟩ t.n (pl t.pos) (.slice A t.kids.length c) ∧ t.kids.length ≤ c := by
  cases h with
  | mk A c bs hb hok h0 h1 h2 h3 h4 h5 hc => exact ⟨A, c, ⟨hb, h0, h1, h2, h3, h4, h5⟩, hc⟩
theorem NodeAt.rowOf {ok : Nat → Prop} {pl : Nat → Nat} {w : World} {b : Nat} {t : Tree} (h : NodeAt ok pl w b t) : ∃ A c, RowOf w (some ⟨b, 0, none⟩) t.op ⟨t.name.toArray⟩ ⟨t.typ.toArray⟩ t.n (pl t.pos) A t.kids.length c := by
  obtain ⟨A, c, h1, -⟩ := h.row
  exact ⟨A, c, .inl ⟨b, rfl, h1⟩⟩

set_option maxRecDepth 100000 in
set_option maxHeartbeats 400000 in
theorem levelOf_any (s : ByteArray) (w : World) (hS : SignsIn w) : Calls Tryz.prog 237 #[.string s] w fun e w' => e = .returned (.int .i64 (lvl s.data.toList : Nat)) ∧ w = w' := by
  by_cases h1 : s.data.toList = cOr
  · obtain rfl : s = ⟨#[124, 124]⟩ := Go.WideShapes.bytes_inj h1
    go_enter Tryz.func237, Tryz.ntmps237
    go_wp2_with fail
    go_ret
    exact ⟨rfl, rfl⟩
  · by_cases h2 : s.data.toList = cAnd
    · obtain rfl : s = ⟨#[38, 38]⟩ := Go.WideShapes.bytes_inj h2
      go_enter Tryz.func237, Tryz.ntmps237
      go_wp2_with fail
      go_ret
      exact ⟨rfl, rfl⟩
    · have hv : (lvl s.data.toList : Int) = levelV (findN s.data.toList 1 16) := by
        unfold lvl; rw [if_neg h1, if_neg h2]; have := (levelV_nn (findN s.data.toList 1 16)).1; omega
      have hs2 : signedV s 2 = findN s.data.toList 1 16 := by simp [signedV]
      obtain ⟨op, hop⟩ : ∃ op, findN s.data.toList 1 16 = op := ⟨_, rfl⟩
      rw [hop] at hv hs2
      rw [hv]
      have n1 : (s.toList == [124, 124]) = false := by rw [ByteArray.toList_eq]; simpa using h1
      have n2 : (s.toList == [38, 38]) = false := by rw [ByteArray.toList_eq]; simpa using h2
      have HS := Lib.hid (signed_any s 2 w hS)
      have H2 := Lib.hid hs2
      clear h1 h2 hv hs2 hS hop
      by_cases h0 : op = 0
      · subst h0
        go_enter Tryz.func237, Tryz.ntmps237
        go_wp2_with fail
        refine HS.out.mono ?_
        rintro e w1 ⟨rfl, rfl⟩
        rw [H2.out]
        clear HS H2
        go_wp2_with fail
        go_ret
        exact ⟨rfl, rfl⟩
      · have hb : (op != 0) = true := by simpa using h0
        go_enter Tryz.func237, Tryz.ntmps237
        go_wp2_with fail
        refine HS.out.mono ?_
        rintro e w1 ⟨rfl, rfl⟩
        rw [H2.out, hb]
        clear HS H2 hb h0
        go_wp2_with (go_at_call 232; refine (level_any _ _).mono ?_; rintro e w2 ⟨rfl, rfl⟩)
        go_ret
        exact ⟨rfl, rfl⟩

end Go.Proofs.YtkahbhfbgdbnfaaGreatDoor

/-
  CONTRACTS: single, number, fieldOf, pair. Nobody but the reader's own block has turned.
-/
namespace Go.Proofs.YtkahbhfbgdbnfaaGreatDoor
open Go.RowKit

theorem b2 (w : World) (o o' : Obj) : Below w.heap.size w ((w.alloc o).alloc o') := (b1 w o).trans ((b1 _ o').mono (by simp))

/-- Six cells of a row lie at b, and may be written. -/
structure RowF (w : World) (b : Nat) (op : Int) (name typ : ByteArray) (n p : Int) (kv : Value) : Prop extends RowAt w b op name typ n p kv where
  fr : ∀ k, w.frozen? ⟨b, k, none⟩ = false
theorem RowF.below {w w' : World} {b : Nat} {op : Int} {name typ : ByteArray} {n p : Int} {kv : Value} (h : RowF w b op name typ n p kv) (hb : Below w.heap.size w w') : RowF w' b op name typ n p kv :=
  ⟨h.toRowAt.below hb, fun k => (hb.frozen (p := ⟨b, k, none⟩) h.lt).trans (h.fr k)⟩
theorem RowF.new (w : World) (op : Int) (name typ : ByteArray) (n p : Int) (A : Option Addr) (m c : Nat) : RowF (w.alloc (.cells #[.int .i64 op, .string name, .string typ, .int .i64 n, .int .i64 p, .slice A m c] 82)) w.heap.size op name typ n p (.slice A m c) := by
  refine ⟨⟨by simp, ?_, ?_, ?_, ?_, ?_, ?_⟩, ?_⟩
  all_goals first | (intro k; simp [go_sem]) | simp [go_sem]

set_option maxRecDepth 100000 in
set_option maxHeartbeats 400000 in
theorem single_any (E : Env) (w : World) (i d op : Nat) (num : Int) (h : RD E w i d) (hi : i < E.z) :
    Calls Tryz.prog 221 #[.pointer (some ⟨E.rb, 0, none⟩), .agg #[.int .i64 op, .string ⟨#[]⟩, .string ⟨#[]⟩, .int .i64 num, .int .i64 0, .slice none 0 0]] w (Q E w d (VN E w.heap.size) (.ok (.mk op [] [] num i []) (i + 1))) := by
  have H := Lib.hid h
  have hr1 := h.lt
  have hf2 := tok_at
  have hz := h.zle
  have S0 := Lib.hid (ST.below (ST.refl h) (b2 w (.cells #[.int .i64 op, .string ⟨#[]⟩, .string ⟨#[]⟩, .int .i64 num, .int .i64 0, .slice none 0 0] 82) (.cells #[.pointer none] 25)))
  have F0 := Lib.hid ((RowF.new w op ⟨#[]⟩ ⟨#[]⟩ num 0 none 0 0).below (b1 _ (.cells #[.pointer none] 25)))
  have P0 := Lib.hid (PtrAt.new (w.alloc (.cells #[.int .i64 op, .string ⟨#[]⟩, .string ⟨#[]⟩, .int .i64 num, .int .i64 0, .slice none 0 0] 82)) none)
  clear h
  rw [show (w.alloc (.cells #[.int .i64 op, .string ⟨#[]⟩, .string ⟨#[]⟩, .int .i64 num, .int .i64 0, .slice none 0 0] 82)).heap.size = w.heap.size + 1 by simp] at P0
  have l0 := P0.out.lt
  go_enter Tryz.func221, Tryz.ntmps221
  go_wp2_with fail
  generalize (w.alloc (.cells #[.int .i64 op, .string ⟨#[]⟩, .string ⟨#[]⟩, .int .i64 num, .int .i64 0, .slice none 0 0] 82)).alloc (.cells #[.pointer none] 25) = wa at *
  refine (peek_any E _ i d S0.out.1).mono ?_
  rintro e w1 ⟨rfl, hb⟩
  unfold tokV
  have F1 := F0.out.below hb
  have P1 := Lib.hid (P0.out.below hb)
  have S1 := Lib.hid (S0.out.below hb)
  have z1 := hb.size
  clear hb F0 P0
  have c4 := F1.h4
  have f4 := F1.fr 4
  have r1 := S1.out.1.c1
  have r2 := S1.out.1.fr 1
  have c0 := F1.h0
  have c1 := F1.h1
  have c2 := F1.h2
  have c3 := F1.h3
  have c5 := F1.h5
  clear F1
  have hne : ¬ w.heap.size = E.rb := by omega
  go_wp2_with fail
  have S2 : Hid (ST E w ((w1.setCell ⟨w.heap.size, 4, none⟩ (.int .i64 (E.pl i))).setCell ⟨E.rb, 1, none⟩ (.int .i64 (i + 1 : Nat))) (i + 1) d) := (ST.set H.out S1.out _ _ (Nat.le_refl _) _).setI (i + 1) (by omega)
  have P2 : Hid (PtrAt ((w1.setCell ⟨w.heap.size, 4, none⟩ (.int .i64 (E.pl i))).setCell ⟨E.rb, 1, none⟩ (.int .i64 (i + 1 : Nat))) (w.heap.size + 1) none) := (P1.out.kept (kb_set _ _ _) (by show w.heap.size + 1 ≠ w.heap.size; omega)).kept (kb_set _ _ _) (by show w.heap.size + 1 ≠ E.rb; omega)
  rw [show ((i + 1 : Nat) : Int) = (i : Int) + 1 by omega] at S2 P2
  generalize (w1.setCell ⟨w.heap.size, 4, none⟩ (.int .i64 (E.pl i))).setCell ⟨E.rb, 1, none⟩ (.int .i64 ((i : Int) + 1)) = w2 at *
  refine (newNode_any _ _ _ _ _ _ _ _ _).mono ?_
  rintro e wz ⟨rfl, hb9, hrow⟩
  have P9 := P2.out.below hb9
  have q0 := P9.c0
  have f0 := P9.f0
  have l2 := P2.out.lt
  have HB9 := Lib.hid hb9
  have HROW := Lib.hid hrow
  clear hb9 hrow P9
  unfold nodeV
  go_wp2_with fail
  refine bodyPost_ret (v := nodeV w2.heap.size) (by unfold nodeV; simp [results, Tryz.results221, go_sem, q0]) rfl ?_
  refine ⟨_, rfl, ⟨_, rfl, (node_mk (ok' := fun x => w.heap.size + 1 < x) (KidsIn.nil (fun x => w.heap.size + 1 < x) E.pl w2) HB9.out HROW.out l2 (fun _ h _ => h) (by omega)).keep (Keeps.set _ _ _ (Nat.lt_irrefl _)) fun x hx _ => by omega⟩, ST.set H.out (S2.out.below HB9.out) _ _ (by omega) _⟩

end Go.Proofs.YtkahbhfbgdbnfaaGreatDoor

/-
  CONTRACTS: Kid, Size of a node. Of what was there nothing has turned.
-/
namespace Go.Proofs.YtkahbhfbgdbnfaaGreatDoor
open Go.RowKit

mutual
def sizeT : Tree → Nat
  | .mk _ _ _ _ _ ks => sizeL ks + 1
def sizeL : List Tree → Nat
  | [] => 0
  | t :: r => sizeT t + sizeL r
end
theorem sizeT_eq (t : Tree) : sizeT t = sizeL t.kids + 1 := by cases t; rfl
theorem sizeL_append (a b : List Tree) : sizeL (a ++ b) = sizeL a + sizeL b := by
  induction a with
  | nil => simp [sizeL]
  | cons x r ih => simp only [List.cons_append, sizeL, ih]; omega

theorem NodeAt.kid {ok : Nat → Prop} {pl : Nat → Nat} {w : World} {b : Nat} {t : Tree} (h : NodeAt ok pl w b t) : ∃ A c, RowAt w b t.op ⟨t.name.toArray⟩ ⟨t.typ.toArray⟩ t.n (pl t.pos) (.slice A t.kids.length c) ∧ t.kids.length ≤ c ∧ t.kids.length ≤ 6000 ∧ ∀ k u, t.kids[k]? = some u → ∃ g x, A = some ⟨g, 0, none⟩ ∧ g < w.heap.size ∧ ok g ∧ w.cell? ⟨g, k, none⟩ = some (.pointer (some ⟨x, 0, none⟩)) ∧ NodeAt ok pl w x u := by
  cases h with
  | mk A c bs hb hok h0 h1 h2 h3 h4 h5 hc hk hl hs ht =>
    refine ⟨A, c, ⟨hb, h0, h1, h2, h3, h4, h5⟩, hc, hk, fun k u hu => ?_⟩
    obtain ⟨x, hx⟩ : ∃ x, bs[k]? = some x := ⟨_, List.getElem?_eq_getElem (by have := (List.getElem?_eq_some_iff.1 hu).1; rw [hl]; exact this)⟩
    obtain ⟨g, hg1, hg2, hg3, hg4⟩ := hs k x hx
    exact ⟨g, x, hg1, hg2, hg3, hg4, ht k x u hx hu⟩

set_option maxRecDepth 100000 in
set_option maxHeartbeats 400000 in
theorem kid_none (w : World) (x : Option Addr) (op : Int) (name typ : ByteArray) (n p : Int) (A : Option Addr) (m c : Nat) (i : Int) (h : RowOf w x op name typ n p A m c) (hi : i < 0 ∨ (m : Int) ≤ i) :
    Calls Tryz.prog 29 #[.agg #[.pointer x], .int .i64 i] w fun e w' => e = .returned (.agg #[.pointer none]) ∧ Below w.heap.size w w' := by
  have H := Lib.hid (get_of _ x op name typ n p A m c (h.below (b2 w (.cells #[.pointer x] 25) (.cells #[.pointer none] 25))))
  have hf := row_kids
  clear h
  have hb2' := Lib.hid (b2 w (.cells #[.pointer x] 25) (.cells #[.pointer none] 25))
  have hP := PtrAt.new (w.alloc (.cells #[.pointer x] 25)) none
  rw [show (w.alloc (.cells #[.pointer x] 25)).heap.size = w.heap.size + 1 by simp] at hP
  have HP := Lib.hid hP
  clear hP
  by_cases h0 : i < 0
  · go_enter Tryz.func29, Tryz.ntmps29
    go_wp2_with fail
    generalize (w.alloc (.cells #[.pointer x] 25)).alloc (.cells #[.pointer none] 25) = wa at *
    refine H.out.mono ?_
    rintro e w1 ⟨rfl, hb⟩
    unfold rowV
    have P1 := HP.out.below hb
    have q0 := P1.c0
    have f0 := P1.f0
    have HB := Lib.hid (hb2'.out.trans (hb.mono hb2'.out.size))
    clear H P1 HP hb
    go_wp2_with fail
    refine bodyPost_ret (v := .agg #[.pointer none]) (by simp [results, Tryz.results29, go_sem, q0]) rfl ⟨rfl, ?_⟩
    exact HB.out.setCell (p := ⟨w.heap.size + 1, 0, none⟩) (Nat.le_succ _) _
  · have h1 : (m : Int) ≤ i := by omega
    go_enter Tryz.func29, Tryz.ntmps29
    go_wp2_with fail
    generalize (w.alloc (.cells #[.pointer x] 25)).alloc (.cells #[.pointer none] 25) = wa at *
    refine H.out.mono ?_
    rintro e w1 ⟨rfl, hb⟩
    unfold rowV
    have P1 := HP.out.below hb
    have q0 := P1.c0
    have f0 := P1.f0
    have HB := Lib.hid (hb2'.out.trans (hb.mono hb2'.out.size))
    clear H P1 HP hb
    go_wp2_with fail
    refine bodyPost_ret (v := .agg #[.pointer none]) (by simp [results, Tryz.results29, go_sem, q0]) rfl ⟨rfl, ?_⟩
    exact HB.out.setCell (p := ⟨w.heap.size + 1, 0, none⟩) (Nat.le_succ _) _

set_option maxRecDepth 100000 in
set_option maxHeartbeats 400000 in
theorem kid_some (w : World) (x : Option Addr) (op : Int) (name typ : ByteArray) (n p : Int) (g m c : Nat) (k nb : Nat) (h : RowOf w x op name typ n p (some ⟨g, 0, none⟩) m c) (hk : k < m) (_ : m ≤ c) (_ : m ≤ 6000) (hg : g < w.heap.size) (hc : w.cell? ⟨g, k, none⟩ = some (.pointer (some ⟨nb, 0, none⟩))) :
    Calls Tryz.prog 29 #[.agg #[.pointer x], .int .i64 k] w fun e w' => e = .returned (.agg #[.pointer (some ⟨nb, 0, none⟩)]) ∧ Below w.heap.size w w' := by
  have H := Lib.hid (get_of _ x op name typ n p _ m c (h.below (b2 w (.cells #[.pointer x] 25) (.cells #[.pointer none] 25))))
  have hf := row_kids
  clear h
  have hb2' := Lib.hid (b2 w (.cells #[.pointer x] 25) (.cells #[.pointer none] 25))
  have hP := PtrAt.new (w.alloc (.cells #[.pointer x] 25)) none
  rw [show (w.alloc (.cells #[.pointer x] 25)).heap.size = w.heap.size + 1 by simp] at hP
  have HP := Lib.hid hP
  have HC := Lib.hid hc
  have hi1 : ¬ (k : Int) < 0 := by omega
  have hi2 : ¬ (m : Int) ≤ (k : Int) := by omega
  have hi3 : (k : Int) < (m : Int) := by omega
  clear hP hc
  go_enter Tryz.func29, Tryz.ntmps29
  go_wp2_with fail
  generalize (w.alloc (.cells #[.pointer x] 25)).alloc (.cells #[.pointer none] 25) = wa at *
  refine H.out.mono ?_
  rintro e w1 ⟨rfl, hb⟩
  unfold rowV
  have P1 := HP.out.below hb
  have q0 := P1.c0
  have f0 := P1.f0
  have hbb := hb2'.out.trans (hb.mono hb2'.out.size)
  have ck := (hbb.cell (p := ⟨g, k, none⟩) hg).trans HC.out
  have HB := Lib.hid hbb
  clear H P1 HP hb hbb
  go_wp2_with fail
  refine bodyPost_ret (v := .agg #[.pointer (some ⟨nb, 0, none⟩)]) (by simp [results, Tryz.results29, go_sem, q0]) rfl ⟨rfl, ?_⟩
  exact HB.out.setCell (p := ⟨w.heap.size + 1, 0, none⟩) (Nat.le_succ _) _

/-- Kid at a place that is there. -/
theorem kid_at {ok : Nat → Prop} {pl : Nat → Nat} {w : World} {b : Nat} {t : Tree} (h : NodeAt ok pl w b t) (k : Nat) (u : Tree) (hu : t.kids[k]? = some u) : ∃ nb, NodeAt ok pl w nb u ∧ Calls Tryz.prog 29 #[.agg #[.pointer (some ⟨b, 0, none⟩)], .int .i64 k] w fun e w' => e = .returned (.agg #[.pointer (some ⟨nb, 0, none⟩)]) ∧ Below w.heap.size w w' := by
  obtain ⟨A, c, hr, h1, h2, h3⟩ := h.kid
  obtain ⟨g, x, rfl, hg, -, hc, hn⟩ := h3 k u hu
  exact ⟨x, hn, kid_some w _ _ _ _ _ _ g _ c k x (.inl ⟨b, rfl, hr⟩) (List.getElem?_eq_some_iff.1 hu).1 h1 h2 hg hc⟩
theorem kid_out {ok : Nat → Prop} {pl : Nat → Nat} {w : World} {b : Nat} {t : Tree} (h : NodeAt ok pl w b t) (i : Int) (hi : i < 0 ∨ (t.kids.length : Int) ≤ i) : Calls Tryz.prog 29 #[.agg #[.pointer (some ⟨b, 0, none⟩)], .int .i64 i] w fun e w' => e = .returned (.agg #[.pointer none]) ∧ Below w.heap.size w w' := by
  obtain ⟨A, c, hr⟩ := h.rowOf
  exact kid_none w _ _ _ _ _ _ _ _ _ i hr hi

set_option maxRecDepth 100000 in
theorem size_zero' (w : World) : Calls Tryz.prog 12 #[.agg #[.pointer none]] w fun e w' => e = .returned (.int .i64 0) ∧ Below w.heap.size w w' := by
  go_enter Tryz.func12, Tryz.ntmps12
  go_wp2_with fail
  go_ret
  exact ⟨rfl, b1 w _⟩

def SzRel (ks : List Tree) (w : World) (v i : Value) (wr : World) : Prop := ∃ k : Nat, k ≤ ks.length ∧ i = .int .i64 k ∧ v = .int .i64 (wrap64 (sizeL (ks.take k) + 1)) ∧ Below w.heap.size w wr
theorem sizeL_take (ks : List Tree) (k : Nat) (u : Tree) (h : ks[k]? = some u) : sizeL (ks.take (k + 1)) = sizeL (ks.take k) + sizeT u := by
  have hk := (List.getElem?_eq_some_iff.1 h).1
  have e := (List.getElem?_eq_some_iff.1 h).2
  rw [List.take_succ_eq_append_getElem hk, sizeL_append, e]
  simp [sizeL]
theorem wrap_add (a b : Int) : wrap64 (wrap64 a + wrap64 b) = wrap64 (a + b) := by unfold wrap64; omega
theorem sizeT_pos (t : Tree) : 0 < sizeT t := by rw [sizeT_eq]; omega
theorem size_kid {t u : Tree} {k : Nat} (h : t.kids[k]? = some u) : sizeT u < sizeT t := by
  rw [sizeT_eq t]
  have h1 := sizeL_take t.kids k u h
  have h2 := sizeL_append (t.kids.take (k + 1)) (t.kids.drop (k + 1))
  rw [List.take_append_drop] at h2
  omega

set_option maxRecDepth 100000 in
set_option maxHeartbeats 400000 in
theorem size_any (N : Nat) : ∀ (t : Tree), sizeT t ≤ N → ∀ (w : World) (b : Nat) (ok : Nat → Prop) (pl : Nat → Nat), NodeAt ok pl w b t → Calls Tryz.prog 12 #[.agg #[.pointer (some ⟨b, 0, none⟩)]] w fun e w' => e = .returned (.int .i64 (wrap64 (sizeT t))) ∧ Below w.heap.size w w' := by
  induction N with
  | zero => intro t h; have := sizeT_pos t; omega
  | succ N ih =>
    intro t hN w b ok pl h
    obtain ⟨A, c, hr, h1, h2, h3⟩ := h.kid
    have hb0 := hr.lt
    have c5 := hr.h5
    have hsz : (sizeT t : Int) = (sizeL t.kids : Int) + 1 := by rw [sizeT_eq]; omega
    rw [hsz]
    have HK := Lib.hid h3
    have hkk : Hid (∀ k u, t.kids[k]? = some u → sizeT u ≤ N) := fun k u hu => by have := size_kid hu; omega
    clear hr h3 h hsz hN
    obtain ⟨ks, hks⟩ : ∃ ks, t.kids = ks := ⟨_, rfl⟩
    rw [hks] at h1 h2 c5 HK hkk ⊢
    clear hks
    obtain ⟨m, hm⟩ : ∃ m, ks.length = m := ⟨_, rfl⟩
    rw [hm] at h1 h2 c5
    have HM := Lib.hid hm
    clear hm
    go_enter Tryz.func12, Tryz.ntmps12
    go_wp2_with fail
    go_loopw [3, 15] (fun v i wr => SzRel ks w v i wr) (fun _ i _ => m - (intOf i).toNat)
    case atStart => exact ⟨0, Nat.zero_le _, rfl, by simp [sizeL, wrap64], b1 w _⟩
    case round =>
      obtain ⟨k, hk, rfl, rfl, hb⟩ := hrel
      rw [HM.out] at hk
      by_cases hlt : k < m
      · obtain ⟨u, hu⟩ : ∃ u, ks[k]? = some u := ⟨_, List.getElem?_eq_getElem (by rw [HM.out]; exact hlt)⟩
        obtain ⟨g, x, rfl, hg, -, hc, hn⟩ := HK.out k u hu
        have ck := (hb.cell (p := ⟨g, k, none⟩) hg).trans hc
        have HST := Lib.hid (sizeL_take ks k u hu)
        have HU := Lib.hid (hkk.out k u hu)
        have HN := Lib.hid ((hn.bl hb).bl (b1 wr (.cells #[.pointer (some ⟨x, 0, none⟩)] 25)))
        have HB := Lib.hid (hb.trans ((b1 wr (.cells #[.pointer (some ⟨x, 0, none⟩)] 25)).mono hb.size))
        clear hc hn hu hb
        go_wp2_with fail
        refine (ih u HU.out _ x ok pl HN.out).mono ?_
        rintro e w1 ⟨rfl, hb1⟩
        have HB1 := Lib.hid (HB.out.trans (hb1.mono HB.out.size))
        clear hb1 ck
        go_wp2_with fail
        go_roundw
        case rel => exact ⟨k + 1, by rw [HM.out]; omega, by go_num, by rw [HST.out]; show Value.int .i64 _ = Value.int .i64 _; rw [wrap_add]; congr 2; omega, HB1.out⟩
        case measure => simp [intOf]; omega
      · obtain rfl : k = m := by omega
        rw [List.take_of_length_le (by rw [HM.out]; exact Nat.le_refl _)]
        go_wp2_with fail
        go_ret
        exact ⟨rfl, hb⟩

end Go.Proofs.YtkahbhfbgdbnfaaGreatDoor

/-
  PLAIN: what package check answers of a tree, by the document's rules, over lists and trees; nothing of the program stands here. No condition.
-/
namespace Go.Proofs.YtkahbhfbgdbnfaaGreatDoor
open Go.RowKit

/-- An answer, or a place (a token's number) and an error. -/
inductive CR (α : Type) : Type
  | ok (a : α)
  | bad (p e : Nat)
def CR.bind {α β : Type} (r : CR α) (f : α → CR β) : CR β := match r with
  | .ok a => f a
  | .bad p e => .bad p e

structure Sg where
  name : ByteArray
  params : List Fld
  res : ByteArray
structure Inf where
  structs : List Str
  globals : List Fld
  funs : List Sg

def tNil : ByteArray := ⟨#[110, 105, 108]⟩
def tNone : ByteArray := ⟨#[]⟩
def tMain : ByteArray := ⟨#[109, 97, 105, 110]⟩
def nm (t : Tree) : ByteArray := ⟨t.name.toArray⟩
def tp (t : Tree) : ByteArray := ⟨t.typ.toArray⟩
def fldZ : Fld := ⟨tNone, tNone⟩
def typAt (fs : List Fld) (k : Nat) : ByteArray := (fs.getD k fldZ).typ
def sgIs (fs : List Sg) (n : ByteArray) (i : Nat) : Bool := match fs[i]? with | some s => eqB s.name n | none => false
def funO (x : Inf) (n : ByteArray) : Option Nat := fst (sgIs x.funs n) x.funs.length 0
def declB (x : Inf) (n : ByteArray) : Bool := (fnd x.structs n).isSome || (plc x.globals n).isSome || (funO x n).isSome
def ptrB (t : ByteArray) : Bool := (elemO t).isSome
def fitB (a b : ByteArray) : Bool := eqB a b || (eqB a tNil && ptrB b)
/-- The last variable of that name among the first so many. -/
def locN (K : List Fld) (n : ByteArray) : Nat → Option Nat
  | 0 => none
  | i + 1 => if fldIs K n i then some i else locN K n i
def locO (K : List Fld) (n : ByteArray) : Option Nat := locN K n K.length

def nd {α : Type} (p : Nat) (b : Bool) (e : Nat) (k : CR α) : CR α := if b then k else .bad p e
def varOf (x : Inf) (K : List Fld) (p : Nat) (d : Bool) : Option Nat → Option Nat → CR ByteArray
  | some i, _ => .ok (typAt K i)
  | none, some g => .ok (typAt x.globals g)
  | none, none => nd p d 5 (.bad p 7)
def varC (x : Inf) (K : List Fld) (p : Nat) (n : ByteArray) : CR ByteArray := varOf x K p (declB x n) (locO K n) (plc x.globals n)
def strZ : Str := ⟨tNone, []⟩
def sgZ : Sg := ⟨tNone, [], tNone⟩
def strOf (x : Inf) (s : ByteArray) : Str := x.structs.getD ((fnd x.structs s).getD 0) strZ
def fieldOf (p : Nat) (fs : List Fld) : Option Nat → CR ByteArray
  | none => .bad p 5
  | some k => .ok (typAt fs k)
def fieldC (x : Inf) (p : Nat) (n a : ByteArray) : CR ByteArray := match elemO a with
  | none => .bad p 7
  | some s => fieldOf p (strOf x s).fields (plc (strOf x s).fields n)
def ptrTo (n : ByteArray) : ByteArray := ⟨(42 :: n.data.toList).toArray⟩
def makeC (x : Inf) (p : Nat) (n : ByteArray) : CR ByteArray := nd p (declB x n) 5 (nd p (fnd x.structs n).isSome 7 (.ok (ptrTo n)))
def fitAll : List ByteArray → List Fld → Bool
  | a :: r, f :: fs => fitB a f.typ && fitAll r fs
  | _, _ => true
def calleeOf (x : Inf) (p : Nat) (l d : Bool) : Option Nat → CR Sg
  | some f => nd p (l || d) 5 (nd p (!l) 7 (.ok (x.funs.getD f sgZ)))
  | none => nd p (l || d) 5 (.bad p 7)
def calleeC (x : Inf) (K : List Fld) (p : Nat) (n : ByteArray) : CR Sg := calleeOf x p (locO K n).isSome (declB x n) (funO x n)
def callC (x : Inf) (K : List Fld) (p : Nat) (n : ByteArray) (us : List ByteArray) : CR ByteArray :=
  (calleeC x K p n).bind fun g => nd p (us.length == g.params.length) 7 (nd p (fitAll us g.params) 7 (.ok g.res))
def unT (n : Int) : ByteArray := if n = 18 then tBool else tInt
def unC (p : Nat) (n : Int) (a : ByteArray) : CR ByteArray := nd p (eqB a (unT n)) 7 (.ok (unT n))
def eqMay (a b : ByteArray) : Bool := if eqB a tBool || ptrB a then fitB b a else ptrB b && fitB a b
def binOk (n : Int) (a b : ByteArray) : Bool := (eqB a tInt && eqB b tInt) || ((n == 11 || n == 12) && eqMay a b)
def binT (n : Int) : ByteArray := if levelV n = 3 then tBool else tInt
def binC (p : Nat) (n : Int) (a b : ByteArray) : CR ByteArray := nd p (binOk n a b) 7 (.ok (binT n))
def bothC (p : Nat) (a b : ByteArray) : CR ByteArray := nd p (eqB a tBool && eqB b tBool) 7 (.ok tBool)
def allC : List (CR ByteArray) → CR (List ByteArray)
  | [] => .ok []
  | r :: rs => r.bind fun a => (allC rs).bind fun us => .ok (a :: us)
def kidC (rs : List (CR ByteArray)) (i : Nat) : CR ByteArray := rs.getD i (.ok tNil)

/-- An expression's type, out of its kids'. -/
def exprOfC (x : Inf) (K : List Fld) (op : Nat) (name : List UInt8) (n : Int) (p : Nat) (rs : List (CR ByteArray)) : CR ByteArray :=
  if op = 15 ∨ op = 22 then .ok tInt
  else if op = 16 then .ok tBool
  else if op = 18 then varC x K p ⟨name.toArray⟩
  else if op = 19 then makeC x p ⟨name.toArray⟩
  else if op = 20 then (kidC rs 0).bind fun a => fieldC x p ⟨name.toArray⟩ a
  else if op = 21 then (allC rs).bind fun us => callC x K p ⟨name.toArray⟩ us
  else if op = 23 then (kidC rs 0).bind fun a => unC p n a
  else if op = 24 then (kidC rs 0).bind fun a => (kidC rs 1).bind fun b => binC p n a b
  else if op = 25 ∨ op = 26 then (kidC rs 0).bind fun a => (kidC rs 1).bind fun b => bothC p a b
  else .ok tNil
mutual
def exprC (x : Inf) (K : List Fld) : Tree → CR ByteArray
  | .mk op name _ n p ks => exprOfC x K op name n p (exprsC x K ks)
def exprsC (x : Inf) (K : List Fld) : List Tree → List (CR ByteArray)
  | [] => []
  | t :: r => exprC x K t :: exprsC x K r
end
theorem exprsC_map (x : Inf) (K : List Fld) (l : List Tree) : exprsC x K l = l.map (exprC x K) := by
  induction l with
  | nil => rfl
  | cons a r ih => simp only [exprsC, ih, List.map_cons]
theorem exprC_eq (x : Inf) (K : List Fld) (t : Tree) : exprC x K t = exprOfC x K t.op t.name t.n t.pos (t.kids.map (exprC x K)) := by
  cases t with
  | mk op name typ n p ks => simp only [exprC, exprsC_map, Tree.op, Tree.name, Tree.n, Tree.pos, Tree.kids]

/-- Whether a name is none of those from a place on. -/
def freeB (K : List Fld) (f : Nat) (n : ByteArray) : Bool := !(plc (K.drop f) n).isSome
/-- A statement that has no block in it: the variables behind it. -/
def leafC (x : Inf) (res : ByteArray) (K : List Fld) (f : Nat) (op : Nat) (name : List UInt8) (p : Nat) (rs : List (CR ByteArray)) : CR (List Fld) :=
  if op = 7 then (kidC rs 0).bind fun a => nd p (freeB K f ⟨name.toArray⟩) 6 (nd p (!eqB a tNil && !eqB a tNone) 7 (.ok (K ++ [⟨⟨name.toArray⟩, a⟩])))
  else if op = 8 then (kidC rs 0).bind fun a => (varC x K p ⟨name.toArray⟩).bind fun v => nd p (fitB a v) 7 (.ok K)
  else if op = 9 then (kidC rs 0).bind fun a => (kidC rs 1).bind fun b => (fieldC x p ⟨name.toArray⟩ a).bind fun v => nd p (fitB b v) 7 (.ok K)
  else if op = 12 then (kidC rs 0).bind fun a => nd p (eqB a tInt) 7 (.ok K)
  else if op = 13 then (if rs.length = 0 then nd p (eqB res tNone) 7 (.ok K) else (kidC rs 0).bind fun a => nd p (!eqB res tNone && fitB a res) 7 (.ok K))
  else if op = 14 then (kidC rs 0).bind fun _ => .ok K
  else .ok K
mutual
def stmtC (x : Inf) (res : ByteArray) : Tree → List Fld → Nat → CR (List Fld)
  | .mk op name _ _ p ks, K, f =>
    if op = 6 then (stmtsC x res ks K K.length).bind fun _ => .ok K
    else if op = 10 ∨ op = 11 then (kidC (exprsC x K ks) 0).bind fun a => nd p (eqB a tBool) 7 (restC x res ks K f)
    else leafC x res K f op name p (exprsC x K ks)
def stmtsC (x : Inf) (res : ByteArray) : List Tree → List Fld → Nat → CR (List Fld)
  | [], K, _ => .ok K
  | t :: r, K, f => (stmtC x res t K f).bind fun K' => stmtsC x res r K' f
def restC (x : Inf) (res : ByteArray) : List Tree → List Fld → Nat → CR (List Fld)
  | [], K, _ => .ok K
  | _ :: r, K, f => stmtsC x res r K f
end
theorem restC_eq (x : Inf) (res : ByteArray) (l : List Tree) (K : List Fld) (f : Nat) : restC x res l K f = stmtsC x res (l.drop 1) K f := by
  cases l with
  | nil => simp only [restC, List.drop_nil, stmtsC]
  | cons a r => simp only [restC, List.drop_succ_cons, List.drop_zero]
theorem stmtC_eq (x : Inf) (res : ByteArray) (t : Tree) (K : List Fld) (f : Nat) : stmtC x res t K f =
    if t.op = 6 then (stmtsC x res t.kids K K.length).bind fun _ => .ok K
    else if t.op = 10 ∨ t.op = 11 then (kidC (t.kids.map (exprC x K)) 0).bind fun a => nd t.pos (eqB a tBool) 7 (stmtsC x res (t.kids.drop 1) K f)
    else leafC x res K f t.op t.name t.pos (t.kids.map (exprC x K)) := by
  cases t with
  | mk op name typ n p ks => simp only [stmtC, exprsC_map, restC_eq, Tree.op, Tree.name, Tree.pos, Tree.kids]; rfl

def fldOf (t : Tree) : Fld := ⟨nm t, tp t⟩
def cntP (t : Tree) : Nat := if t.op = 4 then t.kids.length - 1 else t.kids.length
def partsL (t : Tree) : List Fld := (t.kids.take (cntP t)).map fldOf
/-- What is declared, with one declaration more. -/
def addD (x : Inf) (d : Tree) : Inf :=
  if d.op = 2 then { x with structs := x.structs ++ [⟨nm d, partsL d⟩] }
  else if d.op = 3 then { x with globals := x.globals ++ [fldOf d] }
  else if d.op = 4 then { x with funs := x.funs ++ [⟨nm d, partsL d, tp d⟩] }
  else x
def infZ : Inf := ⟨[], [], []⟩
def infOf (ks : List Tree) : Inf := ks.foldl addD infZ
def nmAt (ks : List Tree) (i : Nat) : ByteArray := nm (ks.getD i Tree.zero)
def opAt (ks : List Tree) (i : Nat) : Nat := (ks.getD i Tree.zero).op
/-- Whether no kid ahead has that name. -/
def newB (ks : List Tree) (i : Nat) : Bool := !(fst (fun j => eqB (nmAt ks j) (nmAt ks i)) i 0).isSome
/-- How many of that op stand ahead, among the first so many. -/
def cntN (ks : List Tree) (i : Nat) : Nat → Nat
  | 0 => 0
  | j + 1 => cntN ks i j + (if opAt ks j = opAt ks i then 1 else 0)
def mostD (op : Nat) : Nat := if op = 2 then 12 else if op = 3 then 12 else 24
def nameE (ks : List Tree) (i : Nat) : Nat := if newB ks i then (if cntN ks i i < mostD (opAt ks i) then 0 else 4) else 6
def mostPt (op : Nat) : Nat := if op = 2 then 8 else 6
def partE (ss : List Str) (d : Tree) (i : Nat) : Nat := if i < mostPt d.op then (if newB d.kids i then (if isT ss (tp (d.kids.getD i Tree.zero)) then 0 else 5) else 6) else 4
/-- The first of a row that is wrong. -/
def firC (ks : List Tree) (g : Nat → Nat) (n : Nat) : CR Unit := match fir g n 0 with
  | (_, 0) => .ok ()
  | (i, e + 1) => .bad (ks.getD i Tree.zero).pos (e + 1)
def typesC (ss : List Str) (d : Tree) : CR Unit :=
  if d.op = 3 then nd d.pos (isT ss (tp d)) 5 (.ok ())
  else (firC d.kids (partE ss d) (cntP d)).bind fun _ => nd d.pos (eqB (tp d) tNone || isT ss (tp d)) 5 (.ok ())
def eachC (f : Tree → CR Unit) : List Tree → CR Unit
  | [] => .ok ()
  | t :: r => (f t).bind fun _ => eachC f r
def bodyC (x : Inf) (d : Tree) : CR Unit :=
  if d.op = 4 then (stmtsC x (tp d) (d.kids.getD (d.kids.length - 1) Tree.zero).kids (partsL d) 0).bind fun _ => .ok () else .ok ()
def mainB (x : Inf) : Bool := match funO x tMain with
  | some f => (x.funs.getD f sgZ).params.length == 0 && eqB (x.funs.getD f sgZ).res tNone
  | none => false
/-- What a Program's node declares; or the first rule that is broken. -/
def checkC (t : Tree) : CR Inf :=
  (firC t.kids (nameE t.kids) t.kids.length).bind fun _ =>
  (eachC (typesC (infOf t.kids).structs) t.kids).bind fun _ =>
  (eachC (bodyC (infOf t.kids)) t.kids).bind fun _ =>
  nd t.pos (mainB (infOf t.kids)) 8 (.ok (infOf t.kids))

end Go.Proofs.YtkahbhfbgdbnfaaGreatDoor
