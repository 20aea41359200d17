/-
  CONTRACTS: two instructions, two blocks, two structs are the same. Of what was there nothing has turned.
-/
import Derived.Test.YtcbjcpmkebbfaaaDoorSmEq
import Derived.Test.YtcbjcpmkebbfaaaDoorIrSame
namespace Go.Proofs.YtcbjcpmkebbfaaaDoor
open Go.RowKit

structure IE where
  x : Ins
  aA : Option Addr
  ac : Nat
def IE.row (E : IE) : Array Value := #[.int .i64 E.x.op, .string E.x.typ, .slice E.aA E.x.args.length E.ac, .int .i64 E.x.n, .string E.x.name]
def IE.v (E : IE) : Value := .agg E.row
structure IM (E : IE) (w : World) : Prop where
  A : SL 1 intR w E.aA E.x.args
  al : E.x.args.length ≤ 140737488351232
  ale : E.x.args.length ≤ E.ac
  iop : I64 E.x.op
  inn : I64 E.x.n
  tl : E.x.typ.size ≤ 140737488351232
  nl : E.x.name.size ≤ 140737488351232
theorem IM.drop {E : IE} {w w' : World} (h : IM E w) (hb : Below w.heap.size w w') : IM E w' := { h with A := h.A.below kp_int hb (Nat.le_refl _) }
theorem ie_of {w : World} {cs : List Value} {x : Ins} (h : insR w cs x) : ∃ E : IE, E.x = x ∧ cs = E.row.toList ∧ IM E w := by
  obtain ⟨v, rfl, h1, h2, h3, h4, ⟨A, c, rfl, h5, h6, h7⟩⟩ := h
  exact ⟨⟨x, A, c⟩, rfl, rfl, ⟨h7, h6, h5, h1, h2, h3, h4⟩⟩
structure BE where
  x : Blk
  lA : Option Addr
  lc : Nat
def BE.row (E : BE) : Array Value := #[.slice E.lA E.x.list.length E.lc, .int .i64 E.x.jump, .int .i64 E.x.arg, .int .i64 E.x.t0, .int .i64 E.x.t1]
def BE.v (E : BE) : Value := .agg E.row
structure BM (E : BE) (w : World) : Prop where
  L : SL 1 intR w E.lA E.x.list
  ll : E.x.list.length ≤ 140737488351232
  lle : E.x.list.length ≤ E.lc
  ij : I64 E.x.jump
  ia : I64 E.x.arg
  i0 : I64 E.x.t0
  i1 : I64 E.x.t1
theorem BM.drop {E : BE} {w w' : World} (h : BM E w) (hb : Below w.heap.size w w') : BM E w' := { h with L := h.L.below kp_int hb (Nat.le_refl _) }
theorem be_of {w : World} {cs : List Value} {x : Blk} (h : blkR w cs x) : ∃ E : BE, E.x = x ∧ cs = E.row.toList ∧ BM E w := by
  obtain ⟨v, rfl, h1, h2, h3, h4, ⟨A, c, rfl, h5, h6, h7⟩⟩ := h
  exact ⟨⟨x, A, c⟩, rfl, rfl, ⟨h7, h6, h5, h1, h2, h3, h4⟩⟩
structure TE where
  x : St
  fA : Option Addr
  fc : Nat
def TE.row (E : TE) : Array Value := #[.string E.x.name, .slice E.fA E.x.fields.length E.fc]
def TE.v (E : TE) : Value := .agg E.row
structure TM (E : TE) (w : World) : Prop where
  F : SL 2 fdR w E.fA E.x.fields
  fl : E.x.fields.length ≤ 140737488351232
  fle : E.x.fields.length ≤ E.fc
  nl : E.x.name.size ≤ 140737488351232
theorem TM.drop {E : TE} {w w' : World} (h : TM E w) (hb : Below w.heap.size w w') : TM E w' := { h with F := h.F.below kp_fd hb (Nat.le_refl _) }
theorem te_of {w : World} {cs : List Value} {x : St} (h : stR w cs x) : ∃ E : TE, E.x = x ∧ cs = E.row.toList ∧ TM E w := by
  obtain ⟨v, rfl, h1, ⟨A, c, rfl, h5, h6, h7⟩⟩ := h
  exact ⟨⟨x, A, c⟩, rfl, rfl, ⟨h7, h6, h5, h1⟩⟩

theorem two_a (w : World) (A B : Array Value) (t t' : TypeId) (k : Nat) (v : Value) (h : A[k]? = some v) : ((w.alloc (.cells A t)).alloc (.cells B t')).cell? ⟨w.heap.size, k, none⟩ = some v :=
  keepB ((cell_new w A t k).trans h) (below_alloc _ _)
theorem two_b (w : World) (A B : Array Value) (t t' : TypeId) (k : Nat) (v : Value) (h : B[k]? = some v) : ((w.alloc (.cells A t)).alloc (.cells B t')).cell? ⟨w.heap.size + 1, k, none⟩ = some v := by
  have e := cell_new (w.alloc (.cells A t)) B t' k
  rw [show (w.alloc (.cells A t)).heap.size = w.heap.size + 1 by simp] at e
  exact e.trans h
set_option maxHeartbeats 1000000 in
theorem sameIns_any (E E' : IE) (b : Bool) (w : World) (h1 : IM E w) (h2 : IM E' w) (hr : Hid (b = true ↔ E.x = E'.x)) :
    Calls Tryd.prog 57 #[E.v, E'.v] w fun e w' => e = .returned (.bool b) ∧ Below w.heap.size w w' := by
  have HB := Lib.hid (below_two w (.cells E.row 47) (.cells E'.row 47))
  obtain ⟨⟨op, ty, args, n, nm⟩, aA, ac⟩ := E
  obtain ⟨⟨op', ty', args', n', nm'⟩, aA', ac'⟩ := E'
  unfold IE.v IE.row at *
  have H1 := Lib.hid h1
  have H2 := Lib.hid h2
  clear h1 h2
  simp only at hr ⊢
  cases g0 : (op == op') with
  | false =>
    obtain rfl : b = false := bool_no hr.out (fun e => by injection e with e; rw [e, beq_self_eq_true] at g0; cases g0)
    go_enter Tryd.func57, Tryd.ntmps57
    go_wp2_with fail
    go_ret
    exact ⟨rfl, HB.out⟩
  | true =>
  cases g1 : eqS ty ty' with
  | false =>
    obtain rfl : b = false := bool_no hr.out (fun e => by injection e with _ e; rw [e, eqS_iff.2 rfl] at g1; cases g1)
    have g1 := eqS_spell g1
    go_enter Tryd.func57, Tryd.ntmps57
    go_wp2_with fail
    go_ret
    exact ⟨rfl, HB.out⟩
  | true =>
  obtain rfl := eq_of_beq g0
  obtain rfl := eqS_iff.1 g1
  clear g0 g1
  obtain ⟨d, hd⟩ := bool_ex (args = args')
  have K := Lib.hid (fun w' hb => eqInt_any aA aA' ac ac' args.length args'.length args args' d w' (H1.out.A.below kp_int hb (Nat.le_refl _)) (H2.out.A.below kp_int hb (Nat.le_refl _)) (Lib.hid rfl) (Lib.hid rfl) H1.out.al H2.out.al hd)
  have a3 := two_a w #[.int .i64 op, .string ty, .slice aA args.length ac, .int .i64 n, .string nm] #[.int .i64 op, .string ty, .slice aA' args'.length ac', .int .i64 n', .string nm'] 47 47 3 _ rfl
  have a4 := two_a w #[.int .i64 op, .string ty, .slice aA args.length ac, .int .i64 n, .string nm] #[.int .i64 op, .string ty, .slice aA' args'.length ac', .int .i64 n', .string nm'] 47 47 4 _ rfl
  have e3 := two_b w #[.int .i64 op, .string ty, .slice aA args.length ac, .int .i64 n, .string nm] #[.int .i64 op, .string ty, .slice aA' args'.length ac', .int .i64 n', .string nm'] 47 47 3 _ rfl
  have e4 := two_b w #[.int .i64 op, .string ty, .slice aA args.length ac, .int .i64 n, .string nm] #[.int .i64 op, .string ty, .slice aA' args'.length ac', .int .i64 n', .string nm'] 47 47 4 _ rfl
  go_enter Tryd.func57, Tryd.ntmps57
  go_wp2_with fail
  refine (K.out _ HB.out).mono ?_
  rintro e w3 ⟨rfl, b3⟩
  have a3 := keepB a3 b3
  have a4 := keepB a4 b3
  have e3 := keepB e3 b3
  have e4 := keepB e4 b3
  have B3 := Lib.hid (HB.out.trans (b3.mono HB.out.size))
  clear b3 K
  cases d with
  | false =>
    obtain rfl : b = false := bool_no hr.out (fun e => by injection e with _ _ e; have := hd.out.2 e; cases this)
    go_wp2_with fail
    go_ret
    exact ⟨rfl, B3.out⟩
  | true =>
  obtain rfl := hd.out.1 rfl
  clear hd
  cases g0 : (n == n') with
  | false =>
    obtain rfl : b = false := bool_no hr.out (fun e => by injection e with _ _ _ e; rw [e, beq_self_eq_true] at g0; cases g0)
    go_wp2_with fail
    go_ret
    exact ⟨rfl, B3.out⟩
  | true =>
  cases g1 : eqS nm nm' with
  | false =>
    obtain rfl : b = false := bool_no hr.out (fun e => by injection e with _ _ _ _ e; rw [e, eqS_iff.2 rfl] at g1; cases g1)
    have g1 := eqS_spell g1
    go_wp2_with fail
    go_ret
    exact ⟨rfl, B3.out⟩
  | true =>
  obtain rfl := eq_of_beq g0
  obtain rfl := eqS_iff.1 g1
  obtain rfl : b = true := hr.out.2 rfl
  clear g0 g1
  go_wp2_with fail
  go_ret
  exact ⟨rfl, B3.out⟩

end Go.Proofs.YtcbjcpmkebbfaaaDoor
