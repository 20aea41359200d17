/-
  PLAIN: the grammar of sources as a reader over tokens: what is read at a place of a row of tokens, within a depth; and facts about it. Nothing of the program stands here. No condition.
-/
import Derived.WalkKit
import Derived.Lib.Strings
import Derived.Test.YtkahbhfbgdbnfaaGreatDoorJ1
import Derived.Test.YtkahbhfbgdbnfaaGreatDoorJ2
namespace Go.Proofs.YtkahbhfbgdbnfaaGreatDoor
open Go.RowKit

/-- A token without its place. -/
structure AT where
  kind : Nat
  text : List UInt8

/-- A tree: each node with the number of its token. -/
inductive Tree
  | mk (op : Nat) (name typ : List UInt8) (n : Int) (pos : Nat) (kids : List Tree)
def Tree.op : Tree → Nat | .mk o _ _ _ _ _ => o
def Tree.name : Tree → List UInt8 | .mk _ s _ _ _ _ => s
def Tree.typ : Tree → List UInt8 | .mk _ _ s _ _ _ => s
def Tree.n : Tree → Int | .mk _ _ _ n _ _ => n
def Tree.pos : Tree → Nat | .mk _ _ _ _ p _ => p
def Tree.kids : Tree → List Tree | .mk _ _ _ _ _ k => k
def Tree.zero : Tree := .mk 0 [] [] 0 0 []
def hd (l : List Tree) : Tree := l.headD Tree.zero
/-- One kid more, ahead of the others. -/
def attach (l : Tree) : Tree → Tree | .mk o s ty n p ks => .mk o s ty n p (l :: ks)

inductive NT
  | decls | parts | params | stmts | stmt | branch | binary (l : Nat) | tail (l : Nat) | unary | fields | args

inductive Pr (α : Type) : Type
  | ret (a : α)
  | fail (e : Nat)
  | peek (k : Nat → AT → Pr α)
  | next (p : Pr α)
  | call (nt : NT) (d : Nat) (k : List Tree → Pr α)

def Pr.bind {α β : Type} : Pr α → (α → Pr β) → Pr β
  | .ret a, f => f a
  | .fail e, _ => .fail e
  | .peek k, f => .peek fun i t => (k i t).bind f
  | .next p, f => .next (p.bind f)
  | .call nt d k, f => .call nt d fun ts => (k ts).bind f

inductive Res (α : Type) : Type
  | ok (a : α) (j : Nat)
  | bad (j e : Nat)

abbrev Callee := NT → Nat → Nat → Option (Res (List Tree))

def runW {α : Type} (T : Nat → AT) (c : Callee) : Pr α → Nat → Option (Res α)
  | .ret a, i => some (.ok a i)
  | .fail e, i => some (.bad i e)
  | .peek k, i => runW T c (k i (T i)) i
  | .next p, i => runW T c p (i + 1)
  | .call nt d k, i => match c nt d i with
    | none => none
    | some (.bad j e) => some (.bad j e)
    | some (.ok ts j) => runW T c (k ts) j

def then_ {α β : Type} (r : Option (Res α)) (f : α → Nat → Option (Res β)) : Option (Res β) := match r with
  | none => none
  | some (.bad j e) => some (.bad j e)
  | some (.ok a j) => f a j
theorem runW_bind {α β : Type} (T : Nat → AT) (c : Callee) (p : Pr α) (f : α → Pr β) (i : Nat) : runW T c (p.bind f) i = then_ (runW T c p i) fun a j => runW T c (f a) j := by
  induction p generalizing i with
  | ret a => rfl
  | fail e => rfl
  | peek k ih => exact ih i (T i) i
  | next p ih => exact ih (i + 1)
  | call nt d k ih =>
    simp only [Pr.bind, runW]
    split
    · rfl
    · rfl
    · exact ih _ _
theorem runW_mono {α : Type} {T : Nat → AT} {c c' : Callee} (h : ∀ nt d i r, c nt d i = some r → c' nt d i = some r) (p : Pr α) : ∀ (i : Nat) (r : Res α), runW T c p i = some r → runW T c' p i = some r := by
  induction p with
  | ret a => intro i r hr; exact hr
  | fail e => intro i r hr; exact hr
  | peek k ih => intro i r hr; exact ih _ _ _ _ hr
  | next p ih => intro i r hr; exact ih _ _ hr
  | call nt d k ih =>
    intro i r hr
    simp only [runW] at hr ⊢
    cases hc : c nt d i with
    | none => rw [hc] at hr; cases hr
    | some x =>
      rw [hc] at hr
      rw [h _ _ _ _ hc]
      cases x with
      | ok ts j => exact ih _ _ _ hr
      | bad j e => exact hr

@[reducible] def kType : List UInt8 := [116, 121, 112, 101]
@[reducible] def kStruct : List UInt8 := [115, 116, 114, 117, 99, 116]
@[reducible] def kFunc : List UInt8 := [102, 117, 110, 99]
@[reducible] def kVar : List UInt8 := [118, 97, 114]
@[reducible] def kIf : List UInt8 := [105, 102]
@[reducible] def kElse : List UInt8 := [101, 108, 115, 101]
@[reducible] def kFor : List UInt8 := [102, 111, 114]
@[reducible] def kReturn : List UInt8 := [114, 101, 116, 117, 114, 110]
@[reducible] def kPrint : List UInt8 := [112, 114, 105, 110, 116]
@[reducible] def kNew : List UInt8 := [110, 101, 119]
@[reducible] def kNil : List UInt8 := [110, 105, 108]
@[reducible] def kTrue : List UInt8 := [116, 114, 117, 101]
@[reducible] def kFalse : List UInt8 := [102, 97, 108, 115, 101]
@[reducible] def kInt : List UInt8 := [105, 110, 116]
@[reducible] def kBool : List UInt8 := [98, 111, 111, 108]
@[reducible] def kRead : List UInt8 := [114, 101, 97, 100]
@[reducible] def cLB : List UInt8 := [40]
@[reducible] def cRB : List UInt8 := [41]
@[reducible] def cLC : List UInt8 := [123]
@[reducible] def cRC : List UInt8 := [125]
@[reducible] def cSemi : List UInt8 := [59]
@[reducible] def cComma : List UInt8 := [44]
@[reducible] def cDot : List UInt8 := [46]
@[reducible] def cStar : List UInt8 := [42]
@[reducible] def cEq : List UInt8 := [61]
@[reducible] def cDef : List UInt8 := [58, 61]
@[reducible] def cOr : List UInt8 := [124, 124]
@[reducible] def cAnd : List UInt8 := [38, 38]

/-- How the ops are written, by number. -/
def signTab : List (List UInt8) := [[], [43], [45], [42], [47], [37], [38], [124], [94], [60, 60], [62, 62], [61, 61], [33, 61], [60], [60, 61], [62], [62, 61], [45], [33]]
def signL (op : Int) : List UInt8 := if op < 1 ∨ 18 < op then [] else signTab.getD op.toNat []
def signS (op : Int) : ByteArray := ⟨(signL op).toArray⟩
/-- The first place from k on, of n, whose sign is l; 0. -/
def findN (l : List UInt8) : Nat → Nat → Int
  | _, 0 => 0
  | k, n + 1 => if signTab.getD k [] = l then (k : Int) else findN l (k + 1) n
def levelV (op : Int) : Int :=
  if op = 3 ∨ op = 4 ∨ op = 5 ∨ op = 9 ∨ op = 10 ∨ op = 6 then 5 else if op = 1 ∨ op = 2 ∨ op = 7 ∨ op = 8 then 4
  else if op = 11 ∨ op = 12 ∨ op = 13 ∨ op = 14 ∨ op = 15 ∨ op = 16 then 3 else 0
theorem levelV_nn (op : Int) : 0 ≤ levelV op ∧ levelV op ≤ 5 := by unfold levelV; (repeat' split) <;> omega
def lvl (t : List UInt8) : Nat := if t = cOr then 1 else if t = cAnd then 2 else (levelV (findN t 1 16)).toNat
def numN (l : List UInt8) : Int := (val 0 l : Nat)

/-- A sign with what stands behind it: all but its first kid. -/
def half (t : AT) (i : Nat) (r : Tree) : Tree := if t.text = cOr then .mk 26 [] [] 0 i [r] else if t.text = cAnd then .mk 25 [] [] 0 i [r] else .mk 24 [] [] (findN t.text 1 16) i [r]
def bare (p : Nat × List UInt8) : Tree := .mk 20 p.2 [] 0 p.1 []
/-- A field that is put: h what stands ahead of the name f, then the others. -/
def putT (h f : Tree) : List Tree → Tree → Tree
  | [], v => .mk 9 f.name [] 0 f.pos [h, v]
  | g :: fs, v => putT (attach h f) g fs v

def need (s : List UInt8) : Pr Nat := .peek fun i t => if t.text = s then .next (.ret i) else .fail 1
def word : Pr (Nat × List UInt8) := .peek fun i t => if t.kind = 1 then .next (.ret (i, t.text)) else .fail 1
def enter (d : Nat) (s : List UInt8) : Pr Nat := .peek fun i t => if t.text = s then (if d = 40 then .fail 3 else .next (.ret i)) else .fail 1
def typ : Pr (List UInt8) := .peek fun _ t => if t.text = kInt then .next (.ret kInt) else if t.text = kBool then .next (.ret kBool) else (need cStar).bind fun _ => word.bind fun p => .ret (42 :: p.2)
def typed (op : Nat) : Pr Tree := word.bind fun p => typ.bind fun ty => .ret (.mk op p.2 ty 0 p.1 [])
def named (op : Nat) : Pr Tree := (typed op).bind fun x => (need cSemi).bind fun _ => .ret x
def one (nt : NT) (d : Nat) : Pr Tree := .call nt d fun ts => .ret (hd ts)
def expr (d : Nat) : Pr Tree := one (.binary 1) d
def block (d : Nat) : Pr Tree := (enter d cLC).bind fun i => .call .stmts (d + 1) fun ks => .ret (.mk 6 [] [] 0 i ks)
def structure_ : Pr Tree := word.bind fun p => (need kStruct).bind fun _ => (need cLC).bind fun _ => .call .parts 0 fun ks => .ret (.mk 2 p.2 [] 0 p.1 ks)
def fparts : Pr (List Tree) := (need cLB).bind fun _ => .peek fun _ t => if t.text = cRB then .next (.ret []) else (typed 5).bind fun x => .call .params 0 fun xs => .ret (x :: xs)
def function (d : Nat) : Pr Tree := word.bind fun p => fparts.bind fun ks => (Pr.peek fun _ t => if t.text = cLC then .ret [] else typ).bind fun ty => (block d).bind fun b => .ret (.mk 4 p.2 ty 0 p.1 (ks ++ [b]))
def decl (d : Nat) : Pr Tree := .peek fun _ t => if t.text = kType then .next structure_ else if t.text = kVar then .next (named 3) else if t.text = kFunc then .next (function d) else .fail 1
def args (d : Nat) : Pr (List Tree) := (enter d cLB).bind fun _ => .peek fun _ t => if t.text = cRB then (need cRB).bind fun _ => .ret [] else (expr (d + 1)).bind fun x => .call .args (d + 1) fun xs => .ret (x :: xs)
def brack (d : Nat) : Pr Tree := (enter d cLB).bind fun _ => (expr (d + 1)).bind fun x => (need cRB).bind fun _ => .ret x
def varOrCall (d : Nat) : Pr Tree := word.bind fun p => .peek fun _ t => if t.text = cLB then (args d).bind fun ks => .ret (.mk 21 p.2 [] 0 p.1 ks) else .ret (.mk 18 p.2 [] 0 p.1 [])
def creation : Pr Tree := (need kNew).bind fun _ => (need cLB).bind fun _ => word.bind fun p => (need cRB).bind fun _ => .ret (.mk 19 p.2 [] 0 p.1 [])
def input : Pr Tree := (need kRead).bind fun i => (need cLB).bind fun _ => (need cRB).bind fun _ => .ret (.mk 22 [] [] 0 i [])
def primary (d : Nat) : Pr Tree := .peek fun i t =>
  if t.kind = 3 then .next (.ret (.mk 15 [] [] (numN t.text) i []))
  else if t.kind = 1 then varOrCall d
  else if t.text = kTrue then .next (.ret (.mk 16 [] [] 1 i []))
  else if t.text = kFalse then .next (.ret (.mk 16 [] [] 0 i []))
  else if t.text = kNil then .next (.ret (.mk 17 [] [] 0 i []))
  else if t.text = kNew then creation
  else if t.text = kRead then input
  else if t.text = cLB then brack d
  else .fail 1
def fieldName : Pr (Nat × List UInt8) := (need cDot).bind fun _ => word
def postfix_ (d : Nat) : Pr Tree := (primary d).bind fun x => .call .fields d fun fs => .ret (fs.foldl (fun a b => attach a b) x)
def setting (op : Nat) (h : Tree) (d : Nat) : Pr Tree := (expr d).bind fun v => (need cSemi).bind fun _ => .ret (.mk op h.name [] 0 h.pos [v])
def put (h : Tree) (d : Nat) : Pr Tree := fieldName.bind fun p => .call .fields d fun fs => (need cEq).bind fun _ => (expr d).bind fun v => (need cSemi).bind fun _ => .ret (putT h (bare p) fs v)
def simple (d : Nat) : Pr Tree := .peek fun _ t => (primary d).bind fun h => .peek fun _ t2 =>
  if t.kind = 1 ∧ h.op = 21 ∧ t2.text = cSemi then .next (.ret (.mk 14 [] [] 0 h.pos [h]))
  else if t.kind = 1 ∧ h.op = 18 ∧ t2.text = cDef then .next (setting 7 h d)
  else if t.kind = 1 ∧ h.op = 18 ∧ t2.text = cEq then .next (setting 8 h d)
  else put h d
def loop (d : Nat) : Pr Tree := (need kFor).bind fun i => (expr d).bind fun c => (block d).bind fun b => .ret (.mk 11 [] [] 0 i [c, b])
def print (d : Nat) : Pr Tree := (need kPrint).bind fun i => (brack d).bind fun x => (need cSemi).bind fun _ => .ret (.mk 12 [] [] 0 i [x])
def giveBack (d : Nat) : Pr Tree := (need kReturn).bind fun i => (Pr.peek fun _ t => if t.text = cSemi then .ret [] else (expr d).bind fun x => .ret [x]).bind fun ks => (need cSemi).bind fun _ => .ret (.mk 13 [] [] 0 i ks)
def other (d : Nat) : Pr Tree := .peek fun _ t => if t.text = kIf then one .branch d else block d
def branch (d : Nat) : Pr Tree := (need kIf).bind fun i => (expr d).bind fun c => (block d).bind fun b => .peek fun _ t => if t.text = kElse then .next ((other d).bind fun e => .ret (.mk 10 [] [] 0 i [c, b, e])) else .ret (.mk 10 [] [] 0 i [c, b])
def stmt (d : Nat) : Pr Tree := .peek fun _ t => if t.text = kIf then one .branch d else if t.text = kFor then loop d else if t.text = kPrint then print d else if t.text = kReturn then giveBack d else simple d
def unary (d : Nat) : Pr Tree := .peek fun i t => if findN t.text 17 2 = 0 then postfix_ d else (enter d t.text).bind fun _ => (one .unary (d + 1)).bind fun x => .ret (.mk 23 [] [] (findN t.text 17 2) i [x])
def binary (l d : Nat) : Pr Tree := .call .unary d fun xs => .call (.tail l) d fun hs => .ret (hs.foldl (fun a b => attach a b) (hd xs))

def single (p : Pr Tree) : Pr (List Tree) := p.bind fun x => .ret [x]
def body : NT → Nat → Pr (List Tree)
  | .decls, d => .peek fun _ t => if t.kind = 0 then .ret [] else (decl d).bind fun x => .call .decls d fun xs => .ret (x :: xs)
  | .parts, d => .peek fun _ t => if t.text = cRC then .next (.ret []) else (named 5).bind fun x => .call .parts d fun xs => .ret (x :: xs)
  | .params, d => .peek fun _ t => if t.text = cComma then .next ((typed 5).bind fun x => .call .params d fun xs => .ret (x :: xs)) else (need cRB).bind fun _ => .ret []
  | .stmts, d => .peek fun _ t => if t.text = cRC then .next (.ret []) else .call .stmt d fun x => .call .stmts d fun xs => .ret (hd x :: xs)
  | .stmt, d => single (stmt d)
  | .branch, d => single (branch d)
  | .binary l, d => single (binary l d)
  | .tail l, d => .peek fun i t => if lvl t.text < l then .ret [] else .next (.call (.binary (lvl t.text + 1)) d fun rs => .call (.tail l) d fun hs => .ret (half t i (hd rs) :: hs))
  | .unary, d => single (unary d)
  | .fields, d => .peek fun _ t => if t.text = cDot then fieldName.bind fun p => .call .fields d fun fs => .ret (bare p :: fs) else .ret []
  | .args, d => .peek fun _ t => if t.text = cComma then .next ((expr d).bind fun x => .call .args d fun xs => .ret (x :: xs)) else (need cRB).bind fun _ => .ret []

def P (T : Nat → AT) : Nat → Callee
  | 0 => fun _ _ _ => none
  | n + 1 => fun nt d i => runW T (P T n) (body nt d) i

theorem P_succ (T : Nat → AT) (n : Nat) : ∀ nt d i r, P T n nt d i = some r → P T (n + 1) nt d i = some r := by
  induction n with
  | zero => intro nt d i r h; cases h
  | succ n ih => intro nt d i r h; exact runW_mono ih _ _ _ h
theorem P_mono (T : Nat → AT) {n k : Nat} (h : n ≤ k) : ∀ nt d i r, P T n nt d i = some r → P T k nt d i = some r := by
  induction h with
  | refl => intro nt d i r h; exact h
  | step _ ih => intro nt d i r h; exact P_succ T _ _ _ _ _ (ih _ _ _ _ h)
theorem runW_at (T : Nat → AT) {n k : Nat} (h : n ≤ k) {α : Type} (p : Pr α) (i : Nat) (r : Res α) (hr : runW T (P T n) p i = some r) : runW T (P T k) p i = some r := runW_mono (P_mono T h) p i r hr
/-- Two answers are one, whatever the fuel. -/
theorem P_one (T : Nat → AT) {n k : Nat} {nt d i r r'} (h : P T n nt d i = some r) (h' : P T k nt d i = some r') : r = r' := by
  rcases Nat.le_total n k with g | g
  · have := P_mono T g _ _ _ _ h; rw [this] at h'; exact Option.some.inj h'
  · have := P_mono T g _ _ _ _ h'; rw [this] at h; exact (Option.some.inj h).symm

end Go.Proofs.YtkahbhfbgdbnfaaGreatDoor

/-
  CONTRACT: tokenAt at every text of at most 2^48 bytes and every place in it, in a world in which the listed variables lie as the program's text lays them; of what was there nothing has turned.
-/
namespace Go.Proofs.YtkahbhfbgdbnfaaGreatDoor
open Go.RowKit

/-- What the laws' rows list, as the contracts want it. -/
def SignsIn (w : World) : Prop := ∀ i : Nat, i < 19 → w.cell? ⟨2, i, none⟩ = some (.string ⟨(signTab.getD i []).toArray⟩)
theorem SignsIn.below {w w' : World} {B : Nat} (h : SignsIn w) (hb : Below B w w') (hB : 2 < B) : SignsIn w' := fun i hi => (hb.cell (p := ⟨2, i, none⟩) hB).trans (h i hi)
structure Good (w : World) : Prop where
  signs : SignsIn w
  keys : KeysIn w
  longs : LongsIn w
  rng : RngIn w
  size : 8 ≤ w.heap.size
theorem Good.low {w w' : World} (h : Good w) (hb : Below 8 w w') : Good w' where
  signs := h.signs.below hb (by omega)
  keys := h.keys.below hb (by omega)
  longs := h.longs.below hb (by omega)
  rng := rng_below h.rng hb (by omega)
  size := Nat.le_trans h.size hb.size
theorem Good.below {w w' : World} (h : Good w) (hb : Below w.heap.size w w') : Good w' where
  signs := h.signs.below hb (by have := h.size; omega)
  keys := h.keys.below hb (by have := h.size; omega)
  longs := h.longs.below hb (by have := h.size; omega)
  rng := rng_below h.rng hb (by have := h.size; omega)
  size := Nat.le_trans h.size hb.size
theorem Good.alloc {w : World} (h : Good w) (o : Obj) : Good (w.alloc o) := h.below ((Below.refl _ _).alloc (Nat.le_refl _) _)

theorem tkOf_form (s : ByteArray) (k : Nat) (t : Tk) : ∃ a x b c, tkOf s k t = tkV a x b c := by
  unfold tkOf; split
  · exact ⟨_, _, _, _, rfl⟩
  · exact ⟨_, _, _, _, rfl⟩
theorem tokAt_let {s : ByteArray} {k : Nat} (hk : k < s.size) (h : letB s[k] = true) : tokAt s.data.toList k = wordT (s.data.toList.drop k) := by
  unfold tokAt
  rw [List.drop_eq_getElem_cons (by rw [len_size]; exact hk)]
  exact tokT_let _ h
theorem tokAt_dig {s : ByteArray} {k : Nat} (hk : k < s.size) (h : letB s[k] = false) (hd : digB s[k] = true) : tokAt s.data.toList k = numT (s.data.toList.drop k) := by
  unfold tokAt
  rw [List.drop_eq_getElem_cons (by rw [len_size]; exact hk)]
  exact tokT_dig _ h hd
theorem tokAt_sign {s : ByteArray} {k : Nat} (hk : k < s.size) (h : letB s[k] = false) (hd : digB s[k] = false) : tokAt s.data.toList k = signT (s.data.toList.drop k) s[k] := by
  unfold tokAt
  rw [List.drop_eq_getElem_cons (by rw [len_size]; exact hk)]
  exact tokT_sign _ h hd

set_option maxRecDepth 100000 in
set_option maxHeartbeats 400000 in
theorem tokenAt_any (s : ByteArray) (k : Nat) (a : Int) (x : ByteArray) (b c : Int) (w : World) (hs : s.size ≤ 281474976710656) (hk : k < s.size) (G : Good w) (hr : Hid (tkOf s k (tokAt s.data.toList k) = tkV a x b c)) :
    Calls Tryz.prog 88 #[.string s, .int .i64 k] w fun e w' => e = .returned (.tuple #[.agg #[.int .i64 a, .string x, .int .i64 b], .int .i64 c]) ∧ Below w.heap.size w w' := by
  have G2 := G.alloc (.cells #[.int .i64 0, .string ⟨#[]⟩, .int .i64 0] 108)
  clear G
  cases h1 : letB s[k] with
  | true =>
    rw [tokAt_let hk h1] at hr
    have hc : Calls Tryz.prog 122 #[.string s, .int .i64 k] (w.alloc (.cells #[.int .i64 0, .string ⟨#[]⟩, .int .i64 0] 108)) fun e w' => e = .returned (.tuple #[.agg #[.int .i64 a, .string x, .int .i64 b], .int .i64 c]) ∧ Below (w.alloc (.cells #[.int .i64 0, .string ⟨#[]⟩, .int .i64 0] 108)).heap.size (w.alloc (.cells #[.int .i64 0, .string ⟨#[]⟩, .int .i64 0] 108)) w' := wordAt_any s k _ _ hs hk G2.keys hr
    have HC := Lib.hid hc
    have H1 := Lib.hid h1
    clear hc h1 hr G2
    go_enter Tryz.func88, Tryz.ntmps88
    go_wp2_with (go_at_call 114; refine (isLetter_to _ true _ H1).mono ?_; rintro e w' ⟨rfl, rfl⟩)
    refine HC.out.mono ?_
    rintro e w1 ⟨rfl, hb⟩
    obtain ⟨hc, hf⟩ := bcell hb
    have hz : w.heap.size < w1.heap.size := by have := hb.size; simp at this; omega
    go_wp2_with fail
    exact bodyPost_ret (v := tkV a x b c) (by simp [results, Tryz.results88, go_sem, tkV, hc]) rfl ⟨rfl, below3 hb _ _ _⟩
  | false =>
    have H1 := Lib.hid h1
    cases h2 : digB s[k] with
    | true =>
      rw [tokAt_dig hk h1 h2] at hr
      have hc : Calls Tryz.prog 124 #[.string s, .int .i64 k] (w.alloc (.cells #[.int .i64 0, .string ⟨#[]⟩, .int .i64 0] 108)) fun e w' => e = .returned (.tuple #[.agg #[.int .i64 a, .string x, .int .i64 b], .int .i64 c]) ∧ Below (w.alloc (.cells #[.int .i64 0, .string ⟨#[]⟩, .int .i64 0] 108)).heap.size (w.alloc (.cells #[.int .i64 0, .string ⟨#[]⟩, .int .i64 0] 108)) w' := numberAt_any s k _ _ hs hk (Lib.hid h2) G2.rng (by have := G2.size; omega) hr
      have HC := Lib.hid hc
      have H2 := Lib.hid h2
      clear hc h1 h2 hr G2
      go_enter Tryz.func88, Tryz.ntmps88
      go_wp2_with (first | (go_at_call 114; refine (isLetter_to _ false _ H1).mono ?_; rintro e w' ⟨rfl, rfl⟩) | (go_at_call 123; refine (isDigit_to _ true _ H2).mono ?_; rintro e w' ⟨rfl, rfl⟩))
      refine HC.out.mono ?_
      rintro e w1 ⟨rfl, hb⟩
      obtain ⟨hc, hf⟩ := bcell hb
      have hz : w.heap.size < w1.heap.size := by have := hb.size; simp at this; omega
      go_wp2_with fail
      exact bodyPost_ret (v := tkV a x b c) (by simp [results, Tryz.results88, go_sem, tkV, hc]) rfl ⟨rfl, below3 hb _ _ _⟩
    | false =>
      rw [tokAt_sign hk h1 h2] at hr
      have hc : Calls Tryz.prog 125 #[.string s, .int .i64 k] (w.alloc (.cells #[.int .i64 0, .string ⟨#[]⟩, .int .i64 0] 108)) fun e w' => e = .returned (.tuple #[.agg #[.int .i64 a, .string x, .int .i64 b], .int .i64 c]) ∧ Below (w.alloc (.cells #[.int .i64 0, .string ⟨#[]⟩, .int .i64 0] 108)).heap.size (w.alloc (.cells #[.int .i64 0, .string ⟨#[]⟩, .int .i64 0] 108)) w' := signAt_any s k _ _ hs hk G2.longs hr
      have HC := Lib.hid hc
      have H2 := Lib.hid h2
      clear hc h1 h2 hr G2
      go_enter Tryz.func88, Tryz.ntmps88
      go_wp2_with (first | (go_at_call 114; refine (isLetter_to _ false _ H1).mono ?_; rintro e w' ⟨rfl, rfl⟩) | (go_at_call 123; refine (isDigit_to _ false _ H2).mono ?_; rintro e w' ⟨rfl, rfl⟩))
      refine HC.out.mono ?_
      rintro e w1 ⟨rfl, hb⟩
      obtain ⟨hc, hf⟩ := bcell hb
      have hz : w.heap.size < w1.heap.size := by have := hb.size; simp at this; omega
      go_wp2_with fail
      exact bodyPost_ret (v := tkV a x b c) (by simp [results, Tryz.results88, go_sem, tkV, hc]) rfl ⟨rfl, below3 hb _ _ _⟩

end Go.Proofs.YtkahbhfbgdbnfaaGreatDoor

/-
  CONTRACTS: strings.CutPrefix at *, Elem of package kind. The world is as it was.
-/
namespace Go.Proofs.YtkahbhfbgdbnfaaGreatDoor
open Go.RowKit

def starB (t : ByteArray) : Bool := Lib.hasPrefix t.data.toList [42]
def tailOf (t : ByteArray) : ByteArray := t.extract 1 t.size
def elemO (t : ByteArray) : Option ByteArray := if starB t && wordB (tailOf t).data.toList then some (tailOf t) else none
def starT : ByteArray := ⟨#[42]⟩
theorem star_nil : starB ⟨#[]⟩ = false := by decide
theorem star_head (s : ByteArray) (h : 0 < s.size) : starB s = decide (s[0].toNat = 42) := by
  obtain ⟨r, hr⟩ := head_at s h
  unfold starB
  rw [hr]
  unfold Lib.hasPrefix
  simp only [List.isPrefixOf, Bool.and_true]
  rw [Bool.eq_iff_iff, beq_iff_eq, decide_eq_true_eq]
  constructor
  · intro e; rw [← e]; rfl
  · intro e; exact (UInt8.toNat_inj.1 (by rw [e]; rfl)).symm
theorem head_extract (s : ByteArray) (h : 0 < s.size) : (s.extract 0 1).data.toList = [s[0]] := by
  obtain ⟨r, hr⟩ := head_at s h
  rw [ByteArray.data_extract, Array.toList_extract, List.extract_eq_take_drop, hr]; rfl

set_option maxRecDepth 100000 in
set_option maxHeartbeats 400000 in
theorem hasStar_any (s : ByteArray) (b : Bool) (w : World) (hb : Hid (starB s = b)) :
    Calls Tryz.prog 160 #[.string s, .string ⟨#[42]⟩] w fun e w' => e = .returned (.bool b) ∧ w = w' := by
  by_cases h0 : s.size = 0
  · have := size_zero h0
    subst this
    obtain rfl : b = false := hb.out.symm.trans star_nil
    clear hb h0
    go_enter Tryz.func160, Tryz.ntmps160
    go_wp2_with fail
    go_ret
    exact ⟨rfl, rfl⟩
  · have hp : 0 < s.size := by omega
    have h1 : (1 : Int) ≤ (s.size : Int) := by omega
    have h1' : 1 ≤ s.size := by omega
    have h2 : ((s.extract 0 1).toList == [42]) = b := by
      rw [ByteArray.toList_eq, head_extract s hp, ← hb.out, star_head s hp, Bool.eq_iff_iff, beq_iff_eq, decide_eq_true_eq]
      constructor
      · intro e; injection e with e; rw [e]; rfl
      · intro e; rw [UInt8.toNat_inj.1 (show s[0].toNat = (42 : UInt8).toNat from e)]
    clear hb h0 hp
    go_enter Tryz.func160, Tryz.ntmps160
    go_wp2_with fail
    go_ret
    exact ⟨rfl, rfl⟩

theorem star_size {s : ByteArray} (h : starB s = true) : 0 < s.size := by
  rcases Nat.eq_zero_or_pos s.size with h0 | h0
  · rw [size_zero h0, star_nil] at h; cases h
  · exact h0
theorem cutL_yes (s : ByteArray) (w : World) (hb : Hid (starB s = true)) :
    Calls Tryz.prog 175 #[.string s, .string ⟨#[42]⟩] w fun e w' => e = .returned (.tuple #[.string (tailOf s), .bool true]) ∧ w = w' := by
  have h1 := star_size hb.out
  have h2 : (1 : Int) ≤ (s.size : Int) := by omega
  go_enter Tryz.func175, Tryz.ntmps175
  go_wp2_with (go_at_call 160; refine (hasStar_any _ true _ hb).mono ?_; rintro e w' ⟨rfl, rfl⟩)
  go_ret2
  exact ⟨rfl, rfl⟩
theorem cutL_no (s : ByteArray) (w : World) (hb : Hid (starB s = false)) :
    Calls Tryz.prog 175 #[.string s, .string ⟨#[42]⟩] w fun e w' => e = .returned (.tuple #[.string s, .bool false]) ∧ w = w' := by
  go_enter Tryz.func175, Tryz.ntmps175
  go_wp2_with (go_at_call 160; refine (hasStar_any _ false _ hb).mono ?_; rintro e w' ⟨rfl, rfl⟩)
  go_ret2
  exact ⟨rfl, rfl⟩
theorem cut_yes (s : ByteArray) (w : World) (hb : Hid (starB s = true)) :
    Calls Tryz.prog 159 #[.string s, .string ⟨#[42]⟩] w fun e w' => e = .returned (.tuple #[.string (tailOf s), .bool true]) ∧ w = w' := by
  go_enter Tryz.func159, Tryz.ntmps159
  go_wp2_with (go_at_call 175; refine (cutL_yes _ _ hb).mono ?_; rintro e w' ⟨rfl, rfl⟩)
  go_ret2
  exact ⟨rfl, rfl⟩
theorem cut_no (s : ByteArray) (w : World) (hb : Hid (starB s = false)) :
    Calls Tryz.prog 159 #[.string s, .string ⟨#[42]⟩] w fun e w' => e = .returned (.tuple #[.string s, .bool false]) ∧ w = w' := by
  go_enter Tryz.func159, Tryz.ntmps159
  go_wp2_with (go_at_call 175; refine (cutL_no _ _ hb).mono ?_; rintro e w' ⟨rfl, rfl⟩)
  go_ret2
  exact ⟨rfl, rfl⟩

theorem isWord_to (s : ByteArray) (b : Bool) (w : World) (hK : Hid (KeysIn w)) (h : Hid (wordB s.data.toList = b)) : Calls Tryz.prog 85 #[.string s] w fun e w' => e = .returned (.bool b) ∧ w = w' := by
  by_cases hs : s.size ≤ 281474976710656
  · rw [← h.out]; exact isWord_any s w hs hK.out
  · have h0 : s.toList.isEmpty = false := size_pos_isEmpty (by omega)
    have hi : (12 : Int) < (s.size : Int) := by omega
    obtain rfl : b = false := h.out.symm.trans (by unfold wordB; rw [len_size, decide_eq_false (by omega)]; rfl)
    go_enter Tryz.func85, Tryz.ntmps85
    go_wp2_with fail
    go_ret
    exact ⟨rfl, rfl⟩

def elemV : Option ByteArray → Value
  | some n => .tuple #[.string n, .bool true]
  | none => .tuple #[.string ⟨#[]⟩, .bool false]

set_option maxRecDepth 100000 in
set_option maxHeartbeats 400000 in
theorem elem_any (t : ByteArray) (r : Option ByteArray) (w : World) (hK : Hid (KeysIn w)) (hr : Hid (elemO t = r)) :
    Calls Tryz.prog 138 #[.string t] w fun e w' => e = .returned (elemV r) ∧ w = w' := by
  cases h1 : starB t with
  | false =>
    obtain rfl : r = none := hr.out.symm.trans (by unfold elemO; rw [h1]; rfl)
    have H1 := Lib.hid h1
    clear h1 hr
    go_enter Tryz.func138, Tryz.ntmps138
    go_wp2_with (go_at_call 159; refine (cut_no _ _ H1).mono ?_; rintro e w' ⟨rfl, rfl⟩)
    go_ret2
    exact ⟨rfl, rfl⟩
  | true =>
    have H1 := Lib.hid h1
    cases h2 : wordB (tailOf t).data.toList with
    | false =>
      obtain rfl : r = none := hr.out.symm.trans (by unfold elemO; rw [h1, h2]; rfl)
      have H2 := Lib.hid h2
      clear h1 hr h2
      go_enter Tryz.func138, Tryz.ntmps138
      go_wp2_with (first | (go_at_call 159; refine (cut_yes _ _ H1).mono ?_; rintro e w' ⟨rfl, rfl⟩) | (go_at_call 85; refine (isWord_to _ false _ hK H2).mono ?_; rintro e w' ⟨rfl, rfl⟩))
      go_ret2
      exact ⟨rfl, rfl⟩
    | true =>
      obtain rfl : r = some (tailOf t) := hr.out.symm.trans (by unfold elemO; rw [h1, h2]; rfl)
      have H2 := Lib.hid h2
      clear h1 hr h2
      go_enter Tryz.func138, Tryz.ntmps138
      go_wp2_with (first | (go_at_call 159; refine (cut_yes _ _ H1).mono ?_; rintro e w' ⟨rfl, rfl⟩) | (go_at_call 85; refine (isWord_to _ true _ hK H2).mono ?_; rintro e w' ⟨rfl, rfl⟩))
      go_ret2
      exact ⟨rfl, rfl⟩


end Go.Proofs.YtkahbhfbgdbnfaaGreatDoor

/-
  PLAIN: functions that say what the functions of package kind answer, over lists; and facts about them. Nothing of the program stands here. No condition.
-/
namespace Go.Proofs.YtkahbhfbgdbnfaaGreatDoor
open Go.RowKit

structure Fld where
  name : ByteArray
  typ : ByteArray
structure Str where
  name : ByteArray
  fields : List Fld

def eqB (a b : ByteArray) : Bool := a.data.toList == b.data.toList
theorem eqB_iff {a b : ByteArray} : eqB a b = true ↔ a = b := by
  unfold eqB; rw [beq_iff_eq]
  exact ⟨Go.WideShapes.bytes_inj, fun h => by rw [h]⟩
theorem eqB_ne {a b : ByteArray} (h : a ≠ b) : eqB a b = false := by
  cases he : eqB a b with
  | false => rfl
  | true => exact absurd (eqB_iff.1 he) h
theorem eqB_spell {a b : ByteArray} {x : Bool} (h : eqB a b = x) : (a.toList == b.toList) = x := by
  rw [ByteArray.toList_eq, ByteArray.toList_eq]; exact h

/-- The first place from k on at which f is true, of n. -/
def fstN (f : Nat → Bool) : Nat → Nat → Option Nat
  | 0, _ => none
  | m + 1, k => if f k then some k else fstN f m (k + 1)
def fst (f : Nat → Bool) (n k : Nat) : Option Nat := fstN f (n - k) k
theorem fst_end {f : Nat → Bool} {n k : Nat} (h : n ≤ k) : fst f n k = none := by
  unfold fst; rw [show n - k = 0 by omega]; rfl
theorem fst_hit {f : Nat → Bool} {n k : Nat} (h : k < n) (hf : f k = true) : fst f n k = some k := by
  unfold fst; rw [show n - k = (n - (k + 1)) + 1 by omega, fstN, if_pos hf]
theorem fst_next {f : Nat → Bool} {n k : Nat} (h : k < n) (hf : f k = false) : fst f n k = fst f n (k + 1) := by
  unfold fst; rw [show n - k = (n - (k + 1)) + 1 by omega, fstN, if_neg (by rw [hf]; decide)]
theorem fst_some {f : Nat → Bool} {n k i : Nat} (h : fst f n k = some i) : k ≤ i ∧ i < n ∧ f i = true ∧ ∀ j, k ≤ j → j < i → f j = false := by
  induction hm : n - k generalizing k with
  | zero => rw [fst_end (by omega)] at h; cases h
  | succ m ih =>
    cases hf : f k with
    | true =>
      rw [fst_hit (by omega) hf] at h
      obtain rfl := Option.some.inj h
      exact ⟨Nat.le_refl _, by omega, hf, fun j h1 h2 => by omega⟩
    | false =>
      rw [fst_next (by omega) hf] at h
      obtain ⟨a, b, c, d⟩ := ih h (by omega)
      refine ⟨by omega, b, c, fun j h1 h2 => ?_⟩
      rcases Nat.eq_or_lt_of_le h1 with e | e
      · exact e ▸ hf
      · exact d j e h2
theorem fst_none {f : Nat → Bool} {n k : Nat} (h : fst f n k = none) : ∀ j, k ≤ j → j < n → f j = false := by
  induction hm : n - k generalizing k with
  | zero => intro j h1 h2; omega
  | succ m ih =>
    cases hf : f k with
    | true => rw [fst_hit (by omega) hf] at h; cases h
    | false =>
      rw [fst_next (by omega) hf] at h
      intro j h1 h2
      rcases Nat.eq_or_lt_of_le h1 with e | e
      · exact e ▸ hf
      · exact ih h (by omega) j e h2
theorem fst_of {f : Nat → Bool} {n k i : Nat} (h1 : k ≤ i) (h2 : i < n) (h3 : f i = true) (h4 : ∀ j, k ≤ j → j < i → f j = false) : fst f n k = some i := by
  induction hm : i - k generalizing k with
  | zero =>
    obtain rfl : k = i := by omega
    exact fst_hit h2 h3
  | succ m ih =>
    rw [fst_next (by omega) (h4 k (Nat.le_refl _) (by omega))]
    exact ih (by omega) (fun j a b => h4 j (by omega) b) (by omega)
theorem fst_none_of {f : Nat → Bool} {n k : Nat} (h : ∀ j, k ≤ j → j < n → f j = false) : fst f n k = none := by
  cases hf : fst f n k with
  | none => rfl
  | some i =>
    obtain ⟨a, b, c, _⟩ := fst_some hf
    rw [h i a b] at c; cases c

def nameIs (ss : List Str) (n : ByteArray) (i : Nat) : Bool := match ss[i]? with | some s => eqB s.name n | none => false
def fldIs (fs : List Fld) (n : ByteArray) (k : Nat) : Bool := match fs[k]? with | some f => eqB f.name n | none => false
theorem nameIs_at {ss : List Str} {n : ByteArray} {i : Nat} {s : Str} (h : ss[i]? = some s) : nameIs ss n i = eqB s.name n := by unfold nameIs; rw [h]
theorem fldIs_at {fs : List Fld} {n : ByteArray} {k : Nat} {f : Fld} (h : fs[k]? = some f) : fldIs fs n k = eqB f.name n := by unfold fldIs; rw [h]
/-- The first struct, field of that name. -/
def fnd (ss : List Str) (n : ByteArray) : Option Nat := fst (nameIs ss n) ss.length 0
def plc (fs : List Fld) (n : ByteArray) : Option Nat := fst (fldIs fs n) fs.length 0

def tInt : ByteArray := ⟨#[105, 110, 116]⟩
def tBool : ByteArray := ⟨#[98, 111, 111, 108]⟩
def isT (ss : List Str) (t : ByteArray) : Bool := eqB t tInt || eqB t tBool || (starB t && (fnd ss (tailOf t)).isSome)

/-- The first nonzero from k on, with its place. -/
def firN (g : Nat → Nat) : Nat → Nat → Nat × Nat
  | 0, _ => (0, 0)
  | m + 1, k => if g k = 0 then firN g m (k + 1) else (k, g k)
def fir (g : Nat → Nat) (n k : Nat) : Nat × Nat := firN g (n - k) k
theorem fir_end {g : Nat → Nat} {n k : Nat} (h : n ≤ k) : fir g n k = (0, 0) := by unfold fir; rw [show n - k = 0 by omega]; rfl
theorem fir_hit {g : Nat → Nat} {n k : Nat} (h : k < n) (hf : g k ≠ 0) : fir g n k = (k, g k) := by
  unfold fir; rw [show n - k = (n - (k + 1)) + 1 by omega, firN, if_neg hf]
theorem fir_next {g : Nat → Nat} {n k : Nat} (h : k < n) (hf : g k = 0) : fir g n k = fir g n (k + 1) := by
  unfold fir; rw [show n - k = (n - (k + 1)) + 1 by omega, firN, if_pos hf]
theorem fir_ok {g : Nat → Nat} {n k : Nat} (h : (fir g n k).2 = 0) : ∀ j, k ≤ j → j < n → g j = 0 := by
  induction hm : n - k generalizing k with
  | zero => intro j h1 h2; omega
  | succ m ih =>
    by_cases hf : g k = 0
    · rw [fir_next (by omega) hf] at h
      intro j h1 h2
      rcases Nat.eq_or_lt_of_le h1 with e | e
      · exact e ▸ hf
      · exact ih h (by omega) j e h2
    · rw [fir_hit (by omega) hf] at h; exact absurd h hf
theorem fir_ext {g g' : Nat → Nat} {n k : Nat} (h : ∀ j, k ≤ j → j < n → g j = g' j) : fir g n k = fir g' n k := by
  induction hm : n - k generalizing k with
  | zero => rw [fir_end (by omega), fir_end (by omega)]
  | succ m ih =>
    have e := h k (Nat.le_refl _) (by omega)
    by_cases hf : g k = 0
    · rw [fir_next (by omega) hf, fir_next (g := g') (k := k) (by omega) (by rw [← e]; exact hf)]
      exact ih (fun j a b => h j (by omega) b) (by omega)
    · rw [fir_hit (by omega) hf, fir_hit (g := g') (k := k) (by omega) (by rw [← e]; exact hf), e]

/-- What is wrong with a field, a struct, a row: 0 is nothing. -/
def chkF (ss : List Str) (fs : List Fld) (k : Nat) : Nat := match fs[k]? with
  | none => 0
  | some f => if wordB f.name.data.toList = false then 1 else if plc fs f.name = some k then (if isT ss f.typ then 0 else 7) else 6
def chkS (ss : List Str) (i : Nat) : Nat := match ss[i]? with
  | none => 0
  | some s => if wordB s.name.data.toList = false then 1 else if (fnd (ss.take i) s.name).isSome then 6 else if 8 < s.fields.length then 4 else (fir (chkF ss s.fields) s.fields.length 0).2
def chk (ss : List Str) : Nat × Nat := if 12 < ss.length then (0, 4) else fir (chkS ss) ss.length 0

/-- The places of the links. -/
def linkB (fs : List Fld) (k : Nat) : Bool := match fs[k]? with | some f => (elemO f.typ).isSome | none => false
def links (fs : List Fld) (n : Nat) : List Nat := (List.range n).filter (linkB fs)
theorem links_succ_yes {fs : List Fld} {n : Nat} (h : linkB fs n = true) : links fs (n + 1) = links fs n ++ [n] := by
  unfold links; rw [List.range_succ, List.filter_append]; simp [h]
theorem links_succ_no {fs : List Fld} {n : Nat} (h : linkB fs n = false) : links fs (n + 1) = links fs n := by
  unfold links; rw [List.range_succ, List.filter_append]; simp [h]
theorem links_len (fs : List Fld) (n : Nat) : (links fs n).length ≤ n := by
  unfold links; have := List.length_filter_le (linkB fs) (List.range n); simpa using this

def tgt (ss : List Str) (t : ByteArray) : Option Nat := (elemO t).bind (fnd ss)

end Go.Proofs.YtkahbhfbgdbnfaaGreatDoor
