/-
  WORDS FOR MEMORY, for whatever program: a slice that reads as a list, each element by its own cells; a program of instructions as plain lists; what keeps them; and from the reading of an argument to them. No condition.
-/
import Derived.WalkKit
import Derived.Below
import Derived.ProofKit
import Derived.OpenShut
import Derived.Deep.Slices
namespace Go.Proofs.Ytpaddigjjlidcaa
open Go.ChangeShapes Go.WideShapes Go.ChangeAt Go.RowKit Go.Deep

abbrev Rdr (α : Type) : Type := World → List Value → α → Prop
/-- Cells from a place on. -/
def Cs (w : World) (b o : Nat) (cs : List Value) : Prop := ∀ k v, cs[k]? = some v → w.cell? ⟨b, o + k, none⟩ = some v
def SL {α : Type} (c : Nat) (R : Rdr α) (w : World) (A : Option Addr) (l : List α) : Prop :=
  0 < l.length → ∃ b o, A = some ⟨b, o, none⟩ ∧ b < w.heap.size ∧ ∀ i x, l[i]? = some x → ∃ cs, R w cs x ∧ Cs w b (o + i * c) cs
/-- What a reader reads it reads on, as long as nothing turns that was there. -/
structure Kp {α : Type} (R : Rdr α) : Prop where
  on : ∀ {w w' : World} {B : Nat} {cs : List Value} {x : α}, R w cs x → Below B w w' → w.heap.size ≤ B → R w' cs x
theorem Cs.below {w w' : World} {B b o : Nat} {cs : List Value} (h : Cs w b o cs) (hg : b < w.heap.size) (hb : Below B w w') (hB : w.heap.size ≤ B) : Cs w' b o cs :=
  fun k v hv => (hb.cell (p := ⟨b, o + k, none⟩) (Nat.lt_of_lt_of_le hg hB)).trans (h k v hv)
theorem SL.below {α : Type} {c : Nat} {R : Rdr α} (hR : Kp R) {w w' : World} {B : Nat} {A : Option Addr} {l : List α} (h : SL c R w A l) (hb : Below B w w') (hB : w.heap.size ≤ B) : SL c R w' A l := fun h0 => by
  obtain ⟨b, o, hA, hg, hc⟩ := h h0
  refine ⟨b, o, hA, Nat.lt_of_lt_of_le hg hb.size, fun i x hx => ?_⟩
  obtain ⟨cs, hr, hcs⟩ := hc i x hx
  exact ⟨cs, hR.on hr hb hB, hcs.below hg hb hB⟩

def I64 (n : Int) : Prop := -9223372036854775808 ≤ n ∧ n ≤ 9223372036854775807
def intR : Rdr Int := fun _ cs n => cs = [.int .i64 n] ∧ I64 n
def strR : Rdr ByteArray := fun _ cs s => cs = [.string s] ∧ s.size ≤ 140737488351232
/-- A value that is a slice. -/
def slR {α : Type} (c : Nat) (R : Rdr α) (w : World) (v : Value) (l : List α) : Prop := ∃ A k, v = .slice A l.length k ∧ l.length ≤ k ∧ l.length ≤ 140737488351232 ∧ SL c R w A l
theorem slR.below {α : Type} {c : Nat} {R : Rdr α} (hR : Kp R) {w w' : World} {B : Nat} {v : Value} {l : List α} (h : slR c R w v l) (hb : Below B w w') (hB : w.heap.size ≤ B) : slR c R w' v l := by
  obtain ⟨A, k, h0, h1, h2, h3⟩ := h
  exact ⟨A, k, h0, h1, h2, h3.below hR hb hB⟩
/-- A slice in a cell of its own. -/
def slC {α : Type} (c : Nat) (R : Rdr α) : Rdr (List α) := fun w cs l => ∃ v, cs = [v] ∧ slR c R w v l
theorem kp_int : Kp intR := ⟨fun h _ _ => h⟩
theorem kp_str : Kp strR := ⟨fun h _ _ => h⟩

structure Fd where
  name : ByteArray
  typ : ByteArray
structure St where
  name : ByteArray
  fields : List Fd
structure Ins where
  op : Int
  typ : ByteArray
  args : List Int
  n : Int
  name : ByteArray
structure Blk where
  list : List Int
  jump : Int
  arg : Int
  t0 : Int
  t1 : Int
structure Fn where
  name : ByteArray
  params : List ByteArray
  res : ByteArray
  slots : List ByteArray
  ins : List Ins
  blocks : List Blk
structure Pg where
  structs : List St
  globals : List Fd
  funs : List Fn
def MS : Nat := 140737488351232
def fdR : Rdr Fd := fun _ cs f => cs = [.string f.name, .string f.typ] ∧ f.name.size ≤ 140737488351232 ∧ f.typ.size ≤ 140737488351232
def stR : Rdr St := fun w cs s => ∃ v, cs = [.string s.name, v] ∧ s.name.size ≤ 140737488351232 ∧ slR 2 fdR w v s.fields
def insR : Rdr Ins := fun w cs x => ∃ v, cs = [.int .i64 x.op, .string x.typ, v, .int .i64 x.n, .string x.name] ∧ I64 x.op ∧ I64 x.n ∧ x.typ.size ≤ 140737488351232 ∧ x.name.size ≤ 140737488351232 ∧ slR 1 intR w v x.args
def blkR : Rdr Blk := fun w cs x => ∃ v, cs = [v, .int .i64 x.jump, .int .i64 x.arg, .int .i64 x.t0, .int .i64 x.t1] ∧ I64 x.jump ∧ I64 x.arg ∧ I64 x.t0 ∧ I64 x.t1 ∧ slR 1 intR w v x.list
def fnR : Rdr Fn := fun w cs f => ∃ p s i b, cs = [.string f.name, p, .string f.res, s, i, b] ∧ f.name.size ≤ 140737488351232 ∧ f.res.size ≤ 140737488351232 ∧ slR 1 strR w p f.params ∧ slR 1 strR w s f.slots ∧ slR 5 insR w i f.ins ∧ slR 5 blkR w b f.blocks
def pgR : Rdr Pg := fun w cs p => ∃ s g f, cs = [s, g, f] ∧ slR 2 stR w s p.structs ∧ slR 2 fdR w g p.globals ∧ slR 6 fnR w f p.funs
theorem kp_fd : Kp fdR := ⟨fun h _ _ => h⟩
theorem kp_st : Kp stR := ⟨fun ⟨v, h0, h1, h2⟩ hb hB => ⟨v, h0, h1, h2.below kp_fd hb hB⟩⟩
theorem kp_ins : Kp insR := ⟨fun ⟨v, h0, h1, h2, h3, h4, h5⟩ hb hB => ⟨v, h0, h1, h2, h3, h4, h5.below kp_int hb hB⟩⟩
theorem kp_blk : Kp blkR := ⟨fun ⟨v, h0, h1, h2, h3, h4, h5⟩ hb hB => ⟨v, h0, h1, h2, h3, h4, h5.below kp_int hb hB⟩⟩
theorem kp_fn : Kp fnR := ⟨fun ⟨p, s, i, b, h0, h1, h2, h3, h4, h5, h6⟩ hb hB => ⟨p, s, i, b, h0, h1, h2, h3.below kp_str hb hB, h4.below kp_str hb hB, h5.below kp_ins hb hB, h6.below kp_blk hb hB⟩⟩
theorem kp_pg : Kp pgR := ⟨fun ⟨s, g, f, h0, h1, h2, h3⟩ hb hB => ⟨s, g, f, h0, h1.below kp_st hb hB, h2.below kp_fd hb hB, h3.below kp_fn hb hB⟩⟩

/-! From an argument's reading. -/
theorem reach_eq : reachBytes = 140737488351232 := rfl
theorem weightsAll_in {H : Type} {P : Program} {e : TypeId} {l : List (DataW H)} {d : DataW H} (hd : d ∈ l) {n : Nat} (hn : n ∈ d.weights P e) : n ∈ DataW.weightsAll P e l := by
  induction l with
  | nil => cases hd
  | cons a r ih =>
    rw [DataW.weightsAll, List.mem_append]
    rcases List.mem_cons.1 hd with rfl | h
    · exact .inl hn
    · exact .inr (ih h)
theorem weightsEach_in {H : Type} {P : Program} {n : Nat} : ∀ {ts : List TypeId} {l : List (DataW H)} {i : Nat} {t : TypeId} {d : DataW H}, ts[i]? = some t → l[i]? = some d → n ∈ d.weights P t → n ∈ DataW.weightsEach P ts l
  | [], _, i, _, _, h, _, _ => by simp at h
  | _ :: _, [], i, _, _, _, h, _ => by simp at h
  | a :: ts, b :: l, 0, t, d, h, h', hn => by
    obtain rfl := Option.some.inj h
    obtain rfl := Option.some.inj h'
    rw [DataW.weightsEach, List.mem_append]
    exact .inl hn
  | a :: ts, b :: l, i + 1, t, d, h, h', hn => by
    rw [DataW.weightsEach, List.mem_append]
    exact .inr (weightsEach_in (i := i) (by simpa using h) (by simpa using h') hn)
/-- The address of a cell that is there has no spot. -/
theorem addr_of {w : World} {a : Addr} {v : Value} (h : w.cell? a = some v) : ∃ b o, a = ⟨b, o, none⟩ ∧ b < w.heap.size := by
  obtain ⟨b, o, s⟩ := a
  unfold World.cell? at h
  cases hb : w.heap[b]? with
  | none => simp [hb] at h
  | some ob =>
    have hlt := (Array.getElem?_eq_some_iff.1 hb).1
    cases s with
    | none => exact ⟨b, o, rfl, hlt⟩
    | some k =>
      cases ob <;> simp [hb] at h

section
variable {H : Type} {enc : TypeId × Value → H} {P : Program} {W : World}
/-- Whatever is read at that type is read by that reader. -/
def Opens {α : Type} (enc : TypeId × Value → H) (P : Program) (W : World) (t : TypeId) (R : Rdr α) : Prop :=
  ∀ (fuel : Nat) (cs : List Value) (x : DataW H × List MemPlace), DataW.trod enc P W 0 (fun _ => true) true fuel t cs = some x → (∀ n ∈ x.1.weights P t, n ≤ reachBytes) → ∃ a, R W cs a
theorem opens_int {t : TypeId} (ht : P.underlying t = some (.int .i64)) : Opens enc P W t intR := fun fuel cs x h _ => by
  obtain ⟨n, e, _, hn⟩ := DataW.trod_int ht h
  refine ⟨n, e, ?_⟩
  have h2 := hn
  simp [Lit.wf, IntKind.min, IntKind.max, IntKind.signed, IntKind.bits] at h2
  exact ⟨by omega, by omega⟩
theorem opens_str {t : TypeId} (ht : P.underlying t = some .string) : Opens enc P W t strR := fun fuel cs x h hw => by
  obtain ⟨s, e, e2, _⟩ := DataW.trod_string ht h
  refine ⟨s, e, ?_⟩
  have := hw s.data.toList.length (by rw [e2]; simp [DataW.weights])
  rw [reach_eq] at this
  simpa using this
theorem opens_sl {α : Type} [Inhabited α] {t e : TypeId} {c k : Nat} {R : Rdr α} (ht : P.underlying t = some (.slice e)) (hc : P.cellsOf e = c) (hk : P.bytesOf e = k) (h0 : 0 < k) (h1 : 0 < c) (hl : ∀ cs a, R W cs a → cs.length = c)
    (each : Opens enc P W e R) : Opens enc P W t (slC c R) := fun fuel cs x h hw => by
  rcases open_slice ht h with ⟨rfl, _⟩ | ⟨a, len, cap, m, n, D, Pl, rfl, _, hln, _, hm, rfl, hx⟩
  · exact ⟨[], _, rfl, none, 0, rfl, Nat.le_refl _, Nat.zero_le _, fun h => absurd h (Nat.lt_irrefl _)⟩
  · have hmc : m = cap := by simpa using hm
    have every : ∀ i, i < len → ∃ y, ∃ cs', R W cs' y ∧ ∀ k v, cs'[k]? = some v → W.cell? ((a.add (i * c)).add k) = some v := by
      intro i hil
      obtain ⟨cs', h1, h2⟩ := hx i (by omega)
      obtain ⟨y, hy⟩ := each n cs' _ h2 (fun q hq => hw q (by
        simp only [DataW.weights, ht, List.mem_cons, List.mem_append]
        exact .inr (.inl (weightsAll_in (List.mem_map.2 ⟨i, List.mem_range.2 hil, rfl⟩) hq))))
      obtain ⟨_, hlen, hcell⟩ := World.cells?_some h1
      refine ⟨y, cs', hy, fun k v hv => ?_⟩
      have hk' : k < P.cellsOf e := by rw [← hlen]; exact (List.getElem?_eq_some_iff.1 hv).1
      rw [← hc, hcell k hk', hv]
    obtain ⟨F, hF⟩ := choose_lt every
    have hb : (len + (m - len)) * k ≤ reachBytes := hw _ (by simp [DataW.weights, ht, hk])
    rw [reach_eq] at hb
    have hb2 : len ≤ (len + (m - len)) * k := Nat.le_trans (Nat.le_add_right _ _) (Nat.le_mul_of_pos_right _ h0)
    refine ⟨(List.range len).map F, _, rfl, some a, cap, by simp, by simpa using hln, by simp; omega, fun hp => ?_⟩
    have hp' : 0 < len := by simpa using hp
    obtain ⟨cs0, hr0, hc0⟩ := hF 0 hp'
    have hz : ∃ v, cs0[0]? = some v := ⟨_, List.getElem?_eq_getElem (by rw [hl _ _ hr0]; exact h1)⟩
    obtain ⟨v0, hv0⟩ := hz
    have hcz := hc0 0 v0 hv0
    rw [Nat.zero_mul, Go.Addr.add_zero', Go.Addr.add_zero'] at hcz
    obtain ⟨b, o, rfl, hb3⟩ := addr_of hcz
    refine ⟨b, o, rfl, hb3, fun i x hx => ?_⟩
    rw [List.getElem?_map] at hx
    have hil : i < len := by
      rcases Nat.lt_or_ge i len with h | h
      · exact h
      · rw [List.getElem?_eq_none (by simpa using h)] at hx; cases hx
    rw [List.getElem?_range hil] at hx
    obtain rfl := Option.some.inj hx
    obtain ⟨cs1, hr1, hc1⟩ := hF i hil
    refine ⟨cs1, hr1, fun k v hv => ?_⟩
    have := hc1 k v hv
    rwa [Go.Addr.add_lit, Go.Addr.add_lit] at this
/-- A field of a struct. -/
theorem field_of {α : Type} {t : TypeId} {fs : Array Field} {R : Rdr α} (ht : P.underlying t = some (.struct fs)) {fuel : Nat} {cs : List Value} {x : DataW H × List MemPlace} (h : DataW.trod enc P W 0 (fun _ => true) true fuel t cs = some x) (hw : ∀ n ∈ x.1.weights P t, n ≤ reachBytes)
    (i : Nat) (f : Field) (hf : fs[i]? = some f) (ho : Opens enc P W f.type R) : ∃ a, R W ((cs.drop f.offset).take (P.cellsOf f.type)) a := by
  obtain ⟨xs, k, rfl, rfl, hlen, hxl, hd⟩ := DataW.trod_struct ht h
  have hi : i < xs.length := by rw [hxl]; exact (Array.getElem?_eq_some_iff.1 hf).1
  have := hd i f hf
  rw [List.getElem?_eq_getElem hi] at this
  refine ho k _ _ this fun n hn => hw n ?_
  simp only [DataW.weights, ht]
  refine weightsEach_in (i := i) (t := f.type) (d := xs[i].1) ?_ ?_ hn
  · rw [List.getElem?_map, Array.getElem?_toList, hf]; rfl
  · rw [List.getElem?_map, List.getElem?_eq_getElem hi]; rfl
/-- A pair of numbers in two cells. -/
def prR : Rdr (Int × Int) := fun _ cs p => cs = [.int .i64 p.1, .int .i64 p.2] ∧ I64 p.1 ∧ I64 p.2
theorem opens_pr {t e : TypeId} (ht : P.underlying t = some (.array 2 e)) (he : P.underlying e = some (.int .i64)) (hc : P.cellsOf e = 1) (hct : P.cellsOf t = 2) : Opens enc P W t prR := fun fuel cs x h hw => by
  obtain ⟨xs, m, rfl, rfl, hlen, hxl, hd⟩ := DataW.trod_array ht h
  rw [hct] at hlen
  match xs, hxl, cs, hlen with
  | [y0, y1], _, [v0, v1], _ =>
    have g0 := hd 0 (by omega)
    have g1 := hd 1 (by omega)
    simp [hc] at g0 g1
    have w0 : ∀ n ∈ y0.1.weights P e, n ≤ reachBytes := fun n hn => hw n (by simp only [DataW.weights, ht]; exact weightsAll_in (d := y0.1) (by simp) hn)
    have w1 : ∀ n ∈ y1.1.weights P e, n ≤ reachBytes := fun n hn => hw n (by simp only [DataW.weights, ht]; exact weightsAll_in (d := y1.1) (by simp) hn)
    obtain ⟨a, ha, ia⟩ := opens_int he _ _ _ g0 w0
    obtain ⟨b, hb, ib⟩ := opens_int he _ _ _ g1 w1
    exact ⟨(a, b), by rw [List.cons.inj ha |>.1, List.cons.inj hb |>.1], ia, ib⟩
section
variable {t : TypeId} {f0 f1 f2 f3 f4 f5 : Field}
theorem opens_fd (ht : P.underlying t = some (.struct #[f0, f1])) (hc : P.cellsOf t = 2) (o : f0.offset = 0 ∧ f1.offset = 1) (k : P.cellsOf f0.type = 1 ∧ P.cellsOf f1.type = 1)
    (h0 : Opens enc P W f0.type strR) (h1 : Opens enc P W f1.type strR) : Opens enc P W t fdR := fun fuel cs x h hw => by
  obtain ⟨a0, g0⟩ := field_of ht h hw 0 f0 rfl h0
  obtain ⟨a1, g1⟩ := field_of ht h hw 1 f1 rfl h1
  have hl := (DataW.trod_struct ht h).choose_spec.choose_spec.2.2.1
  rw [hc] at hl
  match cs, hl with
  | [v0, v1], _ =>
    simp [o, k] at g0 g1
    exact ⟨⟨a0, a1⟩, by rw [List.cons.inj g0.1 |>.1, List.cons.inj g1.1 |>.1], g0.2, g1.2⟩
theorem opens_st (ht : P.underlying t = some (.struct #[f0, f1])) (hc : P.cellsOf t = 2) (o : f0.offset = 0 ∧ f1.offset = 1) (k : P.cellsOf f0.type = 1 ∧ P.cellsOf f1.type = 1)
    (h0 : Opens enc P W f0.type strR) (h1 : Opens enc P W f1.type (slC 2 fdR)) : Opens enc P W t stR := fun fuel cs x h hw => by
  obtain ⟨a0, g0⟩ := field_of ht h hw 0 f0 rfl h0
  obtain ⟨a1, g1⟩ := field_of ht h hw 1 f1 rfl h1
  have hl := (DataW.trod_struct ht h).choose_spec.choose_spec.2.2.1
  rw [hc] at hl
  match cs, hl with
  | [v0, v1], _ =>
    simp [o, k] at g0 g1
    obtain ⟨u1, e1, g1⟩ := g1
    exact ⟨⟨a0, a1⟩, u1, by rw [List.cons.inj g0.1 |>.1, List.cons.inj e1 |>.1], g0.2, g1⟩
theorem opens_ins (ht : P.underlying t = some (.struct #[f0, f1, f2, f3, f4])) (hc : P.cellsOf t = 5) (o : f0.offset = 0 ∧ f1.offset = 1 ∧ f2.offset = 2 ∧ f3.offset = 3 ∧ f4.offset = 4)
    (k : P.cellsOf f0.type = 1 ∧ P.cellsOf f1.type = 1 ∧ P.cellsOf f2.type = 1 ∧ P.cellsOf f3.type = 1 ∧ P.cellsOf f4.type = 1)
    (h0 : Opens enc P W f0.type intR) (h1 : Opens enc P W f1.type strR) (h2 : Opens enc P W f2.type (slC 1 intR)) (h3 : Opens enc P W f3.type intR) (h4 : Opens enc P W f4.type strR) : Opens enc P W t insR := fun fuel cs x h hw => by
  obtain ⟨a0, g0⟩ := field_of ht h hw 0 f0 rfl h0
  obtain ⟨a1, g1⟩ := field_of ht h hw 1 f1 rfl h1
  obtain ⟨a2, g2⟩ := field_of ht h hw 2 f2 rfl h2
  obtain ⟨a3, g3⟩ := field_of ht h hw 3 f3 rfl h3
  obtain ⟨a4, g4⟩ := field_of ht h hw 4 f4 rfl h4
  have hl := (DataW.trod_struct ht h).choose_spec.choose_spec.2.2.1
  rw [hc] at hl
  match cs, hl with
  | [v0, v1, v2, v3, v4], _ =>
    simp [o, k] at g0 g1 g2 g3 g4
    obtain ⟨u2, e2, g2⟩ := g2
    exact ⟨⟨a0, a1, a2, a3, a4⟩, u2, by rw [List.cons.inj g0.1 |>.1, List.cons.inj g1.1 |>.1, List.cons.inj e2 |>.1, List.cons.inj g3.1 |>.1, List.cons.inj g4.1 |>.1], g0.2, g3.2, g1.2, g4.2, g2⟩
theorem opens_blk (ht : P.underlying t = some (.struct #[f0, f1, f2, f3])) (hc : P.cellsOf t = 5) (o : f0.offset = 0 ∧ f1.offset = 1 ∧ f2.offset = 2 ∧ f3.offset = 3)
    (k : P.cellsOf f0.type = 1 ∧ P.cellsOf f1.type = 1 ∧ P.cellsOf f2.type = 1 ∧ P.cellsOf f3.type = 2)
    (h0 : Opens enc P W f0.type (slC 1 intR)) (h1 : Opens enc P W f1.type intR) (h2 : Opens enc P W f2.type intR) (h3 : Opens enc P W f3.type prR) : Opens enc P W t blkR := fun fuel cs x h hw => by
  obtain ⟨a0, g0⟩ := field_of ht h hw 0 f0 rfl h0
  obtain ⟨a1, g1⟩ := field_of ht h hw 1 f1 rfl h1
  obtain ⟨a2, g2⟩ := field_of ht h hw 2 f2 rfl h2
  obtain ⟨a3, g3⟩ := field_of ht h hw 3 f3 rfl h3
  have hl := (DataW.trod_struct ht h).choose_spec.choose_spec.2.2.1
  rw [hc] at hl
  match cs, hl with
  | [v0, v1, v2, v3, v4], _ =>
    simp [o, k] at g0 g1 g2 g3
    obtain ⟨u0, e0, g0⟩ := g0
    obtain ⟨e3, i3, i4⟩ := g3
    exact ⟨⟨a0, a1, a2, a3.1, a3.2⟩, u0, by rw [List.cons.inj e0 |>.1, List.cons.inj g1.1 |>.1, List.cons.inj g2.1 |>.1, e3], g1.2, g2.2, i3, i4, g0⟩
theorem opens_fn (ht : P.underlying t = some (.struct #[f0, f1, f2, f3, f4, f5])) (hc : P.cellsOf t = 6) (o : f0.offset = 0 ∧ f1.offset = 1 ∧ f2.offset = 2 ∧ f3.offset = 3 ∧ f4.offset = 4 ∧ f5.offset = 5)
    (k : P.cellsOf f0.type = 1 ∧ P.cellsOf f1.type = 1 ∧ P.cellsOf f2.type = 1 ∧ P.cellsOf f3.type = 1 ∧ P.cellsOf f4.type = 1 ∧ P.cellsOf f5.type = 1)
    (h0 : Opens enc P W f0.type strR) (h1 : Opens enc P W f1.type (slC 1 strR)) (h2 : Opens enc P W f2.type strR) (h3 : Opens enc P W f3.type (slC 1 strR)) (h4 : Opens enc P W f4.type (slC 5 insR)) (h5 : Opens enc P W f5.type (slC 5 blkR)) : Opens enc P W t fnR := fun fuel cs x h hw => by
  obtain ⟨a0, g0⟩ := field_of ht h hw 0 f0 rfl h0
  obtain ⟨a1, g1⟩ := field_of ht h hw 1 f1 rfl h1
  obtain ⟨a2, g2⟩ := field_of ht h hw 2 f2 rfl h2
  obtain ⟨a3, g3⟩ := field_of ht h hw 3 f3 rfl h3
  obtain ⟨a4, g4⟩ := field_of ht h hw 4 f4 rfl h4
  obtain ⟨a5, g5⟩ := field_of ht h hw 5 f5 rfl h5
  have hl := (DataW.trod_struct ht h).choose_spec.choose_spec.2.2.1
  rw [hc] at hl
  match cs, hl with
  | [v0, v1, v2, v3, v4, v5], _ =>
    simp [o, k] at g0 g1 g2 g3 g4 g5
    obtain ⟨u1, e1, g1⟩ := g1
    obtain ⟨u3, e3, g3⟩ := g3
    obtain ⟨u4, e4, g4⟩ := g4
    obtain ⟨u5, e5, g5⟩ := g5
    exact ⟨⟨a0, a1, a2, a3, a4, a5⟩, u1, u3, u4, u5, by rw [List.cons.inj g0.1 |>.1, List.cons.inj e1 |>.1, List.cons.inj g2.1 |>.1, List.cons.inj e3 |>.1, List.cons.inj e4 |>.1, List.cons.inj e5 |>.1], g0.2, g2.2, g1, g3, g4, g5⟩
theorem opens_pg (ht : P.underlying t = some (.struct #[f0, f1, f2])) (hc : P.cellsOf t = 3) (o : f0.offset = 0 ∧ f1.offset = 1 ∧ f2.offset = 2)
    (k : P.cellsOf f0.type = 1 ∧ P.cellsOf f1.type = 1 ∧ P.cellsOf f2.type = 1)
    (h0 : Opens enc P W f0.type (slC 2 stR)) (h1 : Opens enc P W f1.type (slC 2 fdR)) (h2 : Opens enc P W f2.type (slC 6 fnR)) : Opens enc P W t pgR := fun fuel cs x h hw => by
  obtain ⟨a0, g0⟩ := field_of ht h hw 0 f0 rfl h0
  obtain ⟨a1, g1⟩ := field_of ht h hw 1 f1 rfl h1
  obtain ⟨a2, g2⟩ := field_of ht h hw 2 f2 rfl h2
  have hl := (DataW.trod_struct ht h).choose_spec.choose_spec.2.2.1
  rw [hc] at hl
  match cs, hl with
  | [v0, v1, v2], _ =>
    simp [o, k] at g0 g1 g2
    obtain ⟨u0, e0, g0⟩ := g0
    obtain ⟨u1, e1, g1⟩ := g1
    obtain ⟨u2, e2, g2⟩ := g2
    exact ⟨⟨a0, a1, a2⟩, u0, u1, u2, by rw [List.cons.inj e0 |>.1, List.cons.inj e1 |>.1, List.cons.inj e2 |>.1], g0, g1, g2⟩
end
end

end Go.Proofs.Ytpaddigjjlidcaa
