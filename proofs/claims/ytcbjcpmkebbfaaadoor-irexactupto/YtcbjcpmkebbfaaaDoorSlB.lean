/-
  FROM AN ARGUMENT's READING, where what is read is of bulk at most 1048576: texts and rows are short. No condition.
-/
import Derived.Test.YtcbjcpmkebbfaaaDoorRows
import Derived.Test.YtcbjcpmkebbfaaaDoorStrP
namespace Go.Proofs.YtcbjcpmkebbfaaaDoor
open Go.ChangeShapes Go.WideShapes Go.ChangeAt Go.RowKit Go.Deep

def Tx (s : ByteArray) : Prop := s.size ≤ 1048576
structure TxS (x : St) : Prop where
  n : Tx x.name
  f : ∀ f ∈ x.fields, BdF f
structure TxI (x : Ins) : Prop where
  t : Tx x.typ
  n : Tx x.name
structure TxN (f : Fn) : Prop where
  n : Tx f.name
  p : ∀ x ∈ f.params, Tx x
  r : Tx f.res
  s : ∀ x ∈ f.slots, Tx x
  i : ∀ x ∈ f.ins, TxI x
structure TxP (p : Pg) : Prop where
  s : ∀ x ∈ p.structs, TxS x
  g : ∀ x ∈ p.globals, BdF x
  f : ∀ x ∈ p.funs, TxN x
theorem bulk_in {H : Type} {d : DataW H} {l : List (DataW H)} (h : d ∈ l) : Rows.uptoBulk d ≤ Rows.uptoBulkAll l := by
  induction l with
  | nil => cases h
  | cons x r ih =>
    simp only [Rows.uptoBulkAll]
    rcases List.mem_cons.1 h with e | e
    · subst e; omega
    · have := ih e; omega
section
variable {H : Type} {enc : TypeId × Value → H} {P : Program} {W : World}
/-- Whatever is read at that type is read by that reader. -/
def OpensB {α : Type} (enc : TypeId × Value → H) (P : Program) (W : World) (t : TypeId) (R : Rdr α) (Q : α → Prop) : Prop :=
  ∀ (fuel : Nat) (cs : List Value) (x : DataW H × List MemPlace), DataW.trod enc P W 0 (fun _ => true) true fuel t cs = some x → (∀ n ∈ x.1.weights P t, n ≤ reachBytes) → Rows.uptoBulk x.1 ≤ 1048576 → ∃ a, R W cs a ∧ Q a
theorem opensB_int {t : TypeId} (ht : P.underlying t = some (.int .i64)) : OpensB enc P W t intR (fun _ => True) := fun fuel cs x h _ _ => by
  obtain ⟨n, e, _, hn⟩ := DataW.trod_int ht h
  refine ⟨n, ⟨e, ?_⟩, trivial⟩
  have h2 := hn
  simp [Lit.wf, IntKind.min, IntKind.max, IntKind.signed, IntKind.bits] at h2
  exact ⟨by omega, by omega⟩
theorem opensB_str {t : TypeId} (ht : P.underlying t = some .string) : OpensB enc P W t strR Tx := fun fuel cs x h hw hb => by
  obtain ⟨s, e, e2, _⟩ := DataW.trod_string ht h
  have h1 := hw s.data.toList.length (by rw [e2]; simp [DataW.weights])
  rw [reach_eq] at h1
  rw [e2] at hb
  simp only [Rows.uptoBulk, Array.length_toList] at hb
  refine ⟨s, ⟨e, by simpa using h1⟩, ?_⟩
  show s.data.size ≤ _
  omega
theorem opensB_sl {α : Type} [Inhabited α] {t e : TypeId} {c k : Nat} {R : Rdr α} {Q : α → Prop} (ht : P.underlying t = some (.slice e)) (hc : P.cellsOf e = c) (hk : P.bytesOf e = k) (h0 : 0 < k) (h1 : 0 < c) (hl : ∀ cs a, R W cs a → cs.length = c)
    (each : OpensB enc P W e R Q) : OpensB enc P W t (slC c R) (fun l => ∀ x ∈ l, Q x) := fun fuel cs x h hw hb => by
  rcases open_slice ht h with ⟨rfl, _⟩ | ⟨a, len, cap, m, n, D, Pl, rfl, _, hln, _, hm, rfl, hx⟩
  · exact ⟨[], ⟨_, rfl, none, 0, rfl, Nat.le_refl _, Nat.zero_le _, fun h => absurd h (Nat.lt_irrefl _)⟩, fun x hx => by cases hx⟩
  · have hmc : m = cap := by simpa using hm
    have every : ∀ i, i < len → ∃ y, Q y ∧ ∃ cs', R W cs' y ∧ ∀ k v, cs'[k]? = some v → W.cell? ((a.add (i * c)).add k) = some v := by
      intro i hil
      obtain ⟨cs', h1, h2⟩ := hx i (by omega)
      obtain ⟨y, hy, hQ⟩ := each n cs' _ h2 (fun q hq => hw q (by
        simp only [DataW.weights, ht, List.mem_cons, List.mem_append]
        exact .inr (.inl (weightsAll_in (List.mem_map.2 ⟨i, List.mem_range.2 hil, rfl⟩) hq)))) (Nat.le_trans (bulk_in (List.mem_map.2 ⟨i, List.mem_range.2 hil, rfl⟩)) (by simp only [Rows.uptoBulk] at hb; omega))
      obtain ⟨_, hlen, hcell⟩ := World.cells?_some h1
      refine ⟨y, hQ, cs', hy, fun k v hv => ?_⟩
      have hk' : k < P.cellsOf e := by rw [← hlen]; exact (List.getElem?_eq_some_iff.1 hv).1
      rw [← hc, hcell k hk', hv]
    obtain ⟨F, hF⟩ := choose_lt every
    have hbb : (len + (m - len)) * k ≤ reachBytes := hw _ (by simp [DataW.weights, ht, hk])
    rw [reach_eq] at hbb
    have hb2 : len ≤ (len + (m - len)) * k := Nat.le_trans (Nat.le_add_right _ _) (Nat.le_mul_of_pos_right _ h0)
    refine ⟨(List.range len).map F, ⟨_, rfl, some a, cap, by simp, by simpa using hln, by simp; omega, fun hp => ?_⟩, fun x hx => by
      obtain ⟨i, hi, rfl⟩ := List.mem_map.1 hx
      exact (hF i (List.mem_range.1 hi)).1⟩
    have hp' : 0 < len := by simpa using hp
    obtain ⟨-, cs0, hr0, hc0⟩ := hF 0 hp'
    have hz : ∃ v, cs0[0]? = some v := ⟨_, List.getElem?_eq_getElem (by rw [hl _ _ hr0]; exact h1)⟩
    obtain ⟨v0, hv0⟩ := hz
    have hcz := hc0 0 v0 hv0
    rw [Nat.zero_mul, Go.Addr.add_zero', Go.Addr.add_zero'] at hcz
    obtain ⟨b, o, rfl, hb3⟩ := addr_of hcz
    refine ⟨b, o, rfl, hb3, fun i x hx => ?_⟩
    rw [List.getElem?_map] at hx
    have hil : i < len := by
      rcases Nat.lt_or_ge i len with h | h
      · exact h
      · rw [List.getElem?_eq_none (by simpa using h)] at hx; cases hx
    rw [List.getElem?_range hil] at hx
    obtain rfl := Option.some.inj hx
    obtain ⟨-, cs1, hr1, hc1⟩ := hF i hil
    refine ⟨cs1, hr1, fun k v hv => ?_⟩
    have := hc1 k v hv
    rwa [Go.Addr.add_lit, Go.Addr.add_lit] at this
/-- A field of a struct. -/
theorem fieldB_of {α : Type} {t : TypeId} {fs : Array Field} {R : Rdr α} {Q : α → Prop} (ht : P.underlying t = some (.struct fs)) {fuel : Nat} {cs : List Value} {x : DataW H × List MemPlace} (h : DataW.trod enc P W 0 (fun _ => true) true fuel t cs = some x) (hw : ∀ n ∈ x.1.weights P t, n ≤ reachBytes) (hb : Rows.uptoBulk x.1 ≤ 1048576)
    (i : Nat) (f : Field) (hf : fs[i]? = some f) (ho : OpensB enc P W f.type R Q) : ∃ a, R W ((cs.drop f.offset).take (P.cellsOf f.type)) a ∧ Q a := by
  obtain ⟨xs, k, rfl, rfl, hlen, hxl, hd⟩ := DataW.trod_struct ht h
  have hi : i < xs.length := by rw [hxl]; exact (Array.getElem?_eq_some_iff.1 hf).1
  have := hd i f hf
  rw [List.getElem?_eq_getElem hi] at this
  refine ho k _ _ this (fun n hn => hw n ?_) (by
    have h2 : Rows.uptoBulk xs[i].1 ≤ Rows.uptoBulkAll (xs.map (fun y => y.1)) := bulk_in (List.mem_map.2 ⟨xs[i], List.getElem_mem hi, rfl⟩)
    have h3 : Rows.uptoBulkAll (xs.map (fun y => y.1)) + 1 ≤ 1048576 := hb
    omega)
  simp only [DataW.weights, ht]
  refine weightsEach_in (i := i) (t := f.type) (d := xs[i].1) ?_ ?_ hn
  · rw [List.getElem?_map, Array.getElem?_toList, hf]; rfl
  · rw [List.getElem?_map, List.getElem?_eq_getElem hi]; rfl
theorem opensB_pr {t e : TypeId} (ht : P.underlying t = some (.array 2 e)) (he : P.underlying e = some (.int .i64)) (hc : P.cellsOf e = 1) (hct : P.cellsOf t = 2) : OpensB enc P W t prR (fun _ => True) := fun fuel cs x h hw hb => by
  obtain ⟨xs, m, rfl, rfl, hlen, hxl, hd⟩ := DataW.trod_array ht h
  rw [hct] at hlen
  match xs, hxl, cs, hlen with
  | [y0, y1], _, [v0, v1], _ =>
    have g0 := hd 0 (by omega)
    have g1 := hd 1 (by omega)
    simp [hc] at g0 g1
    have w0 : ∀ n ∈ y0.1.weights P e, n ≤ reachBytes := fun n hn => hw n (by simp only [DataW.weights, ht]; exact weightsAll_in (d := y0.1) (by simp) hn)
    have w1 : ∀ n ∈ y1.1.weights P e, n ≤ reachBytes := fun n hn => hw n (by simp only [DataW.weights, ht]; exact weightsAll_in (d := y1.1) (by simp) hn)
    simp only [Rows.uptoBulk, Rows.uptoBulkAll, List.map_cons, List.map_nil] at hb
    obtain ⟨a, ⟨ha, ia⟩, -⟩ := opensB_int he _ _ _ g0 w0 (by omega)
    obtain ⟨b, ⟨hb, ib⟩, -⟩ := opensB_int he _ _ _ g1 w1 (by omega)
    exact ⟨(a, b), ⟨by rw [List.cons.inj ha |>.1, List.cons.inj hb |>.1], ia, ib⟩, trivial⟩
section
variable {t : TypeId} {f0 f1 f2 f3 f4 f5 : Field}
theorem opensB_fd (ht : P.underlying t = some (.struct #[f0, f1])) (hc : P.cellsOf t = 2) (o : f0.offset = 0 ∧ f1.offset = 1) (k : P.cellsOf f0.type = 1 ∧ P.cellsOf f1.type = 1)
    (h0 : OpensB enc P W f0.type strR Tx) (h1 : OpensB enc P W f1.type strR Tx) : OpensB enc P W t fdR BdF := fun fuel cs x h hw hb => by
  obtain ⟨a0, g0, k0'⟩ := fieldB_of ht h hw hb 0 f0 rfl h0
  obtain ⟨a1, g1, k1'⟩ := fieldB_of ht h hw hb 1 f1 rfl h1
  have hl := (DataW.trod_struct ht h).choose_spec.choose_spec.2.2.1
  rw [hc] at hl
  match cs, hl with
  | [v0, v1], _ =>
    simp [o, k] at g0 g1
    exact ⟨⟨a0, a1⟩, ⟨by rw [List.cons.inj g0.1 |>.1, List.cons.inj g1.1 |>.1], g0.2, g1.2⟩, ⟨k0', k1'⟩⟩
theorem opensB_st (ht : P.underlying t = some (.struct #[f0, f1])) (hc : P.cellsOf t = 2) (o : f0.offset = 0 ∧ f1.offset = 1) (k : P.cellsOf f0.type = 1 ∧ P.cellsOf f1.type = 1)
    (h0 : OpensB enc P W f0.type strR Tx) (h1 : OpensB enc P W f1.type (slC 2 fdR) (fun l => ∀ x ∈ l, BdF x)) : OpensB enc P W t stR TxS := fun fuel cs x h hw hb => by
  obtain ⟨a0, g0, k0'⟩ := fieldB_of ht h hw hb 0 f0 rfl h0
  obtain ⟨a1, g1, k1'⟩ := fieldB_of ht h hw hb 1 f1 rfl h1
  have hl := (DataW.trod_struct ht h).choose_spec.choose_spec.2.2.1
  rw [hc] at hl
  match cs, hl with
  | [v0, v1], _ =>
    simp [o, k] at g0 g1
    obtain ⟨u1, e1, g1⟩ := g1
    exact ⟨⟨a0, a1⟩, ⟨u1, by rw [List.cons.inj g0.1 |>.1, List.cons.inj e1 |>.1], g0.2, g1⟩, ⟨k0', k1'⟩⟩
theorem opensB_ins (ht : P.underlying t = some (.struct #[f0, f1, f2, f3, f4])) (hc : P.cellsOf t = 5) (o : f0.offset = 0 ∧ f1.offset = 1 ∧ f2.offset = 2 ∧ f3.offset = 3 ∧ f4.offset = 4)
    (k : P.cellsOf f0.type = 1 ∧ P.cellsOf f1.type = 1 ∧ P.cellsOf f2.type = 1 ∧ P.cellsOf f3.type = 1 ∧ P.cellsOf f4.type = 1)
    (h0 : OpensB enc P W f0.type intR (fun _ => True)) (h1 : OpensB enc P W f1.type strR Tx) (h2 : OpensB enc P W f2.type (slC 1 intR) (fun l => ∀ x ∈ l, (fun _ => True) x)) (h3 : OpensB enc P W f3.type intR (fun _ => True)) (h4 : OpensB enc P W f4.type strR Tx) : OpensB enc P W t insR TxI := fun fuel cs x h hw hb => by
  obtain ⟨a0, g0, k0'⟩ := fieldB_of ht h hw hb 0 f0 rfl h0
  obtain ⟨a1, g1, k1'⟩ := fieldB_of ht h hw hb 1 f1 rfl h1
  obtain ⟨a2, g2, k2'⟩ := fieldB_of ht h hw hb 2 f2 rfl h2
  obtain ⟨a3, g3, k3'⟩ := fieldB_of ht h hw hb 3 f3 rfl h3
  obtain ⟨a4, g4, k4'⟩ := fieldB_of ht h hw hb 4 f4 rfl h4
  have hl := (DataW.trod_struct ht h).choose_spec.choose_spec.2.2.1
  rw [hc] at hl
  match cs, hl with
  | [v0, v1, v2, v3, v4], _ =>
    simp [o, k] at g0 g1 g2 g3 g4
    obtain ⟨u2, e2, g2⟩ := g2
    exact ⟨⟨a0, a1, a2, a3, a4⟩, ⟨u2, by rw [List.cons.inj g0.1 |>.1, List.cons.inj g1.1 |>.1, List.cons.inj e2 |>.1, List.cons.inj g3.1 |>.1, List.cons.inj g4.1 |>.1], g0.2, g3.2, g1.2, g4.2, g2⟩, ⟨k1', k4'⟩⟩
theorem opensB_blk (ht : P.underlying t = some (.struct #[f0, f1, f2, f3])) (hc : P.cellsOf t = 5) (o : f0.offset = 0 ∧ f1.offset = 1 ∧ f2.offset = 2 ∧ f3.offset = 3)
    (k : P.cellsOf f0.type = 1 ∧ P.cellsOf f1.type = 1 ∧ P.cellsOf f2.type = 1 ∧ P.cellsOf f3.type = 2)
    (h0 : OpensB enc P W f0.type (slC 1 intR) (fun l => ∀ x ∈ l, (fun _ => True) x)) (h1 : OpensB enc P W f1.type intR (fun _ => True)) (h2 : OpensB enc P W f2.type intR (fun _ => True)) (h3 : OpensB enc P W f3.type prR (fun _ => True)) : OpensB enc P W t blkR (fun _ => True) := fun fuel cs x h hw hb => by
  obtain ⟨a0, g0, k0'⟩ := fieldB_of ht h hw hb 0 f0 rfl h0
  obtain ⟨a1, g1, k1'⟩ := fieldB_of ht h hw hb 1 f1 rfl h1
  obtain ⟨a2, g2, k2'⟩ := fieldB_of ht h hw hb 2 f2 rfl h2
  obtain ⟨a3, g3, k3'⟩ := fieldB_of ht h hw hb 3 f3 rfl h3
  have hl := (DataW.trod_struct ht h).choose_spec.choose_spec.2.2.1
  rw [hc] at hl
  match cs, hl with
  | [v0, v1, v2, v3, v4], _ =>
    simp [o, k] at g0 g1 g2 g3
    obtain ⟨u0, e0, g0⟩ := g0
    obtain ⟨e3, i3, i4⟩ := g3
    exact ⟨⟨a0, a1, a2, a3.1, a3.2⟩, ⟨u0, by rw [List.cons.inj e0 |>.1, List.cons.inj g1.1 |>.1, List.cons.inj g2.1 |>.1, e3], g1.2, g2.2, i3, i4, g0⟩, trivial⟩
theorem opensB_fn (ht : P.underlying t = some (.struct #[f0, f1, f2, f3, f4, f5])) (hc : P.cellsOf t = 6) (o : f0.offset = 0 ∧ f1.offset = 1 ∧ f2.offset = 2 ∧ f3.offset = 3 ∧ f4.offset = 4 ∧ f5.offset = 5)
    (k : P.cellsOf f0.type = 1 ∧ P.cellsOf f1.type = 1 ∧ P.cellsOf f2.type = 1 ∧ P.cellsOf f3.type = 1 ∧ P.cellsOf f4.type = 1 ∧ P.cellsOf f5.type = 1)
    (h0 : OpensB enc P W f0.type strR Tx) (h1 : OpensB enc P W f1.type (slC 1 strR) (fun l => ∀ x ∈ l, Tx x)) (h2 : OpensB enc P W f2.type strR Tx) (h3 : OpensB enc P W f3.type (slC 1 strR) (fun l => ∀ x ∈ l, Tx x)) (h4 : OpensB enc P W f4.type (slC 5 insR) (fun l => ∀ x ∈ l, TxI x)) (h5 : OpensB enc P W f5.type (slC 5 blkR) (fun l => ∀ x ∈ l, (fun _ => True) x)) : OpensB enc P W t fnR TxN := fun fuel cs x h hw hb => by
  obtain ⟨a0, g0, k0'⟩ := fieldB_of ht h hw hb 0 f0 rfl h0
  obtain ⟨a1, g1, k1'⟩ := fieldB_of ht h hw hb 1 f1 rfl h1
  obtain ⟨a2, g2, k2'⟩ := fieldB_of ht h hw hb 2 f2 rfl h2
  obtain ⟨a3, g3, k3'⟩ := fieldB_of ht h hw hb 3 f3 rfl h3
  obtain ⟨a4, g4, k4'⟩ := fieldB_of ht h hw hb 4 f4 rfl h4
  obtain ⟨a5, g5, k5'⟩ := fieldB_of ht h hw hb 5 f5 rfl h5
  have hl := (DataW.trod_struct ht h).choose_spec.choose_spec.2.2.1
  rw [hc] at hl
  match cs, hl with
  | [v0, v1, v2, v3, v4, v5], _ =>
    simp [o, k] at g0 g1 g2 g3 g4 g5
    obtain ⟨u1, e1, g1⟩ := g1
    obtain ⟨u3, e3, g3⟩ := g3
    obtain ⟨u4, e4, g4⟩ := g4
    obtain ⟨u5, e5, g5⟩ := g5
    exact ⟨⟨a0, a1, a2, a3, a4, a5⟩, ⟨u1, u3, u4, u5, by rw [List.cons.inj g0.1 |>.1, List.cons.inj e1 |>.1, List.cons.inj g2.1 |>.1, List.cons.inj e3 |>.1, List.cons.inj e4 |>.1, List.cons.inj e5 |>.1], g0.2, g2.2, g1, g3, g4, g5⟩, ⟨k0', k1', k2', k3', k4'⟩⟩
theorem opensB_pg (ht : P.underlying t = some (.struct #[f0, f1, f2])) (hc : P.cellsOf t = 3) (o : f0.offset = 0 ∧ f1.offset = 1 ∧ f2.offset = 2)
    (k : P.cellsOf f0.type = 1 ∧ P.cellsOf f1.type = 1 ∧ P.cellsOf f2.type = 1)
    (h0 : OpensB enc P W f0.type (slC 2 stR) (fun l => ∀ x ∈ l, TxS x)) (h1 : OpensB enc P W f1.type (slC 2 fdR) (fun l => ∀ x ∈ l, BdF x)) (h2 : OpensB enc P W f2.type (slC 6 fnR) (fun l => ∀ x ∈ l, TxN x)) : OpensB enc P W t pgR TxP := fun fuel cs x h hw hb => by
  obtain ⟨a0, g0, k0'⟩ := fieldB_of ht h hw hb 0 f0 rfl h0
  obtain ⟨a1, g1, k1'⟩ := fieldB_of ht h hw hb 1 f1 rfl h1
  obtain ⟨a2, g2, k2'⟩ := fieldB_of ht h hw hb 2 f2 rfl h2
  have hl := (DataW.trod_struct ht h).choose_spec.choose_spec.2.2.1
  rw [hc] at hl
  match cs, hl with
  | [v0, v1, v2], _ =>
    simp [o, k] at g0 g1 g2
    obtain ⟨u0, e0, g0⟩ := g0
    obtain ⟨u1, e1, g1⟩ := g1
    obtain ⟨u2, e2, g2⟩ := g2
    exact ⟨⟨a0, a1, a2⟩, ⟨u0, u1, u2, by rw [List.cons.inj e0 |>.1, List.cons.inj e1 |>.1, List.cons.inj e2 |>.1], g0, g1, g2⟩, ⟨k0', k1', k2'⟩⟩
end
end

end Go.Proofs.YtcbjcpmkebbfaaaDoor
