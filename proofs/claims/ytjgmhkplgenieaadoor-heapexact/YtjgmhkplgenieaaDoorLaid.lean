/-
  FROM A ROW's ARGUMENTS AND LIST OF VARIABLES TO THE CONTRACTS' CONDITIONS: what the table of keys holds; rows of structs and of fields read as lists; the witness' world.
-/
import Derived.Test.YtjgmhkplgenieaaDoorCards
import Derived.Test.YtjgmhkplgenieaaDoorTie
import Derived.Test.YtjgmhkplgenieaaDoorMem
import Derived.WalkKit
import Derived.ProofKit
import Derived.OpenShut
import Derived.LaidMore
import Derived.Carry
import Derived.SizedLaws
import Derived.Deep.DeepHandedRow
import Derived.Deep.DeepWitnessRowRef
import Derived.Deep.SlicePairs
import Derived.Lib.LaidTab
namespace Go.Proofs.YtjgmhkplgenieaaDoor
open Go.ChangeShapes Go.WideShapes Go.ChangeAt Go.RowKit Go.Deep

theorem own : ownKnob Tryd.prog.godebug = none := by kernel_rfl
theorem laidOut : laidOutB Tryd.prog = true := by kernel_rfl
theorem gKeys : Tryd.prog.globalNamed "truant/lex.keys" = some 0 := by kernel_rfl
theorem tKeys : (Tryd.prog.globals[0]?).map (·.type) = some 98 := by kernel_rfl
theorem cells9 : Tryd.prog.cellsOf 9 = 1 := by kernel_rfl
theorem cells50 : Tryd.prog.cellsOf 50 = 1 := by kernel_rfl
theorem cells52 : Tryd.prog.cellsOf 52 = 2 := by kernel_rfl
theorem cells62 : Tryd.prog.cellsOf 62 = 2 := by kernel_rfl
theorem cells98 : Tryd.prog.cellsOf 98 = 16 := by kernel_rfl
theorem bytes52 : Tryd.prog.bytesOf 52 = 40 := by kernel_rfl
theorem bytes62 : Tryd.prog.bytesOf 62 = 32 := by kernel_rfl
theorem reach_eq : reachBytes = 140737488351232 := rfl

/-- An array of strings that is listed holds just these strings. -/
theorem strs_of_laid {P : Program} {W : World} {name : String} {ls : List (List UInt8)} {rest : List (String × DataW Unit)} {g n : Nat} {t e : TypeId}
    (hg : P.globalNamed name = some g) (hty : (P.globals[g]?).map (·.type) = some t) (ht : P.underlying t = some (.array n e)) (he : P.underlying e = some .string) (hce : P.cellsOf e = 1) (hct : P.cellsOf t = n)
    (h : laidMet P ((name, .agg (ls.map fun l => .lit (.string l))) :: rest) W) : ∃ t fr, W.heap[g]? = some (.cells (tabOf ls) t fr) := by
  obtain ⟨ps, ⟨g0, t0, cs0, f0, p0, q0, hg0, ht0, hv0, hd0, _, _⟩, _, _⟩ := h
  obtain rfl := Option.some.inj (hg.symm.trans hg0)
  obtain rfl := Option.some.inj (hty.symm.trans ht0)
  obtain ⟨xs, m1, rfl, hx1, hlen, hn, hel⟩ := DataW.trod_array ht hd0
  simp only [Prod.mk.injEq, DataW.agg.injEq] at hx1
  have hll : ls.length = n := by have := congrArg List.length hx1.1; simpa [hn] using this
  have hcs : cs0 = tabOf ls := by
    obtain ⟨l0⟩ := cs0
    unfold tabOf
    congr 1
    apply List.ext_getElem?
    intro i
    by_cases hi : i < n
    · have hxi : i < xs.length := by omega
      have h0 := hel i hi
      rw [List.getElem?_eq_getElem hxi, hce] at h0
      obtain ⟨s, e1, e2, _⟩ := DataW.trod_string he h0
      have hl := congrArg (fun l => l[i]?) hx1.1
      simp only [List.getElem?_map, List.getElem?_eq_getElem hxi, Option.map_some] at hl
      rw [e2] at hl
      obtain ⟨l, hl1, hl2⟩ := Option.map_eq_some_iff.1 hl
      have hl3 : l = s.data.toList := by simpa using hl2
      have hs : (⟨l.toArray⟩ : ByteArray) = s := bytes_inj (by rw [hl3])
      rw [List.getElem?_map, hl1, Option.map_some, hs]
      have e3 := congrArg (fun l => l[0]?) e1
      simpa using e3
    · rw [List.getElem?_eq_none (by rw [hct] at hlen; simp at hlen; omega), List.getElem?_eq_none (by simp; omega)]
  subst hcs
  simp only [World.var?, hg, Option.bind_some] at hv0
  split at hv0
  · rename_i cs t' fr hh
    have := Option.some.inj hv0
    subst this
    exact ⟨_, _, hh⟩
  · cases hv0

/-- WHAT THE ROWS' LIST GIVES. -/
theorem good_of {W : World} (h0 : laidMetH Tryd.prog Rows.heapExactRow.laid W) : KeysIn W := by
  have h : laidMet Tryd.prog Rows.heapExactRow.laid W := by rwa [MakeChecks.laidMetH_plain _ _ _ (by kernel_rfl)] at h0
  exact strs_of_laid (ls := keyTab) gKeys tKeys Tryd.underlying98 Tryd.underlying9 cells9 cells98 h

/-- The world that the door's own run leaves meets the list. -/
theorem door_met (os : Os) (args : Array Value) : laidMetH Tryd.prog Rows.heapExactRow.laid ((World.doorLaid Tryd.prog 14 os).forCall (fun _ _ => 0) ⟨#[], args, []⟩).memory :=
  laidMetH_of_parts3 (fuel := 8) (laidMet_of_run' 8 (by kernel_rfl) (by kernel_rfl)) (by kernel_rfl) (by kernel_rfl)

theorem weightsAll_in {H : Type} {P : Program} {e : TypeId} {l : List (DataW H)} {d : DataW H} (hd : d ∈ l) {n : Nat} (hn : n ∈ d.weights P e) : n ∈ DataW.weightsAll P e l := by
  induction l with
  | nil => cases hd
  | cons a r ih =>
    rw [DataW.weightsAll, List.mem_append]
    rcases List.mem_cons.1 hd with rfl | h
    · exact .inl hn
    · exact .inr (ih h)
/-- The address of a cell that is there has no spot. -/
theorem addr_of {w : World} {a : Addr} {v : Value} (h : w.cell? a = some v) : ∃ b o, a = ⟨b, o, none⟩ ∧ b < w.heap.size := by
  obtain ⟨b, o, s⟩ := a
  unfold World.cell? at h
  cases hb : w.heap[b]? with
  | none => simp [hb] at h
  | some ob =>
    have hlt := (Array.getElem?_eq_some_iff.1 hb).1
    cases s with
    | none => exact ⟨b, o, rfl, hlt⟩
    | some k =>
      cases ob <;> simp [hb] at h

section
variable {H : Type} {enc : TypeId × Value → H} {W : World}

/-- A slice of fields that is read. -/
theorem fields_of {fuel : Nat} {cs : List Value} {x : DataW H × List MemPlace} (h : DataW.trod enc Tryd.prog W 0 (fun _ => true) true fuel 50 cs = some x) (hw : ∀ n ∈ x.1.weights Tryd.prog 50, n ≤ reachBytes) :
    ∃ A fs c, cs = [.slice A (List.length fs) c] ∧ fs.length ≤ c ∧ fs.length ≤ 281474976710656 ∧ FR W A fs := by
  rcases open_slice_pairs Tryd.underlying50 Tryd.underlying62 cells62 rfl rfl cells9 cells9 h with ⟨rfl, _⟩ | ⟨a, len, cap, m, n, V0, V1, D0, D1, P0, P1, rfl, _, hl, _, hm, rfl, hi⟩
  · exact ⟨none, [], 0, rfl, Nat.le_refl _, Nat.zero_le _, fun h => absurd h (Nat.lt_irrefl _)⟩
  · have hmc : m = cap := by simpa using hm
    have each : ∀ i, i < len → ∃ f : Fld, V0 i = .string f.name ∧ V1 i = .string f.typ := by
      intro i hil
      obtain ⟨_, _, h2, h3⟩ := hi i (by omega)
      obtain ⟨s, e1, _, _⟩ := DataW.trod_string Tryd.underlying9 h2
      obtain ⟨s', e1', _, _⟩ := DataW.trod_string Tryd.underlying9 h3
      exact ⟨⟨s, s'⟩, by injection e1, by injection e1'⟩
    haveI : Inhabited Fld := ⟨⟨⟨#[]⟩, ⟨#[]⟩⟩⟩
    obtain ⟨F, hF⟩ := choose_lt each
    have hb : (len + (m - len)) * 32 ≤ reachBytes := by
      have := hw ((len + (m - len)) * 32) (by simp [DataW.weights, Tryd.underlying50, bytes62])
      exact this
    rw [reach_eq] at hb
    refine ⟨some a, (List.range len).map F, cap, by simp, by simpa using hl, by simp; omega, fun h0 => ?_⟩
    have h0' : 0 < len := by simpa using h0
    obtain ⟨b, o, rfl, hb2⟩ := addr_of (by have := (hi 0 (by omega)).1; rwa [Nat.zero_mul, Go.Addr.add_zero'] at this)
    refine ⟨b, o, rfl, hb2, fun k f hf => ?_⟩
    rw [List.getElem?_map] at hf
    have hk : k < len := by
      rcases Nat.lt_or_ge k len with h | h
      · exact h
      · rw [List.getElem?_eq_none (by simpa using h)] at hf; cases hf
    rw [List.getElem?_range hk] at hf
    obtain rfl := Option.some.inj hf
    obtain ⟨c0, c1, _, _⟩ := hi k (by omega)
    rw [Go.Addr.add_lit] at c0 c1
    rw [(hF k hk).1] at c0
    rw [(hF k hk).2] at c1
    exact ⟨c0, by rw [Nat.add_assoc]; exact c1⟩

/-- A slice of structs that is read. -/
theorem structs_of {fuel : Nat} {cs : List Value} {x : DataW H × List MemPlace} (h : DataW.trod enc Tryd.prog W 0 (fun _ => true) true fuel 22 cs = some x) (hw : ∀ n ∈ x.1.weights Tryd.prog 22, n ≤ reachBytes) :
    ∃ A ss c, cs = [.slice A (List.length ss) c] ∧ ss.length ≤ c ∧ ss.length * 40 ≤ 140737488351232 ∧ SR W A ss := by
  rcases open_slice_pairs Tryd.underlying22 Tryd.underlying52 cells52 rfl rfl cells9 cells50 h with ⟨rfl, _⟩ | ⟨a, len, cap, m, n, V0, V1, D0, D1, P0, P1, rfl, _, hl, _, hm, rfl, hi⟩
  · exact ⟨none, [], 0, rfl, Nat.le_refl _, Nat.zero_le _, fun h => absurd h (Nat.lt_irrefl _)⟩
  · have hmc : m = cap := by simpa using hm
    have each : ∀ i, i < len → ∃ s : Str, V0 i = .string s.name ∧ ∃ A c, V1 i = .slice A s.fields.length c ∧ s.fields.length ≤ c ∧ s.fields.length ≤ 281474976710656 ∧ FR W A s.fields := by
      intro i hil
      obtain ⟨_, _, h2, h3⟩ := hi i (by omega)
      obtain ⟨s, e1, _, _⟩ := DataW.trod_string Tryd.underlying9 h2
      obtain ⟨A, fs, c, e2, h4, h5, h6⟩ := fields_of h3 (fun q hq => hw q (by
        simp only [DataW.weights, Tryd.underlying22, List.mem_cons, List.mem_append]
        refine .inr (.inl (weightsAll_in (d := .agg [D0 i, D1 i]) (List.mem_map.2 ⟨i, List.mem_range.2 hil, rfl⟩) ?_))
        simp only [DataW.weights, Tryd.underlying52]
        simp only [List.map_cons, List.map_nil, DataW.weightsEach, List.append_nil, List.mem_append]
        exact .inr hq))
      exact ⟨⟨s, fs⟩, by injection e1, A, c, by injection e2, h4, h5, h6⟩
    haveI : Inhabited Str := ⟨⟨⟨#[]⟩, []⟩⟩
    obtain ⟨F, hF⟩ := choose_lt each
    have hb : (len + (m - len)) * 40 ≤ reachBytes := by
      have := hw ((len + (m - len)) * 40) (by simp [DataW.weights, Tryd.underlying22, bytes52])
      exact this
    rw [reach_eq] at hb
    refine ⟨some a, (List.range len).map F, cap, by simp, by simpa using hl, by simp; omega, fun h0 => ?_⟩
    have h0' : 0 < len := by simpa using h0
    obtain ⟨b, o, rfl, hb2⟩ := addr_of (by have := (hi 0 (by omega)).1; rwa [Nat.zero_mul, Go.Addr.add_zero'] at this)
    refine ⟨b, o, rfl, hb2, fun k f hf => ?_⟩
    rw [List.getElem?_map] at hf
    have hk : k < len := by
      rcases Nat.lt_or_ge k len with h | h
      · exact h
      · rw [List.getElem?_eq_none (by simpa using h)] at hf; cases hf
    rw [List.getElem?_range hk] at hf
    obtain rfl := Option.some.inj hf
    obtain ⟨c0, c1, _, _⟩ := hi k (by omega)
    rw [Go.Addr.add_lit] at c0 c1
    obtain ⟨e0, A, c, e1, h4, h5, h6⟩ := hF k hk
    rw [e0] at c0
    rw [e1] at c1
    exact ⟨A, c, c0, by rw [Nat.add_assoc]; exact c1, h4, h5, h6⟩
end

theorem weights_at {H : Type} {ts : List TypeId} {ds : List (DataW H)} (h : (DataW.weightsEach Tryd.prog ts ds).all (· ≤ reachBytes) = true) {j : Nat} {t : TypeId} {d : DataW H} (ht : ts[j]? = some t) (hd : ds[j]? = some d) :
    ∀ n ∈ d.weights Tryd.prog t, n ≤ reachBytes := fun n hn => by
  have := List.all_eq_true.1 h _ (DataW.weights_mem_each ht hd n hn)
  simpa using this

set_option maxRecDepth 100000 in
/-- An argument that is a slice of structs. -/
theorem open_structs {H : Type} {enc : TypeId × Value → H} {W : World} {base : Nat} {v : Value} {d : DataW H} {p : List MemPlace} (hval : Value.okWide Tryd.prog W .any base 22 v) (h : DataW.Trod enc Tryd.prog W 0 (fun _ => true) true 22 v d p)
    (hw : ∀ n ∈ d.weights Tryd.prog 22, n ≤ reachBytes) : ∃ A ss c, v = .slice A (List.length ss) c ∧ ss.length ≤ c ∧ ss.length * 40 ≤ 140737488351232 ∧ SR W A ss := by
  obtain ⟨a0, len, cap, rfl⟩ := okWide_slice Tryd.underlying22 hval
  obtain ⟨fuel, hf⟩ := h
  obtain ⟨A, ss, c, e, r⟩ := structs_of hf hw
  have e' : [Value.slice a0 len cap] = [.slice A ss.length c] := e
  exact ⟨A, ss, c, by injection e', r⟩
set_option maxRecDepth 100000 in
theorem open_fields {H : Type} {enc : TypeId × Value → H} {W : World} {base : Nat} {v : Value} {d : DataW H} {p : List MemPlace} (hval : Value.okWide Tryd.prog W .any base 50 v) (h : DataW.Trod enc Tryd.prog W 0 (fun _ => true) true 50 v d p)
    (hw : ∀ n ∈ d.weights Tryd.prog 50, n ≤ reachBytes) : ∃ A fs c, v = .slice A (List.length fs) c ∧ fs.length ≤ c ∧ fs.length ≤ 281474976710656 ∧ FR W A fs := by
  obtain ⟨a0, len, cap, rfl⟩ := okWide_slice Tryd.underlying50 hval
  obtain ⟨fuel, hf⟩ := h
  obtain ⟨A, ss, c, e, r⟩ := fields_of hf hw
  have e' : [Value.slice a0 len cap] = [.slice A ss.length c] := e
  exact ⟨A, ss, c, by injection e', r⟩

end Go.Proofs.YtjgmhkplgenieaaDoor
