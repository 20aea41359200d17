/-
  FROM A ROW's ARGUMENTS: a slice of deeds, a slice of numbers, read as lists. No condition.
-/
import Derived.Test.YtjgmhkplgenieaaDoorLaid
import Derived.Test.YtjgmhkplgenieaaDoorHLaw
namespace Go.Proofs.YtjgmhkplgenieaaDoor
open Go.ChangeShapes Go.WideShapes Go.ChangeAt Go.RowKit Go.Deep

theorem cells3 : Tryd.prog.cellsOf 3 = 1 := by kernel_rfl
theorem cells46 : Tryd.prog.cellsOf 46 = 5 := by kernel_rfl
theorem bytes46 : Tryd.prog.bytesOf 46 = 48 := by kernel_rfl
theorem bytes3 : Tryd.prog.bytesOf 3 = 8 := by kernel_rfl
section
variable {H : Type} {enc : TypeId × Value → H} {W : World}
set_option maxRecDepth 100000 in
/-- A slice of deeds that is read. -/
theorem deeds_of {fuel : Nat} {cs : List Value} {x : DataW H × List MemPlace} (h : DataW.trod enc Tryd.prog W 0 (fun _ => true) true fuel 23 cs = some x) (hw : ∀ n ∈ x.1.weights Tryd.prog 23, n ≤ reachBytes) :
    ∃ A l c, cs = [.slice A (List.length l) c] ∧ l.length ≤ c ∧ l.length * 48 ≤ 140737488351232 ∧ AR W A l := by
  rcases open_slice Tryd.underlying23 h with ⟨rfl, _⟩ | ⟨a, len, cap, m, n, D, Pl, rfl, _, hl, _, hm, rfl, hx⟩
  · exact ⟨none, [], 0, rfl, Nat.le_refl _, Nat.zero_le _, fun h => absurd h (Nat.lt_irrefl _)⟩
  · have hmc : m = cap := by simpa using hm
    have each : ∀ i, i < len → ∃ d : Deed, W.cell? (a.add (i * 5)) = some (.int .i64 d.kind) ∧ W.cell? (a.add (i * 5 + 1)) = some (.string d.name) ∧ W.cell? (a.add (i * 5 + 2)) = some (.int .i64 d.obj) ∧ W.cell? (a.add (i * 5 + 3)) = some (.int .i64 d.field) ∧ W.cell? (a.add (i * 5 + 4)) = some (.int .i64 d.n) := by
      intro i hil
      obtain ⟨cs', h1, h2⟩ := hx i (by omega)
      rw [cells46] at h1
      obtain ⟨_, hlen, hcell⟩ := World.cells?_some h1
      obtain ⟨xs, k, hk, hxy, _, hxl, hf⟩ := DataW.trod_struct Tryd.underlying46 h2
      match xs, hxl, cs', hlen with
      | [y0, y1, y2, y3, y4], _, [v0, v1, v2, v3, v4], _ =>
        have g0 := hf 0 _ rfl
        have g1 := hf 1 _ rfl
        have g2 := hf 2 _ rfl
        have g3 := hf 3 _ rfl
        have g4 := hf 4 _ rfl
        simp [cells3, cells9] at g0 g1 g2 g3 g4
        obtain ⟨z0, e0, _, _⟩ := DataW.trod_int Tryd.underlying3 g0
        obtain ⟨z1, e1, _, _⟩ := DataW.trod_string Tryd.underlying9 g1
        obtain ⟨z2, e2, _, _⟩ := DataW.trod_int Tryd.underlying3 g2
        obtain ⟨z3, e3, _, _⟩ := DataW.trod_int Tryd.underlying3 g3
        obtain ⟨z4, e4, _, _⟩ := DataW.trod_int Tryd.underlying3 g4
        cases e0
        cases e1
        cases e2
        cases e3
        cases e4
        have c0 := hcell 0 (by omega)
        have c1 := hcell 1 (by omega)
        have c2 := hcell 2 (by omega)
        have c3 := hcell 3 (by omega)
        have c4 := hcell 4 (by omega)
        rw [add_add] at c0 c1 c2 c3 c4
        exact ⟨⟨z0, z1, z2, z3, z4⟩, by simpa using c0, by simpa using c1, by simpa using c2, by simpa using c3, by simpa using c4⟩
    haveI : Inhabited Deed := ⟨⟨0, ⟨#[]⟩, 0, 0, 0⟩⟩
    obtain ⟨F, hF⟩ := choose_lt each
    have hb : (len + (m - len)) * 48 ≤ reachBytes := by
      have := hw ((len + (m - len)) * 48) (by simp [DataW.weights, Tryd.underlying23, bytes46])
      exact this
    rw [reach_eq] at hb
    refine ⟨some a, (List.range len).map F, cap, by simp, by simpa using hl, by simp; omega, fun h0 => ?_⟩
    have h0' : 0 < len := by simpa using h0
    obtain ⟨b, o, rfl, hb2⟩ := addr_of (by have := (hF 0 h0').1; rwa [Nat.zero_mul, Go.Addr.add_zero'] at this)
    refine ⟨b, o, rfl, hb2, fun k f hf => ?_⟩
    rw [List.getElem?_map] at hf
    have hk : k < len := by
      rcases Nat.lt_or_ge k len with h | h
      · exact h
      · rw [List.getElem?_eq_none (by simpa using h)] at hf; cases hf
    rw [List.getElem?_range hk] at hf
    obtain rfl := Option.some.inj hf
    obtain ⟨c0, c1, c2, c3, c4⟩ := hF k hk
    rw [Go.Addr.add_lit] at c0 c1 c2 c3 c4
    exact ⟨c0, by rw [Nat.add_assoc]; exact c1, by rw [Nat.add_assoc]; exact c2, by rw [Nat.add_assoc]; exact c3, by rw [Nat.add_assoc]; exact c4⟩
set_option maxRecDepth 100000 in
/-- A slice of numbers that is read. -/
theorem nums_of {fuel : Nat} {cs : List Value} {x : DataW H × List MemPlace} (h : DataW.trod enc Tryd.prog W 0 (fun _ => true) true fuel 24 cs = some x) (hw : ∀ n ∈ x.1.weights Tryd.prog 24, n ≤ reachBytes) :
    ∃ A l c, cs = [.slice A (List.length l) c] ∧ l.length ≤ c ∧ l.length * 8 ≤ 140737488351232 ∧ IRz W A l := by
  rcases open_ints Tryd.underlying24 Tryd.underlying3 cells3 h with ⟨rfl, _⟩ | ⟨a, len, cap, zs, rfl, _, hl, _, hz, rfl, hc, _⟩
  · exact ⟨none, [], 0, rfl, Nat.le_refl _, Nat.zero_le _, fun h => absurd h (Nat.lt_irrefl _)⟩
  · have hzc : zs.length = cap := by simpa using hz
    have hb : len * 8 ≤ reachBytes := by
      have := hw ((len + (cap - len)) * 8) (by simp [DataW.weights, Tryd.underlying24, bytes3, lits, hzc]; left; congr 1; omega)
      omega
    rw [reach_eq] at hb
    have hlz : (zs.take len).length = len := by rw [List.length_take]; omega
    refine ⟨some a, zs.take len, cap, by rw [hlz], by rw [hlz]; exact hl, by rw [hlz]; exact hb, fun h0 => ?_⟩
    rw [hlz] at h0
    obtain ⟨b, o, rfl, hb2⟩ := addr_of (by have := hc 0 (by omega); rwa [Go.Addr.add_zero'] at this)
    refine ⟨b, o, rfl, hb2, fun k n hk => ?_⟩
    have hkl : k < len := by have := (List.getElem?_eq_some_iff.1 hk).1; omega
    have := hc k (by omega)
    rw [Go.Addr.add_lit] at this
    rw [List.getElem?_take, if_pos hkl] at hk
    rw [this, List.getD_eq_getElem?_getD, hk]; rfl
end
set_option maxRecDepth 100000 in
theorem open_deeds {H : Type} {enc : TypeId × Value → H} {W : World} {base : Nat} {v : Value} {d : DataW H} {p : List MemPlace} (hval : Value.okWide Tryd.prog W .any base 23 v) (h : DataW.Trod enc Tryd.prog W 0 (fun _ => true) true 23 v d p)
    (hw : ∀ n ∈ d.weights Tryd.prog 23, n ≤ reachBytes) : ∃ A l c, v = .slice A (List.length l) c ∧ l.length ≤ c ∧ l.length * 48 ≤ 140737488351232 ∧ AR W A l := by
  obtain ⟨a0, len, cap, rfl⟩ := okWide_slice Tryd.underlying23 hval
  obtain ⟨fuel, hf⟩ := h
  obtain ⟨A, ss, c, e, r⟩ := deeds_of hf hw
  have e' : [Value.slice a0 len cap] = [.slice A ss.length c] := e
  exact ⟨A, ss, c, by injection e', r⟩
set_option maxRecDepth 100000 in
theorem open_nums {H : Type} {enc : TypeId × Value → H} {W : World} {base : Nat} {v : Value} {d : DataW H} {p : List MemPlace} (hval : Value.okWide Tryd.prog W .any base 24 v) (h : DataW.Trod enc Tryd.prog W 0 (fun _ => true) true 24 v d p)
    (hw : ∀ n ∈ d.weights Tryd.prog 24, n ≤ reachBytes) : ∃ A l c, v = .slice A (List.length l) c ∧ l.length ≤ c ∧ l.length * 8 ≤ 140737488351232 ∧ IRz W A l := by
  obtain ⟨a0, len, cap, rfl⟩ := okWide_slice Tryd.underlying24 hval
  obtain ⟨fuel, hf⟩ := h
  obtain ⟨A, ss, c, e, r⟩ := nums_of hf hw
  have e' : [Value.slice a0 len cap] = [.slice A ss.length c] := e
  exact ⟨A, ss, c, by injection e', r⟩

end Go.Proofs.YtjgmhkplgenieaaDoor
