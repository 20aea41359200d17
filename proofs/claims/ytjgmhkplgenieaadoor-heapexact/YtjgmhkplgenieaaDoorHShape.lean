/-
  CONTRACTS: shape of package heap: the struct of an object that is there.
-/
import Derived.Test.YtjgmhkplgenieaaDoorHRead
namespace Go.Proofs.YtjgmhkplgenieaaDoor
open Go.RowKit

def shA (s : Str) : Value := .agg #[.string s.name, .int .i64 s.fields.length, .bool (linkB s.fields 0), .bool (linkB s.fields 1), .bool (linkB s.fields 2), .bool (linkB s.fields 3), .bool (linkB s.fields 4), .bool (linkB s.fields 5), .bool (linkB s.fields 6), .bool (linkB s.fields 7)]
theorem HM.orow {w : World} {P : Nat → Prop} {hb : Nat} {H : Hp} {sv : Value} {g c n : Nat} (h : HM w P hb H sv (.slice (some ⟨g, 0, none⟩) n c)) {i : Nat} {o : Ob} (hs : H.obs[i]? = some o) :
    w.cell? ⟨g, i * 9, none⟩ = some (.int .i64 o.sh) ∧ ∀ k n, o.fs[k]? = some n → w.cell? ⟨g, i * 9 + 1 + k, none⟩ = some (.int .i64 n) := by
  have hl := h.ok.fl o (List.mem_of_getElem? hs)
  refine ⟨h.ocell hs 0 (by omega), fun k n hn => ?_⟩
  have hk := (List.getElem?_eq_some_iff.1 hn).1
  rw [Nat.add_assoc, h.ocell hs (1 + k) (by omega), show 1 + k = k + 1 by omega]
  unfold obV
  rw [List.getElem?_cons_succ, List.getElem?_map, hn]; rfl
/-- An object that is there, and its struct. -/
theorem ob_at {w : World} {P : Nat → Prop} {hb : Nat} {H : Hp} {sv ov : Value} (h : HM w P hb H sv ov) {i : Nat} (hi : i < H.obs.length) : ∃ o s, H.obs[i]? = some o ∧ H.ss[o.sh]? = some s ∧ H.ob i = o ∧ H.st i = s ∧ o.fs.length = 8 ∧ s.fields.length ≤ 8 := by
  obtain ⟨o, ho⟩ : ∃ o, H.obs[i]? = some o := ⟨_, List.getElem?_eq_getElem hi⟩
  have hsh := h.ok.sh o (List.mem_of_getElem? ho)
  obtain ⟨s, hs⟩ : ∃ s, H.ss[o.sh]? = some s := ⟨_, List.getElem?_eq_getElem hsh⟩
  have e1 : H.ob i = o := by unfold Hp.ob; rw [List.getD_eq_getElem?_getD, ho]; rfl
  refine ⟨o, s, ho, hs, e1, by unfold Hp.st; rw [e1, List.getD_eq_getElem?_getD, hs]; rfl, h.ok.fl o (List.mem_of_getElem? ho), h.ok.wd s (List.mem_of_getElem? hs)⟩

set_option maxRecDepth 100000 in
set_option maxHeartbeats 1000000 in
theorem shape_any (P : Nat → Prop) (hb : Nat) (sv ov : Value) (H : Hp) (i : Nat) (o : Int) (w : World) (h : HM w P hb H sv ov) (hi : i < H.obs.length) (ho : Hid (o = (i : Int) + 1)) :
    Calls Tryd.prog 31 #[.pointer (some ⟨hb, 0, none⟩), .int .i64 o] w fun e w' => e = .returned (shA (H.st i)) ∧ Below w.heap.size w w' := by
  obtain ⟨ob, s, h1, h2, -, h4, h5, h6⟩ := ob_at h hi
  rw [h4]
  have hsh := (List.getElem?_eq_some_iff.1 h2).1
  obtain ⟨sg, sc, rfl, hs2, hs3⟩ := h.sform hsh
  obtain ⟨og, oc, rfl, ho2, ho3⟩ := h.oform hi
  have c0 := h.c0
  have c1 := h.c1
  have hno := h.ok.no
  have hlt := h.lt
  obtain ⟨d0, d1, d2⟩ := h.srow h2
  have d20 := d2 0 (by omega)
  have d21 := d2 1 (by omega)
  have d22 := d2 2 (by omega)
  have d23 := d2 3 (by omega)
  have d24 := d2 4 (by omega)
  have d25 := d2 5 (by omega)
  have d26 := d2 6 (by omega)
  have d27 := d2 7 (by omega)
  obtain ⟨e0, -⟩ := h.orow h1
  have hw : IntKind.i64.wrap (o - 1) = (i : Int) := by rw [ho.out, show (i : Int) + 1 - 1 = i by omega]; exact IntWalk.i64_in _ (by omega)
  clear h h1 h2 h4 d2
  generalize H.obs.length = m at *
  generalize H.ss.length = n at *
  generalize ob.sh = q at *
  unfold shA
  generalize linkB s.fields 0 = b0 at *
  generalize linkB s.fields 1 = b1 at *
  generalize linkB s.fields 2 = b2 at *
  generalize linkB s.fields 3 = b3 at *
  generalize linkB s.fields 4 = b4 at *
  generalize linkB s.fields 5 = b5 at *
  generalize linkB s.fields 6 = b6 at *
  generalize linkB s.fields 7 = b7 at *
  generalize s.fields.length = fl at *
  generalize s.name = sn at *
  go_enter Tryd.func31, Tryd.ntmps31
  go_wp2_with fail
  go_region
  go_wp2_with fail
  refine bodyPost_ret (v := .agg #[.string sn, .int .i64 fl, .bool b0, .bool b1, .bool b2, .bool b3, .bool b4, .bool b5, .bool b6, .bool b7]) (by simp [results, Tryd.results31, go_sem]) rfl ?_
  exact ⟨rfl, ((Below.refl w.heap.size w).alloc (Nat.le_refl _) _).drew⟩

end Go.Proofs.YtjgmhkplgenieaaDoor
