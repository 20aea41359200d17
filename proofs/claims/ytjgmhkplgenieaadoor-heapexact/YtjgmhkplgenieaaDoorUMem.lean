/-
  THE DOCUMENT's OWN HEAP IN MEMORY (truantref06): how it lies, what keeps it. No condition.
-/
import Derived.Test.YtjgmhkplgenieaaDoorHWrite
import Derived.Test.YtjgmhkplgenieaaDoorHMake

namespace Go.Proofs.YtjgmhkplgenieaaDoor
open Go.RowKit

def intsU (l : List Int) : List Value := l.map fun n => .int .i64 n
def wdS (ss : List Str) (o : Ob) : Nat := (ss.getD o.sh ⟨⟨#[]⟩, []⟩).fields.length
def uF (ss : List Str) (o : Ob) : List Int := o.fs.take (wdS ss o)
def uV (ss : List Str) (x : Ob × Nat) : List Value := [.int .i64 x.1.sh, .slice (some ⟨x.2, 0, none⟩) (wdS ss x.1) (wdS ss x.1)]
def uVs (ss : List Str) (l : List (Ob × Nat)) : List Value := l.flatMap (uV ss)
theorem uV_len (ss : List Str) (x : Ob × Nat) : (uV ss x).length = 2 := rfl
structure UM (w : World) (P : Nat → Prop) (ub : Nat) (A : Option Addr) (m c : Nat) (H : Hp) (lv : Value) (zs : List (Ob × Nat)) : Prop where
  ok : H.Ok
  hm : H.ss.length = m
  hd : w.heap[ub]? = some (.cells #[.slice A m c, lv] 44 (0, 0))
  lo : w.ownsRow 0 54 2 lv zs.length (uVs H.ss zs)
  hz : zs.map Prod.fst = H.obs
  fr : ∀ (i : Nat) o g, zs[i]? = some (o, g) → w.ownsRow 0 3 1 (.slice (some ⟨g, 0, none⟩) (wdS H.ss o) (wdS H.ss o)) (wdS H.ss o) (intsU (uF H.ss o))
  fp : ∀ (i : Nat) o g, zs[i]? = some (o, g) → P g ∧ g ≠ ub ∧ lv.ownBlock ≠ some g
  nd : ∀ (i j : Nat) (o o' : Ob) g, zs[i]? = some (o, g) → zs[j]? = some (o', g) → i = j
  p0 : P ub
  p1 : ∀ g, lv.ownBlock = some g → P g ∧ g ≠ ub
section
variable {w w' : World} {P Q : Nat → Prop} {ub m c : Nat} {A : Option Addr} {H : Hp} {lv : Value} {zs : List (Ob × Nat)}
theorem UM.lt (h : UM w P ub A m c H lv zs) : ub < w.heap.size := (Array.getElem?_eq_some_iff.1 h.hd).1
theorem UM.sv (h : UM w P ub A m c H lv zs) (hs : Sv Q w w') (hq : ∀ g, P g → ¬ Q g) : UM w' P ub A m c H lv zs :=
  ⟨h.ok, h.hm, (hs.block ub h.lt (hq ub h.p0)).trans h.hd, own_sv h.lo hs (fun g hg => hq g (h.p1 g hg).1), h.hz,
    fun i o g hi => own_sv (h.fr i o g hi) hs (fun x hx => by cases hx; exact hq _ (h.fp i o _ hi).1), h.fp, h.nd, h.p0, h.p1⟩
theorem UM.below (h : UM w P ub A m c H lv zs) (hs : Below w.heap.size w w') : UM w' P ub A m c H lv zs := h.sv (Sv.of (P := fun _ => False) hs) (fun _ _ h => h)
theorem UM.mono (h : UM w P ub A m c H lv zs) (hq : ∀ g, P g → Q g) : UM w Q ub A m c H lv zs :=
  ⟨h.ok, h.hm, h.hd, h.lo, h.hz, h.fr, fun i o g hi => ⟨hq _ (h.fp i o g hi).1, (h.fp i o g hi).2⟩, h.nd, hq _ h.p0, fun g hg => ⟨hq _ (h.p1 g hg).1, (h.p1 g hg).2⟩⟩
theorem UM.len (h : UM w P ub A m c H lv zs) : zs.length = H.obs.length := by rw [← h.hz, List.length_map]
theorem UM.c0 (h : UM w P ub A m c H lv zs) : w.cell? ⟨ub, 0, none⟩ = some (.slice A m c) := cell_of_row w ub 0 _ 44 (0, 0) h.hd
theorem UM.c1 (h : UM w P ub A m c H lv zs) : w.cell? ⟨ub, 1, none⟩ = some lv := cell_of_row w ub 1 _ 44 (0, 0) h.hd
theorem UM.f1 (h : UM w P ub A m c H lv zs) : w.frozen? ⟨ub, 1, none⟩ = false := frozen_of_row w ub 1 _ 44 h.hd
theorem UM.lform (h : UM w P ub A m c H lv zs) : ∃ B k, lv = .slice B H.obs.length k ∧ H.obs.length ≤ k := by
  obtain ⟨B, k, e, hk⟩ := own_form h.lo
  rw [h.len] at e hk
  exact ⟨B, k, e, hk⟩
theorem UM.lform' (h : UM w P ub A m c H lv zs) {i : Nat} (hi : i < H.obs.length) : ∃ g k, lv = .slice (some ⟨g, 0, none⟩) H.obs.length k ∧ H.obs.length ≤ k ∧ g < w.heap.size := by
  obtain ⟨g, k, rfl, _, h2⟩ := h.lo.form (by rw [h.len]; omega)
  obtain ⟨_, k', h3, h4⟩ := h.lform
  injection h3 with e1 e2 e3
  subst e3
  exact ⟨g, k, by rw [h.len], h4, h2⟩
theorem UM.zat (h : UM w P ub A m c H lv zs) {i : Nat} (hi : i < H.obs.length) : ∃ g, zs[i]? = some (H.ob i, g) := by
  have hl : i < zs.length := by rw [h.len]; exact hi
  obtain ⟨⟨o, g⟩, hz⟩ : ∃ x, zs[i]? = some x := ⟨_, List.getElem?_eq_getElem hl⟩
  refine ⟨g, ?_⟩
  have : H.obs[i]? = some o := by rw [← h.hz, List.getElem?_map, hz]; rfl
  rw [show H.ob i = o by unfold Hp.ob; rw [List.getD_eq_getElem?_getD, this]; rfl]
  exact hz
theorem wd_wid {H : Hp} (i : Nat) : wdS H.ss (H.ob i) = H.wid i := rfl
theorem UM.row {g n k : Nat} (h : UM w P ub A m c H (.slice (some ⟨g, 0, none⟩) n k) zs) {i : Nat} (hi : i < H.obs.length) :
    ∃ fg, w.cell? ⟨g, i * 2, none⟩ = some (.int .i64 (H.ob i).sh) ∧ w.cell? ⟨g, i * 2 + 1, none⟩ = some (.slice (some ⟨fg, 0, none⟩) (H.wid i) (H.wid i)) ∧
      (∀ k, k < H.wid i → w.cell? ⟨fg, k, none⟩ = some (.int .i64 ((H.ob i).fs.getD k 0))) ∧ zs[i]? = some (H.ob i, fg) ∧ fg < w.heap.size := by
  obtain ⟨fg, hz⟩ := h.zat hi
  have hl : i < zs.length := by rw [h.len]; exact hi
  obtain ⟨_, c', h3, _⟩ := own_form h.lo
  cases h3
  have hc : ∀ j, j < 2 → w.cell? ⟨g, i * 2 + j, none⟩ = (uV H.ss (H.ob i, fg))[j]? := by
    intro j hj
    rw [h.lo.cellAt (i * 2 + j) (by omega)]
    exact flat_get (fun a _ => uV_len _ a) hz hj
  have hf := h.fr i _ _ hz
  refine ⟨fg, hc 0 (by omega), hc 1 (by omega), fun k hk => ?_, hz, (hf.lt fg rfl).2⟩
  have h8 : k < (H.ob i).fs.length := by
    have := hf.1
    have e : (intsU (uF H.ss (H.ob i))).length = min (H.wid i) (H.ob i).fs.length := by unfold intsU uF; rw [List.length_map, List.length_take]; rfl
    rw [e] at this
    have e2 : wdS H.ss (H.ob i) = H.wid i := rfl
    omega
  rw [hf.cellAt k (by rw [wd_wid]; omega)]
  unfold intsU uF
  rw [List.getElem?_map, List.getElem?_take, if_pos (by rw [wd_wid]; exact hk), List.getElem?_eq_getElem h8, List.getD_eq_getElem?_getD, List.getElem?_eq_getElem h8]; rfl

theorem intsU_set (l : List Int) (k : Nat) (n : Int) : intsU (l.set k n) = (intsU l).set k (.int .i64 n) := by unfold intsU; rw [List.map_set]
theorem UM.set (h : UM w P ub A m c H lv zs) {i k g : Nat} (hi : zs[i]? = some (H.ob i, g)) (hk : k < H.wid i) (n : Int) :
    UM (w.setCell ⟨g, k, none⟩ (.int .i64 n)) P ub A m c (setH H i k n) lv (zs.set i ({ H.ob i with fs := (H.ob i).fs.set k n }, g)) ∧ Sv P w (w.setCell ⟨g, k, none⟩ (.int .i64 n)) := by
  have hl : i < H.obs.length := by rw [← h.len]; exact (List.getElem?_eq_some_iff.1 hi).1
  obtain ⟨pg, pn, ps⟩ := h.fp i _ g hi
  have hsv : Sv (fun x => x = g) w (w.setCell ⟨g, k, none⟩ (.int .i64 n)) := (Sv.refl (fun x => x = g) w).setCell (p := ⟨g, k, none⟩) (.inl rfl) _
  have hob : H.obs[i]? = some (H.ob i) := by rw [← h.hz, List.getElem?_map, hi]; rfl
  have hmem : ∀ a ∈ H.obs.set i { H.ob i with fs := (H.ob i).fs.set k n }, a ∈ H.obs ∨ a = { H.ob i with fs := (H.ob i).fs.set k n } := fun a ha => List.mem_or_eq_of_mem_set ha
  have hgz : ∀ (j : Nat) o x, (zs.set i ({ H.ob i with fs := (H.ob i).fs.set k n }, g))[j]? = some (o, x) → (j = i ∧ o = { H.ob i with fs := (H.ob i).fs.set k n } ∧ x = g) ∨ (j ≠ i ∧ zs[j]? = some (o, x)) := by
    intro j o x hj
    rw [List.getElem?_set] at hj
    split at hj
    · rename_i e
      subst e
      split at hj
      · cases hj; exact .inl ⟨rfl, rfl, rfl⟩
      · cases hj
    · rename_i e; exact .inr ⟨fun e2 => e e2.symm, hj⟩
  have hgx : ∀ (j : Nat) o x, (zs.set i ({ H.ob i with fs := (H.ob i).fs.set k n }, g))[j]? = some (o, x) → ∃ o', zs[j]? = some (o', x) := by
    intro j o x hj
    rcases hgz j o x hj with ⟨rfl, _, rfl⟩ | ⟨_, hj⟩
    · exact ⟨_, hi⟩
    · exact ⟨_, hj⟩
  refine ⟨⟨⟨h.ok.ns, h.ok.wd, by show (List.set _ _ _).length ≤ _; rw [List.length_set]; exact h.ok.no, ?_, ?_⟩, h.hm, (hsv.block ub h.lt (fun e => pn e.symm)).trans h.hd, ?_, ?_, ?_, ?_, ?_, h.p0, h.p1⟩, hsv.mono (fun x hx => hx ▸ pg)⟩
  · intro a ha
    rcases hmem a ha with x | rfl
    · exact h.ok.sh a x
    · exact h.ok.sh (H.ob i) (List.mem_of_getElem? hob)
  · intro a ha
    rcases hmem a ha with x | rfl
    · exact h.ok.fl a x
    · show (List.set _ _ _).length = 8
      rw [List.length_set]; exact h.ok.fl (H.ob i) (List.mem_of_getElem? hob)
  · have := own_sv h.lo hsv (fun x hx e => ps (by rw [hx, e]))
    rw [List.length_set]
    show World.ownsRow _ 0 54 2 lv zs.length (uVs H.ss _)
    have e : uVs H.ss (zs.set i ({ H.ob i with fs := (H.ob i).fs.set k n }, g)) = uVs H.ss zs := by
      unfold uVs
      rw [← flat_set (a' := ({ H.ob i with fs := (H.ob i).fs.set k n }, g)) (u := .int .i64 (H.ob i).sh) (f := uV H.ss) (fun a _ => uV_len _ a) hi (j := 0) (by omega) rfl]
      apply List.ext_getElem?
      intro q
      rw [List.getElem?_set]
      split
      · rename_i e
        subst e
        split
        · exact (flat_get (f := uV H.ss) (fun a _ => uV_len _ a) hi (j := 0) (by omega)).symm
        · rename_i e2; rw [List.getElem?_eq_none (by omega)]
      · rfl
    rw [e]; exact this
  · show List.map Prod.fst (zs.set i _) = H.obs.set i _
    rw [List.map_set, h.hz]
  · intro j o x hj
    show World.ownsRow _ 0 3 1 (.slice _ (wdS H.ss o) (wdS H.ss o)) (wdS H.ss o) (intsU (uF H.ss o))
    rcases hgz j o x hj with ⟨rfl, rfl, rfl⟩ | ⟨hji, hj'⟩
    · have := ((h.fr _ _ _ hi).stored k (.int .i64 n)).1
      rw [← intsU_set] at this
      have e : (uF H.ss (H.ob j)).set k n = uF H.ss { H.ob j with fs := (H.ob j).fs.set k n } := by
        unfold uF
        show _ = List.take (wdS H.ss (H.ob j)) _
        rw [List.take_set]
      rw [e] at this
      exact this
    · exact own_sv (h.fr j o x hj') hsv (fun y hy e => by cases hy; subst e; exact hji (h.nd j i o _ _ hj' hi))
  · intro j o x hj
    obtain ⟨o', h'⟩ := hgx j o x hj
    exact h.fp j o' x h'
  · intro j j' o o' x h1 h2
    obtain ⟨_, h1'⟩ := hgx j o x h1
    obtain ⟨_, h2'⟩ := hgx j' o' x h2
    exact h.nd j j' _ _ x h1' h2'
end

end Go.Proofs.YtjgmhkplgenieaaDoor
