/-
  A HEAP IN MEMORY: what it holds as plain data, how it lies, what keeps it. No condition.
-/
import Derived.Test.YtjgmhkplgenieaaDoorLinks
import Derived.Test.YtjgmhkplgenieaaDoorOkay
namespace Go.Proofs.YtjgmhkplgenieaaDoor
open Go.RowKit

structure Ob where
  sh : Nat
  fs : List Int
structure Hp where
  ss : List Str
  obs : List Ob
def Hp.ob (H : Hp) (i : Nat) : Ob := H.obs.getD i ⟨0, []⟩
def Hp.st (H : Hp) (i : Nat) : Str := H.ss.getD (H.ob i).sh ⟨⟨#[]⟩, []⟩
def Hp.wid (H : Hp) (i : Nat) : Nat := (H.st i).fields.length
structure Hp.Ok (H : Hp) : Prop where
  ns : H.ss.length ≤ 12
  wd : ∀ s ∈ H.ss, s.fields.length ≤ 8
  no : H.obs.length ≤ 131072
  sh : ∀ o ∈ H.obs, o.sh < H.ss.length
  fl : ∀ o ∈ H.obs, o.fs.length = 8
def shV (s : Str) : List Value := .string s.name :: .int .i64 s.fields.length :: (List.range 8).map fun k => .bool (linkB s.fields k)
def obV (o : Ob) : List Value := .int .i64 o.sh :: o.fs.map fun n => .int .i64 n
def shsV (l : List Str) : List Value := l.flatMap shV
def obsV (l : List Ob) : List Value := l.flatMap obV

theorem flat_len {α β : Type} {f : α → List β} {c : Nat} {l : List α} (h : ∀ a ∈ l, (f a).length = c) : (l.flatMap f).length = l.length * c := by
  induction l with
  | nil => simp
  | cons a r ih => rw [List.flatMap_cons, List.length_append, h a (by simp), ih (fun b hb => h b (by simp [hb])), List.length_cons, Nat.add_mul, Nat.one_mul, Nat.add_comm]
theorem flat_get {α β : Type} {f : α → List β} {c : Nat} {l : List α} (h : ∀ a ∈ l, (f a).length = c) {i j : Nat} {a : α} (ha : l[i]? = some a) (hj : j < c) : (l.flatMap f)[i * c + j]? = (f a)[j]? := by
  induction l generalizing i with
  | nil => simp at ha
  | cons b r ih =>
    have hb := h b (by simp)
    rw [List.flatMap_cons]
    cases i with
    | zero =>
      obtain rfl : b = a := by simpa using ha
      rw [Nat.zero_mul, Nat.zero_add, List.getElem?_append_left (by omega)]
    | succ i =>
      rw [Nat.add_mul, Nat.one_mul, List.getElem?_append_right (by omega), hb, show i * c + c + j - c = i * c + j by omega]
      exact ih (fun x hx => h x (by simp [hx])) (by simpa using ha)
theorem flat_set {α β : Type} {f : α → List β} {c : Nat} {l : List α} (h : ∀ a ∈ l, (f a).length = c) {i j : Nat} {a a' : α} {u : β} (ha : l[i]? = some a) (hj : j < c) (hf : (f a).set j u = f a') : (l.flatMap f).set (i * c + j) u = (l.set i a').flatMap f := by
  induction l generalizing i with
  | nil => simp at ha
  | cons b r ih =>
    have hb := h b (by simp)
    rw [List.flatMap_cons]
    cases i with
    | zero =>
      obtain rfl : b = a := by simpa using ha
      rw [Nat.zero_mul, Nat.zero_add, List.set_append_left _ _ (by omega), hf]; rfl
    | succ i =>
      rw [Nat.add_mul, Nat.one_mul, List.set_append_right _ _ (by omega), hb, show i * c + c + j - c = i * c + j by omega, ih (fun x hx => h x (by simp [hx])) (by simpa using ha)]; rfl
theorem shV_len (s : Str) : (shV s).length = 10 := by simp [shV]
theorem obV_len {o : Ob} (h : o.fs.length = 8) : (obV o).length = 9 := by simp [obV, h]

/-- What a stretch of memory is as it was: all but what meets P. -/
structure Sv (P : Nat → Prop) (w w' : World) : Prop where
  os : w'.os = w.os
  tape : w'.tape = w.tape
  output : w'.output = w.output
  size : w.heap.size ≤ w'.heap.size
  block : ∀ k, k < w.heap.size → ¬ P k → w'.heap[k]? = w.heap[k]?
theorem Sv.refl (P : Nat → Prop) (w : World) : Sv P w w := ⟨rfl, rfl, rfl, Nat.le_refl _, fun _ _ _ => rfl⟩
theorem Sv.trans {P Q : Nat → Prop} {a b c : World} (h : Sv P a b) (k : Sv Q b c) (hq : ∀ i, Q i → P i ∨ a.heap.size ≤ i) : Sv P a c :=
  ⟨k.os.trans h.os, k.tape.trans h.tape, k.output.trans h.output, Nat.le_trans h.size k.size, fun i hi hp => (k.block i (Nat.lt_of_lt_of_le hi h.size) (fun q => by rcases hq i q with x | x; exact hp x; omega)).trans (h.block i hi hp)⟩
theorem Sv.of {P : Nat → Prop} {w w' : World} (h : Below w.heap.size w w') : Sv P w w' := ⟨h.os, h.tape, h.output, h.size, fun k hk _ => h.block k hk⟩
theorem Sv.mono {P Q : Nat → Prop} {w w' : World} (h : Sv P w w') (hp : ∀ i, P i → Q i) : Sv Q w w' := ⟨h.os, h.tape, h.output, h.size, fun k hk hq => h.block k hk (fun p => hq (hp k p))⟩
theorem Sv.below {P : Nat → Prop} {w w' : World} {B : Nat} (h : Sv P w w') (hp : ∀ i, P i → B ≤ i) (hB : B ≤ w.heap.size) : Below B w w' := ⟨h.os, h.tape, h.output, h.size, fun k hk => h.block k (by omega) (fun p => by have := hp k p; omega)⟩
theorem Sv.setCell {P : Nat → Prop} {a w : World} (h : Sv P a w) {p : Addr} (hp : P p.block ∨ a.heap.size ≤ p.block) (u : Value) : Sv P a (w.setCell p u) :=
  h.trans (Q := fun k => k = p.block) ⟨rfl, rfl, rfl, by simp [World.setCell], fun k _ hk => Below.heap_setCell _ _ _ _ hk⟩ (fun i hi => hi ▸ hp)
theorem Sv.alloc {P : Nat → Prop} {a w : World} (h : Sv P a w) (o : Obj) : Sv P a (w.alloc o) :=
  h.trans (Q := fun _ => False) ⟨rfl, rfl, rfl, by simp, fun k hk _ => Below.heap_alloc _ _ _ hk⟩ (fun i hi => hi.elim)
theorem Sv.grown {P : Nat → Prop} {a w w' : World} {row : Option Nat} (h : Sv P a w) (hg : w.grownBy w' row) (hr : ∀ k, row = some k → P k ∨ a.heap.size ≤ k) : Sv P a w' :=
  h.trans (Q := fun k => row = some k) ⟨hg.os, hg.tape, hg.output, hg.size, fun k hk hq => hg.block k hk (fun e => hq e.symm)⟩ (fun i hi => hr i hi)
theorem Sv.on {P : Nat → Prop} {a w w' : World} (h : Sv P a w) (b : Below w.heap.size w w') : Sv P a w' := h.trans (Sv.of (P := fun _ => False) b) (fun i hi => hi.elim)

theorem own_sv {w w' : World} {P : Nat → Prop} {base : Nat} {e : TypeId} {size : Nat} {v : Value} {n : Nat} {xs : List Value} (h : w.ownsRow base e size v n xs) (hs : Sv P w w') (hp : ∀ g, v.ownBlock = some g → ¬ P g) : w'.ownsRow base e size v n xs := by
  refine ⟨h.1, ?_⟩
  rcases h.2 with h2 | ⟨g, cap, cur, rfl, h3, h4, h5⟩
  · exact .inl h2
  · exact .inr ⟨g, cap, cur, rfl, h3, (hs.block g (Array.getElem?_eq_some_iff.1 h4).1 (hp g rfl)).trans h4, h5⟩

/-- The heap's blocks all meet P. -/
structure HM (w : World) (P : Nat → Prop) (hb : Nat) (H : Hp) (sv ov : Value) : Prop where
  ok : H.Ok
  hd : w.heap[hb]? = some (.cells #[sv, ov] 67 (0, 0))
  so : w.ownsRow 0 70 10 sv H.ss.length (shsV H.ss)
  oo : w.ownsRow 0 79 9 ov H.obs.length (obsV H.obs)
  sn : H.ss = [] → sv = .slice none 0 0
  on : H.obs = [] → ov = .slice none 0 0
  p0 : P hb
  p1 : ∀ g, sv.ownBlock = some g → P g ∧ g ≠ hb
  p2 : ∀ g, ov.ownBlock = some g → P g ∧ g ≠ hb ∧ sv.ownBlock ≠ some g
/-- A pointer that is nil, or leads to a heap. -/
def PM (w : World) (P : Nat → Prop) (v : Value) : Option Hp → Prop
  | none => v = .pointer none
  | some H => ∃ hb sv ov, v = .pointer (some ⟨hb, 0, none⟩) ∧ HM w P hb H sv ov
theorem HM.lt {w : World} {P : Nat → Prop} {hb : Nat} {H : Hp} {sv ov : Value} (h : HM w P hb H sv ov) : hb < w.heap.size := (Array.getElem?_eq_some_iff.1 h.hd).1
theorem HM.sv {w w' : World} {P Q : Nat → Prop} {hb : Nat} {H : Hp} {sv ov : Value} (h : HM w P hb H sv ov) (hs : Sv Q w w') (hq : ∀ g, P g → ¬ Q g) : HM w' P hb H sv ov :=
  ⟨h.ok, (hs.block hb h.lt (hq hb h.p0)).trans h.hd, own_sv h.so hs (fun g hg => hq g (h.p1 g hg).1), own_sv h.oo hs (fun g hg => hq g (h.p2 g hg).1), h.sn, h.on, h.p0, h.p1, h.p2⟩
theorem HM.below {w w' : World} {P : Nat → Prop} {hb : Nat} {H : Hp} {sv ov : Value} (h : HM w P hb H sv ov) (hs : Below w.heap.size w w') : HM w' P hb H sv ov := h.sv (Sv.of (P := fun _ => False) hs) (fun _ _ h => h)
theorem HM.mono {w : World} {P Q : Nat → Prop} {hb : Nat} {H : Hp} {sv ov : Value} (h : HM w P hb H sv ov) (hq : ∀ g, P g → Q g) : HM w Q hb H sv ov :=
  ⟨h.ok, h.hd, h.so, h.oo, h.sn, h.on, hq _ h.p0, fun g hg => ⟨hq _ (h.p1 g hg).1, (h.p1 g hg).2⟩, fun g hg => ⟨hq _ (h.p2 g hg).1, (h.p2 g hg).2⟩⟩
theorem PM.sv {w w' : World} {P Q : Nat → Prop} {v : Value} {H : Option Hp} (h : PM w P v H) (hs : Sv Q w w') (hq : ∀ g, P g → ¬ Q g) : PM w' P v H := by
  cases H with
  | none => exact h
  | some H => obtain ⟨hb, sv, ov, h1, h2⟩ := h; exact ⟨hb, sv, ov, h1, h2.sv hs hq⟩
theorem PM.below {w w' : World} {P : Nat → Prop} {v : Value} {H : Option Hp} (h : PM w P v H) (hs : Below w.heap.size w w') : PM w' P v H := h.sv (Sv.of (P := fun _ => False) hs) (fun _ _ h => h)
theorem PM.mono {w : World} {P Q : Nat → Prop} {v : Value} {H : Option Hp} (h : PM w P v H) (hq : ∀ g, P g → Q g) : PM w Q v H := by
  cases H with
  | none => exact h
  | some H => obtain ⟨hb, sv, ov, h1, h2⟩ := h; exact ⟨hb, sv, ov, h1, h2.mono hq⟩

section
variable {w : World} {P : Nat → Prop} {hb : Nat} {H : Hp} {sv ov : Value}
theorem HM.c0 (h : HM w P hb H sv ov) : w.cell? ⟨hb, 0, none⟩ = some sv := cell_of_row w hb 0 _ 67 (0, 0) h.hd
theorem HM.c1 (h : HM w P hb H sv ov) : w.cell? ⟨hb, 1, none⟩ = some ov := cell_of_row w hb 1 _ 67 (0, 0) h.hd
theorem HM.f1 (h : HM w P hb H sv ov) : w.frozen? ⟨hb, 1, none⟩ = false := frozen_of_row w hb 1 _ 67 h.hd
theorem own_form {w : World} {base : Nat} {e : TypeId} {size : Nat} {v : Value} {n : Nat} {xs : List Value} (h : w.ownsRow base e size v n xs) : ∃ A c, v = .slice A n c ∧ n ≤ c := by
  rcases h.2 with ⟨rfl, rfl⟩ | ⟨g, cap, cur, rfl, _, _, h5, _⟩
  · exact ⟨none, 0, rfl, Nat.le_refl _⟩
  · exact ⟨_, cap, rfl, h5⟩
theorem HM.sform (h : HM w P hb H sv ov) {i : Nat} (hi : i < H.ss.length) : ∃ g c, sv = .slice (some ⟨g, 0, none⟩) H.ss.length c ∧ H.ss.length ≤ c ∧ g < w.heap.size := by
  obtain ⟨g, c, rfl, _, h2⟩ := h.so.form (by omega)
  obtain ⟨_, c', h3, h4⟩ := own_form h.so
  cases h3
  exact ⟨g, c, rfl, h4, h2⟩
theorem HM.oform (h : HM w P hb H sv ov) {i : Nat} (hi : i < H.obs.length) : ∃ g c, ov = .slice (some ⟨g, 0, none⟩) H.obs.length c ∧ H.obs.length ≤ c ∧ g < w.heap.size := by
  obtain ⟨g, c, rfl, _, h2⟩ := h.oo.form (by omega)
  obtain ⟨_, c', h3, h4⟩ := own_form h.oo
  cases h3
  exact ⟨g, c, rfl, h4, h2⟩
theorem HM.scell {g c n : Nat} (h : HM w P hb H (.slice (some ⟨g, 0, none⟩) n c) ov) {i : Nat} {s : Str} (hs : H.ss[i]? = some s) (j : Nat) (hj : j < 10) : w.cell? ⟨g, i * 10 + j, none⟩ = (shV s)[j]? := by
  have hi := (List.getElem?_eq_some_iff.1 hs).1
  obtain ⟨_, c', h3, _⟩ := own_form h.so
  cases h3
  rw [h.so.cellAt (i * 10 + j) (by omega)]
  exact flat_get (fun a _ => shV_len a) hs hj
theorem HM.ocell {g c n : Nat} (h : HM w P hb H sv (.slice (some ⟨g, 0, none⟩) n c)) {i : Nat} {o : Ob} (hs : H.obs[i]? = some o) (j : Nat) (hj : j < 9) : w.cell? ⟨g, i * 9 + j, none⟩ = (obV o)[j]? := by
  have hi := (List.getElem?_eq_some_iff.1 hs).1
  obtain ⟨_, c', h3, _⟩ := own_form h.oo
  cases h3
  rw [h.oo.cellAt (i * 9 + j) (by omega)]
  exact flat_get (fun a ha => obV_len (h.ok.fl a ha)) hs hj
end

end Go.Proofs.YtjgmhkplgenieaaDoor
