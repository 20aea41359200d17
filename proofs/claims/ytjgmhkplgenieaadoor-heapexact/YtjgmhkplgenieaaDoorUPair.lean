/-
  THE PROGRAM's HEAP AND THE DOCUMENT's OWN, SIDE BY SIDE: what each call does to both. No condition.
-/
import Derived.Test.YtjgmhkplgenieaaDoorUReach
import Derived.Test.YtjgmhkplgenieaaDoorHLaw
namespace Go.Proofs.YtjgmhkplgenieaaDoor
open Go.RowKit

/-- Of two. -/
def Or2 (F E : Nat → Prop) (i : Nat) : Prop := F i ∨ E i
theorem SP.weak {W w : World} {F G : Nat → Prop} {v : Value} {H : Option Hp} (h : SP W w F v H) (hq : ∀ i, G i → F i) : SP W w G v H := by
  obtain ⟨P, h1, h2⟩ := h
  exact ⟨P, fun i hi => ⟨(h1 i hi).1, (h1 i hi).2.1, fun e => (h1 i hi).2.2 (hq i e)⟩, h2⟩
/-- The program's heap v reads as Ha, the document's at ub as Hr; neither's blocks are the other's, nor such as stood in W, nor such as meet E. -/
def XR (W : World) (E : Nat → Prop) (v : Value) (ub : Nat) (A : Option Addr) (m c : Nat) (ss : List Str) (Ha Hr : Hp) (w : World) : Prop :=
  Ha.ss = ss ∧ Hr.ss = ss ∧ Below W.heap.size W w ∧ (∃ F lv zs, SP W w (Or2 F E) v (some Ha) ∧ UM w F ub A m c Hr lv zs ∧ ∀ i, F i → W.heap.size ≤ i ∧ i < w.heap.size ∧ ¬ E i) ∧ ∀ i, E i → i < w.heap.size
/-- What E names stays. -/
def NE (E : Nat → Prop) (i : Nat) : Prop := ¬ E i
section
variable {W w w' : World} {E : Nat → Prop} {v : Value} {ub m c : Nat} {A : Option Addr} {ss : List Str} {Ha Hr : Hp}
theorem XR.bl (h : XR W E v ub A m c ss Ha Hr w) : Below W.heap.size W w := h.2.2.1
theorem XR.read (h : XR W E v ub A m c ss Ha Hr w) (hb : Below w.heap.size w w') : XR W E v ub A m c ss Ha Hr w' := by
  obtain ⟨h1, h2, h3, ⟨F, lv, zs, h4, h5, h6⟩, h7⟩ := h
  exact ⟨h1, h2, h3.trans (hb.mono h3.size), ⟨F, lv, zs, h4.read hb, h5.below hb, fun i hi => ⟨(h6 i hi).1, Nat.lt_of_lt_of_le (h6 i hi).2.1 hb.size, (h6 i hi).2.2⟩⟩, fun i hi => Nat.lt_of_lt_of_le (h7 i hi) hb.size⟩
theorem XR.drop (h : XR W E v ub A m c ss Ha Hr w) : XR W NoF v ub A m c ss Ha Hr w := by
  obtain ⟨h1, h2, h3, ⟨F, lv, zs, h4, h5, h6⟩, h7⟩ := h
  exact ⟨h1, h2, h3, ⟨F, lv, zs, h4.weak (fun i hi => hi.elim .inl (fun e => e.elim)), h5, fun i hi => ⟨(h6 i hi).1, (h6 i hi).2.1, id⟩⟩, fun i hi => hi.elim⟩
/-- What is new now is nobody's. -/
theorem XR.keep (h : XR W NoF v ub A m c ss Ha Hr w) (hb : Below w.heap.size w w') {x : Nat} (hx : w.heap.size ≤ x) (hx2 : x < w'.heap.size) : XR W (fun i => i = x) v ub A m c ss Ha Hr w' := by
  obtain ⟨h1, h2, h3, ⟨F, lv, zs, ⟨P, p1, p2⟩, h5, h6⟩, h7⟩ := h
  refine ⟨h1, h2, h3.trans (hb.mono h3.size), ⟨F, lv, zs, ⟨P, fun i hi => ⟨(p1 i hi).1, Nat.lt_of_lt_of_le (p1 i hi).2.1 hb.size, fun e => ?_⟩, p2.below hb⟩, h5.below hb, fun i hi => ⟨(h6 i hi).1, Nat.lt_of_lt_of_le (h6 i hi).2.1 hb.size, fun e => ?_⟩⟩, fun i hi => by rw [hi]; exact hx2⟩
  · rcases e with e | e
    · exact (p1 i hi).2.2 (.inl e)
    · have := (p1 i hi).2.1; have e' : i = x := e; omega
  · have := (h6 i hi).2.1; have e' : i = x := e; omega
theorem XR.u (h : XR W E v ub A m c ss Ha Hr w) : ∃ F lv zs, UM w F ub A m c Hr lv zs := by
  obtain ⟨_, _, _, ⟨F, lv, zs, _, h5, _⟩, _⟩ := h
  exact ⟨F, lv, zs, h5⟩
theorem XR.le (h : XR W E v ub A m c ss Ha Hr w) : Hr.obs.length ≤ 131072 ∧ Hr.ss.length ≤ 12 := by
  obtain ⟨F, lv, zs, h5⟩ := h.u
  exact ⟨h5.ok.no, h5.ok.ns⟩
theorem XR.p (h : XR W E v ub A m c ss Ha Hr w) : ∃ F, SP W w F v (some Ha) := by
  obtain ⟨_, _, _, ⟨F, lv, zs, h4, _, _⟩, _⟩ := h
  exact ⟨_, h4⟩
theorem set_ss {H H' : Hp} {o f n : Int} (h : setO (some H) o f n = some H') : H'.ss = H.ss := by
  unfold setO at h
  split at h
  · cases h; rfl
  · cases h; rfl
theorem set_some (H : Hp) (o f n : Int) : ∃ H', setO (some H) o f n = some H' := by
  unfold setO
  split
  · exact ⟨_, rfl⟩
  · exact ⟨_, rfl⟩
theorem make_ss {H H' : Hp} {nm : ByteArray} {a r : Nat} (h : makeO (some H) nm = (some H', a, r)) : H'.ss = H.ss := by
  replace h : (match fnd H.ss nm with | none => (some H, 0, 13) | some s => if 131072 ≤ H.obs.length then (some H, 0, 4) else (some (mkH H s), H.obs.length + 1, 0)) = (some H', a, r) := h
  split at h
  · cases h; rfl
  · split at h <;> cases h <;> rfl
theorem make_some' (H : Hp) (nm : ByteArray) : ∃ H' a r, makeO (some H) nm = (some H', a, r) := by
  show ∃ H' a r, (match fnd H.ss nm with | none => (some H, 0, 13) | some s => if 131072 ≤ H.obs.length then (some H, 0, 4) else (some (mkH H s), H.obs.length + 1, 0)) = (some H', a, r)
  split
  · exact ⟨_, _, _, rfl⟩
  · split
    · exact ⟨_, _, _, rfl⟩
    · exact ⟨_, _, _, rfl⟩
theorem XR.make_p (h : XR W E v ub A m c ss Ha Hr w) (nm : ByteArray) (H' : Hp) (a r : Nat) (hr : Hid (makeO (some Ha) nm = (some H', a, r))) :
    Calls Tryd.prog 10 #[v, .string nm] w fun e w' => e = .returned (.tuple #[.int .i64 a, .int .i64 r]) ∧ XR W E v ub A m c ss H' Hr w' ∧ Sv (NE E) w w' := by
  obtain ⟨h1, h2, h3, ⟨F, lv, zs, h4, h5, h6⟩, h7⟩ := h
  refine (h4.make (fun i hi => hi.elim (fun e => (h6 i e).2.1) (h7 i)) h3.size nm (some H') a r hr).mono ?_
  rintro e w' ⟨rfl, hs, hp⟩
  exact ⟨rfl, ⟨(make_ss hr.out).trans h1, h2, h3.trans (my_below hs h3.size), ⟨F, lv, zs, hp, h5.sv hs (fun g hg e => e.2 (.inl hg)), fun i hi => ⟨(h6 i hi).1, Nat.lt_of_lt_of_le (h6 i hi).2.1 hs.size, (h6 i hi).2.2⟩⟩, fun i hi => Nat.lt_of_lt_of_le (h7 i hi) hs.size⟩, hs.mono (fun i hi e => hi.2 (.inr e))⟩
theorem XR.set_p (h : XR W E v ub A m c ss Ha Hr w) (o f n : Int) (r : Nat) (hr : Hid (askO (some Ha) o f = r)) (H' : Hp) (hH : Hid (setO (some Ha) o f n = some H')) :
    Calls Tryd.prog 12 #[v, .int .i64 o, .int .i64 f, .int .i64 n] w fun e w' => e = .returned (.int .i64 r) ∧ XR W E v ub A m c ss H' Hr w' ∧ Sv (NE E) w w' := by
  obtain ⟨h1, h2, h3, ⟨F, lv, zs, h4, h5, h6⟩, h7⟩ := h
  refine (h4.set o f n r hr (some H') hH).mono ?_
  rintro e w' ⟨rfl, hs, hp⟩
  exact ⟨rfl, ⟨(set_ss hH.out).trans h1, h2, h3.trans (my_below hs h3.size), ⟨F, lv, zs, hp, h5.sv hs (fun g hg e => e.2 (.inl hg)), fun i hi => ⟨(h6 i hi).1, Nat.lt_of_lt_of_le (h6 i hi).2.1 hs.size, (h6 i hi).2.2⟩⟩, fun i hi => Nat.lt_of_lt_of_le (h7 i hi) hs.size⟩, hs.mono (fun i hi e => hi.2 (.inr e))⟩
theorem XR.over (h : XR W E v ub A m c ss Ha Hr w) {F : Nat → Prop} {lv' : Value} {zs' : List (Ob × Nat)} {H' : Hp} (h4 : SP W w (Or2 F E) v (some Ha)) (h6 : ∀ i, F i → W.heap.size ≤ i ∧ i < w.heap.size ∧ ¬ E i) (hs : Sv F w w') (hu : UM w' (Gr F w w') ub A m c H' lv' zs') (h8 : H'.ss = ss) :
    XR W E v ub A m c ss Ha H' w' ∧ Sv (NE E) w w' := by
  obtain ⟨h1, h2, h3, _, h7⟩ := h
  refine ⟨⟨h1, h8, h3.trans (hs.below (fun i hi => (h6 i hi).1) h3.size), ⟨Gr F w w', lv', zs', (h4.other (hs.mono (fun i hi => .inl hi))).weak ?_, hu, ?_⟩, fun i hi => Nat.lt_of_lt_of_le (h7 i hi) hs.size⟩, hs.mono (fun i hi e => (h6 i hi).2.2 e)⟩
  · rintro i ((x | x) | x)
    · exact .inl (.inl x)
    · exact .inr x
    · exact .inl (.inr x)
  · rintro i (x | ⟨x, y⟩)
    · exact ⟨(h6 i x).1, Nat.lt_of_lt_of_le (h6 i x).2.1 hs.size, (h6 i x).2.2⟩
    · exact ⟨Nat.le_trans h3.size x, y, fun e => by have := h7 i e; omega⟩
theorem XR.make_u (h : XR W E v ub A m c ss Ha Hr w) (hR : Hid (SR W A ss)) (nm : ByteArray) (H' : Hp) (a r : Nat) (hr : Hid (makeO (some Hr) nm = (some H', a, r))) :
    Calls Tryd.prog 18 #[.pointer (some ⟨ub, 0, none⟩), .string nm] w fun e w' => e = .returned (.tuple #[.int .i64 a, .int .i64 r]) ∧ XR W E v ub A m c ss Ha H' w' ∧ Sv (NE E) w w' := by
  have hx := h
  obtain ⟨h1, h2, h3, ⟨F, lv, zs, h4, h5, h6⟩, h7⟩ := h
  refine (umake_any F ub m c A Hr H' lv zs nm a r w h5 (by rw [h2]; exact hR.out.below h3 (Nat.le_refl _)) hr).mono ?_
  rintro e w' ⟨rfl, hs, lv', zs', hu⟩
  exact ⟨rfl, hx.over h4 h6 hs hu ((make_ss hr.out).trans h2)⟩
theorem XR.set_u (h : XR W E v ub A m c ss Ha Hr w) (o f n : Int) (r : Nat) (hr : Hid (askO (some Hr) o f = r)) (H' : Hp) (hH : Hid (setO (some Hr) o f n = some H')) :
    Calls Tryd.prog 19 #[.pointer (some ⟨ub, 0, none⟩), .int .i64 o, .int .i64 f, .int .i64 n] w fun e w' => e = .returned (.int .i64 r) ∧ XR W E v ub A m c ss Ha H' w' ∧ Sv (NE E) w w' := by
  have hx := h
  obtain ⟨h1, h2, h3, ⟨F, lv, zs, h4, h5, h6⟩, h7⟩ := h
  refine (uset_any F ub m c A Hr H' lv zs o f n r w h5 hr hH).mono ?_
  rintro e w' ⟨rfl, hs, hz, zs', hu⟩
  exact ⟨rfl, hx.over h4 h6 hs (hu.mono (fun _ h => .inl h)) ((set_ss hH.out).trans h2)⟩
theorem XR.get_p (h : XR W E v ub A m c ss Ha Hr w) (o f n : Int) (r : Nat) (hr : Hid (askO (some Ha) o f = r)) (hn : Hid (getO (some Ha) o f = n)) : Calls Tryd.prog 11 #[v, .int .i64 o, .int .i64 f] w fun e w' => e = .returned (.tuple #[.int .i64 n, .int .i64 r]) ∧ XR W E v ub A m c ss Ha Hr w' ∧ Below w.heap.size w w' := by
  obtain ⟨F, hp⟩ := h.p
  refine (hp.get o f n r hr hn).mono ?_
  rintro e w' ⟨rfl, hb⟩
  exact ⟨rfl, h.read hb, hb⟩
theorem XR.get_u (h : XR W E v ub A m c ss Ha Hr w) (o f n : Int) (r : Nat) (hr : Hid (askO (some Hr) o f = r)) (hn : Hid (getO (some Hr) o f = n)) : Calls Tryd.prog 20 #[.pointer (some ⟨ub, 0, none⟩), .int .i64 o, .int .i64 f] w fun e w' => e = .returned (.tuple #[.int .i64 n, .int .i64 r]) ∧ w = w' := by
  obtain ⟨F, lv, zs, hu⟩ := h.u
  exact uget_any F ub m c A Hr lv zs o f n r w hu hr hn
theorem XR.len_p (h : XR W E v ub A m c ss Ha Hr w) : Calls Tryd.prog 14 #[v] w fun e w' => e = .returned (.int .i64 (Ha.obs.length : Nat)) ∧ w = w' := by
  obtain ⟨F, hp⟩ := h.p
  exact hp.len
theorem XR.of_p (h : XR W E v ub A m c ss Ha Hr w) (o : Int) (t : ByteArray) (ht : Hid (ofO (some Ha) o = t)) : Calls Tryd.prog 13 #[v, .int .i64 o] w fun e w' => e = .returned (.string t) ∧ XR W E v ub A m c ss Ha Hr w' ∧ Below w.heap.size w w' := by
  obtain ⟨F, hp⟩ := h.p
  refine (hp.of o t ht).mono ?_
  rintro e w' ⟨rfl, hb⟩
  exact ⟨rfl, h.read hb, hb⟩
/-- A clone takes the heap's place. -/
theorem XR.clone_p (h : XR W E v ub A m c ss Ha Hr w) : Calls Tryd.prog 17 #[v] w fun e w' => ∃ v', e = .returned v' ∧ XR W E v' ub A m c ss Ha Hr w' ∧ Below w.heap.size w w' ∧ PM w' (Nw w w') v' (some Ha) := by
  obtain ⟨F', hp'⟩ := h.p
  have hx := h
  refine hp'.clone.mono ?_
  rintro e w' ⟨v', rfl, hb, hp⟩
  obtain ⟨h1, h2, h3, ⟨F, lv, zs, h4, h5, h6⟩, h7⟩ := h
  refine ⟨v', rfl, ⟨h1, h2, h3.trans (hb.mono h3.size), ⟨F, lv, zs, ⟨Nw w w', fun i hi => ⟨Nat.le_trans h3.size hi.1, hi.2, fun hf => ?_⟩, hp⟩, h5.below hb, fun i hi => ⟨(h6 i hi).1, Nat.lt_of_lt_of_le (h6 i hi).2.1 hb.size, (h6 i hi).2.2⟩⟩, fun i hi => Nat.lt_of_lt_of_le (h7 i hi) hb.size⟩, hb, hp⟩
  have h8 : i < w.heap.size := hf.elim (fun e => (h6 i e).2.1) (h7 i)
  have := hi.1
  omega
theorem XR.reach_p (h : XR W E v ub A m c ss Ha Hr w) (n c2 : Nat) (roots : List Int) (B : Option Addr) (hl : Hid (IRz W B roots)) (hn : Hid (roots.length = n)) (hnl : n ≤ 281474976710656) : Calls Tryd.prog 16 #[v, .slice B n c2] w (ReachQ (some Ha) roots w) := by
  obtain ⟨F, hp⟩ := h.p
  exact hp.reach n c2 roots B (hl.out.below h.bl (Nat.le_refl _)) hn hnl
theorem XR.reach_u (h : XR W E v ub A m c ss Ha Hr w) (hR : Hid (SR W A ss)) (q c2 N : Nat) (roots : List Int) (B : Option Addr) (hl : Hid (IRz W B roots)) (hn : Hid (roots.length = q)) (hq2 : q ≤ 1048576) (hN : Hid (Hr.obs.length + 1 = N)) :
    Calls Tryd.prog 21 #[.pointer (some ⟨ub, 0, none⟩), .slice B q c2] w (UReachQ Hr roots N w) := by
  obtain ⟨h1, h2, h3, ⟨F, lv, zs, h4, h5, h6⟩, h7⟩ := h
  exact ureach_any F ub m c q c2 N A B Hr lv zs roots w h5 (by rw [h2]; exact hR.out.below h3 (Nat.le_refl _)) (hl.out.below h3 (Nat.le_refl _)) hn hq2 hN
end
/-- The document's own heap, new: a block that holds the structs. -/
theorem XR.new {W w : World} {v : Value} {ub m c : Nat} {A : Option Addr} {ss : List Str} (hs : SP W w NoF v (some ⟨ss, []⟩)) (hb : Below W.heap.size W w) (hm : ss.length = m) (hc : ∃ p, chk ss = (p, 0)) (hub : ub = w.heap.size) :
    XR W NoF v ub A m c ss ⟨ss, []⟩ ⟨ss, []⟩ (w.alloc (.cells #[.slice A m c, .slice none 0 0] 44)) := by
  obtain ⟨p, hc⟩ := hc
  subst hub
  have hb2 : Below w.heap.size w (w.alloc (.cells #[.slice A m c, .slice none 0 0] 44)) := (Below.refl _ w).alloc (Nat.le_refl _) _
  obtain ⟨P, h1, h2⟩ := hs
  refine ⟨rfl, rfl, hb.trans (hb2.mono hb.size), ⟨fun i => i = w.heap.size, .slice none 0 0, [], ⟨P, fun i hi => ⟨(h1 i hi).1, Nat.lt_of_lt_of_le (h1 i hi).2.1 hb2.size, fun e => ?_⟩, h2.below hb2⟩, ⟨⟨ok_len hc, fun s hs => ?_, Nat.zero_le _, fun o ho => absurd ho (by simp), fun o ho => absurd ho (by simp)⟩, hm, heap_alloc_new w _, ⟨rfl, .inl ⟨rfl, rfl⟩⟩, rfl, fun i o g h => by simp at h, fun i o g h => by simp at h, fun i j o o' g h => by simp at h, rfl, fun g hg => by cases hg⟩, fun i hi => ?_⟩, fun i hi => hi.elim⟩
  · rcases e with e | e
    · have := (h1 i hi).2.1
      have e' : i = w.heap.size := e
      omega
    · exact e.elim
  · obtain ⟨i, hi⟩ := List.getElem?_of_mem hs
    exact (ok_struct hc hi).2.2.1
  · have : i = w.heap.size := hi
    have := hb.size
    exact ⟨by omega, by simp; omega, id⟩

end Go.Proofs.YtjgmhkplgenieaaDoor
