/-
  PLAIN: what is shown is parsed as the same tree, but for places, unless it is too long, or too deep. Nothing of the program stands here.
-/
import Derived.Test.YtfbejfoalnhihaaGreatDoorJ12
import Derived.Test.YtfbejfoalnhihaaGreatDoorJ8
import Derived.Test.YtfbejfoalnhihaaGreatDoorJ10
namespace Go.Proofs.YtfbejfoalnhihaaGreatDoor
open Go.RowKit

theorem nw_of {l : List UInt8} {ts : List Tok} (h : TokS l ts) (s : Tx) (hs : Wd (Tf ts) s) : NW s := by
  obtain ⟨k, h1, h2⟩ := hs
  unfold Tf at h1 h2
  cases hg : ts[k]? with
  | none => rw [hg] at h1; cases h1
  | some t =>
    rw [hg] at h1 h2
    simp only at h1 h2
    have := h.ok t (List.mem_of_getElem? hg)
    obtain ⟨tk, tt, tp⟩ := t
    simp only at h1 h2
    subst h1 h2
    exact this
theorem flat_decl {W : Tx → Prop} (hW : ∀ s, W s → NW s) : ∀ ks : List Tree, (∀ u ∈ ks, Al W u ∧ (u.op = 2 ∨ u.op = 3 ∨ u.op = 4)) → GA (ks.flatMap declOf) ∧ (ks.flatMap declOf).length ≤ 8 * sizeL ks
  | [], _ => ⟨ga_nil, Nat.zero_le _⟩
  | k :: ks, h => by
    obtain ⟨h1, h2⟩ := flat_decl hW ks fun u hu => h u (List.mem_cons_of_mem _ hu)
    obtain ⟨g1, g2⟩ := gd_all hW (h k (List.mem_cons_self ..)).1 (h k (List.mem_cons_self ..)).2
    refine ⟨ga_app g1 h1, ?_⟩
    rw [List.flatMap_cons, List.length_append, sizeL_cons]; omega
theorem jt_bound : ∀ ts : List Tok, (∀ t ∈ ts, t.text.length ≤ 21) → (jt ts).length ≤ 22 * ts.length
  | [], _ => Nat.zero_le _
  | t :: r, h => by
    have h1 := jt_bound r fun u hu => h u (List.mem_cons_of_mem _ hu)
    have h2 := h t (List.mem_cons_self ..)
    show (32 :: (t.text ++ jt r)).length ≤ _
    simp only [List.length_cons, List.length_append]; omega
def tokOf (x : Tx) : Tok := ⟨kd x, x, 0⟩
theorem tok_texts (xs : List Tx) : (xs.map tokOf).map (·.text) = xs := by
  rw [List.map_map]; exact List.map_id'' (fun _ => rfl) xs
theorem join_bound (xs : List Tx) (h : GA xs) : (joinT xs).length ≤ 22 * xs.length := by
  cases xs with
  | nil => exact Nat.zero_le _
  | cons x r =>
    have e := join_jt (tokOf x) (r.map tokOf)
    have e2 : (tokOf x :: r.map tokOf).map (·.text) = x :: r := tok_texts (x :: r)
    rw [e2] at e
    unfold joinT
    rw [e]
    have h1 := jt_bound (r.map tokOf) fun t ht => by
      obtain ⟨y, hy, rfl⟩ := List.mem_map.1 ht
      exact (h y (List.mem_cons_of_mem _ hy)).2
    have h2 := (h x (List.mem_cons_self ..)).2
    rw [List.length_map] at h1
    show (x ++ jt (r.map tokOf)).length ≤ _
    rw [List.length_append, List.length_cons]; omega
/-- What a parse gives for the shower. -/
theorem shown {l : List UInt8} {ts : List Tok} {ks : List Tree} (h : parseR l = .ok ts ks) : OkP (root ts ks) ∧ GA (showP (root ts ks)) ∧ (showP (root ts ks)).length ≤ 40000 ∧ (joinT (showP (root ts ks))).length ≤ 1000000 := by
  obtain ⟨hT, hA, hs⟩ := parsed h
  have hW := nw_of hT
  obtain ⟨g1, g2⟩ := flat_decl hW ks hA
  have h3 := hT.len
  have h4 := hT.le
  have h5 : (showP (root ts ks)).length ≤ 40000 := by show (ks.flatMap declOf).length ≤ _; omega
  refine ⟨⟨rfl, ?_, fun k u hu => ⟨(hA u (List.mem_of_getElem? hu)).1.ok, (hA u (List.mem_of_getElem? hu)).2⟩⟩, g1, h5, ?_⟩
  · show sizeL ks + 1 ≤ 1000000; omega
  · have := join_bound _ g1
    have e : showP (root ts ks) = ks.flatMap declOf := rfl
    rw [e] at h5 ⊢; omega
/-- What becomes of what is shown. -/
inductive Bk (l : List UInt8) (ts : List Tok) (ks : List Tree) : Prop
  | full (p : Nat) (h : parseR l = .bad p 4)
  | deep (p : Nat) (h : parseR l = .bad p 3)
  | good (ms : List Tok) (ks' : List Tree) (h : parseR l = .ok ms ks') (he : EL ks ks') (hs : showP (root ms ks') = showP (root ts ks))
theorem back {l : List UInt8} {ts : List Tok} {ks : List Tree} (h : parseR l = .ok ts ks) : Bk (joinT (showP (root ts ks))) ts ks := by
  obtain ⟨hT, hA, hs⟩ := parsed h
  have hW := nw_of hT
  obtain ⟨-, g1, -, -⟩ := shown h
  obtain ⟨xs, hxs⟩ : ∃ xs, showP (root ts ks) = xs := ⟨_, rfl⟩
  have hxs2 : ks.flatMap declOf = xs := hxs
  rw [hxs] at g1 ⊢
  by_cases hl : 4096 < (joinT xs).length
  · refine .full 4096 ?_
    unfold parseR scanR
    rw [if_pos hl]
  · obtain ⟨ms, h1, h2⟩ := scan_join (xs.map tokOf) fun t ht => by
      obtain ⟨y, hy, rfl⟩ := List.mem_map.1 ht
      exact (g1 y hy).1
    rw [tok_texts] at h1
    have hsc : scanR (joinT xs) = .ok ms := by unfold scanR; rw [if_neg hl]; exact h1
    have hT2 := toks_of hsc
    have hTf := Tf_same h2
    have hlen : ms.length = xs.length := by rw [same_len h2, List.length_map]
    have hR : Rd (Tf ms) 0 xs := fun k x hk => by
      rw [hTf, Nat.zero_add]
      exact Tf_at (t := tokOf x) (by rw [List.getElem?_map, hk]; rfl)
    have hend : (Tf ms (0 + xs.length)).kind = 0 := by rw [Nat.zero_add, Tf_end (by omega)]
    obtain ⟨r, hp, -⟩ := P_total hT2.sent (fuelT ms) .decls 0 0 trivial (Nat.zero_le _) (by show 4 * (ms.length - 0) + 0 < 4 * ms.length + 1; omega)
    have hd := (all_s hW (fuelT ms) (T := Tf ms)).dl ks 0 0 hA (by rw [hxs2]; exact hR) (by rw [hxs2]; exact hend) r hp
    have e1 : parseR (joinT xs) = treeR ms (joinT xs).length (some r) := by unfold parseR; rw [hsc]; simp only [hp]
    rcases hd with ⟨j, rfl⟩ | ⟨ks', j, rfl, -, he⟩
    · exact .deep _ e1
    · refine .good ms ks' e1 he.symm ?_
      show ks'.flatMap declOf = _
      rw [showP_el he, hxs]; exact hxs2

end Go.Proofs.YtfbejfoalnhihaaGreatDoor

/-
  CONTRACT: alike, of two trees that are the same but for places, and of two zero ones. Blocks from the world's end on alone are new.
-/
namespace Go.Proofs.YtfbejfoalnhihaaGreatDoor
open Go.RowKit

theorem kid_fix {ok : Nat → Prop} {pl : Nat → Nat} {w : World} {b : Nat} {t : Tree} (h : NodeAt ok pl w b t) (k : Nat) (u : Tree) (hu : t.kids[k]? = some u) : ∃ nb, NodeAt ok pl w nb u ∧ ∀ w', Below w.heap.size w w' → Calls Tryz.prog 21 #[.agg #[.pointer (some ⟨b, 0, none⟩)], .int .i64 k] w' fun e w2 => e = .returned (.agg #[.pointer (some ⟨nb, 0, none⟩)]) ∧ Below w'.heap.size w' w2 := by
  obtain ⟨A, c, hr, h1, h2, h3⟩ := h.kid
  obtain ⟨g, x, rfl, hg, -, hc, hn⟩ := h3 k u hu
  exact ⟨x, hn, fun w' hb => kid_some w' _ _ _ _ _ _ g _ c k x (.inl ⟨b, rfl, hr.below hb⟩) (List.getElem?_eq_some_iff.1 hu).1 h1 h2 (Nat.lt_of_lt_of_le hg hb.size) ((hb.cell (p := ⟨g, k, none⟩) hg).trans hc)⟩

def AlRel (X Y : Option Addr) (m : Nat) (w : World) (i : Value) (wr : World) : Prop :=
  ∃ k : Nat, k ≤ m ∧ i = .int .i64 k ∧ Hid (Below w.heap.size w wr) ∧ Hid (PtrAt wr w.heap.size X) ∧ Hid (PtrAt wr (w.heap.size + 1) Y)
/-- What alike asks of two nodes. -/
structure AlIn (w : World) (X Y : Option Addr) (m : Nat) : Prop where
  rows : ∃ (OP : Int) (NAM TYP : ByteArray) (NN p1 p2 : Int) (A1 A2 : Option Addr) (c1 c2 : Nat), RowOf w X OP NAM TYP NN p1 A1 m c1 ∧ RowOf w Y OP NAM TYP NN p2 A2 m c2
  few : m ≤ 6000
  kids : ∀ k, k < m → ∃ X' Y' : Option Addr, (∀ w', Below w.heap.size w w' → Calls Tryz.prog 21 #[.agg #[.pointer X], .int .i64 k] w' fun e w2 => e = .returned (.agg #[.pointer X']) ∧ Below w'.heap.size w' w2) ∧ (∀ w', Below w.heap.size w w' → Calls Tryz.prog 21 #[.agg #[.pointer Y], .int .i64 k] w' fun e w2 => e = .returned (.agg #[.pointer Y']) ∧ Below w'.heap.size w' w2) ∧
    (∀ w', Below w.heap.size w w' → Calls Tryz.prog 18 #[.agg #[.pointer X'], .agg #[.pointer Y']] w' fun e w2 => e = .returned (.bool true) ∧ Below w'.heap.size w' w2)

set_option maxRecDepth 100000 in
set_option maxHeartbeats 2000000 in
theorem alike_in (w : World) (X Y : Option Addr) (m : Nat) (H : AlIn w X Y m) : Calls Tryz.prog 18 #[.agg #[.pointer X], .agg #[.pointer Y]] w fun e w' => e = .returned (.bool true) ∧ Below w.heap.size w w' := by
  obtain ⟨⟨OP, NAM, TYP, NN, p1, p2, A1, A2, c1, c2, R1, R2⟩, hm, HK⟩ := H
  have BA := Lib.hid (b2 w (.cells #[.pointer X] 25) (.cells #[.pointer Y] 25))
  have U := Lib.hid ((PtrAt.new w X).below (b1 _ (.cells #[.pointer Y] 25)))
  have V0 := PtrAt.new (w.alloc (.cells #[.pointer X] 25)) Y
  have V : Hid (PtrAt ((w.alloc (.cells #[.pointer X] 25)).alloc (.cells #[.pointer Y] 25)) (w.heap.size + 1) Y) := by
    have e : (w.alloc (.cells #[.pointer X] 25)).heap.size = w.heap.size + 1 := by simp
    rw [e] at V0; exact V0
  have HKK := Lib.hid HK
  have Q1 := Lib.hid (R1.below BA.out)
  have Q2 := Lib.hid (R2.below BA.out)
  have R1 := Lib.hid R1
  clear V0 R2 HK
  go_enter Tryz.func18, Tryz.ntmps18
  go_wp2_with fail
  generalize (w.alloc (.cells #[.pointer X] 25)).alloc (.cells #[.pointer Y] 25) = wb at *
  have u0 := U.out.c0
  have u1 := V.out.c0
  have l0 := U.out.lt
  have l1 := V.out.lt
  have D0 : Hid (Below wb.heap.size wb wb.drew) := (Below.refl _ _).drew
  have A11 : Hid (∀ w', Below wb.heap.size wb w' → Calls Tryz.prog 11 #[.agg #[.pointer (X)]] w' fun e w2 => e = .returned (.int .i64 OP) ∧ Below w'.heap.size w' w2) := fun w' hb => op_of _ _ _ _ _ _ _ _ _ _ (Q1.out.below hb)
  have A35 : Hid (∀ w', Below wb.heap.size wb w' → Calls Tryz.prog 35 #[.agg #[.pointer (X)]] w' fun e w2 => e = .returned (.string NAM) ∧ Below w'.heap.size w' w2) := fun w' hb => name_of _ _ _ _ _ _ _ _ _ _ (Q1.out.below hb)
  have A36 : Hid (∀ w', Below wb.heap.size wb w' → Calls Tryz.prog 36 #[.agg #[.pointer (X)]] w' fun e w2 => e = .returned (.string TYP) ∧ Below w'.heap.size w' w2) := fun w' hb => typ_of _ _ _ _ _ _ _ _ _ _ (Q1.out.below hb)
  have A23 : Hid (∀ w', Below wb.heap.size wb w' → Calls Tryz.prog 23 #[.agg #[.pointer (X)]] w' fun e w2 => e = .returned (.int .i64 NN) ∧ Below w'.heap.size w' w2) := fun w' hb => n_of _ _ _ _ _ _ _ _ _ _ (Q1.out.below hb)
  have A12 : Hid (∀ w', Below wb.heap.size wb w' → Calls Tryz.prog 12 #[.agg #[.pointer (X)]] w' fun e w2 => e = .returned (.int .i64 (m : Int)) ∧ Below w'.heap.size w' w2) := fun w' hb => kids_of _ _ _ _ _ _ _ _ _ _ (Q1.out.below hb)
  have B11 : Hid (∀ w', Below wb.heap.size wb w' → Calls Tryz.prog 11 #[.agg #[.pointer (Y)]] w' fun e w2 => e = .returned (.int .i64 OP) ∧ Below w'.heap.size w' w2) := fun w' hb => op_of _ _ _ _ _ _ _ _ _ _ (Q2.out.below hb)
  have B35 : Hid (∀ w', Below wb.heap.size wb w' → Calls Tryz.prog 35 #[.agg #[.pointer (Y)]] w' fun e w2 => e = .returned (.string NAM) ∧ Below w'.heap.size w' w2) := fun w' hb => name_of _ _ _ _ _ _ _ _ _ _ (Q2.out.below hb)
  have B36 : Hid (∀ w', Below wb.heap.size wb w' → Calls Tryz.prog 36 #[.agg #[.pointer (Y)]] w' fun e w2 => e = .returned (.string TYP) ∧ Below w'.heap.size w' w2) := fun w' hb => typ_of _ _ _ _ _ _ _ _ _ _ (Q2.out.below hb)
  have B23 : Hid (∀ w', Below wb.heap.size wb w' → Calls Tryz.prog 23 #[.agg #[.pointer (Y)]] w' fun e w2 => e = .returned (.int .i64 NN) ∧ Below w'.heap.size w' w2) := fun w' hb => n_of _ _ _ _ _ _ _ _ _ _ (Q2.out.below hb)
  have B12 : Hid (∀ w', Below wb.heap.size wb w' → Calls Tryz.prog 12 #[.agg #[.pointer (Y)]] w' fun e w2 => e = .returned (.int .i64 (m : Int)) ∧ Below w'.heap.size w' w2) := fun w' hb => kids_of _ _ _ _ _ _ _ _ _ _ (Q2.out.below hb)
  go_region_held3 (fun w' => Below wb.heap.size wb w' ∧ w'.cell? ⟨w.heap.size, 0, none⟩ = some (.pointer X) ∧ w'.cell? ⟨w.heap.size + 1, 0, none⟩ = some (.pointer Y)) (first | exact ⟨D0.out, u0, u1⟩ | exact HK11.out | exact HK35.out | exact HK36.out | exact HK23.out | exact HK12.out) (first | (go_at_call 11; have h0 := ‹Below wb.heap.size wb _ ∧ _›; first | (have c0 := A11.out _ h0.1; (with_reducible refine c0.mono ?_); clear c0; rintro e w11 ⟨rfl, hb⟩; have HK11 : Hid (Below wb.heap.size wb w11 ∧ w11.cell? ⟨w.heap.size, 0, none⟩ = some (.pointer X) ∧ w11.cell? ⟨w.heap.size + 1, 0, none⟩ = some (.pointer Y)) := ⟨h0.1.trans (hb.mono h0.1.size), (hb.cell (p := ⟨w.heap.size, 0, none⟩) (Nat.lt_of_lt_of_le l0 h0.1.size)).trans h0.2.1, (hb.cell (p := ⟨w.heap.size + 1, 0, none⟩) (Nat.lt_of_lt_of_le l1 h0.1.size)).trans h0.2.2⟩; clear h0 hb) | (have c0 := B11.out _ h0.1; (with_reducible refine c0.mono ?_); clear c0; rintro e w11 ⟨rfl, hb⟩; have HK11 : Hid (Below wb.heap.size wb w11 ∧ w11.cell? ⟨w.heap.size, 0, none⟩ = some (.pointer X) ∧ w11.cell? ⟨w.heap.size + 1, 0, none⟩ = some (.pointer Y)) := ⟨h0.1.trans (hb.mono h0.1.size), (hb.cell (p := ⟨w.heap.size, 0, none⟩) (Nat.lt_of_lt_of_le l0 h0.1.size)).trans h0.2.1, (hb.cell (p := ⟨w.heap.size + 1, 0, none⟩) (Nat.lt_of_lt_of_le l1 h0.1.size)).trans h0.2.2⟩; clear h0 hb)) | (go_at_call 35; have h0 := ‹Below wb.heap.size wb _ ∧ _›; first | (have c0 := A35.out _ h0.1; (with_reducible refine c0.mono ?_); clear c0; rintro e w35 ⟨rfl, hb⟩; have HK35 : Hid (Below wb.heap.size wb w35 ∧ w35.cell? ⟨w.heap.size, 0, none⟩ = some (.pointer X) ∧ w35.cell? ⟨w.heap.size + 1, 0, none⟩ = some (.pointer Y)) := ⟨h0.1.trans (hb.mono h0.1.size), (hb.cell (p := ⟨w.heap.size, 0, none⟩) (Nat.lt_of_lt_of_le l0 h0.1.size)).trans h0.2.1, (hb.cell (p := ⟨w.heap.size + 1, 0, none⟩) (Nat.lt_of_lt_of_le l1 h0.1.size)).trans h0.2.2⟩; clear h0 hb) | (have c0 := B35.out _ h0.1; (with_reducible refine c0.mono ?_); clear c0; rintro e w35 ⟨rfl, hb⟩; have HK35 : Hid (Below wb.heap.size wb w35 ∧ w35.cell? ⟨w.heap.size, 0, none⟩ = some (.pointer X) ∧ w35.cell? ⟨w.heap.size + 1, 0, none⟩ = some (.pointer Y)) := ⟨h0.1.trans (hb.mono h0.1.size), (hb.cell (p := ⟨w.heap.size, 0, none⟩) (Nat.lt_of_lt_of_le l0 h0.1.size)).trans h0.2.1, (hb.cell (p := ⟨w.heap.size + 1, 0, none⟩) (Nat.lt_of_lt_of_le l1 h0.1.size)).trans h0.2.2⟩; clear h0 hb)) | (go_at_call 36; have h0 := ‹Below wb.heap.size wb _ ∧ _›; first | (have c0 := A36.out _ h0.1; (with_reducible refine c0.mono ?_); clear c0; rintro e w36 ⟨rfl, hb⟩; have HK36 : Hid (Below wb.heap.size wb w36 ∧ w36.cell? ⟨w.heap.size, 0, none⟩ = some (.pointer X) ∧ w36.cell? ⟨w.heap.size + 1, 0, none⟩ = some (.pointer Y)) := ⟨h0.1.trans (hb.mono h0.1.size), (hb.cell (p := ⟨w.heap.size, 0, none⟩) (Nat.lt_of_lt_of_le l0 h0.1.size)).trans h0.2.1, (hb.cell (p := ⟨w.heap.size + 1, 0, none⟩) (Nat.lt_of_lt_of_le l1 h0.1.size)).trans h0.2.2⟩; clear h0 hb) | (have c0 := B36.out _ h0.1; (with_reducible refine c0.mono ?_); clear c0; rintro e w36 ⟨rfl, hb⟩; have HK36 : Hid (Below wb.heap.size wb w36 ∧ w36.cell? ⟨w.heap.size, 0, none⟩ = some (.pointer X) ∧ w36.cell? ⟨w.heap.size + 1, 0, none⟩ = some (.pointer Y)) := ⟨h0.1.trans (hb.mono h0.1.size), (hb.cell (p := ⟨w.heap.size, 0, none⟩) (Nat.lt_of_lt_of_le l0 h0.1.size)).trans h0.2.1, (hb.cell (p := ⟨w.heap.size + 1, 0, none⟩) (Nat.lt_of_lt_of_le l1 h0.1.size)).trans h0.2.2⟩; clear h0 hb)) | (go_at_call 23; have h0 := ‹Below wb.heap.size wb _ ∧ _›; first | (have c0 := A23.out _ h0.1; (with_reducible refine c0.mono ?_); clear c0; rintro e w23 ⟨rfl, hb⟩; have HK23 : Hid (Below wb.heap.size wb w23 ∧ w23.cell? ⟨w.heap.size, 0, none⟩ = some (.pointer X) ∧ w23.cell? ⟨w.heap.size + 1, 0, none⟩ = some (.pointer Y)) := ⟨h0.1.trans (hb.mono h0.1.size), (hb.cell (p := ⟨w.heap.size, 0, none⟩) (Nat.lt_of_lt_of_le l0 h0.1.size)).trans h0.2.1, (hb.cell (p := ⟨w.heap.size + 1, 0, none⟩) (Nat.lt_of_lt_of_le l1 h0.1.size)).trans h0.2.2⟩; clear h0 hb) | (have c0 := B23.out _ h0.1; (with_reducible refine c0.mono ?_); clear c0; rintro e w23 ⟨rfl, hb⟩; have HK23 : Hid (Below wb.heap.size wb w23 ∧ w23.cell? ⟨w.heap.size, 0, none⟩ = some (.pointer X) ∧ w23.cell? ⟨w.heap.size + 1, 0, none⟩ = some (.pointer Y)) := ⟨h0.1.trans (hb.mono h0.1.size), (hb.cell (p := ⟨w.heap.size, 0, none⟩) (Nat.lt_of_lt_of_le l0 h0.1.size)).trans h0.2.1, (hb.cell (p := ⟨w.heap.size + 1, 0, none⟩) (Nat.lt_of_lt_of_le l1 h0.1.size)).trans h0.2.2⟩; clear h0 hb)) | (go_at_call 12; have h0 := ‹Below wb.heap.size wb _ ∧ _›; first | (have c0 := A12.out _ h0.1; (with_reducible refine c0.mono ?_); clear c0; rintro e w12 ⟨rfl, hb⟩; have HK12 : Hid (Below wb.heap.size wb w12 ∧ w12.cell? ⟨w.heap.size, 0, none⟩ = some (.pointer X) ∧ w12.cell? ⟨w.heap.size + 1, 0, none⟩ = some (.pointer Y)) := ⟨h0.1.trans (hb.mono h0.1.size), (hb.cell (p := ⟨w.heap.size, 0, none⟩) (Nat.lt_of_lt_of_le l0 h0.1.size)).trans h0.2.1, (hb.cell (p := ⟨w.heap.size + 1, 0, none⟩) (Nat.lt_of_lt_of_le l1 h0.1.size)).trans h0.2.2⟩; clear h0 hb) | (have c0 := B12.out _ h0.1; (with_reducible refine c0.mono ?_); clear c0; rintro e w12 ⟨rfl, hb⟩; have HK12 : Hid (Below wb.heap.size wb w12 ∧ w12.cell? ⟨w.heap.size, 0, none⟩ = some (.pointer X) ∧ w12.cell? ⟨w.heap.size + 1, 0, none⟩ = some (.pointer Y)) := ⟨h0.1.trans (hb.mono h0.1.size), (hb.cell (p := ⟨w.heap.size, 0, none⟩) (Nat.lt_of_lt_of_le l0 h0.1.size)).trans h0.2.1, (hb.cell (p := ⟨w.heap.size + 1, 0, none⟩) (Nat.lt_of_lt_of_le l1 h0.1.size)).trans h0.2.2⟩; clear h0 hb)))
  all_goals
    have B1 := Lib.hid (BA.out.trans ((HK12.out.1).mono BA.out.size))
    have U1 := Lib.hid (U.out.below HK12.out.1)
    have V1 := Lib.hid (V.out.below HK12.out.1)
    clear Q1 u0 u1 l0 l1 D0 U V A11 A35 A36 A23 A12 B11 B35 B36 B23 B12 Q2
    clear HK11 HK35 HK36 HK23 HK12
    go_wp2_with fail
    go_loopw [5] (fun i wr => AlRel X Y m w i wr) (fun i _ => m - (intOf i).toNat)
    case atStart => exact ⟨0, Nat.zero_le _, rfl, B1, U1, V1⟩
    case round =>
      clear B1 U1 V1
      obtain ⟨k, hk, rfl, B, U, V⟩ := hrel
      have U0 := U.out.c0
      go_wp2_with fail
      clear U0
      refine (kids_of _ _ _ _ _ _ _ _ _ _ (R1.out.below B.out)).mono ?_
      rintro e w1 ⟨rfl, hb⟩
      have B1 := Lib.hid (B.out.trans (hb.mono B.out.size))
      have U1 := Lib.hid (U.out.below hb)
      have V1 := Lib.hid (V.out.below hb)
      clear hb U V B
      by_cases hlt : k < m
      · have hki : (k : Int) < (m : Int) := by omega
        obtain ⟨X', Y', ka, kb, ki⟩ := HKK.out k hlt
        have KA : Hid (∀ w', Below w1.heap.size w1 w' → Calls Tryz.prog 21 #[.agg #[.pointer X], .int .i64 k] w' fun e w2 => e = .returned (.agg #[.pointer X']) ∧ Below w'.heap.size w' w2) := fun w' hb => ka w' (B1.out.trans (hb.mono B1.out.size))
        have KB : Hid (∀ w', Below w1.heap.size w1 w' → Calls Tryz.prog 21 #[.agg #[.pointer Y], .int .i64 k] w' fun e w2 => e = .returned (.agg #[.pointer Y']) ∧ Below w'.heap.size w' w2) := fun w' hb => kb w' (B1.out.trans (hb.mono B1.out.size))
        have KI : Hid (∀ w', Below w1.heap.size w1 w' → Calls Tryz.prog 18 #[.agg #[.pointer X'], .agg #[.pointer Y']] w' fun e w2 => e = .returned (.bool true) ∧ Below w'.heap.size w' w2) := fun w' hb => ki w' (B1.out.trans (hb.mono B1.out.size))
        clear ka kb ki
        have u0 := U1.out.c0
        have u1 := V1.out.c0
        have l0 := U1.out.lt
        have l1 := V1.out.lt
        have D0 : Hid (Below w1.heap.size w1 w1.drew) := (Below.refl _ _).drew
        go_wp2_with fail
        go_region_held3 (fun w' => Below w1.heap.size w1 w' ∧ w'.cell? ⟨w.heap.size, 0, none⟩ = some (.pointer X) ∧ w'.cell? ⟨w.heap.size + 1, 0, none⟩ = some (.pointer Y)) (first | exact ⟨D0.out, u0, u1⟩ | exact HK18.out | exact HK21.out) (first | (go_at_call 21; have h0 := ‹Below w1.heap.size w1 _ ∧ _›; first | (have c0 := KA.out _ h0.1; (with_reducible refine c0.mono ?_); clear c0; rintro e w21 ⟨rfl, hb⟩; have HK21 : Hid (Below w1.heap.size w1 w21 ∧ w21.cell? ⟨w.heap.size, 0, none⟩ = some (.pointer X) ∧ w21.cell? ⟨w.heap.size + 1, 0, none⟩ = some (.pointer Y)) := ⟨h0.1.trans (hb.mono h0.1.size), (hb.cell (p := ⟨w.heap.size, 0, none⟩) (Nat.lt_of_lt_of_le l0 h0.1.size)).trans h0.2.1, (hb.cell (p := ⟨w.heap.size + 1, 0, none⟩) (Nat.lt_of_lt_of_le l1 h0.1.size)).trans h0.2.2⟩; clear h0 hb) | (have c0 := KB.out _ h0.1; (with_reducible refine c0.mono ?_); clear c0; rintro e w21 ⟨rfl, hb⟩; have HK21 : Hid (Below w1.heap.size w1 w21 ∧ w21.cell? ⟨w.heap.size, 0, none⟩ = some (.pointer X) ∧ w21.cell? ⟨w.heap.size + 1, 0, none⟩ = some (.pointer Y)) := ⟨h0.1.trans (hb.mono h0.1.size), (hb.cell (p := ⟨w.heap.size, 0, none⟩) (Nat.lt_of_lt_of_le l0 h0.1.size)).trans h0.2.1, (hb.cell (p := ⟨w.heap.size + 1, 0, none⟩) (Nat.lt_of_lt_of_le l1 h0.1.size)).trans h0.2.2⟩; clear h0 hb)) | (go_at_call 18; have h0 := ‹Below w1.heap.size w1 _ ∧ _›; have c0 := KI.out _ h0.1; (with_reducible refine c0.mono ?_); clear c0; rintro e w18 ⟨rfl, hb⟩; have HK18 : Hid (Below w1.heap.size w1 w18 ∧ w18.cell? ⟨w.heap.size, 0, none⟩ = some (.pointer X) ∧ w18.cell? ⟨w.heap.size + 1, 0, none⟩ = some (.pointer Y)) := ⟨h0.1.trans (hb.mono h0.1.size), (hb.cell (p := ⟨w.heap.size, 0, none⟩) (Nat.lt_of_lt_of_le l0 h0.1.size)).trans h0.2.1, (hb.cell (p := ⟨w.heap.size + 1, 0, none⟩) (Nat.lt_of_lt_of_le l1 h0.1.size)).trans h0.2.2⟩; clear h0 hb))
        all_goals
          have B2 := Lib.hid (B1.out.trans ((HK18.out.1).mono B1.out.size))
          have U2 := Lib.hid (U1.out.below HK18.out.1)
          have V2 := Lib.hid (V1.out.below HK18.out.1)
          clear u0 u1 l0 l1 D0 U1 V1 B1 KA KB KI HK18 HK21
          go_wp2_with fail
          go_roundw
          case rel => exact ⟨k + 1, by omega, by go_num, B2, U2, V2⟩
          case measure => simp [intOf]; omega
      · have hki : ¬ (k : Int) < (m : Int) := by omega
        go_wp2_with fail
        go_ret
        exact ⟨rfl, B1.out⟩

/-- Two nodes that are the same but for places are alike. -/
theorem alike_any (N : Nat) : ∀ (t u : Tree), sizeT t ≤ N → EE t u → ∀ (w : World) (b b' : Nat) (ok ok' : Nat → Prop) (pl pl' : Nat → Nat), NodeAt ok pl w b t → NodeAt ok' pl' w b' u →
    Calls Tryz.prog 18 #[.agg #[.pointer (some ⟨b, 0, none⟩)], .agg #[.pointer (some ⟨b', 0, none⟩)]] w fun e w' => e = .returned (.bool true) ∧ Below w.heap.size w w' := by
  induction N with
  | zero => intro t u h; have := sizeT_pos t; omega
  | succ N ih =>
    intro t u hN he w b b' ok ok' pl pl' h h'
    obtain ⟨e1, e2, e3, e4, e5⟩ := er_parts he
    have hm : t.kids.length ≤ 6000 := by
      obtain ⟨A, c, hr, h1, h2, h3⟩ := h.kid
      exact h2
    have hl : u.kids.length = t.kids.length := by have := congrArg List.length e5; simpa using this.symm
    refine alike_in w _ _ t.kids.length ⟨?_, hm, fun k hk => ?_⟩
    · obtain ⟨A1, c1, r1⟩ := h.rowOf
      obtain ⟨A2, c2, r2⟩ := h'.rowOf
      rw [← e1, ← e2, ← e3, ← e4, hl] at r2
      exact ⟨_, _, _, _, _, _, A1, A2, c1, c2, r1, r2⟩
    · obtain ⟨x, hx⟩ := kid_is (t := t) hk
      obtain ⟨y, hy, hxy⟩ := er_kid e5 hx
      obtain ⟨nb, hn, hc⟩ := kid_fix h k x hx
      obtain ⟨nb', hn', hc'⟩ := kid_fix h' k y hy
      exact ⟨_, _, hc, hc', fun w' hb => ih x y (by have := size_kid hx; omega) hxy w' nb nb' ok ok' pl pl' (hn.bl hb) (hn'.bl hb)⟩
/-- The zero ones are. -/
theorem alike_zero (w : World) : Calls Tryz.prog 18 #[.agg #[.pointer none], .agg #[.pointer none]] w fun e w' => e = .returned (.bool true) ∧ Below w.heap.size w w' :=
  alike_in w none none 0 ⟨⟨0, ⟨#[]⟩, ⟨#[]⟩, 0, 0, 0, none, none, 0, 0, .inr ⟨rfl, rfl, rfl, rfl, rfl, rfl, rfl, rfl, rfl⟩, .inr ⟨rfl, rfl, rfl, rfl, rfl, rfl, rfl, rfl, rfl⟩⟩, Nat.zero_le _, fun k hk => by omega⟩

end Go.Proofs.YtfbejfoalnhihaaGreatDoor

/-
  ParseBack: THE LAW's CONTRACT: it answers true for every text, in a world in which the listed variables lie as the program's text lays them. Blocks from the world's end on alone are new.
-/
namespace Go.Proofs.YtfbejfoalnhihaaGreatDoor
open Go.RowKit

theorem bad_le {l : List UInt8} {p e : Nat} (h : parseR l = .bad p e) (hl : l.length ≤ 4096) : p ≤ l.length := by
  unfold parseR at h
  cases hs : scanR l with
  | bad q e' =>
    rw [hs] at h
    injection h with h1 h2
    subst h1
    unfold scanR at hs
    rw [if_neg (by omega)] at hs
    exact Nat.le_of_lt (sc_bad_lt _ _ _ _ _ (Nat.le_refl _) hs).1
  | ok ts =>
    rw [hs] at h
    have hT := toks_of hs
    cases hp : P (Tf ts) (fuelT ts) .decls 0 0 with
    | none => simp only [hp, treeR] at h; injection h with h1 h2; omega
    | some r =>
      simp only [hp, treeR] at h
      cases r with
      | ok ks j => cases h
      | bad j e' => injection h with h1 h2; rw [← h1]; exact hT.ple j
theorem PowIn.below {w w' : World} (h : PowIn w) (g : Good w) (hb : Below w.heap.size w w') : PowIn w' := pow_below h (hb.mono g.size)

set_option maxRecDepth 100000 in
set_option maxHeartbeats 1000000 in
theorem back_bad (s : ByteArray) (p er : Nat) (w : World) (g : Good w) (pw : PowIn w) (hs : s.size ≤ 4096) (h : Hid (parseR s.data.toList = .bad p er)) : Calls Tryz.prog 4 #[.string s] w fun e w' => e = .returned (.bool true) ∧ Below w.heap.size w w' := by
  have AW := Lib.hid (awake_true w g pw)
  have G := Lib.hid g
  clear g pw
  have hne : ¬ er = 0 := parse_err h.out
  have hne2 : ((er : Int) != 0) = true := by simp; omega
  have hp : (p : Int) ≤ (s.size : Int) := by have := bad_le h.out (by rw [len_size]; exact hs); rw [len_size] at this; omega
  have hp0 : (0 : Int) ≤ (p : Int) := by omega
  clear hne
  go_enter Tryz.func4, Tryz.ntmps4
  go_wp2_with fail
  refine AW.out.mono ?_
  rintro e w1 ⟨rfl, hb⟩
  have B1 := Lib.hid hb
  have G1 := Lib.hid (G.out.below hb)
  clear hb AW G
  have hli : ¬ (4096 : Int) < (s.size : Int) := by omega
  go_wp2_with fail
  refine Calls.mono (R := ParseQ s.data.toList (.bad p er) _) (parse_full s _ _ G1.out (by omega) h) ?_
  rintro e w2 ⟨hb, rfl⟩
  have B2 := Lib.hid (B1.out.trans ((hb.trans ((b1 w2 (.cells #[.pointer none] 25)).mono hb.size)).mono B1.out.size))
  clear hb
  go_wp2_with fail
  go_ret
  exact ⟨rfl, B2.out⟩

set_option maxRecDepth 100000 in
set_option maxHeartbeats 1000000 in
theorem back_long (s : ByteArray) (w : World) (g : Good w) (pw : PowIn w) (hs : 4096 < s.size) : Calls Tryz.prog 4 #[.string s] w fun e w' => e = .returned (.bool true) ∧ Below w.heap.size w w' := by
  have AW := Lib.hid (awake_true w g pw)
  clear g pw
  go_enter Tryz.func4, Tryz.ntmps4
  go_wp2_with fail
  refine AW.out.mono ?_
  rintro e w1 ⟨rfl, hb⟩
  have B1 := Lib.hid hb
  clear hb AW
  have hli : (4096 : Int) < (s.size : Int) := by omega
  go_wp2_with fail
  go_ret
  exact ⟨rfl, B1.out⟩

set_option maxRecDepth 100000 in
set_option maxHeartbeats 1000000 in
theorem back_stop (s t : ByteArray) (ts : List Tok) (ks : List Tree) (p er : Nat) (w : World) (g : Good w) (pw : PowIn w) (hs : s.size ≤ 4096) (h : Hid (parseR s.data.toList = .ok ts ks)) (ht : Hid (t = ⟨(joinT (showP (root ts ks))).toArray⟩)) (her : er = 3 ∨ er = 4) (h2 : Hid (parseR t.data.toList = .bad p er)) : Calls Tryz.prog 4 #[.string s] w fun e w' => e = .returned (.bool true) ∧ Below w.heap.size w w' := by
  have AW := Lib.hid (awake_true w g pw)
  have G := Lib.hid g
  have PW := Lib.hid pw
  obtain ⟨hok, -, hl1, hl2⟩ := shown h.out
  have HSH : Hid (∀ (ok : Nat → Prop) (w : World) (pl : Nat → Nat) (b : Nat), NodeAt ok pl w b (root ts ks) → Good w → PowIn w → Calls Tryz.prog 17 #[.agg #[.pointer (some ⟨b, 0, none⟩)]] w fun e w' => e = .returned (.string t) ∧ Below w.heap.size w w') := fun ok w pl b hn g p => by
    rw [ht.out]; exact show_any ok w pl b _ hn hok g p (by omega) (by omega)
  have HTS : Hid (t.size ≤ 281474976710656) := by
    have : t.size = (joinT (showP (root ts ks))).length := by rw [ht.out]; rfl
    show t.size ≤ _; omega
  clear g pw hok hl1 hl2
  go_enter Tryz.func4, Tryz.ntmps4
  go_wp2_with fail
  refine AW.out.mono ?_
  rintro e w1 ⟨rfl, hb⟩
  have B1 := Lib.hid hb
  have G1 := Lib.hid (G.out.below hb)
  have P1 := Lib.hid (PW.out.below G.out hb)
  clear hb AW G PW
  have hli : ¬ (4096 : Int) < (s.size : Int) := by omega
  go_wp2_with fail
  refine Calls.mono (R := ParseQ s.data.toList (.ok ts ks) _) (parse_full s _ _ G1.out (by omega) h) ?_
  rintro e w2 ⟨hb, ba, rfl, hn⟩
  have BX := Lib.hid (b1 w2 (.cells #[.pointer (some ⟨ba, 0, none⟩)] 25))
  have B2 := Lib.hid (B1.out.trans ((hb.trans (BX.out.mono hb.size)).mono B1.out.size))
  have G2 := Lib.hid ((G1.out.below hb).below BX.out)
  have P2 := Lib.hid ((P1.out.below G1.out hb).below (G1.out.below hb) BX.out)
  have N2 := Lib.hid (hn.bl BX.out)
  have u0 := (PtrAt.new w2 (some ⟨ba, 0, none⟩)).c0
  clear hb G1 B1 P1 hn BX
  unfold nodeV
  go_wp2_with fail
  refine (HSH.out _ _ _ _ N2.out G2.out P2.out).mono ?_
  rintro e w3 ⟨rfl, hb⟩
  have B3 := Lib.hid (B2.out.trans (hb.mono B2.out.size))
  have G3 := Lib.hid (G2.out.below hb)
  clear hb u0 B2 G2 P2 N2
  go_wp2_with fail
  refine Calls.mono (R := ParseQ t.data.toList (.bad p er) _) (parse_full t _ _ G3.out HTS.out h2) ?_
  rintro e w4 ⟨hb, rfl⟩
  have B4 := Lib.hid (B3.out.trans ((hb.trans ((b1 w4 (.cells #[.pointer none] 25)).mono hb.size)).mono B3.out.size))
  clear hb B3 G3
  rcases her with rfl | rfl
  · go_wp2_with fail
    go_ret
    exact ⟨rfl, B4.out⟩
  · go_wp2_with fail
    go_ret
    exact ⟨rfl, B4.out⟩

set_option maxRecDepth 100000 in
set_option maxHeartbeats 1000000 in
theorem back_good (s t : ByteArray) (ts ms : List Tok) (ks ks' : List Tree) (w : World) (g : Good w) (pw : PowIn w) (hs : s.size ≤ 4096) (h : Hid (parseR s.data.toList = .ok ts ks)) (ht : Hid (t = ⟨(joinT (showP (root ts ks))).toArray⟩)) (h2 : Hid (parseR t.data.toList = .ok ms ks')) (he : Hid (EL ks ks')) (hsp : Hid (showP (root ms ks') = showP (root ts ks))) : Calls Tryz.prog 4 #[.string s] w fun e w' => e = .returned (.bool true) ∧ Below w.heap.size w w' := by
  have AW := Lib.hid (awake_true w g pw)
  have G := Lib.hid g
  have PW := Lib.hid pw
  obtain ⟨hok, -, hl1, hl2⟩ := shown h.out
  obtain ⟨hok2, -, hl3, hl4⟩ := shown h2.out
  have HSH : Hid (∀ (ok : Nat → Prop) (w : World) (pl : Nat → Nat) (b : Nat), NodeAt ok pl w b (root ts ks) → Good w → PowIn w → Calls Tryz.prog 17 #[.agg #[.pointer (some ⟨b, 0, none⟩)]] w fun e w' => e = .returned (.string t) ∧ Below w.heap.size w w') := fun ok w pl b hn g p => by
    rw [ht.out]; exact show_any ok w pl b _ hn hok g p (by omega) (by omega)
  have HSH2 : Hid (∀ (ok : Nat → Prop) (w : World) (pl : Nat → Nat) (b : Nat), NodeAt ok pl w b (root ms ks') → Good w → PowIn w → Calls Tryz.prog 17 #[.agg #[.pointer (some ⟨b, 0, none⟩)]] w fun e w' => e = .returned (.string t) ∧ Below w.heap.size w w') := fun ok w pl b hn g p => by
    rw [ht.out, ← hsp.out]; exact show_any ok w pl b _ hn hok2 g p (by omega) (by omega)
  have HTS : Hid (t.size ≤ 281474976710656) := by
    have : t.size = (joinT (showP (root ts ks))).length := by rw [ht.out]; rfl
    show t.size ≤ _; omega
  have HEE : Hid (EE (root ts ks) (root ms ks')) := ee_mk he.out
  clear g pw hok hl1 hl2 hok2 hl3 hl4
  go_enter Tryz.func4, Tryz.ntmps4
  go_wp2_with fail
  refine AW.out.mono ?_
  rintro e w1 ⟨rfl, hb⟩
  have B1 := Lib.hid hb
  have G1 := Lib.hid (G.out.below hb)
  have P1 := Lib.hid (PW.out.below G.out hb)
  clear hb AW G PW
  have hli : ¬ (4096 : Int) < (s.size : Int) := by omega
  go_wp2_with fail
  refine Calls.mono (R := ParseQ s.data.toList (.ok ts ks) _) (parse_full s _ _ G1.out (by omega) h) ?_
  rintro e w2 ⟨hb, ba, rfl, hn⟩
  have BX := Lib.hid (b1 w2 (.cells #[.pointer (some ⟨ba, 0, none⟩)] 25))
  have B2 := Lib.hid (B1.out.trans ((hb.trans (BX.out.mono hb.size)).mono B1.out.size))
  have G2 := Lib.hid ((G1.out.below hb).below BX.out)
  have P2 := Lib.hid ((P1.out.below G1.out hb).below (G1.out.below hb) BX.out)
  have N2 := Lib.hid (hn.bl BX.out)
  have U2 := Lib.hid (PtrAt.new w2 (some ⟨ba, 0, none⟩))
  have u0 := U2.out.c0
  clear hb G1 B1 P1 hn BX
  unfold nodeV
  go_wp2_with fail
  refine (HSH.out _ _ _ _ N2.out G2.out P2.out).mono ?_
  rintro e w3 ⟨rfl, hb⟩
  have B3 := Lib.hid (B2.out.trans (hb.mono B2.out.size))
  have G3 := Lib.hid (G2.out.below hb)
  have P3 := Lib.hid (P2.out.below G2.out hb)
  have N3 := Lib.hid (N2.out.bl hb)
  have U3 := Lib.hid (U2.out.below hb)
  clear hb u0 B2 G2 P2 N2 U2
  go_wp2_with fail
  refine Calls.mono (R := ParseQ t.data.toList (.ok ms ks') _) (parse_full t _ _ G3.out HTS.out h2) ?_
  rintro e w4 ⟨hb, bb, rfl, hn⟩
  have BX := Lib.hid (b1 w4 (.cells #[.pointer (some ⟨bb, 0, none⟩)] 25))
  have B4 := Lib.hid (B3.out.trans ((hb.trans (BX.out.mono hb.size)).mono B3.out.size))
  have G4 := Lib.hid ((G3.out.below hb).below BX.out)
  have P4 := Lib.hid ((P3.out.below G3.out hb).below (G3.out.below hb) BX.out)
  have N4 := Lib.hid ((N3.out.bl hb).bl BX.out)
  have M4 := Lib.hid (hn.bl BX.out)
  have u0 := ((U3.out.below hb).below BX.out).c0
  have V4 := Lib.hid (PtrAt.new w4 (some ⟨bb, 0, none⟩))
  have u1 := V4.out.c0
  clear hb G3 B3 P3 hn BX U3 N3
  unfold nodeV
  go_wp2_with fail
  generalize w4.alloc (.cells #[.pointer (some ⟨bb, 0, none⟩)] 25) = w5 at *
  refine (alike_any _ _ _ (Nat.le_refl _) HEE.out _ _ _ _ _ _ _ N4.out M4.out).mono ?_
  rintro e w6 ⟨rfl, hb⟩
  have B6 := Lib.hid (B4.out.trans (hb.mono B4.out.size))
  have G6 := Lib.hid (G4.out.below hb)
  have P6 := Lib.hid (P4.out.below G4.out hb)
  have M6 := Lib.hid (M4.out.bl hb)
  have u1 := (V4.out.below hb).c0
  clear hb u0 B4 G4 P4 N4 M4 V4
  go_wp2_with fail
  refine (HSH2.out _ _ _ _ M6.out G6.out P6.out).mono ?_
  rintro e w7 ⟨rfl, hb⟩
  have B7 := Lib.hid (B6.out.trans (hb.mono B6.out.size))
  clear hb u1 B6 G6 P6 M6
  go_wp2_with fail
  go_ret
  exact ⟨rfl, B7.out⟩

theorem back_true (s : ByteArray) (w : World) (g : Good w) (pw : PowIn w) : Calls Tryz.prog 4 #[.string s] w fun e w' => e = .returned (.bool true) ∧ Below w.heap.size w w' := by
  by_cases hl : 4096 < s.size
  · exact back_long s w g pw hl
  · obtain ⟨r, hr⟩ : ∃ r, parseR s.data.toList = r := ⟨_, rfl⟩
    cases r with
    | bad p er => exact back_bad s p er w g pw (by omega) (Lib.hid hr)
    | ok ts ks =>
      obtain ⟨t, ht⟩ : ∃ t : ByteArray, t = ⟨(joinT (showP (root ts ks))).toArray⟩ := ⟨_, rfl⟩
      have htl : t.data.toList = joinT (showP (root ts ks)) := by rw [ht]
      have hb := back hr
      rw [← htl] at hb
      cases hb with
      | full p h2 => exact back_stop s t ts ks p 4 w g pw (by omega) (Lib.hid hr) (Lib.hid ht) (.inr rfl) (Lib.hid h2)
      | deep p h2 => exact back_stop s t ts ks p 3 w g pw (by omega) (Lib.hid hr) (Lib.hid ht) (.inl rfl) (Lib.hid h2)
      | good ms ks' h2 he hs => exact back_good s t ts ms ks ks' w g pw (by omega) (Lib.hid hr) (Lib.hid ht) (Lib.hid h2) (Lib.hid he) (Lib.hid hs)

end Go.Proofs.YtfbejfoalnhihaaGreatDoor

/-
  PROVED: ParseBack answers true at every text, and the text reads as it did: what is shown is parsed as the same tree, but for places, unless it is too long, or too deep; shown again it is the same text. Conditions: the card's own (the listed variables hold what the program's text lays).
-/
namespace Go.Proofs.YtfbejfoalnhihaaGreatDoor
open Go.ChangeShapes Go.WideShapes Go.ChangeAt Go.RowKit
open Go.ChangeMaps (open_string shut_string)
namespace ParseBack

set_option maxRecDepth 100000 in
/-- WHAT THE WALK GIVES, FOR EVERY ARGUMENT AND EVERY WORLD THAT HOLDS THE LISTED VARIABLES: the same for both forms. -/
theorem contract (H : Type) (enc : TypeId × Value → H) (W : World) (base : Nat) (args : Array Value) (ds gs : List (DataW H)) (before : List MemPlace)
    (hval : ∀ (j : Nat) t v, Tryz.f4.params[j]? = some t → args[j]? = some v → Value.okWide Tryz.prog W .any base t v)
    (hW : DataW.Whole enc Tryz.prog Tryz.f4.params.toList Rows.parseBackSpec.vars false W args.toList ds gs before)
    (hsz0 : (DataW.weightsEach Tryz.prog (Tryz.f4.params.toList ++ (OpenSpec.ofChange Rows.parseBackSpec).bare.plain.varTypes Tryz.prog) (ds ++ gs)).all (· ≤ reachBytes) = true)
    (hL : laidMetH Tryz.prog Rows.parseBackRow.laid W) :
    Calls Tryz.prog 4 args W fun e W' => ∃ v, e = .returned v ∧ Rows.parseBackSpec.post enc Tryz.prog Tryz.f4 false true false false W args v W' := by
  have hW' := hW
  obtain ⟨p, q, hA0, hV, rfl, hfz, hnd⟩ := hW
  have hA : DataW.TrodAll enc Tryz.prog W 0 (fun _ => true) true Tryz.f4.params.toList args.toList ds p := hA0
  have hsz : (DataW.weightsEach Tryz.prog (Tryz.f4.params.toList ++ Rows.parseBackSpec.plain.varTypes Tryz.prog) (ds ++ gs)).all (· ≤ reachBytes) = true := hsz0
  clear hsz0
  rw [Tryz.params4] at hA hval hsz
  obtain ⟨v0, vs0, d0, ds0, p0, q0, hargs, rfl, rfl, h0, r0⟩ := trodAll_cons hA
  obtain ⟨rfl, rfl, rfl⟩ := trodAll_nil r0
  obtain rfl : args = #[v0] := by cases args; simp_all
  obtain ⟨rfl, rfl⟩ := trodVars_none hV
  obtain ⟨x0, rfl, rfl, rfl, hs0⟩ := open_string Tryz.underlying9 (hval 0 9 v0 rfl rfl) h0
  have l0 : x0.size ≤ 281474976710656 := by
    have k1 := sized_string hsz (j := 0) (t := 9) rfl rfl
    have k2 := reachBytes_lt
    have e1 : x0.size = x0.data.size := rfl
    have e2 : x0.data.toList.length = x0.data.size := Array.length_toList
    have e3 : (2 : Nat) ^ 47 = 140737488355328 := by decide
    omega
  clear hA0
  simp only [List.append_nil] at hW'
  have GP := good_of hL
  have walk : Calls Tryz.prog 4 #[.string x0] W fun e w' => e = .returned (.bool true) ∧ Below W.heap.size W w' := back_true x0 W GP.1 GP.2
  refine walk.mono fun e W' ⟨he, hb⟩ => ?_
  subst he
  refine ⟨_, rfl, _, _, _, [], [], [], hW', ?_, ?_, rfl, hb.frame _, fun h => by cases h⟩
  · exact trodAll_cons_mk (shut_bool Tryz.underlying4 _) trodAll_mk0
  · exact trodAll_cons_mk (shut_string Tryz.underlying9 hs0) trodAll_mk0

theorem reads (os : Os) {H : Type} (enc : TypeId × Value → H) : ∃ places, DataW.whole enc Tryz.prog ((World.doorLaid Tryz.prog 77 os).forCall (fun _ _ => 0) ⟨#[], #[.string ⟨#[]⟩], []⟩).memory Tryz.f4.params.toList Rows.parseBackSpec.vars false #[Value.string ⟨#[]⟩].toList 8 = some ([.lit (.string [])], [], places) :=
  ⟨[], by kernel_rfl⟩

set_option maxRecDepth 100000 in
theorem lifted (os : Os) (started : os.Started) (H : Type) (enc : TypeId × Value → H) (F : Stop.Interp) :
    ReturnsInHanded {} Tryz.checked os 4 .any ((OpenSpec.ofChange Rows.parseBackSpec).preRow enc Tryz.prog Tryz.f4 Rows.parseBackRow.domain false Rows.parseBackRow.laid) (((OpenSpec.ofChange Rows.parseBackSpec).at F).post enc Tryz.prog Tryz.f4 false true false false) := by
  obtain ⟨places, hx⟩ := reads os enc
  refine returnsInHanded_of_row (C := Tryz.checked) (s := OpenSpec.ofChange Rows.parseBackSpec) own started (by kernel_rfl) Tryz.func4
    (witness_row_atRef (enc := enc) (C := Tryz.checked) false (World.doorLaid Tryz.prog 77 os) #[.string ⟨#[]⟩] rfl (by kernel_rfl) (by kernel_rfl) (by kernel_rfl)
      (OpenSpec.preRow_of_cond 8 hx (by kernel_rfl) (fun k hk => by cases hk) (by kernel_rfl) (door_met os _))) ?_
  intro W base args ds gs before hval hW _ _ hsz hL _ _
  exact contract H enc W base args ds gs before hval hW hsz hL

theorem said : Rows.ParseBackSaid :=
  OpenClaim.holds_of_cond 4 Tryz.f4 rfl rfl rfl rfl rfl rfl rfl ⟨rfl, rfl, rfl, rfl, rfl⟩ rfl rfl rfl rfl rfl (by kernel_rfl) Tryz.func4 (by kernel_rfl)
    (of_decide_eq_true (by kernel_rfl)) (by unfold Func.isWrapper; first | (rw [if_pos (by decide +kernel)]; kernel_rfl) | (rw [if_neg (by decide +kernel)]; exact ⟨rfl, rfl⟩))
    (fun os started H enc _ F => by rw [OpenClaim.pre_eq_preRow]; exact lifted os started H enc F)

/-- No parameter wants a stand-in: what the card asks. -/
theorem plain (f : FuncId) (fn : Func) (hf : Tryz.pinned.checked.prog.funcNamed Rows.parseBackRow.func = some f) (hfn : Tryz.pinned.checked.prog.funcs[f]? = some fn) :
    true = Tryz.pinned.checked.prog.looks [] ∧ ∀ (j : Nat) t, fn.params[j]? = some t → Tryz.pinned.checked.prog.wantsStandIn t = false := by
  obtain rfl : f = 4 := Option.some.inj ((show Tryz.prog.funcNamed Rows.parseBackRow.func = some 4 by kernel_rfl).symm.trans hf) |>.symm
  obtain rfl : fn = Tryz.f4 := (Option.some.inj (Tryz.func4.symm.trans hfn)).symm
  refine ⟨by kernel_rfl, fun j t ht => ?_⟩
  rw [Tryz.params4] at ht
  have hm : t ∈ [9] := by simpa using Array.mem_of_getElem? ht
  have hall : ([9].all fun u => !Tryz.prog.wantsStandIn u) = true := by kernel_rfl
  exact (show Tryz.prog.wantsStandIn t = false by simpa using List.all_eq_true.1 hall t hm)

end ParseBack

/-- THE CARD. -/
theorem parseBack_card : Rows.ParseBackCardSaid :=
  Claim7.holds_tied_plain_at .later [] _ _ _ _ ParseBack.said (fun _ h => by cases h) (by kernel_rfl) (fun _ h => by cases h) parseBack_row_tie rfl ⟨rfl, rfl⟩ (by kernel_rfl) rfl ParseBack.plain (by kernel_rfl)

end Go.Proofs.YtfbejfoalnhihaaGreatDoor
