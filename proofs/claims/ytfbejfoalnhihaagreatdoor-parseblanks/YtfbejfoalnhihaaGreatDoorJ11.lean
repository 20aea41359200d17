/-
  CONTRACT: Join of package lex at every list of at most 100000 tokens whose texts are together short enough. Blocks from the world's end on alone are new.
-/
import Derived.Test.YtfbejfoalnhihaaGreatDoorJ8
import Derived.Laws.OwnMore
import Derived.Test.YtfbejfoalnhihaaGreatDoorJ5
import Derived.Test.YtfbejfoalnhihaaGreatDoorJ10
namespace Go.Proofs.YtfbejfoalnhihaaGreatDoor
open Go.RowKit

/-- The slice's elements read as these tokens. -/
def TokIn (w : World) (g i : Nat) (t : Tok) : Prop := w.cell? ⟨g, i * 3, none⟩ = some (.int .i64 t.kind) ∧ w.cell? ⟨g, i * 3 + 1, none⟩ = some (.string ⟨t.text.toArray⟩) ∧ w.cell? ⟨g, i * 3 + 2, none⟩ = some (.int .i64 t.place)
def TR (w : World) (A : Option Addr) (ts : List Tok) : Prop := 0 < ts.length → ∃ g, A = some ⟨g, 0, none⟩ ∧ g < w.heap.size ∧ ∀ i t, ts[i]? = some t → TokIn w g i t
theorem TR.below {w w' : World} {A : Option Addr} {ts : List Tok} (h : TR w A ts) (hb : Below w.heap.size w w') : TR w' A ts := by
  intro h0
  obtain ⟨g, hA, hg, hc⟩ := h h0
  refine ⟨g, hA, Nat.lt_of_lt_of_le hg hb.size, fun i t ht => ?_⟩
  obtain ⟨a, b, c⟩ := hc i t ht
  exact ⟨(hb.cell (p := ⟨g, i * 3, none⟩) hg).trans a, (hb.cell (p := ⟨g, i * 3 + 1, none⟩) hg).trans b, (hb.cell (p := ⟨g, i * 3 + 2, none⟩) hg).trans c⟩
theorem tr_own {w : World} {base : Nat} {e : TypeId} {v : Value} {ts : List Tok} (h : w.ownsRow base e 3 v ts.length (cellsT ts)) : ∃ A c, v = .slice A ts.length c ∧ ts.length ≤ c ∧ TR w A ts := by
  rcases Nat.eq_zero_or_pos ts.length with h0 | h0
  · rcases h.2 with ⟨rfl, _⟩ | ⟨g, cap, cur, rfl, _, _, hc, _⟩
    · exact ⟨none, 0, by rw [h0], by omega, fun h => by omega⟩
    · exact ⟨_, _, rfl, hc, fun h => by omega⟩
  · obtain ⟨g, cap, rfl, hb, hlt⟩ := h.form h0
    have hcap : ts.length ≤ cap := by
      rcases h.2 with ⟨h1, _⟩ | ⟨g', cap', cur, h1, _, _, hc, _⟩
      · cases h1
      · injection h1 with _ _ h1; omega
    refine ⟨_, _, rfl, hcap, fun _ => ⟨g, rfl, hlt, fun i t ht => ?_⟩⟩
    have hi : i < ts.length := (List.getElem?_eq_some_iff.1 ht).1
    obtain ⟨a, b, c⟩ := cellsT_at ts i t ht
    exact ⟨(h.cellAt (i * 3) (by omega)).trans a, (h.cellAt (i * 3 + 1) (by omega)).trans b, (h.cellAt (i * 3 + 2) (by omega)).trans c⟩

theorem strs_snoc (ts : List Tok) (k : Nat) (t : Tok) (h : ts[k]? = some t) : strL ((ts.take (k + 1)).map (·.text)) = strL ((ts.take k).map (·.text)) ++ [.string ⟨t.text.toArray⟩] := by
  obtain ⟨hk, rfl⟩ := List.getElem?_eq_some_iff.1 h
  unfold strL
  rw [List.take_succ_eq_append_getElem hk, List.map_append, List.map_append]; rfl
theorem news1 (w : World) (A : Array Value) (t e : TypeId) (a : Value) : ∀ j u, [a][j]? = some u → ((w.alloc (.cells A t)).alloc (.cells #[a] e)).cell? ((⟨w.heap.size + 1, 0, none⟩ : Addr).add j) = some u := by
  have h := heap_alloc_new (w.alloc (.cells A t)) (.cells #[a] e)
  rw [show (w.alloc (.cells A t)).heap.size = w.heap.size + 1 by simp] at h
  exact World.news_of_block h
def JRel (w : World) (ts : List Tok) (v i : Value) (wr : World) : Prop :=
  ∃ k : Nat, k ≤ ts.length ∧ i = .int .i64 k ∧ Hid (wr.ownsRow w.heap.size 9 1 v k (strL ((ts.take k).map (·.text)))) ∧ Below w.heap.size w wr

set_option maxRecDepth 100000 in
set_option maxHeartbeats 400000 in
theorem join_any (A : Option Addr) (c : Nat) (ts : List Tok) (w : World) (hT : TR w A ts) (hn : ts.length ≤ 100000) (hxs : (joinT (ts.map (·.text))).length ≤ 140737488355328) :
    Calls Tryz.prog 20 #[.slice A ts.length c] w fun e w' => e = .returned (.string ⟨(joinT (ts.map (·.text))).toArray⟩) ∧ Below w.heap.size w w' := by
  obtain ⟨i0, hi0, hz0, hz1, hz2⟩ := info_parts str_info
  have HI0 := Lib.hid hi0
  have HZ0 := Lib.hid hz0
  have HZ1 := Lib.hid hz1
  have HZ2 := Lib.hid hz2
  have HT := Lib.hid hT
  have HX := Lib.hid hxs
  obtain ⟨n, hnn⟩ : ∃ n, ts.length = n := ⟨_, rfl⟩
  have HN := Lib.hid hnn
  obtain ⟨x, hx⟩ : ∃ x : ByteArray, x = ⟨(joinT (ts.map (·.text))).toArray⟩ := ⟨_, rfl⟩
  have HXX := Lib.hid hx
  rw [← hx]
  rw [hnn] at hn ⊢
  clear hi0 hz0 hz1 hz2 hT hnn hxs hx
  go_enter Tryz.func20, Tryz.ntmps20
  go_wp2_with fail
  go_loopw [3, 8] (fun v i wr => JRel w ts v i wr) (fun _ i _ => ts.length - (intOf i).toNat)
  case atStart => exact ⟨0, Nat.zero_le _, rfl, World.ownsRow_nil _ _ _ _, Below.refl _ _⟩
  case round =>
    obtain ⟨k, hk, rfl, HO, hb⟩ := hrel
    have hkn : k ≤ n := by have := HN.out; omega
    by_cases hlt : k < n
    · obtain ⟨g, rfl, hg, hcs⟩ := HT.out (by have := HN.out; omega)
      obtain ⟨t, ht⟩ : ∃ t, ts[k]? = some t := ⟨_, List.getElem?_eq_getElem (by have := HN.out; omega)⟩
      obtain ⟨c0, c1, c2⟩ := hcs k t ht
      have c0 := (hb.cell (p := ⟨g, k * 3, none⟩) hg).trans c0
      have c1 := (hb.cell (p := ⟨g, k * 3 + 1, none⟩) hg).trans c1
      have c2 := (hb.cell (p := ⟨g, k * 3 + 2, none⟩) hg).trans c2
      have HTK := Lib.hid ht
      have HCS := Lib.hid hcs
      clear ht hcs
      obtain ⟨tk, tt, tp⟩ := t
      go_wp2_with (at_builtin; refine Hid.out ?_)
      refine Lib.hid ?_
      refine wpList_append_lies _ rfl (.tmp 12) (.tmp 15) _ rfl w.heap.size 9 i0 _ 1 16 Tryz.underlying71 HI0.out HZ0.out HZ1.out HZ2.out rfl (by omega) u3 k (strL ((ts.take k).map (·.text))) rfl (by exact (HO.out.alloc _).alloc _) ⟨wr.heap.size + 1, 0, none⟩ 1 1 [.string ⟨tt.toArray⟩] rfl rfl (by exact news1 wr _ 46 9 _) (by simp [Value.oneCell']) (by omega) (by simp only [maxLen]; omega) (by omega) (by simp; have := hb.size; omega) (wr.heap.size + 2) (by simp) ?_
      intro g2 cap w2 hown2 hg2 hat2 hlt2
      have hb3 : Below w.heap.size w w2 := ((hb.alloc hb.size _).alloc (by simp; have := hb.size; omega) _).grown hg2 (by simp; have := hb.size; omega) (fun k hk => (HO.out.lt k hk).1)
      have hown3 : w2.ownsRow w.heap.size 9 1 (.slice (some ⟨g2, 0, none⟩) (k + 1) cap) (k + 1) (strL ((ts.take (k + 1)).map (·.text))) := by
        rw [strs_snoc ts k _ HTK.out]; exact hown2
      have HO3 := Lib.hid hown3
      clear hown2 hown3 hg2 hat2 c0 c1 c2
      go_wp2_with fail
      go_roundw
      case rel => exact ⟨k + 1, by have := HN.out; omega, by go_num, HO3, hb3⟩
      case measure => simp [intOf]; have := HN.out; omega
    · have hkk : k = n := by omega
      have HO2 : Hid (wr.ownsRow w.heap.size 9 1 u3 n (strL (ts.map (·.text)))) := by
        have := HO.out
        rw [hkk, ← HN.out, List.take_length] at this
        rw [← HN.out]; exact this
      have hj : Calls Tryz.prog 38 #[u3, .string ⟨#[32]⟩] wr fun e w' => e = .returned (.string x) ∧ Below wr.heap.size wr w' := by
        rw [HXX.out]
        exact join_own HO2.out (by rw [List.length_map]; have := HN.out; omega) HX.out
      have HJ := Lib.hid hj
      clear hj HO2 HO
      go_wp2_with fail
      refine HJ.out.mono ?_
      rintro e w' ⟨rfl, hb'⟩
      have HB := Lib.hid (hb.trans (hb'.mono hb.size))
      clear hb hb'
      go_wp2_with fail
      go_ret
      exact ⟨rfl, HB.out⟩

end Go.Proofs.YtfbejfoalnhihaaGreatDoor

/-
  PLAIN: blanks play no part: what is read of a text whose tokens are joined with one blank each. Nothing of the program stands here. No condition.
-/
namespace Go.Proofs.YtfbejfoalnhihaaGreatDoor
open Go.RowKit

theorem Tf_same {a b : List Tok} (h : same a b) : Tf a = Tf b := by
  funext k
  unfold Tf
  have h1 := congrArg (fun l => l[k]?) (show a.map (fun t => (t.kind, t.text)) = b.map (fun t => (t.kind, t.text)) from h)
  simp only [List.getElem?_map] at h1
  cases ha : a[k]? with
  | none =>
    rw [ha] at h1
    cases hb : b[k]? with
    | none => rfl
    | some y => rw [hb] at h1; cases h1
  | some x =>
    rw [ha] at h1
    cases hb : b[k]? with
    | none => rw [hb] at h1; cases h1
    | some y =>
      rw [hb] at h1
      simp only [Option.map_some, Option.some.injEq, Prod.mk.injEq] at h1
      simp only [h1.1, h1.2]
theorem same_len {a b : List Tok} (h : same a b) : a.length = b.length := by
  have := congrArg List.length (show a.map (fun t => (t.kind, t.text)) = b.map (fun t => (t.kind, t.text)) from h)
  simpa using this
theorem chain_up {l : List UInt8} : ∀ {ts : List Tok} {e : Nat}, Chain l e ts → ∀ (i j : Nat) (t u : Tok), ts[i]? = some t → ts[j]? = some u → i < j → t.place < u.place
  | [], _, _, i, j, t, u, h, _, _ => by simp at h
  | a :: r, e, h, i, j, t, u, h1, h2, hij => by
    have hge : ∀ {ts : List Tok} {e : Nat}, Chain l e ts → ∀ t ∈ ts, e ≤ t.place := by
      intro ts
      induction ts with
      | nil => intro e _ t ht; cases ht
      | cons b q ih =>
        intro e h t ht
        rcases List.mem_cons.1 ht with rfl | ht
        · exact h.1
        · have := ih h.2.2.2.2 t ht
          have := h.1
          omega
    cases j with
    | zero => omega
    | succ j =>
      cases i with
      | zero =>
        have e1 : a = t := by simpa using h1
        subst e1
        have := hge h.2.2.2.2 u (List.mem_of_getElem? (by simpa using h2))
        have := h.2.1
        omega
      | succ i => exact chain_up h.2.2.2.2 i j t u (by simpa using h1) (by simpa using h2) (by omega)
/-- What the two readings of ParseBlanks have to do with each other. -/
inductive Bl (l t : List UInt8) (ts ms : List Tok) : Prop
  | ok (ks : List Tree) (h1 : parseR l = .ok ts ks) (h2 : parseR t = .ok ms ks)
  | bad (j e : Nat) (hj : j ≤ ts.length) (h1 : parseR l = .bad (plf ts l.length j) e) (h2 : parseR t = .bad (plf ms t.length j) e)
theorem blanks {l : List UInt8} {ts : List Tok} (h : scanR l = .ok ts) (hl : l.length ≤ 2048) : ∃ ms, scanR (joinT (ts.map (·.text))) = .ok ms ∧ ms.length = ts.length ∧ Bl l (joinT (ts.map (·.text))) ts ms ∧ (joinT (ts.map (·.text))).length ≤ 4096 := by
  have hT := toks_of h
  obtain ⟨ms, h1, h2⟩ := scan_join ts hT.ok
  have h3 := join_len l ts hT.chain
  have hs : scanR (joinT (ts.map (·.text))) = .ok ms := by
    unfold scanR
    rw [if_neg (by show ¬ _; unfold joinT; omega)]
    exact h1
  refine ⟨ms, hs, same_len h2, ?_, by unfold joinT; omega⟩
  obtain ⟨r, hp, -⟩ := P_total hT.sent (fuelT ts) .decls 0 0 trivial (Nat.zero_le _) (by show 4 * (ts.length - 0) + 0 < 4 * ts.length + 1; omega)
  have hb := P_bound hT.sent _ _ _ _ _ (show okNT .decls from trivial) (Nat.zero_le _) hp
  have e1 : parseR l = treeR ts l.length (some r) := by unfold parseR; rw [h]; simp only [hp]
  have e2 : parseR (joinT (ts.map (·.text))) = treeR ms (joinT (ts.map (·.text))).length (some r) := by
    unfold parseR; rw [hs]; simp only
    rw [show fuelT ms = fuelT ts by unfold fuelT; rw [same_len h2], Tf_same h2, hp]
  cases r with
  | ok ks j => exact .ok ks e1 e2
  | bad j e => exact .bad j e hb e1 e2

end Go.Proofs.YtfbejfoalnhihaaGreatDoor

/-
  CONTRACT: alike, of two trees that are the same but for places, and of two zero ones. Blocks from the world's end on alone are new.
-/
namespace Go.Proofs.YtfbejfoalnhihaaGreatDoor
open Go.RowKit

theorem kid_fix {ok : Nat → Prop} {pl : Nat → Nat} {w : World} {b : Nat} {t : Tree} (h : NodeAt ok pl w b t) (k : Nat) (u : Tree) (hu : t.kids[k]? = some u) : ∃ nb, NodeAt ok pl w nb u ∧ ∀ w', Below w.heap.size w w' → Calls Tryz.prog 21 #[.agg #[.pointer (some ⟨b, 0, none⟩)], .int .i64 k] w' fun e w2 => e = .returned (.agg #[.pointer (some ⟨nb, 0, none⟩)]) ∧ Below w'.heap.size w' w2 := by
  obtain ⟨A, c, hr, h1, h2, h3⟩ := h.kid
  obtain ⟨g, x, rfl, hg, -, hc, hn⟩ := h3 k u hu
  exact ⟨x, hn, fun w' hb => kid_some w' _ _ _ _ _ _ g _ c k x (.inl ⟨b, rfl, hr.below hb⟩) (List.getElem?_eq_some_iff.1 hu).1 h1 h2 (Nat.lt_of_lt_of_le hg hb.size) ((hb.cell (p := ⟨g, k, none⟩) hg).trans hc)⟩

def AlRel (X Y : Option Addr) (m : Nat) (w : World) (i : Value) (wr : World) : Prop :=
  ∃ k : Nat, k ≤ m ∧ i = .int .i64 k ∧ Hid (Below w.heap.size w wr) ∧ Hid (PtrAt wr w.heap.size X) ∧ Hid (PtrAt wr (w.heap.size + 1) Y)
/-- What alike asks of two nodes. -/
structure AlIn (w : World) (X Y : Option Addr) (m : Nat) : Prop where
  rows : ∃ (OP : Int) (NAM TYP : ByteArray) (NN p1 p2 : Int) (A1 A2 : Option Addr) (c1 c2 : Nat), RowOf w X OP NAM TYP NN p1 A1 m c1 ∧ RowOf w Y OP NAM TYP NN p2 A2 m c2
  few : m ≤ 6000
  kids : ∀ k, k < m → ∃ X' Y' : Option Addr, (∀ w', Below w.heap.size w w' → Calls Tryz.prog 21 #[.agg #[.pointer X], .int .i64 k] w' fun e w2 => e = .returned (.agg #[.pointer X']) ∧ Below w'.heap.size w' w2) ∧ (∀ w', Below w.heap.size w w' → Calls Tryz.prog 21 #[.agg #[.pointer Y], .int .i64 k] w' fun e w2 => e = .returned (.agg #[.pointer Y']) ∧ Below w'.heap.size w' w2) ∧
    (∀ w', Below w.heap.size w w' → Calls Tryz.prog 18 #[.agg #[.pointer X'], .agg #[.pointer Y']] w' fun e w2 => e = .returned (.bool true) ∧ Below w'.heap.size w' w2)

set_option maxRecDepth 100000 in
set_option maxHeartbeats 2000000 in
theorem alike_in (w : World) (X Y : Option Addr) (m : Nat) (H : AlIn w X Y m) : Calls Tryz.prog 18 #[.agg #[.pointer X], .agg #[.pointer Y]] w fun e w' => e = .returned (.bool true) ∧ Below w.heap.size w w' := by
  obtain ⟨⟨OP, NAM, TYP, NN, p1, p2, A1, A2, c1, c2, R1, R2⟩, hm, HK⟩ := H
  have BA := Lib.hid (b2 w (.cells #[.pointer X] 25) (.cells #[.pointer Y] 25))
  have U := Lib.hid ((PtrAt.new w X).below (b1 _ (.cells #[.pointer Y] 25)))
  have V0 := PtrAt.new (w.alloc (.cells #[.pointer X] 25)) Y
  have V : Hid (PtrAt ((w.alloc (.cells #[.pointer X] 25)).alloc (.cells #[.pointer Y] 25)) (w.heap.size + 1) Y) := by
    have e : (w.alloc (.cells #[.pointer X] 25)).heap.size = w.heap.size + 1 := by simp
    rw [e] at V0; exact V0
  have HKK := Lib.hid HK
  have Q1 := Lib.hid (R1.below BA.out)
  have Q2 := Lib.hid (R2.below BA.out)
  have R1 := Lib.hid R1
  clear V0 R2 HK
  go_enter Tryz.func18, Tryz.ntmps18
  go_wp2_with fail
  generalize (w.alloc (.cells #[.pointer X] 25)).alloc (.cells #[.pointer Y] 25) = wb at *
  have u0 := U.out.c0
  have u1 := V.out.c0
  have l0 := U.out.lt
  have l1 := V.out.lt
  have D0 : Hid (Below wb.heap.size wb wb.drew) := (Below.refl _ _).drew
  have A11 : Hid (∀ w', Below wb.heap.size wb w' → Calls Tryz.prog 11 #[.agg #[.pointer (X)]] w' fun e w2 => e = .returned (.int .i64 OP) ∧ Below w'.heap.size w' w2) := fun w' hb => op_of _ _ _ _ _ _ _ _ _ _ (Q1.out.below hb)
  have A35 : Hid (∀ w', Below wb.heap.size wb w' → Calls Tryz.prog 35 #[.agg #[.pointer (X)]] w' fun e w2 => e = .returned (.string NAM) ∧ Below w'.heap.size w' w2) := fun w' hb => name_of _ _ _ _ _ _ _ _ _ _ (Q1.out.below hb)
  have A36 : Hid (∀ w', Below wb.heap.size wb w' → Calls Tryz.prog 36 #[.agg #[.pointer (X)]] w' fun e w2 => e = .returned (.string TYP) ∧ Below w'.heap.size w' w2) := fun w' hb => typ_of _ _ _ _ _ _ _ _ _ _ (Q1.out.below hb)
  have A23 : Hid (∀ w', Below wb.heap.size wb w' → Calls Tryz.prog 23 #[.agg #[.pointer (X)]] w' fun e w2 => e = .returned (.int .i64 NN) ∧ Below w'.heap.size w' w2) := fun w' hb => n_of _ _ _ _ _ _ _ _ _ _ (Q1.out.below hb)
  have A12 : Hid (∀ w', Below wb.heap.size wb w' → Calls Tryz.prog 12 #[.agg #[.pointer (X)]] w' fun e w2 => e = .returned (.int .i64 (m : Int)) ∧ Below w'.heap.size w' w2) := fun w' hb => kids_of _ _ _ _ _ _ _ _ _ _ (Q1.out.below hb)
  have B11 : Hid (∀ w', Below wb.heap.size wb w' → Calls Tryz.prog 11 #[.agg #[.pointer (Y)]] w' fun e w2 => e = .returned (.int .i64 OP) ∧ Below w'.heap.size w' w2) := fun w' hb => op_of _ _ _ _ _ _ _ _ _ _ (Q2.out.below hb)
  have B35 : Hid (∀ w', Below wb.heap.size wb w' → Calls Tryz.prog 35 #[.agg #[.pointer (Y)]] w' fun e w2 => e = .returned (.string NAM) ∧ Below w'.heap.size w' w2) := fun w' hb => name_of _ _ _ _ _ _ _ _ _ _ (Q2.out.below hb)
  have B36 : Hid (∀ w', Below wb.heap.size wb w' → Calls Tryz.prog 36 #[.agg #[.pointer (Y)]] w' fun e w2 => e = .returned (.string TYP) ∧ Below w'.heap.size w' w2) := fun w' hb => typ_of _ _ _ _ _ _ _ _ _ _ (Q2.out.below hb)
  have B23 : Hid (∀ w', Below wb.heap.size wb w' → Calls Tryz.prog 23 #[.agg #[.pointer (Y)]] w' fun e w2 => e = .returned (.int .i64 NN) ∧ Below w'.heap.size w' w2) := fun w' hb => n_of _ _ _ _ _ _ _ _ _ _ (Q2.out.below hb)
  have B12 : Hid (∀ w', Below wb.heap.size wb w' → Calls Tryz.prog 12 #[.agg #[.pointer (Y)]] w' fun e w2 => e = .returned (.int .i64 (m : Int)) ∧ Below w'.heap.size w' w2) := fun w' hb => kids_of _ _ _ _ _ _ _ _ _ _ (Q2.out.below hb)
  go_region_held3 (fun w' => Below wb.heap.size wb w' ∧ w'.cell? ⟨w.heap.size, 0, none⟩ = some (.pointer X) ∧ w'.cell? ⟨w.heap.size + 1, 0, none⟩ = some (.pointer Y)) (first | exact ⟨D0.out, u0, u1⟩ | exact HK11.out | exact HK35.out | exact HK36.out | exact HK23.out | exact HK12.out) (first | (go_at_call 11; have h0 := ‹Below wb.heap.size wb _ ∧ _›; first | (have c0 := A11.out _ h0.1; (with_reducible refine c0.mono ?_); clear c0; rintro e w11 ⟨rfl, hb⟩; have HK11 : Hid (Below wb.heap.size wb w11 ∧ w11.cell? ⟨w.heap.size, 0, none⟩ = some (.pointer X) ∧ w11.cell? ⟨w.heap.size + 1, 0, none⟩ = some (.pointer Y)) := ⟨h0.1.trans (hb.mono h0.1.size), (hb.cell (p := ⟨w.heap.size, 0, none⟩) (Nat.lt_of_lt_of_le l0 h0.1.size)).trans h0.2.1, (hb.cell (p := ⟨w.heap.size + 1, 0, none⟩) (Nat.lt_of_lt_of_le l1 h0.1.size)).trans h0.2.2⟩; clear h0 hb) | (have c0 := B11.out _ h0.1; (with_reducible refine c0.mono ?_); clear c0; rintro e w11 ⟨rfl, hb⟩; have HK11 : Hid (Below wb.heap.size wb w11 ∧ w11.cell? ⟨w.heap.size, 0, none⟩ = some (.pointer X) ∧ w11.cell? ⟨w.heap.size + 1, 0, none⟩ = some (.pointer Y)) := ⟨h0.1.trans (hb.mono h0.1.size), (hb.cell (p := ⟨w.heap.size, 0, none⟩) (Nat.lt_of_lt_of_le l0 h0.1.size)).trans h0.2.1, (hb.cell (p := ⟨w.heap.size + 1, 0, none⟩) (Nat.lt_of_lt_of_le l1 h0.1.size)).trans h0.2.2⟩; clear h0 hb)) | (go_at_call 35; have h0 := ‹Below wb.heap.size wb _ ∧ _›; first | (have c0 := A35.out _ h0.1; (with_reducible refine c0.mono ?_); clear c0; rintro e w35 ⟨rfl, hb⟩; have HK35 : Hid (Below wb.heap.size wb w35 ∧ w35.cell? ⟨w.heap.size, 0, none⟩ = some (.pointer X) ∧ w35.cell? ⟨w.heap.size + 1, 0, none⟩ = some (.pointer Y)) := ⟨h0.1.trans (hb.mono h0.1.size), (hb.cell (p := ⟨w.heap.size, 0, none⟩) (Nat.lt_of_lt_of_le l0 h0.1.size)).trans h0.2.1, (hb.cell (p := ⟨w.heap.size + 1, 0, none⟩) (Nat.lt_of_lt_of_le l1 h0.1.size)).trans h0.2.2⟩; clear h0 hb) | (have c0 := B35.out _ h0.1; (with_reducible refine c0.mono ?_); clear c0; rintro e w35 ⟨rfl, hb⟩; have HK35 : Hid (Below wb.heap.size wb w35 ∧ w35.cell? ⟨w.heap.size, 0, none⟩ = some (.pointer X) ∧ w35.cell? ⟨w.heap.size + 1, 0, none⟩ = some (.pointer Y)) := ⟨h0.1.trans (hb.mono h0.1.size), (hb.cell (p := ⟨w.heap.size, 0, none⟩) (Nat.lt_of_lt_of_le l0 h0.1.size)).trans h0.2.1, (hb.cell (p := ⟨w.heap.size + 1, 0, none⟩) (Nat.lt_of_lt_of_le l1 h0.1.size)).trans h0.2.2⟩; clear h0 hb)) | (go_at_call 36; have h0 := ‹Below wb.heap.size wb _ ∧ _›; first | (have c0 := A36.out _ h0.1; (with_reducible refine c0.mono ?_); clear c0; rintro e w36 ⟨rfl, hb⟩; have HK36 : Hid (Below wb.heap.size wb w36 ∧ w36.cell? ⟨w.heap.size, 0, none⟩ = some (.pointer X) ∧ w36.cell? ⟨w.heap.size + 1, 0, none⟩ = some (.pointer Y)) := ⟨h0.1.trans (hb.mono h0.1.size), (hb.cell (p := ⟨w.heap.size, 0, none⟩) (Nat.lt_of_lt_of_le l0 h0.1.size)).trans h0.2.1, (hb.cell (p := ⟨w.heap.size + 1, 0, none⟩) (Nat.lt_of_lt_of_le l1 h0.1.size)).trans h0.2.2⟩; clear h0 hb) | (have c0 := B36.out _ h0.1; (with_reducible refine c0.mono ?_); clear c0; rintro e w36 ⟨rfl, hb⟩; have HK36 : Hid (Below wb.heap.size wb w36 ∧ w36.cell? ⟨w.heap.size, 0, none⟩ = some (.pointer X) ∧ w36.cell? ⟨w.heap.size + 1, 0, none⟩ = some (.pointer Y)) := ⟨h0.1.trans (hb.mono h0.1.size), (hb.cell (p := ⟨w.heap.size, 0, none⟩) (Nat.lt_of_lt_of_le l0 h0.1.size)).trans h0.2.1, (hb.cell (p := ⟨w.heap.size + 1, 0, none⟩) (Nat.lt_of_lt_of_le l1 h0.1.size)).trans h0.2.2⟩; clear h0 hb)) | (go_at_call 23; have h0 := ‹Below wb.heap.size wb _ ∧ _›; first | (have c0 := A23.out _ h0.1; (with_reducible refine c0.mono ?_); clear c0; rintro e w23 ⟨rfl, hb⟩; have HK23 : Hid (Below wb.heap.size wb w23 ∧ w23.cell? ⟨w.heap.size, 0, none⟩ = some (.pointer X) ∧ w23.cell? ⟨w.heap.size + 1, 0, none⟩ = some (.pointer Y)) := ⟨h0.1.trans (hb.mono h0.1.size), (hb.cell (p := ⟨w.heap.size, 0, none⟩) (Nat.lt_of_lt_of_le l0 h0.1.size)).trans h0.2.1, (hb.cell (p := ⟨w.heap.size + 1, 0, none⟩) (Nat.lt_of_lt_of_le l1 h0.1.size)).trans h0.2.2⟩; clear h0 hb) | (have c0 := B23.out _ h0.1; (with_reducible refine c0.mono ?_); clear c0; rintro e w23 ⟨rfl, hb⟩; have HK23 : Hid (Below wb.heap.size wb w23 ∧ w23.cell? ⟨w.heap.size, 0, none⟩ = some (.pointer X) ∧ w23.cell? ⟨w.heap.size + 1, 0, none⟩ = some (.pointer Y)) := ⟨h0.1.trans (hb.mono h0.1.size), (hb.cell (p := ⟨w.heap.size, 0, none⟩) (Nat.lt_of_lt_of_le l0 h0.1.size)).trans h0.2.1, (hb.cell (p := ⟨w.heap.size + 1, 0, none⟩) (Nat.lt_of_lt_of_le l1 h0.1.size)).trans h0.2.2⟩; clear h0 hb)) | (go_at_call 12; have h0 := ‹Below wb.heap.size wb _ ∧ _›; first | (have c0 := A12.out _ h0.1; (with_reducible refine c0.mono ?_); clear c0; rintro e w12 ⟨rfl, hb⟩; have HK12 : Hid (Below wb.heap.size wb w12 ∧ w12.cell? ⟨w.heap.size, 0, none⟩ = some (.pointer X) ∧ w12.cell? ⟨w.heap.size + 1, 0, none⟩ = some (.pointer Y)) := ⟨h0.1.trans (hb.mono h0.1.size), (hb.cell (p := ⟨w.heap.size, 0, none⟩) (Nat.lt_of_lt_of_le l0 h0.1.size)).trans h0.2.1, (hb.cell (p := ⟨w.heap.size + 1, 0, none⟩) (Nat.lt_of_lt_of_le l1 h0.1.size)).trans h0.2.2⟩; clear h0 hb) | (have c0 := B12.out _ h0.1; (with_reducible refine c0.mono ?_); clear c0; rintro e w12 ⟨rfl, hb⟩; have HK12 : Hid (Below wb.heap.size wb w12 ∧ w12.cell? ⟨w.heap.size, 0, none⟩ = some (.pointer X) ∧ w12.cell? ⟨w.heap.size + 1, 0, none⟩ = some (.pointer Y)) := ⟨h0.1.trans (hb.mono h0.1.size), (hb.cell (p := ⟨w.heap.size, 0, none⟩) (Nat.lt_of_lt_of_le l0 h0.1.size)).trans h0.2.1, (hb.cell (p := ⟨w.heap.size + 1, 0, none⟩) (Nat.lt_of_lt_of_le l1 h0.1.size)).trans h0.2.2⟩; clear h0 hb)))
  all_goals
    have B1 := Lib.hid (BA.out.trans ((HK12.out.1).mono BA.out.size))
    have U1 := Lib.hid (U.out.below HK12.out.1)
    have V1 := Lib.hid (V.out.below HK12.out.1)
    clear Q1 u0 u1 l0 l1 D0 U V A11 A35 A36 A23 A12 B11 B35 B36 B23 B12 Q2
    clear HK11 HK35 HK36 HK23 HK12
    go_wp2_with fail
    go_loopw [5] (fun i wr => AlRel X Y m w i wr) (fun i _ => m - (intOf i).toNat)
    case atStart => exact ⟨0, Nat.zero_le _, rfl, B1, U1, V1⟩
    case round =>
      clear B1 U1 V1
      obtain ⟨k, hk, rfl, B, U, V⟩ := hrel
      have U0 := U.out.c0
      go_wp2_with fail
      clear U0
      refine (kids_of _ _ _ _ _ _ _ _ _ _ (R1.out.below B.out)).mono ?_
      rintro e w1 ⟨rfl, hb⟩
      have B1 := Lib.hid (B.out.trans (hb.mono B.out.size))
      have U1 := Lib.hid (U.out.below hb)
      have V1 := Lib.hid (V.out.below hb)
      clear hb U V B
      by_cases hlt : k < m
      · have hki : (k : Int) < (m : Int) := by omega
        obtain ⟨X', Y', ka, kb, ki⟩ := HKK.out k hlt
        have KA : Hid (∀ w', Below w1.heap.size w1 w' → Calls Tryz.prog 21 #[.agg #[.pointer X], .int .i64 k] w' fun e w2 => e = .returned (.agg #[.pointer X']) ∧ Below w'.heap.size w' w2) := fun w' hb => ka w' (B1.out.trans (hb.mono B1.out.size))
        have KB : Hid (∀ w', Below w1.heap.size w1 w' → Calls Tryz.prog 21 #[.agg #[.pointer Y], .int .i64 k] w' fun e w2 => e = .returned (.agg #[.pointer Y']) ∧ Below w'.heap.size w' w2) := fun w' hb => kb w' (B1.out.trans (hb.mono B1.out.size))
        have KI : Hid (∀ w', Below w1.heap.size w1 w' → Calls Tryz.prog 18 #[.agg #[.pointer X'], .agg #[.pointer Y']] w' fun e w2 => e = .returned (.bool true) ∧ Below w'.heap.size w' w2) := fun w' hb => ki w' (B1.out.trans (hb.mono B1.out.size))
        clear ka kb ki
        have u0 := U1.out.c0
        have u1 := V1.out.c0
        have l0 := U1.out.lt
        have l1 := V1.out.lt
        have D0 : Hid (Below w1.heap.size w1 w1.drew) := (Below.refl _ _).drew
        go_wp2_with fail
        go_region_held3 (fun w' => Below w1.heap.size w1 w' ∧ w'.cell? ⟨w.heap.size, 0, none⟩ = some (.pointer X) ∧ w'.cell? ⟨w.heap.size + 1, 0, none⟩ = some (.pointer Y)) (first | exact ⟨D0.out, u0, u1⟩ | exact HK18.out | exact HK21.out) (first | (go_at_call 21; have h0 := ‹Below w1.heap.size w1 _ ∧ _›; first | (have c0 := KA.out _ h0.1; (with_reducible refine c0.mono ?_); clear c0; rintro e w21 ⟨rfl, hb⟩; have HK21 : Hid (Below w1.heap.size w1 w21 ∧ w21.cell? ⟨w.heap.size, 0, none⟩ = some (.pointer X) ∧ w21.cell? ⟨w.heap.size + 1, 0, none⟩ = some (.pointer Y)) := ⟨h0.1.trans (hb.mono h0.1.size), (hb.cell (p := ⟨w.heap.size, 0, none⟩) (Nat.lt_of_lt_of_le l0 h0.1.size)).trans h0.2.1, (hb.cell (p := ⟨w.heap.size + 1, 0, none⟩) (Nat.lt_of_lt_of_le l1 h0.1.size)).trans h0.2.2⟩; clear h0 hb) | (have c0 := KB.out _ h0.1; (with_reducible refine c0.mono ?_); clear c0; rintro e w21 ⟨rfl, hb⟩; have HK21 : Hid (Below w1.heap.size w1 w21 ∧ w21.cell? ⟨w.heap.size, 0, none⟩ = some (.pointer X) ∧ w21.cell? ⟨w.heap.size + 1, 0, none⟩ = some (.pointer Y)) := ⟨h0.1.trans (hb.mono h0.1.size), (hb.cell (p := ⟨w.heap.size, 0, none⟩) (Nat.lt_of_lt_of_le l0 h0.1.size)).trans h0.2.1, (hb.cell (p := ⟨w.heap.size + 1, 0, none⟩) (Nat.lt_of_lt_of_le l1 h0.1.size)).trans h0.2.2⟩; clear h0 hb)) | (go_at_call 18; have h0 := ‹Below w1.heap.size w1 _ ∧ _›; have c0 := KI.out _ h0.1; (with_reducible refine c0.mono ?_); clear c0; rintro e w18 ⟨rfl, hb⟩; have HK18 : Hid (Below w1.heap.size w1 w18 ∧ w18.cell? ⟨w.heap.size, 0, none⟩ = some (.pointer X) ∧ w18.cell? ⟨w.heap.size + 1, 0, none⟩ = some (.pointer Y)) := ⟨h0.1.trans (hb.mono h0.1.size), (hb.cell (p := ⟨w.heap.size, 0, none⟩) (Nat.lt_of_lt_of_le l0 h0.1.size)).trans h0.2.1, (hb.cell (p := ⟨w.heap.size + 1, 0, none⟩) (Nat.lt_of_lt_of_le l1 h0.1.size)).trans h0.2.2⟩; clear h0 hb))
        all_goals
          have B2 := Lib.hid (B1.out.trans ((HK18.out.1).mono B1.out.size))
          have U2 := Lib.hid (U1.out.below HK18.out.1)
          have V2 := Lib.hid (V1.out.below HK18.out.1)
          clear u0 u1 l0 l1 D0 U1 V1 B1 KA KB KI HK18 HK21
          go_wp2_with fail
          go_roundw
          case rel => exact ⟨k + 1, by omega, by go_num, B2, U2, V2⟩
          case measure => simp [intOf]; omega
      · have hki : ¬ (k : Int) < (m : Int) := by omega
        go_wp2_with fail
        go_ret
        exact ⟨rfl, B1.out⟩

/-- Two nodes that are the same but for places are alike. -/
theorem alike_any (N : Nat) : ∀ (t u : Tree), sizeT t ≤ N → EE t u → ∀ (w : World) (b b' : Nat) (ok ok' : Nat → Prop) (pl pl' : Nat → Nat), NodeAt ok pl w b t → NodeAt ok' pl' w b' u →
    Calls Tryz.prog 18 #[.agg #[.pointer (some ⟨b, 0, none⟩)], .agg #[.pointer (some ⟨b', 0, none⟩)]] w fun e w' => e = .returned (.bool true) ∧ Below w.heap.size w w' := by
  induction N with
  | zero => intro t u h; have := sizeT_pos t; omega
  | succ N ih =>
    intro t u hN he w b b' ok ok' pl pl' h h'
    obtain ⟨e1, e2, e3, e4, e5⟩ := er_parts he
    have hm : t.kids.length ≤ 6000 := by
      obtain ⟨A, c, hr, h1, h2, h3⟩ := h.kid
      exact h2
    have hl : u.kids.length = t.kids.length := by have := congrArg List.length e5; simpa using this.symm
    refine alike_in w _ _ t.kids.length ⟨?_, hm, fun k hk => ?_⟩
    · obtain ⟨A1, c1, r1⟩ := h.rowOf
      obtain ⟨A2, c2, r2⟩ := h'.rowOf
      rw [← e1, ← e2, ← e3, ← e4, hl] at r2
      exact ⟨_, _, _, _, _, _, A1, A2, c1, c2, r1, r2⟩
    · obtain ⟨x, hx⟩ := kid_is (t := t) hk
      obtain ⟨y, hy, hxy⟩ := er_kid e5 hx
      obtain ⟨nb, hn, hc⟩ := kid_fix h k x hx
      obtain ⟨nb', hn', hc'⟩ := kid_fix h' k y hy
      exact ⟨_, _, hc, hc', fun w' hb => ih x y (by have := size_kid hx; omega) hxy w' nb nb' ok ok' pl pl' (hn.bl hb) (hn'.bl hb)⟩
/-- The zero ones are. -/
theorem alike_zero (w : World) : Calls Tryz.prog 18 #[.agg #[.pointer none], .agg #[.pointer none]] w fun e w' => e = .returned (.bool true) ∧ Below w.heap.size w w' :=
  alike_in w none none 0 ⟨⟨0, ⟨#[]⟩, ⟨#[]⟩, 0, 0, 0, none, none, 0, 0, .inr ⟨rfl, rfl, rfl, rfl, rfl, rfl, rfl, rfl, rfl⟩, .inr ⟨rfl, rfl, rfl, rfl, rfl, rfl, rfl, rfl, rfl⟩⟩, Nat.zero_le _, fun k hk => by omega⟩

end Go.Proofs.YtfbejfoalnhihaaGreatDoor

/-
  ParseBlanks: THE LAW's CONTRACT: it answers true for every text, in a world in which the listed variables lie as the program's text lays them. Blocks from the world's end on alone are new.
-/
namespace Go.Proofs.YtfbejfoalnhihaaGreatDoor
open Go.RowKit

theorem scan_bad {l : List UInt8} {p e : Nat} (h : scanR l = .bad p e) : e ≠ 0 := by
  unfold scanR at h
  split at h
  · injection h with _ h2; omega
  · exact (sc_bad_lt _ _ _ _ _ (Nat.le_refl _) h).2

set_option maxRecDepth 100000 in
set_option maxHeartbeats 1000000 in
theorem blanks_bad (s : ByteArray) (p er : Nat) (w : World) (g : Good w) (pw : PowIn w) (hs : s.size ≤ 2048) (h : Hid (scanR s.data.toList = .bad p er)) : Calls Tryz.prog 5 #[.string s] w fun e w' => e = .returned (.bool true) ∧ Below w.heap.size w w' := by
  have AW := Lib.hid (awake_true w g pw)
  have G := Lib.hid g
  clear g pw
  have hne : ¬ er = 0 := scan_bad h.out
  have hne2 : ((er : Int) != 0) = true := by simp; omega
  clear hne
  go_enter Tryz.func5, Tryz.ntmps5
  go_wp2_with fail
  refine AW.out.mono ?_
  rintro e w1 ⟨rfl, hb⟩
  have B1 := Lib.hid hb
  have G1 := Lib.hid (G.out.below hb)
  clear hb AW G
  have hli : ¬ (2048 : Int) < (s.size : Int) := by omega
  go_wp2_with fail
  refine Calls.mono (R := ScanQ (.bad p er) _) (scan_any s _ _ G1.out (by omega) h) ?_
  rintro e w2 ⟨hb, rfl⟩
  have B2 := Lib.hid (B1.out.trans (hb.mono B1.out.size))
  clear hb
  go_wp2_with fail
  go_ret
  exact ⟨rfl, B2.out⟩

set_option maxRecDepth 100000 in
set_option maxHeartbeats 1000000 in
theorem blanks_long (s : ByteArray) (w : World) (g : Good w) (pw : PowIn w) (hs : 2048 < s.size) : Calls Tryz.prog 5 #[.string s] w fun e w' => e = .returned (.bool true) ∧ Below w.heap.size w w' := by
  have AW := Lib.hid (awake_true w g pw)
  clear g pw
  go_enter Tryz.func5, Tryz.ntmps5
  go_wp2_with fail
  refine AW.out.mono ?_
  rintro e w1 ⟨rfl, hb⟩
  have B1 := Lib.hid hb
  clear hb AW
  have hli : (2048 : Int) < (s.size : Int) := by omega
  go_wp2_with fail
  go_ret
  exact ⟨rfl, B1.out⟩

set_option maxRecDepth 100000 in
set_option maxHeartbeats 2000000 in
theorem blanks_ok (s t : ByteArray) (ts ms : List Tok) (ks : List Tree) (w : World) (g : Good w) (pw : PowIn w) (hs : s.size ≤ 2048) (h : Hid (scanR s.data.toList = .ok ts)) (ht : Hid (t = ⟨(joinT (ts.map (·.text))).toArray⟩)) (hl : t.size ≤ 4096) (h2 : Hid (scanR t.data.toList = .ok ms)) (hn : Hid (ms.length = ts.length)) (p1 : Hid (parseR s.data.toList = .ok ts ks)) (p2 : Hid (parseR t.data.toList = .ok ms ks)) : Calls Tryz.prog 5 #[.string s] w fun e w' => e = .returned (.bool true) ∧ Below w.heap.size w w' := by
  have AW := Lib.hid (awake_true w g pw)
  have G := Lib.hid g
  clear g pw
  obtain ⟨n, hnn⟩ : ∃ n, ts.length = n := ⟨_, rfl⟩
  have hn4 : n ≤ 4096 := by have := (toks_of h.out).len; have := (toks_of h.out).le; omega
  have HN := Lib.hid hnn
  have HN2 : Hid (ms.length = n) := hn.out.trans hnn
  have HJ : Hid ((joinT (ts.map (·.text))).length = t.size) := by rw [ht.out]; rfl
  clear hnn hn
  go_enter Tryz.func5, Tryz.ntmps5
  go_wp2_with fail
  refine AW.out.mono ?_
  rintro e w1 ⟨rfl, hb⟩
  have B1 := Lib.hid hb
  have G1 := Lib.hid (G.out.below hb)
  clear hb AW G
  have hli : ¬ (2048 : Int) < (s.size : Int) := by omega
  go_wp2_with fail
  refine Calls.mono (R := ScanQ (.ok ts) _) (scan_any s _ _ G1.out (by omega) h) ?_
  rintro e w2 ⟨hb, v, rfl, hown⟩
  obtain ⟨A, c, rfl, hc, hT⟩ := tr_own hown
  have JN := Lib.hid (join_any A c ts w2 hT (by have := HN.out; omega) (by have := HJ.out; omega))
  rw [HN.out, ← ht.out] at JN
  rw [HN.out]
  have B2 := Lib.hid (B1.out.trans (hb.mono B1.out.size))
  have G2 := Lib.hid (G1.out.below hb)
  clear hb hown hc hT G1 B1
  go_wp2_with fail
  refine JN.out.mono ?_
  rintro e w3 ⟨rfl, hb⟩
  have B3 := Lib.hid (B2.out.trans (hb.mono B2.out.size))
  have G3 := Lib.hid (G2.out.below hb)
  clear hb G2 B2 JN
  go_wp2_with fail
  refine Calls.mono (R := ScanQ (.ok ms) _) (scan_any t _ _ G3.out (by omega) h2) ?_
  rintro e w4 ⟨hb, v, rfl, hown⟩
  obtain ⟨A2, c2, rfl, hc, hT⟩ := tr_own hown
  rw [HN2.out]
  have B4 := Lib.hid (B3.out.trans (hb.mono B3.out.size))
  have G4 := Lib.hid (G3.out.below hb)
  clear hb hown hc hT G3 B3
  go_wp2_with fail
  refine Calls.mono (R := ParseQ s.data.toList (.ok ts ks) _) (parse_full s _ _ G4.out (by omega) p1) ?_
  rintro e w5 ⟨hb, ba, rfl, hnd⟩
  have BX := Lib.hid (b1 w5 (.cells #[.pointer (some ⟨ba, 0, none⟩)] 25))
  have B5 := Lib.hid (B4.out.trans ((hb.trans (BX.out.mono hb.size)).mono B4.out.size))
  have G5 := Lib.hid ((G4.out.below hb).below BX.out)
  have N5 := Lib.hid (hnd.bl BX.out)
  have U5 := Lib.hid (PtrAt.new w5 (some ⟨ba, 0, none⟩))
  clear hb G4 B4 hnd BX
  unfold nodeV
  go_wp2_with fail
  refine Calls.mono (R := ParseQ t.data.toList (.ok ms ks) _) (parse_full t _ _ G5.out (by omega) p2) ?_
  rintro e w6 ⟨hb, bb, rfl, hnd⟩
  have BX := Lib.hid (b1 w6 (.cells #[.pointer (some ⟨bb, 0, none⟩)] 25))
  have B6 := Lib.hid (B5.out.trans ((hb.trans (BX.out.mono hb.size)).mono B5.out.size))
  have N6 := Lib.hid ((N5.out.bl hb).bl BX.out)
  have M6 := Lib.hid (hnd.bl BX.out)
  have u0 := ((U5.out.below hb).below BX.out).c0
  have u1 := (PtrAt.new w6 (some ⟨bb, 0, none⟩)).c0
  have AL := Lib.hid (alike_any _ _ _ (Nat.le_refl _) (show EE (root ts ks) (root ms ks) from ee_mk rfl) _ _ _ _ _ _ _ N6.out M6.out)
  clear hb G5 B5 hnd BX U5 N5 N6 M6
  unfold nodeV
  go_wp2_with fail
  generalize w6.alloc (.cells #[.pointer (some ⟨bb, 0, none⟩)] 25) = w7 at *
  refine AL.out.mono ?_
  rintro e w8 ⟨rfl, hb⟩
  have B8 := Lib.hid (B6.out.trans (hb.mono B6.out.size))
  clear hb B6 u0 u1 AL
  go_wp2_with fail
  go_ret
  exact ⟨rfl, B8.out⟩

def BkRel (w9 : World) (m : Nat) (i : Value) (wr : World) : Prop := ∃ k : Nat, k ≤ m ∧ i = .int .i64 k ∧ wr = w9

set_option maxRecDepth 100000 in
set_option maxHeartbeats 2000000 in
theorem blanks_fail (s t : ByteArray) (ts ms : List Tok) (j er : Nat) (w : World) (g : Good w) (pw : PowIn w) (hs : s.size ≤ 2048) (h : Hid (scanR s.data.toList = .ok ts)) (ht : Hid (t = ⟨(joinT (ts.map (·.text))).toArray⟩)) (hl : t.size ≤ 4096) (h2 : Hid (scanR t.data.toList = .ok ms)) (hn : Hid (ms.length = ts.length)) (hj : j ≤ ts.length)
    (P Q : Nat) (hP : Hid (plf ts s.size j = P)) (hQ : Hid (plf ms t.size j = Q)) (p1 : Hid (parseR s.data.toList = .bad P er)) (p2 : Hid (parseR t.data.toList = .bad Q er)) : Calls Tryz.prog 5 #[.string s] w fun e w' => e = .returned (.bool true) ∧ Below w.heap.size w w' := by
  have AW := Lib.hid (awake_true w g pw)
  have G := Lib.hid g
  clear g pw
  obtain ⟨n, hnn⟩ : ∃ n, ts.length = n := ⟨_, rfl⟩
  have hTs := toks_of h.out
  have hn4 : n ≤ 4096 := by have := hTs.len; have := hTs.le; omega
  have HN := Lib.hid hnn
  have HN2 : Hid (ms.length = n) := hn.out.trans hnn
  have HJ : Hid ((joinT (ts.map (·.text))).length = t.size) := by rw [ht.out]; rfl
  have hne : ¬ er = 0 := parse_err p1.out
  have hne2 : ((er : Int) == 0) = false := by simp; omega
  have hne3 : ((er : Int) != 0) = true := by simp; omega
  have hne4 : ¬ (er : Int) = 0 := by omega
  clear hne
  rw [hnn] at hj
  have HB : Hid (∀ k x, k < j → ts[k]? = some x → x.place < P) := by
    intro k x hk hx
    rw [← hP.out]
    rcases Nat.lt_or_ge j ts.length with hjl | hjl
    · rw [plf_at (List.getElem?_eq_getElem hjl)]
      exact chain_up hTs.chain k j x _ hx (List.getElem?_eq_getElem hjl) hk
    · have : j = ts.length := by omega
      subst this
      unfold plf
      rw [List.getElem?_eq_none (Nat.le_refl _)]
      simp only [if_pos]
      have := chain_at hTs.chain x (List.mem_of_getElem? hx)
      rw [len_size] at this
      omega
  have HP1 : Hid (∀ x, ts[j]? = some x → x.place = P) := fun x hx => by rw [← hP.out, plf_at hx]
  have HQ1 : Hid (∀ x, ms[j]? = some x → x.place = Q) := fun x hx => by rw [← hQ.out, plf_at hx]
  have HPn : Hid (j = n → P = s.size ∧ Q = t.size) := fun e => by
    rw [← hP.out, ← hQ.out]
    unfold plf
    have h1 : ts[j]? = none := List.getElem?_eq_none (by omega)
    have h3 : ms[j]? = none := List.getElem?_eq_none (by have := HN2.out; omega)
    rw [h1, h3]
    simp only [HN.out, HN2.out, if_pos e]
    exact ⟨trivial, trivial⟩
  clear hnn hn hTs
  go_enter Tryz.func5, Tryz.ntmps5
  go_wp2_with fail
  refine AW.out.mono ?_
  rintro e w1 ⟨rfl, hb⟩
  have B1 := Lib.hid hb
  have G1 := Lib.hid (G.out.below hb)
  clear hb AW G
  have hli : ¬ (2048 : Int) < (s.size : Int) := by omega
  go_wp2_with fail
  refine Calls.mono (R := ScanQ (.ok ts) _) (scan_any s _ _ G1.out (by omega) h) ?_
  rintro e w2 ⟨hb, v, rfl, hown⟩
  obtain ⟨A, c, rfl, hc, hT⟩ := tr_own hown
  have JN := Lib.hid (join_any A c ts w2 hT (by have := HN.out; omega) (by have := HJ.out; omega))
  rw [HN.out, ← ht.out] at JN
  rw [HN.out] at hc ⊢
  have B2 := Lib.hid (B1.out.trans (hb.mono B1.out.size))
  have G2 := Lib.hid (G1.out.below hb)
  have T2 := Lib.hid hT
  clear hb hown hT G1 B1
  go_wp2_with fail
  refine JN.out.mono ?_
  rintro e w3 ⟨rfl, hb⟩
  have B3 := Lib.hid (B2.out.trans (hb.mono B2.out.size))
  have G3 := Lib.hid (G2.out.below hb)
  have T3 := Lib.hid (T2.out.below hb)
  clear hb G2 B2 JN T2
  go_wp2_with fail
  refine Calls.mono (R := ScanQ (.ok ms) _) (scan_any t _ _ G3.out (by omega) h2) ?_
  rintro e w4 ⟨hb, v, rfl, hown⟩
  obtain ⟨A2, c2, rfl, hc2, hT⟩ := tr_own hown
  rw [HN2.out] at hc2 ⊢
  have B4 := Lib.hid (B3.out.trans (hb.mono B3.out.size))
  have G4 := Lib.hid (G3.out.below hb)
  have T4 := Lib.hid (T3.out.below hb)
  have S4 := Lib.hid hT
  clear hb hown hT G3 B3 T3
  go_wp2_with fail
  refine Calls.mono (R := ParseQ s.data.toList (.bad P er) _) (parse_full s _ _ G4.out (by omega) p1) ?_
  rintro e w5 ⟨hb, rfl⟩
  have BX := Lib.hid (b1 w5 (.cells #[.pointer none] 25))
  have B5 := Lib.hid (B4.out.trans ((hb.trans (BX.out.mono hb.size)).mono B4.out.size))
  have G5 := Lib.hid ((G4.out.below hb).below BX.out)
  have T5 := Lib.hid ((T4.out.below hb).below BX.out)
  have S5 := Lib.hid ((S4.out.below hb).below BX.out)
  have U5 := Lib.hid (PtrAt.new w5 none)
  clear hb G4 B4 BX T4 S4
  go_wp2_with fail
  refine Calls.mono (R := ParseQ t.data.toList (.bad Q er) _) (parse_full t _ _ G5.out (by omega) p2) ?_
  rintro e w6 ⟨hb, rfl⟩
  have BX := Lib.hid (b1 w6 (.cells #[.pointer none] 25))
  have B6 := Lib.hid (B5.out.trans ((hb.trans (BX.out.mono hb.size)).mono B5.out.size))
  have T6 := Lib.hid ((T5.out.below hb).below BX.out)
  have S6 := Lib.hid ((S5.out.below hb).below BX.out)
  have u0 := ((U5.out.below hb).below BX.out).c0
  have u1 := (PtrAt.new w6 none).c0
  clear hb G5 B5 BX U5 T5 S5
  go_wp2_with fail
  generalize w6.alloc (.cells #[.pointer none] 25) = w7 at *
  refine (alike_zero w7).mono ?_
  rintro e w8 ⟨rfl, hb⟩
  have B8 := Lib.hid (B6.out.trans (hb.mono B6.out.size))
  have T8 := Lib.hid (T6.out.below hb)
  have S8 := Lib.hid (S6.out.below hb)
  clear hb B6 u0 u1 T6 S6
  go_wp2_with fail
  go_loopw [16] (fun i wr => BkRel w8 j i wr) (fun i _ => j - (intOf i).toNat)
  case atStart => exact ⟨0, Nat.zero_le _, rfl, rfl⟩
  case round =>
    obtain ⟨k, hk, rfl, rfl⟩ := hrel
    by_cases hlt : k < n
    · have hki : (k : Int) < (n : Int) := by omega
      obtain ⟨ga, rfl, hga, hcs⟩ := T8.out (by have := HN.out; omega)
      obtain ⟨x, hx⟩ : ∃ x, ts[k]? = some x := ⟨_, List.getElem?_eq_getElem (by have := HN.out; omega)⟩
      obtain ⟨-, -, c0⟩ := hcs k x hx
      by_cases hkj : k < j
      · have hlp := HB.out k x hkj hx
        obtain ⟨xk, xt, xp⟩ := x
        have hpe : ((xp : Int) == (P : Int)) = false := by simp; simp at hlp; omega
        have hpe2 : ¬ (xp : Int) = (P : Int) := by simp at hlp; omega
        have hpe3 : ¬ xp = P := by simp at hlp; omega
        clear hx hcs hlp
        go_wp2_with fail
        go_roundw
        case rel => exact ⟨k + 1, by omega, by go_num, rfl⟩
        case measure => simp [intOf]; omega
      · have hkk : k = j := by omega
        subst hkk
        obtain ⟨gb, rfl, hgb, hcs2⟩ := S8.out (by have := HN2.out; omega)
        obtain ⟨y, hy⟩ : ∃ y, ms[k]? = some y := ⟨_, List.getElem?_eq_getElem (by have := HN2.out; omega)⟩
        obtain ⟨-, -, c1⟩ := hcs2 k y hy
        rw [HP1.out x hx] at c0
        rw [HQ1.out y hy] at c1
        clear hx hcs hcs2 hy
        go_wp2_with fail
        go_ret
        exact ⟨rfl, B8.out⟩
    · have hkk : k = n := by omega
      subst hkk
      have hjn : j = k := by omega
      obtain ⟨e1, e2⟩ := HPn.out hjn
      subst e1 e2
      have hki : ¬ (k : Int) < (k : Int) := by omega
      go_wp2_with fail
      go_ret
      exact ⟨rfl, B8.out⟩

theorem blanks_true (s : ByteArray) (w : World) (g : Good w) (pw : PowIn w) : Calls Tryz.prog 5 #[.string s] w fun e w' => e = .returned (.bool true) ∧ Below w.heap.size w w' := by
  by_cases hl : 2048 < s.size
  · exact blanks_long s w g pw hl
  · obtain ⟨r, hr⟩ : ∃ r, scanR s.data.toList = r := ⟨_, rfl⟩
    cases r with
    | bad p er => exact blanks_bad s p er w g pw (by omega) (Lib.hid hr)
    | ok ts =>
      obtain ⟨ms, h1, h2, h3, h4⟩ := blanks hr (by rw [len_size]; omega)
      obtain ⟨t, ht⟩ : ∃ t : ByteArray, t = ⟨(joinT (ts.map (·.text))).toArray⟩ := ⟨_, rfl⟩
      have htl : t.data.toList = joinT (ts.map (·.text)) := by rw [ht]
      have hts : t.size = (joinT (ts.map (·.text))).length := by rw [ht]; rfl
      rw [← htl] at h1 h3
      cases h3 with
      | ok ks p1 p2 => exact blanks_ok s t ts ms ks w g pw (by omega) (Lib.hid hr) (Lib.hid ht) (by omega) (Lib.hid h1) (Lib.hid h2) (Lib.hid p1) (Lib.hid p2)
      | bad j e hj p1 p2 =>
        rw [len_size] at p1 p2
        exact blanks_fail s t ts ms j e w g pw (by omega) (Lib.hid hr) (Lib.hid ht) (by omega) (Lib.hid h1) (Lib.hid h2) hj _ _ (Lib.hid rfl) (Lib.hid rfl) (Lib.hid p1) (Lib.hid p2)

end Go.Proofs.YtfbejfoalnhihaaGreatDoor
