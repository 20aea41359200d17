/-
  CONTRACTS: fieldOf, pair: a node over nodes that are there. Of what was there nothing has turned.
-/
import Derived.Test.YtkahbhfbgdbnfaaGreatDoorJ6
import Derived.Test.YtkahbhfbgdbnfaaGreatDoorJ11
namespace Go.Proofs.YtkahbhfbgdbnfaaGreatDoor
open Go.RowKit

theorem kids_lit1g {ok ok' : Nat → Prop} {pl : Nat → Nat} {w : World} {b : Nat} {t : Tree} (h : NodeAt ok pl w b t) (hok : ∀ y, ok y → y < w.heap.size → ok' y) (hw : ok' w.heap.size) : KidsIn ok' pl (w.alloc (.cells #[.pointer (some ⟨b, 0, none⟩)] 25)) (.slice (some ⟨w.heap.size, 0, none⟩) 1 1) 1 [t] := by
  refine ⟨[b], World.ownsRow_lit w #[.pointer (some ⟨b, 0, none⟩)] 1 (Nat.zero_le _) (by simp only [maxLen]; omega) rfl, rfl, rfl, ?_, ?_⟩
  · intro g hg; have h9 : w.heap.size = g := Option.some.inj hg; subst h9; exact hw
  · intro k x t' hx ht
    rcases k with _ | k
    · obtain rfl := Option.some.inj hx
      obtain rfl := Option.some.inj ht
      exact h.keep (Keeps.below (b1 w _)) fun y hy hl => ⟨hok y hy hl, fun e => by have h9 : w.heap.size = y := Option.some.inj e; omega⟩
    · simp at hx
theorem kids_lit2g {ok ok' : Nat → Prop} {pl : Nat → Nat} {w : World} {b c : Nat} {t u : Tree} (h : NodeAt ok pl w b t) (h' : NodeAt ok pl w c u) (hok : ∀ y, ok y → y < w.heap.size → ok' y) (hw : ok' w.heap.size) : KidsIn ok' pl (w.alloc (.cells #[.pointer (some ⟨b, 0, none⟩), .pointer (some ⟨c, 0, none⟩)] 25)) (.slice (some ⟨w.heap.size, 0, none⟩) 2 2) 2 [t, u] := by
  refine ⟨[b, c], World.ownsRow_lit w #[.pointer (some ⟨b, 0, none⟩), .pointer (some ⟨c, 0, none⟩)] 2 (Nat.zero_le _) (by simp only [maxLen]; omega) rfl, rfl, rfl, ?_, ?_⟩
  · intro g hg; have h9 : w.heap.size = g := Option.some.inj hg; subst h9; exact hw
  · intro k x t' hx ht
    rcases k with _ | k
    · obtain rfl := Option.some.inj hx
      obtain rfl := Option.some.inj ht
      exact h.keep (Keeps.below (b1 w _)) fun y hy hl => ⟨hok y hy hl, fun e => by have h9 : w.heap.size = y := Option.some.inj e; omega⟩
    · rcases k with _ | k
      · obtain rfl := Option.some.inj hx
        obtain rfl := Option.some.inj ht
        exact h'.keep (Keeps.below (b1 w _)) fun y hy hl => ⟨hok y hy hl, fun e => by have h9 : w.heap.size = y := Option.some.inj e; omega⟩
      · simp at hx

/-- A new node, over what was ok, and what is new. -/
def MadeQ (E : Env) (w : World) (ok : Nat → Prop) (t : Tree) (e : Ending) (w' : World) : Prop :=
  ∃ b, e = .returned (nodeV b) ∧ Below w.heap.size w w' ∧ NodeAt (fun y => ok y ∨ w.heap.size ≤ y) E.pl w' b t

theorem b3 (w : World) (o o' o'' : Obj) : Below w.heap.size w (((w.alloc o).alloc o').alloc o'') := (b2 w o o').trans ((b1 _ o'').mono (by simp; omega))

set_option maxRecDepth 100000 in
set_option maxHeartbeats 400000 in
theorem fieldOf_any (E : Env) (w : World) (ok : Nat → Prop) (b : Nat) (t : Tree) (p : Nat × List UInt8) (h : NodeAt ok E.pl w b t) (hp : Hid ((E.T p.1).text = p.2)) :
    Calls Tryz.prog 225 #[.agg #[.pointer (some ⟨b, 0, none⟩)], .agg #[.int .i64 (E.T p.1).kind, .string ⟨(E.T p.1).text.toArray⟩, .int .i64 (E.pl p.1)]] w (MadeQ E w ok (attach t (bare p))) := by
  have H := Lib.hid h
  have hb3 := b3 w (.cells #[.pointer (some ⟨b, 0, none⟩)] 25) (.cells #[.int .i64 (E.T p.1).kind, .string ⟨(E.T p.1).text.toArray⟩, .int .i64 (E.pl p.1)] 108) (.cells #[.pointer none] 25)
  have hsz : (((w.alloc (.cells #[.pointer (some ⟨b, 0, none⟩)] 25)).alloc (.cells #[.int .i64 (E.T p.1).kind, .string ⟨(E.T p.1).text.toArray⟩, .int .i64 (E.pl p.1)] 108)).alloc (.cells #[.pointer none] 25)).heap.size = w.heap.size + 3 := by simp
  have P0 := PtrAt.new ((w.alloc (.cells #[.pointer (some ⟨b, 0, none⟩)] 25)).alloc (.cells #[.int .i64 (E.T p.1).kind, .string ⟨(E.T p.1).text.toArray⟩, .int .i64 (E.pl p.1)] 108)) none
  rw [show ((w.alloc (.cells #[.pointer (some ⟨b, 0, none⟩)] 25)).alloc (.cells #[.int .i64 (E.T p.1).kind, .string ⟨(E.T p.1).text.toArray⟩, .int .i64 (E.pl p.1)] 108)).heap.size = w.heap.size + 2 by simp] at P0
  have K0 := kids_lit1g (ok := fun y => ok y ∧ y < w.heap.size) (ok' := fun y => (ok y ∨ w.heap.size ≤ y) ∧ y ≠ w.heap.size + 2) ((h.weak (ok' := fun y => ok y ∧ y < w.heap.size) (fun y hy hl => ⟨hy, hl⟩)).kept (Keeps.below hb3)) (fun y hy _ => ⟨.inl hy.1, by omega⟩) ⟨.inr (by rw [hsz]; omega), by rw [hsz]; omega⟩
  rw [hsz] at K0
  have P1 := P0.below (b1 _ (.cells #[.pointer (some ⟨b, 0, none⟩)] 25))
  have hb4 := hb3.trans ((b1 _ (.cells #[.pointer (some ⟨b, 0, none⟩)] 25)).mono (by rw [hsz]; omega))
  have HB4 := Lib.hid hb4
  have HP1 := Lib.hid P1
  have HK0 := Lib.hid K0
  clear h P0 K0 P1 hb3 hb4 hsz
  go_enter Tryz.func225, Tryz.ntmps225
  go_wp2_with fail
  generalize (((w.alloc (.cells #[.pointer (some ⟨b, 0, none⟩)] 25)).alloc (.cells #[.int .i64 (E.T p.1).kind, .string ⟨(E.T p.1).text.toArray⟩, .int .i64 (E.pl p.1)] 108)).alloc (.cells #[.pointer none] 25)).alloc (.cells #[.pointer (some ⟨b, 0, none⟩)] 25) = w2 at *
  refine (newNode_any _ _ _ _ _ _ _ _ _).mono ?_
  rintro e wz ⟨rfl, hb9, hrow⟩
  have P9 := HP1.out.below hb9
  have q0 := P9.c0
  have f0 := P9.f0
  have l2 := HP1.out.lt
  have HB9 := Lib.hid hb9
  have HROW := Lib.hid hrow
  clear hb9 hrow P9
  unfold nodeV
  go_wp2_with fail
  refine bodyPost_ret (v := nodeV w2.heap.size) (by unfold nodeV; simp [results, Tryz.results225, go_sem, q0]) rfl ?_
  have hrow := HROW.out
  rw [hp.out] at hrow
  refine ⟨_, rfl, (HB4.out.trans (HB9.out.mono HB4.out.size)).setCell (by show w.heap.size ≤ w.heap.size + 2; omega) _, ?_⟩
  exact (node_mk (op := 20) (ok' := fun y => (ok y ∨ w.heap.size ≤ y) ∧ y ≠ w.heap.size + 2) HK0.out HB9.out hrow ⟨.inr (by omega), by omega⟩ (fun _ h _ => h) (by omega)).keep (Keeps.set _ _ _ (fun h => h.2 rfl)) fun _ h _ => h.1

theorem attach_half (l : Tree) (t : AT) (i : Nat) (r : Tree) : attach l (half t i r) = if t.text = cOr then .mk 26 [] [] 0 i [l, r] else if t.text = cAnd then .mk 25 [] [] 0 i [l, r] else .mk 24 [] [] (findN t.text 1 16) i [l, r] := by
  unfold half
  split
  · rfl
  · split <;> rfl

end Go.Proofs.YtkahbhfbgdbnfaaGreatDoor

/-
  CONTRACT: postfix of the reader, where calls one step down are as they should be. Nobody but the reader's own block has turned.
-/
namespace Go.Proofs.YtkahbhfbgdbnfaaGreatDoor
open Go.RowKit

/-- A loop that lays fields over a node in the block vb. -/
def FRelP (E : Env) (n : Nat) (w : World) (vb d : Nat) (x : Tree) (rs : Res (List Tree)) (_ : Value) (wr : World) : Prop :=
  ∃ (m i nb : Nat) (ds : List Tree) (r : Res (List Tree)), m ≤ n ∧ vb < wr.heap.size ∧ Hid (P E.T m .fields d i = some r) ∧ Hid (rs = preR ds r) ∧ Hid (NodeAt (fun y => w.heap.size < y ∧ y ≠ vb) E.pl wr nb (ds.foldl (fun a b => attach a b) x)) ∧ Hid (ST E w wr i d) ∧ Hid (PtrAt wr w.heap.size none) ∧ Hid (PtrAt wr vb (some ⟨nb, 0, none⟩))
theorem PtrAt.set {w : World} {b : Nat} {x : Option Addr} (h : PtrAt w b x) (y : Option Addr) : PtrAt (w.setCell ⟨b, 0, none⟩ (.pointer y)) b y :=
  ⟨Nat.lt_of_lt_of_le h.lt (kb_set w ⟨b, 0, none⟩ (.pointer y)).size, World.cell?_setCell_same _ _ _ h.c0, (World.frozen?_setCell _ _ _ _).trans h.f0⟩
theorem fname_prog {T : Nat → AT} {z : Nat} {c : Callee} {i j : Nat} {p : Nat × List UInt8} (S : Sent T z) (h : runW T c fieldName i = some (.ok p j)) : i + 1 ≤ j ∧ j ≤ z := tot_prog (tot_fieldName S i) h

set_option maxRecDepth 100000 in
set_option maxHeartbeats 1000000 in
theorem postfix_any (E : Env) (w : World) (i d : Nat) (n : Nat) (ih : IH E n) (r : Res Tree) (h : RD E w i d) (hr : Hid (runW E.T (P E.T n) (postfix_ d) i = some r)) :
    Calls Tryz.prog 248 #[.pointer (some ⟨E.rb, 0, none⟩)] w (Q E w d (VN E w.heap.size) r) := by
  have H := Lib.hid h
  have hr1 := h.lt
  have hf0 := tok_kind
  have hf1 := tok_text
  have hf2 := tok_at
  have S0 := Lib.hid (ST.below (ST.refl h) (b1 w (.cells #[.pointer none] 25)))
  have P0 := Lib.hid (PtrAt.new w none)
  have l0 := P0.out.lt
  clear h
  go_enter Tryz.func248, Tryz.ntmps248
  go_wp2_with fail
  generalize w.alloc (.cells #[.pointer none] 25) = wa at *
  have hz := H.out.zle
  rcases bind_cases hr.out with ⟨j1, er, hx, hq⟩ | ⟨a1, j1, hx, hq⟩
  · exact (primary_any E _ i d n ih _ S0.out.1 hx).mono fun e w' h => by obtain ⟨rfl, hg⟩ := h; exact ⟨rfl, by rw [hq]; exact ⟨rfl, S0.out.2.trans hg⟩⟩
  refine (primary_any E _ i d n ih _ S0.out.1 hx).mono ?_
  rintro e w1 ⟨v1, rfl, ⟨nb1, hv, hn⟩, hst⟩
  obtain rfl := hv
  unfold nodeV
  have P0' := Lib.hid (P0.out.kept hst.2 (by omega))
  clear P0
  have P0 := P0'
  clear P0'
  have N1 := Lib.hid (hn.from (B := w.heap.size) (by omega))
  clear hn
  have S1 := Lib.hid (S0.out.trans hst)
  have z1 := hst.2.size
  clear hst
  have HR1 := Lib.hid hq
  clear hx hq
  have N0 := Lib.hid (N1.out.weak (ok' := fun y => w.heap.size < y ∧ y ≠ w1.heap.size) fun y hy hl => ⟨hy, by omega⟩)
  clear N1
  obtain ⟨rs, hrs, hbad, hok⟩ := call_some HR1.out
  have HRS := Lib.hid hrs
  have HBAD := Lib.hid hbad
  have HOK := Lib.hid hok
  clear hrs hbad hok
  have V := Lib.hid (PtrAt.new w1 (some ⟨nb1, 0, none⟩))
  have P0' := Lib.hid (P0.out.below (b1 w1 (.cells #[.pointer (some ⟨nb1, 0, none⟩)] 25)))
  clear P0
  have P0 := P0'
  clear P0'
  have N0' := Lib.hid (N0.out.bl (b1 w1 (.cells #[.pointer (some ⟨nb1, 0, none⟩)] 25)))
  clear N0
  have N0 := N0'
  clear N0'
  have S2 := Lib.hid (S1.out.below (b1 w1 (.cells #[.pointer (some ⟨nb1, 0, none⟩)] 25)))
  have z2 := (b1 w1 (.cells #[.pointer (some ⟨nb1, 0, none⟩)] 25)).size
  have y2 : w1.heap.size < (w1.alloc (.cells #[.pointer (some ⟨nb1, 0, none⟩)] 25)).heap.size := by simp
  go_wp2_with fail
  generalize w1.alloc (.cells #[.pointer (some ⟨nb1, 0, none⟩)] 25) = w2 at *
  go_loopw [7] (fun v wr => FRelP E n w w1.heap.size d a1 rs v wr) (fun _ wr => E.z - nx E wr)
  case atStart => exact ⟨n, j1, nb1, [], rs, Nat.le_refl _, by omega, HRS, Lib.hid (preR_nil rs).symm, N0, S2, P0, V⟩
  case round =>
    obtain ⟨m, iq, nb, ds, rq, hm, hB, HP, HE, N, S, P0, V⟩ := hrel
    obtain ⟨m, rfl, hp⟩ := P_pos HP.out
    have HR := Lib.hid hp
    clear hp HP
    have hiz := S.out.1.ile
    have hnx := S.out.1.at_nx
    have HNX := Lib.hid hnx
    clear hnx
    by_cases ht : (E.T iq).text = cDot
    · skip
      have h0 := peek_yes HR.out ht
      have HR3 := Lib.hid h0
      clear h0
      go_wp2_with fail
      refine (is_yes E _ iq d ⟨#[46]⟩ S.out.1 ht).mono ?_
      rintro e w4 ⟨rfl, hb⟩
      have P0' := Lib.hid (P0.out.below hb)
      clear P0
      have P0 := P0'
      clear P0'
      have V' := Lib.hid (V.out.below hb)
      clear V
      have V := V'
      clear V'
      have N' := Lib.hid (N.out.bl hb)
      clear N
      have N := N'
      clear N'
      have S4 := Lib.hid (S.out.below hb)
      have z4 := hb.size
      clear hb
      clear ht
      go_wp2_with fail
      have cv := V.out.c0
      have lV := V.out.lt
      have lP := P0.out.lt
      rcases bind_cases HR3.out with ⟨jz, er, hx, hq⟩ | ⟨az, jz, hx, hq⟩
      · have HX := Lib.hid hx
        have HQ := Lib.hid (HBAD.out jz er (by rw [HE.out, hq]; rfl))
        clear hx hq
        go_region_dies
        all_goals
          refine (fieldName_any E _ iq d _ _ (S4.out.1.below (Below.refl _ _).drew) HX).mono ?_
          rintro e w2 ⟨rfl, hg⟩
          exact ⟨rfl, by rw [HQ.out]; exact ⟨rfl, S4.out.2.trans ((kb_below (Below.refl _ _).drew).trans hg)⟩⟩
      have hpr := fname_prog S4.out.1.sent hx
      have HX := Lib.hid hx
      have HQQ := Lib.hid hq
      clear hx hq
      go_region_with (first | (go_at_call 224; refine (fieldName_any E _ iq d _ _ (S4.out.1.below (Below.refl _ _).drew) HX).mono ?_; rintro e w8 ⟨v8, rfl, ⟨hv8, htx⟩, hst⟩; obtain rfl := hv8; unfold tokV; have HTX := Lib.hid htx; have cv' := (far hst.2 lV (by omega) 0).trans cv; have HST := Lib.hid hst; clear hst htx) | (go_at_call 225; refine (fieldOf_any E _ (fun y => w.heap.size < y ∧ y ≠ w1.heap.size) nb _ az ((N.out.kept (Keeps.below (Below.refl _ _).drew)).kept (Keeps.grown HST.out.2 (fun y e hy => by have h9 : E.rb = y := Option.some.inj e; omega))) HTX).mono ?_; rintro e w9 ⟨nb9, rfl, hb9, hn9⟩; unfold nodeV; have V9 := Lib.hid (((V.out.below (Below.refl _ _).drew).kept HST.out.2 (by omega)).below hb9); have cv'' := V9.out.c0; have fv := V9.out.f0; have P9 := Lib.hid (((P0.out.below (Below.refl _ _).drew).kept HST.out.2 (by omega)).below hb9); have HB9 := Lib.hid hb9; have HN9 := Lib.hid hn9; clear hb9 hn9))
      all_goals
        have hz8 : w4.heap.size ≤ w8.heap.size := HST.out.2.size
        have hbb := HB9.out
        have NN := HN9.out.keep (ok' := fun y => w.heap.size < y ∧ y ≠ w1.heap.size) (Keeps.below (Below.refl _ _)) (fun y hy _ => by rcases hy with hy | hy <;> omega)
        have N9 := Lib.hid (NN.kept (Keeps.set _ ⟨w1.heap.size, 0, none⟩ (.pointer (some ⟨nb9, 0, none⟩)) (fun h => h.2 rfl)))
        clear NN
        have S9 := Lib.hid (ST.set H.out ((((S4.out.below (Below.refl _ _).drew).trans HST.out)).below HB9.out) w1.heap.size 0 (by omega) (.pointer (some ⟨nb9, 0, none⟩)))
        have VV := Lib.hid (V9.out.set (some ⟨nb9, 0, none⟩))
        have PP := Lib.hid (P9.out.kept (kb_set _ ⟨w1.heap.size, 0, none⟩ (.pointer (some ⟨nb9, 0, none⟩))) (by show w.heap.size ≠ w1.heap.size; omega))
        have hnx2 := S9.out.1.at_nx
        have HNX2 := Lib.hid hnx2
        clear hnx2
        have z9 := VV.out.lt
        rcases call_cases HQQ.out with ⟨jy, er, hy, hq2⟩ | ⟨ay, jy, hy, hq2⟩
        · have HP : Hid (P E.T m .fields d jz = some (.bad jy er)) := hy
          have HE2 : Hid (rs = preR (ds ++ [bare az]) (.bad jy er)) := by show _ = _; rw [HE.out, hq2]; rfl
          clear hy hq2
          go_wp2_with fail
          go_roundw
          case rel => exact ⟨m, jz, nb9, _, _, by omega, z9, HP, HE2, by show NodeAt _ _ _ _ _; rw [List.foldl_append]; exact N9.out, S9, PP, VV⟩
          case measure => rw [HNX.out, HNX2.out]; omega
        · have HP : Hid (P E.T m .fields d jz = some (.ok ay jy)) := hy
          have HE2 : Hid (rs = preR (ds ++ [bare az]) (.ok ay jy)) := by show _ = _; rw [HE.out, run_ret hq2]; simp [preR]
          clear hy hq2
          go_wp2_with fail
          go_roundw
          case rel => exact ⟨m, jz, nb9, _, _, by omega, z9, HP, HE2, by show NodeAt _ _ _ _ _; rw [List.foldl_append]; exact N9.out, S9, PP, VV⟩
          case measure => rw [HNX.out, HNX2.out]; omega
    · skip
      have HR5 := Lib.hid (peek_no HR.out ht)
      go_wp2_with fail
      refine (is_no E _ iq d ⟨#[46]⟩ S.out.1 ht).mono ?_
      rintro e w6 ⟨rfl, hb⟩
      have P0' := Lib.hid (P0.out.below hb)
      clear P0
      have P0 := P0'
      clear P0'
      have V' := Lib.hid (V.out.below hb)
      clear V
      have V := V'
      clear V'
      have N' := Lib.hid (N.out.bl hb)
      clear N
      have N := N'
      clear N'
      have S6 := Lib.hid (S.out.below hb)
      have z6 := hb.size
      clear hb
      clear ht
      have HQ : Hid (r = .ok (ds.foldl (fun a b => attach a b) a1) iq) := run_ret (HOK.out _ _ (by rw [HE.out, run_ret HR5.out]; simp [preR]))
      have V0 := V.out.c0
      have q0 := P0.out.c0
      have f0 := P0.out.f0
      go_wp2_with fail
      refine bodyPost_ret (v := nodeV nb) (by unfold nodeV; simp [results, Tryz.results248, go_sem, q0]) rfl ?_
      rw [HQ.out]
      exact pass_done H.out S6.out (N.out.weak (ok' := fun y => w.heap.size < y) fun y hy _ => hy.1) (Nat.le_refl _) _

end Go.Proofs.YtkahbhfbgdbnfaaGreatDoor

/-
  CONTRACT: unary of the reader, where calls one step down are as they should be. Nobody but the reader's own block has turned.
-/
namespace Go.Proofs.YtkahbhfbgdbnfaaGreatDoor
open Go.RowKit

set_option maxRecDepth 100000 in
set_option maxHeartbeats 1000000 in
theorem unary_any (E : Env) (w : World) (i d : Nat) (n : Nat) (ih : IH E n) (r : Res Tree) (h : RD E w i d) (hr : Hid (runW E.T (P E.T n) (unary d) i = some r)) :
    Calls Tryz.prog 236 #[.pointer (some ⟨E.rb, 0, none⟩)] w (Q E w d (VN E w.heap.size) r) := by
  have H := Lib.hid h
  have hr1 := h.lt
  have hf0 := tok_kind
  have hf1 := tok_text
  have hf2 := tok_at
  have S0 := Lib.hid (ST.below (ST.refl h) (b1 w (.cells #[.pointer none] 25)))
  have P0 := Lib.hid (PtrAt.new w none)
  have l0 := P0.out.lt
  clear h
  go_enter Tryz.func236, Tryz.ntmps236
  go_wp2_with fail
  generalize w.alloc (.cells #[.pointer none] 25) = wa at *
  have htl := H.out.text i
  refine (peek_any E _ i d S0.out.1).mono ?_
  rintro e w1 ⟨rfl, hb⟩
  have P0' := Lib.hid (P0.out.below hb)
  clear P0
  have P0 := P0'
  clear P0'
  have S1 := Lib.hid (S0.out.below hb)
  have z1 := hb.size
  clear hb
  unfold tokV
  have T := Lib.hid (TokAt.new w1 (E.T i).kind ⟨(E.T i).text.toArray⟩ (E.pl i))
  have P0' := Lib.hid (P0.out.below (b1 w1 (.cells #[.int .i64 (E.T i).kind, .string ⟨(E.T i).text.toArray⟩, .int .i64 (E.pl i)] 108)))
  clear P0
  have P0 := P0'
  clear P0'
  have S2 := Lib.hid (S1.out.below (b1 w1 (.cells #[.int .i64 (E.T i).kind, .string ⟨(E.T i).text.toArray⟩, .int .i64 (E.pl i)] 108)))
  have z2 := (b1 w1 (.cells #[.int .i64 (E.T i).kind, .string ⟨(E.T i).text.toArray⟩, .int .i64 (E.pl i)] 108)).size
  have y2 : w1.heap.size < (w1.alloc (.cells #[.int .i64 (E.T i).kind, .string ⟨(E.T i).text.toArray⟩, .int .i64 (E.pl i)] 108)).heap.size := by simp
  have T1 := T.out.c1
  go_wp2_with fail
  generalize w1.alloc (.cells #[.int .i64 (E.T i).kind, .string ⟨(E.T i).text.toArray⟩, .int .i64 (E.pl i)] 108) = w2 at *
  obtain ⟨op, hop⟩ : ∃ op, findN (E.T i).text 17 2 = op := ⟨_, rfl⟩
  have hs1 : signedV ⟨(E.T i).text.toArray⟩ 1 = op := by simp [signedV, hop]
  have HOP := Lib.hid hop
  have HS1 := Lib.hid hs1
  clear hop hs1 T1
  refine (signed_any _ _ _ S2.out.1.good.signs).mono ?_
  rintro e w9 ⟨rfl, rfl⟩
  rw [HS1.out]
  have HR0 := Lib.hid (run_peek hr.out)
  by_cases ht : op = 0
  · skip
    have HR1 := Lib.hid (ite_yes HR0.out (HOP.out.trans ht))
    have b0 : (op != 0) = false := by rw [ht]; rfl
    rw [b0]
    clear b0 ht
    go_wp2_with fail
    rcases last_cases HR1.out with ⟨j3, er, hx, hq⟩ | ⟨a3, j3, hx, hq⟩
    · exact (postfix_any E _ i d n ih _ S2.out.1 hx).mono fun e w' h => by obtain ⟨rfl, hg⟩ := h; exact ⟨rfl, by rw [hq]; exact ⟨rfl, S2.out.2.trans hg⟩⟩
    refine (postfix_any E _ i d n ih _ S2.out.1 hx).mono ?_
    rintro e w3 ⟨v3, rfl, ⟨nb3, hv, hn⟩, hst⟩
    obtain rfl := hv
    unfold nodeV
    have P0' := Lib.hid (P0.out.kept hst.2 (by omega))
    clear P0
    have P0 := P0'
    clear P0'
    have T' := Lib.hid (T.out.kept hst.2 (by omega))
    clear T
    have T := T'
    clear T'
    have N3 := Lib.hid (hn.from (B := w.heap.size) (by omega))
    clear hn
    have S3 := Lib.hid (S2.out.trans hst)
    have z3 := hst.2.size
    clear hst
    have HQ := Lib.hid hq
    clear hx hq
    have q0 := P0.out.c0
    have f0 := P0.out.f0
    go_wp2_with fail
    refine bodyPost_ret (v := nodeV nb3) (by unfold nodeV; simp [results, Tryz.results236, go_sem, q0]) rfl ?_
    rw [HQ.out]
    exact pass_done H.out S3.out N3.out (by omega) _
  · skip
    have HR1 := Lib.hid (ite_no HR0.out (fun e => ht (HOP.out.symm.trans e)))
    have b0 : (op != 0) = true := by simpa using ht
    rw [b0]
    have hne : (E.T i).text ≠ [] := find_some (k := 17) (n := 2) (by omega) (by omega) (fun e => ht (HOP.out.symm.trans e))
    have HNE := Lib.hid hne
    clear b0 ht hne
    have T0 := T.out.c0
    have T1 := T.out.c1
    have T2 := T.out.c2
    go_wp2_with fail
    rcases bind_cases HR1.out with ⟨j4, er, hx, hq⟩ | ⟨a4, j4, hx, hq⟩
    · exact (enter_any E _ i d ⟨(E.T i).text.toArray⟩ (P E.T n) _ S2.out.1 HNE hx).mono fun e w' h => by obtain ⟨rfl, hg⟩ := h; exact ⟨rfl, by rw [hq]; exact ⟨rfl, S2.out.2.trans hg⟩⟩
    refine (enter_any E _ i d ⟨(E.T i).text.toArray⟩ (P E.T n) _ S2.out.1 HNE hx).mono ?_
    rintro e w4 ⟨v4, rfl, -, hst⟩
    have P0' := Lib.hid (P0.out.kept hst.2 (by omega))
    clear P0
    have P0 := P0'
    clear P0'
    have T' := Lib.hid (T.out.kept hst.2 (by omega))
    clear T
    have T := T'
    clear T'
    have S4 := Lib.hid (S2.out.trans hst)
    have z4 := hst.2.size
    clear hst
    have HR4 := Lib.hid hq
    clear hx hq
    clear T0 T1 T2
    go_wp2_with fail
    rcases bind_cases HR4.out with ⟨j5, er, hx0, hq⟩ | ⟨a5, j5, hx0, hq⟩
    · rcases call_cases hx0 with ⟨j8, er8, hx, hq8⟩ | ⟨a8, j8, hx, hq8⟩
      · cases hq8; exact (ih.unary _ j4 (d + 1) _ S4.out.1 hx).mono fun e w' h => by obtain ⟨rfl, hg⟩ := h; exact ⟨rfl, by rw [hq]; exact ⟨rfl, S4.out.2.trans hg⟩⟩
      · exact absurd (run_ret hq8) (by simp)
    rcases call_cases hx0 with ⟨j8, er8, hx, hq8⟩ | ⟨a8, j8, hx, hq8⟩
    · exact absurd hq8 (by simp)
    have e9 := run_ret hq8
    injection e9 with e1 e2
    subst e1
    subst e2
    have HR5 := Lib.hid hq
    clear hq hx0 hq8
    refine (ih.unary _ j4 (d + 1) _ S4.out.1 hx).mono ?_
    rintro e w5 ⟨v5, rfl, ⟨nb5, hv, hn⟩, hst⟩
    obtain rfl := hv
    unfold nodeV
    have P0' := Lib.hid (P0.out.kept hst.2 (by omega))
    clear P0
    have P0 := P0'
    clear P0'
    have T' := Lib.hid (T.out.kept hst.2 (by omega))
    clear T
    have T := T'
    clear T'
    have N5 := Lib.hid (hn.from (B := w.heap.size) (by omega))
    clear hn
    have S5 := Lib.hid (S4.out.trans hst)
    have z5 := hst.2.size
    clear hst
    clear hx
    have V := Lib.hid (PtrAt.new w5 (some ⟨nb5, 0, none⟩))
    have P0' := Lib.hid (P0.out.below (b1 w5 (.cells #[.pointer (some ⟨nb5, 0, none⟩)] 25)))
    clear P0
    have P0 := P0'
    clear P0'
    have T' := Lib.hid (T.out.below (b1 w5 (.cells #[.pointer (some ⟨nb5, 0, none⟩)] 25)))
    clear T
    have T := T'
    clear T'
    have N5' := Lib.hid (N5.out.bl (b1 w5 (.cells #[.pointer (some ⟨nb5, 0, none⟩)] 25)))
    clear N5
    have N5 := N5'
    clear N5'
    have S6 := Lib.hid (S5.out.below (b1 w5 (.cells #[.pointer (some ⟨nb5, 0, none⟩)] 25)))
    have z6 := (b1 w5 (.cells #[.pointer (some ⟨nb5, 0, none⟩)] 25)).size
    have y6 : w5.heap.size < (w5.alloc (.cells #[.pointer (some ⟨nb5, 0, none⟩)] 25)).heap.size := by simp
    go_wp2_with fail
    generalize w5.alloc (.cells #[.pointer (some ⟨nb5, 0, none⟩)] 25) = w6 at *
    refine (leave_any E _ j5 d S6.out.1).mono ?_
    rintro e w7 ⟨rfl, hst⟩
    have P0' := Lib.hid (P0.out.kept hst.2 (by omega))
    clear P0
    have P0 := P0'
    clear P0'
    have T' := Lib.hid (T.out.kept hst.2 (by omega))
    clear T
    have T := T'
    clear T'
    have N5' := Lib.hid (N5.out.st hst.2 (by omega))
    clear N5
    have N5 := N5'
    clear N5'
    have V' := Lib.hid (V.out.kept hst.2 (by omega))
    clear V
    have V := V'
    clear V'
    have S7 := Lib.hid (S6.out.trans hst)
    have z7 := hst.2.size
    clear hst
    have HQ : Hid (r = .ok (.mk 23 [] [] op i [hd a8]) j5) := by show _ = _; rw [run_ret HR5.out, HOP.out]
    have V0 := V.out.c0
    have T2 := T.out.c2
    have K := Lib.hid (kids_lit1 N5.out (by omega))
    have P0' := Lib.hid (P0.out.below (b1 w7 (.cells #[.pointer (some ⟨nb5, 0, none⟩)] 25)))
    clear P0
    have P0 := P0'
    clear P0'
    have T' := Lib.hid (T.out.below (b1 w7 (.cells #[.pointer (some ⟨nb5, 0, none⟩)] 25)))
    clear T
    have T := T'
    clear T'
    have N5' := Lib.hid (N5.out.bl (b1 w7 (.cells #[.pointer (some ⟨nb5, 0, none⟩)] 25)))
    clear N5
    have N5 := N5'
    clear N5'
    have V' := Lib.hid (V.out.below (b1 w7 (.cells #[.pointer (some ⟨nb5, 0, none⟩)] 25)))
    clear V
    have V := V'
    clear V'
    have S8 := Lib.hid (S7.out.below (b1 w7 (.cells #[.pointer (some ⟨nb5, 0, none⟩)] 25)))
    have z8 := (b1 w7 (.cells #[.pointer (some ⟨nb5, 0, none⟩)] 25)).size
    have y8 : w7.heap.size < (w7.alloc (.cells #[.pointer (some ⟨nb5, 0, none⟩)] 25)).heap.size := by simp
    go_wp2_with fail
    generalize w7.alloc (.cells #[.pointer (some ⟨nb5, 0, none⟩)] 25) = w8 at *
    refine (newNode_any _ _ _ _ _ _ _ _ _).mono ?_
    rintro e wz ⟨rfl, hb9, hrow⟩
    have P9 := P0.out.below hb9
    have q0 := P9.c0
    have f0 := P9.f0
    have HB9 := Lib.hid hb9
    have HROW := Lib.hid hrow
    clear hb9 hrow P9
    unfold nodeV
    go_wp2_with fail
    refine bodyPost_ret (v := nodeV w8.heap.size) (by unfold nodeV; simp [results, Tryz.results236, go_sem, q0]) rfl ?_
    rw [HQ.out]
    have hrow := HROW.out
    exact node_done H.out S8.out K.out (by omega) HB9.out hrow (by omega) (by omega) _

end Go.Proofs.YtkahbhfbgdbnfaaGreatDoor

/-
  CONTRACT: pair: a node over two that are there. Of what was there nothing has turned.
-/
namespace Go.Proofs.YtkahbhfbgdbnfaaGreatDoor
open Go.RowKit

def pA (w : World) (k : Int) (s : ByteArray) (p : Int) (bl br : Nat) : World := (((w.alloc (.cells #[.int .i64 k, .string s, .int .i64 p] 108)).alloc (.cells #[.pointer (some ⟨bl, 0, none⟩)] 25)).alloc (.cells #[.pointer (some ⟨br, 0, none⟩)] 25)).alloc (.cells #[.pointer none] 25)
def pB (w : World) (k : Int) (s : ByteArray) (p : Int) (bl br : Nat) : World := (pA w k s p bl br).alloc (.cells #[.pointer (some ⟨bl, 0, none⟩), .pointer (some ⟨br, 0, none⟩)] 25)
def pC (w : World) (k : Int) (s : ByteArray) (p : Int) (bl br : Nat) (op n : Int) : World := (pB w k s p bl br).alloc (.cells #[.int .i64 op, .string ⟨#[]⟩, .string ⟨#[]⟩, .int .i64 n, .int .i64 p, .slice (some ⟨w.heap.size + 4, 0, none⟩) 2 2] 82)
theorem pA_size (w : World) (k : Int) (s : ByteArray) (p : Int) (bl br : Nat) : (pA w k s p bl br).heap.size = w.heap.size + 4 := by simp [pA]
theorem pA_below (w : World) (k : Int) (s : ByteArray) (p : Int) (bl br : Nat) : Below w.heap.size w (pA w k s p bl br) := (b3 w _ _ _).trans ((b1 _ _).mono (by simp; omega))
theorem pB_below (w : World) (k : Int) (s : ByteArray) (p : Int) (bl br : Nat) : Below w.heap.size w (pB w k s p bl br) := (pA_below w k s p bl br).trans ((b1 _ _).mono (by rw [pA_size]; omega))
theorem pC_below (w : World) (k : Int) (s : ByteArray) (p : Int) (bl br : Nat) (op n : Int) : Below w.heap.size w (pC w k s p bl br op n) := (pB_below w k s p bl br).trans ((b1 _ _).mono (pB_below w k s p bl br).size)
theorem pA_ptr (w : World) (k : Int) (s : ByteArray) (p : Int) (bl br : Nat) : PtrAt (pA w k s p bl br) (w.heap.size + 3) none := by
  have := PtrAt.new (((w.alloc (.cells #[.int .i64 k, .string s, .int .i64 p] 108)).alloc (.cells #[.pointer (some ⟨bl, 0, none⟩)] 25)).alloc (.cells #[.pointer (some ⟨br, 0, none⟩)] 25)) none
  rw [show (((w.alloc (.cells #[.int .i64 k, .string s, .int .i64 p] 108)).alloc (.cells #[.pointer (some ⟨bl, 0, none⟩)] 25)).alloc (.cells #[.pointer (some ⟨br, 0, none⟩)] 25)).heap.size = w.heap.size + 3 by simp] at this
  exact this
theorem pC_ptr (w : World) (k : Int) (s : ByteArray) (p : Int) (bl br : Nat) (op n : Int) : PtrAt (pC w k s p bl br op n) (w.heap.size + 3) none := ((pA_ptr w k s p bl br).below (b1 _ _)).below (b1 _ _)
theorem pC_kids {ok : Nat → Prop} {pl : Nat → Nat} {w : World} {bl br : Nat} {l r : Tree} (hl : NodeAt ok pl w bl l) (hr : NodeAt ok pl w br r) (k : Int) (s : ByteArray) (p : Int) (op n : Int) : KidsIn (fun y => (ok y ∨ w.heap.size ≤ y) ∧ y ≠ w.heap.size + 3) pl (pC w k s p bl br op n) (.slice (some ⟨w.heap.size + 4, 0, none⟩) 2 2) 2 [l, r] := by
  have K0 := kids_lit2g (ok := fun y => ok y ∧ y < w.heap.size) (ok' := fun y => (ok y ∨ w.heap.size ≤ y) ∧ y ≠ w.heap.size + 3) ((hl.weak (ok' := fun y => ok y ∧ y < w.heap.size) (fun y hy hl => ⟨hy, hl⟩)).kept (Keeps.below (pA_below w k s p bl br))) ((hr.weak (ok' := fun y => ok y ∧ y < w.heap.size) (fun y hy hl => ⟨hy, hl⟩)).kept (Keeps.below (pA_below w k s p bl br))) (fun y hy _ => ⟨.inl hy.1, by omega⟩) ⟨.inr (by rw [pA_size]; omega), by rw [pA_size]; omega⟩
  rw [pA_size] at K0
  exact K0.bl (b1 _ _)

/-- The walk's end, whatever the op. -/
theorem pair_end {E : Env} {w w2 wz : World} {ok : Nat → Prop} {l r : Tree} {i : Nat} {op : Nat} {n : Int} (hb : Below w.heap.size w w2) (hk : KidsIn (fun y => (ok y ∨ w.heap.size ≤ y) ∧ y ≠ w.heap.size + 3) E.pl w2 (.slice (some ⟨w.heap.size + 4, 0, none⟩) 2 2) 2 [l, r]) (hl : w.heap.size + 3 < w2.heap.size) (hb9 : Below w2.heap.size w2 wz) (hrow : RowAt wz w2.heap.size op ⟨#[]⟩ ⟨#[]⟩ n (E.pl i) (.slice (some ⟨w.heap.size + 4, 0, none⟩) 2 2)) (u : Value) :
    MadeQ E w ok (.mk op [] [] n i [l, r]) (.returned (nodeV w2.heap.size)) (wz.setCell ⟨w.heap.size + 3, 0, none⟩ u) := by
  refine ⟨_, rfl, (hb.trans (hb9.mono hb.size)).setCell (by show w.heap.size ≤ w.heap.size + 3; omega) _, ?_⟩
  exact (node_mk (name := []) (typ := []) (ok' := fun y => (ok y ∨ w.heap.size ≤ y) ∧ y ≠ w.heap.size + 3) hk hb9 hrow ⟨.inr (by omega), by omega⟩ (fun _ h _ => h) (by omega)).keep (Keeps.set _ _ _ (fun h => h.2 rfl)) fun _ h _ => h.1

set_option maxRecDepth 100000 in
set_option maxHeartbeats 800000 in
theorem pair_any (E : Env) (w : World) (ok : Nat → Prop) (i bl br : Nat) (l r : Tree) (hl : NodeAt ok E.pl w bl l) (hr : NodeAt ok E.pl w br r) (G : Good w) :
    Calls Tryz.prog 238 #[.agg #[.int .i64 (E.T i).kind, .string ⟨(E.T i).text.toArray⟩, .int .i64 (E.pl i)], .agg #[.pointer (some ⟨bl, 0, none⟩)], .agg #[.pointer (some ⟨br, 0, none⟩)]] w (MadeQ E w ok (attach l (half (E.T i) i r))) := by
  rw [attach_half]
  obtain ⟨kd, hkd⟩ : ∃ kd : Int, ((E.T i).kind : Int) = kd := ⟨_, rfl⟩
  rw [hkd]
  clear hkd
  by_cases h1 : (E.T i).text = cOr
  · rw [if_pos h1, h1]
    have HB := Lib.hid (pC_below w kd ⟨cOr.toArray⟩ (E.pl i) bl br 26 0)
    have HP := Lib.hid (pC_ptr w kd ⟨cOr.toArray⟩ (E.pl i) bl br 26 0)
    have HK := Lib.hid (pC_kids hl hr kd ⟨cOr.toArray⟩ (E.pl i) 26 0)
    clear hl hr h1
    unfold pC pB pA at HB HP HK
    go_enter Tryz.func238, Tryz.ntmps238
    go_wp2_with fail
    generalize (((((w.alloc (.cells #[.int .i64 kd, .string ⟨#[124, 124]⟩, .int .i64 (E.pl i)] 108)).alloc (.cells #[.pointer (some ⟨bl, 0, none⟩)] 25)).alloc (.cells #[.pointer (some ⟨br, 0, none⟩)] 25)).alloc (.cells #[.pointer none] 25)).alloc (.cells #[.pointer (some ⟨bl, 0, none⟩), .pointer (some ⟨br, 0, none⟩)] 25)).alloc (.cells #[.int .i64 26, .string ⟨#[]⟩, .string ⟨#[]⟩, .int .i64 0, .int .i64 (E.pl i), .slice (some ⟨w.heap.size + 4, 0, none⟩) 2 2] 82) = w2 at *
    refine (newNode_any _ _ _ _ _ _ _ _ _).mono ?_
    rintro e wz ⟨rfl, hb9, hrow⟩
    have P9 := HP.out.below hb9
    have q0 := P9.c0
    have f0 := P9.f0
    have HB9 := Lib.hid hb9
    have HROW := Lib.hid hrow
    clear hb9 hrow P9
    unfold nodeV
    go_wp2_with fail
    refine bodyPost_ret (v := nodeV w2.heap.size) (by unfold nodeV; simp [results, Tryz.results238, go_sem, q0]) rfl ?_
    exact pair_end HB.out HK.out HP.out.lt HB9.out HROW.out _
  · rw [if_neg h1]
    by_cases h2 : (E.T i).text = cAnd
    · rw [if_pos h2, h2]
      have HB := Lib.hid (pC_below w kd ⟨cAnd.toArray⟩ (E.pl i) bl br 25 0)
      have HP := Lib.hid (pC_ptr w kd ⟨cAnd.toArray⟩ (E.pl i) bl br 25 0)
      have HK := Lib.hid (pC_kids hl hr kd ⟨cAnd.toArray⟩ (E.pl i) 25 0)
      clear hl hr h1 h2
      unfold pC pB pA at HB HP HK
      go_enter Tryz.func238, Tryz.ntmps238
      go_wp2_with fail
      generalize (((((w.alloc (.cells #[.int .i64 kd, .string ⟨#[38, 38]⟩, .int .i64 (E.pl i)] 108)).alloc (.cells #[.pointer (some ⟨bl, 0, none⟩)] 25)).alloc (.cells #[.pointer (some ⟨br, 0, none⟩)] 25)).alloc (.cells #[.pointer none] 25)).alloc (.cells #[.pointer (some ⟨bl, 0, none⟩), .pointer (some ⟨br, 0, none⟩)] 25)).alloc (.cells #[.int .i64 25, .string ⟨#[]⟩, .string ⟨#[]⟩, .int .i64 0, .int .i64 (E.pl i), .slice (some ⟨w.heap.size + 4, 0, none⟩) 2 2] 82) = w2 at *
      refine (newNode_any _ _ _ _ _ _ _ _ _).mono ?_
      rintro e wz ⟨rfl, hb9, hrow⟩
      have P9 := HP.out.below hb9
      have q0 := P9.c0
      have f0 := P9.f0
      have HB9 := Lib.hid hb9
      have HROW := Lib.hid hrow
      clear hb9 hrow P9
      unfold nodeV
      go_wp2_with fail
      refine bodyPost_ret (v := nodeV w2.heap.size) (by unfold nodeV; simp [results, Tryz.results238, go_sem, q0]) rfl ?_
      exact pair_end HB.out HK.out HP.out.lt HB9.out HROW.out _
    · rw [if_neg h2]
      obtain ⟨op, hop⟩ : ∃ op, findN (E.T i).text 1 16 = op := ⟨_, rfl⟩
      rw [hop]
      have hs2 : signedV ⟨(E.T i).text.toArray⟩ 2 = op := by simp [signedV, hop]
      have n1 : ((E.T i).text == [124, 124]) = false := by simpa using h1
      have n2 : ((E.T i).text == [38, 38]) = false := by simpa using h2
      have HS := Lib.hid (signed_any ⟨(E.T i).text.toArray⟩ 2 _ (G.below (pC_below w kd ⟨(E.T i).text.toArray⟩ (E.pl i) bl br 24 0)).signs)
      have H2 := Lib.hid hs2
      have HB := Lib.hid (pC_below w kd ⟨(E.T i).text.toArray⟩ (E.pl i) bl br 24 op)
      have HP := Lib.hid (pC_ptr w kd ⟨(E.T i).text.toArray⟩ (E.pl i) bl br 24 op)
      have HK := Lib.hid (pC_kids hl hr kd ⟨(E.T i).text.toArray⟩ (E.pl i) 24 op)
      clear hl hr h1 h2 hop hs2 G
      unfold pC pB pA at HB HP HK HS
      go_enter Tryz.func238, Tryz.ntmps238
      go_wp2_with fail
      refine HS.out.mono ?_
      rintro e w1 ⟨rfl, rfl⟩
      rw [H2.out]
      clear HS H2
      go_wp2_with fail
      generalize (((((w.alloc (.cells #[.int .i64 kd, .string ⟨(E.T i).text.toArray⟩, .int .i64 (E.pl i)] 108)).alloc (.cells #[.pointer (some ⟨bl, 0, none⟩)] 25)).alloc (.cells #[.pointer (some ⟨br, 0, none⟩)] 25)).alloc (.cells #[.pointer none] 25)).alloc (.cells #[.pointer (some ⟨bl, 0, none⟩), .pointer (some ⟨br, 0, none⟩)] 25)).alloc (.cells #[.int .i64 24, .string ⟨#[]⟩, .string ⟨#[]⟩, .int .i64 op, .int .i64 (E.pl i), .slice (some ⟨w.heap.size + 4, 0, none⟩) 2 2] 82) = w2 at *
      refine (newNode_any _ _ _ _ _ _ _ _ _).mono ?_
      rintro e wz ⟨rfl, hb9, hrow⟩
      have P9 := HP.out.below hb9
      have q0 := P9.c0
      have f0 := P9.f0
      have HB9 := Lib.hid hb9
      have HROW := Lib.hid hrow
      clear hb9 hrow P9
      unfold nodeV
      go_wp2_with fail
      refine bodyPost_ret (v := nodeV w2.heap.size) (by unfold nodeV; simp [results, Tryz.results238, go_sem, q0]) rfl ?_
      exact pair_end HB.out HK.out HP.out.lt HB9.out HROW.out _

end Go.Proofs.YtkahbhfbgdbnfaaGreatDoor
