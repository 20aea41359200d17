/-
  CONTRACT: binary of the reader, where calls one step down are as they should be. Nobody but the reader's own block has turned.
-/
import Derived.Test.YtkahbhfbgdbnfaaGreatDoorJ12
namespace Go.Proofs.YtkahbhfbgdbnfaaGreatDoor
open Go.RowKit

/-- A loop that gathers what binds at least so tightly, over a node in the block vb. -/
def BRelP (E : Env) (n : Nat) (w : World) (vb l d : Nat) (x : Tree) (rs : Res (List Tree)) (_ : Value) (wr : World) : Prop :=
  ∃ (m i nb : Nat) (ds : List Tree) (r : Res (List Tree)), m ≤ n ∧ vb < wr.heap.size ∧ Hid (P E.T m (.tail l) d i = some r) ∧ Hid (rs = preR ds r) ∧ Hid (NodeAt (fun y => w.heap.size < y ∧ y ≠ vb) E.pl wr nb (ds.foldl (fun a b => attach a b) x)) ∧ Hid (ST E w wr i d) ∧ Hid (PtrAt wr w.heap.size none) ∧ Hid (PtrAt wr vb (some ⟨nb, 0, none⟩))
theorem lvl_le (t : List UInt8) : lvl t ≤ 5 := by
  unfold lvl
  split
  · omega
  · split
    · omega
    · have := levelV_nn (findN t 1 16); omega

set_option maxRecDepth 100000 in
set_option maxHeartbeats 2000000 in
theorem binary_any (E : Env) (w : World) (i d : Nat) (n : Nat) (ih : IH E n) (l : Nat) (hl1 : 1 ≤ l) (hl6 : l ≤ 6) (r : Res Tree) (h : RD E w i d) (hr : Hid (runW E.T (P E.T n) (binary l d) i = some r)) :
    Calls Tryz.prog 218 #[.pointer (some ⟨E.rb, 0, none⟩), .int .i64 l] w (Q E w d (VN E w.heap.size) r) := by
  have H := Lib.hid h
  have hr1 := h.lt
  have hf0 := tok_kind
  have hf1 := tok_text
  have hf2 := tok_at
  have S0 := Lib.hid (ST.below (ST.refl h) (b1 w (.cells #[.pointer none] 25)))
  have P0 := Lib.hid (PtrAt.new w none)
  have l0 := P0.out.lt
  clear h
  go_enter Tryz.func218, Tryz.ntmps218
  go_wp2_with fail
  generalize w.alloc (.cells #[.pointer none] 25) = wa at *
  have hz := H.out.zle
  rcases call_cases hr.out with ⟨j1, er, hx, hq⟩ | ⟨a1, j1, hx, hq⟩
  · exact (ih.unary _ i d _ S0.out.1 hx).mono fun e w' h => by obtain ⟨rfl, hg⟩ := h; exact ⟨rfl, by rw [hq]; exact ⟨rfl, S0.out.2.trans hg⟩⟩
  refine (ih.unary _ i d _ S0.out.1 hx).mono ?_
  rintro e w1 ⟨v1, rfl, ⟨nb1, hv, hn⟩, hst⟩
  obtain rfl := hv
  unfold nodeV
  have P0' := Lib.hid (P0.out.kept hst.2 (by omega))
  clear P0
  have P0 := P0'
  clear P0'
  have N1 := Lib.hid (hn.from (B := w.heap.size) (by omega))
  clear hn
  have S1 := Lib.hid (S0.out.trans hst)
  have z1 := hst.2.size
  clear hst
  have HR1 := Lib.hid hq
  clear hx hq
  have N0 := Lib.hid (N1.out.weak (ok' := fun y => w.heap.size < y ∧ y ≠ w1.heap.size) fun y hy hl => ⟨hy, by omega⟩)
  clear N1
  obtain ⟨rs, hrs, hbad, hok⟩ := call_some HR1.out
  have HRS := Lib.hid hrs
  have HBAD := Lib.hid hbad
  have HOK := Lib.hid hok
  clear hrs hbad hok
  have V := Lib.hid (PtrAt.new w1 (some ⟨nb1, 0, none⟩))
  have P0' := Lib.hid (P0.out.below (b1 w1 (.cells #[.pointer (some ⟨nb1, 0, none⟩)] 25)))
  clear P0
  have P0 := P0'
  clear P0'
  have N0' := Lib.hid (N0.out.bl (b1 w1 (.cells #[.pointer (some ⟨nb1, 0, none⟩)] 25)))
  clear N0
  have N0 := N0'
  clear N0'
  have S2 := Lib.hid (S1.out.below (b1 w1 (.cells #[.pointer (some ⟨nb1, 0, none⟩)] 25)))
  have z2 := (b1 w1 (.cells #[.pointer (some ⟨nb1, 0, none⟩)] 25)).size
  have y2 : w1.heap.size < (w1.alloc (.cells #[.pointer (some ⟨nb1, 0, none⟩)] 25)).heap.size := by simp
  go_wp2_with fail
  generalize w1.alloc (.cells #[.pointer (some ⟨nb1, 0, none⟩)] 25) = w2 at *
  go_loopw [7] (fun v wr => BRelP E n w w1.heap.size l d (hd a1) rs v wr) (fun _ wr => E.z - nx E wr)
  case atStart => exact ⟨n, j1, nb1, [], rs, Nat.le_refl _, by omega, HRS, Lib.hid (preR_nil rs).symm, N0, S2, P0, V⟩
  case round =>
    obtain ⟨m, iq, nb, ds, rq, hm, hB, HP, HE, N, S, P0, V⟩ := hrel
    obtain ⟨m, rfl, hp⟩ := P_pos HP.out
    have HR := Lib.hid (run_peek hp)
    clear hp HP
    have hiz := S.out.1.ile
    have hnx := S.out.1.at_nx
    have HNX := Lib.hid hnx
    clear hnx
    go_wp2_with fail
    refine (peek_any E _ iq d S.out.1).mono ?_
    rintro e w3 ⟨rfl, hb⟩
    have P0' := Lib.hid (P0.out.below hb)
    clear P0
    have P0 := P0'
    clear P0'
    have V' := Lib.hid (V.out.below hb)
    clear V
    have V := V'
    clear V'
    have N' := Lib.hid (N.out.bl hb)
    clear N
    have N := N'
    clear N'
    have S3 := Lib.hid (S.out.below hb)
    have z3 := hb.size
    clear hb
    unfold tokV
    have T := Lib.hid (TokAt.new w3 (E.T iq).kind ⟨(E.T iq).text.toArray⟩ (E.pl iq))
    have P0' := Lib.hid (P0.out.below (b1 w3 (.cells #[.int .i64 (E.T iq).kind, .string ⟨(E.T iq).text.toArray⟩, .int .i64 (E.pl iq)] 108)))
    clear P0
    have P0 := P0'
    clear P0'
    have V' := Lib.hid (V.out.below (b1 w3 (.cells #[.int .i64 (E.T iq).kind, .string ⟨(E.T iq).text.toArray⟩, .int .i64 (E.pl iq)] 108)))
    clear V
    have V := V'
    clear V'
    have N' := Lib.hid (N.out.bl (b1 w3 (.cells #[.int .i64 (E.T iq).kind, .string ⟨(E.T iq).text.toArray⟩, .int .i64 (E.pl iq)] 108)))
    clear N
    have N := N'
    clear N'
    have S4 := Lib.hid (S3.out.below (b1 w3 (.cells #[.int .i64 (E.T iq).kind, .string ⟨(E.T iq).text.toArray⟩, .int .i64 (E.pl iq)] 108)))
    have z4 := (b1 w3 (.cells #[.int .i64 (E.T iq).kind, .string ⟨(E.T iq).text.toArray⟩, .int .i64 (E.pl iq)] 108)).size
    have y4 : w3.heap.size < (w3.alloc (.cells #[.int .i64 (E.T iq).kind, .string ⟨(E.T iq).text.toArray⟩, .int .i64 (E.pl iq)] 108)).heap.size := by simp
    have T1 := T.out.c1
    go_wp2_with fail
    generalize w3.alloc (.cells #[.int .i64 (E.T iq).kind, .string ⟨(E.T iq).text.toArray⟩, .int .i64 (E.pl iq)] 108) = w4 at *
    obtain ⟨own, hown⟩ : ∃ own, lvl (E.T iq).text = own := ⟨_, rfl⟩
    have ho5 : own ≤ 5 := by rw [← hown]; exact lvl_le _
    have HOWN := Lib.hid hown
    clear T1
    refine (levelOf_any _ _ S4.out.1.good.signs).mono ?_
    rintro e w9 ⟨rfl, rfl⟩
    rw [show lvl (⟨(E.T iq).text.toArray⟩ : ByteArray).data.toList = own from hown]
    clear hown
    by_cases ht : own < l
    · skip
      have HQ : Hid (r = .ok (ds.foldl (fun a b => attach a b) (hd a1)) iq) := run_ret (HOK.out _ _ (by rw [HE.out, run_ret (ite_yes HR.out (by rw [HOWN.out]; exact ht))]; simp [preR]))
      have hti : (own : Int) < (l : Int) := by omega
      have V0 := V.out.c0
      have q0 := P0.out.c0
      have f0 := P0.out.f0
      go_wp2_with fail
      refine bodyPost_ret (v := nodeV nb) (by unfold nodeV; simp [results, Tryz.results218, go_sem, q0]) rfl ?_
      rw [HQ.out]
      exact pass_done H.out S4.out (N.out.weak (ok' := fun y => w.heap.size < y) fun y hy _ => hy.1) (Nat.le_refl _) _
    · skip
      have HR2 := Lib.hid (run_next (ite_no HR.out (by rw [HOWN.out]; exact ht)))
      rw [HOWN.out] at HR2
      have hlt := lt_text H.out.sent (lvl_some (l := (E.T iq).text) (by rw [HOWN.out]; omega)) rfl
      have hti : ¬ (own : Int) < (l : Int) := by omega
      have r1 := S4.out.1.c1
      have r2 := S4.out.1.fr 1
      go_wp2_with fail
      have S3 := Lib.hid (S4.out.setI (iq + 1) (by omega))
      have P0' := Lib.hid (P0.out.kept (kb_set w4 ⟨E.rb, 1, none⟩ (.int .i64 (iq + 1 : Nat))) (by show _ ≠ E.rb; omega))
      clear P0
      have P0 := P0'
      clear P0'
      have V' := Lib.hid (V.out.kept (kb_set w4 ⟨E.rb, 1, none⟩ (.int .i64 (iq + 1 : Nat))) (by show _ ≠ E.rb; omega))
      clear V
      have V := V'
      clear V'
      have N' := Lib.hid (N.out.kept (Keeps.set w4 ⟨E.rb, 1, none⟩ (.int .i64 (iq + 1 : Nat)) (fun h => by have h8 := h.1; have h9 : w.heap.size < E.rb := h8; omega)))
      clear N
      have N := N'
      clear N'
      have T' := Lib.hid (T.out.kept (kb_set w4 ⟨E.rb, 1, none⟩ (.int .i64 (iq + 1 : Nat))) (by show _ ≠ E.rb; omega))
      clear T
      have T := T'
      clear T'
      have z3 := (kb_set w4 ⟨E.rb, 1, none⟩ (.int .i64 (iq + 1 : Nat))).size
      have hcast : ((iq + 1 : Nat) : Int) = (iq : Int) + 1 := by omega
      simp only [hcast] at S3 P0 V N T z3
      clear hcast r1 r2
      generalize w4.setCell ⟨E.rb, 1, none⟩ (.int .i64 ((iq : Int) + 1)) = w3 at *
      have cv := V.out.c0
      have lV := V.out.lt
      have lP := P0.out.lt
      have lT := T.out.lt
      have t0 := T.out.c0
      have t1 := T.out.c1
      have t2 := T.out.c2
      have hwr : IntKind.i64.wrap ((own : Int) + 1) = (own : Int) + 1 := IntWalk.i64_in _ (by omega)
      have HBIN : Hid (∀ (w' : World) (rr : Res (List Tree)), RD E w' (iq + 1) d → P E.T n (.binary (own + 1)) d (iq + 1) = some rr → Calls Tryz.prog 218 #[.pointer (some ⟨E.rb, 0, none⟩), .int .i64 ((own : Int) + 1)] w' (Q E w' d (VH E w'.heap.size) rr)) := by
        intro w' rr hrd hp
        rw [show ((own : Int) + 1) = ((own + 1 : Nat) : Int) by omega]
        exact ih.binary w' (iq + 1) d (own + 1) rr (by omega) (by omega) hrd hp
      rcases call_cases HR2.out with ⟨jz, er, hx, hq⟩ | ⟨az, jz, hx, hq⟩
      · have HX := Lib.hid (P_mono E.T (show m ≤ n by omega) _ _ _ _ hx)
        have HQ := Lib.hid (HBAD.out jz er (by rw [HE.out, hq]; rfl))
        clear hx hq
        go_region_dies
        all_goals
          refine (HBIN.out _ _ (S3.out.1.below (Below.refl _ _).drew) HX.out).mono ?_
          rintro e w2 ⟨rfl, hg⟩
          exact ⟨rfl, by rw [HQ.out]; exact ⟨rfl, S3.out.2.trans ((kb_below (Below.refl _ _).drew).trans hg)⟩⟩
      have hpr := P_prog S3.out.1.sent (nt := .binary (own + 1)) (show 1 ≤ own + 1 by omega) S3.out.1.ile hx
      simp only [minc] at hpr
      have HX := Lib.hid (P_mono E.T (show m ≤ n by omega) _ _ _ _ hx)
      have HQQ := Lib.hid hq
      clear hx hq
      go_region_with (first | (go_at_call 218; refine (HBIN.out _ _ (S3.out.1.below (Below.refl _ _).drew) HX.out).mono ?_; rintro e w8 ⟨v8, rfl, ⟨nb8, hv8, hn8⟩, hst⟩; obtain rfl := hv8; unfold nodeV; have cv' := (far hst.2 lV (by omega) 0).trans cv; have t0' := (far hst.2 lT (by omega) 0).trans t0; have t1' := (far hst.2 lT (by omega) 1).trans t1; have t2' := (far hst.2 lT (by omega) 2).trans t2; have HN8 := Lib.hid (hn8.weak (ok' := fun y => w.heap.size < y ∧ y ≠ w1.heap.size) (fun y hy _ => ⟨by have h9 : w3.heap.size ≤ y := hy; omega, by have h9 : w3.heap.size ≤ y := hy; omega⟩)); have HST := Lib.hid hst; clear hst hn8) | (go_at_call 238; refine (pair_any E _ (fun y => w.heap.size < y ∧ y ≠ w1.heap.size) iq nb nb8 _ _ ((N.out.kept (Keeps.below (Below.refl _ _).drew)).kept (Keeps.grown HST.out.2 (fun y e hy => by have h9 : E.rb = y := Option.some.inj e; omega))) HN8.out HST.out.1.good).mono ?_; rintro e w9 ⟨nb9, rfl, hb9, hn9⟩; unfold nodeV; have V9 := Lib.hid (((V.out.below (Below.refl _ _).drew).kept HST.out.2 (by omega)).below hb9); have cv'' := V9.out.c0; have fv := V9.out.f0; have P9 := Lib.hid (((P0.out.below (Below.refl _ _).drew).kept HST.out.2 (by omega)).below hb9); have HB9 := Lib.hid hb9; have HN9 := Lib.hid hn9; clear hb9 hn9))
      all_goals
        clear hwr
        have hz8 : w3.heap.size ≤ w8.heap.size := HST.out.2.size
        have NN := HN9.out.keep (ok' := fun y => w.heap.size < y ∧ y ≠ w1.heap.size) (Keeps.below (Below.refl _ _)) (fun y hy _ => by rcases hy with hy | hy <;> omega)
        have N9 := Lib.hid (NN.kept (Keeps.set _ ⟨w1.heap.size, 0, none⟩ (.pointer (some ⟨nb9, 0, none⟩)) (fun h => h.2 rfl)))
        clear NN
        have S9 := Lib.hid (ST.set H.out ((((S3.out.below (Below.refl _ _).drew).trans HST.out)).below HB9.out) w1.heap.size 0 (by omega) (.pointer (some ⟨nb9, 0, none⟩)))
        have VV := Lib.hid (V9.out.set (some ⟨nb9, 0, none⟩))
        have PP := Lib.hid (P9.out.kept (kb_set _ ⟨w1.heap.size, 0, none⟩ (.pointer (some ⟨nb9, 0, none⟩))) (by show w.heap.size ≠ w1.heap.size; omega))
        have hnx2 := S9.out.1.at_nx
        have HNX2 := Lib.hid hnx2
        clear hnx2
        have z9 := VV.out.lt
        rcases call_cases HQQ.out with ⟨jy, er, hy, hq2⟩ | ⟨ay, jy, hy, hq2⟩
        · have HP : Hid (P E.T m (.tail l) d jz = some (.bad jy er)) := hy
          have HE2 : Hid (rs = preR (ds ++ [half (E.T iq) iq (hd az)]) (.bad jy er)) := by show _ = _; rw [HE.out, hq2]; rfl
          clear hy hq2
          go_wp2_with fail
          go_roundw
          case rel => exact ⟨m, jz, nb9, _, _, by omega, z9, HP, HE2, by show NodeAt _ _ _ _ _; rw [List.foldl_append]; exact N9.out, S9, PP, VV⟩
          case measure => rw [HNX.out, HNX2.out]; omega
        · have HP : Hid (P E.T m (.tail l) d jz = some (.ok ay jy)) := hy
          have HE2 : Hid (rs = preR (ds ++ [half (E.T iq) iq (hd az)]) (.ok ay jy)) := by show _ = _; rw [HE.out, run_ret hq2]; simp [preR]
          clear hy hq2
          go_wp2_with fail
          go_roundw
          case rel => exact ⟨m, jz, nb9, _, _, by omega, z9, HP, HE2, by show NodeAt _ _ _ _ _; rw [List.foldl_append]; exact N9.out, S9, PP, VV⟩
          case measure => rw [HNX.out, HNX2.out]; omega

end Go.Proofs.YtkahbhfbgdbnfaaGreatDoor

/-
  CONTRACT: setting of the reader, where calls one step down are as they should be. Nobody but the reader's own block has turned.
-/
namespace Go.Proofs.YtkahbhfbgdbnfaaGreatDoor
open Go.RowKit

theorem node_done2 {E : Env} {w w2 w3 : World} {i0 d0 i d n op pos lo q : Nat} {name typ : List UInt8} {num : Int} {v : Value} {ts : List Tree} {ok : Nat → Prop} (H : RD E w i0 d0) (hst : ST E w w2 i d) (hk : KidsIn ok E.pl w2 v n ts) (hb : Below w2.heap.size w2 w3) (hrow : RowAt w3 w2.heap.size op ⟨name.toArray⟩ ⟨typ.toArray⟩ num (E.pl pos) v) (hq : w.heap.size ≤ q) (hqo : ¬ ok q) (hqn : q < w2.heap.size) (hlo : ∀ x, ok x → lo ≤ x) (hlw : lo ≤ w2.heap.size) (hn : n ≤ 6000) (u : Value) :
    Q E w d (VN E lo) (.ok (.mk op name typ num pos ts) i) (.returned (nodeV w2.heap.size)) (w3.setCell ⟨q, 0, none⟩ u) :=
  ⟨_, rfl, ⟨_, rfl, (node_mk (ok' := fun x => ok x ∨ x = w2.heap.size) hk hb hrow (.inr rfl) (fun _ h _ => .inl h) hn).keep (Keeps.set _ _ _ (fun h => h.elim hqo (fun e => by have h9 : q = w2.heap.size := e; omega))) fun x h _ => h.elim (hlo x) (fun e => by rw [e]; exact hlw)⟩, ST.set H (hst.below hb) _ _ hq _⟩
theorem RowOf.kept {w w' : World} {b rb : Nat} {op : Int} {name typ : ByteArray} {n p : Int} {A : Option Addr} {m c : Nat} (h : RowOf w (some ⟨b, 0, none⟩) op name typ n p A m c) (hg : w.grownBy w' (some rb)) (hne : b ≠ rb) : RowOf w' (some ⟨b, 0, none⟩) op name typ n p A m c := by
  rcases h with ⟨b', h1, h2⟩ | h
  · have e : b = b' := congrArg Addr.block (Option.some.inj h1)
    subst e
    exact .inl ⟨b, rfl, ⟨Nat.lt_of_lt_of_le h2.lt hg.size, (far hg h2.lt hne _).trans h2.h0, (far hg h2.lt hne _).trans h2.h1, (far hg h2.lt hne _).trans h2.h2, (far hg h2.lt hne _).trans h2.h3, (far hg h2.lt hne _).trans h2.h4, (far hg h2.lt hne _).trans h2.h5⟩⟩
  · cases h.1

set_option maxRecDepth 100000 in
set_option maxHeartbeats 2000000 in
theorem setting_any (E : Env) (w : World) (i d : Nat) (n : Nat) (ih : IH E n) (op vb : Nat) (hT : Tree) (r : Res Tree) (h : RD E w i d) (hn : NodeAt (fun x => E.rb < x) E.pl w vb hT) (hr : Hid (runW E.T (P E.T n) (setting op hT d) i = some r)) :
    Calls Tryz.prog 201 #[.pointer (some ⟨E.rb, 0, none⟩), .int .i64 op, .agg #[.pointer (some ⟨vb, 0, none⟩)]] w (Q E w d (VN E w.heap.size) r) := by
  have H := Lib.hid h
  have hr1 := h.lt
  obtain ⟨A0, c0, hro⟩ := hn.rowOf
  have hvb := hn.lt.2
  have hvl := hn.lt.1
  have S0 := Lib.hid (ST.below (ST.refl h) (b2 w (.cells #[.pointer (some ⟨vb, 0, none⟩)] 25) (.cells #[.pointer none] 25)))
  have R0 := Lib.hid (hro.below (b2 w (.cells #[.pointer (some ⟨vb, 0, none⟩)] 25) (.cells #[.pointer none] 25)))
  have U := Lib.hid ((PtrAt.new w (some ⟨vb, 0, none⟩)).below (b1 _ (.cells #[.pointer none] 25)))
  have P0 := PtrAt.new (w.alloc (.cells #[.pointer (some ⟨vb, 0, none⟩)] 25)) none
  rw [show (w.alloc (.cells #[.pointer (some ⟨vb, 0, none⟩)] 25)).heap.size = w.heap.size + 1 by simp] at P0
  have P0' := Lib.hid P0
  clear P0
  have P0 := P0'
  clear P0'
  have l0 := P0.out.lt
  clear h hn hro
  go_enter Tryz.func201, Tryz.ntmps201
  go_wp2_with fail
  generalize (w.alloc (.cells #[.pointer (some ⟨vb, 0, none⟩)] 25)).alloc (.cells #[.pointer none] 25) = wa at *
  rcases bind_cases hr.out with ⟨j1, er, hx, hq⟩ | ⟨a1, j1, hx, hq⟩
  · exact (expr_any E _ i d n ih _ S0.out.1 hx).mono fun e w' h => by obtain ⟨rfl, hg⟩ := h; exact ⟨rfl, by rw [hq]; exact ⟨rfl, S0.out.2.trans hg⟩⟩
  refine (expr_any E _ i d n ih _ S0.out.1 hx).mono ?_
  rintro e w1 ⟨v1, rfl, ⟨nb1, hv, hn⟩, hst⟩
  obtain rfl := hv
  unfold nodeV
  have U' := Lib.hid (U.out.kept hst.2 (by omega))
  clear U
  have U := U'
  clear U'
  have P0' := Lib.hid (P0.out.kept hst.2 (by omega))
  clear P0
  have P0 := P0'
  clear P0'
  have R0' := Lib.hid (R0.out.kept hst.2 (by omega))
  clear R0
  have R0 := R0'
  clear R0'
  have N1 := Lib.hid (hn.from (B := (w.heap.size + 1)) (by omega))
  clear hn
  have S1 := Lib.hid (S0.out.trans hst)
  have z1 := hst.2.size
  clear hst
  have HR1 := Lib.hid hq
  clear hx hq
  have V := Lib.hid (PtrAt.new w1 (some ⟨nb1, 0, none⟩))
  have U' := Lib.hid (U.out.below (b1 w1 (.cells #[.pointer (some ⟨nb1, 0, none⟩)] 25)))
  clear U
  have U := U'
  clear U'
  have P0' := Lib.hid (P0.out.below (b1 w1 (.cells #[.pointer (some ⟨nb1, 0, none⟩)] 25)))
  clear P0
  have P0 := P0'
  clear P0'
  have N1' := Lib.hid (N1.out.bl (b1 w1 (.cells #[.pointer (some ⟨nb1, 0, none⟩)] 25)))
  clear N1
  have N1 := N1'
  clear N1'
  have R0' := Lib.hid (R0.out.below (b1 w1 (.cells #[.pointer (some ⟨nb1, 0, none⟩)] 25)))
  clear R0
  have R0 := R0'
  clear R0'
  have S2 := Lib.hid (S1.out.below (b1 w1 (.cells #[.pointer (some ⟨nb1, 0, none⟩)] 25)))
  have z2 := (b1 w1 (.cells #[.pointer (some ⟨nb1, 0, none⟩)] 25)).size
  have y2 : w1.heap.size < (w1.alloc (.cells #[.pointer (some ⟨nb1, 0, none⟩)] 25)).heap.size := by simp
  go_wp2_with fail
  generalize w1.alloc (.cells #[.pointer (some ⟨nb1, 0, none⟩)] 25) = w2 at *
  rcases bind_cases HR1.out with ⟨j3, er, hx, hq⟩ | ⟨a3, j3, hx, hq⟩
  · exact (need_any E _ j1 d ⟨#[59]⟩ (P E.T n) _ S2.out.1 (Lib.hid (by decide)) hx).mono fun e w' h => by obtain ⟨rfl, hg⟩ := h; exact ⟨rfl, by rw [hq]; exact ⟨rfl, S2.out.2.trans hg⟩⟩
  refine (need_any E _ j1 d ⟨#[59]⟩ (P E.T n) _ S2.out.1 (Lib.hid (by decide)) hx).mono ?_
  rintro e w3 ⟨v3, rfl, -, hst⟩
  have U' := Lib.hid (U.out.kept hst.2 (by omega))
  clear U
  have U := U'
  clear U'
  have P0' := Lib.hid (P0.out.kept hst.2 (by omega))
  clear P0
  have P0 := P0'
  clear P0'
  have N1' := Lib.hid (N1.out.st hst.2 (by omega))
  clear N1
  have N1 := N1'
  clear N1'
  have V' := Lib.hid (V.out.kept hst.2 (by omega))
  clear V
  have V := V'
  clear V'
  have R0' := Lib.hid (R0.out.kept hst.2 (by omega))
  clear R0
  have R0 := R0'
  clear R0'
  have S3 := Lib.hid (S2.out.trans hst)
  have z3 := hst.2.size
  clear hst
  have HR3 := Lib.hid hq
  clear hx hq
  have HQ : Hid (r = .ok (.mk op hT.name [] 0 hT.pos [a1]) j3) := (Option.some.inj HR3.out).symm
  go_wp2_with fail
  have cu := U.out.c0
  have cv := V.out.c0
  have lu := U.out.lt
  have lv := V.out.lt
  have lp := P0.out.lt
  have D0 : Hid (Below w3.heap.size w3 w3.drew) := (Below.refl _ _).drew
  go_region_held3 (fun w' => w3.grownBy w' (some (w.heap.size + 1)) ∧ w'.cell? ⟨w.heap.size, 0, none⟩ = some (.pointer (some ⟨vb, 0, none⟩)) ∧ w'.cell? ⟨w1.heap.size, 0, none⟩ = some (.pointer (some ⟨nb1, 0, none⟩))) (first | exact ⟨kb_below D0.out, cu, cv⟩ | exact HK35.out | exact HK24.out | exact HK42.out | (obtain ⟨g1, g2, g3⟩ := ‹w3.grownBy _ (some (w.heap.size + 1)) ∧ _ ∧ _›; have h8 := kb_then g1 (kb_below (b := w.heap.size + 1) (b1 _ (.cells #[.pointer (some ⟨nb1, 0, none⟩)] 25))) (fun j e => .inr e); have h7 := (World.cell?_alloc_lt _ (.cells #[.pointer (some ⟨nb1, 0, none⟩)] 25) ⟨w.heap.size, 0, none⟩ (Nat.lt_of_lt_of_le lu g1.size)).trans g2; have h6 := (World.cell?_alloc_lt _ (.cells #[.pointer (some ⟨nb1, 0, none⟩)] 25) ⟨w1.heap.size, 0, none⟩ (Nat.lt_of_lt_of_le lv g1.size)).trans g3; exact ⟨h8, h7, h6⟩) | (refine ⟨HK42.out.1.trans (kb_set _ ⟨w.heap.size + 1, 0, none⟩ _), ?_, ?_⟩ <;> (rw [World.cell?_setCell_other _ _ _ _ (fun h => by injection h with h1; omega)]; first | exact HK42.out.2.1 | exact HK42.out.2.2))) (first | (go_at_call 42; have h0 := ‹w3.grownBy _ (some (w.heap.size + 1)) ∧ _ ∧ _›; refine (name_of _ _ _ _ _ _ _ _ _ _ (R0.out.kept h0.1 (by omega))).mono ?_; rintro e w35 ⟨rfl, hb35⟩; have HK35 : Hid (w3.grownBy w35 (some (w.heap.size + 1)) ∧ w35.cell? ⟨w.heap.size, 0, none⟩ = some (.pointer (some ⟨vb, 0, none⟩)) ∧ w35.cell? ⟨w1.heap.size, 0, none⟩ = some (.pointer (some ⟨nb1, 0, none⟩))) := ⟨kb_then h0.1 (kb_below (b := w.heap.size + 1) hb35) (fun j e => .inr e), (hb35.cell (p := ⟨w.heap.size, 0, none⟩) (Nat.lt_of_lt_of_le lu h0.1.size)).trans h0.2.1, (hb35.cell (p := ⟨w1.heap.size, 0, none⟩) (Nat.lt_of_lt_of_le lv h0.1.size)).trans h0.2.2⟩; have HB35 := Lib.hid hb35; clear h0 hb35) | (go_at_call 31; have h0 := ‹w3.grownBy _ (some (w.heap.size + 1)) ∧ _ ∧ _›; refine (at_of _ _ _ _ _ _ _ _ _ _ (R0.out.kept h0.1 (by omega))).mono ?_; rintro e w24 ⟨rfl, hb24⟩; have HK24 : Hid (w3.grownBy w24 (some (w.heap.size + 1)) ∧ w24.cell? ⟨w.heap.size, 0, none⟩ = some (.pointer (some ⟨vb, 0, none⟩)) ∧ w24.cell? ⟨w1.heap.size, 0, none⟩ = some (.pointer (some ⟨nb1, 0, none⟩))) := ⟨kb_then h0.1 (kb_below (b := w.heap.size + 1) hb24) (fun j e => .inr e), (hb24.cell (p := ⟨w.heap.size, 0, none⟩) (Nat.lt_of_lt_of_le lu h0.1.size)).trans h0.2.1, (hb24.cell (p := ⟨w1.heap.size, 0, none⟩) (Nat.lt_of_lt_of_le lv h0.1.size)).trans h0.2.2⟩; have HB24 := Lib.hid hb24; clear h0 hb24) | (go_at_call 55; have h0 := ‹w3.grownBy _ (some (w.heap.size + 1)) ∧ _ ∧ _›; refine Calls.mono (R := NewQ _ _ _ _ _ _ _) (newNode_any _ _ _ _ _ _ _ _ _) ?_; rintro e w42 ⟨rfl, hb42, hrow⟩; have HK42 : Hid (w3.grownBy w42 (some (w.heap.size + 1)) ∧ w42.cell? ⟨w.heap.size, 0, none⟩ = some (.pointer (some ⟨vb, 0, none⟩)) ∧ w42.cell? ⟨w1.heap.size, 0, none⟩ = some (.pointer (some ⟨nb1, 0, none⟩))) := ⟨kb_then h0.1 (kb_below (b := w.heap.size + 1) hb42) (fun j e => .inr e), (hb42.cell (p := ⟨w.heap.size, 0, none⟩) (Nat.lt_of_lt_of_le lu h0.1.size)).trans h0.2.1, (hb42.cell (p := ⟨w1.heap.size, 0, none⟩) (Nat.lt_of_lt_of_le lv h0.1.size)).trans h0.2.2⟩; have HB42 := Lib.hid hb42; have HROW := Lib.hid hrow; have P9 : PtrAt w42 (w.heap.size + 1) none := (PtrAt.below (by first | exact ((((P0.out.below D0.out).below HB35.out).below HB24.out).below (b1 _ _)) | exact ((((P0.out.below D0.out).below HB35.out).below (b1 _ _)).below HB24.out) | exact ((((P0.out.below D0.out).below HB24.out).below HB35.out).below (b1 _ _)) | exact ((((P0.out.below D0.out).below HB24.out).below (b1 _ _)).below HB35.out) | exact ((((P0.out.below D0.out).below (b1 _ _)).below HB35.out).below HB24.out) | exact ((((P0.out.below D0.out).below (b1 _ _)).below HB24.out).below HB35.out)) hb42); have q0 := P9.c0; have f0 := P9.f0; have hz0 := h0.1.size; clear h0 hb42 hrow P9; unfold nodeV))
  all_goals
    have hbz := HB42.out.size
    go_wp2_with fail
    refine bodyPost_ret (v := nodeV _) (by unfold nodeV; simp only [results, Tryz.results201, go_sem]; simp [go_sem, q0]; rfl) rfl ?_
    rw [HQ.out]
    first | exact node_done2 (lo := w.heap.size) (q := w.heap.size + 1) H.out (by first | exact ((((S3.out.below D0.out).below HB35.out).below HB24.out).below (b1 _ _)) | exact ((((S3.out.below D0.out).below HB35.out).below (b1 _ _)).below HB24.out) | exact ((((S3.out.below D0.out).below HB24.out).below HB35.out).below (b1 _ _)) | exact ((((S3.out.below D0.out).below HB24.out).below (b1 _ _)).below HB35.out) | exact ((((S3.out.below D0.out).below (b1 _ _)).below HB35.out).below HB24.out) | exact ((((S3.out.below D0.out).below (b1 _ _)).below HB24.out).below HB35.out)) (ok := fun x => w.heap.size + 1 < x) (by first | exact (kids_lit1 (((N1.out.bl D0.out).bl HB35.out).bl HB24.out) (by first | omega | (have h9 := HB35.out.size; have h8 := HB24.out.size; simp at h9 h8; omega) | (have h9 := HB35.out.size; simp at h9; omega) | (have h9 := HB24.out.size; simp at h9; omega) | (simp; omega))) | exact ((kids_lit1 ((N1.out.bl D0.out).bl HB35.out) (by first | omega | (have h9 := HB35.out.size; have h8 := HB24.out.size; simp at h9 h8; omega) | (have h9 := HB35.out.size; simp at h9; omega) | (have h9 := HB24.out.size; simp at h9; omega) | (simp; omega))).bl HB24.out) | exact (kids_lit1 (((N1.out.bl D0.out).bl HB24.out).bl HB35.out) (by first | omega | (have h9 := HB35.out.size; have h8 := HB24.out.size; simp at h9 h8; omega) | (have h9 := HB35.out.size; simp at h9; omega) | (have h9 := HB24.out.size; simp at h9; omega) | (simp; omega))) | exact ((kids_lit1 ((N1.out.bl D0.out).bl HB24.out) (by first | omega | (have h9 := HB35.out.size; have h8 := HB24.out.size; simp at h9 h8; omega) | (have h9 := HB35.out.size; simp at h9; omega) | (have h9 := HB24.out.size; simp at h9; omega) | (simp; omega))).bl HB35.out) | exact (((kids_lit1 (N1.out.bl D0.out) (by first | omega | (have h9 := HB35.out.size; have h8 := HB24.out.size; simp at h9 h8; omega) | (have h9 := HB35.out.size; simp at h9; omega) | (have h9 := HB24.out.size; simp at h9; omega) | (simp; omega))).bl HB35.out).bl HB24.out) | exact (((kids_lit1 (N1.out.bl D0.out) (by first | omega | (have h9 := HB35.out.size; have h8 := HB24.out.size; simp at h9 h8; omega) | (have h9 := HB35.out.size; simp at h9; omega) | (have h9 := HB24.out.size; simp at h9; omega) | (simp; omega))).bl HB24.out).bl HB35.out)) HB42.out HROW.out (by omega) (Nat.lt_irrefl _) (by omega) (fun x hx => by omega) (by omega) (by omega)  _ | (have hfin := node_done2 (lo := w.heap.size) (q := w.heap.size + 1) H.out (by first | exact ((((S3.out.below D0.out).below HB35.out).below HB24.out).below (b1 _ _)) | exact ((((S3.out.below D0.out).below HB35.out).below (b1 _ _)).below HB24.out) | exact ((((S3.out.below D0.out).below HB24.out).below HB35.out).below (b1 _ _)) | exact ((((S3.out.below D0.out).below HB24.out).below (b1 _ _)).below HB35.out) | exact ((((S3.out.below D0.out).below (b1 _ _)).below HB35.out).below HB24.out) | exact ((((S3.out.below D0.out).below (b1 _ _)).below HB24.out).below HB35.out)) (ok := fun x => w.heap.size + 1 < x) (by first | exact (kids_lit1 (((N1.out.bl D0.out).bl HB35.out).bl HB24.out) (by first | omega | (have h9 := HB35.out.size; have h8 := HB24.out.size; simp at h9 h8; omega) | (have h9 := HB35.out.size; simp at h9; omega) | (have h9 := HB24.out.size; simp at h9; omega) | (simp; omega))) | exact ((kids_lit1 ((N1.out.bl D0.out).bl HB35.out) (by first | omega | (have h9 := HB35.out.size; have h8 := HB24.out.size; simp at h9 h8; omega) | (have h9 := HB35.out.size; simp at h9; omega) | (have h9 := HB24.out.size; simp at h9; omega) | (simp; omega))).bl HB24.out) | exact (kids_lit1 (((N1.out.bl D0.out).bl HB24.out).bl HB35.out) (by first | omega | (have h9 := HB35.out.size; have h8 := HB24.out.size; simp at h9 h8; omega) | (have h9 := HB35.out.size; simp at h9; omega) | (have h9 := HB24.out.size; simp at h9; omega) | (simp; omega))) | exact ((kids_lit1 ((N1.out.bl D0.out).bl HB24.out) (by first | omega | (have h9 := HB35.out.size; have h8 := HB24.out.size; simp at h9 h8; omega) | (have h9 := HB35.out.size; simp at h9; omega) | (have h9 := HB24.out.size; simp at h9; omega) | (simp; omega))).bl HB35.out) | exact (((kids_lit1 (N1.out.bl D0.out) (by first | omega | (have h9 := HB35.out.size; have h8 := HB24.out.size; simp at h9 h8; omega) | (have h9 := HB35.out.size; simp at h9; omega) | (have h9 := HB24.out.size; simp at h9; omega) | (simp; omega))).bl HB35.out).bl HB24.out) | exact (((kids_lit1 (N1.out.bl D0.out) (by first | omega | (have h9 := HB35.out.size; have h8 := HB24.out.size; simp at h9 h8; omega) | (have h9 := HB35.out.size; simp at h9; omega) | (have h9 := HB24.out.size; simp at h9; omega) | (simp; omega))).bl HB24.out).bl HB35.out)) HB42.out HROW.out (by omega) (Nat.lt_irrefl _) (by omega) (fun x hx => by omega) (by omega) (by omega)  (.pointer (some ⟨w24.heap.size + 1, 0, none⟩)); rw [show (w24.alloc (.cells #[.pointer (some ⟨nb1, 0, none⟩)] 25)).heap.size = w24.heap.size + 1 by simp] at hfin; exact hfin) | (have hfin := node_done2 (lo := w.heap.size) (q := w.heap.size + 1) H.out (by first | exact ((((S3.out.below D0.out).below HB35.out).below HB24.out).below (b1 _ _)) | exact ((((S3.out.below D0.out).below HB35.out).below (b1 _ _)).below HB24.out) | exact ((((S3.out.below D0.out).below HB24.out).below HB35.out).below (b1 _ _)) | exact ((((S3.out.below D0.out).below HB24.out).below (b1 _ _)).below HB35.out) | exact ((((S3.out.below D0.out).below (b1 _ _)).below HB35.out).below HB24.out) | exact ((((S3.out.below D0.out).below (b1 _ _)).below HB24.out).below HB35.out)) (ok := fun x => w.heap.size + 1 < x) (by first | exact (kids_lit1 (((N1.out.bl D0.out).bl HB35.out).bl HB24.out) (by first | omega | (have h9 := HB35.out.size; have h8 := HB24.out.size; simp at h9 h8; omega) | (have h9 := HB35.out.size; simp at h9; omega) | (have h9 := HB24.out.size; simp at h9; omega) | (simp; omega))) | exact ((kids_lit1 ((N1.out.bl D0.out).bl HB35.out) (by first | omega | (have h9 := HB35.out.size; have h8 := HB24.out.size; simp at h9 h8; omega) | (have h9 := HB35.out.size; simp at h9; omega) | (have h9 := HB24.out.size; simp at h9; omega) | (simp; omega))).bl HB24.out) | exact (kids_lit1 (((N1.out.bl D0.out).bl HB24.out).bl HB35.out) (by first | omega | (have h9 := HB35.out.size; have h8 := HB24.out.size; simp at h9 h8; omega) | (have h9 := HB35.out.size; simp at h9; omega) | (have h9 := HB24.out.size; simp at h9; omega) | (simp; omega))) | exact ((kids_lit1 ((N1.out.bl D0.out).bl HB24.out) (by first | omega | (have h9 := HB35.out.size; have h8 := HB24.out.size; simp at h9 h8; omega) | (have h9 := HB35.out.size; simp at h9; omega) | (have h9 := HB24.out.size; simp at h9; omega) | (simp; omega))).bl HB35.out) | exact (((kids_lit1 (N1.out.bl D0.out) (by first | omega | (have h9 := HB35.out.size; have h8 := HB24.out.size; simp at h9 h8; omega) | (have h9 := HB35.out.size; simp at h9; omega) | (have h9 := HB24.out.size; simp at h9; omega) | (simp; omega))).bl HB35.out).bl HB24.out) | exact (((kids_lit1 (N1.out.bl D0.out) (by first | omega | (have h9 := HB35.out.size; have h8 := HB24.out.size; simp at h9 h8; omega) | (have h9 := HB35.out.size; simp at h9; omega) | (have h9 := HB24.out.size; simp at h9; omega) | (simp; omega))).bl HB24.out).bl HB35.out)) HB42.out HROW.out (by omega) (Nat.lt_irrefl _) (by omega) (fun x hx => by omega) (by omega) (by omega)  (.pointer (some ⟨w35.heap.size + 1, 0, none⟩)); rw [show (w35.alloc (.cells #[.pointer (some ⟨nb1, 0, none⟩)] 25)).heap.size = w35.heap.size + 1 by simp] at hfin; exact hfin)

end Go.Proofs.YtkahbhfbgdbnfaaGreatDoor

/-
  CONTRACT: put of the reader, where calls one step down are as they should be. Nobody but the reader's own block has turned.
-/
namespace Go.Proofs.YtkahbhfbgdbnfaaGreatDoor
open Go.RowKit

def okP (lo s tb y : Nat) : Prop := lo ≤ y ∧ y ≠ s ∧ y ≠ s + 1 ∧ y ≠ tb
theorem TokAt.set {w : World} {b : Nat} {k : Int} {s : ByteArray} {p : Int} (h : TokAt w b k s p) (k' : Int) (s' : ByteArray) (p' : Int) : TokAt (((w.setCell ⟨b, 0, none⟩ (.int .i64 k')).setCell ⟨b, 1, none⟩ (.string s')).setCell ⟨b, 2, none⟩ (.int .i64 p')) b k' s' p' := by
  have hs : w.heap.size ≤ (((w.setCell ⟨b, 0, none⟩ (.int .i64 k')).setCell ⟨b, 1, none⟩ (.string s')).setCell ⟨b, 2, none⟩ (.int .i64 p')).heap.size := by simp
  refine ⟨Nat.lt_of_lt_of_le h.lt hs, ?_, ?_, ?_, ?_, ?_, ?_⟩
  · rw [World.cell?_setCell_other _ _ _ _ (by simp), World.cell?_setCell_other _ _ _ _ (by simp)]; exact World.cell?_setCell_same _ _ _ h.c0
  · rw [World.cell?_setCell_other _ _ _ _ (by simp)]; exact World.cell?_setCell_same _ _ _ (by rw [World.cell?_setCell_other _ _ _ _ (by simp)]; exact h.c1)
  · exact World.cell?_setCell_same _ _ _ (by rw [World.cell?_setCell_other _ _ _ _ (by simp), World.cell?_setCell_other _ _ _ _ (by simp)]; exact h.c2)
  all_goals simp only [World.frozen?_setCell]
  · exact h.f0
  · exact h.f1
  · exact h.f2
/-- The loop of put. -/
def PutRel (E : Env) (n : Nat) (w : World) (lo tb d : Nat) (hT f0 : Tree) (rs : Res (List Tree)) (_ : Value) (wr : World) : Prop :=
  ∃ (m i nb : Nat) (p : Nat × List UInt8) (t : Tree) (ds : List Tree) (r : Res (List Tree)), m ≤ n ∧ tb < wr.heap.size ∧ Hid (P E.T m .fields d i = some r) ∧ Hid (rs = preR ds r) ∧ Hid (∀ rest v, putT hT f0 (ds ++ rest) v = putT t (bare p) rest v) ∧ Hid ((E.T p.1).text = p.2) ∧ Hid (NodeAt (okP lo w.heap.size tb) E.pl wr nb t) ∧ Hid (ST E w wr i d) ∧ Hid (PtrAt wr (w.heap.size + 1) none) ∧ Hid (PtrAt wr w.heap.size (some ⟨nb, 0, none⟩)) ∧ Hid (TokAt wr tb (E.T p.1).kind ⟨(E.T p.1).text.toArray⟩ (E.pl p.1))

set_option maxRecDepth 100000 in
set_option maxHeartbeats 2000000 in
theorem put_any (E : Env) (w : World) (i d : Nat) (n : Nat) (ih : IH E n) (lo vb : Nat) (hT : Tree) (r : Res Tree) (h : RD E w i d) (hlo : E.rb < lo) (hlw : lo ≤ w.heap.size) (hn : NodeAt (fun x => lo ≤ x) E.pl w vb hT) (hr : Hid (runW E.T (P E.T n) (put hT d) i = some r)) :
    Calls Tryz.prog 202 #[.pointer (some ⟨E.rb, 0, none⟩), .agg #[.pointer (some ⟨vb, 0, none⟩)]] w (Q E w d (VN E lo) r) := by
  have H := Lib.hid h
  have hr1 := h.lt
  have hz := h.zle
  have N := Lib.hid ((hn.weak (ok' := fun y => lo ≤ y ∧ y ≠ w.heap.size ∧ y ≠ w.heap.size + 1) (fun y hy hl => ⟨hy, by omega, by omega⟩)).bl (b2 w (.cells #[.pointer (some ⟨vb, 0, none⟩)] 25) (.cells #[.pointer none] 25)))
  have S0 := Lib.hid (ST.below (ST.refl h) (b2 w (.cells #[.pointer (some ⟨vb, 0, none⟩)] 25) (.cells #[.pointer none] 25)))
  have U := Lib.hid ((PtrAt.new w (some ⟨vb, 0, none⟩)).below (b1 _ (.cells #[.pointer none] 25)))
  have P0 := PtrAt.new (w.alloc (.cells #[.pointer (some ⟨vb, 0, none⟩)] 25)) none
  rw [show (w.alloc (.cells #[.pointer (some ⟨vb, 0, none⟩)] 25)).heap.size = w.heap.size + 1 by simp] at P0
  have P0' := Lib.hid P0
  clear P0
  have P0 := P0'
  clear P0'
  have l0 := P0.out.lt
  clear h hn
  go_enter Tryz.func202, Tryz.ntmps202
  go_wp2_with fail
  generalize (w.alloc (.cells #[.pointer (some ⟨vb, 0, none⟩)] 25)).alloc (.cells #[.pointer none] 25) = wa at *
  rcases bind_cases hr.out with ⟨j1, er, hx, hq⟩ | ⟨a1, j1, hx, hq⟩
  · exact (fieldName_any E _ i d (P E.T n) _ S0.out.1 hx).mono fun e w' h => by obtain ⟨rfl, hg⟩ := h; exact ⟨rfl, by rw [hq]; exact ⟨rfl, S0.out.2.trans hg⟩⟩
  refine (fieldName_any E _ i d (P E.T n) _ S0.out.1 hx).mono ?_
  rintro e w1 ⟨v1, rfl, ⟨hv, htx⟩, hst⟩
  obtain rfl := hv
  unfold tokV
  have U' := Lib.hid (U.out.kept hst.2 (by omega))
  clear U
  have U := U'
  clear U'
  have P0' := Lib.hid (P0.out.kept hst.2 (by omega))
  clear P0
  have P0 := P0'
  clear P0'
  have N' := Lib.hid (N.out.kept (Keeps.grown hst.2 (fun y e hy => by have h9 : E.rb = y := Option.some.inj e; omega)))
  clear N
  have N := N'
  clear N'
  have X1 := Lib.hid htx
  clear htx
  have S1 := Lib.hid (S0.out.trans hst)
  have z1 := hst.2.size
  clear hst
  have HR1 := Lib.hid hq
  clear hx hq
  have N' := Lib.hid (N.out.weak (ok' := okP lo w.heap.size w1.heap.size) fun y hy hl => ⟨hy.1, hy.2.1, hy.2.2, by omega⟩)
  clear N
  have N := N'
  clear N'
  obtain ⟨rs, hrs, hbad, hok⟩ := call_some HR1.out
  have HRS := Lib.hid hrs
  have HBAD := Lib.hid hbad
  have HOK := Lib.hid hok
  clear hrs hbad hok
  have T := Lib.hid (TokAt.new w1 (E.T a1.1).kind ⟨(E.T a1.1).text.toArray⟩ (E.pl a1.1))
  have U' := Lib.hid (U.out.below (b1 w1 (.cells #[.int .i64 (E.T a1.1).kind, .string ⟨(E.T a1.1).text.toArray⟩, .int .i64 (E.pl a1.1)] 108)))
  clear U
  have U := U'
  clear U'
  have P0' := Lib.hid (P0.out.below (b1 w1 (.cells #[.int .i64 (E.T a1.1).kind, .string ⟨(E.T a1.1).text.toArray⟩, .int .i64 (E.pl a1.1)] 108)))
  clear P0
  have P0 := P0'
  clear P0'
  have N' := Lib.hid (N.out.bl (b1 w1 (.cells #[.int .i64 (E.T a1.1).kind, .string ⟨(E.T a1.1).text.toArray⟩, .int .i64 (E.pl a1.1)] 108)))
  clear N
  have N := N'
  clear N'
  have S2 := Lib.hid (S1.out.below (b1 w1 (.cells #[.int .i64 (E.T a1.1).kind, .string ⟨(E.T a1.1).text.toArray⟩, .int .i64 (E.pl a1.1)] 108)))
  have z2 := (b1 w1 (.cells #[.int .i64 (E.T a1.1).kind, .string ⟨(E.T a1.1).text.toArray⟩, .int .i64 (E.pl a1.1)] 108)).size
  have y2 : w1.heap.size < (w1.alloc (.cells #[.int .i64 (E.T a1.1).kind, .string ⟨(E.T a1.1).text.toArray⟩, .int .i64 (E.pl a1.1)] 108)).heap.size := by simp
  go_wp2_with fail
  generalize w1.alloc (.cells #[.int .i64 (E.T a1.1).kind, .string ⟨(E.T a1.1).text.toArray⟩, .int .i64 (E.pl a1.1)] 108) = w2 at *
  go_loopw [10] (fun v wr => PutRel E n w lo w1.heap.size d hT (bare a1) rs v wr) (fun _ wr => E.z - nx E wr)
  case atStart => exact ⟨n, j1, vb, a1, hT, [], rs, Nat.le_refl _, by omega, HRS, Lib.hid (preR_nil rs).symm, Lib.hid (fun _ _ => rfl), X1, N, S2, P0, U, T⟩
  case round =>
    obtain ⟨m, iq, nb, p, t, ds, rq, hm, hB, HP, HE, HV, HTX, N, S, P0, U, T⟩ := hrel
    obtain ⟨m, rfl, hp⟩ := P_pos HP.out
    have HR := Lib.hid hp
    clear hp HP
    have hiz := S.out.1.ile
    have hnx := S.out.1.at_nx
    have HNX := Lib.hid hnx
    clear hnx
    by_cases ht : (E.T iq).text = cDot
    · skip
      have h0 := peek_yes HR.out ht
      have HR3 := Lib.hid h0
      clear h0
      go_wp2_with fail
      refine (is_yes E _ iq d ⟨#[46]⟩ S.out.1 ht).mono ?_
      rintro e w4 ⟨rfl, hb⟩
      have P0' := Lib.hid (P0.out.below hb)
      clear P0
      have P0 := P0'
      clear P0'
      have U' := Lib.hid (U.out.below hb)
      clear U
      have U := U'
      clear U'
      have T' := Lib.hid (T.out.below hb)
      clear T
      have T := T'
      clear T'
      have N' := Lib.hid (N.out.bl hb)
      clear N
      have N := N'
      clear N'
      have S4 := Lib.hid (S.out.below hb)
      have z4 := hb.size
      clear hb
      clear ht
      have cu := U.out.c0
      have fu := U.out.f0
      have t0 := T.out.c0
      have t1 := T.out.c1
      have t2 := T.out.c2
      go_wp2_with fail
      refine (fieldOf_any E _ (okP lo w.heap.size w1.heap.size) nb t p N.out HTX).mono ?_
      rintro e w8 ⟨nb8, rfl, hb8, hn8⟩
      unfold nodeV
      clear cu fu t0 t1 t2
      have z8 := hb8.size
      have N8 := hn8.weak (ok' := okP lo w.heap.size w1.heap.size) (fun y hy _ => by rcases hy with hy | hy; exact hy; exact ⟨by omega, by omega, by omega, by omega⟩)
      have S8 := S4.out.below hb8
      have U8 := U.out.below hb8
      have P8 := P0.out.below hb8
      have T8 := T.out.below hb8
      have cu := U8.c0
      have fu := U8.f0
      have N9 := Lib.hid (N8.kept (Keeps.set w8 ⟨w.heap.size, 0, none⟩ (.pointer (some ⟨nb8, 0, none⟩)) (fun h => h.2.1 rfl)))
      have S9 := Lib.hid (ST.set H.out S8 w.heap.size 0 (Nat.le_refl _) (.pointer (some ⟨nb8, 0, none⟩)))
      have U9 := Lib.hid (U8.set (some ⟨nb8, 0, none⟩))
      have P9 := Lib.hid (P8.kept (kb_set w8 ⟨w.heap.size, 0, none⟩ (.pointer (some ⟨nb8, 0, none⟩))) (by show w.heap.size + 1 ≠ w.heap.size; omega))
      have T9 := Lib.hid (T8.kept (kb_set w8 ⟨w.heap.size, 0, none⟩ (.pointer (some ⟨nb8, 0, none⟩))) (by show w1.heap.size ≠ w.heap.size; omega))
      have z9 := (kb_set w8 ⟨w.heap.size, 0, none⟩ (.pointer (some ⟨nb8, 0, none⟩))).size
      clear N8 S8 U8 P8 T8 hb8 hn8 N U P0 T
      go_wp2_with fail
      generalize w8.setCell ⟨w.heap.size, 0, none⟩ (.pointer (some ⟨nb8, 0, none⟩)) = w9 at *
      clear cu fu
      have N := N9
      have U := U9
      have P0 := P9
      have T := T9
      clear N9 U9 P9 T9
      rcases bind_cases HR3.out with ⟨j10, er, hx, hq⟩ | ⟨a10, j10, hx, hq⟩
      · exact (fieldName_any E _ iq d _ _ S9.out.1 hx).mono fun e w' h => by obtain ⟨rfl, hg⟩ := h; exact ⟨rfl, by rw [HBAD.out j10 er (by rw [HE.out, hq]; rfl)]; exact ⟨rfl, S9.out.2.trans hg⟩⟩
      have hpr := fname_prog S9.out.1.sent hx
      refine (fieldName_any E _ iq d _ _ S9.out.1 hx).mono ?_
      rintro e w10 ⟨v10, rfl, ⟨hv, htx⟩, hst⟩
      obtain rfl := hv
      unfold tokV
      have P0' := Lib.hid (P0.out.kept hst.2 (by omega))
      clear P0
      have P0 := P0'
      clear P0'
      have U' := Lib.hid (U.out.kept hst.2 (by omega))
      clear U
      have U := U'
      clear U'
      have T' := Lib.hid (T.out.kept hst.2 (by omega))
      clear T
      have T := T'
      clear T'
      have N' := Lib.hid (N.out.kept (Keeps.grown hst.2 (fun y e hy => by have h9 : E.rb = y := Option.some.inj e; have h8 := hy.1; omega)))
      clear N
      have N := N'
      clear N'
      have X10 := Lib.hid htx
      clear htx
      have S10 := Lib.hid (S9.out.trans hst)
      have z10 := hst.2.size
      clear hst
      have HQQ := Lib.hid hq
      clear hx hq
      have t0 := T.out.c0
      have t1 := T.out.c1
      have t2 := T.out.c2
      have g0 := T.out.f0
      have g1 := T.out.f1
      have g2 := T.out.f2
      have T11 := Lib.hid (T.out.set (E.T a10.1).kind ⟨(E.T a10.1).text.toArray⟩ (E.pl a10.1))
      have S11 := Lib.hid (ST.set H.out (ST.set H.out (ST.set H.out S10.out w1.heap.size 0 (by omega) (.int .i64 (E.T a10.1).kind)) w1.heap.size 1 (by omega) (.string ⟨(E.T a10.1).text.toArray⟩)) w1.heap.size 2 (by omega) (.int .i64 (E.pl a10.1)))
      have U11 := Lib.hid (((U.out.kept (kb_set w10 ⟨w1.heap.size, 0, none⟩ (.int .i64 (E.T a10.1).kind)) (by show w.heap.size ≠ w1.heap.size; omega)).kept (kb_set _ ⟨w1.heap.size, 1, none⟩ (.string ⟨(E.T a10.1).text.toArray⟩)) (by show w.heap.size ≠ w1.heap.size; omega)).kept (kb_set _ ⟨w1.heap.size, 2, none⟩ (.int .i64 (E.pl a10.1))) (by show w.heap.size ≠ w1.heap.size; omega))
      have P11 := Lib.hid (((P0.out.kept (kb_set w10 ⟨w1.heap.size, 0, none⟩ (.int .i64 (E.T a10.1).kind)) (by show w.heap.size + 1 ≠ w1.heap.size; omega)).kept (kb_set _ ⟨w1.heap.size, 1, none⟩ (.string ⟨(E.T a10.1).text.toArray⟩)) (by show w.heap.size + 1 ≠ w1.heap.size; omega)).kept (kb_set _ ⟨w1.heap.size, 2, none⟩ (.int .i64 (E.pl a10.1))) (by show w.heap.size + 1 ≠ w1.heap.size; omega))
      have N11 := Lib.hid (((N.out.kept (Keeps.set w10 ⟨w1.heap.size, 0, none⟩ (.int .i64 (E.T a10.1).kind) (fun h => h.2.2.2 rfl))).kept (Keeps.set _ ⟨w1.heap.size, 1, none⟩ (.string ⟨(E.T a10.1).text.toArray⟩) (fun h => h.2.2.2 rfl))).kept (Keeps.set _ ⟨w1.heap.size, 2, none⟩ (.int .i64 (E.pl a10.1)) (fun h => h.2.2.2 rfl)))
      have hnx2 := S11.out.1.at_nx
      have HNX2 := Lib.hid hnx2
      have z11 := T11.out.lt
      have HV2 : Hid (∀ rest v, putT hT (bare a1) ((ds ++ [bare a10]) ++ rest) v = putT (attach t (bare p)) (bare a10) rest v) := fun rest v => by rw [List.append_assoc]; exact HV.out (bare a10 :: rest) v
      clear hnx2
      go_wp2_with fail
      clear t0 t1 t2 g0 g1 g2
      rcases call_cases HQQ.out with ⟨jy, er, hy, hq2⟩ | ⟨ay, jy, hy, hq2⟩
      · have HP : Hid (P E.T m .fields d j10 = some (.bad jy er)) := hy
        have HE2 : Hid (rs = preR (ds ++ [bare a10]) (.bad jy er)) := by show _ = _; rw [HE.out, hq2]; rfl
        clear hy hq2
        go_roundw
        case rel => exact ⟨m, j10, nb8, a10, _, _, _, by omega, z11, HP, HE2, HV2, X10, N11, S11, P11, U11, T11⟩
        case measure => rw [HNX.out, HNX2.out]; omega
      · have HP : Hid (P E.T m .fields d j10 = some (.ok ay jy)) := hy
        have HE2 : Hid (rs = preR (ds ++ [bare a10]) (.ok ay jy)) := by show _ = _; rw [HE.out, run_ret hq2]; simp [preR]
        clear hy hq2
        go_roundw
        case rel => exact ⟨m, j10, nb8, a10, _, _, _, by omega, z11, HP, HE2, HV2, X10, N11, S11, P11, U11, T11⟩
        case measure => rw [HNX.out, HNX2.out]; omega
    · skip
      have HR11 := Lib.hid (peek_no HR.out ht)
      go_wp2_with fail
      have HRR := Lib.hid (HOK.out ds iq (by rw [HE.out, run_ret HR11.out]; simp [preR]))
      refine (is_no E _ iq d ⟨#[46]⟩ S.out.1 ht).mono ?_
      rintro e w12 ⟨rfl, hb⟩
      have P0' := Lib.hid (P0.out.below hb)
      clear P0
      have P0 := P0'
      clear P0'
      have U' := Lib.hid (U.out.below hb)
      clear U
      have U := U'
      clear U'
      have T' := Lib.hid (T.out.below hb)
      clear T
      have T := T'
      clear T'
      have N' := Lib.hid (N.out.bl hb)
      clear N
      have N := N'
      clear N'
      have S12 := Lib.hid (S.out.below hb)
      have z12 := hb.size
      clear hb
      clear ht
      go_wp2_with fail
      rcases bind_cases HRR.out with ⟨j13, er, hx, hq⟩ | ⟨a13, j13, hx, hq⟩
      · exact (need_any E _ iq d ⟨#[61]⟩ (P E.T n) _ S12.out.1 (Lib.hid (by decide)) hx).mono fun e w' h => by obtain ⟨rfl, hg⟩ := h; exact ⟨rfl, by rw [hq]; exact ⟨rfl, S12.out.2.trans hg⟩⟩
      refine (need_any E _ iq d ⟨#[61]⟩ (P E.T n) _ S12.out.1 (Lib.hid (by decide)) hx).mono ?_
      rintro e w13 ⟨v13, rfl, -, hst⟩
      have P0' := Lib.hid (P0.out.kept hst.2 (by omega))
      clear P0
      have P0 := P0'
      clear P0'
      have U' := Lib.hid (U.out.kept hst.2 (by omega))
      clear U
      have U := U'
      clear U'
      have T' := Lib.hid (T.out.kept hst.2 (by omega))
      clear T
      have T := T'
      clear T'
      have N' := Lib.hid (N.out.kept (Keeps.grown hst.2 (fun y e hy => by have h9 : E.rb = y := Option.some.inj e; have h8 := hy.1; omega)))
      clear N
      have N := N'
      clear N'
      have S13 := Lib.hid (S12.out.trans hst)
      have z13 := hst.2.size
      clear hst
      have HR13 := Lib.hid hq
      clear hx hq
      go_wp2_with fail
      rcases bind_cases HR13.out with ⟨j14, er, hx, hq⟩ | ⟨a14, j14, hx, hq⟩
      · exact (expr_any E _ j13 d n ih _ S13.out.1 hx).mono fun e w' h => by obtain ⟨rfl, hg⟩ := h; exact ⟨rfl, by rw [hq]; exact ⟨rfl, S13.out.2.trans hg⟩⟩
      refine (expr_any E _ j13 d n ih _ S13.out.1 hx).mono ?_
      rintro e w14 ⟨v14, rfl, ⟨nb14, hv, hn⟩, hst⟩
      obtain rfl := hv
      unfold nodeV
      have P0' := Lib.hid (P0.out.kept hst.2 (by omega))
      clear P0
      have P0 := P0'
      clear P0'
      have U' := Lib.hid (U.out.kept hst.2 (by omega))
      clear U
      have U := U'
      clear U'
      have T' := Lib.hid (T.out.kept hst.2 (by omega))
      clear T
      have T := T'
      clear T'
      have N' := Lib.hid (N.out.kept (Keeps.grown hst.2 (fun y e hy => by have h9 : E.rb = y := Option.some.inj e; have h8 := hy.1; omega)))
      clear N
      have N := N'
      clear N'
      have N14 := Lib.hid (hn.from (B := w1.heap.size) (by omega))
      clear hn
      have S14 := Lib.hid (S13.out.trans hst)
      have z14 := hst.2.size
      clear hst
      have HR14 := Lib.hid hq
      clear hx hq
      have V := Lib.hid (PtrAt.new w14 (some ⟨nb14, 0, none⟩))
      have P0' := Lib.hid (P0.out.below (b1 w14 (.cells #[.pointer (some ⟨nb14, 0, none⟩)] 25)))
      clear P0
      have P0 := P0'
      clear P0'
      have U' := Lib.hid (U.out.below (b1 w14 (.cells #[.pointer (some ⟨nb14, 0, none⟩)] 25)))
      clear U
      have U := U'
      clear U'
      have T' := Lib.hid (T.out.below (b1 w14 (.cells #[.pointer (some ⟨nb14, 0, none⟩)] 25)))
      clear T
      have T := T'
      clear T'
      have N14' := Lib.hid (N14.out.bl (b1 w14 (.cells #[.pointer (some ⟨nb14, 0, none⟩)] 25)))
      clear N14
      have N14 := N14'
      clear N14'
      have N' := Lib.hid (N.out.bl (b1 w14 (.cells #[.pointer (some ⟨nb14, 0, none⟩)] 25)))
      clear N
      have N := N'
      clear N'
      have S15 := Lib.hid (S14.out.below (b1 w14 (.cells #[.pointer (some ⟨nb14, 0, none⟩)] 25)))
      have z15 := (b1 w14 (.cells #[.pointer (some ⟨nb14, 0, none⟩)] 25)).size
      have y15 : w14.heap.size < (w14.alloc (.cells #[.pointer (some ⟨nb14, 0, none⟩)] 25)).heap.size := by simp
      go_wp2_with fail
      generalize w14.alloc (.cells #[.pointer (some ⟨nb14, 0, none⟩)] 25) = w15 at *
      rcases bind_cases HR14.out with ⟨j16, er, hx, hq⟩ | ⟨a16, j16, hx, hq⟩
      · exact (need_any E _ j14 d ⟨#[59]⟩ (P E.T n) _ S15.out.1 (Lib.hid (by decide)) hx).mono fun e w' h => by obtain ⟨rfl, hg⟩ := h; exact ⟨rfl, by rw [hq]; exact ⟨rfl, S15.out.2.trans hg⟩⟩
      refine (need_any E _ j14 d ⟨#[59]⟩ (P E.T n) _ S15.out.1 (Lib.hid (by decide)) hx).mono ?_
      rintro e w16 ⟨v16, rfl, -, hst⟩
      have P0' := Lib.hid (P0.out.kept hst.2 (by omega))
      clear P0
      have P0 := P0'
      clear P0'
      have U' := Lib.hid (U.out.kept hst.2 (by omega))
      clear U
      have U := U'
      clear U'
      have T' := Lib.hid (T.out.kept hst.2 (by omega))
      clear T
      have T := T'
      clear T'
      have N14' := Lib.hid (N14.out.st hst.2 (by omega))
      clear N14
      have N14 := N14'
      clear N14'
      have V' := Lib.hid (V.out.kept hst.2 (by omega))
      clear V
      have V := V'
      clear V'
      have N' := Lib.hid (N.out.kept (Keeps.grown hst.2 (fun y e hy => by have h9 : E.rb = y := Option.some.inj e; have h8 := hy.1; omega)))
      clear N
      have N := N'
      clear N'
      have S16 := Lib.hid (S15.out.trans hst)
      have z16 := hst.2.size
      clear hst
      have HR16 := Lib.hid hq
      clear hx hq
      have HQ : Hid (r = .ok (.mk 9 p.2 [] 0 p.1 [t, a14]) j16) := by
        have h1 := run_ret HR16.out
        have h2 := HV.out [] a14
        rw [List.append_nil] at h2
        show _ = _
        rw [h1, h2]
        rfl
      have cu := U.out.c0
      have cv := V.out.c0
      have t1 := T.out.c1
      have t2 := T.out.c2
      have K := Lib.hid (kids_lit2g (ok' := okP lo w.heap.size w1.heap.size) N.out (N14.out.weak (ok' := okP lo w.heap.size w1.heap.size) (fun y hy _ => ⟨by omega, by omega, by omega, by omega⟩)) (fun y hy _ => hy) ⟨by omega, by omega, by omega, by omega⟩)
      have S20 := Lib.hid (S16.out.below (b1 w16 (.cells #[.pointer (some ⟨nb, 0, none⟩), .pointer (some ⟨nb14, 0, none⟩)] 25)))
      have P20 := Lib.hid (P0.out.below (b1 w16 (.cells #[.pointer (some ⟨nb, 0, none⟩), .pointer (some ⟨nb14, 0, none⟩)] 25)))
      have z20 : w16.heap.size < (w16.alloc (.cells #[.pointer (some ⟨nb, 0, none⟩), .pointer (some ⟨nb14, 0, none⟩)] 25)).heap.size := by simp
      go_wp2_with fail
      generalize w16.alloc (.cells #[.pointer (some ⟨nb, 0, none⟩), .pointer (some ⟨nb14, 0, none⟩)] 25) = w20 at *
      refine (newNode_any _ _ _ _ _ _ _ _ _).mono ?_
      rintro e wz ⟨rfl, hb9, hrow⟩
      have P9 := P20.out.below hb9
      have q0 := P9.c0
      have f0 := P9.f0
      have HB9 := Lib.hid hb9
      have HROW := Lib.hid hrow
      clear hb9 hrow P9
      unfold nodeV
      go_wp2_with fail
      refine bodyPost_ret (v := nodeV w20.heap.size) (by unfold nodeV; simp [results, Tryz.results202, go_sem, q0]) rfl ?_
      rw [HQ.out]
      have hrow := HROW.out
      rw [HTX.out] at hrow
      exact node_done2 (lo := lo) (q := w.heap.size + 1) H.out S20.out K.out HB9.out hrow (by omega) (fun h => h.2.2.1 rfl) (by omega) (fun x hx => hx.1) (by omega) (by omega) _

end Go.Proofs.YtkahbhfbgdbnfaaGreatDoor

/-
  CONTRACT: simple of the reader, where calls one step down are as they should be. Nobody but the reader's own block has turned.
-/
namespace Go.Proofs.YtkahbhfbgdbnfaaGreatDoor
open Go.RowKit

set_option maxRecDepth 100000 in
set_option maxHeartbeats 2000000 in
theorem simple_any (E : Env) (w : World) (i d : Nat) (n : Nat) (ih : IH E n) (r : Res Tree) (h : RD E w i d) (hr : Hid (runW E.T (P E.T n) (simple d) i = some r)) :
    Calls Tryz.prog 182 #[.pointer (some ⟨E.rb, 0, none⟩)] w (Q E w d (VN E w.heap.size) r) := by
  have H := Lib.hid h
  have hr1 := h.lt
  have hf0 := tok_kind
  have hf1 := tok_text
  have hf2 := tok_at
  have S0 := Lib.hid (ST.below (ST.refl h) (b1 w (.cells #[.pointer none] 25)))
  have P0 := Lib.hid (PtrAt.new w none)
  have l0 := P0.out.lt
  clear h
  go_enter Tryz.func182, Tryz.ntmps182
  go_wp2_with fail
  generalize w.alloc (.cells #[.pointer none] 25) = wa at *
  refine (peek_any E _ i d S0.out.1).mono ?_
  rintro e w1 ⟨rfl, hb⟩
  have P0' := Lib.hid (P0.out.below hb)
  clear P0
  have P0 := P0'
  clear P0'
  have S1 := Lib.hid (S0.out.below hb)
  have z1 := hb.size
  clear hb
  unfold tokV
  have HR0 := Lib.hid (run_peek hr.out)
  by_cases ht : (E.T i).kind = 1
  · skip
    have bk : (((E.T i).kind : Int) == 1) = true := by rw [ht]; rfl
    have HK1 := Lib.hid ht
    clear ht
    go_wp2_with fail
    rcases bind_cases HR0.out with ⟨j2, er, hx, hq⟩ | ⟨a2, j2, hx, hq⟩
    · exact (primary_any E _ i d n ih _ S1.out.1 hx).mono fun e w' h => by obtain ⟨rfl, hg⟩ := h; exact ⟨rfl, by rw [hq]; exact ⟨rfl, S1.out.2.trans hg⟩⟩
    refine (primary_any E _ i d n ih _ S1.out.1 hx).mono ?_
    rintro e w2 ⟨v2, rfl, ⟨nb2, hv, hn⟩, hst⟩
    obtain rfl := hv
    unfold nodeV
    have P0' := Lib.hid (P0.out.kept hst.2 (by omega))
    clear P0
    have P0 := P0'
    clear P0'
    have N2 := Lib.hid (hn.from (B := w.heap.size) (by omega))
    clear hn
    have S2 := Lib.hid (S1.out.trans hst)
    have z2 := hst.2.size
    clear hst
    have HR2 := Lib.hid hq
    clear hx hq
    have V := Lib.hid (PtrAt.new w2 (some ⟨nb2, 0, none⟩))
    have P0' := Lib.hid (P0.out.below (b1 w2 (.cells #[.pointer (some ⟨nb2, 0, none⟩)] 25)))
    clear P0
    have P0 := P0'
    clear P0'
    have N2' := Lib.hid (N2.out.bl (b1 w2 (.cells #[.pointer (some ⟨nb2, 0, none⟩)] 25)))
    clear N2
    have N2 := N2'
    clear N2'
    have S3 := Lib.hid (S2.out.below (b1 w2 (.cells #[.pointer (some ⟨nb2, 0, none⟩)] 25)))
    have z3 := (b1 w2 (.cells #[.pointer (some ⟨nb2, 0, none⟩)] 25)).size
    have y3 : w2.heap.size < (w2.alloc (.cells #[.pointer (some ⟨nb2, 0, none⟩)] 25)).heap.size := by simp
    have V0 := V.out.c0
    go_wp2_with fail
    generalize w2.alloc (.cells #[.pointer (some ⟨nb2, 0, none⟩)] 25) = w3 at *
    clear V0
    have HRK := Lib.hid (run_peek HR2.out)
    obtain ⟨Ao, co, hro⟩ := N2.out.rowOf
    refine (op_of _ _ _ _ _ _ _ _ _ _ hro).mono ?_
    rintro e w4 ⟨rfl, hb⟩
    have P0' := Lib.hid (P0.out.below hb)
    clear P0
    have P0 := P0'
    clear P0'
    have N2' := Lib.hid (N2.out.bl hb)
    clear N2
    have N2 := N2'
    clear N2'
    have V' := Lib.hid (V.out.below hb)
    clear V
    have V := V'
    clear V'
    have S4 := Lib.hid (S3.out.below hb)
    have z4 := hb.size
    clear hb
    clear hro
    by_cases ht : a2.op = 21
    · skip
      have HO := Lib.hid ht
      have bo : ((a2.op : Int) == 21) = true := by rw [ht]; rfl
      clear ht
      go_wp2_with fail
      by_cases ht : (E.T j2).text = cSemi
      · skip
        have HT := Lib.hid ht
        clear ht
        have HQ : Hid (r = .ok (.mk 14 [] [] 0 a2.pos [a2]) (j2 + 1)) := run_ret (run_next (ite_yes HRK.out ⟨HK1.out, HO.out, HT.out⟩))
        refine (take_yes E _ j2 d ⟨#[59]⟩ S4.out.1 HT (Lib.hid (by decide))).mono ?_
        rintro e w5 ⟨rfl, hst⟩
        have P0' := Lib.hid (P0.out.kept hst.2 (by omega))
        clear P0
        have P0 := P0'
        clear P0'
        have N2' := Lib.hid (N2.out.st hst.2 (by omega))
        clear N2
        have N2 := N2'
        clear N2'
        have V' := Lib.hid (V.out.kept hst.2 (by omega))
        clear V
        have V := V'
        clear V'
        have S5 := Lib.hid (S4.out.trans hst)
        have z5 := hst.2.size
        clear hst
        go_wp2_with fail
        obtain ⟨Ao, co, hro⟩ := N2.out.rowOf
        have R0 := Lib.hid hro
        clear hro
        have cv := V.out.c0
        have lv := V.out.lt
        have lp := P0.out.lt
        have nl := N2.out.lt.2
        have D0 : Hid (Below w5.heap.size w5 w5.drew) := (Below.refl _ _).drew
        go_region_held3 (fun w' => w5.grownBy w' (some w.heap.size) ∧ w'.cell? ⟨w2.heap.size, 0, none⟩ = some (.pointer (some ⟨nb2, 0, none⟩))) (first | exact ⟨kb_below D0.out, cv⟩ | exact HK24.out | exact HK42.out | (obtain ⟨g1, g2⟩ := ‹w5.grownBy _ (some w.heap.size) ∧ _›; have h8 := kb_then g1 (kb_below (b := w.heap.size) (b1 _ (.cells #[.pointer (some ⟨nb2, 0, none⟩)] 25))) (fun j e => .inr e); have h7 := (World.cell?_alloc_lt _ (.cells #[.pointer (some ⟨nb2, 0, none⟩)] 25) ⟨w2.heap.size, 0, none⟩ (Nat.lt_of_lt_of_le lv g1.size)).trans g2; exact ⟨h8, h7⟩) | exact ⟨HK42.out.1.trans (kb_set _ ⟨w.heap.size, 0, none⟩ _), by rw [World.cell?_setCell_other _ _ _ _ (fun h => by injection h with h1; omega)]; exact HK42.out.2⟩) (first | (go_at_call 31; have h0 := ‹w5.grownBy _ (some w.heap.size) ∧ _›; refine (at_of _ _ _ _ _ _ _ _ _ _ (R0.out.kept h0.1 (by have h9 : w.heap.size < nb2 := nl; omega))).mono ?_; rintro e w24 ⟨rfl, hb24⟩; have HK24 : Hid (w5.grownBy w24 (some w.heap.size) ∧ w24.cell? ⟨w2.heap.size, 0, none⟩ = some (.pointer (some ⟨nb2, 0, none⟩))) := ⟨kb_then h0.1 (kb_below (b := w.heap.size) hb24) (fun j e => .inr e), (hb24.cell (p := ⟨w2.heap.size, 0, none⟩) (Nat.lt_of_lt_of_le lv h0.1.size)).trans h0.2⟩; have HB24 := Lib.hid hb24; clear h0 hb24) | (go_at_call 55; have h0 := ‹w5.grownBy _ (some w.heap.size) ∧ _›; refine Calls.mono (R := NewQ _ _ _ _ _ _ _) (newNode_any _ _ _ _ _ _ _ _ _) ?_; rintro e w42 ⟨rfl, hb42, hrow⟩; have HK42 : Hid (w5.grownBy w42 (some w.heap.size) ∧ w42.cell? ⟨w2.heap.size, 0, none⟩ = some (.pointer (some ⟨nb2, 0, none⟩))) := ⟨kb_then h0.1 (kb_below (b := w.heap.size) hb42) (fun j e => .inr e), (hb42.cell (p := ⟨w2.heap.size, 0, none⟩) (Nat.lt_of_lt_of_le lv h0.1.size)).trans h0.2⟩; have HB42 := Lib.hid hb42; have HROW := Lib.hid hrow; have P9 : PtrAt w42 w.heap.size none := (PtrAt.below (by first | exact (((P0.out.below D0.out).below HB24.out).below (b1 _ _)) | exact (((P0.out.below D0.out).below (b1 _ _)).below HB24.out)) hb42); have q0 := P9.c0; have f0 := P9.f0; have hz0 := h0.1.size; clear h0 hb42 hrow P9; unfold nodeV))
        all_goals
          have hbz := HB42.out.size
          go_wp2_with fail
          refine bodyPost_ret (v := nodeV _) (by unfold nodeV; simp only [results, Tryz.results182, go_sem]; simp [go_sem, q0]; rfl) rfl ?_
          rw [HQ.out]
          first | exact node_done2 (lo := w.heap.size) (q := w.heap.size) H.out (by first | exact (((S5.out.below D0.out).below HB24.out).below (b1 _ _)) | exact (((S5.out.below D0.out).below (b1 _ _)).below HB24.out)) (ok := fun x => w.heap.size < x) (by first | exact (kids_lit1 ((N2.out.bl D0.out).bl HB24.out) (by first | omega | (have h8 := HB24.out.size; simp at h8; omega) | (simp; omega))) | exact ((kids_lit1 (N2.out.bl D0.out) (by first | omega | (have h8 := HB24.out.size; simp at h8; omega) | (simp; omega))).bl HB24.out)) HB42.out HROW.out (by omega) (Nat.lt_irrefl _) (by omega) (fun x hx => by omega) (by omega) (by omega)  _ | (have hfin := node_done2 (lo := w.heap.size) (q := w.heap.size) H.out (by first | exact (((S5.out.below D0.out).below HB24.out).below (b1 _ _)) | exact (((S5.out.below D0.out).below (b1 _ _)).below HB24.out)) (ok := fun x => w.heap.size < x) (by first | exact (kids_lit1 ((N2.out.bl D0.out).bl HB24.out) (by first | omega | (have h8 := HB24.out.size; simp at h8; omega) | (simp; omega))) | exact ((kids_lit1 (N2.out.bl D0.out) (by first | omega | (have h8 := HB24.out.size; simp at h8; omega) | (simp; omega))).bl HB24.out)) HB42.out HROW.out (by omega) (Nat.lt_irrefl _) (by omega) (fun x hx => by omega) (by omega) (by omega)  (.pointer (some ⟨w24.heap.size + 1, 0, none⟩)); rw [show (w24.alloc (.cells #[.pointer (some ⟨nb2, 0, none⟩)] 25)).heap.size = w24.heap.size + 1 by simp] at hfin; exact hfin)
      · skip
        have HT := Lib.hid ht
        clear ht
        refine (take_no E _ j2 d ⟨#[59]⟩ S4.out.1 HT).mono ?_
        rintro e w6 ⟨rfl, hb⟩
        have P0' := Lib.hid (P0.out.below hb)
        clear P0
        have P0 := P0'
        clear P0'
        have N2' := Lib.hid (N2.out.bl hb)
        clear N2
        have N2 := N2'
        clear N2'
        have V' := Lib.hid (V.out.below hb)
        clear V
        have V := V'
        clear V'
        have S6 := Lib.hid (S4.out.below hb)
        have z6 := hb.size
        clear hb
        have bo2 : ((a2.op : Int) == 18) = false := by rw [HO.out]; rfl
        have V0 := V.out.c0
        go_wp2_with fail
        clear V0
        obtain ⟨Ao, co, hro⟩ := N2.out.rowOf
        refine (op_of _ _ _ _ _ _ _ _ _ _ hro).mono ?_
        rintro e w7 ⟨rfl, hb⟩
        have P0' := Lib.hid (P0.out.below hb)
        clear P0
        have P0 := P0'
        clear P0'
        have N2' := Lib.hid (N2.out.bl hb)
        clear N2
        have N2 := N2'
        clear N2'
        have V' := Lib.hid (V.out.below hb)
        clear V
        have V := V'
        clear V'
        have S7 := Lib.hid (S6.out.below hb)
        have z7 := hb.size
        clear hb
        clear hro
        have HRP := Lib.hid (ite_no (ite_no (ite_no HRK.out (fun h => HT.out h.2.2)) (fun h => absurd (HO.out.symm.trans h.2.1) (by decide))) (fun h => absurd (HO.out.symm.trans h.2.1) (by decide)))
        have V0 := V.out.c0
        go_wp2_with fail
        clear V0
        rcases last_cases HRP.out with ⟨j8, er, hx, hq⟩ | ⟨a8, j8, hx, hq⟩
        · exact (put_any E _ j2 d n ih (w.heap.size + 1) nb2 a2 _ S7.out.1 (by omega) (by omega) (N2.out.weak fun x hx _ => hx) hx).mono fun e w' h => by obtain ⟨rfl, hg⟩ := h; exact ⟨rfl, by rw [hq]; exact ⟨rfl, S7.out.2.trans hg⟩⟩
        refine (put_any E _ j2 d n ih (w.heap.size + 1) nb2 a2 _ S7.out.1 (by omega) (by omega) (N2.out.weak fun x hx _ => hx) hx).mono ?_
        rintro e w8 ⟨v8, rfl, ⟨nb8, hv, hn⟩, hst⟩
        obtain rfl := hv
        unfold nodeV
        have P0' := Lib.hid (P0.out.kept hst.2 (by omega))
        clear P0
        have P0 := P0'
        clear P0'
        have N2' := Lib.hid (N2.out.st hst.2 (by omega))
        clear N2
        have N2 := N2'
        clear N2'
        have V' := Lib.hid (V.out.kept hst.2 (by omega))
        clear V
        have V := V'
        clear V'
        have N8 := Lib.hid (NodeAt.from (B := w.heap.size) hn (by omega))
        clear hn
        have S8 := Lib.hid (S7.out.trans hst)
        have z8 := hst.2.size
        clear hst
        have HQ := Lib.hid hq
        clear hx hq
        have q0 := P0.out.c0
        have f0 := P0.out.f0
        go_wp2_with fail
        refine bodyPost_ret (v := nodeV nb8) (by unfold nodeV; simp [results, Tryz.results182, go_sem, q0]) rfl ?_
        rw [HQ.out]
        exact pass_done H.out S8.out N8.out (by omega) _
    · skip
      have HO := Lib.hid ht
      have bo : ((a2.op : Int) == 21) = false := by simp; omega
      clear ht
      have V0 := V.out.c0
      go_wp2_with fail
      clear V0
      obtain ⟨Ao, co, hro⟩ := N2.out.rowOf
      refine (op_of _ _ _ _ _ _ _ _ _ _ hro).mono ?_
      rintro e w9 ⟨rfl, hb⟩
      have P0' := Lib.hid (P0.out.below hb)
      clear P0
      have P0 := P0'
      clear P0'
      have N2' := Lib.hid (N2.out.bl hb)
      clear N2
      have N2 := N2'
      clear N2'
      have V' := Lib.hid (V.out.below hb)
      clear V
      have V := V'
      clear V'
      have S9 := Lib.hid (S4.out.below hb)
      have z9 := hb.size
      clear hb
      clear hro
      by_cases ht : a2.op = 18
      · skip
        have HV := Lib.hid ht
        have bv : ((a2.op : Int) == 18) = true := by rw [ht]; rfl
        clear ht
        go_wp2_with fail
        by_cases ht : (E.T j2).text = cDef
        · skip
          have HT := Lib.hid ht
          clear ht
          have HRS := Lib.hid (run_next (ite_yes (ite_no HRK.out (fun h => HO.out h.2.1)) ⟨HK1.out, HV.out, HT.out⟩))
          refine (take_yes E _ j2 d ⟨#[58, 61]⟩ S9.out.1 HT (Lib.hid (by decide))).mono ?_
          rintro e w10 ⟨rfl, hst⟩
          have P0' := Lib.hid (P0.out.kept hst.2 (by omega))
          clear P0
          have P0 := P0'
          clear P0'
          have N2' := Lib.hid (N2.out.st hst.2 (by omega))
          clear N2
          have N2 := N2'
          clear N2'
          have V' := Lib.hid (V.out.kept hst.2 (by omega))
          clear V
          have V := V'
          clear V'
          have S10 := Lib.hid (S9.out.trans hst)
          have z10 := hst.2.size
          clear hst
          have V0 := V.out.c0
          go_wp2_with fail
          clear V0
          rcases last_cases HRS.out with ⟨j11, er, hx, hq⟩ | ⟨a11, j11, hx, hq⟩
          · exact (setting_any E _ (j2 + 1) d n ih 7 nb2 a2 _ S10.out.1 (N2.out.weak fun x hx _ => by have h9 : w.heap.size < x := hx; omega) hx).mono fun e w' h => by obtain ⟨rfl, hg⟩ := h; exact ⟨rfl, by rw [hq]; exact ⟨rfl, S10.out.2.trans hg⟩⟩
          refine (setting_any E _ (j2 + 1) d n ih 7 nb2 a2 _ S10.out.1 (N2.out.weak fun x hx _ => by have h9 : w.heap.size < x := hx; omega) hx).mono ?_
          rintro e w11 ⟨v11, rfl, ⟨nb11, hv, hn⟩, hst⟩
          obtain rfl := hv
          unfold nodeV
          have P0' := Lib.hid (P0.out.kept hst.2 (by omega))
          clear P0
          have P0 := P0'
          clear P0'
          have N2' := Lib.hid (N2.out.st hst.2 (by omega))
          clear N2
          have N2 := N2'
          clear N2'
          have V' := Lib.hid (V.out.kept hst.2 (by omega))
          clear V
          have V := V'
          clear V'
          have N11 := Lib.hid (hn.from (B := w.heap.size) (by omega))
          clear hn
          have S11 := Lib.hid (S10.out.trans hst)
          have z11 := hst.2.size
          clear hst
          have HQ := Lib.hid hq
          clear hx hq
          have q0 := P0.out.c0
          have f0 := P0.out.f0
          go_wp2_with fail
          refine bodyPost_ret (v := nodeV nb11) (by unfold nodeV; simp [results, Tryz.results182, go_sem, q0]) rfl ?_
          rw [HQ.out]
          exact pass_done H.out S11.out N11.out (by omega) _
        · skip
          have HT1 := Lib.hid ht
          clear ht
          refine (take_no E _ j2 d ⟨#[58, 61]⟩ S9.out.1 HT1).mono ?_
          rintro e w12 ⟨rfl, hb⟩
          have P0' := Lib.hid (P0.out.below hb)
          clear P0
          have P0 := P0'
          clear P0'
          have N2' := Lib.hid (N2.out.bl hb)
          clear N2
          have N2 := N2'
          clear N2'
          have V' := Lib.hid (V.out.below hb)
          clear V
          have V := V'
          clear V'
          have S12 := Lib.hid (S9.out.below hb)
          have z12 := hb.size
          clear hb
          go_wp2_with fail
          by_cases ht : (E.T j2).text = cEq
          · skip
            have HT := Lib.hid ht
            clear ht
            have HRS := Lib.hid (run_next (ite_yes (ite_no (ite_no HRK.out (fun h => HO.out h.2.1)) (fun h => HT1.out h.2.2)) ⟨HK1.out, HV.out, HT.out⟩))
            refine (take_yes E _ j2 d ⟨#[61]⟩ S12.out.1 HT (Lib.hid (by decide))).mono ?_
            rintro e w13 ⟨rfl, hst⟩
            have P0' := Lib.hid (P0.out.kept hst.2 (by omega))
            clear P0
            have P0 := P0'
            clear P0'
            have N2' := Lib.hid (N2.out.st hst.2 (by omega))
            clear N2
            have N2 := N2'
            clear N2'
            have V' := Lib.hid (V.out.kept hst.2 (by omega))
            clear V
            have V := V'
            clear V'
            have S13 := Lib.hid (S12.out.trans hst)
            have z13 := hst.2.size
            clear hst
            have V0 := V.out.c0
            go_wp2_with fail
            clear V0
            rcases last_cases HRS.out with ⟨j14, er, hx, hq⟩ | ⟨a14, j14, hx, hq⟩
            · exact (setting_any E _ (j2 + 1) d n ih 8 nb2 a2 _ S13.out.1 (N2.out.weak fun x hx _ => by have h9 : w.heap.size < x := hx; omega) hx).mono fun e w' h => by obtain ⟨rfl, hg⟩ := h; exact ⟨rfl, by rw [hq]; exact ⟨rfl, S13.out.2.trans hg⟩⟩
            refine (setting_any E _ (j2 + 1) d n ih 8 nb2 a2 _ S13.out.1 (N2.out.weak fun x hx _ => by have h9 : w.heap.size < x := hx; omega) hx).mono ?_
            rintro e w14 ⟨v14, rfl, ⟨nb14, hv, hn⟩, hst⟩
            obtain rfl := hv
            unfold nodeV
            have P0' := Lib.hid (P0.out.kept hst.2 (by omega))
            clear P0
            have P0 := P0'
            clear P0'
            have N2' := Lib.hid (N2.out.st hst.2 (by omega))
            clear N2
            have N2 := N2'
            clear N2'
            have V' := Lib.hid (V.out.kept hst.2 (by omega))
            clear V
            have V := V'
            clear V'
            have N14 := Lib.hid (hn.from (B := w.heap.size) (by omega))
            clear hn
            have S14 := Lib.hid (S13.out.trans hst)
            have z14 := hst.2.size
            clear hst
            have HQ := Lib.hid hq
            clear hx hq
            have q0 := P0.out.c0
            have f0 := P0.out.f0
            go_wp2_with fail
            refine bodyPost_ret (v := nodeV nb14) (by unfold nodeV; simp [results, Tryz.results182, go_sem, q0]) rfl ?_
            rw [HQ.out]
            exact pass_done H.out S14.out N14.out (by omega) _
          · skip
            have HT := Lib.hid ht
            clear ht
            refine (take_no E _ j2 d ⟨#[61]⟩ S12.out.1 HT).mono ?_
            rintro e w15 ⟨rfl, hb⟩
            have P0' := Lib.hid (P0.out.below hb)
            clear P0
            have P0 := P0'
            clear P0'
            have N2' := Lib.hid (N2.out.bl hb)
            clear N2
            have N2 := N2'
            clear N2'
            have V' := Lib.hid (V.out.below hb)
            clear V
            have V := V'
            clear V'
            have S15 := Lib.hid (S12.out.below hb)
            have z15 := hb.size
            clear hb
            have HRP := Lib.hid (ite_no (ite_no (ite_no HRK.out (fun h => HO.out h.2.1)) (fun h => HT1.out h.2.2)) (fun h => HT.out h.2.2))
            have V0 := V.out.c0
            go_wp2_with fail
            clear V0
            rcases last_cases HRP.out with ⟨j16, er, hx, hq⟩ | ⟨a16, j16, hx, hq⟩
            · exact (put_any E _ j2 d n ih (w.heap.size + 1) nb2 a2 _ S15.out.1 (by omega) (by omega) (N2.out.weak fun x hx _ => hx) hx).mono fun e w' h => by obtain ⟨rfl, hg⟩ := h; exact ⟨rfl, by rw [hq]; exact ⟨rfl, S15.out.2.trans hg⟩⟩
            refine (put_any E _ j2 d n ih (w.heap.size + 1) nb2 a2 _ S15.out.1 (by omega) (by omega) (N2.out.weak fun x hx _ => hx) hx).mono ?_
            rintro e w16 ⟨v16, rfl, ⟨nb16, hv, hn⟩, hst⟩
            obtain rfl := hv
            unfold nodeV
            have P0' := Lib.hid (P0.out.kept hst.2 (by omega))
            clear P0
            have P0 := P0'
            clear P0'
            have N2' := Lib.hid (N2.out.st hst.2 (by omega))
            clear N2
            have N2 := N2'
            clear N2'
            have V' := Lib.hid (V.out.kept hst.2 (by omega))
            clear V
            have V := V'
            clear V'
            have N16 := Lib.hid (NodeAt.from (B := w.heap.size) hn (by omega))
            clear hn
            have S16 := Lib.hid (S15.out.trans hst)
            have z16 := hst.2.size
            clear hst
            have HQ := Lib.hid hq
            clear hx hq
            have q0 := P0.out.c0
            have f0 := P0.out.f0
            go_wp2_with fail
            refine bodyPost_ret (v := nodeV nb16) (by unfold nodeV; simp [results, Tryz.results182, go_sem, q0]) rfl ?_
            rw [HQ.out]
            exact pass_done H.out S16.out N16.out (by omega) _
      · skip
        have HV := Lib.hid ht
        have bv : ((a2.op : Int) == 18) = false := by simp; omega
        clear ht
        have HRP := Lib.hid (ite_no (ite_no (ite_no HRK.out (fun h => HO.out h.2.1)) (fun h => HV.out h.2.1)) (fun h => HV.out h.2.1))
        have V0 := V.out.c0
        go_wp2_with fail
        clear V0
        rcases last_cases HRP.out with ⟨j17, er, hx, hq⟩ | ⟨a17, j17, hx, hq⟩
        · exact (put_any E _ j2 d n ih (w.heap.size + 1) nb2 a2 _ S9.out.1 (by omega) (by omega) (N2.out.weak fun x hx _ => hx) hx).mono fun e w' h => by obtain ⟨rfl, hg⟩ := h; exact ⟨rfl, by rw [hq]; exact ⟨rfl, S9.out.2.trans hg⟩⟩
        refine (put_any E _ j2 d n ih (w.heap.size + 1) nb2 a2 _ S9.out.1 (by omega) (by omega) (N2.out.weak fun x hx _ => hx) hx).mono ?_
        rintro e w17 ⟨v17, rfl, ⟨nb17, hv, hn⟩, hst⟩
        obtain rfl := hv
        unfold nodeV
        have P0' := Lib.hid (P0.out.kept hst.2 (by omega))
        clear P0
        have P0 := P0'
        clear P0'
        have N2' := Lib.hid (N2.out.st hst.2 (by omega))
        clear N2
        have N2 := N2'
        clear N2'
        have V' := Lib.hid (V.out.kept hst.2 (by omega))
        clear V
        have V := V'
        clear V'
        have N17 := Lib.hid (NodeAt.from (B := w.heap.size) hn (by omega))
        clear hn
        have S17 := Lib.hid (S9.out.trans hst)
        have z17 := hst.2.size
        clear hst
        have HQ := Lib.hid hq
        clear hx hq
        have q0 := P0.out.c0
        have f0 := P0.out.f0
        go_wp2_with fail
        refine bodyPost_ret (v := nodeV nb17) (by unfold nodeV; simp [results, Tryz.results182, go_sem, q0]) rfl ?_
        rw [HQ.out]
        exact pass_done H.out S17.out N17.out (by omega) _
  · skip
    have bk : (((E.T i).kind : Int) == 1) = false := by simp; omega
    have HK1 := Lib.hid ht
    clear ht
    go_wp2_with fail
    rcases bind_cases HR0.out with ⟨j18, er, hx, hq⟩ | ⟨a18, j18, hx, hq⟩
    · exact (primary_any E _ i d n ih _ S1.out.1 hx).mono fun e w' h => by obtain ⟨rfl, hg⟩ := h; exact ⟨rfl, by rw [hq]; exact ⟨rfl, S1.out.2.trans hg⟩⟩
    refine (primary_any E _ i d n ih _ S1.out.1 hx).mono ?_
    rintro e w18 ⟨v18, rfl, ⟨nb18, hv, hn⟩, hst⟩
    obtain rfl := hv
    unfold nodeV
    have P0' := Lib.hid (P0.out.kept hst.2 (by omega))
    clear P0
    have P0 := P0'
    clear P0'
    have N18 := Lib.hid (hn.from (B := w.heap.size) (by omega))
    clear hn
    have S18 := Lib.hid (S1.out.trans hst)
    have z18 := hst.2.size
    clear hst
    have HR18 := Lib.hid hq
    clear hx hq
    have V := Lib.hid (PtrAt.new w18 (some ⟨nb18, 0, none⟩))
    have P0' := Lib.hid (P0.out.below (b1 w18 (.cells #[.pointer (some ⟨nb18, 0, none⟩)] 25)))
    clear P0
    have P0 := P0'
    clear P0'
    have N18' := Lib.hid (N18.out.bl (b1 w18 (.cells #[.pointer (some ⟨nb18, 0, none⟩)] 25)))
    clear N18
    have N18 := N18'
    clear N18'
    have S19 := Lib.hid (S18.out.below (b1 w18 (.cells #[.pointer (some ⟨nb18, 0, none⟩)] 25)))
    have z19 := (b1 w18 (.cells #[.pointer (some ⟨nb18, 0, none⟩)] 25)).size
    have y19 : w18.heap.size < (w18.alloc (.cells #[.pointer (some ⟨nb18, 0, none⟩)] 25)).heap.size := by simp
    have V0 := V.out.c0
    go_wp2_with fail
    generalize w18.alloc (.cells #[.pointer (some ⟨nb18, 0, none⟩)] 25) = w19 at *
    clear V0
    have HRK := Lib.hid (run_peek HR18.out)
    have HRP := Lib.hid (ite_no (ite_no (ite_no HRK.out (fun h => HK1.out h.1)) (fun h => HK1.out h.1)) (fun h => HK1.out h.1))
    rcases last_cases HRP.out with ⟨j20, er, hx, hq⟩ | ⟨a20, j20, hx, hq⟩
    · exact (put_any E _ j18 d n ih (w.heap.size + 1) nb18 a18 _ S19.out.1 (by omega) (by omega) (N18.out.weak fun x hx _ => hx) hx).mono fun e w' h => by obtain ⟨rfl, hg⟩ := h; exact ⟨rfl, by rw [hq]; exact ⟨rfl, S19.out.2.trans hg⟩⟩
    refine (put_any E _ j18 d n ih (w.heap.size + 1) nb18 a18 _ S19.out.1 (by omega) (by omega) (N18.out.weak fun x hx _ => hx) hx).mono ?_
    rintro e w20 ⟨v20, rfl, ⟨nb20, hv, hn⟩, hst⟩
    obtain rfl := hv
    unfold nodeV
    have P0' := Lib.hid (P0.out.kept hst.2 (by omega))
    clear P0
    have P0 := P0'
    clear P0'
    have N18' := Lib.hid (N18.out.st hst.2 (by omega))
    clear N18
    have N18 := N18'
    clear N18'
    have V' := Lib.hid (V.out.kept hst.2 (by omega))
    clear V
    have V := V'
    clear V'
    have N20 := Lib.hid (NodeAt.from (B := w.heap.size) hn (by omega))
    clear hn
    have S20 := Lib.hid (S19.out.trans hst)
    have z20 := hst.2.size
    clear hst
    have HQ := Lib.hid hq
    clear hx hq
    have q0 := P0.out.c0
    have f0 := P0.out.f0
    go_wp2_with fail
    refine bodyPost_ret (v := nodeV nb20) (by unfold nodeV; simp [results, Tryz.results182, go_sem, q0]) rfl ?_
    rw [HQ.out]
    exact pass_done H.out S20.out N20.out (by omega) _

end Go.Proofs.YtkahbhfbgdbnfaaGreatDoor
