/-
  CONTRACTS: print, loop, giveBack of the reader, where calls one step down are as they should be. Nobody but the reader's own block has turned.
-/
import Derived.Test.YtkahbhfbgdbnfaaGreatDoorJ11
import Derived.Test.YtkahbhfbgdbnfaaGreatDoorJ13
namespace Go.Proofs.YtkahbhfbgdbnfaaGreatDoor
open Go.RowKit

set_option maxRecDepth 100000 in
set_option maxHeartbeats 400000 in
theorem print_any (E : Env) (w : World) (i d : Nat) (n : Nat) (ih : IH E n) (r : Res Tree) (h : RD E w i d) (hr : Hid (runW E.T (P E.T n) (print d) i = some r)) :
    Calls Tryz.prog 180 #[.pointer (some ⟨E.rb, 0, none⟩)] w (Q E w d (VN E w.heap.size) r) := by
  have H := Lib.hid h
  have hr1 := h.lt
  have hf0 := tok_kind
  have hf1 := tok_text
  have hf2 := tok_at
  have S0 := Lib.hid (ST.below (ST.refl h) (b1 w (.cells #[.pointer none] 25)))
  have P0 := Lib.hid (PtrAt.new w none)
  have l0 := P0.out.lt
  clear h
  go_enter Tryz.func180, Tryz.ntmps180
  go_wp2_with fail
  generalize w.alloc (.cells #[.pointer none] 25) = wa at *
  rcases bind_cases hr.out with ⟨j1, er, hx, hq⟩ | ⟨a1, j1, hx, hq⟩
  · exact (need_any E _ i d ⟨#[112, 114, 105, 110, 116]⟩ (P E.T n) _ S0.out.1 (Lib.hid (by decide)) hx).mono fun e w' h => by obtain ⟨rfl, hg⟩ := h; exact ⟨rfl, by rw [hq]; exact ⟨rfl, S0.out.2.trans hg⟩⟩
  refine (need_any E _ i d ⟨#[112, 114, 105, 110, 116]⟩ (P E.T n) _ S0.out.1 (Lib.hid (by decide)) hx).mono ?_
  rintro e w1 ⟨v1, rfl, hv, hst⟩
  obtain rfl := hv
  unfold tokV
  have P0' := Lib.hid (P0.out.kept hst.2 (by omega))
  clear P0
  have P0 := P0'
  clear P0'
  have S1 := Lib.hid (S0.out.trans hst)
  have z1 := hst.2.size
  clear hst
  have HR1 := Lib.hid hq
  clear hx hq
  go_wp2_with fail
  rcases bind_cases HR1.out with ⟨j2, er, hx, hq⟩ | ⟨a2, j2, hx, hq⟩
  · exact (bracketed_any E _ j1 d n ih _ S1.out.1 hx).mono fun e w' h => by obtain ⟨rfl, hg⟩ := h; exact ⟨rfl, by rw [hq]; exact ⟨rfl, S1.out.2.trans hg⟩⟩
  refine (bracketed_any E _ j1 d n ih _ S1.out.1 hx).mono ?_
  rintro e w2 ⟨v2, rfl, ⟨nb2, hv, hn⟩, hst⟩
  obtain rfl := hv
  unfold nodeV
  have P0' := Lib.hid (P0.out.kept hst.2 (by omega))
  clear P0
  have P0 := P0'
  clear P0'
  have N2 := Lib.hid (hn.from (B := w.heap.size) (by omega))
  clear hn
  have S2 := Lib.hid (S1.out.trans hst)
  have z2 := hst.2.size
  clear hst
  have HR2 := Lib.hid hq
  clear hx hq
  have V := Lib.hid (PtrAt.new w2 (some ⟨nb2, 0, none⟩))
  have P0' := Lib.hid (P0.out.below (b1 w2 (.cells #[.pointer (some ⟨nb2, 0, none⟩)] 25)))
  clear P0
  have P0 := P0'
  clear P0'
  have N2' := Lib.hid (N2.out.bl (b1 w2 (.cells #[.pointer (some ⟨nb2, 0, none⟩)] 25)))
  clear N2
  have N2 := N2'
  clear N2'
  have S3 := Lib.hid (S2.out.below (b1 w2 (.cells #[.pointer (some ⟨nb2, 0, none⟩)] 25)))
  have z3 := (b1 w2 (.cells #[.pointer (some ⟨nb2, 0, none⟩)] 25)).size
  have y3 : w2.heap.size < (w2.alloc (.cells #[.pointer (some ⟨nb2, 0, none⟩)] 25)).heap.size := by simp
  go_wp2_with fail
  generalize w2.alloc (.cells #[.pointer (some ⟨nb2, 0, none⟩)] 25) = w3 at *
  rcases bind_cases HR2.out with ⟨j4, er, hx, hq⟩ | ⟨a4, j4, hx, hq⟩
  · exact (need_any E _ j2 d ⟨#[59]⟩ (P E.T n) _ S3.out.1 (Lib.hid (by decide)) hx).mono fun e w' h => by obtain ⟨rfl, hg⟩ := h; exact ⟨rfl, by rw [hq]; exact ⟨rfl, S3.out.2.trans hg⟩⟩
  refine (need_any E _ j2 d ⟨#[59]⟩ (P E.T n) _ S3.out.1 (Lib.hid (by decide)) hx).mono ?_
  rintro e w4 ⟨v4, rfl, -, hst⟩
  have P0' := Lib.hid (P0.out.kept hst.2 (by omega))
  clear P0
  have P0 := P0'
  clear P0'
  have N2' := Lib.hid (N2.out.st hst.2 (by omega))
  clear N2
  have N2 := N2'
  clear N2'
  have V' := Lib.hid (V.out.kept hst.2 (by omega))
  clear V
  have V := V'
  clear V'
  have S4 := Lib.hid (S3.out.trans hst)
  have z4 := hst.2.size
  clear hst
  have HR4 := Lib.hid hq
  clear hx hq
  have HQ : Hid (r = .ok (.mk 12 [] [] 0 a1 [a2]) j4) := (Option.some.inj HR4.out).symm
  have V0 := V.out.c0
  have K := Lib.hid (kids_lit1 N2.out (by omega))
  have P0' := Lib.hid (P0.out.below (b1 w4 (.cells #[.pointer (some ⟨nb2, 0, none⟩)] 25)))
  clear P0
  have P0 := P0'
  clear P0'
  have N2' := Lib.hid (N2.out.bl (b1 w4 (.cells #[.pointer (some ⟨nb2, 0, none⟩)] 25)))
  clear N2
  have N2 := N2'
  clear N2'
  have V' := Lib.hid (V.out.below (b1 w4 (.cells #[.pointer (some ⟨nb2, 0, none⟩)] 25)))
  clear V
  have V := V'
  clear V'
  have S5 := Lib.hid (S4.out.below (b1 w4 (.cells #[.pointer (some ⟨nb2, 0, none⟩)] 25)))
  have z5 := (b1 w4 (.cells #[.pointer (some ⟨nb2, 0, none⟩)] 25)).size
  have y5 : w4.heap.size < (w4.alloc (.cells #[.pointer (some ⟨nb2, 0, none⟩)] 25)).heap.size := by simp
  go_wp2_with fail
  generalize w4.alloc (.cells #[.pointer (some ⟨nb2, 0, none⟩)] 25) = w5 at *
  refine (newNode_any _ _ _ _ _ _ _ _ _).mono ?_
  rintro e w9 ⟨rfl, hb9, hrow⟩
  have P9 := P0.out.below hb9
  have q0 := P9.c0
  have f0 := P9.f0
  have HB9 := Lib.hid hb9
  have HROW := Lib.hid hrow
  clear hb9 hrow P9
  unfold nodeV
  go_wp2_with fail
  refine bodyPost_ret (v := nodeV w5.heap.size) (by unfold nodeV; simp [results, Tryz.results180, go_sem, q0]) rfl ?_
  rw [HQ.out]
  have hrow := HROW.out
  exact node_done H.out S5.out K.out (by omega) HB9.out hrow (by omega) (by omega) _

set_option maxRecDepth 100000 in
set_option maxHeartbeats 400000 in
theorem loop_any (E : Env) (w : World) (i d : Nat) (n : Nat) (ih : IH E n) (r : Res Tree) (h : RD E w i d) (hr : Hid (runW E.T (P E.T n) (loop d) i = some r)) :
    Calls Tryz.prog 179 #[.pointer (some ⟨E.rb, 0, none⟩)] w (Q E w d (VN E w.heap.size) r) := by
  have H := Lib.hid h
  have hr1 := h.lt
  have hf0 := tok_kind
  have hf1 := tok_text
  have hf2 := tok_at
  have S0 := Lib.hid (ST.below (ST.refl h) (b1 w (.cells #[.pointer none] 25)))
  have P0 := Lib.hid (PtrAt.new w none)
  have l0 := P0.out.lt
  clear h
  go_enter Tryz.func179, Tryz.ntmps179
  go_wp2_with fail
  generalize w.alloc (.cells #[.pointer none] 25) = wa at *
  rcases bind_cases hr.out with ⟨j1, er, hx, hq⟩ | ⟨a1, j1, hx, hq⟩
  · exact (need_any E _ i d ⟨#[102, 111, 114]⟩ (P E.T n) _ S0.out.1 (Lib.hid (by decide)) hx).mono fun e w' h => by obtain ⟨rfl, hg⟩ := h; exact ⟨rfl, by rw [hq]; exact ⟨rfl, S0.out.2.trans hg⟩⟩
  refine (need_any E _ i d ⟨#[102, 111, 114]⟩ (P E.T n) _ S0.out.1 (Lib.hid (by decide)) hx).mono ?_
  rintro e w1 ⟨v1, rfl, hv, hst⟩
  obtain rfl := hv
  unfold tokV
  have P0' := Lib.hid (P0.out.kept hst.2 (by omega))
  clear P0
  have P0 := P0'
  clear P0'
  have S1 := Lib.hid (S0.out.trans hst)
  have z1 := hst.2.size
  clear hst
  have HR1 := Lib.hid hq
  clear hx hq
  go_wp2_with fail
  rcases bind_cases HR1.out with ⟨j2, er, hx, hq⟩ | ⟨a2, j2, hx, hq⟩
  · exact (expr_any E _ j1 d n ih _ S1.out.1 hx).mono fun e w' h => by obtain ⟨rfl, hg⟩ := h; exact ⟨rfl, by rw [hq]; exact ⟨rfl, S1.out.2.trans hg⟩⟩
  refine (expr_any E _ j1 d n ih _ S1.out.1 hx).mono ?_
  rintro e w2 ⟨v2, rfl, ⟨nb2, hv, hn⟩, hst⟩
  obtain rfl := hv
  unfold nodeV
  have P0' := Lib.hid (P0.out.kept hst.2 (by omega))
  clear P0
  have P0 := P0'
  clear P0'
  have N2 := Lib.hid (hn.from (B := w.heap.size) (by omega))
  clear hn
  have S2 := Lib.hid (S1.out.trans hst)
  have z2 := hst.2.size
  clear hst
  have HR2 := Lib.hid hq
  clear hx hq
  go_wp2_with fail
  rcases bind_cases HR2.out with ⟨j3, er, hx, hq⟩ | ⟨a3, j3, hx, hq⟩
  · exact (block_any E _ j2 d n ih _ S2.out.1 hx).mono fun e w' h => by obtain ⟨rfl, hg⟩ := h; exact ⟨rfl, by rw [hq]; exact ⟨rfl, S2.out.2.trans hg⟩⟩
  refine (block_any E _ j2 d n ih _ S2.out.1 hx).mono ?_
  rintro e w3 ⟨v3, rfl, ⟨nb3, hv, hn⟩, hst⟩
  obtain rfl := hv
  unfold nodeV
  have P0' := Lib.hid (P0.out.kept hst.2 (by omega))
  clear P0
  have P0 := P0'
  clear P0'
  have N2' := Lib.hid (N2.out.st hst.2 (by omega))
  clear N2
  have N2 := N2'
  clear N2'
  have N3 := Lib.hid (hn.from (B := w.heap.size) (by omega))
  clear hn
  have S3 := Lib.hid (S2.out.trans hst)
  have z3 := hst.2.size
  clear hst
  have HR3 := Lib.hid hq
  clear hx hq
  have HQ : Hid (r = .ok (.mk 11 [] [] 0 a1 [a2, a3]) j3) := (Option.some.inj HR3.out).symm
  have K := Lib.hid (kids_lit2 N2.out N3.out (by omega))
  have P0' := Lib.hid (P0.out.below (b1 w3 (.cells #[.pointer (some ⟨nb2, 0, none⟩), .pointer (some ⟨nb3, 0, none⟩)] 25)))
  clear P0
  have P0 := P0'
  clear P0'
  have N2' := Lib.hid (N2.out.bl (b1 w3 (.cells #[.pointer (some ⟨nb2, 0, none⟩), .pointer (some ⟨nb3, 0, none⟩)] 25)))
  clear N2
  have N2 := N2'
  clear N2'
  have N3' := Lib.hid (N3.out.bl (b1 w3 (.cells #[.pointer (some ⟨nb2, 0, none⟩), .pointer (some ⟨nb3, 0, none⟩)] 25)))
  clear N3
  have N3 := N3'
  clear N3'
  have S4 := Lib.hid (S3.out.below (b1 w3 (.cells #[.pointer (some ⟨nb2, 0, none⟩), .pointer (some ⟨nb3, 0, none⟩)] 25)))
  have z4 := (b1 w3 (.cells #[.pointer (some ⟨nb2, 0, none⟩), .pointer (some ⟨nb3, 0, none⟩)] 25)).size
  have y4 : w3.heap.size < (w3.alloc (.cells #[.pointer (some ⟨nb2, 0, none⟩), .pointer (some ⟨nb3, 0, none⟩)] 25)).heap.size := by simp
  go_wp2_with fail
  generalize w3.alloc (.cells #[.pointer (some ⟨nb2, 0, none⟩), .pointer (some ⟨nb3, 0, none⟩)] 25) = w4 at *
  refine (newNode_any _ _ _ _ _ _ _ _ _).mono ?_
  rintro e w9 ⟨rfl, hb9, hrow⟩
  have P9 := P0.out.below hb9
  have q0 := P9.c0
  have f0 := P9.f0
  have HB9 := Lib.hid hb9
  have HROW := Lib.hid hrow
  clear hb9 hrow P9
  unfold nodeV
  go_wp2_with fail
  refine bodyPost_ret (v := nodeV w4.heap.size) (by unfold nodeV; simp [results, Tryz.results179, go_sem, q0]) rfl ?_
  rw [HQ.out]
  have hrow := HROW.out
  exact node_done H.out S4.out K.out (by omega) HB9.out hrow (by omega) (by omega) _

set_option maxRecDepth 100000 in
set_option maxHeartbeats 400000 in
theorem giveBack_any (E : Env) (w : World) (i d : Nat) (n : Nat) (ih : IH E n) (r : Res Tree) (h : RD E w i d) (hr : Hid (runW E.T (P E.T n) (giveBack d) i = some r)) :
    Calls Tryz.prog 181 #[.pointer (some ⟨E.rb, 0, none⟩)] w (Q E w d (VN E w.heap.size) r) := by
  have H := Lib.hid h
  have hr1 := h.lt
  have hf0 := tok_kind
  have hf1 := tok_text
  have hf2 := tok_at
  have S0 := Lib.hid (ST.below (ST.refl h) (b1 w (.cells #[.pointer none] 25)))
  have P0 := Lib.hid (PtrAt.new w none)
  have l0 := P0.out.lt
  clear h
  go_enter Tryz.func181, Tryz.ntmps181
  go_wp2_with fail
  generalize w.alloc (.cells #[.pointer none] 25) = wa at *
  rcases bind_cases hr.out with ⟨j1, er, hx, hq⟩ | ⟨a1, j1, hx, hq⟩
  · exact (need_any E _ i d ⟨#[114, 101, 116, 117, 114, 110]⟩ (P E.T n) _ S0.out.1 (Lib.hid (by decide)) hx).mono fun e w' h => by obtain ⟨rfl, hg⟩ := h; exact ⟨rfl, by rw [hq]; exact ⟨rfl, S0.out.2.trans hg⟩⟩
  refine (need_any E _ i d ⟨#[114, 101, 116, 117, 114, 110]⟩ (P E.T n) _ S0.out.1 (Lib.hid (by decide)) hx).mono ?_
  rintro e w1 ⟨v1, rfl, hv, hst⟩
  obtain rfl := hv
  unfold tokV
  have P0' := Lib.hid (P0.out.kept hst.2 (by omega))
  clear P0
  have P0 := P0'
  clear P0'
  have S1 := Lib.hid (S0.out.trans hst)
  have z1 := hst.2.size
  clear hst
  have HR1 := Lib.hid hq
  clear hx hq
  go_wp2_with fail
  by_cases ht : (E.T j1).text = cSemi
  · skip
    rcases bind_cases HR1.out with ⟨j9, er, hx, hq⟩ | ⟨a9, j9, hx, hq⟩
    · exact absurd (run_ret (peek_yes hx ht)) (by simp)
    have e9 := run_ret (peek_yes hx ht)
    injection e9 with e1 e2
    subst e1
    subst e2
    have HR9 := Lib.hid hq
    clear hx hq
    refine (is_yes E _ j9 d ⟨#[59]⟩ S1.out.1 ht).mono ?_
    rintro e w2 ⟨rfl, hb⟩
    have P0' := Lib.hid (P0.out.below hb)
    clear P0
    have P0 := P0'
    clear P0'
    have S2 := Lib.hid (S1.out.below hb)
    have z2 := hb.size
    clear hb
    clear ht
    go_wp2_with fail
    rcases bind_cases HR9.out with ⟨j3, er, hx, hq⟩ | ⟨a3, j3, hx, hq⟩
    · exact (need_any E _ j9 d ⟨#[59]⟩ (P E.T n) _ S2.out.1 (Lib.hid (by decide)) hx).mono fun e w' h => by obtain ⟨rfl, hg⟩ := h; exact ⟨rfl, by rw [hq]; exact ⟨rfl, S2.out.2.trans hg⟩⟩
    refine (need_any E _ j9 d ⟨#[59]⟩ (P E.T n) _ S2.out.1 (Lib.hid (by decide)) hx).mono ?_
    rintro e w3 ⟨v3, rfl, -, hst⟩
    have P0' := Lib.hid (P0.out.kept hst.2 (by omega))
    clear P0
    have P0 := P0'
    clear P0'
    have S3 := Lib.hid (S2.out.trans hst)
    have z3 := hst.2.size
    clear hst
    have HR3 := Lib.hid hq
    clear hx hq
    have HQ : Hid (r = .ok (.mk 13 [] [] 0 a1 []) j3) := (Option.some.inj HR3.out).symm
    go_wp2_with fail
    refine (newNode_any _ _ _ _ _ _ _ _ _).mono ?_
    rintro e w9 ⟨rfl, hb9, hrow⟩
    have P9 := P0.out.below hb9
    have q0 := P9.c0
    have f0 := P9.f0
    have HB9 := Lib.hid hb9
    have HROW := Lib.hid hrow
    clear hb9 hrow P9
    unfold nodeV
    go_wp2_with fail
    refine bodyPost_ret (v := nodeV w3.heap.size) (by unfold nodeV; simp [results, Tryz.results181, go_sem, q0]) rfl ?_
    rw [HQ.out]
    have hrow := HROW.out
    exact node_done H.out S3.out (KidsIn.nil (fun x => w.heap.size < x) E.pl w3) (by omega) HB9.out hrow (by omega) (by omega) _
  · skip
    refine (is_no E _ j1 d ⟨#[59]⟩ S1.out.1 ht).mono ?_
    rintro e w4 ⟨rfl, hb⟩
    have P0' := Lib.hid (P0.out.below hb)
    clear P0
    have P0 := P0'
    clear P0'
    have S4 := Lib.hid (S1.out.below hb)
    have z4 := hb.size
    clear hb
    go_wp2_with fail
    rcases bind_cases HR1.out with ⟨j9, er, hx9, hq9⟩ | ⟨a9, j9, hx9, hq9⟩
    · rcases bind_cases (peek_no hx9 ht) with ⟨j8, er8, hx, hq⟩ | ⟨a8, j8, hx, hq⟩
      · cases hq; exact (expr_any E _ j1 d n ih _ S4.out.1 (Lib.hid hx)).mono fun e w' h => by obtain ⟨rfl, hg⟩ := h; exact ⟨rfl, by rw [hq9]; exact ⟨rfl, S4.out.2.trans hg⟩⟩
      · exact absurd (run_ret hq) (by simp)
    rcases bind_cases (peek_no hx9 ht) with ⟨j8, er8, hx, hq⟩ | ⟨a8, j8, hx, hq⟩
    · exact absurd hq (by simp)
    have e9 := run_ret hq
    injection e9 with e1 e2
    subst e1
    subst e2
    have HR9 := Lib.hid hq9
    clear hq9 hx9 hq ht
    have KL := Lib.hid ((KidsIn.nil (fun x => w.heap.size < x) E.pl w4).lt)
    have K := Lib.hid (KidsIn.nil (fun x => w.heap.size < x) E.pl w4)
    refine (expr_any E _ j1 d n ih _ S4.out.1 (Lib.hid hx)).mono ?_
    rintro e w8 ⟨v8, rfl, ⟨nb8, hv, hn⟩, hst⟩
    obtain rfl := hv
    unfold nodeV
    have P0' := Lib.hid (P0.out.kept hst.2 (by omega))
    clear P0
    have P0 := P0'
    clear P0'
    have K' := Lib.hid (K.out.st hst.2 (by omega))
    clear K
    have K := K'
    clear K'
    have N8 := Lib.hid (hn.from (B := w.heap.size) (by omega))
    have M8 := Lib.hid hn
    clear hn
    have S8 := Lib.hid (S4.out.trans hst)
    have z8 := hst.2.size
    clear hst
    clear hx
    have L := Lib.hid (show (w8.alloc (.cells #[.pointer (some ⟨nb8, 0, none⟩)] 25)).cell? ⟨w8.heap.size, 0, none⟩ = some (.pointer (some ⟨nb8, 0, none⟩)) by simp [go_sem])
    have P0' := Lib.hid (P0.out.below (b1 w8 (.cells #[.pointer (some ⟨nb8, 0, none⟩)] 25)))
    clear P0
    have P0 := P0'
    clear P0'
    have K' := Lib.hid (K.out.bl (b1 w8 (.cells #[.pointer (some ⟨nb8, 0, none⟩)] 25)))
    clear K
    have K := K'
    clear K'
    have N8' := Lib.hid (N8.out.bl (b1 w8 (.cells #[.pointer (some ⟨nb8, 0, none⟩)] 25)))
    clear N8
    have N8 := N8'
    clear N8'
    have M8' := Lib.hid (M8.out.bl (b1 w8 (.cells #[.pointer (some ⟨nb8, 0, none⟩)] 25)))
    clear M8
    have M8 := M8'
    clear M8'
    have S9 := Lib.hid (S8.out.below (b1 w8 (.cells #[.pointer (some ⟨nb8, 0, none⟩)] 25)))
    have z9 := (b1 w8 (.cells #[.pointer (some ⟨nb8, 0, none⟩)] 25)).size
    have y9 : w8.heap.size < (w8.alloc (.cells #[.pointer (some ⟨nb8, 0, none⟩)] 25)).heap.size := by simp
    go_wp2_with (at_builtin; refine Hid.out ?_)
    generalize w8.alloc (.cells #[.pointer (some ⟨nb8, 0, none⟩)] 25) = w9 at *
    refine Lib.hid ?_
    refine wpList_append_kid rfl (.tmp 11) (.tmp 14) rfl w.heap.size E.pl _ 0 [] rfl K.out nb8 a8 N8.out (fun g hg => M8.out.weak fun x hx _ => ⟨by omega, by have := KL.out g hg; omega⟩) _ rfl L.out (by omega) (by omega) ?_
    intro g10 cap10 w10 hk hg hy
    have P0' := Lib.hid (P0.out.grow hg (fun e => by have := hy _ e; omega))
    clear P0
    have P0 := P0'
    clear P0'
    have S10 := Lib.hid (ST.grow H.out S9.out hg (fun y e => by have := hy y e; omega))
    have z10 := hg.size
    clear K
    have K := Lib.hid hk
    clear hk hg hy
    go_wp2_with fail
    rcases bind_cases HR9.out with ⟨j11, er, hx, hq⟩ | ⟨a11, j11, hx, hq⟩
    · exact (need_any E _ j9 d ⟨#[59]⟩ (P E.T n) _ S10.out.1 (Lib.hid (by decide)) hx).mono fun e w' h => by obtain ⟨rfl, hg⟩ := h; exact ⟨rfl, by rw [hq]; exact ⟨rfl, S10.out.2.trans hg⟩⟩
    refine (need_any E _ j9 d ⟨#[59]⟩ (P E.T n) _ S10.out.1 (Lib.hid (by decide)) hx).mono ?_
    rintro e w11 ⟨v11, rfl, -, hst⟩
    have P0' := Lib.hid (P0.out.kept hst.2 (by omega))
    clear P0
    have P0 := P0'
    clear P0'
    have K' := Lib.hid (K.out.st hst.2 (by omega))
    clear K
    have K := K'
    clear K'
    have S11 := Lib.hid (S10.out.trans hst)
    have z11 := hst.2.size
    clear hst
    have HR11 := Lib.hid hq
    clear hx hq
    have HQ : Hid (r = .ok (.mk 13 [] [] 0 a1 [a8]) j11) := (Option.some.inj HR11.out).symm
    go_wp2_with fail
    refine (newNode_any _ _ _ _ _ _ _ _ _).mono ?_
    rintro e w9 ⟨rfl, hb9, hrow⟩
    have P9 := P0.out.below hb9
    have q0 := P9.c0
    have f0 := P9.f0
    have HB9 := Lib.hid hb9
    have HROW := Lib.hid hrow
    clear hb9 hrow P9
    unfold nodeV
    go_wp2_with fail
    refine bodyPost_ret (v := nodeV w11.heap.size) (by unfold nodeV; simp [results, Tryz.results181, go_sem, q0]) rfl ?_
    rw [HQ.out]
    have hrow := HROW.out
    exact node_done H.out S11.out K.out (by omega) HB9.out hrow (by omega) (by omega) _

end Go.Proofs.YtkahbhfbgdbnfaaGreatDoor

/-
  CONTRACT: statement of the reader, where calls one step down are as they should be. Nobody but the reader's own block has turned.
-/
namespace Go.Proofs.YtkahbhfbgdbnfaaGreatDoor
open Go.RowKit

set_option maxRecDepth 100000 in
set_option maxHeartbeats 1000000 in
theorem statement_any (E : Env) (w : World) (i d : Nat) (n : Nat) (ih : IH E n) (r : Res Tree) (h : RD E w i d) (hr : Hid (runW E.T (P E.T n) (stmt d) i = some r)) :
    Calls Tryz.prog 164 #[.pointer (some ⟨E.rb, 0, none⟩)] w (Q E w d (VN E w.heap.size) r) := by
  have H := Lib.hid h
  have hr1 := h.lt
  have hf0 := tok_kind
  have hf1 := tok_text
  have hf2 := tok_at
  have S0 := Lib.hid (ST.below (ST.refl h) (b1 w (.cells #[.pointer none] 25)))
  have P0 := Lib.hid (PtrAt.new w none)
  have l0 := P0.out.lt
  clear h
  go_enter Tryz.func164, Tryz.ntmps164
  go_wp2_with fail
  generalize w.alloc (.cells #[.pointer none] 25) = wa at *
  refine (peek_any E _ i d S0.out.1).mono ?_
  rintro e w1 ⟨rfl, hb⟩
  have P0' := Lib.hid (P0.out.below hb)
  clear P0
  have P0 := P0'
  clear P0'
  have S1 := Lib.hid (S0.out.below hb)
  have z1 := hb.size
  clear hb
  unfold tokV
  have HR0 := Lib.hid (run_peek hr.out)
  by_cases ht : (E.T i).text = kIf
  · skip
    have HR20 := Lib.hid (ite_yes HR0.out ht)
    have ty : ((E.T i).text == [105, 102]) = true := by rw [ht]; rfl
    clear ht
    go_wp2_with fail
    rcases call_cases HR20.out with ⟨j2, er, hx, hq⟩ | ⟨a2, j2, hx, hq⟩
    · exact (ih.branch _ i d _ S1.out.1 hx).mono fun e w' h => by obtain ⟨rfl, hg⟩ := h; exact ⟨rfl, by rw [hq]; exact ⟨rfl, S1.out.2.trans hg⟩⟩
    refine (ih.branch _ i d _ S1.out.1 hx).mono ?_
    rintro e w2 ⟨v2, rfl, ⟨nb2, hv, hn⟩, hst⟩
    obtain rfl := hv
    unfold nodeV
    have P0' := Lib.hid (P0.out.kept hst.2 (by omega))
    clear P0
    have P0 := P0'
    clear P0'
    have N2 := Lib.hid (hn.from (B := w.heap.size) (by omega))
    clear hn
    have S2 := Lib.hid (S1.out.trans hst)
    have z2 := hst.2.size
    clear hst
    have HQ := Lib.hid (run_ret hq)
    clear hx hq
    have q0 := P0.out.c0
    have f0 := P0.out.f0
    go_wp2_with fail
    refine bodyPost_ret (v := nodeV nb2) (by unfold nodeV; simp [results, Tryz.results164, go_sem, q0]) rfl ?_
    rw [HQ.out]
    exact pass_done H.out S2.out N2.out (by omega) _
  · skip
    have HR1 := Lib.hid (ite_no HR0.out ht)
    have nt0 : ((E.T i).text == [105, 102]) = false := by simpa using ht
    clear ht
    by_cases ht : (E.T i).text = kFor
    · skip
      have HR21 := Lib.hid (ite_yes HR1.out ht)
      have ty : ((E.T i).text == [102, 111, 114]) = true := by rw [ht]; rfl
      clear ht
      go_wp2_with fail
      rcases last_cases HR21.out with ⟨j3, er, hx, hq⟩ | ⟨a3, j3, hx, hq⟩
      · exact (loop_any E _ i d n ih _ S1.out.1 hx).mono fun e w' h => by obtain ⟨rfl, hg⟩ := h; exact ⟨rfl, by rw [hq]; exact ⟨rfl, S1.out.2.trans hg⟩⟩
      refine (loop_any E _ i d n ih _ S1.out.1 hx).mono ?_
      rintro e w3 ⟨v3, rfl, ⟨nb3, hv, hn⟩, hst⟩
      obtain rfl := hv
      unfold nodeV
      have P0' := Lib.hid (P0.out.kept hst.2 (by omega))
      clear P0
      have P0 := P0'
      clear P0'
      have N3 := Lib.hid (hn.from (B := w.heap.size) (by omega))
      clear hn
      have S3 := Lib.hid (S1.out.trans hst)
      have z3 := hst.2.size
      clear hst
      have HQ := Lib.hid hq
      clear hx hq
      have q0 := P0.out.c0
      have f0 := P0.out.f0
      go_wp2_with fail
      refine bodyPost_ret (v := nodeV nb3) (by unfold nodeV; simp [results, Tryz.results164, go_sem, q0]) rfl ?_
      rw [HQ.out]
      exact pass_done H.out S3.out N3.out (by omega) _
    · skip
      have HR2 := Lib.hid (ite_no HR1.out ht)
      have nt1 : ((E.T i).text == [102, 111, 114]) = false := by simpa using ht
      clear ht
      by_cases ht : (E.T i).text = kPrint
      · skip
        have HR22 := Lib.hid (ite_yes HR2.out ht)
        have ty : ((E.T i).text == [112, 114, 105, 110, 116]) = true := by rw [ht]; rfl
        clear ht
        go_wp2_with fail
        rcases last_cases HR22.out with ⟨j4, er, hx, hq⟩ | ⟨a4, j4, hx, hq⟩
        · exact (print_any E _ i d n ih _ S1.out.1 hx).mono fun e w' h => by obtain ⟨rfl, hg⟩ := h; exact ⟨rfl, by rw [hq]; exact ⟨rfl, S1.out.2.trans hg⟩⟩
        refine (print_any E _ i d n ih _ S1.out.1 hx).mono ?_
        rintro e w4 ⟨v4, rfl, ⟨nb4, hv, hn⟩, hst⟩
        obtain rfl := hv
        unfold nodeV
        have P0' := Lib.hid (P0.out.kept hst.2 (by omega))
        clear P0
        have P0 := P0'
        clear P0'
        have N4 := Lib.hid (hn.from (B := w.heap.size) (by omega))
        clear hn
        have S4 := Lib.hid (S1.out.trans hst)
        have z4 := hst.2.size
        clear hst
        have HQ := Lib.hid hq
        clear hx hq
        have q0 := P0.out.c0
        have f0 := P0.out.f0
        go_wp2_with fail
        refine bodyPost_ret (v := nodeV nb4) (by unfold nodeV; simp [results, Tryz.results164, go_sem, q0]) rfl ?_
        rw [HQ.out]
        exact pass_done H.out S4.out N4.out (by omega) _
      · skip
        have HR3 := Lib.hid (ite_no HR2.out ht)
        have nt2 : ((E.T i).text == [112, 114, 105, 110, 116]) = false := by simpa using ht
        clear ht
        by_cases ht : (E.T i).text = kReturn
        · skip
          have HR23 := Lib.hid (ite_yes HR3.out ht)
          have ty : ((E.T i).text == [114, 101, 116, 117, 114, 110]) = true := by rw [ht]; rfl
          clear ht
          go_wp2_with fail
          rcases last_cases HR23.out with ⟨j5, er, hx, hq⟩ | ⟨a5, j5, hx, hq⟩
          · exact (giveBack_any E _ i d n ih _ S1.out.1 hx).mono fun e w' h => by obtain ⟨rfl, hg⟩ := h; exact ⟨rfl, by rw [hq]; exact ⟨rfl, S1.out.2.trans hg⟩⟩
          refine (giveBack_any E _ i d n ih _ S1.out.1 hx).mono ?_
          rintro e w5 ⟨v5, rfl, ⟨nb5, hv, hn⟩, hst⟩
          obtain rfl := hv
          unfold nodeV
          have P0' := Lib.hid (P0.out.kept hst.2 (by omega))
          clear P0
          have P0 := P0'
          clear P0'
          have N5 := Lib.hid (hn.from (B := w.heap.size) (by omega))
          clear hn
          have S5 := Lib.hid (S1.out.trans hst)
          have z5 := hst.2.size
          clear hst
          have HQ := Lib.hid hq
          clear hx hq
          have q0 := P0.out.c0
          have f0 := P0.out.f0
          go_wp2_with fail
          refine bodyPost_ret (v := nodeV nb5) (by unfold nodeV; simp [results, Tryz.results164, go_sem, q0]) rfl ?_
          rw [HQ.out]
          exact pass_done H.out S5.out N5.out (by omega) _
        · skip
          have HR4 := Lib.hid (ite_no HR3.out ht)
          have nt3 : ((E.T i).text == [114, 101, 116, 117, 114, 110]) = false := by simpa using ht
          clear ht
          go_wp2_with fail
          rcases last_cases HR4.out with ⟨j6, er, hx, hq⟩ | ⟨a6, j6, hx, hq⟩
          · exact (simple_any E _ i d n ih _ S1.out.1 hx).mono fun e w' h => by obtain ⟨rfl, hg⟩ := h; exact ⟨rfl, by rw [hq]; exact ⟨rfl, S1.out.2.trans hg⟩⟩
          refine (simple_any E _ i d n ih _ S1.out.1 hx).mono ?_
          rintro e w6 ⟨v6, rfl, ⟨nb6, hv, hn⟩, hst⟩
          obtain rfl := hv
          unfold nodeV
          have P0' := Lib.hid (P0.out.kept hst.2 (by omega))
          clear P0
          have P0 := P0'
          clear P0'
          have N6 := Lib.hid (hn.from (B := w.heap.size) (by omega))
          clear hn
          have S6 := Lib.hid (S1.out.trans hst)
          have z6 := hst.2.size
          clear hst
          have HQ := Lib.hid hq
          clear hx hq
          have q0 := P0.out.c0
          have f0 := P0.out.f0
          go_wp2_with fail
          refine bodyPost_ret (v := nodeV nb6) (by unfold nodeV; simp [results, Tryz.results164, go_sem, q0]) rfl ?_
          rw [HQ.out]
          exact pass_done H.out S6.out N6.out (by omega) _

end Go.Proofs.YtkahbhfbgdbnfaaGreatDoor

/-
  CONTRACTS: otherwise, branch of the reader, where calls one step down are as they should be. Nobody but the reader's own block has turned.
-/
namespace Go.Proofs.YtkahbhfbgdbnfaaGreatDoor
open Go.RowKit

set_option maxRecDepth 100000 in
set_option maxHeartbeats 400000 in
theorem otherwise_any (E : Env) (w : World) (i d : Nat) (n : Nat) (ih : IH E n) (r : Res Tree) (h : RD E w i d) (hr : Hid (runW E.T (P E.T n) (other d) i = some r)) :
    Calls Tryz.prog 198 #[.pointer (some ⟨E.rb, 0, none⟩)] w (Q E w d (VN E w.heap.size) r) := by
  have H := Lib.hid h
  have hr1 := h.lt
  have hf0 := tok_kind
  have hf1 := tok_text
  have hf2 := tok_at
  have S0 := Lib.hid (ST.below (ST.refl h) (b1 w (.cells #[.pointer none] 25)))
  have P0 := Lib.hid (PtrAt.new w none)
  have l0 := P0.out.lt
  clear h
  go_enter Tryz.func198, Tryz.ntmps198
  go_wp2_with fail
  generalize w.alloc (.cells #[.pointer none] 25) = wa at *
  by_cases ht : (E.T i).text = kIf
  · skip
    have h0 := peek_yes hr.out ht
    have HR1 := Lib.hid h0
    clear h0
    refine (is_yes E _ i d ⟨#[105, 102]⟩ S0.out.1 ht).mono ?_
    rintro e w2 ⟨rfl, hb⟩
    have P0' := Lib.hid (P0.out.below hb)
    clear P0
    have P0 := P0'
    clear P0'
    have S2 := Lib.hid (S0.out.below hb)
    have z2 := hb.size
    clear hb
    clear ht
    go_wp2_with fail
    rcases call_cases HR1.out with ⟨j3, er, hx, hq⟩ | ⟨a3, j3, hx, hq⟩
    · exact (ih.branch _ i d _ S2.out.1 hx).mono fun e w' h => by obtain ⟨rfl, hg⟩ := h; exact ⟨rfl, by rw [hq]; exact ⟨rfl, S2.out.2.trans hg⟩⟩
    refine (ih.branch _ i d _ S2.out.1 hx).mono ?_
    rintro e w3 ⟨v3, rfl, ⟨nb3, hv, hn⟩, hst⟩
    obtain rfl := hv
    unfold nodeV
    have P0' := Lib.hid (P0.out.kept hst.2 (by omega))
    clear P0
    have P0 := P0'
    clear P0'
    have N3 := Lib.hid (hn.from (B := w.heap.size) (by omega))
    clear hn
    have S3 := Lib.hid (S2.out.trans hst)
    have z3 := hst.2.size
    clear hst
    have HQ := Lib.hid (run_ret hq)
    clear hx hq
    have q0 := P0.out.c0
    have f0 := P0.out.f0
    go_wp2_with fail
    refine bodyPost_ret (v := nodeV nb3) (by unfold nodeV; simp [results, Tryz.results198, go_sem, q0]) rfl ?_
    rw [HQ.out]
    exact pass_done H.out S3.out N3.out (by omega) _
  · skip
    have HR4 := Lib.hid (peek_no hr.out ht)
    refine (is_no E _ i d ⟨#[105, 102]⟩ S0.out.1 ht).mono ?_
    rintro e w5 ⟨rfl, hb⟩
    have P0' := Lib.hid (P0.out.below hb)
    clear P0
    have P0 := P0'
    clear P0'
    have S5 := Lib.hid (S0.out.below hb)
    have z5 := hb.size
    clear hb
    clear ht
    go_wp2_with fail
    rcases last_cases HR4.out with ⟨j6, er, hx, hq⟩ | ⟨a6, j6, hx, hq⟩
    · exact (block_any E _ i d n ih _ S5.out.1 hx).mono fun e w' h => by obtain ⟨rfl, hg⟩ := h; exact ⟨rfl, by rw [hq]; exact ⟨rfl, S5.out.2.trans hg⟩⟩
    refine (block_any E _ i d n ih _ S5.out.1 hx).mono ?_
    rintro e w6 ⟨v6, rfl, ⟨nb6, hv, hn⟩, hst⟩
    obtain rfl := hv
    unfold nodeV
    have P0' := Lib.hid (P0.out.kept hst.2 (by omega))
    clear P0
    have P0 := P0'
    clear P0'
    have N6 := Lib.hid (hn.from (B := w.heap.size) (by omega))
    clear hn
    have S6 := Lib.hid (S5.out.trans hst)
    have z6 := hst.2.size
    clear hst
    have HQ := Lib.hid hq
    clear hx hq
    have q0 := P0.out.c0
    have f0 := P0.out.f0
    go_wp2_with fail
    refine bodyPost_ret (v := nodeV nb6) (by unfold nodeV; simp [results, Tryz.results198, go_sem, q0]) rfl ?_
    rw [HQ.out]
    exact pass_done H.out S6.out N6.out (by omega) _

set_option maxRecDepth 100000 in
set_option maxHeartbeats 400000 in
theorem branch_any (E : Env) (w : World) (i d : Nat) (n : Nat) (ih : IH E n) (r : Res Tree) (h : RD E w i d) (hr : Hid (runW E.T (P E.T n) (branch d) i = some r)) :
    Calls Tryz.prog 178 #[.pointer (some ⟨E.rb, 0, none⟩)] w (Q E w d (VN E w.heap.size) r) := by
  have H := Lib.hid h
  have hr1 := h.lt
  have hf0 := tok_kind
  have hf1 := tok_text
  have hf2 := tok_at
  have S0 := Lib.hid (ST.below (ST.refl h) (b1 w (.cells #[.pointer none] 25)))
  have P0 := Lib.hid (PtrAt.new w none)
  have l0 := P0.out.lt
  clear h
  go_enter Tryz.func178, Tryz.ntmps178
  go_wp2_with fail
  generalize w.alloc (.cells #[.pointer none] 25) = wa at *
  rcases bind_cases hr.out with ⟨j1, er, hx, hq⟩ | ⟨a1, j1, hx, hq⟩
  · exact (need_any E _ i d ⟨#[105, 102]⟩ (P E.T n) _ S0.out.1 (Lib.hid (by decide)) hx).mono fun e w' h => by obtain ⟨rfl, hg⟩ := h; exact ⟨rfl, by rw [hq]; exact ⟨rfl, S0.out.2.trans hg⟩⟩
  refine (need_any E _ i d ⟨#[105, 102]⟩ (P E.T n) _ S0.out.1 (Lib.hid (by decide)) hx).mono ?_
  rintro e w1 ⟨v1, rfl, hv, hst⟩
  obtain rfl := hv
  unfold tokV
  have P0' := Lib.hid (P0.out.kept hst.2 (by omega))
  clear P0
  have P0 := P0'
  clear P0'
  have S1 := Lib.hid (S0.out.trans hst)
  have z1 := hst.2.size
  clear hst
  have HR1 := Lib.hid hq
  clear hx hq
  go_wp2_with fail
  rcases bind_cases HR1.out with ⟨j2, er, hx, hq⟩ | ⟨a2, j2, hx, hq⟩
  · exact (expr_any E _ j1 d n ih _ S1.out.1 hx).mono fun e w' h => by obtain ⟨rfl, hg⟩ := h; exact ⟨rfl, by rw [hq]; exact ⟨rfl, S1.out.2.trans hg⟩⟩
  refine (expr_any E _ j1 d n ih _ S1.out.1 hx).mono ?_
  rintro e w2 ⟨v2, rfl, ⟨nb2, hv, hn⟩, hst⟩
  obtain rfl := hv
  unfold nodeV
  have P0' := Lib.hid (P0.out.kept hst.2 (by omega))
  clear P0
  have P0 := P0'
  clear P0'
  have N2 := Lib.hid (hn.from (B := w.heap.size) (by omega))
  clear hn
  have S2 := Lib.hid (S1.out.trans hst)
  have z2 := hst.2.size
  clear hst
  have HR2 := Lib.hid hq
  clear hx hq
  go_wp2_with fail
  rcases bind_cases HR2.out with ⟨j3, er, hx, hq⟩ | ⟨a3, j3, hx, hq⟩
  · exact (block_any E _ j2 d n ih _ S2.out.1 hx).mono fun e w' h => by obtain ⟨rfl, hg⟩ := h; exact ⟨rfl, by rw [hq]; exact ⟨rfl, S2.out.2.trans hg⟩⟩
  refine (block_any E _ j2 d n ih _ S2.out.1 hx).mono ?_
  rintro e w3 ⟨v3, rfl, ⟨nb3, hv, hn⟩, hst⟩
  obtain rfl := hv
  unfold nodeV
  have P0' := Lib.hid (P0.out.kept hst.2 (by omega))
  clear P0
  have P0 := P0'
  clear P0'
  have N2' := Lib.hid (N2.out.st hst.2 (by omega))
  clear N2
  have N2 := N2'
  clear N2'
  have N3 := Lib.hid (hn.from (B := w.heap.size) (by omega))
  clear hn
  have S3 := Lib.hid (S2.out.trans hst)
  have z3 := hst.2.size
  clear hst
  have HR3 := Lib.hid hq
  clear hx hq
  have K := Lib.hid (kids_lit2 N2.out N3.out (by omega))
  have P0' := Lib.hid (P0.out.below (b1 w3 (.cells #[.pointer (some ⟨nb2, 0, none⟩), .pointer (some ⟨nb3, 0, none⟩)] 25)))
  clear P0
  have P0 := P0'
  clear P0'
  have N2' := Lib.hid (N2.out.bl (b1 w3 (.cells #[.pointer (some ⟨nb2, 0, none⟩), .pointer (some ⟨nb3, 0, none⟩)] 25)))
  clear N2
  have N2 := N2'
  clear N2'
  have N3' := Lib.hid (N3.out.bl (b1 w3 (.cells #[.pointer (some ⟨nb2, 0, none⟩), .pointer (some ⟨nb3, 0, none⟩)] 25)))
  clear N3
  have N3 := N3'
  clear N3'
  have S4 := Lib.hid (S3.out.below (b1 w3 (.cells #[.pointer (some ⟨nb2, 0, none⟩), .pointer (some ⟨nb3, 0, none⟩)] 25)))
  have z4 := (b1 w3 (.cells #[.pointer (some ⟨nb2, 0, none⟩), .pointer (some ⟨nb3, 0, none⟩)] 25)).size
  have y4 : w3.heap.size < (w3.alloc (.cells #[.pointer (some ⟨nb2, 0, none⟩), .pointer (some ⟨nb3, 0, none⟩)] 25)).heap.size := by simp
  go_wp2_with fail
  generalize w3.alloc (.cells #[.pointer (some ⟨nb2, 0, none⟩), .pointer (some ⟨nb3, 0, none⟩)] 25) = w4 at *
  by_cases ht : (E.T j3).text = kElse
  · skip
    have h0 := peek_yes HR3.out ht
    have HR5 := Lib.hid (run_next h0)
    clear h0
    refine (take_yes E _ j3 d ⟨#[101, 108, 115, 101]⟩ S4.out.1 ht (Lib.hid (by decide))).mono ?_
    rintro e w6 ⟨rfl, hst⟩
    have P0' := Lib.hid (P0.out.kept hst.2 (by omega))
    clear P0
    have P0 := P0'
    clear P0'
    have N2' := Lib.hid (N2.out.st hst.2 (by omega))
    clear N2
    have N2 := N2'
    clear N2'
    have N3' := Lib.hid (N3.out.st hst.2 (by omega))
    clear N3
    have N3 := N3'
    clear N3'
    have K' := Lib.hid (K.out.st hst.2 (by omega))
    clear K
    have K := K'
    clear K'
    have S6 := Lib.hid (S4.out.trans hst)
    have z6 := hst.2.size
    clear hst
    clear ht
    go_wp2_with fail
    have KL := Lib.hid K.out.lt
    rcases bind_cases HR5.out with ⟨j7, er, hx, hq⟩ | ⟨a7, j7, hx, hq⟩
    · exact (otherwise_any E _ (j3 + 1) d n ih _ S6.out.1 hx).mono fun e w' h => by obtain ⟨rfl, hg⟩ := h; exact ⟨rfl, by rw [hq]; exact ⟨rfl, S6.out.2.trans hg⟩⟩
    refine (otherwise_any E _ (j3 + 1) d n ih _ S6.out.1 hx).mono ?_
    rintro e w7 ⟨v7, rfl, ⟨nb7, hv, hn⟩, hst⟩
    obtain rfl := hv
    unfold nodeV
    have P0' := Lib.hid (P0.out.kept hst.2 (by omega))
    clear P0
    have P0 := P0'
    clear P0'
    have N2' := Lib.hid (N2.out.st hst.2 (by omega))
    clear N2
    have N2 := N2'
    clear N2'
    have N3' := Lib.hid (N3.out.st hst.2 (by omega))
    clear N3
    have N3 := N3'
    clear N3'
    have K' := Lib.hid (K.out.st hst.2 (by omega))
    clear K
    have K := K'
    clear K'
    have N7 := Lib.hid (hn.from (B := w.heap.size) (by omega))
    have M7 := Lib.hid hn
    clear hn
    have S7 := Lib.hid (S6.out.trans hst)
    have z7 := hst.2.size
    clear hst
    have HR7 := Lib.hid hq
    clear hx hq
    have HQ : Hid (r = .ok (.mk 10 [] [] 0 a1 [a2, a3, a7]) j7) := (Option.some.inj HR7.out).symm
    have L := Lib.hid (show (w7.alloc (.cells #[.pointer (some ⟨nb7, 0, none⟩)] 25)).cell? ⟨w7.heap.size, 0, none⟩ = some (.pointer (some ⟨nb7, 0, none⟩)) by simp [go_sem])
    have P0' := Lib.hid (P0.out.below (b1 w7 (.cells #[.pointer (some ⟨nb7, 0, none⟩)] 25)))
    clear P0
    have P0 := P0'
    clear P0'
    have N2' := Lib.hid (N2.out.bl (b1 w7 (.cells #[.pointer (some ⟨nb7, 0, none⟩)] 25)))
    clear N2
    have N2 := N2'
    clear N2'
    have N3' := Lib.hid (N3.out.bl (b1 w7 (.cells #[.pointer (some ⟨nb7, 0, none⟩)] 25)))
    clear N3
    have N3 := N3'
    clear N3'
    have K' := Lib.hid (K.out.bl (b1 w7 (.cells #[.pointer (some ⟨nb7, 0, none⟩)] 25)))
    clear K
    have K := K'
    clear K'
    have N7' := Lib.hid (N7.out.bl (b1 w7 (.cells #[.pointer (some ⟨nb7, 0, none⟩)] 25)))
    clear N7
    have N7 := N7'
    clear N7'
    have M7' := Lib.hid (M7.out.bl (b1 w7 (.cells #[.pointer (some ⟨nb7, 0, none⟩)] 25)))
    clear M7
    have M7 := M7'
    clear M7'
    have S8 := Lib.hid (S7.out.below (b1 w7 (.cells #[.pointer (some ⟨nb7, 0, none⟩)] 25)))
    have z8 := (b1 w7 (.cells #[.pointer (some ⟨nb7, 0, none⟩)] 25)).size
    have y8 : w7.heap.size < (w7.alloc (.cells #[.pointer (some ⟨nb7, 0, none⟩)] 25)).heap.size := by simp
    go_wp2_with (at_builtin; refine Hid.out ?_)
    generalize w7.alloc (.cells #[.pointer (some ⟨nb7, 0, none⟩)] 25) = w8 at *
    refine Lib.hid ?_
    refine wpList_append_kid rfl (.tmp 15) (.tmp 18) rfl w.heap.size E.pl _ 2 [a2, a3] rfl K.out nb7 a7 N7.out (fun g hg => M7.out.weak fun x hx _ => ⟨by omega, by have := KL.out g hg; omega⟩) _ rfl L.out (by omega) (by omega) ?_
    intro g9 cap9 w9 hk hg hy
    have P0' := Lib.hid (P0.out.grow hg (fun e => by have := hy _ e; omega))
    clear P0
    have P0 := P0'
    clear P0'
    have S9 := Lib.hid (ST.grow H.out S8.out hg (fun y e => by have := hy y e; omega))
    have z9 := hg.size
    clear K
    have K := Lib.hid hk
    clear hk hg hy
    go_wp2_with fail
    refine (newNode_any _ _ _ _ _ _ _ _ _).mono ?_
    rintro e wz ⟨rfl, hb9, hrow⟩
    have P9 := P0.out.below hb9
    have q0 := P9.c0
    have f0 := P9.f0
    have HB9 := Lib.hid hb9
    have HROW := Lib.hid hrow
    clear hb9 hrow P9
    unfold nodeV
    go_wp2_with fail
    refine bodyPost_ret (v := nodeV w9.heap.size) (by unfold nodeV; simp [results, Tryz.results178, go_sem, q0]) rfl ?_
    rw [HQ.out]
    have hrow := HROW.out
    exact node_done H.out S9.out K.out (by omega) HB9.out hrow (by omega) (by omega) _
  · skip
    have HR10 := Lib.hid (peek_no HR3.out ht)
    have HQ : Hid (r = .ok (.mk 10 [] [] 0 a1 [a2, a3]) j3) := (Option.some.inj HR10.out).symm
    refine (take_no E _ j3 d ⟨#[101, 108, 115, 101]⟩ S4.out.1 ht).mono ?_
    rintro e w11 ⟨rfl, hb⟩
    have P0' := Lib.hid (P0.out.below hb)
    clear P0
    have P0 := P0'
    clear P0'
    have N2' := Lib.hid (N2.out.bl hb)
    clear N2
    have N2 := N2'
    clear N2'
    have N3' := Lib.hid (N3.out.bl hb)
    clear N3
    have N3 := N3'
    clear N3'
    have K' := Lib.hid (K.out.bl hb)
    clear K
    have K := K'
    clear K'
    have S11 := Lib.hid (S4.out.below hb)
    have z11 := hb.size
    clear hb
    clear ht
    go_wp2_with fail
    refine (newNode_any _ _ _ _ _ _ _ _ _).mono ?_
    rintro e wz ⟨rfl, hb9, hrow⟩
    have P9 := P0.out.below hb9
    have q0 := P9.c0
    have f0 := P9.f0
    have HB9 := Lib.hid hb9
    have HROW := Lib.hid hrow
    clear hb9 hrow P9
    unfold nodeV
    go_wp2_with fail
    refine bodyPost_ret (v := nodeV w11.heap.size) (by unfold nodeV; simp [results, Tryz.results178, go_sem, q0]) rfl ?_
    rw [HQ.out]
    have hrow := HROW.out
    exact node_done H.out S11.out K.out (by omega) HB9.out hrow (by omega) (by omega) _

end Go.Proofs.YtkahbhfbgdbnfaaGreatDoor

/-
  CONTRACT: structure of the reader. Nobody but the reader's own block has turned.
-/
namespace Go.Proofs.YtkahbhfbgdbnfaaGreatDoor
open Go.RowKit

set_option maxRecDepth 100000 in
set_option maxHeartbeats 400000 in
theorem structure_any (E : Env) (w : World) (i d : Nat) (n : Nat) (_ : IH E n) (r : Res Tree) (h : RD E w i d) (hr : Hid (runW E.T (P E.T n) (structure_) i = some r)) :
    Calls Tryz.prog 90 #[.pointer (some ⟨E.rb, 0, none⟩)] w (Q E w d (VN E w.heap.size) r) := by
  have H := Lib.hid h
  have hr1 := h.lt
  have hf0 := tok_kind
  have hf1 := tok_text
  have hf2 := tok_at
  have S0 := Lib.hid (ST.below (ST.refl h) (b1 w (.cells #[.pointer none] 25)))
  have P0 := Lib.hid (PtrAt.new w none)
  have l0 := P0.out.lt
  clear h
  go_enter Tryz.func90, Tryz.ntmps90
  go_wp2_with fail
  generalize w.alloc (.cells #[.pointer none] 25) = wa at *
  have hz := H.out.zle
  rcases bind_cases hr.out with ⟨j1, er, hx, hq⟩ | ⟨a1, j1, hx, hq⟩
  · exact (word_any E _ i d (P E.T n) _ S0.out.1 hx).mono fun e w' h => by obtain ⟨rfl, hg⟩ := h; exact ⟨rfl, by rw [hq]; exact ⟨rfl, S0.out.2.trans hg⟩⟩
  refine (word_any E _ i d (P E.T n) _ S0.out.1 hx).mono ?_
  rintro e w1 ⟨v1, rfl, ⟨hv, htx⟩, hst⟩
  obtain rfl := hv
  unfold tokV
  have P0' := Lib.hid (P0.out.kept hst.2 (by omega))
  clear P0
  have P0 := P0'
  clear P0'
  have X1 := Lib.hid htx
  clear htx
  have S1 := Lib.hid (S0.out.trans hst)
  have z1 := hst.2.size
  clear hst
  have HR1 := Lib.hid hq
  clear hx hq
  have T := Lib.hid (TokAt.new w1 (E.T a1.1).kind ⟨(E.T a1.1).text.toArray⟩ (E.pl a1.1))
  have P0' := Lib.hid (P0.out.below (b1 w1 (.cells #[.int .i64 (E.T a1.1).kind, .string ⟨(E.T a1.1).text.toArray⟩, .int .i64 (E.pl a1.1)] 108)))
  clear P0
  have P0 := P0'
  clear P0'
  have S2 := Lib.hid (S1.out.below (b1 w1 (.cells #[.int .i64 (E.T a1.1).kind, .string ⟨(E.T a1.1).text.toArray⟩, .int .i64 (E.pl a1.1)] 108)))
  have z2 := (b1 w1 (.cells #[.int .i64 (E.T a1.1).kind, .string ⟨(E.T a1.1).text.toArray⟩, .int .i64 (E.pl a1.1)] 108)).size
  have y2 : w1.heap.size < (w1.alloc (.cells #[.int .i64 (E.T a1.1).kind, .string ⟨(E.T a1.1).text.toArray⟩, .int .i64 (E.pl a1.1)] 108)).heap.size := by simp
  go_wp2_with fail
  generalize w1.alloc (.cells #[.int .i64 (E.T a1.1).kind, .string ⟨(E.T a1.1).text.toArray⟩, .int .i64 (E.pl a1.1)] 108) = w2 at *
  rcases bind_cases HR1.out with ⟨j3, er, hx, hq⟩ | ⟨a3, j3, hx, hq⟩
  · exact (need_any E _ j1 d ⟨#[115, 116, 114, 117, 99, 116]⟩ (P E.T n) _ S2.out.1 (Lib.hid (by decide)) hx).mono fun e w' h => by obtain ⟨rfl, hg⟩ := h; exact ⟨rfl, by rw [hq]; exact ⟨rfl, S2.out.2.trans hg⟩⟩
  refine (need_any E _ j1 d ⟨#[115, 116, 114, 117, 99, 116]⟩ (P E.T n) _ S2.out.1 (Lib.hid (by decide)) hx).mono ?_
  rintro e w3 ⟨v3, rfl, -, hst⟩
  have P0' := Lib.hid (P0.out.kept hst.2 (by omega))
  clear P0
  have P0 := P0'
  clear P0'
  have T' := Lib.hid (T.out.kept hst.2 (by omega))
  clear T
  have T := T'
  clear T'
  have S3 := Lib.hid (S2.out.trans hst)
  have z3 := hst.2.size
  clear hst
  have HR3 := Lib.hid hq
  clear hx hq
  go_wp2_with fail
  rcases bind_cases HR3.out with ⟨j4, er, hx, hq⟩ | ⟨a4, j4, hx, hq⟩
  · exact (need_any E _ j3 d ⟨#[123]⟩ (P E.T n) _ S3.out.1 (Lib.hid (by decide)) hx).mono fun e w' h => by obtain ⟨rfl, hg⟩ := h; exact ⟨rfl, by rw [hq]; exact ⟨rfl, S3.out.2.trans hg⟩⟩
  refine (need_any E _ j3 d ⟨#[123]⟩ (P E.T n) _ S3.out.1 (Lib.hid (by decide)) hx).mono ?_
  rintro e w4 ⟨v4, rfl, -, hst⟩
  have P0' := Lib.hid (P0.out.kept hst.2 (by omega))
  clear P0
  have P0 := P0'
  clear P0'
  have T' := Lib.hid (T.out.kept hst.2 (by omega))
  clear T
  have T := T'
  clear T'
  have S4 := Lib.hid (S3.out.trans hst)
  have z4 := hst.2.size
  clear hst
  have HR4 := Lib.hid hq
  clear hx hq
  obtain ⟨rs, hrs, hbad, hok⟩ := call_some HR4.out
  have HRS := Lib.hid hrs
  have HBAD := Lib.hid hbad
  have HOK := Lib.hid hok
  clear hrs hbad hok
  go_wp2_with fail
  go_loopw [4] (fun v wr => KRelT E n w w1.heap.size .parts 0 d (E.T a1.1).kind ⟨(E.T a1.1).text.toArray⟩ (E.pl a1.1) rs v wr) (fun _ wr => E.z - nx E wr)
  case atStart => exact ⟨n, 0, j4, [], rs, Nat.le_refl _, Nat.zero_le _, by omega, HRS, Lib.hid (preR_nil rs).symm, KidsIn.nil _ _ _, S4, P0, T⟩
  case round =>
    obtain ⟨m, k, iq, ts, rq, hm, hk, hB, HP, HE, K, S, P0, T⟩ := hrel
    obtain ⟨m, rfl, hp⟩ := P_pos HP.out
    have HR := Lib.hid hp
    clear hp HP
    have hiz := S.out.1.ile
    have hnx := S.out.1.at_nx
    have HNX := Lib.hid hnx
    clear hnx
    by_cases ht : (E.T iq).text = cRC
    · skip
      have h0 := peek_yes HR.out ht
      have HR5 := Lib.hid (run_next h0)
      clear h0
      have hq := run_ret HR5.out
      have hrs : rs = .ok ts (iq + 1) := by rw [HE.out, hq]; simp [preR]
      have HQ : Hid (r = .ok (.mk 2 a1.2 [] 0 a1.1 ts) (iq + 1)) := run_ret (HOK.out _ _ hrs)
      clear hq hrs
      go_wp2_with fail
      refine (take_yes E _ iq d ⟨#[125]⟩ S.out.1 ht (Lib.hid (by decide))).mono ?_
      rintro e w6 ⟨rfl, hst⟩
      have K' := Lib.hid (K.out.st hst.2 (by omega))
      clear K
      have K := K'
      clear K'
      have P0' := Lib.hid (P0.out.kept hst.2 (by omega))
      clear P0
      have P0 := P0'
      clear P0'
      have T' := Lib.hid (T.out.kept hst.2 (by omega))
      clear T
      have T := T'
      clear T'
      have S6 := Lib.hid (S.out.trans hst)
      have z6 := hst.2.size
      clear hst
      clear ht
      obtain ⟨Ak, ck, hvk, -, -⟩ := K.out.slice
      subst hvk
      have T0 := T.out.c0
      have T1 := T.out.c1
      have T2 := T.out.c2
      go_wp2_with fail
      refine (newNode_any _ _ _ _ _ _ _ _ _).mono ?_
      rintro e wz ⟨rfl, hb9, hrow⟩
      have P9 := P0.out.below hb9
      have q0 := P9.c0
      have f0 := P9.f0
      have HB9 := Lib.hid hb9
      have HROW := Lib.hid hrow
      clear hb9 hrow P9
      unfold nodeV
      go_wp2_with fail
      refine bodyPost_ret (v := nodeV w6.heap.size) (by unfold nodeV; simp [results, Tryz.results90, go_sem, q0]) rfl ?_
      rw [HQ.out]
      have hrow := HROW.out
      rw [X1.out] at hrow
      exact node_done H.out S6.out K.out (by omega) HB9.out hrow (by omega) (by omega) _
    · skip
      have HR7 := Lib.hid (peek_no HR.out ht)
      go_wp2_with fail
      refine (take_no E _ iq d ⟨#[125]⟩ S.out.1 ht).mono ?_
      rintro e w8 ⟨rfl, hb⟩
      have K' := Lib.hid (K.out.bl hb)
      clear K
      have K := K'
      clear K'
      have P0' := Lib.hid (P0.out.below hb)
      clear P0
      have P0 := P0'
      clear P0'
      have T' := Lib.hid (T.out.below hb)
      clear T
      have T := T'
      clear T'
      have S8 := Lib.hid (S.out.below hb)
      have z8 := hb.size
      clear hb
      clear ht
      go_wp2_with fail
      have KL := Lib.hid K.out.lt
      rcases bind_cases HR7.out with ⟨j9, er, hx, hq⟩ | ⟨a9, j9, hx, hq⟩
      · exact (named_any E _ iq d (P E.T m) 5 (by omega) _ S8.out.1 hx).mono fun e w' h => by obtain ⟨rfl, hg⟩ := h; exact ⟨rfl, by rw [HBAD.out j9 er (by rw [HE.out, hq]; rfl)]; exact ⟨rfl, S8.out.2.trans hg⟩⟩
      have hpr := tot_prog (tot_named S8.out.1.sent 5 _) hx
      refine (named_any E _ iq d (P E.T m) 5 (by omega) _ S8.out.1 hx).mono ?_
      rintro e w9 ⟨v9, rfl, ⟨nb9, hv, hn⟩, hst⟩
      obtain rfl := hv
      unfold nodeV
      have K' := Lib.hid (K.out.st hst.2 (by omega))
      clear K
      have K := K'
      clear K'
      have P0' := Lib.hid (P0.out.kept hst.2 (by omega))
      clear P0
      have P0 := P0'
      clear P0'
      have T' := Lib.hid (T.out.kept hst.2 (by omega))
      clear T
      have T := T'
      clear T'
      have N9 := Lib.hid (hn.from (B := w1.heap.size) (by omega))
      have M9 := Lib.hid hn
      clear hn
      have S9 := Lib.hid (S8.out.trans hst)
      have z9 := hst.2.size
      clear hst
      rcases call_cases hq with ⟨jz, er, hy, hq2⟩ | ⟨az, jz, hy, hq2⟩
      · skip
        have HP : Hid (P E.T m .parts 0 j9 = some (.bad jz er)) := hy
        have HE2 : Hid (rs = preR (ts ++ [a9]) (.bad jz er)) := by show _ = _; rw [HE.out, hq2]; rfl
        clear hx hq hy hq2
        have L := Lib.hid (show (w9.alloc (.cells #[.pointer (some ⟨nb9, 0, none⟩)] 25)).cell? ⟨w9.heap.size, 0, none⟩ = some (.pointer (some ⟨nb9, 0, none⟩)) by simp [go_sem])
        have K' := Lib.hid (K.out.bl (b1 w9 (.cells #[.pointer (some ⟨nb9, 0, none⟩)] 25)))
        clear K
        have K := K'
        clear K'
        have P0' := Lib.hid (P0.out.below (b1 w9 (.cells #[.pointer (some ⟨nb9, 0, none⟩)] 25)))
        clear P0
        have P0 := P0'
        clear P0'
        have T' := Lib.hid (T.out.below (b1 w9 (.cells #[.pointer (some ⟨nb9, 0, none⟩)] 25)))
        clear T
        have T := T'
        clear T'
        have N9' := Lib.hid (N9.out.bl (b1 w9 (.cells #[.pointer (some ⟨nb9, 0, none⟩)] 25)))
        clear N9
        have N9 := N9'
        clear N9'
        have M9' := Lib.hid (M9.out.bl (b1 w9 (.cells #[.pointer (some ⟨nb9, 0, none⟩)] 25)))
        clear M9
        have M9 := M9'
        clear M9'
        have S10 := Lib.hid (S9.out.below (b1 w9 (.cells #[.pointer (some ⟨nb9, 0, none⟩)] 25)))
        have z10 := (b1 w9 (.cells #[.pointer (some ⟨nb9, 0, none⟩)] 25)).size
        have y10 : w9.heap.size < (w9.alloc (.cells #[.pointer (some ⟨nb9, 0, none⟩)] 25)).heap.size := by simp
        go_wp2_with (at_builtin; refine Hid.out ?_)
        generalize w9.alloc (.cells #[.pointer (some ⟨nb9, 0, none⟩)] 25) = w10 at *
        refine Lib.hid ?_
        refine wpList_append_kid rfl (.tmp 14) (.tmp 17) rfl w1.heap.size E.pl _ k ts rfl K.out nb9 a9 N9.out (fun g hg => M9.out.weak fun x hx _ => ⟨by omega, by have := KL.out g hg; omega⟩) _ rfl L.out (by omega) (by omega) ?_
        intro g11 cap11 w11 hk hg hy
        have P0' := Lib.hid (P0.out.grow hg (fun e => by have := hy _ e; omega))
        clear P0
        have P0 := P0'
        clear P0'
        have T' := Lib.hid (T.out.grow hg (fun e => by have := hy _ e; omega))
        clear T
        have T := T'
        clear T'
        have S11 := Lib.hid (ST.grow H.out S10.out hg (fun y e => by have := hy y e; omega))
        have z11 := hg.size
        clear K
        have K := Lib.hid hk
        clear hk hg hy
        have hnx2 := S11.out.1.at_nx
        have HNX2 := Lib.hid hnx2
        clear hnx2
        go_wp2_with fail
        go_roundw
        case rel => exact ⟨m, k + 1, _, _, _, by omega, by omega, by omega, HP, HE2, K, S11, P0, T⟩
        case measure => rw [HNX.out, HNX2.out]; omega
      · skip
        have HP : Hid (P E.T m .parts 0 j9 = some (.ok az jz)) := hy
        have HE2 : Hid (rs = preR (ts ++ [a9]) (.ok az jz)) := by show _ = _; rw [HE.out, run_ret hq2]; simp [preR]
        clear hx hq hy hq2
        have L := Lib.hid (show (w9.alloc (.cells #[.pointer (some ⟨nb9, 0, none⟩)] 25)).cell? ⟨w9.heap.size, 0, none⟩ = some (.pointer (some ⟨nb9, 0, none⟩)) by simp [go_sem])
        have K' := Lib.hid (K.out.bl (b1 w9 (.cells #[.pointer (some ⟨nb9, 0, none⟩)] 25)))
        clear K
        have K := K'
        clear K'
        have P0' := Lib.hid (P0.out.below (b1 w9 (.cells #[.pointer (some ⟨nb9, 0, none⟩)] 25)))
        clear P0
        have P0 := P0'
        clear P0'
        have T' := Lib.hid (T.out.below (b1 w9 (.cells #[.pointer (some ⟨nb9, 0, none⟩)] 25)))
        clear T
        have T := T'
        clear T'
        have N9' := Lib.hid (N9.out.bl (b1 w9 (.cells #[.pointer (some ⟨nb9, 0, none⟩)] 25)))
        clear N9
        have N9 := N9'
        clear N9'
        have M9' := Lib.hid (M9.out.bl (b1 w9 (.cells #[.pointer (some ⟨nb9, 0, none⟩)] 25)))
        clear M9
        have M9 := M9'
        clear M9'
        have S12 := Lib.hid (S9.out.below (b1 w9 (.cells #[.pointer (some ⟨nb9, 0, none⟩)] 25)))
        have z12 := (b1 w9 (.cells #[.pointer (some ⟨nb9, 0, none⟩)] 25)).size
        have y12 : w9.heap.size < (w9.alloc (.cells #[.pointer (some ⟨nb9, 0, none⟩)] 25)).heap.size := by simp
        go_wp2_with (at_builtin; refine Hid.out ?_)
        generalize w9.alloc (.cells #[.pointer (some ⟨nb9, 0, none⟩)] 25) = w12 at *
        refine Lib.hid ?_
        refine wpList_append_kid rfl (.tmp 14) (.tmp 17) rfl w1.heap.size E.pl _ k ts rfl K.out nb9 a9 N9.out (fun g hg => M9.out.weak fun x hx _ => ⟨by omega, by have := KL.out g hg; omega⟩) _ rfl L.out (by omega) (by omega) ?_
        intro g13 cap13 w13 hk hg hy
        have P0' := Lib.hid (P0.out.grow hg (fun e => by have := hy _ e; omega))
        clear P0
        have P0 := P0'
        clear P0'
        have T' := Lib.hid (T.out.grow hg (fun e => by have := hy _ e; omega))
        clear T
        have T := T'
        clear T'
        have S13 := Lib.hid (ST.grow H.out S12.out hg (fun y e => by have := hy y e; omega))
        have z13 := hg.size
        clear K
        have K := Lib.hid hk
        clear hk hg hy
        have hnx2 := S13.out.1.at_nx
        have HNX2 := Lib.hid hnx2
        clear hnx2
        go_wp2_with fail
        go_roundw
        case rel => exact ⟨m, k + 1, _, _, _, by omega, by omega, by omega, HP, HE2, K, S13, P0, T⟩
        case measure => rw [HNX.out, HNX2.out]; omega

end Go.Proofs.YtkahbhfbgdbnfaaGreatDoor
