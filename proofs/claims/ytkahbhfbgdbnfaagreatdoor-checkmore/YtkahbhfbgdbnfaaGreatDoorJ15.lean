/-
  CONTRACT: function of the reader, where calls one step down are as they should be. Nobody but the reader's own block has turned.
-/
import Derived.Test.YtkahbhfbgdbnfaaGreatDoorJ11
import Derived.Test.YtkahbhfbgdbnfaaGreatDoorJ14
namespace Go.Proofs.YtkahbhfbgdbnfaaGreatDoor
open Go.RowKit

set_option maxRecDepth 100000 in
set_option maxHeartbeats 400000 in
theorem function_any (E : Env) (w : World) (i d : Nat) (n : Nat) (ih : IH E n) (r : Res Tree) (h : RD E w i d) (hr : Hid (runW E.T (P E.T n) (function d) i = some r)) :
    Calls Tryz.prog 92 #[.pointer (some ⟨E.rb, 0, none⟩)] w (Q E w d (VN E w.heap.size) r) := by
  have H := Lib.hid h
  have hr1 := h.lt
  have hf0 := tok_kind
  have hf1 := tok_text
  have hf2 := tok_at
  have S0 := Lib.hid (ST.below (ST.refl h) (b1 w (.cells #[.pointer none] 25)))
  have P0 := Lib.hid (PtrAt.new w none)
  have l0 := P0.out.lt
  clear h
  go_enter Tryz.func92, Tryz.ntmps92
  go_wp2_with fail
  generalize w.alloc (.cells #[.pointer none] 25) = wa at *
  rcases bind_cases hr.out with ⟨j1, er, hx, hq⟩ | ⟨a1, j1, hx, hq⟩
  · exact (word_any E _ i d (P E.T n) _ S0.out.1 hx).mono fun e w' h => by obtain ⟨rfl, hg⟩ := h; exact ⟨rfl, by rw [hq]; exact ⟨rfl, S0.out.2.trans hg⟩⟩
  refine (word_any E _ i d (P E.T n) _ S0.out.1 hx).mono ?_
  rintro e w1 ⟨v1, rfl, ⟨hv, htx⟩, hst⟩
  obtain rfl := hv
  unfold tokV
  have P0' := Lib.hid (P0.out.kept hst.2 (by omega))
  clear P0
  have P0 := P0'
  clear P0'
  have X1 := Lib.hid htx
  clear htx
  have S1 := Lib.hid (S0.out.trans hst)
  have z1 := hst.2.size
  clear hst
  have HR1 := Lib.hid hq
  clear hx hq
  have T := Lib.hid (TokAt.new w1 (E.T a1.1).kind ⟨(E.T a1.1).text.toArray⟩ (E.pl a1.1))
  have P0' := Lib.hid (P0.out.below (b1 w1 (.cells #[.int .i64 (E.T a1.1).kind, .string ⟨(E.T a1.1).text.toArray⟩, .int .i64 (E.pl a1.1)] 108)))
  clear P0
  have P0 := P0'
  clear P0'
  have S2 := Lib.hid (S1.out.below (b1 w1 (.cells #[.int .i64 (E.T a1.1).kind, .string ⟨(E.T a1.1).text.toArray⟩, .int .i64 (E.pl a1.1)] 108)))
  have z2 := (b1 w1 (.cells #[.int .i64 (E.T a1.1).kind, .string ⟨(E.T a1.1).text.toArray⟩, .int .i64 (E.pl a1.1)] 108)).size
  have y2 : w1.heap.size < (w1.alloc (.cells #[.int .i64 (E.T a1.1).kind, .string ⟨(E.T a1.1).text.toArray⟩, .int .i64 (E.pl a1.1)] 108)).heap.size := by simp
  go_wp2_with fail
  generalize w1.alloc (.cells #[.int .i64 (E.T a1.1).kind, .string ⟨(E.T a1.1).text.toArray⟩, .int .i64 (E.pl a1.1)] 108) = w2 at *
  rcases bind_cases HR1.out with ⟨j3, er, hx, hq⟩ | ⟨a3, j3, hx, hq⟩
  · exact (parts_any E _ j1 d n ih _ S2.out.1 hx).mono fun e w' h => by obtain ⟨rfl, hg⟩ := h; exact ⟨rfl, by rw [hq]; exact ⟨rfl, S2.out.2.trans hg⟩⟩
  refine (parts_any E _ j1 d n ih _ S2.out.1 hx).mono ?_
  rintro e w3 ⟨v3, rfl, ⟨hkl, hk⟩, hst⟩
  have P0' := Lib.hid (P0.out.kept hst.2 (by omega))
  clear P0
  have P0 := P0'
  clear P0'
  have T' := Lib.hid (T.out.kept hst.2 (by omega))
  clear T
  have T := T'
  clear T'
  have K3 := Lib.hid (hk.from (B := w1.heap.size) (by omega))
  clear hk
  have S3 := Lib.hid (S2.out.trans hst)
  have z3 := hst.2.size
  clear hst
  have HR3 := Lib.hid hq
  clear hx hq
  go_wp2_with fail
  by_cases ht : (E.T j3).text = cLC
  · skip
    rcases bind_cases HR3.out with ⟨j9, er, hx, hq⟩ | ⟨a9, j9, hx, hq⟩
    · exact absurd (run_ret (peek_yes hx ht)) (by simp)
    have e9 := run_ret (peek_yes hx ht)
    injection e9 with e1 e2
    subst e1
    subst e2
    have HR9 := Lib.hid hq
    clear hx hq
    refine (is_yes E _ j9 d ⟨#[123]⟩ S3.out.1 ht).mono ?_
    rintro e w4 ⟨rfl, hb⟩
    have P0' := Lib.hid (P0.out.below hb)
    clear P0
    have P0 := P0'
    clear P0'
    have T' := Lib.hid (T.out.below hb)
    clear T
    have T := T'
    clear T'
    have K3' := Lib.hid (K3.out.bl hb)
    clear K3
    have K3 := K3'
    clear K3'
    have S4 := Lib.hid (S3.out.below hb)
    have z4 := hb.size
    clear hb
    clear ht
    go_wp2_with fail
    have KL := Lib.hid K3.out.lt
    rcases bind_cases HR9.out with ⟨j5, er, hx, hq⟩ | ⟨a5, j5, hx, hq⟩
    · exact (block_any E _ j9 d n ih _ S4.out.1 hx).mono fun e w' h => by obtain ⟨rfl, hg⟩ := h; exact ⟨rfl, by rw [hq]; exact ⟨rfl, S4.out.2.trans hg⟩⟩
    refine (block_any E _ j9 d n ih _ S4.out.1 hx).mono ?_
    rintro e w5 ⟨v5, rfl, ⟨nb5, hv, hn⟩, hst⟩
    obtain rfl := hv
    unfold nodeV
    have P0' := Lib.hid (P0.out.kept hst.2 (by omega))
    clear P0
    have P0 := P0'
    clear P0'
    have T' := Lib.hid (T.out.kept hst.2 (by omega))
    clear T
    have T := T'
    clear T'
    have K3' := Lib.hid (K3.out.st hst.2 (by omega))
    clear K3
    have K3 := K3'
    clear K3'
    have N5 := Lib.hid (hn.from (B := w1.heap.size) (by omega))
    have M5 := Lib.hid hn
    clear hn
    have S5 := Lib.hid (S4.out.trans hst)
    have z5 := hst.2.size
    clear hst
    have HR5 := Lib.hid hq
    clear hx hq
    have HQ : Hid (r = .ok (.mk 4 a1.2 [] 0 a1.1 (a3 ++ [a5])) j5) := (Option.some.inj HR5.out).symm
    have L := Lib.hid (show (w5.alloc (.cells #[.pointer (some ⟨nb5, 0, none⟩)] 25)).cell? ⟨w5.heap.size, 0, none⟩ = some (.pointer (some ⟨nb5, 0, none⟩)) by simp [go_sem])
    have P0' := Lib.hid (P0.out.below (b1 w5 (.cells #[.pointer (some ⟨nb5, 0, none⟩)] 25)))
    clear P0
    have P0 := P0'
    clear P0'
    have T' := Lib.hid (T.out.below (b1 w5 (.cells #[.pointer (some ⟨nb5, 0, none⟩)] 25)))
    clear T
    have T := T'
    clear T'
    have K3' := Lib.hid (K3.out.bl (b1 w5 (.cells #[.pointer (some ⟨nb5, 0, none⟩)] 25)))
    clear K3
    have K3 := K3'
    clear K3'
    have N5' := Lib.hid (N5.out.bl (b1 w5 (.cells #[.pointer (some ⟨nb5, 0, none⟩)] 25)))
    clear N5
    have N5 := N5'
    clear N5'
    have M5' := Lib.hid (M5.out.bl (b1 w5 (.cells #[.pointer (some ⟨nb5, 0, none⟩)] 25)))
    clear M5
    have M5 := M5'
    clear M5'
    have S6 := Lib.hid (S5.out.below (b1 w5 (.cells #[.pointer (some ⟨nb5, 0, none⟩)] 25)))
    have z6 := (b1 w5 (.cells #[.pointer (some ⟨nb5, 0, none⟩)] 25)).size
    have y6 : w5.heap.size < (w5.alloc (.cells #[.pointer (some ⟨nb5, 0, none⟩)] 25)).heap.size := by simp
    go_wp2_with (at_builtin; refine Hid.out ?_)
    generalize w5.alloc (.cells #[.pointer (some ⟨nb5, 0, none⟩)] 25) = w6 at *
    refine Lib.hid ?_
    refine wpList_append_kid rfl (.tmp 15) (.tmp 18) rfl w1.heap.size E.pl _ a3.length a3 rfl K3.out nb5 a5 N5.out (fun g hg => M5.out.weak fun x hx _ => ⟨by omega, by have := KL.out g hg; omega⟩) _ rfl L.out (by omega) (by omega) ?_
    intro g7 cap7 w7 hk hg hy
    have P0' := Lib.hid (P0.out.grow hg (fun e => by have := hy _ e; omega))
    clear P0
    have P0 := P0'
    clear P0'
    have T' := Lib.hid (T.out.grow hg (fun e => by have := hy _ e; omega))
    clear T
    have T := T'
    clear T'
    have S7 := Lib.hid (ST.grow H.out S6.out hg (fun y e => by have := hy y e; omega))
    have z7 := hg.size
    clear K3
    have K3 := Lib.hid hk
    clear hk hg hy
    have T0 := T.out.c0
    have T1 := T.out.c1
    have T2 := T.out.c2
    go_wp2_with fail
    refine (newNode_any _ _ _ _ _ _ _ _ _).mono ?_
    rintro e wz ⟨rfl, hb9, hrow⟩
    have P9 := P0.out.below hb9
    have q0 := P9.c0
    have f0 := P9.f0
    have HB9 := Lib.hid hb9
    have HROW := Lib.hid hrow
    clear hb9 hrow P9
    unfold nodeV
    go_wp2_with fail
    refine bodyPost_ret (v := nodeV w7.heap.size) (by unfold nodeV; simp [results, Tryz.results92, go_sem, q0]) rfl ?_
    rw [HQ.out]
    have hrow := HROW.out
    rw [X1.out] at hrow
    exact node_done H.out S7.out K3.out (by omega) HB9.out hrow (by omega) (by omega) _
  · skip
    refine (is_no E _ j3 d ⟨#[123]⟩ S3.out.1 ht).mono ?_
    rintro e w8 ⟨rfl, hb⟩
    have P0' := Lib.hid (P0.out.below hb)
    clear P0
    have P0 := P0'
    clear P0'
    have T' := Lib.hid (T.out.below hb)
    clear T
    have T := T'
    clear T'
    have K3' := Lib.hid (K3.out.bl hb)
    clear K3
    have K3 := K3'
    clear K3'
    have S8 := Lib.hid (S3.out.below hb)
    have z8 := hb.size
    clear hb
    go_wp2_with fail
    rcases bind_cases HR3.out with ⟨j9, er, hx9, hq⟩ | ⟨a9, j9, hx9, hq⟩
    all_goals have hx := peek_no hx9 ht
    all_goals clear hx9 ht
    · exact (typeText_any E _ j3 d (P E.T n) _ S8.out.1 hx).mono fun e w' h => by obtain ⟨rfl, hg⟩ := h; exact ⟨rfl, by rw [hq]; exact ⟨rfl, S8.out.2.trans hg⟩⟩
    refine (typeText_any E _ j3 d (P E.T n) _ S8.out.1 hx).mono ?_
    rintro e w9 ⟨v9, rfl, hv, hst⟩
    obtain rfl := hv
    have P0' := Lib.hid (P0.out.kept hst.2 (by omega))
    clear P0
    have P0 := P0'
    clear P0'
    have T' := Lib.hid (T.out.kept hst.2 (by omega))
    clear T
    have T := T'
    clear T'
    have K3' := Lib.hid (K3.out.st hst.2 (by omega))
    clear K3
    have K3 := K3'
    clear K3'
    have S9 := Lib.hid (S8.out.trans hst)
    have z9 := hst.2.size
    clear hst
    have HR9 := Lib.hid hq
    clear hx hq
    go_wp2_with fail
    have KL := Lib.hid K3.out.lt
    rcases bind_cases HR9.out with ⟨j10, er, hx, hq⟩ | ⟨a10, j10, hx, hq⟩
    · exact (block_any E _ j9 d n ih _ S9.out.1 hx).mono fun e w' h => by obtain ⟨rfl, hg⟩ := h; exact ⟨rfl, by rw [hq]; exact ⟨rfl, S9.out.2.trans hg⟩⟩
    refine (block_any E _ j9 d n ih _ S9.out.1 hx).mono ?_
    rintro e w10 ⟨v10, rfl, ⟨nb10, hv, hn⟩, hst⟩
    obtain rfl := hv
    unfold nodeV
    have P0' := Lib.hid (P0.out.kept hst.2 (by omega))
    clear P0
    have P0 := P0'
    clear P0'
    have T' := Lib.hid (T.out.kept hst.2 (by omega))
    clear T
    have T := T'
    clear T'
    have K3' := Lib.hid (K3.out.st hst.2 (by omega))
    clear K3
    have K3 := K3'
    clear K3'
    have N10 := Lib.hid (hn.from (B := w1.heap.size) (by omega))
    have M10 := Lib.hid hn
    clear hn
    have S10 := Lib.hid (S9.out.trans hst)
    have z10 := hst.2.size
    clear hst
    have HR10 := Lib.hid hq
    clear hx hq
    have HQ : Hid (r = .ok (.mk 4 a1.2 a9 0 a1.1 (a3 ++ [a10])) j10) := (Option.some.inj HR10.out).symm
    have L := Lib.hid (show (w10.alloc (.cells #[.pointer (some ⟨nb10, 0, none⟩)] 25)).cell? ⟨w10.heap.size, 0, none⟩ = some (.pointer (some ⟨nb10, 0, none⟩)) by simp [go_sem])
    have P0' := Lib.hid (P0.out.below (b1 w10 (.cells #[.pointer (some ⟨nb10, 0, none⟩)] 25)))
    clear P0
    have P0 := P0'
    clear P0'
    have T' := Lib.hid (T.out.below (b1 w10 (.cells #[.pointer (some ⟨nb10, 0, none⟩)] 25)))
    clear T
    have T := T'
    clear T'
    have K3' := Lib.hid (K3.out.bl (b1 w10 (.cells #[.pointer (some ⟨nb10, 0, none⟩)] 25)))
    clear K3
    have K3 := K3'
    clear K3'
    have N10' := Lib.hid (N10.out.bl (b1 w10 (.cells #[.pointer (some ⟨nb10, 0, none⟩)] 25)))
    clear N10
    have N10 := N10'
    clear N10'
    have M10' := Lib.hid (M10.out.bl (b1 w10 (.cells #[.pointer (some ⟨nb10, 0, none⟩)] 25)))
    clear M10
    have M10 := M10'
    clear M10'
    have S11 := Lib.hid (S10.out.below (b1 w10 (.cells #[.pointer (some ⟨nb10, 0, none⟩)] 25)))
    have z11 := (b1 w10 (.cells #[.pointer (some ⟨nb10, 0, none⟩)] 25)).size
    have y11 : w10.heap.size < (w10.alloc (.cells #[.pointer (some ⟨nb10, 0, none⟩)] 25)).heap.size := by simp
    go_wp2_with (at_builtin; refine Hid.out ?_)
    generalize w10.alloc (.cells #[.pointer (some ⟨nb10, 0, none⟩)] 25) = w11 at *
    refine Lib.hid ?_
    refine wpList_append_kid rfl (.tmp 15) (.tmp 18) rfl w1.heap.size E.pl _ a3.length a3 rfl K3.out nb10 a10 N10.out (fun g hg => M10.out.weak fun x hx _ => ⟨by omega, by have := KL.out g hg; omega⟩) _ rfl L.out (by omega) (by omega) ?_
    intro g12 cap12 w12 hk hg hy
    have P0' := Lib.hid (P0.out.grow hg (fun e => by have := hy _ e; omega))
    clear P0
    have P0 := P0'
    clear P0'
    have T' := Lib.hid (T.out.grow hg (fun e => by have := hy _ e; omega))
    clear T
    have T := T'
    clear T'
    have S12 := Lib.hid (ST.grow H.out S11.out hg (fun y e => by have := hy y e; omega))
    have z12 := hg.size
    clear K3
    have K3 := Lib.hid hk
    clear hk hg hy
    have T0 := T.out.c0
    have T1 := T.out.c1
    have T2 := T.out.c2
    go_wp2_with fail
    refine (newNode_any _ _ _ _ _ _ _ _ _).mono ?_
    rintro e wz ⟨rfl, hb9, hrow⟩
    have P9 := P0.out.below hb9
    have q0 := P9.c0
    have f0 := P9.f0
    have HB9 := Lib.hid hb9
    have HROW := Lib.hid hrow
    clear hb9 hrow P9
    unfold nodeV
    go_wp2_with fail
    refine bodyPost_ret (v := nodeV w12.heap.size) (by unfold nodeV; simp [results, Tryz.results92, go_sem, q0]) rfl ?_
    rw [HQ.out]
    have hrow := HROW.out
    rw [X1.out] at hrow
    exact node_done H.out S12.out K3.out (by omega) HB9.out hrow (by omega) (by omega) _

end Go.Proofs.YtkahbhfbgdbnfaaGreatDoor

/-
  CONTRACT: declaration of the reader, where calls one step down are as they should be. Nobody but the reader's own block has turned.
-/
namespace Go.Proofs.YtkahbhfbgdbnfaaGreatDoor
open Go.RowKit

set_option maxRecDepth 100000 in
set_option maxHeartbeats 400000 in
theorem declaration_any (E : Env) (w : World) (i d : Nat) (n : Nat) (ih : IH E n) (r : Res Tree) (h : RD E w i d) (hr : Hid (runW E.T (P E.T n) (decl d) i = some r)) :
    Calls Tryz.prog 54 #[.pointer (some ⟨E.rb, 0, none⟩)] w (Q E w d (VN E w.heap.size) r) := by
  have H := Lib.hid h
  have hr1 := h.lt
  have hf0 := tok_kind
  have hf1 := tok_text
  have hf2 := tok_at
  have S0 := Lib.hid (ST.below (ST.refl h) (b1 w (.cells #[.pointer none] 25)))
  have P0 := Lib.hid (PtrAt.new w none)
  have l0 := P0.out.lt
  clear h
  go_enter Tryz.func54, Tryz.ntmps54
  go_wp2_with fail
  generalize w.alloc (.cells #[.pointer none] 25) = wa at *
  by_cases ht : (E.T i).text = kType
  · skip
    have h0 := peek_yes hr.out ht
    have HR1 := Lib.hid (run_next h0)
    clear h0
    refine (take_yes E _ i d ⟨#[116, 121, 112, 101]⟩ S0.out.1 ht (Lib.hid (by decide))).mono ?_
    rintro e w2 ⟨rfl, hst⟩
    have P0' := Lib.hid (P0.out.kept hst.2 (by omega))
    clear P0
    have P0 := P0'
    clear P0'
    have S2 := Lib.hid (S0.out.trans hst)
    have z2 := hst.2.size
    clear hst
    clear ht
    go_wp2_with fail
    rcases last_cases HR1.out with ⟨j3, er, hx, hq⟩ | ⟨a3, j3, hx, hq⟩
    · exact (structure_any E _ (i + 1) d n ih _ S2.out.1 hx).mono fun e w' h => by obtain ⟨rfl, hg⟩ := h; exact ⟨rfl, by rw [hq]; exact ⟨rfl, S2.out.2.trans hg⟩⟩
    refine (structure_any E _ (i + 1) d n ih _ S2.out.1 hx).mono ?_
    rintro e w3 ⟨v3, rfl, ⟨nb3, hv, hn⟩, hst⟩
    obtain rfl := hv
    unfold nodeV
    have P0' := Lib.hid (P0.out.kept hst.2 (by omega))
    clear P0
    have P0 := P0'
    clear P0'
    have N3 := Lib.hid (hn.from (B := w.heap.size) (by omega))
    clear hn
    have S3 := Lib.hid (S2.out.trans hst)
    have z3 := hst.2.size
    clear hst
    have HQ := Lib.hid hq
    clear hx hq
    have q0 := P0.out.c0
    have f0 := P0.out.f0
    go_wp2_with fail
    refine bodyPost_ret (v := nodeV nb3) (by unfold nodeV; simp [results, Tryz.results54, go_sem, q0]) rfl ?_
    rw [HQ.out]
    exact pass_done H.out S3.out N3.out (by omega) _
  · skip
    have HR4 := Lib.hid (peek_no hr.out ht)
    refine (take_no E _ i d ⟨#[116, 121, 112, 101]⟩ S0.out.1 ht).mono ?_
    rintro e w5 ⟨rfl, hb⟩
    have P0' := Lib.hid (P0.out.below hb)
    clear P0
    have P0 := P0'
    clear P0'
    have S5 := Lib.hid (S0.out.below hb)
    have z5 := hb.size
    clear hb
    clear ht
    go_wp2_with fail
    by_cases ht : (E.T i).text = kVar
    · skip
      have h0 := ite_yes HR4.out ht
      have HR6 := Lib.hid (run_next h0)
      clear h0
      refine (take_yes E _ i d ⟨#[118, 97, 114]⟩ S5.out.1 ht (Lib.hid (by decide))).mono ?_
      rintro e w7 ⟨rfl, hst⟩
      have P0' := Lib.hid (P0.out.kept hst.2 (by omega))
      clear P0
      have P0 := P0'
      clear P0'
      have S7 := Lib.hid (S5.out.trans hst)
      have z7 := hst.2.size
      clear hst
      clear ht
      go_wp2_with fail
      rcases last_cases HR6.out with ⟨j8, er, hx, hq⟩ | ⟨a8, j8, hx, hq⟩
      · exact (named_any E _ (i + 1) d (P E.T n) 3 (by omega) _ S7.out.1 hx).mono fun e w' h => by obtain ⟨rfl, hg⟩ := h; exact ⟨rfl, by rw [hq]; exact ⟨rfl, S7.out.2.trans hg⟩⟩
      refine (named_any E _ (i + 1) d (P E.T n) 3 (by omega) _ S7.out.1 hx).mono ?_
      rintro e w8 ⟨v8, rfl, ⟨nb8, hv, hn⟩, hst⟩
      obtain rfl := hv
      unfold nodeV
      have P0' := Lib.hid (P0.out.kept hst.2 (by omega))
      clear P0
      have P0 := P0'
      clear P0'
      have N8 := Lib.hid (hn.from (B := w.heap.size) (by omega))
      clear hn
      have S8 := Lib.hid (S7.out.trans hst)
      have z8 := hst.2.size
      clear hst
      have HQ := Lib.hid hq
      clear hx hq
      have q0 := P0.out.c0
      have f0 := P0.out.f0
      go_wp2_with fail
      refine bodyPost_ret (v := nodeV nb8) (by unfold nodeV; simp [results, Tryz.results54, go_sem, q0]) rfl ?_
      rw [HQ.out]
      exact pass_done H.out S8.out N8.out (by omega) _
    · skip
      have HR9 := Lib.hid (ite_no HR4.out ht)
      refine (take_no E _ i d ⟨#[118, 97, 114]⟩ S5.out.1 ht).mono ?_
      rintro e w10 ⟨rfl, hb⟩
      have P0' := Lib.hid (P0.out.below hb)
      clear P0
      have P0 := P0'
      clear P0'
      have S10 := Lib.hid (S5.out.below hb)
      have z10 := hb.size
      clear hb
      clear ht
      go_wp2_with fail
      by_cases ht : (E.T i).text = kFunc
      · skip
        have h0 := ite_yes HR9.out ht
        have HR11 := Lib.hid (run_next h0)
        clear h0
        refine (take_yes E _ i d ⟨#[102, 117, 110, 99]⟩ S10.out.1 ht (Lib.hid (by decide))).mono ?_
        rintro e w12 ⟨rfl, hst⟩
        have P0' := Lib.hid (P0.out.kept hst.2 (by omega))
        clear P0
        have P0 := P0'
        clear P0'
        have S12 := Lib.hid (S10.out.trans hst)
        have z12 := hst.2.size
        clear hst
        clear ht
        go_wp2_with fail
        rcases last_cases HR11.out with ⟨j13, er, hx, hq⟩ | ⟨a13, j13, hx, hq⟩
        · exact (function_any E _ (i + 1) d n ih _ S12.out.1 hx).mono fun e w' h => by obtain ⟨rfl, hg⟩ := h; exact ⟨rfl, by rw [hq]; exact ⟨rfl, S12.out.2.trans hg⟩⟩
        refine (function_any E _ (i + 1) d n ih _ S12.out.1 hx).mono ?_
        rintro e w13 ⟨v13, rfl, ⟨nb13, hv, hn⟩, hst⟩
        obtain rfl := hv
        unfold nodeV
        have P0' := Lib.hid (P0.out.kept hst.2 (by omega))
        clear P0
        have P0 := P0'
        clear P0'
        have N13 := Lib.hid (hn.from (B := w.heap.size) (by omega))
        clear hn
        have S13 := Lib.hid (S12.out.trans hst)
        have z13 := hst.2.size
        clear hst
        have HQ := Lib.hid hq
        clear hx hq
        have q0 := P0.out.c0
        have f0 := P0.out.f0
        go_wp2_with fail
        refine bodyPost_ret (v := nodeV nb13) (by unfold nodeV; simp [results, Tryz.results54, go_sem, q0]) rfl ?_
        rw [HQ.out]
        exact pass_done H.out S13.out N13.out (by omega) _
      · skip
        have HR14 := Lib.hid (ite_no HR9.out ht)
        refine (take_no E _ i d ⟨#[102, 117, 110, 99]⟩ S10.out.1 ht).mono ?_
        rintro e w15 ⟨rfl, hb⟩
        have P0' := Lib.hid (P0.out.below hb)
        clear P0
        have P0 := P0'
        clear P0'
        have S15 := Lib.hid (S10.out.below hb)
        have z15 := hb.size
        clear hb
        clear ht
        go_wp2_with fail
        have HQ := Lib.hid (run_fail HR14.out)
        refine (misfit_any E _ i d S15.out.1).mono ?_
        rintro e w16 ⟨rfl, hb⟩
        have P0' := Lib.hid (P0.out.below hb)
        clear P0
        have P0 := P0'
        clear P0'
        have S16 := Lib.hid (S15.out.below hb)
        have z16 := hb.size
        clear hb
        go_wp2_with fail
        refine ⟨rfl, ?_⟩
        rw [HQ.out]
        exact ⟨rfl, S16.out.2⟩

end Go.Proofs.YtkahbhfbgdbnfaaGreatDoor

/-
  CONTRACT: program of the reader, where calls one step down are as they should be. Nobody but the reader's own block has turned.
-/
namespace Go.Proofs.YtkahbhfbgdbnfaaGreatDoor
open Go.RowKit

theorem decl_prog {T : Nat → AT} {z m d i j : Nat} {x : Tree} (S : Sent T z) (_ : i ≤ z) (h : runW T (P T m) (decl d) i = some (.ok x j)) : i + 1 ≤ j ∧ j ≤ z := by
  have h2 := runW_at T (Nat.le_max_left m (4 * (z + 1) + 4)) _ _ _ h
  refine tot_prog (tot_decl S d i fun nt d j hok h1 hj => P_total S _ nt d j hok hj ?_) h2
  have := rank_le nt
  omega

set_option maxRecDepth 100000 in
set_option maxHeartbeats 400000 in
theorem program_any (E : Env) (w : World) (n : Nat) (ih : IH E n) (r : Res (List Tree)) (h : RD E w 0 0) (hroot : E.pl (E.z + 1) = 0) (hr : Hid (P E.T n .decls 0 0 = some r)) :
    Calls Tryz.prog 34 #[.pointer (some ⟨E.rb, 0, none⟩)] w (Q E w 0 (fun ks => VN E w.heap.size (.mk 1 [] [] 0 (E.z + 1) ks)) r) := by
  have HROOT := Lib.hid hroot
  clear hroot
  have H := Lib.hid h
  have hr1 := h.lt
  have hf0 := tok_kind
  have hf1 := tok_text
  have hf2 := tok_at
  have S0 := Lib.hid (ST.below (ST.refl h) (b1 w (.cells #[.pointer none] 25)))
  have P0 := Lib.hid (PtrAt.new w none)
  have l0 := P0.out.lt
  clear h
  go_enter Tryz.func34, Tryz.ntmps34
  go_wp2_with fail
  generalize w.alloc (.cells #[.pointer none] 25) = wa at *
  have hz := H.out.zle
  go_loopw [3] (fun v wr => KRel E n w w.heap.size .decls 0 r v wr) (fun _ wr => E.z - nx E wr)
  case atStart => exact ⟨n, 0, 0, [], r, Nat.le_refl _, Nat.zero_le _, by omega, hr, Lib.hid (preR_nil r).symm, KidsIn.nil _ _ _, S0, P0⟩
  case round =>
    obtain ⟨m, k, iq, ts, rq, hm, hk, hB, HP, HE, K, S, P0⟩ := hrel
    obtain ⟨m, rfl, hp⟩ := P_pos HP.out
    have HR := Lib.hid hp
    clear hp HP
    have hiz := S.out.1.ile
    have hnx := S.out.1.at_nx
    have HNX := Lib.hid hnx
    clear hnx
    have r0 := S.out.1.c0
    have r1 := S.out.1.c1
    by_cases ht : iq < E.z
    · skip
      have hk0 := S.out.1.sent.some iq ht
      have HR2 := Lib.hid (ite_no (run_peek HR.out) hk0)
      clear hk0
      have hlt : (iq : Int) < (E.z : Int) := by omega
      have hlt2 : decide (iq < E.z) = true := by simpa using ht
      go_wp2_with fail
      go_quiet (fail)
      have S1 := Lib.hid (S.out.below (below_drewN (Below.refl _ _) nq))
      have K' := Lib.hid (K.out.bl (below_drewN (Below.refl _ wr) nq))
      clear K
      have K := K'
      clear K'
      have P0' := Lib.hid (P0.out.below (below_drewN (Below.refl _ wr) nq))
      clear P0
      have P0 := P0'
      clear P0'
      have zq := (below_drewN (Below.refl wr.heap.size wr) nq).size
      generalize wr.drewN nq = w1 at *
      clear r0 r1
      go_wp2_with fail
      have KL := Lib.hid K.out.lt
      rcases bind_cases HR2.out with ⟨j2, er, hx, hq⟩ | ⟨a2, j2, hx, hq⟩
      · exact (declaration_any E _ iq 0 n ih _ S1.out.1 (runW_at E.T (by omega) _ _ _ hx)).mono fun e w' h => by obtain ⟨rfl, hg⟩ := h; exact ⟨rfl, by rw [HE.out, hq]; exact ⟨rfl, S1.out.2.trans hg⟩⟩
      have hpr := decl_prog S1.out.1.sent S1.out.1.ile hx
      refine (declaration_any E _ iq 0 n ih _ S1.out.1 (runW_at E.T (by omega) _ _ _ hx)).mono ?_
      rintro e w2 ⟨v2, rfl, ⟨nb2, hv, hn⟩, hst⟩
      obtain rfl := hv
      unfold nodeV
      have K' := Lib.hid (K.out.st hst.2 (by omega))
      clear K
      have K := K'
      clear K'
      have P0' := Lib.hid (P0.out.kept hst.2 (by omega))
      clear P0
      have P0 := P0'
      clear P0'
      have N2 := Lib.hid (hn.from (B := w.heap.size) (by omega))
      have M2 := Lib.hid hn
      clear hn
      have S2 := Lib.hid (S1.out.trans hst)
      have z2 := hst.2.size
      clear hst
      rcases call_cases hq with ⟨jz, er, hy, hq2⟩ | ⟨az, jz, hy, hq2⟩
      · skip
        have HP : Hid (P E.T m .decls 0 j2 = some (.bad jz er)) := hy
        have HE2 : Hid (r = preR (ts ++ [a2]) (.bad jz er)) := by show _ = _; rw [HE.out, hq2]; rfl
        clear hx hq hy hq2
        have L := Lib.hid (show (w2.alloc (.cells #[.pointer (some ⟨nb2, 0, none⟩)] 25)).cell? ⟨w2.heap.size, 0, none⟩ = some (.pointer (some ⟨nb2, 0, none⟩)) by simp [go_sem])
        have K' := Lib.hid (K.out.bl (b1 w2 (.cells #[.pointer (some ⟨nb2, 0, none⟩)] 25)))
        clear K
        have K := K'
        clear K'
        have P0' := Lib.hid (P0.out.below (b1 w2 (.cells #[.pointer (some ⟨nb2, 0, none⟩)] 25)))
        clear P0
        have P0 := P0'
        clear P0'
        have N2' := Lib.hid (N2.out.bl (b1 w2 (.cells #[.pointer (some ⟨nb2, 0, none⟩)] 25)))
        clear N2
        have N2 := N2'
        clear N2'
        have M2' := Lib.hid (M2.out.bl (b1 w2 (.cells #[.pointer (some ⟨nb2, 0, none⟩)] 25)))
        clear M2
        have M2 := M2'
        clear M2'
        have S3 := Lib.hid (S2.out.below (b1 w2 (.cells #[.pointer (some ⟨nb2, 0, none⟩)] 25)))
        have z3 := (b1 w2 (.cells #[.pointer (some ⟨nb2, 0, none⟩)] 25)).size
        have y3 : w2.heap.size < (w2.alloc (.cells #[.pointer (some ⟨nb2, 0, none⟩)] 25)).heap.size := by simp
        go_wp2_with (at_builtin; refine Hid.out ?_)
        generalize w2.alloc (.cells #[.pointer (some ⟨nb2, 0, none⟩)] 25) = w3 at *
        refine Lib.hid ?_
        refine wpList_append_kid rfl (.tmp 15) (.tmp 18) rfl w.heap.size E.pl _ k ts rfl K.out nb2 a2 N2.out (fun g hg => M2.out.weak fun x hx _ => ⟨by omega, by have := KL.out g hg; omega⟩) _ rfl L.out (by omega) (by omega) ?_
        intro g4 cap4 w4 hk hg hy
        have P0' := Lib.hid (P0.out.grow hg (fun e => by have := hy _ e; omega))
        clear P0
        have P0 := P0'
        clear P0'
        have S4 := Lib.hid (ST.grow H.out S3.out hg (fun y e => by have := hy y e; omega))
        have z4 := hg.size
        clear K
        have K := Lib.hid hk
        clear hk hg hy
        have hnx2 := S4.out.1.at_nx
        have HNX2 := Lib.hid hnx2
        clear hnx2
        go_wp2_with fail
        go_roundw
        case rel => exact ⟨m, k + 1, _, _, _, by omega, by omega, by omega, HP, HE2, K, S4, P0⟩
        case measure => rw [HNX.out, HNX2.out]; omega
      · skip
        have HP : Hid (P E.T m .decls 0 j2 = some (.ok az jz)) := hy
        have HE2 : Hid (r = preR (ts ++ [a2]) (.ok az jz)) := by show _ = _; rw [HE.out, run_ret hq2]; simp [preR]
        clear hx hq hy hq2
        have L := Lib.hid (show (w2.alloc (.cells #[.pointer (some ⟨nb2, 0, none⟩)] 25)).cell? ⟨w2.heap.size, 0, none⟩ = some (.pointer (some ⟨nb2, 0, none⟩)) by simp [go_sem])
        have K' := Lib.hid (K.out.bl (b1 w2 (.cells #[.pointer (some ⟨nb2, 0, none⟩)] 25)))
        clear K
        have K := K'
        clear K'
        have P0' := Lib.hid (P0.out.below (b1 w2 (.cells #[.pointer (some ⟨nb2, 0, none⟩)] 25)))
        clear P0
        have P0 := P0'
        clear P0'
        have N2' := Lib.hid (N2.out.bl (b1 w2 (.cells #[.pointer (some ⟨nb2, 0, none⟩)] 25)))
        clear N2
        have N2 := N2'
        clear N2'
        have M2' := Lib.hid (M2.out.bl (b1 w2 (.cells #[.pointer (some ⟨nb2, 0, none⟩)] 25)))
        clear M2
        have M2 := M2'
        clear M2'
        have S5 := Lib.hid (S2.out.below (b1 w2 (.cells #[.pointer (some ⟨nb2, 0, none⟩)] 25)))
        have z5 := (b1 w2 (.cells #[.pointer (some ⟨nb2, 0, none⟩)] 25)).size
        have y5 : w2.heap.size < (w2.alloc (.cells #[.pointer (some ⟨nb2, 0, none⟩)] 25)).heap.size := by simp
        go_wp2_with (at_builtin; refine Hid.out ?_)
        generalize w2.alloc (.cells #[.pointer (some ⟨nb2, 0, none⟩)] 25) = w5 at *
        refine Lib.hid ?_
        refine wpList_append_kid rfl (.tmp 15) (.tmp 18) rfl w.heap.size E.pl _ k ts rfl K.out nb2 a2 N2.out (fun g hg => M2.out.weak fun x hx _ => ⟨by omega, by have := KL.out g hg; omega⟩) _ rfl L.out (by omega) (by omega) ?_
        intro g6 cap6 w6 hk hg hy
        have P0' := Lib.hid (P0.out.grow hg (fun e => by have := hy _ e; omega))
        clear P0
        have P0 := P0'
        clear P0'
        have S6 := Lib.hid (ST.grow H.out S5.out hg (fun y e => by have := hy y e; omega))
        have z6 := hg.size
        clear K
        have K := Lib.hid hk
        clear hk hg hy
        have hnx2 := S6.out.1.at_nx
        have HNX2 := Lib.hid hnx2
        clear hnx2
        go_wp2_with fail
        go_roundw
        case rel => exact ⟨m, k + 1, _, _, _, by omega, by omega, by omega, HP, HE2, K, S6, P0⟩
        case measure => rw [HNX.out, HNX2.out]; omega
    · skip
      have hk0 : (E.T iq).kind = 0 := by rw [S.out.1.sent.stop iq (by omega)]
      have hq := run_ret (ite_yes (run_peek HR.out) hk0)
      have HQ : Hid (r = .ok ts iq) := by show _ = _; rw [HE.out, hq]; simp [preR]
      clear hk0 hq
      have hlt : ¬ (iq : Int) < (E.z : Int) := by omega
      have hlt2 : decide (iq < E.z) = false := by simpa using ht
      go_wp2_with fail
      go_quiet (fail)
      have S1 := Lib.hid (S.out.below (below_drewN (Below.refl _ _) nq))
      have K' := Lib.hid (K.out.bl (below_drewN (Below.refl _ wr) nq))
      clear K
      have K := K'
      clear K'
      have P0' := Lib.hid (P0.out.below (below_drewN (Below.refl _ wr) nq))
      clear P0
      have P0 := P0'
      clear P0'
      have zq := (below_drewN (Below.refl wr.heap.size wr) nq).size
      generalize wr.drewN nq = w1 at *
      clear r0 r1
      obtain ⟨Ak, ck, hvk, -, -⟩ := K.out.slice
      subst hvk
      go_wp2_with fail
      refine (newNode_any _ _ _ _ _ _ _ _ _).mono ?_
      rintro e wz ⟨rfl, hb9, hrow⟩
      have P9 := P0.out.below hb9
      have q0 := P9.c0
      have f0 := P9.f0
      have HB9 := Lib.hid hb9
      have HROW := Lib.hid hrow
      clear hb9 hrow P9
      unfold nodeV
      go_wp2_with fail
      refine bodyPost_ret (v := nodeV w1.heap.size) (by unfold nodeV; simp [results, Tryz.results34, go_sem, q0]) rfl ?_
      rw [HQ.out]
      have hrow : RowAt wz w1.heap.size (1 : Nat) ⟨([] : List UInt8).toArray⟩ ⟨([] : List UInt8).toArray⟩ 0 (E.pl (E.z + 1)) (.slice Ak k ck) := by rw [HROOT.out]; exact HROW.out
      obtain ⟨v, h1, h2, h3⟩ := node_done (d := 0) H.out S1.out K.out (by omega) HB9.out hrow (by omega) (by omega) (.pointer (some ⟨w1.heap.size, 0, none⟩))
      exact ⟨v, h1, h2, h3⟩

end Go.Proofs.YtkahbhfbgdbnfaaGreatDoor

/-
  CONTRACTS: binary, unary, statement, branch of the reader at whatever fuel; program. Nobody but the reader's own block has turned.
-/
namespace Go.Proofs.YtkahbhfbgdbnfaaGreatDoor
open Go.RowKit

theorem single_run {T : Nat → AT} {c : Callee} {p : Pr Tree} {i : Nat} {r : Res (List Tree)} (h : runW T c (single p) i = some r) : ∃ r', runW T c p i = some r' ∧ ((∃ j e, r' = .bad j e ∧ r = .bad j e) ∨ ∃ t j, r' = .ok t j ∧ r = .ok [t] j) := by
  rcases bind_cases h with ⟨j, e, h1, h2⟩ | ⟨t, j, h1, h2⟩
  · exact ⟨_, h1, .inl ⟨j, e, rfl, h2⟩⟩
  · exact ⟨_, h1, .inr ⟨t, j, rfl, run_ret h2⟩⟩
theorem lift_single {E : Env} {f : FuncId} {args : Array Value} {w : World} {d : Nat} {c : Callee} {p : Pr Tree} {i : Nat} {r : Res (List Tree)} (h : runW E.T c (single p) i = some r) (hc : ∀ r', Hid (runW E.T c p i = some r') → Calls Tryz.prog f args w (Q E w d (VN E w.heap.size) r')) : Calls Tryz.prog f args w (Q E w d (VH E w.heap.size) r) := by
  obtain ⟨r', h1, h2⟩ := single_run h
  refine (hc r' h1).mono ?_
  intro e w' hq
  rcases h2 with ⟨j, er, rfl, rfl⟩ | ⟨t, j, rfl, rfl⟩
  · exact hq
  · exact hq
theorem all_any (E : Env) (n : Nat) : IH E n := by
  induction n with
  | zero =>
    refine ⟨?_, ?_, ?_, ?_⟩
    · intro w i d l r h1 h6 hrd hp; cases hp.out
    · intro w i d r hrd hp; cases hp.out
    · intro w i d r hrd hp; cases hp.out
    · intro w i d r hrd hp; cases hp.out
  | succ n ih =>
    refine ⟨?_, ?_, ?_, ?_⟩
    · intro w i d l r h1 h6 hrd hp
      exact lift_single (p := binary l d) hp.out fun r' hr' => binary_any E w i d n ih l h1 h6 r' hrd hr'
    · intro w i d r hrd hp
      exact lift_single (p := unary d) hp.out fun r' hr' => unary_any E w i d n ih r' hrd hr'
    · intro w i d r hrd hp
      exact lift_single (p := stmt d) hp.out fun r' hr' => statement_any E w i d n ih r' hrd hr'
    · intro w i d r hrd hp
      exact lift_single (p := branch d) hp.out fun r' hr' => branch_any E w i d n ih r' hrd hr'

end Go.Proofs.YtkahbhfbgdbnfaaGreatDoor
