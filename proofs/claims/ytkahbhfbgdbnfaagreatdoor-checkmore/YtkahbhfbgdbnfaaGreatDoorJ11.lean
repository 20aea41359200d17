/-
  CONTRACT: block of the reader, where calls one step down are as they should be. Nobody but the reader's own block has turned.
-/
import Derived.Test.YtkahbhfbgdbnfaaGreatDoorJ10
import Derived.Test.YtkahbhfbgdbnfaaGreatDoorJ6
namespace Go.Proofs.YtkahbhfbgdbnfaaGreatDoor
open Go.RowKit

theorem KidsIn.slice {ok : Nat → Prop} {pl : Nat → Nat} {w : World} {v : Value} {n : Nat} {ts : List Tree} (h : KidsIn ok pl w v n ts) : ∃ A c, v = .slice A n c ∧ n ≤ c ∧ (0 < n → ∃ g, A = some ⟨g, 0, none⟩ ∧ v.ownBlock = some g) := by
  obtain ⟨bs, h1, -⟩ := h
  exact slice_of h1

set_option maxRecDepth 100000 in
set_option maxHeartbeats 400000 in
theorem block_any (E : Env) (w : World) (i d : Nat) (n : Nat) (ih : IH E n) (r : Res Tree) (h : RD E w i d) (hr : Hid (runW E.T (P E.T n) (block d) i = some r)) :
    Calls Tryz.prog 132 #[.pointer (some ⟨E.rb, 0, none⟩)] w (Q E w d (VN E w.heap.size) r) := by
  have H := Lib.hid h
  have hr1 := h.lt
  have hf0 := tok_kind
  have hf1 := tok_text
  have hf2 := tok_at
  have S0 := Lib.hid (ST.below (ST.refl h) (b1 w (.cells #[.pointer none] 25)))
  have P0 := Lib.hid (PtrAt.new w none)
  have l0 := P0.out.lt
  clear h
  go_enter Tryz.func132, Tryz.ntmps132
  go_wp2_with fail
  generalize w.alloc (.cells #[.pointer none] 25) = wa at *
  rcases bind_cases hr.out with ⟨j1, er, hx, hq⟩ | ⟨a1, j1, hx, hq⟩
  · exact (enter_any E _ i d ⟨#[123]⟩ (P E.T n) _ S0.out.1 (Lib.hid (by decide)) hx).mono fun e w' h => by obtain ⟨rfl, hg⟩ := h; exact ⟨rfl, by rw [hq]; exact ⟨rfl, S0.out.2.trans hg⟩⟩
  refine (enter_any E _ i d ⟨#[123]⟩ (P E.T n) _ S0.out.1 (Lib.hid (by decide)) hx).mono ?_
  rintro e w1 ⟨v1, rfl, hv, hst⟩
  obtain rfl := hv
  unfold tokV
  have P0' := Lib.hid (P0.out.kept hst.2 (by omega))
  clear P0
  have P0 := P0'
  clear P0'
  have S1 := Lib.hid (S0.out.trans hst)
  have z1 := hst.2.size
  clear hst
  have HR1 := Lib.hid hq
  clear hx hq
  obtain ⟨rs, hrs, hbad, hok⟩ := call_some HR1.out
  have HRS := Lib.hid hrs
  have HBAD := Lib.hid hbad
  have HOK := Lib.hid hok
  clear hrs hbad hok
  have hz := H.out.zle
  go_wp2_with fail
  go_loopw [4] (fun v wr => KRel E n w w.heap.size .stmts (d + 1) rs v wr) (fun _ wr => E.z - nx E wr)
  case atStart => exact ⟨n, 0, j1, [], rs, Nat.le_refl _, Nat.zero_le _, by omega, HRS, Lib.hid (preR_nil rs).symm, KidsIn.nil _ _ _, S1, P0⟩
  case round =>
    obtain ⟨m, k, iq, ts, rq, hm, hk, hB, HP, HE, K, S, P0⟩ := hrel
    obtain ⟨m, rfl, hp⟩ := P_pos HP.out
    have HR := Lib.hid hp
    clear hp HP
    have hiz := S.out.1.ile
    have hnx := S.out.1.at_nx
    have HNX := Lib.hid hnx
    clear hnx
    by_cases ht : (E.T iq).text = cRC
    · skip
      have h0 := peek_yes HR.out ht
      have HR2 := Lib.hid (run_next h0)
      clear h0
      have hq := run_ret HR2.out
      have hrs : rs = .ok ts (iq + 1) := by rw [HE.out, hq]; simp [preR]
      have HQ : Hid (r = .ok (.mk 6 [] [] 0 a1 ts) (iq + 1)) := run_ret (HOK.out _ _ hrs)
      clear hq hrs
      go_wp2_with fail
      refine (take_yes E _ iq (d + 1) ⟨#[125]⟩ S.out.1 ht (Lib.hid (by decide))).mono ?_
      rintro e w3 ⟨rfl, hst⟩
      have K' := Lib.hid (K.out.st hst.2 (by omega))
      clear K
      have K := K'
      clear K'
      have P0' := Lib.hid (P0.out.kept hst.2 (by omega))
      clear P0
      have P0 := P0'
      clear P0'
      have S3 := Lib.hid (S.out.trans hst)
      have z3 := hst.2.size
      clear hst
      clear ht
      go_wp2_with fail
      refine (leave_any E _ (iq + 1) d S3.out.1).mono ?_
      rintro e w4 ⟨rfl, hst⟩
      have K' := Lib.hid (K.out.st hst.2 (by omega))
      clear K
      have K := K'
      clear K'
      have P0' := Lib.hid (P0.out.kept hst.2 (by omega))
      clear P0
      have P0 := P0'
      clear P0'
      have S4 := Lib.hid (S3.out.trans hst)
      have z4 := hst.2.size
      clear hst
      obtain ⟨Ak, ck, hvk, -, -⟩ := K.out.slice
      subst hvk
      go_wp2_with fail
      refine (newNode_any _ _ _ _ _ _ _ _ _).mono ?_
      rintro e w9 ⟨rfl, hb9, hrow⟩
      have P9 := P0.out.below hb9
      have q0 := P9.c0
      have f0 := P9.f0
      have HB9 := Lib.hid hb9
      have HROW := Lib.hid hrow
      clear hb9 hrow P9
      unfold nodeV
      go_wp2_with fail
      refine bodyPost_ret (v := nodeV w4.heap.size) (by unfold nodeV; simp [results, Tryz.results132, go_sem, q0]) rfl ?_
      rw [HQ.out]
      have hrow := HROW.out
      exact node_done H.out S4.out K.out (by omega) HB9.out hrow (by omega) (by omega) _
    · skip
      have HR5 := Lib.hid (peek_no HR.out ht)
      go_wp2_with fail
      refine (take_no E _ iq (d + 1) ⟨#[125]⟩ S.out.1 ht).mono ?_
      rintro e w6 ⟨rfl, hb⟩
      have K' := Lib.hid (K.out.bl hb)
      clear K
      have K := K'
      clear K'
      have P0' := Lib.hid (P0.out.below hb)
      clear P0
      have P0 := P0'
      clear P0'
      have S6 := Lib.hid (S.out.below hb)
      have z6 := hb.size
      clear hb
      clear ht
      go_wp2_with fail
      have KL := Lib.hid K.out.lt
      rcases call_cases HR5.out with ⟨j7, er, hx, hq⟩ | ⟨a7, j7, hx, hq⟩
      · exact (ih.stmt _ iq (d + 1) _ S6.out.1 (P_mono E.T (by omega) _ _ _ _ hx)).mono fun e w' h => by obtain ⟨rfl, hg⟩ := h; exact ⟨rfl, by rw [HBAD.out j7 er (by rw [HE.out, hq]; rfl)]; exact ⟨rfl, S6.out.2.trans hg⟩⟩
      have hpr := P_prog S.out.1.sent (nt := .stmt) trivial hiz hx
      simp only [minc] at hpr
      refine (ih.stmt _ iq (d + 1) _ S6.out.1 (P_mono E.T (by omega) _ _ _ _ hx)).mono ?_
      rintro e w7 ⟨v7, rfl, ⟨nb7, hv, hn⟩, hst⟩
      obtain rfl := hv
      unfold nodeV
      have K' := Lib.hid (K.out.st hst.2 (by omega))
      clear K
      have K := K'
      clear K'
      have P0' := Lib.hid (P0.out.kept hst.2 (by omega))
      clear P0
      have P0 := P0'
      clear P0'
      have N7 := Lib.hid (hn.from (B := w.heap.size) (by omega))
      have M7 := Lib.hid hn
      clear hn
      have S7 := Lib.hid (S6.out.trans hst)
      have z7 := hst.2.size
      clear hst
      rcases call_cases hq with ⟨j9, er, hy, hq2⟩ | ⟨a9, j9, hy, hq2⟩
      · skip
        have HP : Hid (P E.T m .stmts (d + 1) j7 = some (.bad j9 er)) := hy
        have HE2 : Hid (rs = preR (ts ++ [hd a7]) (.bad j9 er)) := by show _ = _; rw [HE.out, hq2]; rfl
        clear hx hq hy hq2
        have L := Lib.hid (show (w7.alloc (.cells #[.pointer (some ⟨nb7, 0, none⟩)] 25)).cell? ⟨w7.heap.size, 0, none⟩ = some (.pointer (some ⟨nb7, 0, none⟩)) by simp [go_sem])
        have K' := Lib.hid (K.out.bl (b1 w7 (.cells #[.pointer (some ⟨nb7, 0, none⟩)] 25)))
        clear K
        have K := K'
        clear K'
        have P0' := Lib.hid (P0.out.below (b1 w7 (.cells #[.pointer (some ⟨nb7, 0, none⟩)] 25)))
        clear P0
        have P0 := P0'
        clear P0'
        have N7' := Lib.hid (N7.out.bl (b1 w7 (.cells #[.pointer (some ⟨nb7, 0, none⟩)] 25)))
        clear N7
        have N7 := N7'
        clear N7'
        have M7' := Lib.hid (M7.out.bl (b1 w7 (.cells #[.pointer (some ⟨nb7, 0, none⟩)] 25)))
        clear M7
        have M7 := M7'
        clear M7'
        have S8 := Lib.hid (S7.out.below (b1 w7 (.cells #[.pointer (some ⟨nb7, 0, none⟩)] 25)))
        have z8 := (b1 w7 (.cells #[.pointer (some ⟨nb7, 0, none⟩)] 25)).size
        have y8 : w7.heap.size < (w7.alloc (.cells #[.pointer (some ⟨nb7, 0, none⟩)] 25)).heap.size := by simp
        go_wp2_with (at_builtin; refine Hid.out ?_)
        generalize w7.alloc (.cells #[.pointer (some ⟨nb7, 0, none⟩)] 25) = w8 at *
        refine Lib.hid ?_
        refine wpList_append_kid rfl (.tmp 11) (.tmp 14) rfl w.heap.size E.pl _ k ts rfl K.out nb7 (hd a7) N7.out (fun g hg => M7.out.weak fun x hx _ => ⟨by omega, by have := KL.out g hg; omega⟩) _ rfl L.out (by omega) (by omega) ?_
        intro g9 cap9 w9 hk hg hy
        have P0' := Lib.hid (P0.out.grow hg (fun e => by have := hy _ e; omega))
        clear P0
        have P0 := P0'
        clear P0'
        have S9 := Lib.hid (ST.grow H.out S8.out hg (fun y e => by have := hy y e; omega))
        have z9 := hg.size
        clear K
        have K := Lib.hid hk
        clear hk hg hy
        have hnx2 := S9.out.1.at_nx
        have HNX2 := Lib.hid hnx2
        clear hnx2
        go_wp2_with fail
        go_roundw
        case rel => exact ⟨m, k + 1, _, _, _, by omega, by omega, by omega, HP, HE2, K, S9, P0⟩
        case measure => rw [HNX.out, HNX2.out]; omega
      · skip
        have HP : Hid (P E.T m .stmts (d + 1) j7 = some (.ok a9 j9)) := hy
        have HE2 : Hid (rs = preR (ts ++ [hd a7]) (.ok a9 j9)) := by show _ = _; rw [HE.out, run_ret hq2]; simp [preR]
        clear hx hq hy hq2
        have L := Lib.hid (show (w7.alloc (.cells #[.pointer (some ⟨nb7, 0, none⟩)] 25)).cell? ⟨w7.heap.size, 0, none⟩ = some (.pointer (some ⟨nb7, 0, none⟩)) by simp [go_sem])
        have K' := Lib.hid (K.out.bl (b1 w7 (.cells #[.pointer (some ⟨nb7, 0, none⟩)] 25)))
        clear K
        have K := K'
        clear K'
        have P0' := Lib.hid (P0.out.below (b1 w7 (.cells #[.pointer (some ⟨nb7, 0, none⟩)] 25)))
        clear P0
        have P0 := P0'
        clear P0'
        have N7' := Lib.hid (N7.out.bl (b1 w7 (.cells #[.pointer (some ⟨nb7, 0, none⟩)] 25)))
        clear N7
        have N7 := N7'
        clear N7'
        have M7' := Lib.hid (M7.out.bl (b1 w7 (.cells #[.pointer (some ⟨nb7, 0, none⟩)] 25)))
        clear M7
        have M7 := M7'
        clear M7'
        have S10 := Lib.hid (S7.out.below (b1 w7 (.cells #[.pointer (some ⟨nb7, 0, none⟩)] 25)))
        have z10 := (b1 w7 (.cells #[.pointer (some ⟨nb7, 0, none⟩)] 25)).size
        have y10 : w7.heap.size < (w7.alloc (.cells #[.pointer (some ⟨nb7, 0, none⟩)] 25)).heap.size := by simp
        go_wp2_with (at_builtin; refine Hid.out ?_)
        generalize w7.alloc (.cells #[.pointer (some ⟨nb7, 0, none⟩)] 25) = w10 at *
        refine Lib.hid ?_
        refine wpList_append_kid rfl (.tmp 11) (.tmp 14) rfl w.heap.size E.pl _ k ts rfl K.out nb7 (hd a7) N7.out (fun g hg => M7.out.weak fun x hx _ => ⟨by omega, by have := KL.out g hg; omega⟩) _ rfl L.out (by omega) (by omega) ?_
        intro g11 cap11 w11 hk hg hy
        have P0' := Lib.hid (P0.out.grow hg (fun e => by have := hy _ e; omega))
        clear P0
        have P0 := P0'
        clear P0'
        have S11 := Lib.hid (ST.grow H.out S10.out hg (fun y e => by have := hy y e; omega))
        have z11 := hg.size
        clear K
        have K := Lib.hid hk
        clear hk hg hy
        have hnx2 := S11.out.1.at_nx
        have HNX2 := Lib.hid hnx2
        clear hnx2
        go_wp2_with fail
        go_roundw
        case rel => exact ⟨m, k + 1, _, _, _, by omega, by omega, by omega, HP, HE2, K, S11, P0⟩
        case measure => rw [HNX.out, HNX2.out]; omega

end Go.Proofs.YtkahbhfbgdbnfaaGreatDoor

/-
  CONTRACTS: arguments and parts of the reader, where calls one step down are as they should be. Nobody but the reader's own block has turned.
-/
namespace Go.Proofs.YtkahbhfbgdbnfaaGreatDoor
open Go.RowKit

theorem expr_prog {T : Nat → AT} {z m d i j : Nat} {x : Tree} (S : Sent T z) (hi : i ≤ z) (h : runW T (P T m) (expr d) i = some (.ok x j)) : i + 1 ≤ j ∧ j ≤ z := by
  rcases call_cases h with ⟨j', e, h1, h2⟩ | ⟨a, j', h1, h2⟩
  · cases h2
  · have := run_ret h2
    injection this with e1 e2
    subst e2
    exact P_prog S (nt := .binary 1) (Nat.le_refl 1) hi h1

set_option maxRecDepth 100000 in
set_option maxHeartbeats 400000 in
theorem arguments_any (E : Env) (w : World) (i d : Nat) (n : Nat) (ih : IH E n) (r : Res (List Tree)) (h : RD E w i d) (hr : Hid (runW E.T (P E.T n) (args d) i = some r)) :
    Calls Tryz.prog 239 #[.pointer (some ⟨E.rb, 0, none⟩)] w (Q E w d (VL E w.heap.size) r) := by
  have H := Lib.hid h
  have hr1 := h.lt
  have hf0 := tok_kind
  have hf1 := tok_text
  have hf2 := tok_at
  have S0 := Lib.hid (ST.refl h)
  clear h
  go_enter Tryz.func239, Tryz.ntmps239
  go_wp2_with fail
  have hz := H.out.zle
  rcases bind_cases hr.out with ⟨j1, er, hx, hq⟩ | ⟨a1, j1, hx, hq⟩
  · exact (enter_any E _ i d ⟨#[40]⟩ (P E.T n) _ S0.out.1 (Lib.hid (by decide)) hx).mono fun e w' h => by obtain ⟨rfl, hg⟩ := h; exact ⟨rfl, by rw [hq]; exact ⟨rfl, S0.out.2.trans hg⟩⟩
  refine (enter_any E _ i d ⟨#[40]⟩ (P E.T n) _ S0.out.1 (Lib.hid (by decide)) hx).mono ?_
  rintro e w1 ⟨v1, rfl, -, hst⟩
  have S1 := Lib.hid (S0.out.trans hst)
  have z1 := hst.2.size
  clear hst
  have HR1 := Lib.hid hq
  clear hx hq
  go_wp2_with fail
  by_cases ht : (E.T j1).text = cRB
  · skip
    have h0 := peek_yes HR1.out ht
    have HR2 := Lib.hid h0
    clear h0
    refine (is_yes E _ j1 (d + 1) ⟨#[41]⟩ S1.out.1 ht).mono ?_
    rintro e w3 ⟨rfl, hb⟩
    have S3 := Lib.hid (S1.out.below hb)
    have z3 := hb.size
    clear hb
    clear ht
    go_wp2_with fail
    rcases bind_cases HR2.out with ⟨j9, er, hx, hq⟩ | ⟨a9, j9, hx, hq⟩
    · exact (need_any E _ j1 (d + 1) ⟨#[41]⟩ (P E.T n) _ S3.out.1 (Lib.hid (by decide)) hx).mono fun e w' h => by obtain ⟨rfl, hg⟩ := h; exact ⟨rfl, by rw [hq]; exact ⟨rfl, S3.out.2.trans hg⟩⟩
    refine (need_any E _ j1 (d + 1) ⟨#[41]⟩ (P E.T n) _ S3.out.1 (Lib.hid (by decide)) hx).mono ?_
    rintro e w9 ⟨v9, rfl, -, hst⟩
    have S9 := Lib.hid (S3.out.trans hst)
    have z9 := hst.2.size
    clear hst
    have HQ := Lib.hid (run_ret hq)
    clear hx hq
    go_wp2_with fail
    refine (leave_any E _ j9 d S9.out.1).mono ?_
    rintro e w10 ⟨rfl, hst⟩
    have S10 := Lib.hid (S9.out.trans hst)
    have z10 := hst.2.size
    clear hst
    go_wp2_with fail
    go_ret
    rw [HQ.out]
    exact ⟨_, rfl, vl_end (KidsIn.nil _ _ _) (by omega), S10.out⟩
  · skip
    have HR11 := Lib.hid (peek_no HR1.out ht)
    refine (is_no E _ j1 (d + 1) ⟨#[41]⟩ S1.out.1 ht).mono ?_
    rintro e w12 ⟨rfl, hb⟩
    have S12 := Lib.hid (S1.out.below hb)
    have z12 := hb.size
    clear hb
    clear ht
    go_wp2_with fail
    have K := Lib.hid (KidsIn.nil (fun x => w.heap.size - 1 < x) E.pl w12)
    have KL := Lib.hid K.out.lt
    rcases bind_cases HR11.out with ⟨j13, er, hx, hq⟩ | ⟨a13, j13, hx, hq⟩
    · exact (expr_any E _ j1 (d + 1) n ih _ S12.out.1 hx).mono fun e w' h => by obtain ⟨rfl, hg⟩ := h; exact ⟨rfl, by rw [hq]; exact ⟨rfl, S12.out.2.trans hg⟩⟩
    have hp1 := expr_prog S12.out.1.sent S12.out.1.ile hx
    refine (expr_any E _ j1 (d + 1) n ih _ S12.out.1 hx).mono ?_
    rintro e w13 ⟨v13, rfl, ⟨nb13, hv, hn⟩, hst⟩
    obtain rfl := hv
    unfold nodeV
    have K' := Lib.hid (K.out.st hst.2 (by omega))
    clear K
    have K := K'
    clear K'
    have N13 := Lib.hid (hn.from (B := (w.heap.size - 1)) (by omega))
    have M13 := Lib.hid hn
    clear hn
    have S13 := Lib.hid (S12.out.trans hst)
    have z13 := hst.2.size
    clear hst
    have HR13 := Lib.hid hq
    clear hx hq
    obtain ⟨rs, hrs, hbad, hok⟩ := call_some HR13.out
    have HRS := Lib.hid hrs
    have HBAD : Hid (∀ j e, preR [a13] rs = .bad j e → r = .bad j e) := fun j e h => hbad j e (preR_bad h)
    have HOK : Hid (∀ a j, preR [a13] rs = .ok a j → r = .ok a j) := fun a j h => by obtain ⟨a', h1, h2⟩ := preR_ok h; rw [run_ret (hok a' j h1), h2]; rfl
    clear hrs hbad hok
    have h1i : 1 ≤ j13 := by omega
    have L := Lib.hid (show (w13.alloc (.cells #[.pointer (some ⟨nb13, 0, none⟩)] 25)).cell? ⟨w13.heap.size, 0, none⟩ = some (.pointer (some ⟨nb13, 0, none⟩)) by simp [go_sem])
    have K' := Lib.hid (K.out.bl (b1 w13 (.cells #[.pointer (some ⟨nb13, 0, none⟩)] 25)))
    clear K
    have K := K'
    clear K'
    have N13' := Lib.hid (N13.out.bl (b1 w13 (.cells #[.pointer (some ⟨nb13, 0, none⟩)] 25)))
    clear N13
    have N13 := N13'
    clear N13'
    have M13' := Lib.hid (M13.out.bl (b1 w13 (.cells #[.pointer (some ⟨nb13, 0, none⟩)] 25)))
    clear M13
    have M13 := M13'
    clear M13'
    have S14 := Lib.hid (S13.out.below (b1 w13 (.cells #[.pointer (some ⟨nb13, 0, none⟩)] 25)))
    have z14 := (b1 w13 (.cells #[.pointer (some ⟨nb13, 0, none⟩)] 25)).size
    have y14 : w13.heap.size < (w13.alloc (.cells #[.pointer (some ⟨nb13, 0, none⟩)] 25)).heap.size := by simp
    go_wp2_with (at_builtin; refine Hid.out ?_)
    generalize w13.alloc (.cells #[.pointer (some ⟨nb13, 0, none⟩)] 25) = w14 at *
    refine Lib.hid ?_
    refine wpList_append_kid rfl (.tmp 9) (.tmp 12) rfl (w.heap.size - 1) E.pl _ 0 [] rfl K.out nb13 a13 N13.out (fun g hg => M13.out.weak fun x hx _ => ⟨by omega, by have := KL.out g hg; omega⟩) _ rfl L.out (by omega) (by omega) ?_
    intro g15 cap15 w15 hk hg hy
    have S15 := Lib.hid (ST.grow H.out S14.out hg (fun y e => by have := hy y e; omega))
    have z15 := hg.size
    clear K
    have K := Lib.hid hk
    clear hk hg hy
    go_wp2_with fail
    go_loopw [3] (fun v wr => KRelL E n w .args (d + 1) (d + 1) (preR [a13] rs) v wr) (fun _ wr => E.z - nx E wr)
    case atStart => exact ⟨n, 1, j13, [a13], rs, Nat.le_refl _, h1i, by omega, HRS, Lib.hid rfl, K, S15⟩
    case round =>
      obtain ⟨m, k, iq, ts, rq, hm, hk, hB, HP, HE, K, S⟩ := hrel
      obtain ⟨m, rfl, hp⟩ := P_pos HP.out
      have HR := Lib.hid hp
      clear hp HP
      have hiz := S.out.1.ile
      have hnx := S.out.1.at_nx
      have HNX := Lib.hid hnx
      clear hnx
      by_cases ht : (E.T iq).text = cComma
      · skip
        have h0 := peek_yes HR.out ht
        have HR16 := Lib.hid (run_next h0)
        clear h0
        go_wp2_with fail
        refine (take_yes E _ iq (d + 1) ⟨#[44]⟩ S.out.1 ht (Lib.hid (by decide))).mono ?_
        rintro e w17 ⟨rfl, hst⟩
        have K' := Lib.hid (K.out.st hst.2 (by omega))
        clear K
        have K := K'
        clear K'
        have S17 := Lib.hid (S.out.trans hst)
        have z17 := hst.2.size
        clear hst
        clear ht
        go_wp2_with fail
        have KL2 := Lib.hid K.out.lt
        have hiz2 := S17.out.1.ile
        rcases bind_cases HR16.out with ⟨j18, er, hx, hq⟩ | ⟨a18, j18, hx, hq⟩
        · exact (expr_any E _ (iq + 1) (d + 1) n ih _ S17.out.1 (runW_at E.T (by omega) _ _ _ hx)).mono fun e w' h => by obtain ⟨rfl, hg⟩ := h; exact ⟨rfl, by rw [HBAD.out j18 er (by rw [HE.out, hq]; rfl)]; exact ⟨rfl, S17.out.2.trans hg⟩⟩
        have hpr := expr_prog S17.out.1.sent S17.out.1.ile hx
        refine (expr_any E _ (iq + 1) (d + 1) n ih _ S17.out.1 (runW_at E.T (by omega) _ _ _ hx)).mono ?_
        rintro e w18 ⟨v18, rfl, ⟨nb18, hv, hn⟩, hst⟩
        obtain rfl := hv
        unfold nodeV
        have K' := Lib.hid (K.out.st hst.2 (by omega))
        clear K
        have K := K'
        clear K'
        have N18 := Lib.hid (hn.from (B := (w.heap.size - 1)) (by omega))
        have M18 := Lib.hid hn
        clear hn
        have S18 := Lib.hid (S17.out.trans hst)
        have z18 := hst.2.size
        clear hst
        rcases call_cases hq with ⟨j9, er, hy, hq2⟩ | ⟨a9, j9, hy, hq2⟩
        · skip
          have HP : Hid (P E.T m .args (d + 1) j18 = some (.bad j9 er)) := hy
          have HE2 : Hid (preR [a13] rs = preR (ts ++ [a18]) (.bad j9 er)) := by show _ = _; rw [HE.out, hq2]; rfl
          clear hx hq hy hq2
          have L := Lib.hid (show (w18.alloc (.cells #[.pointer (some ⟨nb18, 0, none⟩)] 25)).cell? ⟨w18.heap.size, 0, none⟩ = some (.pointer (some ⟨nb18, 0, none⟩)) by simp [go_sem])
          have K' := Lib.hid (K.out.bl (b1 w18 (.cells #[.pointer (some ⟨nb18, 0, none⟩)] 25)))
          clear K
          have K := K'
          clear K'
          have N18' := Lib.hid (N18.out.bl (b1 w18 (.cells #[.pointer (some ⟨nb18, 0, none⟩)] 25)))
          clear N18
          have N18 := N18'
          clear N18'
          have M18' := Lib.hid (M18.out.bl (b1 w18 (.cells #[.pointer (some ⟨nb18, 0, none⟩)] 25)))
          clear M18
          have M18 := M18'
          clear M18'
          have S19 := Lib.hid (S18.out.below (b1 w18 (.cells #[.pointer (some ⟨nb18, 0, none⟩)] 25)))
          have z19 := (b1 w18 (.cells #[.pointer (some ⟨nb18, 0, none⟩)] 25)).size
          have y19 : w18.heap.size < (w18.alloc (.cells #[.pointer (some ⟨nb18, 0, none⟩)] 25)).heap.size := by simp
          go_wp2_with (at_builtin; refine Hid.out ?_)
          generalize w18.alloc (.cells #[.pointer (some ⟨nb18, 0, none⟩)] 25) = w19 at *
          refine Lib.hid ?_
          refine wpList_append_kid rfl (.tmp 16) (.tmp 19) rfl (w.heap.size - 1) E.pl _ k ts rfl K.out nb18 a18 N18.out (fun g hg => M18.out.weak fun x hx _ => ⟨by omega, by have := KL2.out g hg; omega⟩) _ rfl L.out (by omega) (by omega) ?_
          intro g20 cap20 w20 hk hg hy
          have S20 := Lib.hid (ST.grow H.out S19.out hg (fun y e => by have := hy y e; omega))
          have z20 := hg.size
          clear K
          have K := Lib.hid hk
          clear hk hg hy
          have hnx2 := S20.out.1.at_nx
          have HNX2 := Lib.hid hnx2
          clear hnx2
          go_wp2_with fail
          go_roundw
          case rel => exact ⟨m, k + 1, _, _, _, by omega, by omega, by omega, HP, HE2, K, S20⟩
          case measure => rw [HNX.out, HNX2.out]; omega
        · skip
          have HP : Hid (P E.T m .args (d + 1) j18 = some (.ok a9 j9)) := hy
          have HE2 : Hid (preR [a13] rs = preR (ts ++ [a18]) (.ok a9 j9)) := by show _ = _; rw [HE.out, run_ret hq2]; simp [preR]
          clear hx hq hy hq2
          have L := Lib.hid (show (w18.alloc (.cells #[.pointer (some ⟨nb18, 0, none⟩)] 25)).cell? ⟨w18.heap.size, 0, none⟩ = some (.pointer (some ⟨nb18, 0, none⟩)) by simp [go_sem])
          have K' := Lib.hid (K.out.bl (b1 w18 (.cells #[.pointer (some ⟨nb18, 0, none⟩)] 25)))
          clear K
          have K := K'
          clear K'
          have N18' := Lib.hid (N18.out.bl (b1 w18 (.cells #[.pointer (some ⟨nb18, 0, none⟩)] 25)))
          clear N18
          have N18 := N18'
          clear N18'
          have M18' := Lib.hid (M18.out.bl (b1 w18 (.cells #[.pointer (some ⟨nb18, 0, none⟩)] 25)))
          clear M18
          have M18 := M18'
          clear M18'
          have S21 := Lib.hid (S18.out.below (b1 w18 (.cells #[.pointer (some ⟨nb18, 0, none⟩)] 25)))
          have z21 := (b1 w18 (.cells #[.pointer (some ⟨nb18, 0, none⟩)] 25)).size
          have y21 : w18.heap.size < (w18.alloc (.cells #[.pointer (some ⟨nb18, 0, none⟩)] 25)).heap.size := by simp
          go_wp2_with (at_builtin; refine Hid.out ?_)
          generalize w18.alloc (.cells #[.pointer (some ⟨nb18, 0, none⟩)] 25) = w21 at *
          refine Lib.hid ?_
          refine wpList_append_kid rfl (.tmp 16) (.tmp 19) rfl (w.heap.size - 1) E.pl _ k ts rfl K.out nb18 a18 N18.out (fun g hg => M18.out.weak fun x hx _ => ⟨by omega, by have := KL2.out g hg; omega⟩) _ rfl L.out (by omega) (by omega) ?_
          intro g22 cap22 w22 hk hg hy
          have S22 := Lib.hid (ST.grow H.out S21.out hg (fun y e => by have := hy y e; omega))
          have z22 := hg.size
          clear K
          have K := Lib.hid hk
          clear hk hg hy
          have hnx2 := S22.out.1.at_nx
          have HNX2 := Lib.hid hnx2
          clear hnx2
          go_wp2_with fail
          go_roundw
          case rel => exact ⟨m, k + 1, _, _, _, by omega, by omega, by omega, HP, HE2, K, S22⟩
          case measure => rw [HNX.out, HNX2.out]; omega
      · skip
        have HR23 := Lib.hid (peek_no HR.out ht)
        go_wp2_with fail
        refine (take_no E _ iq (d + 1) ⟨#[44]⟩ S.out.1 ht).mono ?_
        rintro e w24 ⟨rfl, hb⟩
        have K' := Lib.hid (K.out.bl hb)
        clear K
        have K := K'
        clear K'
        have S24 := Lib.hid (S.out.below hb)
        have z24 := hb.size
        clear hb
        clear ht
        go_wp2_with fail
        rcases bind_cases HR23.out with ⟨j25, er, hx, hq⟩ | ⟨a25, j25, hx, hq⟩
        · exact (need_any E _ iq (d + 1) ⟨#[41]⟩ (P E.T m) _ S24.out.1 (Lib.hid (by decide)) hx).mono fun e w' h => by obtain ⟨rfl, hg⟩ := h; exact ⟨rfl, by rw [HBAD.out j25 er (by rw [HE.out, hq]; rfl)]; exact ⟨rfl, S24.out.2.trans hg⟩⟩
        refine (need_any E _ iq (d + 1) ⟨#[41]⟩ (P E.T m) _ S24.out.1 (Lib.hid (by decide)) hx).mono ?_
        rintro e w25 ⟨v25, rfl, -, hst⟩
        have K' := Lib.hid (K.out.st hst.2 (by omega))
        clear K
        have K := K'
        clear K'
        have S25 := Lib.hid (S24.out.trans hst)
        have z25 := hst.2.size
        clear hst
        have HQ : Hid (r = .ok ts j25) := HOK.out _ _ (by rw [HE.out, run_ret hq]; simp [preR])
        clear hx hq
        go_wp2_with fail
        refine (leave_any E _ j25 d S25.out.1).mono ?_
        rintro e w26 ⟨rfl, hst⟩
        have K' := Lib.hid (K.out.st hst.2 (by omega))
        clear K
        have K := K'
        clear K'
        have S26 := Lib.hid (S25.out.trans hst)
        have z26 := hst.2.size
        clear hst
        go_wp2_with fail
        go_ret
        rw [HQ.out]
        exact ⟨_, rfl, vl_end K.out (by omega), S26.out⟩

set_option maxRecDepth 100000 in
set_option maxHeartbeats 400000 in
theorem parts_any (E : Env) (w : World) (i d : Nat) (n : Nat) (_ : IH E n) (r : Res (List Tree)) (h : RD E w i d) (hr : Hid (runW E.T (P E.T n) (fparts) i = some r)) :
    Calls Tryz.prog 130 #[.pointer (some ⟨E.rb, 0, none⟩)] w (Q E w d (VL E w.heap.size) r) := by
  have H := Lib.hid h
  have hr1 := h.lt
  have hf0 := tok_kind
  have hf1 := tok_text
  have hf2 := tok_at
  have S0 := Lib.hid (ST.refl h)
  clear h
  go_enter Tryz.func130, Tryz.ntmps130
  go_wp2_with fail
  have hz := H.out.zle
  rcases bind_cases hr.out with ⟨j1, er, hx, hq⟩ | ⟨a1, j1, hx, hq⟩
  · exact (need_any E _ i d ⟨#[40]⟩ (P E.T n) _ S0.out.1 (Lib.hid (by decide)) hx).mono fun e w' h => by obtain ⟨rfl, hg⟩ := h; exact ⟨rfl, by rw [hq]; exact ⟨rfl, S0.out.2.trans hg⟩⟩
  refine (need_any E _ i d ⟨#[40]⟩ (P E.T n) _ S0.out.1 (Lib.hid (by decide)) hx).mono ?_
  rintro e w1 ⟨v1, rfl, -, hst⟩
  have S1 := Lib.hid (S0.out.trans hst)
  have z1 := hst.2.size
  clear hst
  have HR1 := Lib.hid hq
  clear hx hq
  go_wp2_with fail
  by_cases ht : (E.T j1).text = cRB
  · skip
    have h0 := peek_yes HR1.out ht
    have HR2 := Lib.hid (run_next h0)
    clear h0
    have HQ := Lib.hid (run_ret HR2.out)
    refine (take_yes E _ j1 d ⟨#[41]⟩ S1.out.1 ht (Lib.hid (by decide))).mono ?_
    rintro e w3 ⟨rfl, hst⟩
    have S3 := Lib.hid (S1.out.trans hst)
    have z3 := hst.2.size
    clear hst
    clear ht
    go_wp2_with fail
    go_ret
    rw [HQ.out]
    exact ⟨_, rfl, vl_end (KidsIn.nil _ _ _) (by omega), S3.out⟩
  · skip
    have HR4 := Lib.hid (peek_no HR1.out ht)
    refine (take_no E _ j1 d ⟨#[41]⟩ S1.out.1 ht).mono ?_
    rintro e w5 ⟨rfl, hb⟩
    have S5 := Lib.hid (S1.out.below hb)
    have z5 := hb.size
    clear hb
    clear ht
    go_wp2_with fail
    have K := Lib.hid (KidsIn.nil (fun x => w.heap.size - 1 < x) E.pl w5)
    have KL := Lib.hid K.out.lt
    rcases bind_cases HR4.out with ⟨j6, er, hx, hq⟩ | ⟨a6, j6, hx, hq⟩
    · exact (typed_any E _ j1 d 5 (P E.T n) _ S5.out.1 (by omega) hx).mono fun e w' h => by obtain ⟨rfl, hg⟩ := h; exact ⟨rfl, by rw [hq]; exact ⟨rfl, S5.out.2.trans hg⟩⟩
    have hp1 := tot_prog (tot_typed S5.out.1.sent 5 _) hx
    refine (typed_any E _ j1 d 5 (P E.T n) _ S5.out.1 (by omega) hx).mono ?_
    rintro e w6 ⟨v6, rfl, ⟨nb6, hv, hn⟩, hst⟩
    obtain rfl := hv
    unfold nodeV
    have K' := Lib.hid (K.out.st hst.2 (by omega))
    clear K
    have K := K'
    clear K'
    have N6 := Lib.hid (hn.from (B := (w.heap.size - 1)) (by omega))
    have M6 := Lib.hid hn
    clear hn
    have S6 := Lib.hid (S5.out.trans hst)
    have z6 := hst.2.size
    clear hst
    have HR6 := Lib.hid hq
    clear hx hq
    obtain ⟨rs, hrs, hbad, hok⟩ := call_some HR6.out
    have HRS := Lib.hid hrs
    have HBAD : Hid (∀ j e, preR [a6] rs = .bad j e → r = .bad j e) := fun j e h => hbad j e (preR_bad h)
    have HOK : Hid (∀ a j, preR [a6] rs = .ok a j → r = .ok a j) := fun a j h => by obtain ⟨a', h1, h2⟩ := preR_ok h; rw [run_ret (hok a' j h1), h2]; rfl
    clear hrs hbad hok
    have h1i : 1 ≤ j6 := by omega
    have K1 := Lib.hid (kids_lit1 N6.out (by omega))
    have N6' := Lib.hid (N6.out.bl (b1 w6 (.cells #[.pointer (some ⟨nb6, 0, none⟩)] 25)))
    clear N6
    have N6 := N6'
    clear N6'
    have M6' := Lib.hid (M6.out.bl (b1 w6 (.cells #[.pointer (some ⟨nb6, 0, none⟩)] 25)))
    clear M6
    have M6 := M6'
    clear M6'
    have S7 := Lib.hid (S6.out.below (b1 w6 (.cells #[.pointer (some ⟨nb6, 0, none⟩)] 25)))
    have z7 := (b1 w6 (.cells #[.pointer (some ⟨nb6, 0, none⟩)] 25)).size
    have y7 : w6.heap.size < (w6.alloc (.cells #[.pointer (some ⟨nb6, 0, none⟩)] 25)).heap.size := by simp
    go_wp2_with fail
    generalize w6.alloc (.cells #[.pointer (some ⟨nb6, 0, none⟩)] 25) = w7 at *
    go_loopw [3] (fun v wr => KRelL E n w .params 0 d (preR [a6] rs) v wr) (fun _ wr => E.z - nx E wr)
    case atStart => exact ⟨n, 1, j6, [a6], rs, Nat.le_refl _, h1i, by omega, HRS, Lib.hid rfl, K1, S7⟩
    case round =>
      obtain ⟨m, k, iq, ts, rq, hm, hk, hB, HP, HE, K, S⟩ := hrel
      obtain ⟨m, rfl, hp⟩ := P_pos HP.out
      have HR := Lib.hid hp
      clear hp HP
      have hiz := S.out.1.ile
      have hnx := S.out.1.at_nx
      have HNX := Lib.hid hnx
      clear hnx
      by_cases ht : (E.T iq).text = cComma
      · skip
        have h0 := peek_yes HR.out ht
        have HR8 := Lib.hid (run_next h0)
        clear h0
        go_wp2_with fail
        refine (take_yes E _ iq d ⟨#[44]⟩ S.out.1 ht (Lib.hid (by decide))).mono ?_
        rintro e w9 ⟨rfl, hst⟩
        have K' := Lib.hid (K.out.st hst.2 (by omega))
        clear K
        have K := K'
        clear K'
        have S9 := Lib.hid (S.out.trans hst)
        have z9 := hst.2.size
        clear hst
        clear ht
        go_wp2_with fail
        have KL2 := Lib.hid K.out.lt
        have hiz2 := S9.out.1.ile
        rcases bind_cases HR8.out with ⟨j10, er, hx, hq⟩ | ⟨a10, j10, hx, hq⟩
        · exact (typed_any E _ (iq + 1) d 5 (P E.T n) _ S9.out.1 (by omega) (runW_at E.T (by omega) _ _ _ hx)).mono fun e w' h => by obtain ⟨rfl, hg⟩ := h; exact ⟨rfl, by rw [HBAD.out j10 er (by rw [HE.out, hq]; rfl)]; exact ⟨rfl, S9.out.2.trans hg⟩⟩
        have hpr := tot_prog (tot_typed S9.out.1.sent 5 _) hx
        refine (typed_any E _ (iq + 1) d 5 (P E.T n) _ S9.out.1 (by omega) (runW_at E.T (by omega) _ _ _ hx)).mono ?_
        rintro e w10 ⟨v10, rfl, ⟨nb10, hv, hn⟩, hst⟩
        obtain rfl := hv
        unfold nodeV
        have K' := Lib.hid (K.out.st hst.2 (by omega))
        clear K
        have K := K'
        clear K'
        have N10 := Lib.hid (hn.from (B := (w.heap.size - 1)) (by omega))
        have M10 := Lib.hid hn
        clear hn
        have S10 := Lib.hid (S9.out.trans hst)
        have z10 := hst.2.size
        clear hst
        rcases call_cases hq with ⟨j9, er, hy, hq2⟩ | ⟨a9, j9, hy, hq2⟩
        · skip
          have HP : Hid (P E.T m .params 0 j10 = some (.bad j9 er)) := hy
          have HE2 : Hid (preR [a6] rs = preR (ts ++ [a10]) (.bad j9 er)) := by show _ = _; rw [HE.out, hq2]; rfl
          clear hx hq hy hq2
          have L := Lib.hid (show (w10.alloc (.cells #[.pointer (some ⟨nb10, 0, none⟩)] 25)).cell? ⟨w10.heap.size, 0, none⟩ = some (.pointer (some ⟨nb10, 0, none⟩)) by simp [go_sem])
          have K' := Lib.hid (K.out.bl (b1 w10 (.cells #[.pointer (some ⟨nb10, 0, none⟩)] 25)))
          clear K
          have K := K'
          clear K'
          have N10' := Lib.hid (N10.out.bl (b1 w10 (.cells #[.pointer (some ⟨nb10, 0, none⟩)] 25)))
          clear N10
          have N10 := N10'
          clear N10'
          have M10' := Lib.hid (M10.out.bl (b1 w10 (.cells #[.pointer (some ⟨nb10, 0, none⟩)] 25)))
          clear M10
          have M10 := M10'
          clear M10'
          have S11 := Lib.hid (S10.out.below (b1 w10 (.cells #[.pointer (some ⟨nb10, 0, none⟩)] 25)))
          have z11 := (b1 w10 (.cells #[.pointer (some ⟨nb10, 0, none⟩)] 25)).size
          have y11 : w10.heap.size < (w10.alloc (.cells #[.pointer (some ⟨nb10, 0, none⟩)] 25)).heap.size := by simp
          go_wp2_with (at_builtin; refine Hid.out ?_)
          generalize w10.alloc (.cells #[.pointer (some ⟨nb10, 0, none⟩)] 25) = w11 at *
          refine Lib.hid ?_
          refine wpList_append_kid rfl (.tmp 13) (.tmp 16) rfl (w.heap.size - 1) E.pl _ k ts rfl K.out nb10 a10 N10.out (fun g hg => M10.out.weak fun x hx _ => ⟨by omega, by have := KL2.out g hg; omega⟩) _ rfl L.out (by omega) (by omega) ?_
          intro g12 cap12 w12 hk hg hy
          have S12 := Lib.hid (ST.grow H.out S11.out hg (fun y e => by have := hy y e; omega))
          have z12 := hg.size
          clear K
          have K := Lib.hid hk
          clear hk hg hy
          have hnx2 := S12.out.1.at_nx
          have HNX2 := Lib.hid hnx2
          clear hnx2
          go_wp2_with fail
          go_roundw
          case rel => exact ⟨m, k + 1, _, _, _, by omega, by omega, by omega, HP, HE2, K, S12⟩
          case measure => rw [HNX.out, HNX2.out]; omega
        · skip
          have HP : Hid (P E.T m .params 0 j10 = some (.ok a9 j9)) := hy
          have HE2 : Hid (preR [a6] rs = preR (ts ++ [a10]) (.ok a9 j9)) := by show _ = _; rw [HE.out, run_ret hq2]; simp [preR]
          clear hx hq hy hq2
          have L := Lib.hid (show (w10.alloc (.cells #[.pointer (some ⟨nb10, 0, none⟩)] 25)).cell? ⟨w10.heap.size, 0, none⟩ = some (.pointer (some ⟨nb10, 0, none⟩)) by simp [go_sem])
          have K' := Lib.hid (K.out.bl (b1 w10 (.cells #[.pointer (some ⟨nb10, 0, none⟩)] 25)))
          clear K
          have K := K'
          clear K'
          have N10' := Lib.hid (N10.out.bl (b1 w10 (.cells #[.pointer (some ⟨nb10, 0, none⟩)] 25)))
          clear N10
          have N10 := N10'
          clear N10'
          have M10' := Lib.hid (M10.out.bl (b1 w10 (.cells #[.pointer (some ⟨nb10, 0, none⟩)] 25)))
          clear M10
          have M10 := M10'
          clear M10'
          have S13 := Lib.hid (S10.out.below (b1 w10 (.cells #[.pointer (some ⟨nb10, 0, none⟩)] 25)))
          have z13 := (b1 w10 (.cells #[.pointer (some ⟨nb10, 0, none⟩)] 25)).size
          have y13 : w10.heap.size < (w10.alloc (.cells #[.pointer (some ⟨nb10, 0, none⟩)] 25)).heap.size := by simp
          go_wp2_with (at_builtin; refine Hid.out ?_)
          generalize w10.alloc (.cells #[.pointer (some ⟨nb10, 0, none⟩)] 25) = w13 at *
          refine Lib.hid ?_
          refine wpList_append_kid rfl (.tmp 13) (.tmp 16) rfl (w.heap.size - 1) E.pl _ k ts rfl K.out nb10 a10 N10.out (fun g hg => M10.out.weak fun x hx _ => ⟨by omega, by have := KL2.out g hg; omega⟩) _ rfl L.out (by omega) (by omega) ?_
          intro g14 cap14 w14 hk hg hy
          have S14 := Lib.hid (ST.grow H.out S13.out hg (fun y e => by have := hy y e; omega))
          have z14 := hg.size
          clear K
          have K := Lib.hid hk
          clear hk hg hy
          have hnx2 := S14.out.1.at_nx
          have HNX2 := Lib.hid hnx2
          clear hnx2
          go_wp2_with fail
          go_roundw
          case rel => exact ⟨m, k + 1, _, _, _, by omega, by omega, by omega, HP, HE2, K, S14⟩
          case measure => rw [HNX.out, HNX2.out]; omega
      · skip
        have HR15 := Lib.hid (peek_no HR.out ht)
        go_wp2_with fail
        refine (take_no E _ iq d ⟨#[44]⟩ S.out.1 ht).mono ?_
        rintro e w16 ⟨rfl, hb⟩
        have K' := Lib.hid (K.out.bl hb)
        clear K
        have K := K'
        clear K'
        have S16 := Lib.hid (S.out.below hb)
        have z16 := hb.size
        clear hb
        clear ht
        go_wp2_with fail
        rcases bind_cases HR15.out with ⟨j17, er, hx, hq⟩ | ⟨a17, j17, hx, hq⟩
        · exact (need_any E _ iq d ⟨#[41]⟩ (P E.T m) _ S16.out.1 (Lib.hid (by decide)) hx).mono fun e w' h => by obtain ⟨rfl, hg⟩ := h; exact ⟨rfl, by rw [HBAD.out j17 er (by rw [HE.out, hq]; rfl)]; exact ⟨rfl, S16.out.2.trans hg⟩⟩
        refine (need_any E _ iq d ⟨#[41]⟩ (P E.T m) _ S16.out.1 (Lib.hid (by decide)) hx).mono ?_
        rintro e w17 ⟨v17, rfl, -, hst⟩
        have K' := Lib.hid (K.out.st hst.2 (by omega))
        clear K
        have K := K'
        clear K'
        have S17 := Lib.hid (S16.out.trans hst)
        have z17 := hst.2.size
        clear hst
        have HQ : Hid (r = .ok ts j17) := HOK.out _ _ (by rw [HE.out, run_ret hq]; simp [preR])
        clear hx hq
        go_wp2_with fail
        go_ret
        rw [HQ.out]
        exact ⟨_, rfl, vl_end K.out (by omega), S17.out⟩

end Go.Proofs.YtkahbhfbgdbnfaaGreatDoor

/-
  CONTRACTS: number, varOrCall of the reader. Nobody but the reader's own block has turned.
-/
namespace Go.Proofs.YtkahbhfbgdbnfaaGreatDoor
open Go.RowKit

set_option maxRecDepth 100000 in
set_option maxHeartbeats 400000 in
theorem number_any (E : Env) (w : World) (i d : Nat) (h : RD E w i d) (hk : (E.T i).kind = 3) :
    Calls Tryz.prog 219 #[.pointer (some ⟨E.rb, 0, none⟩)] w (Q E w d (VN E w.heap.size) (.ok (.mk 15 [] [] (numN (E.T i).text) i []) (i + 1))) := by
  have hiz := lt_kind h.sent (by decide) hk
  have HN := Lib.hid (h.nums i hk)
  have htl := h.text i
  clear hk
  have H := Lib.hid h
  have hr1 := h.lt
  have hf0 := tok_kind
  have hf1 := tok_text
  have hf2 := tok_at
  have S0 := Lib.hid (ST.below (ST.refl h) (b1 w (.cells #[.pointer none] 25)))
  have P0 := Lib.hid (PtrAt.new w none)
  have l0 := P0.out.lt
  clear h
  go_enter Tryz.func219, Tryz.ntmps219
  go_wp2_with fail
  generalize w.alloc (.cells #[.pointer none] 25) = wa at *
  refine (peek_any E _ i d S0.out.1).mono ?_
  rintro e w1 ⟨rfl, hb⟩
  have P0' := Lib.hid (P0.out.below hb)
  clear P0
  have P0 := P0'
  clear P0'
  have S1 := Lib.hid (S0.out.below hb)
  have z1 := hb.size
  clear hb
  unfold tokV
  go_wp2_with fail
  have hsz : (⟨(E.T i).text.toArray⟩ : ByteArray).size ≤ 281474976710656 := by show (E.T i).text.toArray.size ≤ _; simp; omega
  refine (parse_any _ _ _ S1.out.1.good.rng hsz (Lib.hid rfl)).mono ?_
  rintro e w2 ⟨rfl, hb⟩
  have P0' := Lib.hid (P0.out.below hb)
  clear P0
  have P0 := P0'
  clear P0'
  have S2 := Lib.hid (S1.out.below hb)
  have z2 := hb.size
  clear hb
  rw [HN.out]
  generalize (specP ⟨(E.T i).text.toArray⟩).2 = pe
  go_wp2_with fail
  refine (single_any E _ i d 15 _ S2.out.1 hiz).mono ?_
  rintro e w3 ⟨v3, rfl, ⟨nb3, hv, hn⟩, hst⟩
  obtain rfl := hv
  unfold nodeV
  have P0' := Lib.hid (P0.out.kept hst.2 (by omega))
  clear P0
  have P0 := P0'
  clear P0'
  have N3 := Lib.hid (hn.from (B := w.heap.size) (by omega))
  clear hn
  have S3 := Lib.hid (S2.out.trans hst)
  have z3 := hst.2.size
  clear hst
  have q0 := P0.out.c0
  have f0 := P0.out.f0
  go_wp2_with fail
  refine bodyPost_ret (v := nodeV nb3) (by unfold nodeV; simp [results, Tryz.results219, go_sem, q0]) rfl ?_
  exact pass_done H.out S3.out N3.out (by omega) _

set_option maxRecDepth 100000 in
set_option maxHeartbeats 1000000 in
theorem varOrCall_any (E : Env) (w : World) (i d : Nat) (n : Nat) (ih : IH E n) (r : Res Tree) (h : RD E w i d) (hr : Hid (runW E.T (P E.T n) (varOrCall d) i = some r)) :
    Calls Tryz.prog 220 #[.pointer (some ⟨E.rb, 0, none⟩)] w (Q E w d (VN E w.heap.size) r) := by
  have H := Lib.hid h
  have hr1 := h.lt
  have hf0 := tok_kind
  have hf1 := tok_text
  have hf2 := tok_at
  have S0 := Lib.hid (ST.below (ST.refl h) (b1 w (.cells #[.pointer none] 25)))
  have P0 := Lib.hid (PtrAt.new w none)
  have l0 := P0.out.lt
  clear h
  go_enter Tryz.func220, Tryz.ntmps220
  go_wp2_with fail
  generalize w.alloc (.cells #[.pointer none] 25) = wa at *
  rcases bind_cases hr.out with ⟨j1, er, hx, hq⟩ | ⟨a1, j1, hx, hq⟩
  · exact (word_any E _ i d (P E.T n) _ S0.out.1 hx).mono fun e w' h => by obtain ⟨rfl, hg⟩ := h; exact ⟨rfl, by rw [hq]; exact ⟨rfl, S0.out.2.trans hg⟩⟩
  refine (word_any E _ i d (P E.T n) _ S0.out.1 hx).mono ?_
  rintro e w1 ⟨v1, rfl, ⟨hv, htx⟩, hst⟩
  obtain rfl := hv
  unfold tokV
  have P0' := Lib.hid (P0.out.kept hst.2 (by omega))
  clear P0
  have P0 := P0'
  clear P0'
  have X1 := Lib.hid htx
  clear htx
  have S1 := Lib.hid (S0.out.trans hst)
  have z1 := hst.2.size
  clear hst
  have HR1 := Lib.hid hq
  clear hx hq
  have T := Lib.hid (TokAt.new w1 (E.T a1.1).kind ⟨(E.T a1.1).text.toArray⟩ (E.pl a1.1))
  have P0' := Lib.hid (P0.out.below (b1 w1 (.cells #[.int .i64 (E.T a1.1).kind, .string ⟨(E.T a1.1).text.toArray⟩, .int .i64 (E.pl a1.1)] 108)))
  clear P0
  have P0 := P0'
  clear P0'
  have S2 := Lib.hid (S1.out.below (b1 w1 (.cells #[.int .i64 (E.T a1.1).kind, .string ⟨(E.T a1.1).text.toArray⟩, .int .i64 (E.pl a1.1)] 108)))
  have z2 := (b1 w1 (.cells #[.int .i64 (E.T a1.1).kind, .string ⟨(E.T a1.1).text.toArray⟩, .int .i64 (E.pl a1.1)] 108)).size
  have y2 : w1.heap.size < (w1.alloc (.cells #[.int .i64 (E.T a1.1).kind, .string ⟨(E.T a1.1).text.toArray⟩, .int .i64 (E.pl a1.1)] 108)).heap.size := by simp
  go_wp2_with fail
  generalize w1.alloc (.cells #[.int .i64 (E.T a1.1).kind, .string ⟨(E.T a1.1).text.toArray⟩, .int .i64 (E.pl a1.1)] 108) = w2 at *
  by_cases ht : (E.T j1).text = cLB
  · skip
    have h0 := peek_yes HR1.out ht
    have HR3 := Lib.hid h0
    clear h0
    refine (is_yes E _ j1 d ⟨#[40]⟩ S2.out.1 ht).mono ?_
    rintro e w4 ⟨rfl, hb⟩
    have P0' := Lib.hid (P0.out.below hb)
    clear P0
    have P0 := P0'
    clear P0'
    have T' := Lib.hid (T.out.below hb)
    clear T
    have T := T'
    clear T'
    have S4 := Lib.hid (S2.out.below hb)
    have z4 := hb.size
    clear hb
    clear ht
    go_wp2_with fail
    have c1 := T.out.c1
    have c2 := T.out.c2
    have lT := T.out.lt
    have lP := P0.out.lt
    rcases bind_cases HR3.out with ⟨jz, er, hx, hq⟩ | ⟨az, jz, hx, hq⟩
    · have HX := Lib.hid hx
      have HQ := Lib.hid hq
      clear hx hq
      go_region_dies
      all_goals
        refine (arguments_any E _ j1 d n ih _ (S4.out.1.below (Below.refl _ _).drew) HX).mono ?_
        rintro e w2 ⟨rfl, hg⟩
        exact ⟨rfl, by rw [HQ.out]; exact ⟨rfl, S4.out.2.trans ((kb_below (Below.refl _ _).drew).trans hg)⟩⟩
    have HX := Lib.hid hx
    have HQ : Hid (r = .ok (.mk 21 a1.2 [] 0 a1.1 az) jz) := run_ret hq
    clear hx hq
    go_region_held3 (fun w' => w'.cell? ⟨w1.heap.size, 1, none⟩ = some (.string ⟨(E.T a1.1).text.toArray⟩) ∧ w'.cell? ⟨w1.heap.size, 2, none⟩ = some (.int .i64 (E.pl a1.1))) (first | exact ⟨c1, c2⟩ | exact ⟨c1', c2'⟩ | exact ⟨c1'', c2''⟩ | (refine ⟨?_, ?_⟩ <;> (rw [World.cell?_setCell_other _ _ _ _ (fun h => by injection h with h1; omega)]; assumption))) (first | (go_at_call 239; refine (arguments_any E _ j1 d n ih _ (S4.out.1.below (Below.refl _ _).drew) HX).mono ?_; rintro e w8 ⟨v8, rfl, ⟨hkl, hk⟩, hst⟩; have c1' := (far hst.2 lT (by omega) 1).trans c1; have c2' := (far hst.2 lT (by omega) 2).trans c2; obtain ⟨Ak, ck, hvk, -, -⟩ := hk.slice; subst hvk; have HK := Lib.hid hk; have HST := Lib.hid hst; clear hst hk) | (go_at_call 55; refine (newNode_any _ _ _ _ _ _ _ _ _).mono ?_; rintro e w9 ⟨rfl, hb3, hrow⟩; have c1'' := (hb3.cell (p := ⟨w1.heap.size, 1, none⟩) (Nat.lt_of_lt_of_le lT HST.out.2.size)).trans c1'; have c2'' := (hb3.cell (p := ⟨w1.heap.size, 2, none⟩) (Nat.lt_of_lt_of_le lT HST.out.2.size)).trans c2'; have HP3 := ((P0.out.below (Below.refl _ _).drew).kept HST.out.2 (by omega)).below hb3; have q3 := HP3.c0; have f3 := HP3.f0; have HB3 := Lib.hid hb3; have HROW := Lib.hid hrow; clear hrow hb3 HP3; unfold nodeV))
    go_wp2_with fail
    refine bodyPost_ret (v := nodeV w8.heap.size) (by unfold nodeV; simp [results, Tryz.results220, go_sem, q3]) rfl ?_
    rw [HQ.out]
    have hz8 : w4.heap.size ≤ w8.heap.size := HST.out.2.size
    have hrow := HROW.out
    rw [X1.out] at hrow
    exact node_done H.out ((S4.out.below (Below.refl _ _).drew).trans HST.out) (HK.out.from (B := w.heap.size) (by show w.heap.size < w4.heap.size; omega)) (Nat.le_refl _) HB3.out hrow (by omega) (by omega) _
  · skip
    have HR5 := Lib.hid (peek_no HR1.out ht)
    refine (is_no E _ j1 d ⟨#[40]⟩ S2.out.1 ht).mono ?_
    rintro e w6 ⟨rfl, hb⟩
    have P0' := Lib.hid (P0.out.below hb)
    clear P0
    have P0 := P0'
    clear P0'
    have T' := Lib.hid (T.out.below hb)
    clear T
    have T := T'
    clear T'
    have S6 := Lib.hid (S2.out.below hb)
    have z6 := hb.size
    clear hb
    clear ht
    have HQ : Hid (r = .ok (.mk 18 a1.2 [] 0 a1.1 []) j1) := (Option.some.inj HR5.out).symm
    have T0 := T.out.c0
    have T1 := T.out.c1
    have T2 := T.out.c2
    go_wp2_with fail
    refine (newNode_any _ _ _ _ _ _ _ _ _).mono ?_
    rintro e wz ⟨rfl, hb9, hrow⟩
    have P9 := P0.out.below hb9
    have q0 := P9.c0
    have f0 := P9.f0
    have HB9 := Lib.hid hb9
    have HROW := Lib.hid hrow
    clear hb9 hrow P9
    unfold nodeV
    go_wp2_with fail
    refine bodyPost_ret (v := nodeV w6.heap.size) (by unfold nodeV; simp [results, Tryz.results220, go_sem, q0]) rfl ?_
    rw [HQ.out]
    have hrow := HROW.out
    rw [X1.out] at hrow
    exact node_done H.out S6.out (KidsIn.nil (fun x => w1.heap.size < x) E.pl w6) (by omega) HB9.out hrow (by omega) (by omega) _

end Go.Proofs.YtkahbhfbgdbnfaaGreatDoor

/-
  CONTRACT: primary of the reader, where calls one step down are as they should be. Nobody but the reader's own block has turned.
-/
namespace Go.Proofs.YtkahbhfbgdbnfaaGreatDoor
open Go.RowKit

set_option maxRecDepth 100000 in
set_option maxHeartbeats 1000000 in
theorem primary_any (E : Env) (w : World) (i d : Nat) (n : Nat) (ih : IH E n) (r : Res Tree) (h : RD E w i d) (hr : Hid (runW E.T (P E.T n) (primary d) i = some r)) :
    Calls Tryz.prog 200 #[.pointer (some ⟨E.rb, 0, none⟩)] w (Q E w d (VN E w.heap.size) r) := by
  have H := Lib.hid h
  have hr1 := h.lt
  have hf0 := tok_kind
  have hf1 := tok_text
  have hf2 := tok_at
  have S0 := Lib.hid (ST.below (ST.refl h) (b1 w (.cells #[.pointer none] 25)))
  have P0 := Lib.hid (PtrAt.new w none)
  have l0 := P0.out.lt
  clear h
  go_enter Tryz.func200, Tryz.ntmps200
  go_wp2_with fail
  generalize w.alloc (.cells #[.pointer none] 25) = wa at *
  refine (peek_any E _ i d S0.out.1).mono ?_
  rintro e w1 ⟨rfl, hb⟩
  have P0' := Lib.hid (P0.out.below hb)
  clear P0
  have P0 := P0'
  clear P0'
  have S1 := Lib.hid (S0.out.below hb)
  have z1 := hb.size
  clear hb
  unfold tokV
  have T := Lib.hid (TokAt.new w1 (E.T i).kind ⟨(E.T i).text.toArray⟩ (E.pl i))
  have P0' := Lib.hid (P0.out.below (b1 w1 (.cells #[.int .i64 (E.T i).kind, .string ⟨(E.T i).text.toArray⟩, .int .i64 (E.pl i)] 108)))
  clear P0
  have P0 := P0'
  clear P0'
  have S2 := Lib.hid (S1.out.below (b1 w1 (.cells #[.int .i64 (E.T i).kind, .string ⟨(E.T i).text.toArray⟩, .int .i64 (E.pl i)] 108)))
  have z2 := (b1 w1 (.cells #[.int .i64 (E.T i).kind, .string ⟨(E.T i).text.toArray⟩, .int .i64 (E.pl i)] 108)).size
  have y2 : w1.heap.size < (w1.alloc (.cells #[.int .i64 (E.T i).kind, .string ⟨(E.T i).text.toArray⟩, .int .i64 (E.pl i)] 108)).heap.size := by simp
  have HR0 := Lib.hid (run_peek hr.out)
  have T0 := T.out.c0
  have T1 := T.out.c1
  by_cases ht : (E.T i).kind = 3
  · skip
    have HQ := Lib.hid (run_ret (run_next (ite_yes HR0.out ht)))
    have HT := Lib.hid ht
    have b3 : (((E.T i).kind : Int) == 3) = true := by rw [ht]; rfl
    clear ht
    go_wp2_with fail
    generalize w1.alloc (.cells #[.int .i64 (E.T i).kind, .string ⟨(E.T i).text.toArray⟩, .int .i64 (E.pl i)] 108) = w2 at *
    refine (number_any E _ i d S2.out.1 HT.out).mono ?_
    rintro e w3 ⟨v3, rfl, ⟨nb3, hv, hn⟩, hst⟩
    obtain rfl := hv
    unfold nodeV
    have P0' := Lib.hid (P0.out.kept hst.2 (by omega))
    clear P0
    have P0 := P0'
    clear P0'
    have T' := Lib.hid (T.out.kept hst.2 (by omega))
    clear T
    have T := T'
    clear T'
    have N3 := Lib.hid (hn.from (B := w.heap.size) (by omega))
    clear hn
    have S3 := Lib.hid (S2.out.trans hst)
    have z3 := hst.2.size
    clear hst
    have q0 := P0.out.c0
    have f0 := P0.out.f0
    go_wp2_with fail
    refine bodyPost_ret (v := nodeV nb3) (by unfold nodeV; simp [results, Tryz.results200, go_sem, q0]) rfl ?_
    rw [HQ.out]
    exact pass_done H.out S3.out N3.out (by omega) _
  · skip
    have b3 : (((E.T i).kind : Int) == 3) = false := by simp; omega
    have HR1 := Lib.hid (ite_no HR0.out ht)
    clear ht
    by_cases ht : (E.T i).kind = 1
    · skip
      have HR2 := Lib.hid (ite_yes HR1.out ht)
      have bb1 : (((E.T i).kind : Int) == 1) = true := by rw [ht]; rfl
      clear ht
      go_wp2_with fail
      generalize w1.alloc (.cells #[.int .i64 (E.T i).kind, .string ⟨(E.T i).text.toArray⟩, .int .i64 (E.pl i)] 108) = w2 at *
      rcases last_cases HR2.out with ⟨j4, er, hx, hq⟩ | ⟨a4, j4, hx, hq⟩
      · exact (varOrCall_any E _ i d n ih _ S2.out.1 hx).mono fun e w' h => by obtain ⟨rfl, hg⟩ := h; exact ⟨rfl, by rw [hq]; exact ⟨rfl, S2.out.2.trans hg⟩⟩
      refine (varOrCall_any E _ i d n ih _ S2.out.1 hx).mono ?_
      rintro e w4 ⟨v4, rfl, ⟨nb4, hv, hn⟩, hst⟩
      obtain rfl := hv
      unfold nodeV
      have P0' := Lib.hid (P0.out.kept hst.2 (by omega))
      clear P0
      have P0 := P0'
      clear P0'
      have T' := Lib.hid (T.out.kept hst.2 (by omega))
      clear T
      have T := T'
      clear T'
      have N4 := Lib.hid (hn.from (B := w.heap.size) (by omega))
      clear hn
      have S4 := Lib.hid (S2.out.trans hst)
      have z4 := hst.2.size
      clear hst
      have HQ := Lib.hid hq
      clear hx hq
      have q0 := P0.out.c0
      have f0 := P0.out.f0
      go_wp2_with fail
      refine bodyPost_ret (v := nodeV nb4) (by unfold nodeV; simp [results, Tryz.results200, go_sem, q0]) rfl ?_
      rw [HQ.out]
      exact pass_done H.out S4.out N4.out (by omega) _
    · skip
      have bb1 : (((E.T i).kind : Int) == 1) = false := by simp; omega
      have HR2 := Lib.hid (ite_no HR1.out ht)
      clear ht
      by_cases ht : (E.T i).text = kTrue
      · skip
        have HR22 := Lib.hid (ite_yes HR2.out ht)
        have hiz := lt_text H.out.sent (by decide) ht
        have ty : ((E.T i).text == [116, 114, 117, 101]) = true := by rw [ht]; rfl
        clear ht
        have HQ := Lib.hid (run_ret (run_next HR22.out))
        go_wp2_with fail
        generalize w1.alloc (.cells #[.int .i64 (E.T i).kind, .string ⟨(E.T i).text.toArray⟩, .int .i64 (E.pl i)] 108) = w2 at *
        refine (single_any E _ i d 16 1 S2.out.1 hiz).mono ?_
        rintro e w5 ⟨v5, rfl, ⟨nb5, hv, hn⟩, hst⟩
        obtain rfl := hv
        unfold nodeV
        have P0' := Lib.hid (P0.out.kept hst.2 (by omega))
        clear P0
        have P0 := P0'
        clear P0'
        have T' := Lib.hid (T.out.kept hst.2 (by omega))
        clear T
        have T := T'
        clear T'
        have N5 := Lib.hid (hn.from (B := w.heap.size) (by omega))
        clear hn
        have S5 := Lib.hid (S2.out.trans hst)
        have z5 := hst.2.size
        clear hst
        have q0 := P0.out.c0
        have f0 := P0.out.f0
        go_wp2_with fail
        refine bodyPost_ret (v := nodeV nb5) (by unfold nodeV; simp [results, Tryz.results200, go_sem, q0]) rfl ?_
        rw [HQ.out]
        exact pass_done H.out S5.out N5.out (by omega) _
      · skip
        have HR3 := Lib.hid (ite_no HR2.out ht)
        have nt2 : ((E.T i).text == [116, 114, 117, 101]) = false := by simpa using ht
        clear ht
        by_cases ht : (E.T i).text = kFalse
        · skip
          have HR23 := Lib.hid (ite_yes HR3.out ht)
          have hiz := lt_text H.out.sent (by decide) ht
          have ty : ((E.T i).text == [102, 97, 108, 115, 101]) = true := by rw [ht]; rfl
          clear ht
          have HQ := Lib.hid (run_ret (run_next HR23.out))
          go_wp2_with fail
          generalize w1.alloc (.cells #[.int .i64 (E.T i).kind, .string ⟨(E.T i).text.toArray⟩, .int .i64 (E.pl i)] 108) = w2 at *
          refine (single_any E _ i d 16 0 S2.out.1 hiz).mono ?_
          rintro e w6 ⟨v6, rfl, ⟨nb6, hv, hn⟩, hst⟩
          obtain rfl := hv
          unfold nodeV
          have P0' := Lib.hid (P0.out.kept hst.2 (by omega))
          clear P0
          have P0 := P0'
          clear P0'
          have T' := Lib.hid (T.out.kept hst.2 (by omega))
          clear T
          have T := T'
          clear T'
          have N6 := Lib.hid (hn.from (B := w.heap.size) (by omega))
          clear hn
          have S6 := Lib.hid (S2.out.trans hst)
          have z6 := hst.2.size
          clear hst
          have q0 := P0.out.c0
          have f0 := P0.out.f0
          go_wp2_with fail
          refine bodyPost_ret (v := nodeV nb6) (by unfold nodeV; simp [results, Tryz.results200, go_sem, q0]) rfl ?_
          rw [HQ.out]
          exact pass_done H.out S6.out N6.out (by omega) _
        · skip
          have HR4 := Lib.hid (ite_no HR3.out ht)
          have nt3 : ((E.T i).text == [102, 97, 108, 115, 101]) = false := by simpa using ht
          clear ht
          by_cases ht : (E.T i).text = kNil
          · skip
            have HR24 := Lib.hid (ite_yes HR4.out ht)
            have hiz := lt_text H.out.sent (by decide) ht
            have ty : ((E.T i).text == [110, 105, 108]) = true := by rw [ht]; rfl
            clear ht
            have HQ := Lib.hid (run_ret (run_next HR24.out))
            go_wp2_with fail
            generalize w1.alloc (.cells #[.int .i64 (E.T i).kind, .string ⟨(E.T i).text.toArray⟩, .int .i64 (E.pl i)] 108) = w2 at *
            refine (single_any E _ i d 17 0 S2.out.1 hiz).mono ?_
            rintro e w7 ⟨v7, rfl, ⟨nb7, hv, hn⟩, hst⟩
            obtain rfl := hv
            unfold nodeV
            have P0' := Lib.hid (P0.out.kept hst.2 (by omega))
            clear P0
            have P0 := P0'
            clear P0'
            have T' := Lib.hid (T.out.kept hst.2 (by omega))
            clear T
            have T := T'
            clear T'
            have N7 := Lib.hid (hn.from (B := w.heap.size) (by omega))
            clear hn
            have S7 := Lib.hid (S2.out.trans hst)
            have z7 := hst.2.size
            clear hst
            have q0 := P0.out.c0
            have f0 := P0.out.f0
            go_wp2_with fail
            refine bodyPost_ret (v := nodeV nb7) (by unfold nodeV; simp [results, Tryz.results200, go_sem, q0]) rfl ?_
            rw [HQ.out]
            exact pass_done H.out S7.out N7.out (by omega) _
          · skip
            have HR5 := Lib.hid (ite_no HR4.out ht)
            have nt4 : ((E.T i).text == [110, 105, 108]) = false := by simpa using ht
            clear ht
            by_cases ht : (E.T i).text = kNew
            · skip
              have HR25 := Lib.hid (ite_yes HR5.out ht)
              have hiz := lt_text H.out.sent (by decide) ht
              have ty : ((E.T i).text == [110, 101, 119]) = true := by rw [ht]; rfl
              clear ht
              go_wp2_with fail
              generalize w1.alloc (.cells #[.int .i64 (E.T i).kind, .string ⟨(E.T i).text.toArray⟩, .int .i64 (E.pl i)] 108) = w2 at *
              rcases last_cases HR25.out with ⟨j8, er, hx, hq⟩ | ⟨a8, j8, hx, hq⟩
              · exact (creation_any E _ i d (P E.T n) _ S2.out.1 hx).mono fun e w' h => by obtain ⟨rfl, hg⟩ := h; exact ⟨rfl, by rw [hq]; exact ⟨rfl, S2.out.2.trans hg⟩⟩
              refine (creation_any E _ i d (P E.T n) _ S2.out.1 hx).mono ?_
              rintro e w8 ⟨v8, rfl, ⟨nb8, hv, hn⟩, hst⟩
              obtain rfl := hv
              unfold nodeV
              have P0' := Lib.hid (P0.out.kept hst.2 (by omega))
              clear P0
              have P0 := P0'
              clear P0'
              have T' := Lib.hid (T.out.kept hst.2 (by omega))
              clear T
              have T := T'
              clear T'
              have N8 := Lib.hid (hn.from (B := w.heap.size) (by omega))
              clear hn
              have S8 := Lib.hid (S2.out.trans hst)
              have z8 := hst.2.size
              clear hst
              have HQ := Lib.hid hq
              clear hx hq
              have q0 := P0.out.c0
              have f0 := P0.out.f0
              go_wp2_with fail
              refine bodyPost_ret (v := nodeV nb8) (by unfold nodeV; simp [results, Tryz.results200, go_sem, q0]) rfl ?_
              rw [HQ.out]
              exact pass_done H.out S8.out N8.out (by omega) _
            · skip
              have HR6 := Lib.hid (ite_no HR5.out ht)
              have nt5 : ((E.T i).text == [110, 101, 119]) = false := by simpa using ht
              clear ht
              by_cases ht : (E.T i).text = kRead
              · skip
                have HR26 := Lib.hid (ite_yes HR6.out ht)
                have hiz := lt_text H.out.sent (by decide) ht
                have ty : ((E.T i).text == [114, 101, 97, 100]) = true := by rw [ht]; rfl
                clear ht
                go_wp2_with fail
                generalize w1.alloc (.cells #[.int .i64 (E.T i).kind, .string ⟨(E.T i).text.toArray⟩, .int .i64 (E.pl i)] 108) = w2 at *
                rcases last_cases HR26.out with ⟨j9, er, hx, hq⟩ | ⟨a9, j9, hx, hq⟩
                · exact (input_any E _ i d (P E.T n) _ S2.out.1 hx).mono fun e w' h => by obtain ⟨rfl, hg⟩ := h; exact ⟨rfl, by rw [hq]; exact ⟨rfl, S2.out.2.trans hg⟩⟩
                refine (input_any E _ i d (P E.T n) _ S2.out.1 hx).mono ?_
                rintro e w9 ⟨v9, rfl, ⟨nb9, hv, hn⟩, hst⟩
                obtain rfl := hv
                unfold nodeV
                have P0' := Lib.hid (P0.out.kept hst.2 (by omega))
                clear P0
                have P0 := P0'
                clear P0'
                have T' := Lib.hid (T.out.kept hst.2 (by omega))
                clear T
                have T := T'
                clear T'
                have N9 := Lib.hid (hn.from (B := w.heap.size) (by omega))
                clear hn
                have S9 := Lib.hid (S2.out.trans hst)
                have z9 := hst.2.size
                clear hst
                have HQ := Lib.hid hq
                clear hx hq
                have q0 := P0.out.c0
                have f0 := P0.out.f0
                go_wp2_with fail
                refine bodyPost_ret (v := nodeV nb9) (by unfold nodeV; simp [results, Tryz.results200, go_sem, q0]) rfl ?_
                rw [HQ.out]
                exact pass_done H.out S9.out N9.out (by omega) _
              · skip
                have HR7 := Lib.hid (ite_no HR6.out ht)
                have nt6 : ((E.T i).text == [114, 101, 97, 100]) = false := by simpa using ht
                clear ht
                by_cases ht : (E.T i).text = cLB
                · skip
                  have HR27 := Lib.hid (ite_yes HR7.out ht)
                  have hiz := lt_text H.out.sent (by decide) ht
                  have ty : ((E.T i).text == [40]) = true := by rw [ht]; rfl
                  clear ht
                  go_wp2_with fail
                  generalize w1.alloc (.cells #[.int .i64 (E.T i).kind, .string ⟨(E.T i).text.toArray⟩, .int .i64 (E.pl i)] 108) = w2 at *
                  rcases last_cases HR27.out with ⟨j10, er, hx, hq⟩ | ⟨a10, j10, hx, hq⟩
                  · exact (bracketed_any E _ i d n ih _ S2.out.1 hx).mono fun e w' h => by obtain ⟨rfl, hg⟩ := h; exact ⟨rfl, by rw [hq]; exact ⟨rfl, S2.out.2.trans hg⟩⟩
                  refine (bracketed_any E _ i d n ih _ S2.out.1 hx).mono ?_
                  rintro e w10 ⟨v10, rfl, ⟨nb10, hv, hn⟩, hst⟩
                  obtain rfl := hv
                  unfold nodeV
                  have P0' := Lib.hid (P0.out.kept hst.2 (by omega))
                  clear P0
                  have P0 := P0'
                  clear P0'
                  have T' := Lib.hid (T.out.kept hst.2 (by omega))
                  clear T
                  have T := T'
                  clear T'
                  have N10 := Lib.hid (hn.from (B := w.heap.size) (by omega))
                  clear hn
                  have S10 := Lib.hid (S2.out.trans hst)
                  have z10 := hst.2.size
                  clear hst
                  have HQ := Lib.hid hq
                  clear hx hq
                  have q0 := P0.out.c0
                  have f0 := P0.out.f0
                  go_wp2_with fail
                  refine bodyPost_ret (v := nodeV nb10) (by unfold nodeV; simp [results, Tryz.results200, go_sem, q0]) rfl ?_
                  rw [HQ.out]
                  exact pass_done H.out S10.out N10.out (by omega) _
                · skip
                  have HR8 := Lib.hid (ite_no HR7.out ht)
                  have nt7 : ((E.T i).text == [40]) = false := by simpa using ht
                  clear ht
                  have HQ := Lib.hid (run_fail HR8.out)
                  go_wp2_with fail
                  generalize w1.alloc (.cells #[.int .i64 (E.T i).kind, .string ⟨(E.T i).text.toArray⟩, .int .i64 (E.pl i)] 108) = w2 at *
                  refine (misfit_any E _ i d S2.out.1).mono ?_
                  rintro e w11 ⟨rfl, hb⟩
                  have P0' := Lib.hid (P0.out.below hb)
                  clear P0
                  have P0 := P0'
                  clear P0'
                  have T' := Lib.hid (T.out.below hb)
                  clear T
                  have T := T'
                  clear T'
                  have S11 := Lib.hid (S2.out.below hb)
                  have z11 := hb.size
                  clear hb
                  go_wp2_with fail
                  refine ⟨rfl, ?_⟩
                  rw [HQ.out]
                  exact ⟨rfl, S11.out.2⟩

end Go.Proofs.YtkahbhfbgdbnfaaGreatDoor
