/-
  CONTRACT: simple of the reader, where calls one step down are as they should be. Nobody but the reader's own block has turned.
-/
import Derived.Test.YtfbejfoalnhihaaGreatDoorJ4
import Derived.Test.YtfbejfoalnhihaaGreatDoorJ2
import Derived.Test.YtfbejfoalnhihaaGreatDoorJ1
import Derived.Lib.Join
import Derived.Lib.AppendIntMem
import Derived.Defers
import Derived.Recover
namespace Go.Proofs.YtfbejfoalnhihaaGreatDoor
open Go.RowKit

set_option maxRecDepth 100000 in
set_option maxHeartbeats 2000000 in
theorem simple_any (E : Env) (w : World) (i d : Nat) (n : Nat) (ih : IH E n) (r : Res Tree) (h : RD E w i d) (hr : Hid (runW E.T (P E.T n) (simple d) i = some r)) :
    Calls Tryz.prog 133 #[.pointer (some ⟨E.rb, 0, none⟩)] w (Q E w d (VN E w.heap.size) r) := by
  have H := Lib.hid h
  have hr1 := h.lt
  have hf0 := tok_kind
  have hf1 := tok_text
  have hf2 := tok_at
  have S0 := Lib.hid (ST.below (ST.refl h) (b1 w (.cells #[.pointer none] 25)))
  have P0 := Lib.hid (PtrAt.new w none)
  have l0 := P0.out.lt
  clear h
  go_enter Tryz.func133, Tryz.ntmps133
  go_wp2_with fail
  generalize w.alloc (.cells #[.pointer none] 25) = wa at *
  refine (peek_any E _ i d S0.out.1).mono ?_
  rintro e w1 ⟨rfl, hb⟩
  have P0' := Lib.hid (P0.out.below hb)
  clear P0
  have P0 := P0'
  clear P0'
  have S1 := Lib.hid (S0.out.below hb)
  have z1 := hb.size
  clear hb
  unfold tokV
  have HR0 := Lib.hid (run_peek hr.out)
  by_cases ht : (E.T i).kind = 1
  · skip
    have bk : (((E.T i).kind : Int) == 1) = true := by rw [ht]; rfl
    have HK1 := Lib.hid ht
    clear ht
    go_wp2_with fail
    rcases bind_cases HR0.out with ⟨j2, er, hx, hq⟩ | ⟨a2, j2, hx, hq⟩
    · exact (primary_any E _ i d n ih _ S1.out.1 hx).mono fun e w' h => by obtain ⟨rfl, hg⟩ := h; exact ⟨rfl, by rw [hq]; exact ⟨rfl, S1.out.2.trans hg⟩⟩
    refine (primary_any E _ i d n ih _ S1.out.1 hx).mono ?_
    rintro e w2 ⟨v2, rfl, ⟨nb2, hv, hn⟩, hst⟩
    obtain rfl := hv
    unfold nodeV
    have P0' := Lib.hid (P0.out.kept hst.2 (by omega))
    clear P0
    have P0 := P0'
    clear P0'
    have N2 := Lib.hid (hn.from (B := w.heap.size) (by omega))
    clear hn
    have S2 := Lib.hid (S1.out.trans hst)
    have z2 := hst.2.size
    clear hst
    have HR2 := Lib.hid hq
    clear hx hq
    have V := Lib.hid (PtrAt.new w2 (some ⟨nb2, 0, none⟩))
    have P0' := Lib.hid (P0.out.below (b1 w2 (.cells #[.pointer (some ⟨nb2, 0, none⟩)] 25)))
    clear P0
    have P0 := P0'
    clear P0'
    have N2' := Lib.hid (N2.out.bl (b1 w2 (.cells #[.pointer (some ⟨nb2, 0, none⟩)] 25)))
    clear N2
    have N2 := N2'
    clear N2'
    have S3 := Lib.hid (S2.out.below (b1 w2 (.cells #[.pointer (some ⟨nb2, 0, none⟩)] 25)))
    have z3 := (b1 w2 (.cells #[.pointer (some ⟨nb2, 0, none⟩)] 25)).size
    have y3 : w2.heap.size < (w2.alloc (.cells #[.pointer (some ⟨nb2, 0, none⟩)] 25)).heap.size := by simp
    have V0 := V.out.c0
    go_wp2_with fail
    generalize w2.alloc (.cells #[.pointer (some ⟨nb2, 0, none⟩)] 25) = w3 at *
    clear V0
    have HRK := Lib.hid (run_peek HR2.out)
    obtain ⟨Ao, co, hro⟩ := N2.out.rowOf
    refine (op_of _ _ _ _ _ _ _ _ _ _ hro).mono ?_
    rintro e w4 ⟨rfl, hb⟩
    have P0' := Lib.hid (P0.out.below hb)
    clear P0
    have P0 := P0'
    clear P0'
    have N2' := Lib.hid (N2.out.bl hb)
    clear N2
    have N2 := N2'
    clear N2'
    have V' := Lib.hid (V.out.below hb)
    clear V
    have V := V'
    clear V'
    have S4 := Lib.hid (S3.out.below hb)
    have z4 := hb.size
    clear hb
    clear hro
    by_cases ht : a2.op = 21
    · skip
      have HO := Lib.hid ht
      have bo : ((a2.op : Int) == 21) = true := by rw [ht]; rfl
      clear ht
      go_wp2_with fail
      by_cases ht : (E.T j2).text = cSemi
      · skip
        have HT := Lib.hid ht
        clear ht
        have HQ : Hid (r = .ok (.mk 14 [] [] 0 a2.pos [a2]) (j2 + 1)) := run_ret (run_next (ite_yes HRK.out ⟨HK1.out, HO.out, HT.out⟩))
        refine (take_yes E _ j2 d ⟨#[59]⟩ S4.out.1 HT (Lib.hid (by decide))).mono ?_
        rintro e w5 ⟨rfl, hst⟩
        have P0' := Lib.hid (P0.out.kept hst.2 (by omega))
        clear P0
        have P0 := P0'
        clear P0'
        have N2' := Lib.hid (N2.out.st hst.2 (by omega))
        clear N2
        have N2 := N2'
        clear N2'
        have V' := Lib.hid (V.out.kept hst.2 (by omega))
        clear V
        have V := V'
        clear V'
        have S5 := Lib.hid (S4.out.trans hst)
        have z5 := hst.2.size
        clear hst
        go_wp2_with fail
        obtain ⟨Ao, co, hro⟩ := N2.out.rowOf
        have R0 := Lib.hid hro
        clear hro
        have cv := V.out.c0
        have lv := V.out.lt
        have lp := P0.out.lt
        have nl := N2.out.lt.2
        have D0 : Hid (Below w5.heap.size w5 w5.drew) := (Below.refl _ _).drew
        go_region_held3 (fun w' => w5.grownBy w' (some w.heap.size) ∧ w'.cell? ⟨w2.heap.size, 0, none⟩ = some (.pointer (some ⟨nb2, 0, none⟩))) (first | exact ⟨kb_below D0.out, cv⟩ | exact HK24.out | exact HK42.out | (obtain ⟨g1, g2⟩ := ‹w5.grownBy _ (some w.heap.size) ∧ _›; have h8 := kb_then g1 (kb_below (b := w.heap.size) (b1 _ (.cells #[.pointer (some ⟨nb2, 0, none⟩)] 25))) (fun j e => .inr e); have h7 := (World.cell?_alloc_lt _ (.cells #[.pointer (some ⟨nb2, 0, none⟩)] 25) ⟨w2.heap.size, 0, none⟩ (Nat.lt_of_lt_of_le lv g1.size)).trans g2; exact ⟨h8, h7⟩) | exact ⟨HK42.out.1.trans (kb_set _ ⟨w.heap.size, 0, none⟩ _), by rw [World.cell?_setCell_other _ _ _ _ (fun h => by injection h with h1; omega)]; exact HK42.out.2⟩) (first | (go_at_call 24; have h0 := ‹w5.grownBy _ (some w.heap.size) ∧ _›; refine (at_of _ _ _ _ _ _ _ _ _ _ (R0.out.kept h0.1 (by have h9 : w.heap.size < nb2 := nl; omega))).mono ?_; rintro e w24 ⟨rfl, hb24⟩; have HK24 : Hid (w5.grownBy w24 (some w.heap.size) ∧ w24.cell? ⟨w2.heap.size, 0, none⟩ = some (.pointer (some ⟨nb2, 0, none⟩))) := ⟨kb_then h0.1 (kb_below (b := w.heap.size) hb24) (fun j e => .inr e), (hb24.cell (p := ⟨w2.heap.size, 0, none⟩) (Nat.lt_of_lt_of_le lv h0.1.size)).trans h0.2⟩; have HB24 := Lib.hid hb24; clear h0 hb24) | (go_at_call 42; have h0 := ‹w5.grownBy _ (some w.heap.size) ∧ _›; refine Calls.mono (R := NewQ _ _ _ _ _ _ _) (newNode_any _ _ _ _ _ _ _ _ _) ?_; rintro e w42 ⟨rfl, hb42, hrow⟩; have HK42 : Hid (w5.grownBy w42 (some w.heap.size) ∧ w42.cell? ⟨w2.heap.size, 0, none⟩ = some (.pointer (some ⟨nb2, 0, none⟩))) := ⟨kb_then h0.1 (kb_below (b := w.heap.size) hb42) (fun j e => .inr e), (hb42.cell (p := ⟨w2.heap.size, 0, none⟩) (Nat.lt_of_lt_of_le lv h0.1.size)).trans h0.2⟩; have HB42 := Lib.hid hb42; have HROW := Lib.hid hrow; have P9 : PtrAt w42 w.heap.size none := (PtrAt.below (by first | exact (((P0.out.below D0.out).below HB24.out).below (b1 _ _)) | exact (((P0.out.below D0.out).below (b1 _ _)).below HB24.out)) hb42); have q0 := P9.c0; have f0 := P9.f0; have hz0 := h0.1.size; clear h0 hb42 hrow P9; unfold nodeV))
        all_goals
          have hbz := HB42.out.size
          go_wp2_with fail
          refine bodyPost_ret (v := nodeV _) (by unfold nodeV; simp only [results, Tryz.results133, go_sem]; simp [go_sem, q0]; rfl) rfl ?_
          rw [HQ.out]
          first | exact node_done2 (lo := w.heap.size) (q := w.heap.size) H.out (by first | exact (((S5.out.below D0.out).below HB24.out).below (b1 _ _)) | exact (((S5.out.below D0.out).below (b1 _ _)).below HB24.out)) (ok := fun x => w.heap.size < x) (by first | exact (kids_lit1 ((N2.out.bl D0.out).bl HB24.out) (by first | omega | (have h8 := HB24.out.size; simp at h8; omega) | (simp; omega))) | exact ((kids_lit1 (N2.out.bl D0.out) (by first | omega | (have h8 := HB24.out.size; simp at h8; omega) | (simp; omega))).bl HB24.out)) HB42.out HROW.out (by omega) (Nat.lt_irrefl _) (by omega) (fun x hx => by omega) (by omega) (by omega)  _ | (have hfin := node_done2 (lo := w.heap.size) (q := w.heap.size) H.out (by first | exact (((S5.out.below D0.out).below HB24.out).below (b1 _ _)) | exact (((S5.out.below D0.out).below (b1 _ _)).below HB24.out)) (ok := fun x => w.heap.size < x) (by first | exact (kids_lit1 ((N2.out.bl D0.out).bl HB24.out) (by first | omega | (have h8 := HB24.out.size; simp at h8; omega) | (simp; omega))) | exact ((kids_lit1 (N2.out.bl D0.out) (by first | omega | (have h8 := HB24.out.size; simp at h8; omega) | (simp; omega))).bl HB24.out)) HB42.out HROW.out (by omega) (Nat.lt_irrefl _) (by omega) (fun x hx => by omega) (by omega) (by omega)  (.pointer (some ⟨w24.heap.size + 1, 0, none⟩)); rw [show (w24.alloc (.cells #[.pointer (some ⟨nb2, 0, none⟩)] 25)).heap.size = w24.heap.size + 1 by simp] at hfin; exact hfin)
      · skip
        have HT := Lib.hid ht
        clear ht
        refine (take_no E _ j2 d ⟨#[59]⟩ S4.out.1 HT).mono ?_
        rintro e w6 ⟨rfl, hb⟩
        have P0' := Lib.hid (P0.out.below hb)
        clear P0
        have P0 := P0'
        clear P0'
        have N2' := Lib.hid (N2.out.bl hb)
        clear N2
        have N2 := N2'
        clear N2'
        have V' := Lib.hid (V.out.below hb)
        clear V
        have V := V'
        clear V'
        have S6 := Lib.hid (S4.out.below hb)
        have z6 := hb.size
        clear hb
        have bo2 : ((a2.op : Int) == 18) = false := by rw [HO.out]; rfl
        have V0 := V.out.c0
        go_wp2_with fail
        clear V0
        obtain ⟨Ao, co, hro⟩ := N2.out.rowOf
        refine (op_of _ _ _ _ _ _ _ _ _ _ hro).mono ?_
        rintro e w7 ⟨rfl, hb⟩
        have P0' := Lib.hid (P0.out.below hb)
        clear P0
        have P0 := P0'
        clear P0'
        have N2' := Lib.hid (N2.out.bl hb)
        clear N2
        have N2 := N2'
        clear N2'
        have V' := Lib.hid (V.out.below hb)
        clear V
        have V := V'
        clear V'
        have S7 := Lib.hid (S6.out.below hb)
        have z7 := hb.size
        clear hb
        clear hro
        have HRP := Lib.hid (ite_no (ite_no (ite_no HRK.out (fun h => HT.out h.2.2)) (fun h => absurd (HO.out.symm.trans h.2.1) (by decide))) (fun h => absurd (HO.out.symm.trans h.2.1) (by decide)))
        have V0 := V.out.c0
        go_wp2_with fail
        clear V0
        rcases last_cases HRP.out with ⟨j8, er, hx, hq⟩ | ⟨a8, j8, hx, hq⟩
        · exact (put_any E _ j2 d n ih (w.heap.size + 1) nb2 a2 _ S7.out.1 (by omega) (by omega) (N2.out.weak fun x hx _ => hx) hx).mono fun e w' h => by obtain ⟨rfl, hg⟩ := h; exact ⟨rfl, by rw [hq]; exact ⟨rfl, S7.out.2.trans hg⟩⟩
        refine (put_any E _ j2 d n ih (w.heap.size + 1) nb2 a2 _ S7.out.1 (by omega) (by omega) (N2.out.weak fun x hx _ => hx) hx).mono ?_
        rintro e w8 ⟨v8, rfl, ⟨nb8, hv, hn⟩, hst⟩
        obtain rfl := hv
        unfold nodeV
        have P0' := Lib.hid (P0.out.kept hst.2 (by omega))
        clear P0
        have P0 := P0'
        clear P0'
        have N2' := Lib.hid (N2.out.st hst.2 (by omega))
        clear N2
        have N2 := N2'
        clear N2'
        have V' := Lib.hid (V.out.kept hst.2 (by omega))
        clear V
        have V := V'
        clear V'
        have N8 := Lib.hid (NodeAt.from (B := w.heap.size) hn (by omega))
        clear hn
        have S8 := Lib.hid (S7.out.trans hst)
        have z8 := hst.2.size
        clear hst
        have HQ := Lib.hid hq
        clear hx hq
        have q0 := P0.out.c0
        have f0 := P0.out.f0
        go_wp2_with fail
        refine bodyPost_ret (v := nodeV nb8) (by unfold nodeV; simp [results, Tryz.results133, go_sem, q0]) rfl ?_
        rw [HQ.out]
        exact pass_done H.out S8.out N8.out (by omega) _
    · skip
      have HO := Lib.hid ht
      have bo : ((a2.op : Int) == 21) = false := by simp; omega
      clear ht
      have V0 := V.out.c0
      go_wp2_with fail
      clear V0
      obtain ⟨Ao, co, hro⟩ := N2.out.rowOf
      refine (op_of _ _ _ _ _ _ _ _ _ _ hro).mono ?_
      rintro e w9 ⟨rfl, hb⟩
      have P0' := Lib.hid (P0.out.below hb)
      clear P0
      have P0 := P0'
      clear P0'
      have N2' := Lib.hid (N2.out.bl hb)
      clear N2
      have N2 := N2'
      clear N2'
      have V' := Lib.hid (V.out.below hb)
      clear V
      have V := V'
      clear V'
      have S9 := Lib.hid (S4.out.below hb)
      have z9 := hb.size
      clear hb
      clear hro
      by_cases ht : a2.op = 18
      · skip
        have HV := Lib.hid ht
        have bv : ((a2.op : Int) == 18) = true := by rw [ht]; rfl
        clear ht
        go_wp2_with fail
        by_cases ht : (E.T j2).text = cDef
        · skip
          have HT := Lib.hid ht
          clear ht
          have HRS := Lib.hid (run_next (ite_yes (ite_no HRK.out (fun h => HO.out h.2.1)) ⟨HK1.out, HV.out, HT.out⟩))
          refine (take_yes E _ j2 d ⟨#[58, 61]⟩ S9.out.1 HT (Lib.hid (by decide))).mono ?_
          rintro e w10 ⟨rfl, hst⟩
          have P0' := Lib.hid (P0.out.kept hst.2 (by omega))
          clear P0
          have P0 := P0'
          clear P0'
          have N2' := Lib.hid (N2.out.st hst.2 (by omega))
          clear N2
          have N2 := N2'
          clear N2'
          have V' := Lib.hid (V.out.kept hst.2 (by omega))
          clear V
          have V := V'
          clear V'
          have S10 := Lib.hid (S9.out.trans hst)
          have z10 := hst.2.size
          clear hst
          have V0 := V.out.c0
          go_wp2_with fail
          clear V0
          rcases last_cases HRS.out with ⟨j11, er, hx, hq⟩ | ⟨a11, j11, hx, hq⟩
          · exact (setting_any E _ (j2 + 1) d n ih 7 nb2 a2 _ S10.out.1 (N2.out.weak fun x hx _ => by have h9 : w.heap.size < x := hx; omega) hx).mono fun e w' h => by obtain ⟨rfl, hg⟩ := h; exact ⟨rfl, by rw [hq]; exact ⟨rfl, S10.out.2.trans hg⟩⟩
          refine (setting_any E _ (j2 + 1) d n ih 7 nb2 a2 _ S10.out.1 (N2.out.weak fun x hx _ => by have h9 : w.heap.size < x := hx; omega) hx).mono ?_
          rintro e w11 ⟨v11, rfl, ⟨nb11, hv, hn⟩, hst⟩
          obtain rfl := hv
          unfold nodeV
          have P0' := Lib.hid (P0.out.kept hst.2 (by omega))
          clear P0
          have P0 := P0'
          clear P0'
          have N2' := Lib.hid (N2.out.st hst.2 (by omega))
          clear N2
          have N2 := N2'
          clear N2'
          have V' := Lib.hid (V.out.kept hst.2 (by omega))
          clear V
          have V := V'
          clear V'
          have N11 := Lib.hid (hn.from (B := w.heap.size) (by omega))
          clear hn
          have S11 := Lib.hid (S10.out.trans hst)
          have z11 := hst.2.size
          clear hst
          have HQ := Lib.hid hq
          clear hx hq
          have q0 := P0.out.c0
          have f0 := P0.out.f0
          go_wp2_with fail
          refine bodyPost_ret (v := nodeV nb11) (by unfold nodeV; simp [results, Tryz.results133, go_sem, q0]) rfl ?_
          rw [HQ.out]
          exact pass_done H.out S11.out N11.out (by omega) _
        · skip
          have HT1 := Lib.hid ht
          clear ht
          refine (take_no E _ j2 d ⟨#[58, 61]⟩ S9.out.1 HT1).mono ?_
          rintro e w12 ⟨rfl, hb⟩
          have P0' := Lib.hid (P0.out.below hb)
          clear P0
          have P0 := P0'
          clear P0'
          have N2' := Lib.hid (N2.out.bl hb)
          clear N2
          have N2 := N2'
          clear N2'
          have V' := Lib.hid (V.out.below hb)
          clear V
          have V := V'
          clear V'
          have S12 := Lib.hid (S9.out.below hb)
          have z12 := hb.size
          clear hb
          go_wp2_with fail
          by_cases ht : (E.T j2).text = cEq
          · skip
            have HT := Lib.hid ht
            clear ht
            have HRS := Lib.hid (run_next (ite_yes (ite_no (ite_no HRK.out (fun h => HO.out h.2.1)) (fun h => HT1.out h.2.2)) ⟨HK1.out, HV.out, HT.out⟩))
            refine (take_yes E _ j2 d ⟨#[61]⟩ S12.out.1 HT (Lib.hid (by decide))).mono ?_
            rintro e w13 ⟨rfl, hst⟩
            have P0' := Lib.hid (P0.out.kept hst.2 (by omega))
            clear P0
            have P0 := P0'
            clear P0'
            have N2' := Lib.hid (N2.out.st hst.2 (by omega))
            clear N2
            have N2 := N2'
            clear N2'
            have V' := Lib.hid (V.out.kept hst.2 (by omega))
            clear V
            have V := V'
            clear V'
            have S13 := Lib.hid (S12.out.trans hst)
            have z13 := hst.2.size
            clear hst
            have V0 := V.out.c0
            go_wp2_with fail
            clear V0
            rcases last_cases HRS.out with ⟨j14, er, hx, hq⟩ | ⟨a14, j14, hx, hq⟩
            · exact (setting_any E _ (j2 + 1) d n ih 8 nb2 a2 _ S13.out.1 (N2.out.weak fun x hx _ => by have h9 : w.heap.size < x := hx; omega) hx).mono fun e w' h => by obtain ⟨rfl, hg⟩ := h; exact ⟨rfl, by rw [hq]; exact ⟨rfl, S13.out.2.trans hg⟩⟩
            refine (setting_any E _ (j2 + 1) d n ih 8 nb2 a2 _ S13.out.1 (N2.out.weak fun x hx _ => by have h9 : w.heap.size < x := hx; omega) hx).mono ?_
            rintro e w14 ⟨v14, rfl, ⟨nb14, hv, hn⟩, hst⟩
            obtain rfl := hv
            unfold nodeV
            have P0' := Lib.hid (P0.out.kept hst.2 (by omega))
            clear P0
            have P0 := P0'
            clear P0'
            have N2' := Lib.hid (N2.out.st hst.2 (by omega))
            clear N2
            have N2 := N2'
            clear N2'
            have V' := Lib.hid (V.out.kept hst.2 (by omega))
            clear V
            have V := V'
            clear V'
            have N14 := Lib.hid (hn.from (B := w.heap.size) (by omega))
            clear hn
            have S14 := Lib.hid (S13.out.trans hst)
            have z14 := hst.2.size
            clear hst
            have HQ := Lib.hid hq
            clear hx hq
            have q0 := P0.out.c0
            have f0 := P0.out.f0
            go_wp2_with fail
            refine bodyPost_ret (v := nodeV nb14) (by unfold nodeV; simp [results, Tryz.results133, go_sem, q0]) rfl ?_
            rw [HQ.out]
            exact pass_done H.out S14.out N14.out (by omega) _
          · skip
            have HT := Lib.hid ht
            clear ht
            refine (take_no E _ j2 d ⟨#[61]⟩ S12.out.1 HT).mono ?_
            rintro e w15 ⟨rfl, hb⟩
            have P0' := Lib.hid (P0.out.below hb)
            clear P0
            have P0 := P0'
            clear P0'
            have N2' := Lib.hid (N2.out.bl hb)
            clear N2
            have N2 := N2'
            clear N2'
            have V' := Lib.hid (V.out.below hb)
            clear V
            have V := V'
            clear V'
            have S15 := Lib.hid (S12.out.below hb)
            have z15 := hb.size
            clear hb
            have HRP := Lib.hid (ite_no (ite_no (ite_no HRK.out (fun h => HO.out h.2.1)) (fun h => HT1.out h.2.2)) (fun h => HT.out h.2.2))
            have V0 := V.out.c0
            go_wp2_with fail
            clear V0
            rcases last_cases HRP.out with ⟨j16, er, hx, hq⟩ | ⟨a16, j16, hx, hq⟩
            · exact (put_any E _ j2 d n ih (w.heap.size + 1) nb2 a2 _ S15.out.1 (by omega) (by omega) (N2.out.weak fun x hx _ => hx) hx).mono fun e w' h => by obtain ⟨rfl, hg⟩ := h; exact ⟨rfl, by rw [hq]; exact ⟨rfl, S15.out.2.trans hg⟩⟩
            refine (put_any E _ j2 d n ih (w.heap.size + 1) nb2 a2 _ S15.out.1 (by omega) (by omega) (N2.out.weak fun x hx _ => hx) hx).mono ?_
            rintro e w16 ⟨v16, rfl, ⟨nb16, hv, hn⟩, hst⟩
            obtain rfl := hv
            unfold nodeV
            have P0' := Lib.hid (P0.out.kept hst.2 (by omega))
            clear P0
            have P0 := P0'
            clear P0'
            have N2' := Lib.hid (N2.out.st hst.2 (by omega))
            clear N2
            have N2 := N2'
            clear N2'
            have V' := Lib.hid (V.out.kept hst.2 (by omega))
            clear V
            have V := V'
            clear V'
            have N16 := Lib.hid (NodeAt.from (B := w.heap.size) hn (by omega))
            clear hn
            have S16 := Lib.hid (S15.out.trans hst)
            have z16 := hst.2.size
            clear hst
            have HQ := Lib.hid hq
            clear hx hq
            have q0 := P0.out.c0
            have f0 := P0.out.f0
            go_wp2_with fail
            refine bodyPost_ret (v := nodeV nb16) (by unfold nodeV; simp [results, Tryz.results133, go_sem, q0]) rfl ?_
            rw [HQ.out]
            exact pass_done H.out S16.out N16.out (by omega) _
      · skip
        have HV := Lib.hid ht
        have bv : ((a2.op : Int) == 18) = false := by simp; omega
        clear ht
        have HRP := Lib.hid (ite_no (ite_no (ite_no HRK.out (fun h => HO.out h.2.1)) (fun h => HV.out h.2.1)) (fun h => HV.out h.2.1))
        have V0 := V.out.c0
        go_wp2_with fail
        clear V0
        rcases last_cases HRP.out with ⟨j17, er, hx, hq⟩ | ⟨a17, j17, hx, hq⟩
        · exact (put_any E _ j2 d n ih (w.heap.size + 1) nb2 a2 _ S9.out.1 (by omega) (by omega) (N2.out.weak fun x hx _ => hx) hx).mono fun e w' h => by obtain ⟨rfl, hg⟩ := h; exact ⟨rfl, by rw [hq]; exact ⟨rfl, S9.out.2.trans hg⟩⟩
        refine (put_any E _ j2 d n ih (w.heap.size + 1) nb2 a2 _ S9.out.1 (by omega) (by omega) (N2.out.weak fun x hx _ => hx) hx).mono ?_
        rintro e w17 ⟨v17, rfl, ⟨nb17, hv, hn⟩, hst⟩
        obtain rfl := hv
        unfold nodeV
        have P0' := Lib.hid (P0.out.kept hst.2 (by omega))
        clear P0
        have P0 := P0'
        clear P0'
        have N2' := Lib.hid (N2.out.st hst.2 (by omega))
        clear N2
        have N2 := N2'
        clear N2'
        have V' := Lib.hid (V.out.kept hst.2 (by omega))
        clear V
        have V := V'
        clear V'
        have N17 := Lib.hid (NodeAt.from (B := w.heap.size) hn (by omega))
        clear hn
        have S17 := Lib.hid (S9.out.trans hst)
        have z17 := hst.2.size
        clear hst
        have HQ := Lib.hid hq
        clear hx hq
        have q0 := P0.out.c0
        have f0 := P0.out.f0
        go_wp2_with fail
        refine bodyPost_ret (v := nodeV nb17) (by unfold nodeV; simp [results, Tryz.results133, go_sem, q0]) rfl ?_
        rw [HQ.out]
        exact pass_done H.out S17.out N17.out (by omega) _
  · skip
    have bk : (((E.T i).kind : Int) == 1) = false := by simp; omega
    have HK1 := Lib.hid ht
    clear ht
    go_wp2_with fail
    rcases bind_cases HR0.out with ⟨j18, er, hx, hq⟩ | ⟨a18, j18, hx, hq⟩
    · exact (primary_any E _ i d n ih _ S1.out.1 hx).mono fun e w' h => by obtain ⟨rfl, hg⟩ := h; exact ⟨rfl, by rw [hq]; exact ⟨rfl, S1.out.2.trans hg⟩⟩
    refine (primary_any E _ i d n ih _ S1.out.1 hx).mono ?_
    rintro e w18 ⟨v18, rfl, ⟨nb18, hv, hn⟩, hst⟩
    obtain rfl := hv
    unfold nodeV
    have P0' := Lib.hid (P0.out.kept hst.2 (by omega))
    clear P0
    have P0 := P0'
    clear P0'
    have N18 := Lib.hid (hn.from (B := w.heap.size) (by omega))
    clear hn
    have S18 := Lib.hid (S1.out.trans hst)
    have z18 := hst.2.size
    clear hst
    have HR18 := Lib.hid hq
    clear hx hq
    have V := Lib.hid (PtrAt.new w18 (some ⟨nb18, 0, none⟩))
    have P0' := Lib.hid (P0.out.below (b1 w18 (.cells #[.pointer (some ⟨nb18, 0, none⟩)] 25)))
    clear P0
    have P0 := P0'
    clear P0'
    have N18' := Lib.hid (N18.out.bl (b1 w18 (.cells #[.pointer (some ⟨nb18, 0, none⟩)] 25)))
    clear N18
    have N18 := N18'
    clear N18'
    have S19 := Lib.hid (S18.out.below (b1 w18 (.cells #[.pointer (some ⟨nb18, 0, none⟩)] 25)))
    have z19 := (b1 w18 (.cells #[.pointer (some ⟨nb18, 0, none⟩)] 25)).size
    have y19 : w18.heap.size < (w18.alloc (.cells #[.pointer (some ⟨nb18, 0, none⟩)] 25)).heap.size := by simp
    have V0 := V.out.c0
    go_wp2_with fail
    generalize w18.alloc (.cells #[.pointer (some ⟨nb18, 0, none⟩)] 25) = w19 at *
    clear V0
    have HRK := Lib.hid (run_peek HR18.out)
    have HRP := Lib.hid (ite_no (ite_no (ite_no HRK.out (fun h => HK1.out h.1)) (fun h => HK1.out h.1)) (fun h => HK1.out h.1))
    rcases last_cases HRP.out with ⟨j20, er, hx, hq⟩ | ⟨a20, j20, hx, hq⟩
    · exact (put_any E _ j18 d n ih (w.heap.size + 1) nb18 a18 _ S19.out.1 (by omega) (by omega) (N18.out.weak fun x hx _ => hx) hx).mono fun e w' h => by obtain ⟨rfl, hg⟩ := h; exact ⟨rfl, by rw [hq]; exact ⟨rfl, S19.out.2.trans hg⟩⟩
    refine (put_any E _ j18 d n ih (w.heap.size + 1) nb18 a18 _ S19.out.1 (by omega) (by omega) (N18.out.weak fun x hx _ => hx) hx).mono ?_
    rintro e w20 ⟨v20, rfl, ⟨nb20, hv, hn⟩, hst⟩
    obtain rfl := hv
    unfold nodeV
    have P0' := Lib.hid (P0.out.kept hst.2 (by omega))
    clear P0
    have P0 := P0'
    clear P0'
    have N18' := Lib.hid (N18.out.st hst.2 (by omega))
    clear N18
    have N18 := N18'
    clear N18'
    have V' := Lib.hid (V.out.kept hst.2 (by omega))
    clear V
    have V := V'
    clear V'
    have N20 := Lib.hid (NodeAt.from (B := w.heap.size) hn (by omega))
    clear hn
    have S20 := Lib.hid (S19.out.trans hst)
    have z20 := hst.2.size
    clear hst
    have HQ := Lib.hid hq
    clear hx hq
    have q0 := P0.out.c0
    have f0 := P0.out.f0
    go_wp2_with fail
    refine bodyPost_ret (v := nodeV nb20) (by unfold nodeV; simp [results, Tryz.results133, go_sem, q0]) rfl ?_
    rw [HQ.out]
    exact pass_done H.out S20.out N20.out (by omega) _

end Go.Proofs.YtfbejfoalnhihaaGreatDoor

/-
  CONTRACTS: print, loop, giveBack of the reader, where calls one step down are as they should be. Nobody but the reader's own block has turned.
-/
namespace Go.Proofs.YtfbejfoalnhihaaGreatDoor
open Go.RowKit

set_option maxRecDepth 100000 in
set_option maxHeartbeats 400000 in
theorem print_any (E : Env) (w : World) (i d : Nat) (n : Nat) (ih : IH E n) (r : Res Tree) (h : RD E w i d) (hr : Hid (runW E.T (P E.T n) (print d) i = some r)) :
    Calls Tryz.prog 131 #[.pointer (some ⟨E.rb, 0, none⟩)] w (Q E w d (VN E w.heap.size) r) := by
  have H := Lib.hid h
  have hr1 := h.lt
  have hf0 := tok_kind
  have hf1 := tok_text
  have hf2 := tok_at
  have S0 := Lib.hid (ST.below (ST.refl h) (b1 w (.cells #[.pointer none] 25)))
  have P0 := Lib.hid (PtrAt.new w none)
  have l0 := P0.out.lt
  clear h
  go_enter Tryz.func131, Tryz.ntmps131
  go_wp2_with fail
  generalize w.alloc (.cells #[.pointer none] 25) = wa at *
  rcases bind_cases hr.out with ⟨j1, er, hx, hq⟩ | ⟨a1, j1, hx, hq⟩
  · exact (need_any E _ i d ⟨#[112, 114, 105, 110, 116]⟩ (P E.T n) _ S0.out.1 (Lib.hid (by decide)) hx).mono fun e w' h => by obtain ⟨rfl, hg⟩ := h; exact ⟨rfl, by rw [hq]; exact ⟨rfl, S0.out.2.trans hg⟩⟩
  refine (need_any E _ i d ⟨#[112, 114, 105, 110, 116]⟩ (P E.T n) _ S0.out.1 (Lib.hid (by decide)) hx).mono ?_
  rintro e w1 ⟨v1, rfl, hv, hst⟩
  obtain rfl := hv
  unfold tokV
  have P0' := Lib.hid (P0.out.kept hst.2 (by omega))
  clear P0
  have P0 := P0'
  clear P0'
  have S1 := Lib.hid (S0.out.trans hst)
  have z1 := hst.2.size
  clear hst
  have HR1 := Lib.hid hq
  clear hx hq
  go_wp2_with fail
  rcases bind_cases HR1.out with ⟨j2, er, hx, hq⟩ | ⟨a2, j2, hx, hq⟩
  · exact (bracketed_any E _ j1 d n ih _ S1.out.1 hx).mono fun e w' h => by obtain ⟨rfl, hg⟩ := h; exact ⟨rfl, by rw [hq]; exact ⟨rfl, S1.out.2.trans hg⟩⟩
  refine (bracketed_any E _ j1 d n ih _ S1.out.1 hx).mono ?_
  rintro e w2 ⟨v2, rfl, ⟨nb2, hv, hn⟩, hst⟩
  obtain rfl := hv
  unfold nodeV
  have P0' := Lib.hid (P0.out.kept hst.2 (by omega))
  clear P0
  have P0 := P0'
  clear P0'
  have N2 := Lib.hid (hn.from (B := w.heap.size) (by omega))
  clear hn
  have S2 := Lib.hid (S1.out.trans hst)
  have z2 := hst.2.size
  clear hst
  have HR2 := Lib.hid hq
  clear hx hq
  have V := Lib.hid (PtrAt.new w2 (some ⟨nb2, 0, none⟩))
  have P0' := Lib.hid (P0.out.below (b1 w2 (.cells #[.pointer (some ⟨nb2, 0, none⟩)] 25)))
  clear P0
  have P0 := P0'
  clear P0'
  have N2' := Lib.hid (N2.out.bl (b1 w2 (.cells #[.pointer (some ⟨nb2, 0, none⟩)] 25)))
  clear N2
  have N2 := N2'
  clear N2'
  have S3 := Lib.hid (S2.out.below (b1 w2 (.cells #[.pointer (some ⟨nb2, 0, none⟩)] 25)))
  have z3 := (b1 w2 (.cells #[.pointer (some ⟨nb2, 0, none⟩)] 25)).size
  have y3 : w2.heap.size < (w2.alloc (.cells #[.pointer (some ⟨nb2, 0, none⟩)] 25)).heap.size := by simp
  go_wp2_with fail
  generalize w2.alloc (.cells #[.pointer (some ⟨nb2, 0, none⟩)] 25) = w3 at *
  rcases bind_cases HR2.out with ⟨j4, er, hx, hq⟩ | ⟨a4, j4, hx, hq⟩
  · exact (need_any E _ j2 d ⟨#[59]⟩ (P E.T n) _ S3.out.1 (Lib.hid (by decide)) hx).mono fun e w' h => by obtain ⟨rfl, hg⟩ := h; exact ⟨rfl, by rw [hq]; exact ⟨rfl, S3.out.2.trans hg⟩⟩
  refine (need_any E _ j2 d ⟨#[59]⟩ (P E.T n) _ S3.out.1 (Lib.hid (by decide)) hx).mono ?_
  rintro e w4 ⟨v4, rfl, -, hst⟩
  have P0' := Lib.hid (P0.out.kept hst.2 (by omega))
  clear P0
  have P0 := P0'
  clear P0'
  have N2' := Lib.hid (N2.out.st hst.2 (by omega))
  clear N2
  have N2 := N2'
  clear N2'
  have V' := Lib.hid (V.out.kept hst.2 (by omega))
  clear V
  have V := V'
  clear V'
  have S4 := Lib.hid (S3.out.trans hst)
  have z4 := hst.2.size
  clear hst
  have HR4 := Lib.hid hq
  clear hx hq
  have HQ : Hid (r = .ok (.mk 12 [] [] 0 a1 [a2]) j4) := (Option.some.inj HR4.out).symm
  have V0 := V.out.c0
  have K := Lib.hid (kids_lit1 N2.out (by omega))
  have P0' := Lib.hid (P0.out.below (b1 w4 (.cells #[.pointer (some ⟨nb2, 0, none⟩)] 25)))
  clear P0
  have P0 := P0'
  clear P0'
  have N2' := Lib.hid (N2.out.bl (b1 w4 (.cells #[.pointer (some ⟨nb2, 0, none⟩)] 25)))
  clear N2
  have N2 := N2'
  clear N2'
  have V' := Lib.hid (V.out.below (b1 w4 (.cells #[.pointer (some ⟨nb2, 0, none⟩)] 25)))
  clear V
  have V := V'
  clear V'
  have S5 := Lib.hid (S4.out.below (b1 w4 (.cells #[.pointer (some ⟨nb2, 0, none⟩)] 25)))
  have z5 := (b1 w4 (.cells #[.pointer (some ⟨nb2, 0, none⟩)] 25)).size
  have y5 : w4.heap.size < (w4.alloc (.cells #[.pointer (some ⟨nb2, 0, none⟩)] 25)).heap.size := by simp
  go_wp2_with fail
  generalize w4.alloc (.cells #[.pointer (some ⟨nb2, 0, none⟩)] 25) = w5 at *
  refine (newNode_any _ _ _ _ _ _ _ _ _).mono ?_
  rintro e w9 ⟨rfl, hb9, hrow⟩
  have P9 := P0.out.below hb9
  have q0 := P9.c0
  have f0 := P9.f0
  have HB9 := Lib.hid hb9
  have HROW := Lib.hid hrow
  clear hb9 hrow P9
  unfold nodeV
  go_wp2_with fail
  refine bodyPost_ret (v := nodeV w5.heap.size) (by unfold nodeV; simp [results, Tryz.results131, go_sem, q0]) rfl ?_
  rw [HQ.out]
  have hrow := HROW.out
  exact node_done H.out S5.out K.out (by omega) HB9.out hrow (by omega) (by omega) _

set_option maxRecDepth 100000 in
set_option maxHeartbeats 400000 in
theorem loop_any (E : Env) (w : World) (i d : Nat) (n : Nat) (ih : IH E n) (r : Res Tree) (h : RD E w i d) (hr : Hid (runW E.T (P E.T n) (loop d) i = some r)) :
    Calls Tryz.prog 130 #[.pointer (some ⟨E.rb, 0, none⟩)] w (Q E w d (VN E w.heap.size) r) := by
  have H := Lib.hid h
  have hr1 := h.lt
  have hf0 := tok_kind
  have hf1 := tok_text
  have hf2 := tok_at
  have S0 := Lib.hid (ST.below (ST.refl h) (b1 w (.cells #[.pointer none] 25)))
  have P0 := Lib.hid (PtrAt.new w none)
  have l0 := P0.out.lt
  clear h
  go_enter Tryz.func130, Tryz.ntmps130
  go_wp2_with fail
  generalize w.alloc (.cells #[.pointer none] 25) = wa at *
  rcases bind_cases hr.out with ⟨j1, er, hx, hq⟩ | ⟨a1, j1, hx, hq⟩
  · exact (need_any E _ i d ⟨#[102, 111, 114]⟩ (P E.T n) _ S0.out.1 (Lib.hid (by decide)) hx).mono fun e w' h => by obtain ⟨rfl, hg⟩ := h; exact ⟨rfl, by rw [hq]; exact ⟨rfl, S0.out.2.trans hg⟩⟩
  refine (need_any E _ i d ⟨#[102, 111, 114]⟩ (P E.T n) _ S0.out.1 (Lib.hid (by decide)) hx).mono ?_
  rintro e w1 ⟨v1, rfl, hv, hst⟩
  obtain rfl := hv
  unfold tokV
  have P0' := Lib.hid (P0.out.kept hst.2 (by omega))
  clear P0
  have P0 := P0'
  clear P0'
  have S1 := Lib.hid (S0.out.trans hst)
  have z1 := hst.2.size
  clear hst
  have HR1 := Lib.hid hq
  clear hx hq
  go_wp2_with fail
  rcases bind_cases HR1.out with ⟨j2, er, hx, hq⟩ | ⟨a2, j2, hx, hq⟩
  · exact (expr_any E _ j1 d n ih _ S1.out.1 hx).mono fun e w' h => by obtain ⟨rfl, hg⟩ := h; exact ⟨rfl, by rw [hq]; exact ⟨rfl, S1.out.2.trans hg⟩⟩
  refine (expr_any E _ j1 d n ih _ S1.out.1 hx).mono ?_
  rintro e w2 ⟨v2, rfl, ⟨nb2, hv, hn⟩, hst⟩
  obtain rfl := hv
  unfold nodeV
  have P0' := Lib.hid (P0.out.kept hst.2 (by omega))
  clear P0
  have P0 := P0'
  clear P0'
  have N2 := Lib.hid (hn.from (B := w.heap.size) (by omega))
  clear hn
  have S2 := Lib.hid (S1.out.trans hst)
  have z2 := hst.2.size
  clear hst
  have HR2 := Lib.hid hq
  clear hx hq
  go_wp2_with fail
  rcases bind_cases HR2.out with ⟨j3, er, hx, hq⟩ | ⟨a3, j3, hx, hq⟩
  · exact (block_any E _ j2 d n ih _ S2.out.1 hx).mono fun e w' h => by obtain ⟨rfl, hg⟩ := h; exact ⟨rfl, by rw [hq]; exact ⟨rfl, S2.out.2.trans hg⟩⟩
  refine (block_any E _ j2 d n ih _ S2.out.1 hx).mono ?_
  rintro e w3 ⟨v3, rfl, ⟨nb3, hv, hn⟩, hst⟩
  obtain rfl := hv
  unfold nodeV
  have P0' := Lib.hid (P0.out.kept hst.2 (by omega))
  clear P0
  have P0 := P0'
  clear P0'
  have N2' := Lib.hid (N2.out.st hst.2 (by omega))
  clear N2
  have N2 := N2'
  clear N2'
  have N3 := Lib.hid (hn.from (B := w.heap.size) (by omega))
  clear hn
  have S3 := Lib.hid (S2.out.trans hst)
  have z3 := hst.2.size
  clear hst
  have HR3 := Lib.hid hq
  clear hx hq
  have HQ : Hid (r = .ok (.mk 11 [] [] 0 a1 [a2, a3]) j3) := (Option.some.inj HR3.out).symm
  have K := Lib.hid (kids_lit2 N2.out N3.out (by omega))
  have P0' := Lib.hid (P0.out.below (b1 w3 (.cells #[.pointer (some ⟨nb2, 0, none⟩), .pointer (some ⟨nb3, 0, none⟩)] 25)))
  clear P0
  have P0 := P0'
  clear P0'
  have N2' := Lib.hid (N2.out.bl (b1 w3 (.cells #[.pointer (some ⟨nb2, 0, none⟩), .pointer (some ⟨nb3, 0, none⟩)] 25)))
  clear N2
  have N2 := N2'
  clear N2'
  have N3' := Lib.hid (N3.out.bl (b1 w3 (.cells #[.pointer (some ⟨nb2, 0, none⟩), .pointer (some ⟨nb3, 0, none⟩)] 25)))
  clear N3
  have N3 := N3'
  clear N3'
  have S4 := Lib.hid (S3.out.below (b1 w3 (.cells #[.pointer (some ⟨nb2, 0, none⟩), .pointer (some ⟨nb3, 0, none⟩)] 25)))
  have z4 := (b1 w3 (.cells #[.pointer (some ⟨nb2, 0, none⟩), .pointer (some ⟨nb3, 0, none⟩)] 25)).size
  have y4 : w3.heap.size < (w3.alloc (.cells #[.pointer (some ⟨nb2, 0, none⟩), .pointer (some ⟨nb3, 0, none⟩)] 25)).heap.size := by simp
  go_wp2_with fail
  generalize w3.alloc (.cells #[.pointer (some ⟨nb2, 0, none⟩), .pointer (some ⟨nb3, 0, none⟩)] 25) = w4 at *
  refine (newNode_any _ _ _ _ _ _ _ _ _).mono ?_
  rintro e w9 ⟨rfl, hb9, hrow⟩
  have P9 := P0.out.below hb9
  have q0 := P9.c0
  have f0 := P9.f0
  have HB9 := Lib.hid hb9
  have HROW := Lib.hid hrow
  clear hb9 hrow P9
  unfold nodeV
  go_wp2_with fail
  refine bodyPost_ret (v := nodeV w4.heap.size) (by unfold nodeV; simp [results, Tryz.results130, go_sem, q0]) rfl ?_
  rw [HQ.out]
  have hrow := HROW.out
  exact node_done H.out S4.out K.out (by omega) HB9.out hrow (by omega) (by omega) _

set_option maxRecDepth 100000 in
set_option maxHeartbeats 400000 in
theorem giveBack_any (E : Env) (w : World) (i d : Nat) (n : Nat) (ih : IH E n) (r : Res Tree) (h : RD E w i d) (hr : Hid (runW E.T (P E.T n) (giveBack d) i = some r)) :
    Calls Tryz.prog 132 #[.pointer (some ⟨E.rb, 0, none⟩)] w (Q E w d (VN E w.heap.size) r) := by
  have H := Lib.hid h
  have hr1 := h.lt
  have hf0 := tok_kind
  have hf1 := tok_text
  have hf2 := tok_at
  have S0 := Lib.hid (ST.below (ST.refl h) (b1 w (.cells #[.pointer none] 25)))
  have P0 := Lib.hid (PtrAt.new w none)
  have l0 := P0.out.lt
  clear h
  go_enter Tryz.func132, Tryz.ntmps132
  go_wp2_with fail
  generalize w.alloc (.cells #[.pointer none] 25) = wa at *
  rcases bind_cases hr.out with ⟨j1, er, hx, hq⟩ | ⟨a1, j1, hx, hq⟩
  · exact (need_any E _ i d ⟨#[114, 101, 116, 117, 114, 110]⟩ (P E.T n) _ S0.out.1 (Lib.hid (by decide)) hx).mono fun e w' h => by obtain ⟨rfl, hg⟩ := h; exact ⟨rfl, by rw [hq]; exact ⟨rfl, S0.out.2.trans hg⟩⟩
  refine (need_any E _ i d ⟨#[114, 101, 116, 117, 114, 110]⟩ (P E.T n) _ S0.out.1 (Lib.hid (by decide)) hx).mono ?_
  rintro e w1 ⟨v1, rfl, hv, hst⟩
  obtain rfl := hv
  unfold tokV
  have P0' := Lib.hid (P0.out.kept hst.2 (by omega))
  clear P0
  have P0 := P0'
  clear P0'
  have S1 := Lib.hid (S0.out.trans hst)
  have z1 := hst.2.size
  clear hst
  have HR1 := Lib.hid hq
  clear hx hq
  go_wp2_with fail
  by_cases ht : (E.T j1).text = cSemi
  · skip
    rcases bind_cases HR1.out with ⟨j9, er, hx, hq⟩ | ⟨a9, j9, hx, hq⟩
    · exact absurd (run_ret (peek_yes hx ht)) (by simp)
    have e9 := run_ret (peek_yes hx ht)
    injection e9 with e1 e2
    subst e1
    subst e2
    have HR9 := Lib.hid hq
    clear hx hq
    refine (is_yes E _ j9 d ⟨#[59]⟩ S1.out.1 ht).mono ?_
    rintro e w2 ⟨rfl, hb⟩
    have P0' := Lib.hid (P0.out.below hb)
    clear P0
    have P0 := P0'
    clear P0'
    have S2 := Lib.hid (S1.out.below hb)
    have z2 := hb.size
    clear hb
    clear ht
    go_wp2_with fail
    rcases bind_cases HR9.out with ⟨j3, er, hx, hq⟩ | ⟨a3, j3, hx, hq⟩
    · exact (need_any E _ j9 d ⟨#[59]⟩ (P E.T n) _ S2.out.1 (Lib.hid (by decide)) hx).mono fun e w' h => by obtain ⟨rfl, hg⟩ := h; exact ⟨rfl, by rw [hq]; exact ⟨rfl, S2.out.2.trans hg⟩⟩
    refine (need_any E _ j9 d ⟨#[59]⟩ (P E.T n) _ S2.out.1 (Lib.hid (by decide)) hx).mono ?_
    rintro e w3 ⟨v3, rfl, -, hst⟩
    have P0' := Lib.hid (P0.out.kept hst.2 (by omega))
    clear P0
    have P0 := P0'
    clear P0'
    have S3 := Lib.hid (S2.out.trans hst)
    have z3 := hst.2.size
    clear hst
    have HR3 := Lib.hid hq
    clear hx hq
    have HQ : Hid (r = .ok (.mk 13 [] [] 0 a1 []) j3) := (Option.some.inj HR3.out).symm
    go_wp2_with fail
    refine (newNode_any _ _ _ _ _ _ _ _ _).mono ?_
    rintro e w9 ⟨rfl, hb9, hrow⟩
    have P9 := P0.out.below hb9
    have q0 := P9.c0
    have f0 := P9.f0
    have HB9 := Lib.hid hb9
    have HROW := Lib.hid hrow
    clear hb9 hrow P9
    unfold nodeV
    go_wp2_with fail
    refine bodyPost_ret (v := nodeV w3.heap.size) (by unfold nodeV; simp [results, Tryz.results132, go_sem, q0]) rfl ?_
    rw [HQ.out]
    have hrow := HROW.out
    exact node_done H.out S3.out (KidsIn.nil (fun x => w.heap.size < x) E.pl w3) (by omega) HB9.out hrow (by omega) (by omega) _
  · skip
    refine (is_no E _ j1 d ⟨#[59]⟩ S1.out.1 ht).mono ?_
    rintro e w4 ⟨rfl, hb⟩
    have P0' := Lib.hid (P0.out.below hb)
    clear P0
    have P0 := P0'
    clear P0'
    have S4 := Lib.hid (S1.out.below hb)
    have z4 := hb.size
    clear hb
    go_wp2_with fail
    rcases bind_cases HR1.out with ⟨j9, er, hx9, hq9⟩ | ⟨a9, j9, hx9, hq9⟩
    · rcases bind_cases (peek_no hx9 ht) with ⟨j8, er8, hx, hq⟩ | ⟨a8, j8, hx, hq⟩
      · cases hq; exact (expr_any E _ j1 d n ih _ S4.out.1 (Lib.hid hx)).mono fun e w' h => by obtain ⟨rfl, hg⟩ := h; exact ⟨rfl, by rw [hq9]; exact ⟨rfl, S4.out.2.trans hg⟩⟩
      · exact absurd (run_ret hq) (by simp)
    rcases bind_cases (peek_no hx9 ht) with ⟨j8, er8, hx, hq⟩ | ⟨a8, j8, hx, hq⟩
    · exact absurd hq (by simp)
    have e9 := run_ret hq
    injection e9 with e1 e2
    subst e1
    subst e2
    have HR9 := Lib.hid hq9
    clear hq9 hx9 hq ht
    have KL := Lib.hid ((KidsIn.nil (fun x => w.heap.size < x) E.pl w4).lt)
    have K := Lib.hid (KidsIn.nil (fun x => w.heap.size < x) E.pl w4)
    refine (expr_any E _ j1 d n ih _ S4.out.1 (Lib.hid hx)).mono ?_
    rintro e w8 ⟨v8, rfl, ⟨nb8, hv, hn⟩, hst⟩
    obtain rfl := hv
    unfold nodeV
    have P0' := Lib.hid (P0.out.kept hst.2 (by omega))
    clear P0
    have P0 := P0'
    clear P0'
    have K' := Lib.hid (K.out.st hst.2 (by omega))
    clear K
    have K := K'
    clear K'
    have N8 := Lib.hid (hn.from (B := w.heap.size) (by omega))
    have M8 := Lib.hid hn
    clear hn
    have S8 := Lib.hid (S4.out.trans hst)
    have z8 := hst.2.size
    clear hst
    clear hx
    have L := Lib.hid (show (w8.alloc (.cells #[.pointer (some ⟨nb8, 0, none⟩)] 25)).cell? ⟨w8.heap.size, 0, none⟩ = some (.pointer (some ⟨nb8, 0, none⟩)) by simp [go_sem])
    have P0' := Lib.hid (P0.out.below (b1 w8 (.cells #[.pointer (some ⟨nb8, 0, none⟩)] 25)))
    clear P0
    have P0 := P0'
    clear P0'
    have K' := Lib.hid (K.out.bl (b1 w8 (.cells #[.pointer (some ⟨nb8, 0, none⟩)] 25)))
    clear K
    have K := K'
    clear K'
    have N8' := Lib.hid (N8.out.bl (b1 w8 (.cells #[.pointer (some ⟨nb8, 0, none⟩)] 25)))
    clear N8
    have N8 := N8'
    clear N8'
    have M8' := Lib.hid (M8.out.bl (b1 w8 (.cells #[.pointer (some ⟨nb8, 0, none⟩)] 25)))
    clear M8
    have M8 := M8'
    clear M8'
    have S9 := Lib.hid (S8.out.below (b1 w8 (.cells #[.pointer (some ⟨nb8, 0, none⟩)] 25)))
    have z9 := (b1 w8 (.cells #[.pointer (some ⟨nb8, 0, none⟩)] 25)).size
    have y9 : w8.heap.size < (w8.alloc (.cells #[.pointer (some ⟨nb8, 0, none⟩)] 25)).heap.size := by simp
    go_wp2_with (at_builtin; refine Hid.out ?_)
    generalize w8.alloc (.cells #[.pointer (some ⟨nb8, 0, none⟩)] 25) = w9 at *
    refine Lib.hid ?_
    refine wpList_append_kid rfl (.tmp 11) (.tmp 14) rfl w.heap.size E.pl _ 0 [] rfl K.out nb8 a8 N8.out (fun g hg => M8.out.weak fun x hx _ => ⟨by omega, by have := KL.out g hg; omega⟩) _ rfl L.out (by omega) (by omega) ?_
    intro g10 cap10 w10 hk hg hy
    have P0' := Lib.hid (P0.out.grow hg (fun e => by have := hy _ e; omega))
    clear P0
    have P0 := P0'
    clear P0'
    have S10 := Lib.hid (ST.grow H.out S9.out hg (fun y e => by have := hy y e; omega))
    have z10 := hg.size
    clear K
    have K := Lib.hid hk
    clear hk hg hy
    go_wp2_with fail
    rcases bind_cases HR9.out with ⟨j11, er, hx, hq⟩ | ⟨a11, j11, hx, hq⟩
    · exact (need_any E _ j9 d ⟨#[59]⟩ (P E.T n) _ S10.out.1 (Lib.hid (by decide)) hx).mono fun e w' h => by obtain ⟨rfl, hg⟩ := h; exact ⟨rfl, by rw [hq]; exact ⟨rfl, S10.out.2.trans hg⟩⟩
    refine (need_any E _ j9 d ⟨#[59]⟩ (P E.T n) _ S10.out.1 (Lib.hid (by decide)) hx).mono ?_
    rintro e w11 ⟨v11, rfl, -, hst⟩
    have P0' := Lib.hid (P0.out.kept hst.2 (by omega))
    clear P0
    have P0 := P0'
    clear P0'
    have K' := Lib.hid (K.out.st hst.2 (by omega))
    clear K
    have K := K'
    clear K'
    have S11 := Lib.hid (S10.out.trans hst)
    have z11 := hst.2.size
    clear hst
    have HR11 := Lib.hid hq
    clear hx hq
    have HQ : Hid (r = .ok (.mk 13 [] [] 0 a1 [a8]) j11) := (Option.some.inj HR11.out).symm
    go_wp2_with fail
    refine (newNode_any _ _ _ _ _ _ _ _ _).mono ?_
    rintro e w9 ⟨rfl, hb9, hrow⟩
    have P9 := P0.out.below hb9
    have q0 := P9.c0
    have f0 := P9.f0
    have HB9 := Lib.hid hb9
    have HROW := Lib.hid hrow
    clear hb9 hrow P9
    unfold nodeV
    go_wp2_with fail
    refine bodyPost_ret (v := nodeV w11.heap.size) (by unfold nodeV; simp [results, Tryz.results132, go_sem, q0]) rfl ?_
    rw [HQ.out]
    have hrow := HROW.out
    exact node_done H.out S11.out K.out (by omega) HB9.out hrow (by omega) (by omega) _

end Go.Proofs.YtfbejfoalnhihaaGreatDoor

/-
  CONTRACT: statement of the reader, where calls one step down are as they should be. Nobody but the reader's own block has turned.
-/
namespace Go.Proofs.YtfbejfoalnhihaaGreatDoor
open Go.RowKit

set_option maxRecDepth 100000 in
set_option maxHeartbeats 1000000 in
theorem statement_any (E : Env) (w : World) (i d : Nat) (n : Nat) (ih : IH E n) (r : Res Tree) (h : RD E w i d) (hr : Hid (runW E.T (P E.T n) (stmt d) i = some r)) :
    Calls Tryz.prog 117 #[.pointer (some ⟨E.rb, 0, none⟩)] w (Q E w d (VN E w.heap.size) r) := by
  have H := Lib.hid h
  have hr1 := h.lt
  have hf0 := tok_kind
  have hf1 := tok_text
  have hf2 := tok_at
  have S0 := Lib.hid (ST.below (ST.refl h) (b1 w (.cells #[.pointer none] 25)))
  have P0 := Lib.hid (PtrAt.new w none)
  have l0 := P0.out.lt
  clear h
  go_enter Tryz.func117, Tryz.ntmps117
  go_wp2_with fail
  generalize w.alloc (.cells #[.pointer none] 25) = wa at *
  refine (peek_any E _ i d S0.out.1).mono ?_
  rintro e w1 ⟨rfl, hb⟩
  have P0' := Lib.hid (P0.out.below hb)
  clear P0
  have P0 := P0'
  clear P0'
  have S1 := Lib.hid (S0.out.below hb)
  have z1 := hb.size
  clear hb
  unfold tokV
  have HR0 := Lib.hid (run_peek hr.out)
  by_cases ht : (E.T i).text = kIf
  · skip
    have HR20 := Lib.hid (ite_yes HR0.out ht)
    have ty : ((E.T i).text == [105, 102]) = true := by rw [ht]; rfl
    clear ht
    go_wp2_with fail
    rcases call_cases HR20.out with ⟨j2, er, hx, hq⟩ | ⟨a2, j2, hx, hq⟩
    · exact (ih.branch _ i d _ S1.out.1 hx).mono fun e w' h => by obtain ⟨rfl, hg⟩ := h; exact ⟨rfl, by rw [hq]; exact ⟨rfl, S1.out.2.trans hg⟩⟩
    refine (ih.branch _ i d _ S1.out.1 hx).mono ?_
    rintro e w2 ⟨v2, rfl, ⟨nb2, hv, hn⟩, hst⟩
    obtain rfl := hv
    unfold nodeV
    have P0' := Lib.hid (P0.out.kept hst.2 (by omega))
    clear P0
    have P0 := P0'
    clear P0'
    have N2 := Lib.hid (hn.from (B := w.heap.size) (by omega))
    clear hn
    have S2 := Lib.hid (S1.out.trans hst)
    have z2 := hst.2.size
    clear hst
    have HQ := Lib.hid (run_ret hq)
    clear hx hq
    have q0 := P0.out.c0
    have f0 := P0.out.f0
    go_wp2_with fail
    refine bodyPost_ret (v := nodeV nb2) (by unfold nodeV; simp [results, Tryz.results117, go_sem, q0]) rfl ?_
    rw [HQ.out]
    exact pass_done H.out S2.out N2.out (by omega) _
  · skip
    have HR1 := Lib.hid (ite_no HR0.out ht)
    have nt0 : ((E.T i).text == [105, 102]) = false := by simpa using ht
    clear ht
    by_cases ht : (E.T i).text = kFor
    · skip
      have HR21 := Lib.hid (ite_yes HR1.out ht)
      have ty : ((E.T i).text == [102, 111, 114]) = true := by rw [ht]; rfl
      clear ht
      go_wp2_with fail
      rcases last_cases HR21.out with ⟨j3, er, hx, hq⟩ | ⟨a3, j3, hx, hq⟩
      · exact (loop_any E _ i d n ih _ S1.out.1 hx).mono fun e w' h => by obtain ⟨rfl, hg⟩ := h; exact ⟨rfl, by rw [hq]; exact ⟨rfl, S1.out.2.trans hg⟩⟩
      refine (loop_any E _ i d n ih _ S1.out.1 hx).mono ?_
      rintro e w3 ⟨v3, rfl, ⟨nb3, hv, hn⟩, hst⟩
      obtain rfl := hv
      unfold nodeV
      have P0' := Lib.hid (P0.out.kept hst.2 (by omega))
      clear P0
      have P0 := P0'
      clear P0'
      have N3 := Lib.hid (hn.from (B := w.heap.size) (by omega))
      clear hn
      have S3 := Lib.hid (S1.out.trans hst)
      have z3 := hst.2.size
      clear hst
      have HQ := Lib.hid hq
      clear hx hq
      have q0 := P0.out.c0
      have f0 := P0.out.f0
      go_wp2_with fail
      refine bodyPost_ret (v := nodeV nb3) (by unfold nodeV; simp [results, Tryz.results117, go_sem, q0]) rfl ?_
      rw [HQ.out]
      exact pass_done H.out S3.out N3.out (by omega) _
    · skip
      have HR2 := Lib.hid (ite_no HR1.out ht)
      have nt1 : ((E.T i).text == [102, 111, 114]) = false := by simpa using ht
      clear ht
      by_cases ht : (E.T i).text = kPrint
      · skip
        have HR22 := Lib.hid (ite_yes HR2.out ht)
        have ty : ((E.T i).text == [112, 114, 105, 110, 116]) = true := by rw [ht]; rfl
        clear ht
        go_wp2_with fail
        rcases last_cases HR22.out with ⟨j4, er, hx, hq⟩ | ⟨a4, j4, hx, hq⟩
        · exact (print_any E _ i d n ih _ S1.out.1 hx).mono fun e w' h => by obtain ⟨rfl, hg⟩ := h; exact ⟨rfl, by rw [hq]; exact ⟨rfl, S1.out.2.trans hg⟩⟩
        refine (print_any E _ i d n ih _ S1.out.1 hx).mono ?_
        rintro e w4 ⟨v4, rfl, ⟨nb4, hv, hn⟩, hst⟩
        obtain rfl := hv
        unfold nodeV
        have P0' := Lib.hid (P0.out.kept hst.2 (by omega))
        clear P0
        have P0 := P0'
        clear P0'
        have N4 := Lib.hid (hn.from (B := w.heap.size) (by omega))
        clear hn
        have S4 := Lib.hid (S1.out.trans hst)
        have z4 := hst.2.size
        clear hst
        have HQ := Lib.hid hq
        clear hx hq
        have q0 := P0.out.c0
        have f0 := P0.out.f0
        go_wp2_with fail
        refine bodyPost_ret (v := nodeV nb4) (by unfold nodeV; simp [results, Tryz.results117, go_sem, q0]) rfl ?_
        rw [HQ.out]
        exact pass_done H.out S4.out N4.out (by omega) _
      · skip
        have HR3 := Lib.hid (ite_no HR2.out ht)
        have nt2 : ((E.T i).text == [112, 114, 105, 110, 116]) = false := by simpa using ht
        clear ht
        by_cases ht : (E.T i).text = kReturn
        · skip
          have HR23 := Lib.hid (ite_yes HR3.out ht)
          have ty : ((E.T i).text == [114, 101, 116, 117, 114, 110]) = true := by rw [ht]; rfl
          clear ht
          go_wp2_with fail
          rcases last_cases HR23.out with ⟨j5, er, hx, hq⟩ | ⟨a5, j5, hx, hq⟩
          · exact (giveBack_any E _ i d n ih _ S1.out.1 hx).mono fun e w' h => by obtain ⟨rfl, hg⟩ := h; exact ⟨rfl, by rw [hq]; exact ⟨rfl, S1.out.2.trans hg⟩⟩
          refine (giveBack_any E _ i d n ih _ S1.out.1 hx).mono ?_
          rintro e w5 ⟨v5, rfl, ⟨nb5, hv, hn⟩, hst⟩
          obtain rfl := hv
          unfold nodeV
          have P0' := Lib.hid (P0.out.kept hst.2 (by omega))
          clear P0
          have P0 := P0'
          clear P0'
          have N5 := Lib.hid (hn.from (B := w.heap.size) (by omega))
          clear hn
          have S5 := Lib.hid (S1.out.trans hst)
          have z5 := hst.2.size
          clear hst
          have HQ := Lib.hid hq
          clear hx hq
          have q0 := P0.out.c0
          have f0 := P0.out.f0
          go_wp2_with fail
          refine bodyPost_ret (v := nodeV nb5) (by unfold nodeV; simp [results, Tryz.results117, go_sem, q0]) rfl ?_
          rw [HQ.out]
          exact pass_done H.out S5.out N5.out (by omega) _
        · skip
          have HR4 := Lib.hid (ite_no HR3.out ht)
          have nt3 : ((E.T i).text == [114, 101, 116, 117, 114, 110]) = false := by simpa using ht
          clear ht
          go_wp2_with fail
          rcases last_cases HR4.out with ⟨j6, er, hx, hq⟩ | ⟨a6, j6, hx, hq⟩
          · exact (simple_any E _ i d n ih _ S1.out.1 hx).mono fun e w' h => by obtain ⟨rfl, hg⟩ := h; exact ⟨rfl, by rw [hq]; exact ⟨rfl, S1.out.2.trans hg⟩⟩
          refine (simple_any E _ i d n ih _ S1.out.1 hx).mono ?_
          rintro e w6 ⟨v6, rfl, ⟨nb6, hv, hn⟩, hst⟩
          obtain rfl := hv
          unfold nodeV
          have P0' := Lib.hid (P0.out.kept hst.2 (by omega))
          clear P0
          have P0 := P0'
          clear P0'
          have N6 := Lib.hid (hn.from (B := w.heap.size) (by omega))
          clear hn
          have S6 := Lib.hid (S1.out.trans hst)
          have z6 := hst.2.size
          clear hst
          have HQ := Lib.hid hq
          clear hx hq
          have q0 := P0.out.c0
          have f0 := P0.out.f0
          go_wp2_with fail
          refine bodyPost_ret (v := nodeV nb6) (by unfold nodeV; simp [results, Tryz.results117, go_sem, q0]) rfl ?_
          rw [HQ.out]
          exact pass_done H.out S6.out N6.out (by omega) _

end Go.Proofs.YtfbejfoalnhihaaGreatDoor

/-
  CONTRACTS: otherwise, branch of the reader, where calls one step down are as they should be. Nobody but the reader's own block has turned.
-/
namespace Go.Proofs.YtfbejfoalnhihaaGreatDoor
open Go.RowKit

set_option maxRecDepth 100000 in
set_option maxHeartbeats 400000 in
theorem otherwise_any (E : Env) (w : World) (i d : Nat) (n : Nat) (ih : IH E n) (r : Res Tree) (h : RD E w i d) (hr : Hid (runW E.T (P E.T n) (other d) i = some r)) :
    Calls Tryz.prog 144 #[.pointer (some ⟨E.rb, 0, none⟩)] w (Q E w d (VN E w.heap.size) r) := by
  have H := Lib.hid h
  have hr1 := h.lt
  have hf0 := tok_kind
  have hf1 := tok_text
  have hf2 := tok_at
  have S0 := Lib.hid (ST.below (ST.refl h) (b1 w (.cells #[.pointer none] 25)))
  have P0 := Lib.hid (PtrAt.new w none)
  have l0 := P0.out.lt
  clear h
  go_enter Tryz.func144, Tryz.ntmps144
  go_wp2_with fail
  generalize w.alloc (.cells #[.pointer none] 25) = wa at *
  by_cases ht : (E.T i).text = kIf
  · skip
    have h0 := peek_yes hr.out ht
    have HR1 := Lib.hid h0
    clear h0
    refine (is_yes E _ i d ⟨#[105, 102]⟩ S0.out.1 ht).mono ?_
    rintro e w2 ⟨rfl, hb⟩
    have P0' := Lib.hid (P0.out.below hb)
    clear P0
    have P0 := P0'
    clear P0'
    have S2 := Lib.hid (S0.out.below hb)
    have z2 := hb.size
    clear hb
    clear ht
    go_wp2_with fail
    rcases call_cases HR1.out with ⟨j3, er, hx, hq⟩ | ⟨a3, j3, hx, hq⟩
    · exact (ih.branch _ i d _ S2.out.1 hx).mono fun e w' h => by obtain ⟨rfl, hg⟩ := h; exact ⟨rfl, by rw [hq]; exact ⟨rfl, S2.out.2.trans hg⟩⟩
    refine (ih.branch _ i d _ S2.out.1 hx).mono ?_
    rintro e w3 ⟨v3, rfl, ⟨nb3, hv, hn⟩, hst⟩
    obtain rfl := hv
    unfold nodeV
    have P0' := Lib.hid (P0.out.kept hst.2 (by omega))
    clear P0
    have P0 := P0'
    clear P0'
    have N3 := Lib.hid (hn.from (B := w.heap.size) (by omega))
    clear hn
    have S3 := Lib.hid (S2.out.trans hst)
    have z3 := hst.2.size
    clear hst
    have HQ := Lib.hid (run_ret hq)
    clear hx hq
    have q0 := P0.out.c0
    have f0 := P0.out.f0
    go_wp2_with fail
    refine bodyPost_ret (v := nodeV nb3) (by unfold nodeV; simp [results, Tryz.results144, go_sem, q0]) rfl ?_
    rw [HQ.out]
    exact pass_done H.out S3.out N3.out (by omega) _
  · skip
    have HR4 := Lib.hid (peek_no hr.out ht)
    refine (is_no E _ i d ⟨#[105, 102]⟩ S0.out.1 ht).mono ?_
    rintro e w5 ⟨rfl, hb⟩
    have P0' := Lib.hid (P0.out.below hb)
    clear P0
    have P0 := P0'
    clear P0'
    have S5 := Lib.hid (S0.out.below hb)
    have z5 := hb.size
    clear hb
    clear ht
    go_wp2_with fail
    rcases last_cases HR4.out with ⟨j6, er, hx, hq⟩ | ⟨a6, j6, hx, hq⟩
    · exact (block_any E _ i d n ih _ S5.out.1 hx).mono fun e w' h => by obtain ⟨rfl, hg⟩ := h; exact ⟨rfl, by rw [hq]; exact ⟨rfl, S5.out.2.trans hg⟩⟩
    refine (block_any E _ i d n ih _ S5.out.1 hx).mono ?_
    rintro e w6 ⟨v6, rfl, ⟨nb6, hv, hn⟩, hst⟩
    obtain rfl := hv
    unfold nodeV
    have P0' := Lib.hid (P0.out.kept hst.2 (by omega))
    clear P0
    have P0 := P0'
    clear P0'
    have N6 := Lib.hid (hn.from (B := w.heap.size) (by omega))
    clear hn
    have S6 := Lib.hid (S5.out.trans hst)
    have z6 := hst.2.size
    clear hst
    have HQ := Lib.hid hq
    clear hx hq
    have q0 := P0.out.c0
    have f0 := P0.out.f0
    go_wp2_with fail
    refine bodyPost_ret (v := nodeV nb6) (by unfold nodeV; simp [results, Tryz.results144, go_sem, q0]) rfl ?_
    rw [HQ.out]
    exact pass_done H.out S6.out N6.out (by omega) _

set_option maxRecDepth 100000 in
set_option maxHeartbeats 400000 in
theorem branch_any (E : Env) (w : World) (i d : Nat) (n : Nat) (ih : IH E n) (r : Res Tree) (h : RD E w i d) (hr : Hid (runW E.T (P E.T n) (branch d) i = some r)) :
    Calls Tryz.prog 129 #[.pointer (some ⟨E.rb, 0, none⟩)] w (Q E w d (VN E w.heap.size) r) := by
  have H := Lib.hid h
  have hr1 := h.lt
  have hf0 := tok_kind
  have hf1 := tok_text
  have hf2 := tok_at
  have S0 := Lib.hid (ST.below (ST.refl h) (b1 w (.cells #[.pointer none] 25)))
  have P0 := Lib.hid (PtrAt.new w none)
  have l0 := P0.out.lt
  clear h
  go_enter Tryz.func129, Tryz.ntmps129
  go_wp2_with fail
  generalize w.alloc (.cells #[.pointer none] 25) = wa at *
  rcases bind_cases hr.out with ⟨j1, er, hx, hq⟩ | ⟨a1, j1, hx, hq⟩
  · exact (need_any E _ i d ⟨#[105, 102]⟩ (P E.T n) _ S0.out.1 (Lib.hid (by decide)) hx).mono fun e w' h => by obtain ⟨rfl, hg⟩ := h; exact ⟨rfl, by rw [hq]; exact ⟨rfl, S0.out.2.trans hg⟩⟩
  refine (need_any E _ i d ⟨#[105, 102]⟩ (P E.T n) _ S0.out.1 (Lib.hid (by decide)) hx).mono ?_
  rintro e w1 ⟨v1, rfl, hv, hst⟩
  obtain rfl := hv
  unfold tokV
  have P0' := Lib.hid (P0.out.kept hst.2 (by omega))
  clear P0
  have P0 := P0'
  clear P0'
  have S1 := Lib.hid (S0.out.trans hst)
  have z1 := hst.2.size
  clear hst
  have HR1 := Lib.hid hq
  clear hx hq
  go_wp2_with fail
  rcases bind_cases HR1.out with ⟨j2, er, hx, hq⟩ | ⟨a2, j2, hx, hq⟩
  · exact (expr_any E _ j1 d n ih _ S1.out.1 hx).mono fun e w' h => by obtain ⟨rfl, hg⟩ := h; exact ⟨rfl, by rw [hq]; exact ⟨rfl, S1.out.2.trans hg⟩⟩
  refine (expr_any E _ j1 d n ih _ S1.out.1 hx).mono ?_
  rintro e w2 ⟨v2, rfl, ⟨nb2, hv, hn⟩, hst⟩
  obtain rfl := hv
  unfold nodeV
  have P0' := Lib.hid (P0.out.kept hst.2 (by omega))
  clear P0
  have P0 := P0'
  clear P0'
  have N2 := Lib.hid (hn.from (B := w.heap.size) (by omega))
  clear hn
  have S2 := Lib.hid (S1.out.trans hst)
  have z2 := hst.2.size
  clear hst
  have HR2 := Lib.hid hq
  clear hx hq
  go_wp2_with fail
  rcases bind_cases HR2.out with ⟨j3, er, hx, hq⟩ | ⟨a3, j3, hx, hq⟩
  · exact (block_any E _ j2 d n ih _ S2.out.1 hx).mono fun e w' h => by obtain ⟨rfl, hg⟩ := h; exact ⟨rfl, by rw [hq]; exact ⟨rfl, S2.out.2.trans hg⟩⟩
  refine (block_any E _ j2 d n ih _ S2.out.1 hx).mono ?_
  rintro e w3 ⟨v3, rfl, ⟨nb3, hv, hn⟩, hst⟩
  obtain rfl := hv
  unfold nodeV
  have P0' := Lib.hid (P0.out.kept hst.2 (by omega))
  clear P0
  have P0 := P0'
  clear P0'
  have N2' := Lib.hid (N2.out.st hst.2 (by omega))
  clear N2
  have N2 := N2'
  clear N2'
  have N3 := Lib.hid (hn.from (B := w.heap.size) (by omega))
  clear hn
  have S3 := Lib.hid (S2.out.trans hst)
  have z3 := hst.2.size
  clear hst
  have HR3 := Lib.hid hq
  clear hx hq
  have K := Lib.hid (kids_lit2 N2.out N3.out (by omega))
  have P0' := Lib.hid (P0.out.below (b1 w3 (.cells #[.pointer (some ⟨nb2, 0, none⟩), .pointer (some ⟨nb3, 0, none⟩)] 25)))
  clear P0
  have P0 := P0'
  clear P0'
  have N2' := Lib.hid (N2.out.bl (b1 w3 (.cells #[.pointer (some ⟨nb2, 0, none⟩), .pointer (some ⟨nb3, 0, none⟩)] 25)))
  clear N2
  have N2 := N2'
  clear N2'
  have N3' := Lib.hid (N3.out.bl (b1 w3 (.cells #[.pointer (some ⟨nb2, 0, none⟩), .pointer (some ⟨nb3, 0, none⟩)] 25)))
  clear N3
  have N3 := N3'
  clear N3'
  have S4 := Lib.hid (S3.out.below (b1 w3 (.cells #[.pointer (some ⟨nb2, 0, none⟩), .pointer (some ⟨nb3, 0, none⟩)] 25)))
  have z4 := (b1 w3 (.cells #[.pointer (some ⟨nb2, 0, none⟩), .pointer (some ⟨nb3, 0, none⟩)] 25)).size
  have y4 : w3.heap.size < (w3.alloc (.cells #[.pointer (some ⟨nb2, 0, none⟩), .pointer (some ⟨nb3, 0, none⟩)] 25)).heap.size := by simp
  go_wp2_with fail
  generalize w3.alloc (.cells #[.pointer (some ⟨nb2, 0, none⟩), .pointer (some ⟨nb3, 0, none⟩)] 25) = w4 at *
  by_cases ht : (E.T j3).text = kElse
  · skip
    have h0 := peek_yes HR3.out ht
    have HR5 := Lib.hid (run_next h0)
    clear h0
    refine (take_yes E _ j3 d ⟨#[101, 108, 115, 101]⟩ S4.out.1 ht (Lib.hid (by decide))).mono ?_
    rintro e w6 ⟨rfl, hst⟩
    have P0' := Lib.hid (P0.out.kept hst.2 (by omega))
    clear P0
    have P0 := P0'
    clear P0'
    have N2' := Lib.hid (N2.out.st hst.2 (by omega))
    clear N2
    have N2 := N2'
    clear N2'
    have N3' := Lib.hid (N3.out.st hst.2 (by omega))
    clear N3
    have N3 := N3'
    clear N3'
    have K' := Lib.hid (K.out.st hst.2 (by omega))
    clear K
    have K := K'
    clear K'
    have S6 := Lib.hid (S4.out.trans hst)
    have z6 := hst.2.size
    clear hst
    clear ht
    go_wp2_with fail
    have KL := Lib.hid K.out.lt
    rcases bind_cases HR5.out with ⟨j7, er, hx, hq⟩ | ⟨a7, j7, hx, hq⟩
    · exact (otherwise_any E _ (j3 + 1) d n ih _ S6.out.1 hx).mono fun e w' h => by obtain ⟨rfl, hg⟩ := h; exact ⟨rfl, by rw [hq]; exact ⟨rfl, S6.out.2.trans hg⟩⟩
    refine (otherwise_any E _ (j3 + 1) d n ih _ S6.out.1 hx).mono ?_
    rintro e w7 ⟨v7, rfl, ⟨nb7, hv, hn⟩, hst⟩
    obtain rfl := hv
    unfold nodeV
    have P0' := Lib.hid (P0.out.kept hst.2 (by omega))
    clear P0
    have P0 := P0'
    clear P0'
    have N2' := Lib.hid (N2.out.st hst.2 (by omega))
    clear N2
    have N2 := N2'
    clear N2'
    have N3' := Lib.hid (N3.out.st hst.2 (by omega))
    clear N3
    have N3 := N3'
    clear N3'
    have K' := Lib.hid (K.out.st hst.2 (by omega))
    clear K
    have K := K'
    clear K'
    have N7 := Lib.hid (hn.from (B := w.heap.size) (by omega))
    have M7 := Lib.hid hn
    clear hn
    have S7 := Lib.hid (S6.out.trans hst)
    have z7 := hst.2.size
    clear hst
    have HR7 := Lib.hid hq
    clear hx hq
    have HQ : Hid (r = .ok (.mk 10 [] [] 0 a1 [a2, a3, a7]) j7) := (Option.some.inj HR7.out).symm
    have L := Lib.hid (show (w7.alloc (.cells #[.pointer (some ⟨nb7, 0, none⟩)] 25)).cell? ⟨w7.heap.size, 0, none⟩ = some (.pointer (some ⟨nb7, 0, none⟩)) by simp [go_sem])
    have P0' := Lib.hid (P0.out.below (b1 w7 (.cells #[.pointer (some ⟨nb7, 0, none⟩)] 25)))
    clear P0
    have P0 := P0'
    clear P0'
    have N2' := Lib.hid (N2.out.bl (b1 w7 (.cells #[.pointer (some ⟨nb7, 0, none⟩)] 25)))
    clear N2
    have N2 := N2'
    clear N2'
    have N3' := Lib.hid (N3.out.bl (b1 w7 (.cells #[.pointer (some ⟨nb7, 0, none⟩)] 25)))
    clear N3
    have N3 := N3'
    clear N3'
    have K' := Lib.hid (K.out.bl (b1 w7 (.cells #[.pointer (some ⟨nb7, 0, none⟩)] 25)))
    clear K
    have K := K'
    clear K'
    have N7' := Lib.hid (N7.out.bl (b1 w7 (.cells #[.pointer (some ⟨nb7, 0, none⟩)] 25)))
    clear N7
    have N7 := N7'
    clear N7'
    have M7' := Lib.hid (M7.out.bl (b1 w7 (.cells #[.pointer (some ⟨nb7, 0, none⟩)] 25)))
    clear M7
    have M7 := M7'
    clear M7'
    have S8 := Lib.hid (S7.out.below (b1 w7 (.cells #[.pointer (some ⟨nb7, 0, none⟩)] 25)))
    have z8 := (b1 w7 (.cells #[.pointer (some ⟨nb7, 0, none⟩)] 25)).size
    have y8 : w7.heap.size < (w7.alloc (.cells #[.pointer (some ⟨nb7, 0, none⟩)] 25)).heap.size := by simp
    go_wp2_with (at_builtin; refine Hid.out ?_)
    generalize w7.alloc (.cells #[.pointer (some ⟨nb7, 0, none⟩)] 25) = w8 at *
    refine Lib.hid ?_
    refine wpList_append_kid rfl (.tmp 15) (.tmp 18) rfl w.heap.size E.pl _ 2 [a2, a3] rfl K.out nb7 a7 N7.out (fun g hg => M7.out.weak fun x hx _ => ⟨by omega, by have := KL.out g hg; omega⟩) _ rfl L.out (by omega) (by omega) ?_
    intro g9 cap9 w9 hk hg hy
    have P0' := Lib.hid (P0.out.grow hg (fun e => by have := hy _ e; omega))
    clear P0
    have P0 := P0'
    clear P0'
    have S9 := Lib.hid (ST.grow H.out S8.out hg (fun y e => by have := hy y e; omega))
    have z9 := hg.size
    clear K
    have K := Lib.hid hk
    clear hk hg hy
    go_wp2_with fail
    refine (newNode_any _ _ _ _ _ _ _ _ _).mono ?_
    rintro e wz ⟨rfl, hb9, hrow⟩
    have P9 := P0.out.below hb9
    have q0 := P9.c0
    have f0 := P9.f0
    have HB9 := Lib.hid hb9
    have HROW := Lib.hid hrow
    clear hb9 hrow P9
    unfold nodeV
    go_wp2_with fail
    refine bodyPost_ret (v := nodeV w9.heap.size) (by unfold nodeV; simp [results, Tryz.results129, go_sem, q0]) rfl ?_
    rw [HQ.out]
    have hrow := HROW.out
    exact node_done H.out S9.out K.out (by omega) HB9.out hrow (by omega) (by omega) _
  · skip
    have HR10 := Lib.hid (peek_no HR3.out ht)
    have HQ : Hid (r = .ok (.mk 10 [] [] 0 a1 [a2, a3]) j3) := (Option.some.inj HR10.out).symm
    refine (take_no E _ j3 d ⟨#[101, 108, 115, 101]⟩ S4.out.1 ht).mono ?_
    rintro e w11 ⟨rfl, hb⟩
    have P0' := Lib.hid (P0.out.below hb)
    clear P0
    have P0 := P0'
    clear P0'
    have N2' := Lib.hid (N2.out.bl hb)
    clear N2
    have N2 := N2'
    clear N2'
    have N3' := Lib.hid (N3.out.bl hb)
    clear N3
    have N3 := N3'
    clear N3'
    have K' := Lib.hid (K.out.bl hb)
    clear K
    have K := K'
    clear K'
    have S11 := Lib.hid (S4.out.below hb)
    have z11 := hb.size
    clear hb
    clear ht
    go_wp2_with fail
    refine (newNode_any _ _ _ _ _ _ _ _ _).mono ?_
    rintro e wz ⟨rfl, hb9, hrow⟩
    have P9 := P0.out.below hb9
    have q0 := P9.c0
    have f0 := P9.f0
    have HB9 := Lib.hid hb9
    have HROW := Lib.hid hrow
    clear hb9 hrow P9
    unfold nodeV
    go_wp2_with fail
    refine bodyPost_ret (v := nodeV w11.heap.size) (by unfold nodeV; simp [results, Tryz.results129, go_sem, q0]) rfl ?_
    rw [HQ.out]
    have hrow := HROW.out
    exact node_done H.out S11.out K.out (by omega) HB9.out hrow (by omega) (by omega) _

end Go.Proofs.YtfbejfoalnhihaaGreatDoor

/-
  CONTRACT: structure of the reader. Nobody but the reader's own block has turned.
-/
namespace Go.Proofs.YtfbejfoalnhihaaGreatDoor
open Go.RowKit

set_option maxRecDepth 100000 in
set_option maxHeartbeats 400000 in
theorem structure_any (E : Env) (w : World) (i d : Nat) (n : Nat) (_ : IH E n) (r : Res Tree) (h : RD E w i d) (hr : Hid (runW E.T (P E.T n) (structure_) i = some r)) :
    Calls Tryz.prog 73 #[.pointer (some ⟨E.rb, 0, none⟩)] w (Q E w d (VN E w.heap.size) r) := by
  have H := Lib.hid h
  have hr1 := h.lt
  have hf0 := tok_kind
  have hf1 := tok_text
  have hf2 := tok_at
  have S0 := Lib.hid (ST.below (ST.refl h) (b1 w (.cells #[.pointer none] 25)))
  have P0 := Lib.hid (PtrAt.new w none)
  have l0 := P0.out.lt
  clear h
  go_enter Tryz.func73, Tryz.ntmps73
  go_wp2_with fail
  generalize w.alloc (.cells #[.pointer none] 25) = wa at *
  have hz := H.out.zle
  rcases bind_cases hr.out with ⟨j1, er, hx, hq⟩ | ⟨a1, j1, hx, hq⟩
  · exact (word_any E _ i d (P E.T n) _ S0.out.1 hx).mono fun e w' h => by obtain ⟨rfl, hg⟩ := h; exact ⟨rfl, by rw [hq]; exact ⟨rfl, S0.out.2.trans hg⟩⟩
  refine (word_any E _ i d (P E.T n) _ S0.out.1 hx).mono ?_
  rintro e w1 ⟨v1, rfl, ⟨hv, htx⟩, hst⟩
  obtain rfl := hv
  unfold tokV
  have P0' := Lib.hid (P0.out.kept hst.2 (by omega))
  clear P0
  have P0 := P0'
  clear P0'
  have X1 := Lib.hid htx
  clear htx
  have S1 := Lib.hid (S0.out.trans hst)
  have z1 := hst.2.size
  clear hst
  have HR1 := Lib.hid hq
  clear hx hq
  have T := Lib.hid (TokAt.new w1 (E.T a1.1).kind ⟨(E.T a1.1).text.toArray⟩ (E.pl a1.1))
  have P0' := Lib.hid (P0.out.below (b1 w1 (.cells #[.int .i64 (E.T a1.1).kind, .string ⟨(E.T a1.1).text.toArray⟩, .int .i64 (E.pl a1.1)] 46)))
  clear P0
  have P0 := P0'
  clear P0'
  have S2 := Lib.hid (S1.out.below (b1 w1 (.cells #[.int .i64 (E.T a1.1).kind, .string ⟨(E.T a1.1).text.toArray⟩, .int .i64 (E.pl a1.1)] 46)))
  have z2 := (b1 w1 (.cells #[.int .i64 (E.T a1.1).kind, .string ⟨(E.T a1.1).text.toArray⟩, .int .i64 (E.pl a1.1)] 46)).size
  have y2 : w1.heap.size < (w1.alloc (.cells #[.int .i64 (E.T a1.1).kind, .string ⟨(E.T a1.1).text.toArray⟩, .int .i64 (E.pl a1.1)] 46)).heap.size := by simp
  go_wp2_with fail
  generalize w1.alloc (.cells #[.int .i64 (E.T a1.1).kind, .string ⟨(E.T a1.1).text.toArray⟩, .int .i64 (E.pl a1.1)] 46) = w2 at *
  rcases bind_cases HR1.out with ⟨j3, er, hx, hq⟩ | ⟨a3, j3, hx, hq⟩
  · exact (need_any E _ j1 d ⟨#[115, 116, 114, 117, 99, 116]⟩ (P E.T n) _ S2.out.1 (Lib.hid (by decide)) hx).mono fun e w' h => by obtain ⟨rfl, hg⟩ := h; exact ⟨rfl, by rw [hq]; exact ⟨rfl, S2.out.2.trans hg⟩⟩
  refine (need_any E _ j1 d ⟨#[115, 116, 114, 117, 99, 116]⟩ (P E.T n) _ S2.out.1 (Lib.hid (by decide)) hx).mono ?_
  rintro e w3 ⟨v3, rfl, -, hst⟩
  have P0' := Lib.hid (P0.out.kept hst.2 (by omega))
  clear P0
  have P0 := P0'
  clear P0'
  have T' := Lib.hid (T.out.kept hst.2 (by omega))
  clear T
  have T := T'
  clear T'
  have S3 := Lib.hid (S2.out.trans hst)
  have z3 := hst.2.size
  clear hst
  have HR3 := Lib.hid hq
  clear hx hq
  go_wp2_with fail
  rcases bind_cases HR3.out with ⟨j4, er, hx, hq⟩ | ⟨a4, j4, hx, hq⟩
  · exact (need_any E _ j3 d ⟨#[123]⟩ (P E.T n) _ S3.out.1 (Lib.hid (by decide)) hx).mono fun e w' h => by obtain ⟨rfl, hg⟩ := h; exact ⟨rfl, by rw [hq]; exact ⟨rfl, S3.out.2.trans hg⟩⟩
  refine (need_any E _ j3 d ⟨#[123]⟩ (P E.T n) _ S3.out.1 (Lib.hid (by decide)) hx).mono ?_
  rintro e w4 ⟨v4, rfl, -, hst⟩
  have P0' := Lib.hid (P0.out.kept hst.2 (by omega))
  clear P0
  have P0 := P0'
  clear P0'
  have T' := Lib.hid (T.out.kept hst.2 (by omega))
  clear T
  have T := T'
  clear T'
  have S4 := Lib.hid (S3.out.trans hst)
  have z4 := hst.2.size
  clear hst
  have HR4 := Lib.hid hq
  clear hx hq
  obtain ⟨rs, hrs, hbad, hok⟩ := call_some HR4.out
  have HRS := Lib.hid hrs
  have HBAD := Lib.hid hbad
  have HOK := Lib.hid hok
  clear hrs hbad hok
  go_wp2_with fail
  go_loopw [4] (fun v wr => KRelT E n w w1.heap.size .parts 0 d (E.T a1.1).kind ⟨(E.T a1.1).text.toArray⟩ (E.pl a1.1) rs v wr) (fun _ wr => E.z - nx E wr)
  case atStart => exact ⟨n, 0, j4, [], rs, Nat.le_refl _, Nat.zero_le _, by omega, HRS, Lib.hid (preR_nil rs).symm, KidsIn.nil _ _ _, S4, P0, T⟩
  case round =>
    obtain ⟨m, k, iq, ts, rq, hm, hk, hB, HP, HE, K, S, P0, T⟩ := hrel
    obtain ⟨m, rfl, hp⟩ := P_pos HP.out
    have HR := Lib.hid hp
    clear hp HP
    have hiz := S.out.1.ile
    have hnx := S.out.1.at_nx
    have HNX := Lib.hid hnx
    clear hnx
    by_cases ht : (E.T iq).text = cRC
    · skip
      have h0 := peek_yes HR.out ht
      have HR5 := Lib.hid (run_next h0)
      clear h0
      have hq := run_ret HR5.out
      have hrs : rs = .ok ts (iq + 1) := by rw [HE.out, hq]; simp [preR]
      have HQ : Hid (r = .ok (.mk 2 a1.2 [] 0 a1.1 ts) (iq + 1)) := run_ret (HOK.out _ _ hrs)
      clear hq hrs
      go_wp2_with fail
      refine (take_yes E _ iq d ⟨#[125]⟩ S.out.1 ht (Lib.hid (by decide))).mono ?_
      rintro e w6 ⟨rfl, hst⟩
      have K' := Lib.hid (K.out.st hst.2 (by omega))
      clear K
      have K := K'
      clear K'
      have P0' := Lib.hid (P0.out.kept hst.2 (by omega))
      clear P0
      have P0 := P0'
      clear P0'
      have T' := Lib.hid (T.out.kept hst.2 (by omega))
      clear T
      have T := T'
      clear T'
      have S6 := Lib.hid (S.out.trans hst)
      have z6 := hst.2.size
      clear hst
      clear ht
      obtain ⟨Ak, ck, hvk, -, -⟩ := K.out.slice
      subst hvk
      have T0 := T.out.c0
      have T1 := T.out.c1
      have T2 := T.out.c2
      go_wp2_with fail
      refine (newNode_any _ _ _ _ _ _ _ _ _).mono ?_
      rintro e wz ⟨rfl, hb9, hrow⟩
      have P9 := P0.out.below hb9
      have q0 := P9.c0
      have f0 := P9.f0
      have HB9 := Lib.hid hb9
      have HROW := Lib.hid hrow
      clear hb9 hrow P9
      unfold nodeV
      go_wp2_with fail
      refine bodyPost_ret (v := nodeV w6.heap.size) (by unfold nodeV; simp [results, Tryz.results73, go_sem, q0]) rfl ?_
      rw [HQ.out]
      have hrow := HROW.out
      rw [X1.out] at hrow
      exact node_done H.out S6.out K.out (by omega) HB9.out hrow (by omega) (by omega) _
    · skip
      have HR7 := Lib.hid (peek_no HR.out ht)
      go_wp2_with fail
      refine (take_no E _ iq d ⟨#[125]⟩ S.out.1 ht).mono ?_
      rintro e w8 ⟨rfl, hb⟩
      have K' := Lib.hid (K.out.bl hb)
      clear K
      have K := K'
      clear K'
      have P0' := Lib.hid (P0.out.below hb)
      clear P0
      have P0 := P0'
      clear P0'
      have T' := Lib.hid (T.out.below hb)
      clear T
      have T := T'
      clear T'
      have S8 := Lib.hid (S.out.below hb)
      have z8 := hb.size
      clear hb
      clear ht
      go_wp2_with fail
      have KL := Lib.hid K.out.lt
      rcases bind_cases HR7.out with ⟨j9, er, hx, hq⟩ | ⟨a9, j9, hx, hq⟩
      · exact (named_any E _ iq d (P E.T m) 5 (by omega) _ S8.out.1 hx).mono fun e w' h => by obtain ⟨rfl, hg⟩ := h; exact ⟨rfl, by rw [HBAD.out j9 er (by rw [HE.out, hq]; rfl)]; exact ⟨rfl, S8.out.2.trans hg⟩⟩
      have hpr := tot_prog (tot_named S8.out.1.sent 5 _) hx
      refine (named_any E _ iq d (P E.T m) 5 (by omega) _ S8.out.1 hx).mono ?_
      rintro e w9 ⟨v9, rfl, ⟨nb9, hv, hn⟩, hst⟩
      obtain rfl := hv
      unfold nodeV
      have K' := Lib.hid (K.out.st hst.2 (by omega))
      clear K
      have K := K'
      clear K'
      have P0' := Lib.hid (P0.out.kept hst.2 (by omega))
      clear P0
      have P0 := P0'
      clear P0'
      have T' := Lib.hid (T.out.kept hst.2 (by omega))
      clear T
      have T := T'
      clear T'
      have N9 := Lib.hid (hn.from (B := w1.heap.size) (by omega))
      have M9 := Lib.hid hn
      clear hn
      have S9 := Lib.hid (S8.out.trans hst)
      have z9 := hst.2.size
      clear hst
      rcases call_cases hq with ⟨jz, er, hy, hq2⟩ | ⟨az, jz, hy, hq2⟩
      · skip
        have HP : Hid (P E.T m .parts 0 j9 = some (.bad jz er)) := hy
        have HE2 : Hid (rs = preR (ts ++ [a9]) (.bad jz er)) := by show _ = _; rw [HE.out, hq2]; rfl
        clear hx hq hy hq2
        have L := Lib.hid (show (w9.alloc (.cells #[.pointer (some ⟨nb9, 0, none⟩)] 25)).cell? ⟨w9.heap.size, 0, none⟩ = some (.pointer (some ⟨nb9, 0, none⟩)) by simp [go_sem])
        have K' := Lib.hid (K.out.bl (b1 w9 (.cells #[.pointer (some ⟨nb9, 0, none⟩)] 25)))
        clear K
        have K := K'
        clear K'
        have P0' := Lib.hid (P0.out.below (b1 w9 (.cells #[.pointer (some ⟨nb9, 0, none⟩)] 25)))
        clear P0
        have P0 := P0'
        clear P0'
        have T' := Lib.hid (T.out.below (b1 w9 (.cells #[.pointer (some ⟨nb9, 0, none⟩)] 25)))
        clear T
        have T := T'
        clear T'
        have N9' := Lib.hid (N9.out.bl (b1 w9 (.cells #[.pointer (some ⟨nb9, 0, none⟩)] 25)))
        clear N9
        have N9 := N9'
        clear N9'
        have M9' := Lib.hid (M9.out.bl (b1 w9 (.cells #[.pointer (some ⟨nb9, 0, none⟩)] 25)))
        clear M9
        have M9 := M9'
        clear M9'
        have S10 := Lib.hid (S9.out.below (b1 w9 (.cells #[.pointer (some ⟨nb9, 0, none⟩)] 25)))
        have z10 := (b1 w9 (.cells #[.pointer (some ⟨nb9, 0, none⟩)] 25)).size
        have y10 : w9.heap.size < (w9.alloc (.cells #[.pointer (some ⟨nb9, 0, none⟩)] 25)).heap.size := by simp
        go_wp2_with (at_builtin; refine Hid.out ?_)
        generalize w9.alloc (.cells #[.pointer (some ⟨nb9, 0, none⟩)] 25) = w10 at *
        refine Lib.hid ?_
        refine wpList_append_kid rfl (.tmp 14) (.tmp 17) rfl w1.heap.size E.pl _ k ts rfl K.out nb9 a9 N9.out (fun g hg => M9.out.weak fun x hx _ => ⟨by omega, by have := KL.out g hg; omega⟩) _ rfl L.out (by omega) (by omega) ?_
        intro g11 cap11 w11 hk hg hy
        have P0' := Lib.hid (P0.out.grow hg (fun e => by have := hy _ e; omega))
        clear P0
        have P0 := P0'
        clear P0'
        have T' := Lib.hid (T.out.grow hg (fun e => by have := hy _ e; omega))
        clear T
        have T := T'
        clear T'
        have S11 := Lib.hid (ST.grow H.out S10.out hg (fun y e => by have := hy y e; omega))
        have z11 := hg.size
        clear K
        have K := Lib.hid hk
        clear hk hg hy
        have hnx2 := S11.out.1.at_nx
        have HNX2 := Lib.hid hnx2
        clear hnx2
        go_wp2_with fail
        go_roundw
        case rel => exact ⟨m, k + 1, _, _, _, by omega, by omega, by omega, HP, HE2, K, S11, P0, T⟩
        case measure => rw [HNX.out, HNX2.out]; omega
      · skip
        have HP : Hid (P E.T m .parts 0 j9 = some (.ok az jz)) := hy
        have HE2 : Hid (rs = preR (ts ++ [a9]) (.ok az jz)) := by show _ = _; rw [HE.out, run_ret hq2]; simp [preR]
        clear hx hq hy hq2
        have L := Lib.hid (show (w9.alloc (.cells #[.pointer (some ⟨nb9, 0, none⟩)] 25)).cell? ⟨w9.heap.size, 0, none⟩ = some (.pointer (some ⟨nb9, 0, none⟩)) by simp [go_sem])
        have K' := Lib.hid (K.out.bl (b1 w9 (.cells #[.pointer (some ⟨nb9, 0, none⟩)] 25)))
        clear K
        have K := K'
        clear K'
        have P0' := Lib.hid (P0.out.below (b1 w9 (.cells #[.pointer (some ⟨nb9, 0, none⟩)] 25)))
        clear P0
        have P0 := P0'
        clear P0'
        have T' := Lib.hid (T.out.below (b1 w9 (.cells #[.pointer (some ⟨nb9, 0, none⟩)] 25)))
        clear T
        have T := T'
        clear T'
        have N9' := Lib.hid (N9.out.bl (b1 w9 (.cells #[.pointer (some ⟨nb9, 0, none⟩)] 25)))
        clear N9
        have N9 := N9'
        clear N9'
        have M9' := Lib.hid (M9.out.bl (b1 w9 (.cells #[.pointer (some ⟨nb9, 0, none⟩)] 25)))
        clear M9
        have M9 := M9'
        clear M9'
        have S12 := Lib.hid (S9.out.below (b1 w9 (.cells #[.pointer (some ⟨nb9, 0, none⟩)] 25)))
        have z12 := (b1 w9 (.cells #[.pointer (some ⟨nb9, 0, none⟩)] 25)).size
        have y12 : w9.heap.size < (w9.alloc (.cells #[.pointer (some ⟨nb9, 0, none⟩)] 25)).heap.size := by simp
        go_wp2_with (at_builtin; refine Hid.out ?_)
        generalize w9.alloc (.cells #[.pointer (some ⟨nb9, 0, none⟩)] 25) = w12 at *
        refine Lib.hid ?_
        refine wpList_append_kid rfl (.tmp 14) (.tmp 17) rfl w1.heap.size E.pl _ k ts rfl K.out nb9 a9 N9.out (fun g hg => M9.out.weak fun x hx _ => ⟨by omega, by have := KL.out g hg; omega⟩) _ rfl L.out (by omega) (by omega) ?_
        intro g13 cap13 w13 hk hg hy
        have P0' := Lib.hid (P0.out.grow hg (fun e => by have := hy _ e; omega))
        clear P0
        have P0 := P0'
        clear P0'
        have T' := Lib.hid (T.out.grow hg (fun e => by have := hy _ e; omega))
        clear T
        have T := T'
        clear T'
        have S13 := Lib.hid (ST.grow H.out S12.out hg (fun y e => by have := hy y e; omega))
        have z13 := hg.size
        clear K
        have K := Lib.hid hk
        clear hk hg hy
        have hnx2 := S13.out.1.at_nx
        have HNX2 := Lib.hid hnx2
        clear hnx2
        go_wp2_with fail
        go_roundw
        case rel => exact ⟨m, k + 1, _, _, _, by omega, by omega, by omega, HP, HE2, K, S13, P0, T⟩
        case measure => rw [HNX.out, HNX2.out]; omega

end Go.Proofs.YtfbejfoalnhihaaGreatDoor

/-
  CONTRACT: function of the reader, where calls one step down are as they should be. Nobody but the reader's own block has turned.
-/
namespace Go.Proofs.YtfbejfoalnhihaaGreatDoor
open Go.RowKit

set_option maxRecDepth 100000 in
set_option maxHeartbeats 400000 in
theorem function_any (E : Env) (w : World) (i d : Nat) (n : Nat) (ih : IH E n) (r : Res Tree) (h : RD E w i d) (hr : Hid (runW E.T (P E.T n) (function d) i = some r)) :
    Calls Tryz.prog 75 #[.pointer (some ⟨E.rb, 0, none⟩)] w (Q E w d (VN E w.heap.size) r) := by
  have H := Lib.hid h
  have hr1 := h.lt
  have hf0 := tok_kind
  have hf1 := tok_text
  have hf2 := tok_at
  have S0 := Lib.hid (ST.below (ST.refl h) (b1 w (.cells #[.pointer none] 25)))
  have P0 := Lib.hid (PtrAt.new w none)
  have l0 := P0.out.lt
  clear h
  go_enter Tryz.func75, Tryz.ntmps75
  go_wp2_with fail
  generalize w.alloc (.cells #[.pointer none] 25) = wa at *
  rcases bind_cases hr.out with ⟨j1, er, hx, hq⟩ | ⟨a1, j1, hx, hq⟩
  · exact (word_any E _ i d (P E.T n) _ S0.out.1 hx).mono fun e w' h => by obtain ⟨rfl, hg⟩ := h; exact ⟨rfl, by rw [hq]; exact ⟨rfl, S0.out.2.trans hg⟩⟩
  refine (word_any E _ i d (P E.T n) _ S0.out.1 hx).mono ?_
  rintro e w1 ⟨v1, rfl, ⟨hv, htx⟩, hst⟩
  obtain rfl := hv
  unfold tokV
  have P0' := Lib.hid (P0.out.kept hst.2 (by omega))
  clear P0
  have P0 := P0'
  clear P0'
  have X1 := Lib.hid htx
  clear htx
  have S1 := Lib.hid (S0.out.trans hst)
  have z1 := hst.2.size
  clear hst
  have HR1 := Lib.hid hq
  clear hx hq
  have T := Lib.hid (TokAt.new w1 (E.T a1.1).kind ⟨(E.T a1.1).text.toArray⟩ (E.pl a1.1))
  have P0' := Lib.hid (P0.out.below (b1 w1 (.cells #[.int .i64 (E.T a1.1).kind, .string ⟨(E.T a1.1).text.toArray⟩, .int .i64 (E.pl a1.1)] 46)))
  clear P0
  have P0 := P0'
  clear P0'
  have S2 := Lib.hid (S1.out.below (b1 w1 (.cells #[.int .i64 (E.T a1.1).kind, .string ⟨(E.T a1.1).text.toArray⟩, .int .i64 (E.pl a1.1)] 46)))
  have z2 := (b1 w1 (.cells #[.int .i64 (E.T a1.1).kind, .string ⟨(E.T a1.1).text.toArray⟩, .int .i64 (E.pl a1.1)] 46)).size
  have y2 : w1.heap.size < (w1.alloc (.cells #[.int .i64 (E.T a1.1).kind, .string ⟨(E.T a1.1).text.toArray⟩, .int .i64 (E.pl a1.1)] 46)).heap.size := by simp
  go_wp2_with fail
  generalize w1.alloc (.cells #[.int .i64 (E.T a1.1).kind, .string ⟨(E.T a1.1).text.toArray⟩, .int .i64 (E.pl a1.1)] 46) = w2 at *
  rcases bind_cases HR1.out with ⟨j3, er, hx, hq⟩ | ⟨a3, j3, hx, hq⟩
  · exact (parts_any E _ j1 d n ih _ S2.out.1 hx).mono fun e w' h => by obtain ⟨rfl, hg⟩ := h; exact ⟨rfl, by rw [hq]; exact ⟨rfl, S2.out.2.trans hg⟩⟩
  refine (parts_any E _ j1 d n ih _ S2.out.1 hx).mono ?_
  rintro e w3 ⟨v3, rfl, ⟨hkl, hk⟩, hst⟩
  have P0' := Lib.hid (P0.out.kept hst.2 (by omega))
  clear P0
  have P0 := P0'
  clear P0'
  have T' := Lib.hid (T.out.kept hst.2 (by omega))
  clear T
  have T := T'
  clear T'
  have K3 := Lib.hid (hk.from (B := w1.heap.size) (by omega))
  clear hk
  have S3 := Lib.hid (S2.out.trans hst)
  have z3 := hst.2.size
  clear hst
  have HR3 := Lib.hid hq
  clear hx hq
  go_wp2_with fail
  by_cases ht : (E.T j3).text = cLC
  · skip
    rcases bind_cases HR3.out with ⟨j9, er, hx, hq⟩ | ⟨a9, j9, hx, hq⟩
    · exact absurd (run_ret (peek_yes hx ht)) (by simp)
    have e9 := run_ret (peek_yes hx ht)
    injection e9 with e1 e2
    subst e1
    subst e2
    have HR9 := Lib.hid hq
    clear hx hq
    refine (is_yes E _ j9 d ⟨#[123]⟩ S3.out.1 ht).mono ?_
    rintro e w4 ⟨rfl, hb⟩
    have P0' := Lib.hid (P0.out.below hb)
    clear P0
    have P0 := P0'
    clear P0'
    have T' := Lib.hid (T.out.below hb)
    clear T
    have T := T'
    clear T'
    have K3' := Lib.hid (K3.out.bl hb)
    clear K3
    have K3 := K3'
    clear K3'
    have S4 := Lib.hid (S3.out.below hb)
    have z4 := hb.size
    clear hb
    clear ht
    go_wp2_with fail
    have KL := Lib.hid K3.out.lt
    rcases bind_cases HR9.out with ⟨j5, er, hx, hq⟩ | ⟨a5, j5, hx, hq⟩
    · exact (block_any E _ j9 d n ih _ S4.out.1 hx).mono fun e w' h => by obtain ⟨rfl, hg⟩ := h; exact ⟨rfl, by rw [hq]; exact ⟨rfl, S4.out.2.trans hg⟩⟩
    refine (block_any E _ j9 d n ih _ S4.out.1 hx).mono ?_
    rintro e w5 ⟨v5, rfl, ⟨nb5, hv, hn⟩, hst⟩
    obtain rfl := hv
    unfold nodeV
    have P0' := Lib.hid (P0.out.kept hst.2 (by omega))
    clear P0
    have P0 := P0'
    clear P0'
    have T' := Lib.hid (T.out.kept hst.2 (by omega))
    clear T
    have T := T'
    clear T'
    have K3' := Lib.hid (K3.out.st hst.2 (by omega))
    clear K3
    have K3 := K3'
    clear K3'
    have N5 := Lib.hid (hn.from (B := w1.heap.size) (by omega))
    have M5 := Lib.hid hn
    clear hn
    have S5 := Lib.hid (S4.out.trans hst)
    have z5 := hst.2.size
    clear hst
    have HR5 := Lib.hid hq
    clear hx hq
    have HQ : Hid (r = .ok (.mk 4 a1.2 [] 0 a1.1 (a3 ++ [a5])) j5) := (Option.some.inj HR5.out).symm
    have L := Lib.hid (show (w5.alloc (.cells #[.pointer (some ⟨nb5, 0, none⟩)] 25)).cell? ⟨w5.heap.size, 0, none⟩ = some (.pointer (some ⟨nb5, 0, none⟩)) by simp [go_sem])
    have P0' := Lib.hid (P0.out.below (b1 w5 (.cells #[.pointer (some ⟨nb5, 0, none⟩)] 25)))
    clear P0
    have P0 := P0'
    clear P0'
    have T' := Lib.hid (T.out.below (b1 w5 (.cells #[.pointer (some ⟨nb5, 0, none⟩)] 25)))
    clear T
    have T := T'
    clear T'
    have K3' := Lib.hid (K3.out.bl (b1 w5 (.cells #[.pointer (some ⟨nb5, 0, none⟩)] 25)))
    clear K3
    have K3 := K3'
    clear K3'
    have N5' := Lib.hid (N5.out.bl (b1 w5 (.cells #[.pointer (some ⟨nb5, 0, none⟩)] 25)))
    clear N5
    have N5 := N5'
    clear N5'
    have M5' := Lib.hid (M5.out.bl (b1 w5 (.cells #[.pointer (some ⟨nb5, 0, none⟩)] 25)))
    clear M5
    have M5 := M5'
    clear M5'
    have S6 := Lib.hid (S5.out.below (b1 w5 (.cells #[.pointer (some ⟨nb5, 0, none⟩)] 25)))
    have z6 := (b1 w5 (.cells #[.pointer (some ⟨nb5, 0, none⟩)] 25)).size
    have y6 : w5.heap.size < (w5.alloc (.cells #[.pointer (some ⟨nb5, 0, none⟩)] 25)).heap.size := by simp
    go_wp2_with (at_builtin; refine Hid.out ?_)
    generalize w5.alloc (.cells #[.pointer (some ⟨nb5, 0, none⟩)] 25) = w6 at *
    refine Lib.hid ?_
    refine wpList_append_kid rfl (.tmp 15) (.tmp 18) rfl w1.heap.size E.pl _ a3.length a3 rfl K3.out nb5 a5 N5.out (fun g hg => M5.out.weak fun x hx _ => ⟨by omega, by have := KL.out g hg; omega⟩) _ rfl L.out (by omega) (by omega) ?_
    intro g7 cap7 w7 hk hg hy
    have P0' := Lib.hid (P0.out.grow hg (fun e => by have := hy _ e; omega))
    clear P0
    have P0 := P0'
    clear P0'
    have T' := Lib.hid (T.out.grow hg (fun e => by have := hy _ e; omega))
    clear T
    have T := T'
    clear T'
    have S7 := Lib.hid (ST.grow H.out S6.out hg (fun y e => by have := hy y e; omega))
    have z7 := hg.size
    clear K3
    have K3 := Lib.hid hk
    clear hk hg hy
    have T0 := T.out.c0
    have T1 := T.out.c1
    have T2 := T.out.c2
    go_wp2_with fail
    refine (newNode_any _ _ _ _ _ _ _ _ _).mono ?_
    rintro e wz ⟨rfl, hb9, hrow⟩
    have P9 := P0.out.below hb9
    have q0 := P9.c0
    have f0 := P9.f0
    have HB9 := Lib.hid hb9
    have HROW := Lib.hid hrow
    clear hb9 hrow P9
    unfold nodeV
    go_wp2_with fail
    refine bodyPost_ret (v := nodeV w7.heap.size) (by unfold nodeV; simp [results, Tryz.results75, go_sem, q0]) rfl ?_
    rw [HQ.out]
    have hrow := HROW.out
    rw [X1.out] at hrow
    exact node_done H.out S7.out K3.out (by omega) HB9.out hrow (by omega) (by omega) _
  · skip
    refine (is_no E _ j3 d ⟨#[123]⟩ S3.out.1 ht).mono ?_
    rintro e w8 ⟨rfl, hb⟩
    have P0' := Lib.hid (P0.out.below hb)
    clear P0
    have P0 := P0'
    clear P0'
    have T' := Lib.hid (T.out.below hb)
    clear T
    have T := T'
    clear T'
    have K3' := Lib.hid (K3.out.bl hb)
    clear K3
    have K3 := K3'
    clear K3'
    have S8 := Lib.hid (S3.out.below hb)
    have z8 := hb.size
    clear hb
    go_wp2_with fail
    rcases bind_cases HR3.out with ⟨j9, er, hx9, hq⟩ | ⟨a9, j9, hx9, hq⟩
    all_goals have hx := peek_no hx9 ht
    all_goals clear hx9 ht
    · exact (typeText_any E _ j3 d (P E.T n) _ S8.out.1 hx).mono fun e w' h => by obtain ⟨rfl, hg⟩ := h; exact ⟨rfl, by rw [hq]; exact ⟨rfl, S8.out.2.trans hg⟩⟩
    refine (typeText_any E _ j3 d (P E.T n) _ S8.out.1 hx).mono ?_
    rintro e w9 ⟨v9, rfl, hv, hst⟩
    obtain rfl := hv
    have P0' := Lib.hid (P0.out.kept hst.2 (by omega))
    clear P0
    have P0 := P0'
    clear P0'
    have T' := Lib.hid (T.out.kept hst.2 (by omega))
    clear T
    have T := T'
    clear T'
    have K3' := Lib.hid (K3.out.st hst.2 (by omega))
    clear K3
    have K3 := K3'
    clear K3'
    have S9 := Lib.hid (S8.out.trans hst)
    have z9 := hst.2.size
    clear hst
    have HR9 := Lib.hid hq
    clear hx hq
    go_wp2_with fail
    have KL := Lib.hid K3.out.lt
    rcases bind_cases HR9.out with ⟨j10, er, hx, hq⟩ | ⟨a10, j10, hx, hq⟩
    · exact (block_any E _ j9 d n ih _ S9.out.1 hx).mono fun e w' h => by obtain ⟨rfl, hg⟩ := h; exact ⟨rfl, by rw [hq]; exact ⟨rfl, S9.out.2.trans hg⟩⟩
    refine (block_any E _ j9 d n ih _ S9.out.1 hx).mono ?_
    rintro e w10 ⟨v10, rfl, ⟨nb10, hv, hn⟩, hst⟩
    obtain rfl := hv
    unfold nodeV
    have P0' := Lib.hid (P0.out.kept hst.2 (by omega))
    clear P0
    have P0 := P0'
    clear P0'
    have T' := Lib.hid (T.out.kept hst.2 (by omega))
    clear T
    have T := T'
    clear T'
    have K3' := Lib.hid (K3.out.st hst.2 (by omega))
    clear K3
    have K3 := K3'
    clear K3'
    have N10 := Lib.hid (hn.from (B := w1.heap.size) (by omega))
    have M10 := Lib.hid hn
    clear hn
    have S10 := Lib.hid (S9.out.trans hst)
    have z10 := hst.2.size
    clear hst
    have HR10 := Lib.hid hq
    clear hx hq
    have HQ : Hid (r = .ok (.mk 4 a1.2 a9 0 a1.1 (a3 ++ [a10])) j10) := (Option.some.inj HR10.out).symm
    have L := Lib.hid (show (w10.alloc (.cells #[.pointer (some ⟨nb10, 0, none⟩)] 25)).cell? ⟨w10.heap.size, 0, none⟩ = some (.pointer (some ⟨nb10, 0, none⟩)) by simp [go_sem])
    have P0' := Lib.hid (P0.out.below (b1 w10 (.cells #[.pointer (some ⟨nb10, 0, none⟩)] 25)))
    clear P0
    have P0 := P0'
    clear P0'
    have T' := Lib.hid (T.out.below (b1 w10 (.cells #[.pointer (some ⟨nb10, 0, none⟩)] 25)))
    clear T
    have T := T'
    clear T'
    have K3' := Lib.hid (K3.out.bl (b1 w10 (.cells #[.pointer (some ⟨nb10, 0, none⟩)] 25)))
    clear K3
    have K3 := K3'
    clear K3'
    have N10' := Lib.hid (N10.out.bl (b1 w10 (.cells #[.pointer (some ⟨nb10, 0, none⟩)] 25)))
    clear N10
    have N10 := N10'
    clear N10'
    have M10' := Lib.hid (M10.out.bl (b1 w10 (.cells #[.pointer (some ⟨nb10, 0, none⟩)] 25)))
    clear M10
    have M10 := M10'
    clear M10'
    have S11 := Lib.hid (S10.out.below (b1 w10 (.cells #[.pointer (some ⟨nb10, 0, none⟩)] 25)))
    have z11 := (b1 w10 (.cells #[.pointer (some ⟨nb10, 0, none⟩)] 25)).size
    have y11 : w10.heap.size < (w10.alloc (.cells #[.pointer (some ⟨nb10, 0, none⟩)] 25)).heap.size := by simp
    go_wp2_with (at_builtin; refine Hid.out ?_)
    generalize w10.alloc (.cells #[.pointer (some ⟨nb10, 0, none⟩)] 25) = w11 at *
    refine Lib.hid ?_
    refine wpList_append_kid rfl (.tmp 15) (.tmp 18) rfl w1.heap.size E.pl _ a3.length a3 rfl K3.out nb10 a10 N10.out (fun g hg => M10.out.weak fun x hx _ => ⟨by omega, by have := KL.out g hg; omega⟩) _ rfl L.out (by omega) (by omega) ?_
    intro g12 cap12 w12 hk hg hy
    have P0' := Lib.hid (P0.out.grow hg (fun e => by have := hy _ e; omega))
    clear P0
    have P0 := P0'
    clear P0'
    have T' := Lib.hid (T.out.grow hg (fun e => by have := hy _ e; omega))
    clear T
    have T := T'
    clear T'
    have S12 := Lib.hid (ST.grow H.out S11.out hg (fun y e => by have := hy y e; omega))
    have z12 := hg.size
    clear K3
    have K3 := Lib.hid hk
    clear hk hg hy
    have T0 := T.out.c0
    have T1 := T.out.c1
    have T2 := T.out.c2
    go_wp2_with fail
    refine (newNode_any _ _ _ _ _ _ _ _ _).mono ?_
    rintro e wz ⟨rfl, hb9, hrow⟩
    have P9 := P0.out.below hb9
    have q0 := P9.c0
    have f0 := P9.f0
    have HB9 := Lib.hid hb9
    have HROW := Lib.hid hrow
    clear hb9 hrow P9
    unfold nodeV
    go_wp2_with fail
    refine bodyPost_ret (v := nodeV w12.heap.size) (by unfold nodeV; simp [results, Tryz.results75, go_sem, q0]) rfl ?_
    rw [HQ.out]
    have hrow := HROW.out
    rw [X1.out] at hrow
    exact node_done H.out S12.out K3.out (by omega) HB9.out hrow (by omega) (by omega) _

end Go.Proofs.YtfbejfoalnhihaaGreatDoor

/-
  CONTRACT: declaration of the reader, where calls one step down are as they should be. Nobody but the reader's own block has turned.
-/
namespace Go.Proofs.YtfbejfoalnhihaaGreatDoor
open Go.RowKit

set_option maxRecDepth 100000 in
set_option maxHeartbeats 400000 in
theorem declaration_any (E : Env) (w : World) (i d : Nat) (n : Nat) (ih : IH E n) (r : Res Tree) (h : RD E w i d) (hr : Hid (runW E.T (P E.T n) (decl d) i = some r)) :
    Calls Tryz.prog 41 #[.pointer (some ⟨E.rb, 0, none⟩)] w (Q E w d (VN E w.heap.size) r) := by
  have H := Lib.hid h
  have hr1 := h.lt
  have hf0 := tok_kind
  have hf1 := tok_text
  have hf2 := tok_at
  have S0 := Lib.hid (ST.below (ST.refl h) (b1 w (.cells #[.pointer none] 25)))
  have P0 := Lib.hid (PtrAt.new w none)
  have l0 := P0.out.lt
  clear h
  go_enter Tryz.func41, Tryz.ntmps41
  go_wp2_with fail
  generalize w.alloc (.cells #[.pointer none] 25) = wa at *
  by_cases ht : (E.T i).text = kType
  · skip
    have h0 := peek_yes hr.out ht
    have HR1 := Lib.hid (run_next h0)
    clear h0
    refine (take_yes E _ i d ⟨#[116, 121, 112, 101]⟩ S0.out.1 ht (Lib.hid (by decide))).mono ?_
    rintro e w2 ⟨rfl, hst⟩
    have P0' := Lib.hid (P0.out.kept hst.2 (by omega))
    clear P0
    have P0 := P0'
    clear P0'
    have S2 := Lib.hid (S0.out.trans hst)
    have z2 := hst.2.size
    clear hst
    clear ht
    go_wp2_with fail
    rcases last_cases HR1.out with ⟨j3, er, hx, hq⟩ | ⟨a3, j3, hx, hq⟩
    · exact (structure_any E _ (i + 1) d n ih _ S2.out.1 hx).mono fun e w' h => by obtain ⟨rfl, hg⟩ := h; exact ⟨rfl, by rw [hq]; exact ⟨rfl, S2.out.2.trans hg⟩⟩
    refine (structure_any E _ (i + 1) d n ih _ S2.out.1 hx).mono ?_
    rintro e w3 ⟨v3, rfl, ⟨nb3, hv, hn⟩, hst⟩
    obtain rfl := hv
    unfold nodeV
    have P0' := Lib.hid (P0.out.kept hst.2 (by omega))
    clear P0
    have P0 := P0'
    clear P0'
    have N3 := Lib.hid (hn.from (B := w.heap.size) (by omega))
    clear hn
    have S3 := Lib.hid (S2.out.trans hst)
    have z3 := hst.2.size
    clear hst
    have HQ := Lib.hid hq
    clear hx hq
    have q0 := P0.out.c0
    have f0 := P0.out.f0
    go_wp2_with fail
    refine bodyPost_ret (v := nodeV nb3) (by unfold nodeV; simp [results, Tryz.results41, go_sem, q0]) rfl ?_
    rw [HQ.out]
    exact pass_done H.out S3.out N3.out (by omega) _
  · skip
    have HR4 := Lib.hid (peek_no hr.out ht)
    refine (take_no E _ i d ⟨#[116, 121, 112, 101]⟩ S0.out.1 ht).mono ?_
    rintro e w5 ⟨rfl, hb⟩
    have P0' := Lib.hid (P0.out.below hb)
    clear P0
    have P0 := P0'
    clear P0'
    have S5 := Lib.hid (S0.out.below hb)
    have z5 := hb.size
    clear hb
    clear ht
    go_wp2_with fail
    by_cases ht : (E.T i).text = kVar
    · skip
      have h0 := ite_yes HR4.out ht
      have HR6 := Lib.hid (run_next h0)
      clear h0
      refine (take_yes E _ i d ⟨#[118, 97, 114]⟩ S5.out.1 ht (Lib.hid (by decide))).mono ?_
      rintro e w7 ⟨rfl, hst⟩
      have P0' := Lib.hid (P0.out.kept hst.2 (by omega))
      clear P0
      have P0 := P0'
      clear P0'
      have S7 := Lib.hid (S5.out.trans hst)
      have z7 := hst.2.size
      clear hst
      clear ht
      go_wp2_with fail
      rcases last_cases HR6.out with ⟨j8, er, hx, hq⟩ | ⟨a8, j8, hx, hq⟩
      · exact (named_any E _ (i + 1) d (P E.T n) 3 (by omega) _ S7.out.1 hx).mono fun e w' h => by obtain ⟨rfl, hg⟩ := h; exact ⟨rfl, by rw [hq]; exact ⟨rfl, S7.out.2.trans hg⟩⟩
      refine (named_any E _ (i + 1) d (P E.T n) 3 (by omega) _ S7.out.1 hx).mono ?_
      rintro e w8 ⟨v8, rfl, ⟨nb8, hv, hn⟩, hst⟩
      obtain rfl := hv
      unfold nodeV
      have P0' := Lib.hid (P0.out.kept hst.2 (by omega))
      clear P0
      have P0 := P0'
      clear P0'
      have N8 := Lib.hid (hn.from (B := w.heap.size) (by omega))
      clear hn
      have S8 := Lib.hid (S7.out.trans hst)
      have z8 := hst.2.size
      clear hst
      have HQ := Lib.hid hq
      clear hx hq
      have q0 := P0.out.c0
      have f0 := P0.out.f0
      go_wp2_with fail
      refine bodyPost_ret (v := nodeV nb8) (by unfold nodeV; simp [results, Tryz.results41, go_sem, q0]) rfl ?_
      rw [HQ.out]
      exact pass_done H.out S8.out N8.out (by omega) _
    · skip
      have HR9 := Lib.hid (ite_no HR4.out ht)
      refine (take_no E _ i d ⟨#[118, 97, 114]⟩ S5.out.1 ht).mono ?_
      rintro e w10 ⟨rfl, hb⟩
      have P0' := Lib.hid (P0.out.below hb)
      clear P0
      have P0 := P0'
      clear P0'
      have S10 := Lib.hid (S5.out.below hb)
      have z10 := hb.size
      clear hb
      clear ht
      go_wp2_with fail
      by_cases ht : (E.T i).text = kFunc
      · skip
        have h0 := ite_yes HR9.out ht
        have HR11 := Lib.hid (run_next h0)
        clear h0
        refine (take_yes E _ i d ⟨#[102, 117, 110, 99]⟩ S10.out.1 ht (Lib.hid (by decide))).mono ?_
        rintro e w12 ⟨rfl, hst⟩
        have P0' := Lib.hid (P0.out.kept hst.2 (by omega))
        clear P0
        have P0 := P0'
        clear P0'
        have S12 := Lib.hid (S10.out.trans hst)
        have z12 := hst.2.size
        clear hst
        clear ht
        go_wp2_with fail
        rcases last_cases HR11.out with ⟨j13, er, hx, hq⟩ | ⟨a13, j13, hx, hq⟩
        · exact (function_any E _ (i + 1) d n ih _ S12.out.1 hx).mono fun e w' h => by obtain ⟨rfl, hg⟩ := h; exact ⟨rfl, by rw [hq]; exact ⟨rfl, S12.out.2.trans hg⟩⟩
        refine (function_any E _ (i + 1) d n ih _ S12.out.1 hx).mono ?_
        rintro e w13 ⟨v13, rfl, ⟨nb13, hv, hn⟩, hst⟩
        obtain rfl := hv
        unfold nodeV
        have P0' := Lib.hid (P0.out.kept hst.2 (by omega))
        clear P0
        have P0 := P0'
        clear P0'
        have N13 := Lib.hid (hn.from (B := w.heap.size) (by omega))
        clear hn
        have S13 := Lib.hid (S12.out.trans hst)
        have z13 := hst.2.size
        clear hst
        have HQ := Lib.hid hq
        clear hx hq
        have q0 := P0.out.c0
        have f0 := P0.out.f0
        go_wp2_with fail
        refine bodyPost_ret (v := nodeV nb13) (by unfold nodeV; simp [results, Tryz.results41, go_sem, q0]) rfl ?_
        rw [HQ.out]
        exact pass_done H.out S13.out N13.out (by omega) _
      · skip
        have HR14 := Lib.hid (ite_no HR9.out ht)
        refine (take_no E _ i d ⟨#[102, 117, 110, 99]⟩ S10.out.1 ht).mono ?_
        rintro e w15 ⟨rfl, hb⟩
        have P0' := Lib.hid (P0.out.below hb)
        clear P0
        have P0 := P0'
        clear P0'
        have S15 := Lib.hid (S10.out.below hb)
        have z15 := hb.size
        clear hb
        clear ht
        go_wp2_with fail
        have HQ := Lib.hid (run_fail HR14.out)
        refine (misfit_any E _ i d S15.out.1).mono ?_
        rintro e w16 ⟨rfl, hb⟩
        have P0' := Lib.hid (P0.out.below hb)
        clear P0
        have P0 := P0'
        clear P0'
        have S16 := Lib.hid (S15.out.below hb)
        have z16 := hb.size
        clear hb
        go_wp2_with fail
        refine ⟨rfl, ?_⟩
        rw [HQ.out]
        exact ⟨rfl, S16.out.2⟩

end Go.Proofs.YtfbejfoalnhihaaGreatDoor

/-
  CONTRACT: program of the reader, where calls one step down are as they should be. Nobody but the reader's own block has turned.
-/
namespace Go.Proofs.YtfbejfoalnhihaaGreatDoor
open Go.RowKit

theorem decl_prog {T : Nat → AT} {z m d i j : Nat} {x : Tree} (S : Sent T z) (_ : i ≤ z) (h : runW T (P T m) (decl d) i = some (.ok x j)) : i + 1 ≤ j ∧ j ≤ z := by
  have h2 := runW_at T (Nat.le_max_left m (4 * (z + 1) + 4)) _ _ _ h
  refine tot_prog (tot_decl S d i fun nt d j hok h1 hj => P_total S _ nt d j hok hj ?_) h2
  have := rank_le nt
  omega

set_option maxRecDepth 100000 in
set_option maxHeartbeats 400000 in
theorem program_any (E : Env) (w : World) (n : Nat) (ih : IH E n) (r : Res (List Tree)) (h : RD E w 0 0) (hroot : E.pl (E.z + 1) = 0) (hr : Hid (P E.T n .decls 0 0 = some r)) :
    Calls Tryz.prog 27 #[.pointer (some ⟨E.rb, 0, none⟩)] w (Q E w 0 (fun ks => VN E w.heap.size (.mk 1 [] [] 0 (E.z + 1) ks)) r) := by
  have HROOT := Lib.hid hroot
  clear hroot
  have H := Lib.hid h
  have hr1 := h.lt
  have hf0 := tok_kind
  have hf1 := tok_text
  have hf2 := tok_at
  have S0 := Lib.hid (ST.below (ST.refl h) (b1 w (.cells #[.pointer none] 25)))
  have P0 := Lib.hid (PtrAt.new w none)
  have l0 := P0.out.lt
  clear h
  go_enter Tryz.func27, Tryz.ntmps27
  go_wp2_with fail
  generalize w.alloc (.cells #[.pointer none] 25) = wa at *
  have hz := H.out.zle
  go_loopw [3] (fun v wr => KRel E n w w.heap.size .decls 0 r v wr) (fun _ wr => E.z - nx E wr)
  case atStart => exact ⟨n, 0, 0, [], r, Nat.le_refl _, Nat.zero_le _, by omega, hr, Lib.hid (preR_nil r).symm, KidsIn.nil _ _ _, S0, P0⟩
  case round =>
    obtain ⟨m, k, iq, ts, rq, hm, hk, hB, HP, HE, K, S, P0⟩ := hrel
    obtain ⟨m, rfl, hp⟩ := P_pos HP.out
    have HR := Lib.hid hp
    clear hp HP
    have hiz := S.out.1.ile
    have hnx := S.out.1.at_nx
    have HNX := Lib.hid hnx
    clear hnx
    have r0 := S.out.1.c0
    have r1 := S.out.1.c1
    by_cases ht : iq < E.z
    · skip
      have hk0 := S.out.1.sent.some iq ht
      have HR2 := Lib.hid (ite_no (run_peek HR.out) hk0)
      clear hk0
      have hlt : (iq : Int) < (E.z : Int) := by omega
      have hlt2 : decide (iq < E.z) = true := by simpa using ht
      go_wp2_with fail
      go_quiet (fail)
      have S1 := Lib.hid (S.out.below (below_drewN (Below.refl _ _) nq))
      have K' := Lib.hid (K.out.bl (below_drewN (Below.refl _ wr) nq))
      clear K
      have K := K'
      clear K'
      have P0' := Lib.hid (P0.out.below (below_drewN (Below.refl _ wr) nq))
      clear P0
      have P0 := P0'
      clear P0'
      have zq := (below_drewN (Below.refl wr.heap.size wr) nq).size
      generalize wr.drewN nq = w1 at *
      clear r0 r1
      go_wp2_with fail
      have KL := Lib.hid K.out.lt
      rcases bind_cases HR2.out with ⟨j2, er, hx, hq⟩ | ⟨a2, j2, hx, hq⟩
      · exact (declaration_any E _ iq 0 n ih _ S1.out.1 (runW_at E.T (by omega) _ _ _ hx)).mono fun e w' h => by obtain ⟨rfl, hg⟩ := h; exact ⟨rfl, by rw [HE.out, hq]; exact ⟨rfl, S1.out.2.trans hg⟩⟩
      have hpr := decl_prog S1.out.1.sent S1.out.1.ile hx
      refine (declaration_any E _ iq 0 n ih _ S1.out.1 (runW_at E.T (by omega) _ _ _ hx)).mono ?_
      rintro e w2 ⟨v2, rfl, ⟨nb2, hv, hn⟩, hst⟩
      obtain rfl := hv
      unfold nodeV
      have K' := Lib.hid (K.out.st hst.2 (by omega))
      clear K
      have K := K'
      clear K'
      have P0' := Lib.hid (P0.out.kept hst.2 (by omega))
      clear P0
      have P0 := P0'
      clear P0'
      have N2 := Lib.hid (hn.from (B := w.heap.size) (by omega))
      have M2 := Lib.hid hn
      clear hn
      have S2 := Lib.hid (S1.out.trans hst)
      have z2 := hst.2.size
      clear hst
      rcases call_cases hq with ⟨jz, er, hy, hq2⟩ | ⟨az, jz, hy, hq2⟩
      · skip
        have HP : Hid (P E.T m .decls 0 j2 = some (.bad jz er)) := hy
        have HE2 : Hid (r = preR (ts ++ [a2]) (.bad jz er)) := by show _ = _; rw [HE.out, hq2]; rfl
        clear hx hq hy hq2
        have L := Lib.hid (show (w2.alloc (.cells #[.pointer (some ⟨nb2, 0, none⟩)] 25)).cell? ⟨w2.heap.size, 0, none⟩ = some (.pointer (some ⟨nb2, 0, none⟩)) by simp [go_sem])
        have K' := Lib.hid (K.out.bl (b1 w2 (.cells #[.pointer (some ⟨nb2, 0, none⟩)] 25)))
        clear K
        have K := K'
        clear K'
        have P0' := Lib.hid (P0.out.below (b1 w2 (.cells #[.pointer (some ⟨nb2, 0, none⟩)] 25)))
        clear P0
        have P0 := P0'
        clear P0'
        have N2' := Lib.hid (N2.out.bl (b1 w2 (.cells #[.pointer (some ⟨nb2, 0, none⟩)] 25)))
        clear N2
        have N2 := N2'
        clear N2'
        have M2' := Lib.hid (M2.out.bl (b1 w2 (.cells #[.pointer (some ⟨nb2, 0, none⟩)] 25)))
        clear M2
        have M2 := M2'
        clear M2'
        have S3 := Lib.hid (S2.out.below (b1 w2 (.cells #[.pointer (some ⟨nb2, 0, none⟩)] 25)))
        have z3 := (b1 w2 (.cells #[.pointer (some ⟨nb2, 0, none⟩)] 25)).size
        have y3 : w2.heap.size < (w2.alloc (.cells #[.pointer (some ⟨nb2, 0, none⟩)] 25)).heap.size := by simp
        go_wp2_with (at_builtin; refine Hid.out ?_)
        generalize w2.alloc (.cells #[.pointer (some ⟨nb2, 0, none⟩)] 25) = w3 at *
        refine Lib.hid ?_
        refine wpList_append_kid rfl (.tmp 15) (.tmp 18) rfl w.heap.size E.pl _ k ts rfl K.out nb2 a2 N2.out (fun g hg => M2.out.weak fun x hx _ => ⟨by omega, by have := KL.out g hg; omega⟩) _ rfl L.out (by omega) (by omega) ?_
        intro g4 cap4 w4 hk hg hy
        have P0' := Lib.hid (P0.out.grow hg (fun e => by have := hy _ e; omega))
        clear P0
        have P0 := P0'
        clear P0'
        have S4 := Lib.hid (ST.grow H.out S3.out hg (fun y e => by have := hy y e; omega))
        have z4 := hg.size
        clear K
        have K := Lib.hid hk
        clear hk hg hy
        have hnx2 := S4.out.1.at_nx
        have HNX2 := Lib.hid hnx2
        clear hnx2
        go_wp2_with fail
        go_roundw
        case rel => exact ⟨m, k + 1, _, _, _, by omega, by omega, by omega, HP, HE2, K, S4, P0⟩
        case measure => rw [HNX.out, HNX2.out]; omega
      · skip
        have HP : Hid (P E.T m .decls 0 j2 = some (.ok az jz)) := hy
        have HE2 : Hid (r = preR (ts ++ [a2]) (.ok az jz)) := by show _ = _; rw [HE.out, run_ret hq2]; simp [preR]
        clear hx hq hy hq2
        have L := Lib.hid (show (w2.alloc (.cells #[.pointer (some ⟨nb2, 0, none⟩)] 25)).cell? ⟨w2.heap.size, 0, none⟩ = some (.pointer (some ⟨nb2, 0, none⟩)) by simp [go_sem])
        have K' := Lib.hid (K.out.bl (b1 w2 (.cells #[.pointer (some ⟨nb2, 0, none⟩)] 25)))
        clear K
        have K := K'
        clear K'
        have P0' := Lib.hid (P0.out.below (b1 w2 (.cells #[.pointer (some ⟨nb2, 0, none⟩)] 25)))
        clear P0
        have P0 := P0'
        clear P0'
        have N2' := Lib.hid (N2.out.bl (b1 w2 (.cells #[.pointer (some ⟨nb2, 0, none⟩)] 25)))
        clear N2
        have N2 := N2'
        clear N2'
        have M2' := Lib.hid (M2.out.bl (b1 w2 (.cells #[.pointer (some ⟨nb2, 0, none⟩)] 25)))
        clear M2
        have M2 := M2'
        clear M2'
        have S5 := Lib.hid (S2.out.below (b1 w2 (.cells #[.pointer (some ⟨nb2, 0, none⟩)] 25)))
        have z5 := (b1 w2 (.cells #[.pointer (some ⟨nb2, 0, none⟩)] 25)).size
        have y5 : w2.heap.size < (w2.alloc (.cells #[.pointer (some ⟨nb2, 0, none⟩)] 25)).heap.size := by simp
        go_wp2_with (at_builtin; refine Hid.out ?_)
        generalize w2.alloc (.cells #[.pointer (some ⟨nb2, 0, none⟩)] 25) = w5 at *
        refine Lib.hid ?_
        refine wpList_append_kid rfl (.tmp 15) (.tmp 18) rfl w.heap.size E.pl _ k ts rfl K.out nb2 a2 N2.out (fun g hg => M2.out.weak fun x hx _ => ⟨by omega, by have := KL.out g hg; omega⟩) _ rfl L.out (by omega) (by omega) ?_
        intro g6 cap6 w6 hk hg hy
        have P0' := Lib.hid (P0.out.grow hg (fun e => by have := hy _ e; omega))
        clear P0
        have P0 := P0'
        clear P0'
        have S6 := Lib.hid (ST.grow H.out S5.out hg (fun y e => by have := hy y e; omega))
        have z6 := hg.size
        clear K
        have K := Lib.hid hk
        clear hk hg hy
        have hnx2 := S6.out.1.at_nx
        have HNX2 := Lib.hid hnx2
        clear hnx2
        go_wp2_with fail
        go_roundw
        case rel => exact ⟨m, k + 1, _, _, _, by omega, by omega, by omega, HP, HE2, K, S6, P0⟩
        case measure => rw [HNX.out, HNX2.out]; omega
    · skip
      have hk0 : (E.T iq).kind = 0 := by rw [S.out.1.sent.stop iq (by omega)]
      have hq := run_ret (ite_yes (run_peek HR.out) hk0)
      have HQ : Hid (r = .ok ts iq) := by show _ = _; rw [HE.out, hq]; simp [preR]
      clear hk0 hq
      have hlt : ¬ (iq : Int) < (E.z : Int) := by omega
      have hlt2 : decide (iq < E.z) = false := by simpa using ht
      go_wp2_with fail
      go_quiet (fail)
      have S1 := Lib.hid (S.out.below (below_drewN (Below.refl _ _) nq))
      have K' := Lib.hid (K.out.bl (below_drewN (Below.refl _ wr) nq))
      clear K
      have K := K'
      clear K'
      have P0' := Lib.hid (P0.out.below (below_drewN (Below.refl _ wr) nq))
      clear P0
      have P0 := P0'
      clear P0'
      have zq := (below_drewN (Below.refl wr.heap.size wr) nq).size
      generalize wr.drewN nq = w1 at *
      clear r0 r1
      obtain ⟨Ak, ck, hvk, -, -⟩ := K.out.slice
      subst hvk
      go_wp2_with fail
      refine (newNode_any _ _ _ _ _ _ _ _ _).mono ?_
      rintro e wz ⟨rfl, hb9, hrow⟩
      have P9 := P0.out.below hb9
      have q0 := P9.c0
      have f0 := P9.f0
      have HB9 := Lib.hid hb9
      have HROW := Lib.hid hrow
      clear hb9 hrow P9
      unfold nodeV
      go_wp2_with fail
      refine bodyPost_ret (v := nodeV w1.heap.size) (by unfold nodeV; simp [results, Tryz.results27, go_sem, q0]) rfl ?_
      rw [HQ.out]
      have hrow : RowAt wz w1.heap.size (1 : Nat) ⟨([] : List UInt8).toArray⟩ ⟨([] : List UInt8).toArray⟩ 0 (E.pl (E.z + 1)) (.slice Ak k ck) := by rw [HROOT.out]; exact HROW.out
      obtain ⟨v, h1, h2, h3⟩ := node_done (d := 0) H.out S1.out K.out (by omega) HB9.out hrow (by omega) (by omega) (.pointer (some ⟨w1.heap.size, 0, none⟩))
      exact ⟨v, h1, h2, h3⟩

end Go.Proofs.YtfbejfoalnhihaaGreatDoor

/-
  CONTRACTS: binary, unary, statement, branch of the reader at whatever fuel; program. Nobody but the reader's own block has turned.
-/
namespace Go.Proofs.YtfbejfoalnhihaaGreatDoor
open Go.RowKit

theorem single_run {T : Nat → AT} {c : Callee} {p : Pr Tree} {i : Nat} {r : Res (List Tree)} (h : runW T c (single p) i = some r) : ∃ r', runW T c p i = some r' ∧ ((∃ j e, r' = .bad j e ∧ r = .bad j e) ∨ ∃ t j, r' = .ok t j ∧ r = .ok [t] j) := by
  rcases bind_cases h with ⟨j, e, h1, h2⟩ | ⟨t, j, h1, h2⟩
  · exact ⟨_, h1, .inl ⟨j, e, rfl, h2⟩⟩
  · exact ⟨_, h1, .inr ⟨t, j, rfl, run_ret h2⟩⟩
theorem lift_single {E : Env} {f : FuncId} {args : Array Value} {w : World} {d : Nat} {c : Callee} {p : Pr Tree} {i : Nat} {r : Res (List Tree)} (h : runW E.T c (single p) i = some r) (hc : ∀ r', Hid (runW E.T c p i = some r') → Calls Tryz.prog f args w (Q E w d (VN E w.heap.size) r')) : Calls Tryz.prog f args w (Q E w d (VH E w.heap.size) r) := by
  obtain ⟨r', h1, h2⟩ := single_run h
  refine (hc r' h1).mono ?_
  intro e w' hq
  rcases h2 with ⟨j, er, rfl, rfl⟩ | ⟨t, j, rfl, rfl⟩
  · exact hq
  · exact hq
theorem all_any (E : Env) (n : Nat) : IH E n := by
  induction n with
  | zero =>
    refine ⟨?_, ?_, ?_, ?_⟩
    · intro w i d l r h1 h6 hrd hp; cases hp.out
    · intro w i d r hrd hp; cases hp.out
    · intro w i d r hrd hp; cases hp.out
    · intro w i d r hrd hp; cases hp.out
  | succ n ih =>
    refine ⟨?_, ?_, ?_, ?_⟩
    · intro w i d l r h1 h6 hrd hp
      exact lift_single (p := binary l d) hp.out fun r' hr' => binary_any E w i d n ih l h1 h6 r' hrd hr'
    · intro w i d r hrd hp
      exact lift_single (p := unary d) hp.out fun r' hr' => unary_any E w i d n ih r' hrd hr'
    · intro w i d r hrd hp
      exact lift_single (p := stmt d) hp.out fun r' hr' => statement_any E w i d n ih r' hrd hr'
    · intro w i d r hrd hp
      exact lift_single (p := branch d) hp.out fun r' hr' => branch_any E w i d n ih r' hrd hr'

end Go.Proofs.YtfbejfoalnhihaaGreatDoor

/-
  PLAIN: facts about the tokens of a text: each stands at its place; joined with blanks they are the same; a text behind a line feed is a text for itself. Nothing of the program stands here.
-/
namespace Go.Proofs.YtfbejfoalnhihaaGreatDoor
open Go.RowKit

/-- From e on each token stands at its place, behind the one ahead. -/
def Chain (l : List UInt8) : Nat → List Tok → Prop
  | _, [] => True
  | e, t :: r => e ≤ t.place ∧ 0 < t.text.length ∧ t.place + t.text.length ≤ l.length ∧ (l.drop t.place).take t.text.length = t.text ∧ Chain l (t.place + t.text.length) r
theorem Chain.mono {l : List UInt8} {e e' : Nat} {ts : List Tok} (h : Chain l e ts) (he : e' ≤ e) : Chain l e' ts := by
  cases ts with
  | nil => trivial
  | cons t r => exact ⟨Nat.le_trans he h.1, h.2⟩

/-- A word of a text that stands for itself. -/
def TokOK (t : Tok) : Prop := ∃ c r, t.text = c :: r ∧ blkB c = false ∧ ∀ rest : List UInt8, (rest = [] ∨ ∃ q, rest = 32 :: q) → comB (t.text ++ rest) = false ∧ tokT (t.text ++ rest) = ⟨0, t.kind, t.text.length⟩

theorem runN_stop {f : UInt8 → Bool} (x rest : List UInt8) (hx : x.all f = true) (hr : ∀ c q, rest = c :: q → f c = false) : runN f (x ++ rest) = x.length := by
  induction x with
  | nil =>
    cases rest with
    | nil => rfl
    | cons c q => rw [List.nil_append, runN_zero q (hr c q rfl)]; rfl
  | cons c r ih =>
    rw [List.all_cons, Bool.and_eq_true] at hx
    rw [List.cons_append, runN_pos _ hx.1, ih hx.2]; rfl
theorem run_all_take (f : UInt8 → Bool) (l : List UInt8) : (l.take (runN f l)).all f = true := by
  induction l with
  | nil => rfl
  | cons c r ih =>
    cases h : f c with
    | true => rw [runN_pos r h, List.take_succ_cons, List.all_cons, h, ih]; rfl
    | false => rw [runN_zero r h]; rfl
theorem rest_stop {f : UInt8 → Bool} (h32 : f 32 = false) {rest : List UInt8} (hr : rest = [] ∨ ∃ q, rest = 32 :: q) : ∀ c q, rest = c :: q → f c = false := by
  rintro c q rfl
  rcases hr with hr | ⟨q', hr⟩
  · cases hr
  · injection hr with hr _; rw [hr]; exact h32
theorem com_first {c : UInt8} (r : List UInt8) (h : c.toNat ≠ 47) : comB (c :: r) = false := by
  cases r with
  | nil => rfl
  | cons d r => simp [comB, h]

theorem word_kind {l : List UInt8} (h : (wordT l).err = 0) : (wordT l).len = runN wchB l ∧ ¬ 12 < runN wchB l ∧ (wordT l).kind = (if keyB (l.take (runN wchB l)) then 2 else 1) := by
  unfold wordT at h ⊢
  by_cases h1 : 12 < runN wchB l
  · rw [if_pos h1] at h; exact absurd h (by simp)
  · rw [if_neg h1]
    by_cases h2 : keyB (l.take (runN wchB l)) = true
    · rw [if_pos h2, if_pos h2]; exact ⟨rfl, h1, rfl⟩
    · rw [if_neg h2, if_neg h2]; exact ⟨rfl, h1, rfl⟩
theorem num_kind {l : List UInt8} (h : (numT l).err = 0) : (numT l).len = runN digB l ∧ (numT l).kind = 3 ∧ parE (l.take (runN digB l)) = 0 := by
  unfold numT at h ⊢
  by_cases h1 : afterB (l.drop (runN digB l)) = true
  · rw [if_pos h1] at h; exact absurd h (by simp)
  · rw [if_neg h1] at h ⊢
    by_cases h2 : parE (l.take (runN digB l)) = 0
    · rw [if_pos h2]; exact ⟨rfl, rfl, h2⟩
    · rw [if_neg h2] at h; exact absurd h h2
theorem let_dig {c : UInt8} (h : letB c = true) : digB c = false := by
  unfold letB at h; unfold digB
  simp at h ⊢
  omega
theorem long_set {l : List UInt8} (h : longB l = true) : ∃ a b q, l = a :: b :: q ∧ longTab.contains [a, b] = true := by
  match l with
  | [] => exact absurd h (by decide)
  | [a] => simp [longB, longTab] at h
  | a :: b :: q => exact ⟨a, b, q, rfl, h⟩
theorem long_cases {a b : UInt8} (h : longTab.contains [a, b] = true) : letB a = false ∧ digB a = false ∧ ¬ (a.toNat = 47 ∧ b.toNat = 47) := by
  simp [longTab] at h
  rcases h with h | h | h | h | h | h | h | h | h <;> obtain ⟨rfl, rfl⟩ := h <;> decide
theorem long_no32 (c : UInt8) : longTab.contains [c, 32] = false := by
  simp [longTab]
theorem long_no10 (c : UInt8) : longTab.contains [c, 10] = false := by
  simp [longTab]
theorem long_no1 (c : UInt8) : longTab.contains [c] = false := by
  simp [longTab]
theorem after_rest {rest : List UInt8} (hr : rest = [] ∨ ∃ q, rest = 32 :: q) : afterB rest = false := by
  rcases hr with rfl | ⟨q, rfl⟩
  · rfl
  · show letB 32 = false; decide

theorem tok_word {c : UInt8} {r : List UInt8} (p : Nat) (h1 : letB c = true) (hb : blkB c = false) (h : (wordT (c :: r)).err = 0) : TokOK ⟨(wordT (c :: r)).kind, (c :: r).take (wordT (c :: r)).len, p⟩ := by
  obtain ⟨h2, h3, h4⟩ := word_kind h
  have hw : wchB c = true := by simp [wchB, h1]
  have hp := runN_pos r hw
  have hall := run_all_take wchB (c :: r)
  have hlen : ((c :: r).take (runN wchB (c :: r))).length = runN wchB (c :: r) := by rw [List.length_take]; exact Nat.min_eq_left (runN_le _ _)
  have hcons : (c :: r).take (runN wchB (c :: r)) = c :: r.take (runN wchB r) := by rw [hp, List.take_succ_cons]
  rw [h2, h4]
  refine ⟨c, r.take (runN wchB r), hcons, hb, fun rest hr => ?_⟩
  show comB ((c :: r).take (runN wchB (c :: r)) ++ rest) = false ∧ tokT ((c :: r).take (runN wchB (c :: r)) ++ rest) = ⟨0, _, ((c :: r).take (runN wchB (c :: r))).length⟩
  have hrun : runN wchB ((c :: r).take (runN wchB (c :: r)) ++ rest) = ((c :: r).take (runN wchB (c :: r))).length := runN_stop _ _ hall (rest_stop (by decide) hr)
  generalize hx : (c :: r).take (runN wchB (c :: r)) = x at *
  constructor
  · rw [hcons, List.cons_append]
    apply com_first
    intro e
    have : letB c = true := h1
    unfold letB at this
    simp at this
    omega
  · have : tokT (x ++ rest) = wordT (x ++ rest) := by rw [hcons, List.cons_append]; exact tokT_let _ h1
    rw [this]
    unfold wordT
    rw [hrun, List.take_left, if_neg (by omega)]
    cases keyB x <;> rfl
theorem tok_num {c : UInt8} {r : List UInt8} (p : Nat) (h1 : letB c = false) (hd : digB c = true) (hb : blkB c = false) (h : (numT (c :: r)).err = 0) : TokOK ⟨(numT (c :: r)).kind, (c :: r).take (numT (c :: r)).len, p⟩ := by
  obtain ⟨h2, h4, h5⟩ := num_kind h
  have hp := runN_pos r hd
  have hall := run_all_take digB (c :: r)
  have hcons : (c :: r).take (runN digB (c :: r)) = c :: r.take (runN digB r) := by rw [hp, List.take_succ_cons]
  rw [h2, h4]
  refine ⟨c, r.take (runN digB r), hcons, hb, fun rest hr => ?_⟩
  show comB ((c :: r).take (runN digB (c :: r)) ++ rest) = false ∧ tokT ((c :: r).take (runN digB (c :: r)) ++ rest) = ⟨0, _, ((c :: r).take (runN digB (c :: r))).length⟩
  have hrun : runN digB ((c :: r).take (runN digB (c :: r)) ++ rest) = ((c :: r).take (runN digB (c :: r))).length := runN_stop _ _ hall (rest_stop (by decide) hr)
  generalize hx : (c :: r).take (runN digB (c :: r)) = x at *
  constructor
  · rw [hcons, List.cons_append]
    apply com_first
    intro e
    have : digB c = true := hd
    unfold digB at this
    simp at this
    omega
  · have : tokT (x ++ rest) = numT (x ++ rest) := by rw [hcons, List.cons_append]; exact tokT_dig _ h1 hd
    rw [this]
    unfold numT
    rw [hrun, List.take_left, List.drop_left, after_rest hr, if_neg (by decide), if_pos h5]
theorem tok_sign {c : UInt8} {r : List UInt8} (p : Nat) (h1 : letB c = false) (hd : digB c = false) (hb : blkB c = false) (h : (signT (c :: r) c).err = 0) : TokOK ⟨(signT (c :: r) c).kind, (c :: r).take (signT (c :: r) c).len, p⟩ := by
  by_cases hl : longB (c :: r) = true
  · obtain ⟨a, b, q, he, hc⟩ := long_set hl
    injection he with he1 he2
    subst he1 he2
    have hs : signT (c :: b :: q) c = ⟨0, 4, 2⟩ := by unfold signT; rw [if_pos hl]
    rw [hs]
    refine ⟨c, [b], rfl, hb, fun rest hr => ?_⟩
    show comB (c :: b :: rest) = false ∧ tokT (c :: b :: rest) = ⟨0, 4, 2⟩
    constructor
    · have := (long_cases hc).2.2
      simp only [comB, Bool.and_eq_false_iff, decide_eq_false_iff_not]
      by_cases e : c.toNat = 47
      · exact Or.inr (fun e2 => this ⟨e, e2⟩)
      · exact Or.inl e
    · rw [tokT_sign _ h1 hd]
      unfold signT
      rw [if_pos (show longB (c :: b :: rest) = true from hc)]
  · have hs0 : shortB c = true := by
      unfold signT at h
      rw [if_neg hl] at h
      by_cases h4 : shortB c = true
      · exact h4
      · rw [if_neg h4] at h; exact absurd h (by simp)
    have hs : signT (c :: r) c = ⟨0, 4, 1⟩ := by unfold signT; rw [if_neg hl, if_pos hs0]
    rw [hs]
    refine ⟨c, [], rfl, hb, fun rest hr => ?_⟩
    show comB (c :: rest) = false ∧ tokT (c :: rest) = ⟨0, 4, 1⟩
    rcases hr with rfl | ⟨q, rfl⟩
    · refine ⟨rfl, ?_⟩
      rw [tokT_sign _ h1 hd]
      unfold signT
      rw [if_neg (by rw [show longB [c] = false from long_no1 c]; decide), if_pos hs0]
    · refine ⟨by simp [comB], ?_⟩
      rw [tokT_sign _ h1 hd]
      unfold signT
      rw [if_neg (by rw [show longB (c :: 32 :: q) = false from long_no32 c]; decide), if_pos hs0]
theorem tok_ok {c : UInt8} {r : List UInt8} (p : Nat) (hb : blkB c = false) (h : (tokT (c :: r)).err = 0) : TokOK ⟨(tokT (c :: r)).kind, (c :: r).take (tokT (c :: r)).len, p⟩ := by
  cases h1 : letB c with
  | true => rw [tokT_let r h1] at h ⊢; exact tok_word p h1 hb h
  | false =>
    cases h2 : digB c with
    | true => rw [tokT_dig r h1 h2] at h ⊢; exact tok_num p h1 h2 hb h
    | false => rw [tokT_sign r h1 h2] at h ⊢; exact tok_sign p h1 h2 hb h

/-- What a scan that succeeds gives. -/
theorem sc_chain (l : List UInt8) : ∀ (n k : Nat) (ts : List Tok), l.length - k ≤ n → k ≤ l.length → sc l k = .ok ts → Chain l k ts ∧ (∀ t ∈ ts, TokOK t) ∧ ts.length + k ≤ l.length := by
  intro n
  induction n with
  | zero =>
    intro k ts hn hk h
    rw [sc_end (by omega)] at h
    injection h with h
    subst h
    exact ⟨trivial, by simp, by simpa using hk⟩
  | succ n ih =>
    intro k ts hn hk h
    by_cases hlt : k < l.length
    · by_cases hb : blkB l[k] = true
      · rw [sc_blk hlt hb] at h
        obtain ⟨a, b, c⟩ := ih (k + 1) ts (by omega) (by omega) h
        exact ⟨a.mono (by omega), b, by omega⟩
      · have hb' : blkB l[k] = false := by simpa using hb
        by_cases hc : comAt l k = true
        · have h1 := endAt_com hlt hc
          have h2 : endAt notNl l k ≤ l.length := endAt_le hk
          rw [sc_com hlt hb' hc] at h
          obtain ⟨a, b, c⟩ := ih _ ts (by omega) h2 h
          exact ⟨a.mono (by omega), b, by omega⟩
        · have hc' : comAt l k = false := by simpa using hc
          by_cases he : (tokAt l k).err = 0
          · have hln := tokAt_len hlt he
            have htl : ((l.drop k).take (tokAt l k).len).length = (tokAt l k).len := by rw [List.length_take, List.length_drop]; omega
            rw [sc_tok hlt hb' hc' he] at h
            cases hr : sc l (k + (tokAt l k).len) with
            | bad p e => rw [hr] at h; simp [R.pre] at h
            | ok us =>
              rw [hr] at h
              simp only [R.pre, List.cons_append, List.nil_append] at h
              injection h with h
              subst h
              obtain ⟨a, b, c⟩ := ih _ us (by omega) (by omega) hr
              have hok : TokOK ⟨(tokAt l k).kind, (l.drop k).take (tokAt l k).len, k⟩ := by
                unfold tokAt at he ⊢
                rw [List.drop_eq_getElem_cons hlt] at he ⊢
                exact tok_ok k hb' he
              refine ⟨⟨Nat.le_refl _, by rw [htl]; omega, by rw [htl]; exact hln.2, by rw [htl], by rw [htl]; exact a⟩, ?_, by simp only [List.length_cons]; omega⟩
              intro t ht
              rcases List.mem_cons.1 ht with rfl | ht
              · exact hok
              · exact b t ht
          · rw [sc_bad hlt hb' hc' he] at h; cases h
    · rw [sc_end (by omega)] at h
      injection h with h
      subst h
      exact ⟨trivial, by simp, by simpa using hk⟩
theorem sc_bad_lt (l : List UInt8) : ∀ (n k p e : Nat), l.length - k ≤ n → sc l k = .bad p e → p < l.length ∧ e ≠ 0 := by
  intro n
  induction n with
  | zero =>
    intro k p e hn h
    rw [sc_end (by omega)] at h; cases h
  | succ n ih =>
    intro k p e hn h
    by_cases hlt : k < l.length
    · by_cases hb : blkB l[k] = true
      · rw [sc_blk hlt hb] at h
        exact ih _ p e (by omega) h
      · have hb' : blkB l[k] = false := by simpa using hb
        by_cases hc : comAt l k = true
        · have h1 := endAt_com hlt hc
          rw [sc_com hlt hb' hc] at h
          exact ih _ p e (by omega) h
        · have hc' : comAt l k = false := by simpa using hc
          by_cases he : (tokAt l k).err = 0
          · have hln := tokAt_len hlt he
            rw [sc_tok hlt hb' hc' he] at h
            cases hr : sc l (k + (tokAt l k).len) with
            | bad p' e' =>
              rw [hr] at h
              simp only [R.pre, R.bad.injEq] at h
              obtain ⟨rfl, rfl⟩ := h
              exact ih _ _ _ (by omega) hr
            | ok us => rw [hr] at h; simp [R.pre] at h
          · rw [sc_bad hlt hb' hc' he] at h
            injection h with h1 h2
            subst h1 h2
            exact ⟨hlt, he⟩
    · rw [sc_end (by omega)] at h; cases h

/-- Each with a blank ahead. -/
def jt : List Tok → List UInt8
  | [] => []
  | t :: r => 32 :: (t.text ++ jt r)
theorem jt_rest (r : List Tok) : jt r = [] ∨ ∃ q, jt r = 32 :: q := by
  cases r with
  | nil => exact Or.inl rfl
  | cons t r => exact Or.inr ⟨_, rfl⟩
theorem jt_tail (r : List Tok) : Lib.joinTail [32] (r.map (·.text)) = jt r := by
  induction r with
  | nil => rfl
  | cons t r ih =>
    have : Lib.joinTail [32] ((t :: r).map (·.text)) = ([32] ++ t.text) ++ Lib.joinTail [32] (r.map (·.text)) := by simp [Lib.joinTail]
    rw [this, ih]; simp [jt]
theorem join_jt (t : Tok) (r : List Tok) : Lib.join ((t :: r).map (·.text)) [32] = t.text ++ jt r := by
  rw [List.map_cons, Lib.join_cons, jt_tail]
def same (ms ts : List Tok) : Prop := ms.map (fun t => (t.kind, t.text)) = ts.map (fun t => (t.kind, t.text))
theorem scan_one {t : Tok} (h : TokOK t) (rest : List UInt8) (hr : rest = [] ∨ ∃ q, rest = 32 :: q) (p : Nat) : scanS (t.text ++ rest) p = (scanS rest (p + t.text.length)).pre [⟨t.kind, t.text, p⟩] := by
  obtain ⟨c, r, he, hb, hk⟩ := h
  obtain ⟨h1, h2⟩ := hk rest hr
  have h3 := he
  generalize t.text = x at *
  subst h3
  rw [List.cons_append] at h1 h2 ⊢
  rw [scanS_tok p hb h1 (by rw [h2]), h2]
  show (scanS (((c :: r) ++ rest).drop (c :: r).length) _).pre [⟨t.kind, ((c :: r) ++ rest).take (c :: r).length, p⟩] = _
  rw [List.drop_left, List.take_left]
theorem scan_jt (ts : List Tok) : ∀ p : Nat, (∀ t ∈ ts, TokOK t) → ∃ ms, scanS (jt ts) p = .ok ms ∧ same ms ts := by
  induction ts with
  | nil => intro p _; exact ⟨[], rfl, rfl⟩
  | cons t r ih =>
    intro p h
    obtain ⟨ms, h1, h2⟩ := ih (p + 1 + t.text.length) (fun u hu => h u (List.mem_cons_of_mem _ hu))
    refine ⟨⟨t.kind, t.text, p + 1⟩ :: ms, ?_, ?_⟩
    · show scanS (32 :: (t.text ++ jt r)) p = _
      rw [scanS_blk p (by decide), scan_one (h t (List.mem_cons_self ..)) _ (jt_rest r), h1]; rfl
    · unfold same at h2 ⊢
      rw [List.map_cons, List.map_cons, h2]
theorem scan_join (ts : List Tok) (h : ∀ t ∈ ts, TokOK t) : ∃ ms, sc (Lib.join (ts.map (·.text)) [32]) 0 = .ok ms ∧ same ms ts := by
  cases ts with
  | nil => exact ⟨[], rfl, rfl⟩
  | cons t r =>
    rw [join_jt]
    obtain ⟨ms, h1, h2⟩ := scan_jt r (0 + t.text.length) (fun u hu => h u (List.mem_cons_of_mem _ hu))
    refine ⟨⟨t.kind, t.text, 0⟩ :: ms, ?_, ?_⟩
    · unfold sc
      rw [List.drop_zero, scan_one (h t (List.mem_cons_self ..)) _ (jt_rest r), h1]; rfl
    · unfold same at h2 ⊢
      rw [List.map_cons, List.map_cons, h2]
theorem jt_len (l : List UInt8) (ts : List Tok) : ∀ e : Nat, e ≤ l.length → Chain l e ts → (jt ts).length ≤ 2 * (l.length - e) := by
  induction ts with
  | nil => intro e _ _; exact Nat.zero_le _
  | cons t r ih =>
    intro e he h
    obtain ⟨h1, h2, h3, _, h4⟩ := h
    have := ih _ h3 h4
    show (32 :: (t.text ++ jt r)).length ≤ _
    rw [List.length_cons, List.length_append]
    omega
theorem join_len (l : List UInt8) (ts : List Tok) (h : Chain l 0 ts) : (Lib.join (ts.map (·.text)) [32]).length ≤ 2 * l.length := by
  cases ts with
  | nil => exact Nat.zero_le _
  | cons t r =>
    have := jt_len l (t :: r) 0 (Nat.zero_le _) h
    rw [join_jt]
    have e : (jt (t :: r)).length = (t.text ++ jt r).length + 1 := rfl
    omega

end Go.Proofs.YtfbejfoalnhihaaGreatDoor

/-
  CONTRACT: scan of package parse: the tokens, and one of no kind behind them; or it throws what is wrong. And what is known of tokens. Of what was there nothing has turned.
-/
namespace Go.Proofs.YtfbejfoalnhihaaGreatDoor
open Go.RowKit

theorem spec_val (x : ByteArray) (h : 0 < x.size) (ha : x.data.toList.all digB = true) (hp : parE x.data.toList = 0) : (specP x).1 = (val 0 x.data.toList : Int) := by
  obtain ⟨r, hr⟩ := head_at x h
  have hd : digB x[0] = true := by
    rw [hr, List.all_cons, Bool.and_eq_true] at ha; exact ha.1
  have h45 : x[0] ≠ 45 := by intro e; rw [e] at hd; exact absurd hd (by decide)
  have ht := trim_pos x (Or.inr ⟨h, h45⟩)
  unfold parE at hp
  by_cases hf : formB x = true
  · have hf2 := hf
    unfold formB at hf2
    rw [ht] at hf2
    rw [if_pos hf2] at hp
    rw [spec_pos hf (by rw [ht]; omega), ht]
    by_cases hv : val 0 x.data.toList < 9223372036854775808
    · rw [if_pos hv]
    · rw [if_neg hv] at hp; cases hp
  · have hf1 : formB x = false := by simpa using hf
    have hf2 := hf1
    unfold formB at hf2
    rw [ht] at hf2
    rw [hf2] at hp; cases hp

/-- What a token's kind says of its text. -/
theorem tok_facts {t : Tok} (h : TokOK t) : (t.kind = 1 ∧ letB (t.text.headD 0) = true ∧ t.text.all wchB = true ∧ t.text.length ≤ 12 ∧ keyB t.text = false) ∨ (t.kind = 2 ∧ keyB t.text = true) ∨ (t.kind = 3 ∧ t.text.all digB = true ∧ parE t.text = 0 ∧ 0 < t.text.length) ∨ (t.kind = 4 ∧ letB (t.text.headD 0) = false ∧ digB (t.text.headD 0) = false) := by
  obtain ⟨c, r, h1, -, h3⟩ := h
  have h4 := (h3 [] (Or.inl rfl)).2
  rw [List.append_nil, h1] at h4
  rw [h1]
  by_cases hl : letB c = true
  · rw [tokT_let r hl] at h4
    have he : (wordT (c :: r)).err = 0 := by rw [h4]
    obtain ⟨k1, k2, k3⟩ := word_kind he
    rw [h4] at k1 k3
    simp only at k1 k3
    rw [← k1] at k2 k3
    rw [List.take_of_length_le (by simp)] at k3
    have hall := run_all_take wchB (c :: r)
    rw [← k1, List.take_of_length_le (by simp)] at hall
    by_cases hk : keyB (c :: r) = true
    · rw [if_pos hk] at k3; exact .inr (.inl ⟨k3, hk⟩)
    · rw [if_neg hk] at k3; exact .inl ⟨k3, hl, hall, by omega, by simpa using hk⟩
  · have hl' : letB c = false := by simpa using hl
    by_cases hd : digB c = true
    · rw [tokT_dig r hl' hd] at h4
      have he : (numT (c :: r)).err = 0 := by rw [h4]
      obtain ⟨k1, k2, k3⟩ := num_kind he
      rw [h4] at k1 k2
      simp only at k1 k2
      rw [← k1, List.take_of_length_le (by simp)] at k3
      have hall := run_all_take digB (c :: r)
      rw [← k1, List.take_of_length_le (by simp)] at hall
      exact .inr (.inr (.inl ⟨k2, hall, k3, by simp⟩))
    · have hd' : digB c = false := by simpa using hd
      rw [tokT_sign r hl' hd'] at h4
      refine .inr (.inr (.inr ⟨?_, hl', hd'⟩))
      unfold signT at h4
      split at h4
      · exact (congrArg Tk.kind h4).symm
      · split at h4
        · exact (congrArg Tk.kind h4).symm
        · exact absurd (congrArg Tk.err h4) (by simp)

def Tf (ts : List Tok) (k : Nat) : AT := match ts[k]? with | some t => ⟨t.kind, t.text⟩ | none => ⟨0, []⟩
def plf (ts : List Tok) (n : Nat) (k : Nat) : Nat := match ts[k]? with | some t => t.place | none => if k = ts.length then n else 0
theorem Tf_at {ts : List Tok} {k : Nat} {t : Tok} (h : ts[k]? = some t) : Tf ts k = ⟨t.kind, t.text⟩ := by unfold Tf; rw [h]
theorem Tf_end {ts : List Tok} {k : Nat} (h : ts.length ≤ k) : Tf ts k = ⟨0, []⟩ := by unfold Tf; rw [List.getElem?_eq_none h]
theorem plf_at {ts : List Tok} {n k : Nat} {t : Tok} (h : ts[k]? = some t) : plf ts n k = t.place := by unfold plf; rw [h]

/-- What Scan's answer gives of its tokens. -/
structure TokS (l : List UInt8) (ts : List Tok) : Prop where
  chain : Chain l 0 ts
  ok : ∀ t ∈ ts, TokOK t
  len : ts.length ≤ l.length
  le : l.length ≤ 4096
theorem toks_of {l : List UInt8} {ts : List Tok} (h : scanR l = .ok ts) : TokS l ts := by
  unfold scanR at h
  split at h
  · cases h
  · obtain ⟨h1, h2, h3⟩ := sc_chain l l.length 0 ts (by omega) (Nat.zero_le _) h
    exact ⟨h1, h2, by omega, by omega⟩
theorem chain_at {l : List UInt8} : ∀ {ts : List Tok} {e : Nat}, Chain l e ts → ∀ t ∈ ts, t.place + t.text.length ≤ l.length ∧ 0 < t.text.length
  | [], _, _, t, ht => by cases ht
  | a :: r, e, h, t, ht => by
    rcases List.mem_cons.1 ht with rfl | ht
    · exact ⟨h.2.2.1, h.2.1⟩
    · exact chain_at h.2.2.2.2 t ht
theorem TokS.sent {l : List UInt8} {ts : List Tok} (h : TokS l ts) : Sent (Tf ts) ts.length := by
  refine ⟨fun k hk => Tf_end hk, fun k hk => ?_⟩
  rw [Tf_at (List.getElem?_eq_getElem hk)]
  have := tok_facts (h.ok _ (List.getElem_mem hk))
  show ts[k].kind ≠ 0
  omega
theorem TokS.text {l : List UInt8} {ts : List Tok} (h : TokS l ts) (k : Nat) : (Tf ts k).text.length ≤ 5000 := by
  unfold Tf
  cases hk : ts[k]? with
  | none => simp
  | some t =>
    have := (chain_at h.chain t (List.mem_of_getElem? hk)).1
    have := h.le
    show t.text.length ≤ 5000
    omega
theorem TokS.ple {l : List UInt8} {ts : List Tok} (h : TokS l ts) (k : Nat) : plf ts l.length k ≤ l.length := by
  unfold plf
  cases hk : ts[k]? with
  | none => simp only; split <;> omega
  | some t =>
    have := (chain_at h.chain t (List.mem_of_getElem? hk)).1
    show t.place ≤ l.length
    omega
theorem TokS.nums {l : List UInt8} {ts : List Tok} (h : TokS l ts) (k : Nat) (hk : (Tf ts k).kind = 3) : (specP ⟨(Tf ts k).text.toArray⟩).1 = numN (Tf ts k).text := by
  unfold Tf at hk ⊢
  cases hg : ts[k]? with
  | none => rw [hg] at hk; cases hk
  | some t =>
    rw [hg] at hk
    simp only at hk ⊢
    have hf := tok_facts (h.ok _ (List.mem_of_getElem? hg))
    obtain ⟨-, h1, h2, h3⟩ : t.kind = 3 ∧ t.text.all digB = true ∧ parE t.text = 0 ∧ 0 < t.text.length := by
      rcases hf with hf | hf | hf | hf
      · omega
      · omega
      · exact hf
      · omega
    exact spec_val ⟨t.text.toArray⟩ (by show 0 < t.text.toArray.size; simpa using h3) h1 h2

/-- What parse's scan answers. -/
def PScanQ (s : ByteArray) (r : R) (w : World) (e : Ending) (w' : World) : Prop := Below w.heap.size w w' ∧ (match r with
  | .ok ts => ∃ g cap, e = .returned (.slice (some ⟨g, 0, none⟩) (ts.length + 1) cap) ∧ ts.length + 1 ≤ cap ∧ w.heap.size ≤ g ∧ g < w'.heap.size ∧ w'.ownsRow w.heap.size 46 3 (.slice (some ⟨g, 0, none⟩) (ts.length + 1) cap) (ts.length + 1) (cellsT (ts ++ [⟨0, [], s.size⟩]))
  | .bad p er => e = faultE p er)

set_option maxRecDepth 100000 in
set_option maxHeartbeats 400000 in
theorem pscan_any (s : ByteArray) (r : R) (w : World) (G : Good w) (hs : s.size ≤ 281474976710656) (hr : Hid (scanR s.data.toList = r)) : Calls Tryz.prog 26 #[.string s] w (PScanQ s r w) := by
  have HS := Lib.hid (scan_any s r w G hs hr)
  cases r with
  | bad p er =>
    have hne : er ≠ 0 := by
      have h1 := hr.out
      unfold scanR at h1
      split at h1
      · injection h1 with _ h2; omega
      · exact (sc_bad_lt _ _ _ _ _ (Nat.le_refl _) h1).2
    have hb : ((er : Int) != 0) = true := by simpa using hne
    clear hne hr G
    go_enter Tryz.func26, Tryz.ntmps26
    go_wp2_with fail
    refine HS.out.mono ?_
    rintro e w1 ⟨hb1, rfl⟩
    clear HS
    go_wp2_with fail
    exact ⟨rfl, hb1, rfl⟩
  | ok ts =>
    have hts := toks_of hr.out
    have hlen : ts.length ≤ 4096 := Nat.le_trans hts.len hts.le
    have hsz : s.size ≤ 4096 := by have := hts.le; rw [len_size] at this; exact this
    obtain ⟨i0, hi0, hz0, hz1, hz2⟩ := info_parts tok_info
    have HI0 := Lib.hid hi0
    have HZ0 := Lib.hid hz0
    have HZ1 := Lib.hid hz1
    have HZ2 := Lib.hid hz2
    clear hts hr G hi0 hz0 hz1 hz2
    go_enter Tryz.func26, Tryz.ntmps26
    go_wp2_with fail
    refine HS.out.mono ?_
    rintro e w1 ⟨hb1, v, rfl, hown⟩
    clear HS
    have HO := Lib.hid hown
    have HB := Lib.hid hb1
    clear hown hb1
    go_wp2_with (at_builtin; refine Hid.out ?_)
    refine Lib.hid ?_
    have hzz := HB.out.size
    refine wpList_append_lies _ rfl (.tmp 18) (.tmp 22) _ rfl w.heap.size 46 i0 _ 3 32 Tryz.underlying41 HI0.out HZ0.out HZ1.out HZ2.out rfl (by omega) v ts.length (cellsT ts) rfl (by exact HO.out.alloc _) ⟨w1.heap.size, 0, none⟩ 1 1 [.int .i64 0, .string ⟨#[]⟩, .int .i64 s.size] rfl rfl (by exact World.news_of_block (heap_alloc_new w1 _)) (by simp [Value.oneCell']) (by omega) (by simp only [maxLen]; omega) (by omega) (by simp; omega) (w1.heap.size + 1) (by simp) ?_
    intro g cap w2 hown2 hg2 hat2 hlt2
    have hb3 : Below w.heap.size w w2 := (HB.out.alloc HB.out.size _).grown hg2 (by simp; omega) (fun k hk => (HO.out.lt k hk).1)
    have hown3 : w2.ownsRow w.heap.size 46 3 (.slice (some ⟨g, 0, none⟩) (ts.length + 1) cap) (ts.length + 1) (cellsT (ts ++ [⟨0, [], s.size⟩])) := by
      rw [cellsT_snoc]; exact hown2
    have hgl := (hown3.lt g rfl).1
    have hcap : ts.length + 1 ≤ cap := by
      rcases hown3.2 with ⟨h2, _⟩ | ⟨g', cap', cur, h2, h3, h4, h5, h6⟩
      · cases h2
      · injection h2 with e1 e2 e3
        omega
    have HH := Lib.hid hown3
    have HB3 := Lib.hid hb3
    clear hown2 hg2 hat2 hown3 hb3
    go_wp2_with fail
    go_ret
    exact ⟨HB3.out, g, cap, rfl, hcap, hgl, hlt2, HH.out⟩

end Go.Proofs.YtfbejfoalnhihaaGreatDoor

/-
  PLAIN: the texts of a tree's tokens; and facts about them. Nothing of the program stands here. No condition.
-/
namespace Go.Proofs.YtfbejfoalnhihaaGreatDoor
open Go.RowKit

def textN (n : Int) : Tx := Lib.itoa n
def commaF : List (List Tx) → List Tx
  | [] => []
  | a :: r => a ++ r.flatMap fun b => cComma :: b
theorem commaF_snoc (l : List (List Tx)) (b : List Tx) : commaF (l ++ [b]) = commaF l ++ (if l = [] then b else cComma :: b) := by
  cases l with
  | nil => simp [commaF]
  | cons a r => simp [commaF, List.flatMap_append]
def truthT (n : Int) : Tx := if n = 0 then kFalse else kTrue
def exprOf (op : Nat) (name : Tx) (n : Int) (ks : List (List Tx)) : List Tx :=
  if op = 15 then [textN n] else if op = 16 then [truthT n] else if op = 17 then [kNil] else if op = 18 then [name]
  else if op = 19 then [kNew, cLB, name, cRB] else if op = 20 then ks.getD 0 [] ++ [cDot, name] else if op = 21 then [name] ++ ([cLB] ++ commaF ks ++ [cRB])
  else if op = 22 then [kRead, cLB, cRB] else if op = 23 then [cLB, signL n] ++ ks.getD 0 [] ++ [cRB]
  else if op = 24 then [cLB] ++ ks.getD 0 [] ++ [signL n] ++ ks.getD 1 [] ++ [cRB] else if op = 25 then [cLB] ++ ks.getD 0 [] ++ [cAnd] ++ ks.getD 1 [] ++ [cRB]
  else if op = 26 then [cLB] ++ ks.getD 0 [] ++ [cOr] ++ ks.getD 1 [] ++ [cRB] else []
mutual
def showE : Tree → List Tx
  | .mk op name _ n _ ks => exprOf op name n (showEL ks)
def showEL : List Tree → List (List Tx)
  | [] => []
  | t :: r => showE t :: showEL r
end
theorem showEL_map (l : List Tree) : showEL l = l.map showE := by
  induction l with
  | nil => rfl
  | cons t r ih => simp [showEL, ih]
theorem showE_eq (t : Tree) : showE t = exprOf t.op t.name t.n (t.kids.map showE) := by
  cases t; simp only [showE, Tree.op, Tree.name, Tree.n, Tree.kids, showEL_map]
def kidE (t : Tree) (i : Nat) : List Tx := (t.kids.map showE).getD i []
theorem kidE_some {t u : Tree} {i : Nat} (h : t.kids[i]? = some u) : kidE t i = showE u := by
  unfold kidE; rw [List.getD_eq_getElem?_getD, List.getElem?_map, h]; rfl
theorem kidE_none {t : Tree} {i : Nat} (h : t.kids[i]? = none) : kidE t i = [] := by
  unfold kidE; rw [List.getD_eq_getElem?_getD, List.getElem?_map, h]; rfl
def typT (ty : Tx) : List Tx := match elemO ⟨ty.toArray⟩ with | some nm => [[42], nm.data.toList] | none => [ty]
def typedT (t : Tree) : List Tx := [t.name] ++ typT t.typ
def stmtOf (op : Nat) (name : Tx) (es ss : List (List Tx)) (e : List Tx) : List Tx :=
  if op = 6 then [cLC] ++ ss.flatten ++ [cRC] else if op = 7 then [name, cDef] ++ (es.getD 0 [] ++ [cSemi]) else if op = 8 then [name, cEq] ++ (es.getD 0 [] ++ [cSemi])
  else if op = 9 then es.getD 0 [] ++ [cDot, name, cEq] ++ (es.getD 1 [] ++ [cSemi]) else if op = 10 then [kIf] ++ es.getD 0 [] ++ ss.getD 1 [] ++ (if 2 < ss.length then [kElse] ++ ss.getD 2 [] else [])
  else if op = 11 then [kFor] ++ es.getD 0 [] ++ ss.getD 1 [] else if op = 12 then [kPrint] ++ ([cLB] ++ es.getD 0 [] ++ [cRB]) ++ [cSemi]
  else if op = 13 then [kReturn] ++ (es.getD 0 [] ++ [cSemi]) else if op = 14 then es.getD 0 [] ++ [cSemi] else e
mutual
def showS : Tree → List Tx
  | .mk op name _ n _ ks => stmtOf op name (showEL ks) (showSL ks) (exprOf op name n (showEL ks))
def showSL : List Tree → List (List Tx)
  | [] => []
  | t :: r => showS t :: showSL r
end
theorem showSL_map (l : List Tree) : showSL l = l.map showS := by
  induction l with
  | nil => rfl
  | cons t r ih => simp [showSL, ih]
theorem showS_eq (t : Tree) : showS t = stmtOf t.op t.name (t.kids.map showE) (t.kids.map showS) (showE t) := by
  cases t; simp only [showS, showE, Tree.op, Tree.name, Tree.kids, showEL_map, showSL_map]
def declOf (t : Tree) : List Tx :=
  if t.op = 2 then [kType, t.name, kStruct, cLC] ++ (t.kids.flatMap fun k => typedT k ++ [cSemi]) ++ [cRC]
  else if t.op = 3 then [kVar] ++ typedT t ++ [cSemi]
  else if t.op = 4 then [kFunc, t.name] ++ ([cLB] ++ commaF ((t.kids.take (t.kids.length - 1)).map typedT) ++ [cRB]) ++ (if t.typ = [] then [] else typT t.typ) ++ ((t.kids.map showS).getD (t.kids.length - 1) [])
  else if t.op = 5 then typedT t else showS t
def showP (t : Tree) : List Tx := t.kids.flatMap declOf

/-- How many kids a node has at the least. -/
def arity (op : Nat) : Nat := if op = 4 ∨ op = 7 ∨ op = 8 ∨ op = 12 ∨ op = 14 ∨ op = 20 ∨ op = 23 then 1 else if op = 9 ∨ op = 10 ∨ op = 11 ∨ op = 24 ∨ op = 25 ∨ op = 26 then 2 else 0
/-- What is asked of a tree that is shown. -/
inductive OkT : Tree → Prop
  | mk {op : Nat} {name typ : Tx} {n : Int} {pos : Nat} {ks : List Tree} (h0 : op ≠ 0) (h1 : op = 10 ∨ op = 11 → ∃ b, ks[1]? = some b ∧ b.op = 6) (h2 : op = 15 → 0 ≤ n ∧ n ≤ 9223372036854775807) (h4 : arity op ≤ ks.length) (hk : ∀ (k : Nat) (u : Tree), ks[k]? = some u → OkT u) : OkT (.mk op name typ n pos ks)
theorem OkT.kid {t u : Tree} {k : Nat} (h : OkT t) (hu : t.kids[k]? = some u) : OkT u := by
  cases h with
  | mk h0 h1 h2 h4 hk => exact hk k u hu
theorem OkT.least {t : Tree} (h : OkT t) : arity t.op ≤ t.kids.length := by
  cases h with
  | mk h0 h1 h2 h4 hk => exact h4
theorem OkT.num {t : Tree} (h : OkT t) (ho : t.op = 15) : 0 ≤ t.n ∧ t.n ≤ 9223372036854775807 := by
  cases h with
  | mk h0 h1 h2 h4 hk => exact h2 ho
theorem OkT.body {t : Tree} (h : OkT t) (ho : t.op = 10 ∨ t.op = 11) : ∃ b, t.kids[1]? = some b ∧ b.op = 6 := by
  cases h with
  | mk h0 h1 h2 h4 hk => exact h1 ho
theorem kid_is {t : Tree} {i : Nat} (h : i < t.kids.length) : ∃ u, t.kids[i]? = some u := ⟨_, List.getElem?_eq_getElem h⟩

theorem lit_cells (w : World) (ys : List Tx) (j : Nat) (y : Tx) (h : ys[j]? = some y) : (w.alloc (.cells (strL ys).toArray 9)).cell? ⟨w.heap.size, j, none⟩ = some (.string ⟨y.toArray⟩) := by
  have := cell_of_row _ w.heap.size j (strL ys).toArray 9 (0, 0) (heap_alloc_new w (.cells (strL ys).toArray 9))
  rw [this]
  unfold strL
  rw [List.getElem?_toArray, List.getElem?_map, h]; rfl
theorem ub_ne {sb : Nat} {v v' : Value} {w wa w' : World} {xs ys : List Tx} (h : SST sb v wa v' w' ys) (hs : SH w sb v xs) (hw : w.heap.size < wa.heap.size) : v'.ownBlock ≠ some w.heap.size := fun e => by
  rcases h.nv _ e with h1 | h1
  · have := (hs.own.lt _ h1).2; omega
  · omega

set_option maxRecDepth 100000 in
set_option maxHeartbeats 400000 in
theorem text_any (n : Int) (w : World) (hp : PowIn w) (h0 : -9223372036854775808 ≤ n) (h1 : n ≤ 9223372036854775807) :
    Calls Tryz.prog 107 #[.int .i64 n] w fun e w' => e = .returned (.string ⟨(textN n).toArray⟩) ∧ Below w.heap.size w w' := by
  obtain ⟨s, hs⟩ : ∃ s : ByteArray, s = ⟨(textN n).toArray⟩ := ⟨_, rfl⟩
  have hc : Calls Tryz.prog 123 #[.int .i64 n] w fun e w' => e = .returned (.string s) ∧ Below w.heap.size w w' := by
    refine (Tryz.strconv_Itoa n h0 h1 w hp).mono ?_
    rintro e w' ⟨rfl, k, os, rfl⟩
    exact ⟨by rw [hs]; rfl, Lib.below_grow _ _ (Nat.le_refl _) _ _⟩
  rw [← hs]
  have HC := Lib.hid hc
  clear hc hs h0 h1
  go_enter Tryz.func107, Tryz.ntmps107
  go_wp2_with (go_at_call 123; refine HC.out.mono ?_; rintro e w' ⟨rfl, hb⟩)
  go_ret
  exact ⟨rfl, hb⟩

end Go.Proofs.YtfbejfoalnhihaaGreatDoor

/-
  CONTRACTS: the deferred function of Parse, of a call that has thrown a fault and of one that returns. Only its three variables have turned.
-/
namespace Go.Proofs.YtfbejfoalnhihaaGreatDoor
open Go.RowKit

set_option maxRecDepth 100000 in
set_option maxHeartbeats 400000 in
theorem catch_idle (a b c : Addr) (w : World) :
    CallsD Tryz.prog 25 #[.pointer (some a), .pointer (some b), .pointer (some c)] .returning w fun e u' w' => e = .returned (.tuple #[]) ∧ u' = .returning ∧ w' = w := by
  refine callsD_of_wpS Tryz.func25 rfl fun c₀ cs hu => ?_
  apply wpS_seq
  apply wpS_region
  simp [wpOpsS, go_sem, recoverD, hu, Tryz.ntmps25, Exit.thenS]
  refine wpS_of_wp ?_
  go_wp2_with fail
  cases c₀
  simp_all [bodyPostS, results, Tryz.results25]

/-- What the deferred function leaves of a fault. -/
def CatchW (b : Nat) (p er : Int) (w w' : World) : Prop := Below b w w' ∧ w'.cell? ⟨b, 0, none⟩ = some (.pointer none) ∧ w'.cell? ⟨b + 1, 0, none⟩ = some (.int .i64 p) ∧ w'.cell? ⟨b + 2, 0, none⟩ = some (.int .i64 er)
theorem assert51 : ∀ (p er : Int) (w : World), (Instr.typeAssert (.iface 51 (.agg #[.int .i64 p, .int .i64 er])) 20 51 true).run Tryz.prog w = .ok (.tuple #[.agg #[.int .i64 p, .int .i64 er], .bool true]) w := fun _ _ _ => by kernel_rfl
set_option maxRecDepth 100000 in
set_option maxHeartbeats 400000 in
theorem catch_fault (b : Nat) (p er : Int) (x : Option Addr) (y z : Int) (older : List PanicEntry) (w : World) (c0 : w.cell? ⟨b, 0, none⟩ = some (.pointer x)) (c1 : w.cell? ⟨b + 1, 0, none⟩ = some (.int .i64 y)) (c2 : w.cell? ⟨b + 2, 0, none⟩ = some (.int .i64 z)) (f0 : w.frozen? ⟨b, 0, none⟩ = false) (f1 : w.frozen? ⟨b + 1, 0, none⟩ = false) (f2 : w.frozen? ⟨b + 2, 0, none⟩ = false) (hl : b + 2 < w.heap.size) :
    CallsD Tryz.prog 25 #[.pointer (some ⟨b, 0, none⟩), .pointer (some ⟨b + 1, 0, none⟩), .pointer (some ⟨b + 2, 0, none⟩)] (.panicking ({ v := .iface 51 (.agg #[.int .i64 p, .int .i64 er]), recovered := false } :: older)) w fun e u' w' =>
      e = .returned (.tuple #[]) ∧ u' = .panicking ({ v := .iface 51 (.agg #[.int .i64 p, .int .i64 er]), recovered := true } :: older) ∧ CatchW b p er w w' := by
  have hta := assert51
  have hb0 : b < w.heap.size := by omega
  have hb1 : b + 1 < w.heap.size := by omega
  refine callsD_of_wpS Tryz.func25 rfl fun c₀ cs hu => ?_
  apply wpS_seq
  apply wpS_region
  simp [wpOpsS, go_sem, recoverD, hu, Tryz.ntmps25, Exit.thenS]
  refine wpS_of_wp ?_
  change Code.wp _ _ _ { tmps := #[.pointer (some ⟨b, 0, none⟩), .pointer (some ⟨b + 1, 0, none⟩), .pointer (some ⟨b + 2, 0, none⟩), undef, undef, undef, .iface 51 (.agg #[.int .i64 p, .int .i64 er]), undef, undef, undef, undef, undef, undef, undef, undef, undef, undef], defers := [] } _
  go_wp2_with fail
  go_region
  all_goals go_wp2_with fail
  have hfin : CatchW b p er w (((((w.setCell ⟨b, 0, none⟩ (.pointer none)).setCell ⟨b + 1, 0, none⟩ (.int .i64 p)).setCell ⟨b + 2, 0, none⟩ (.int .i64 er)).alloc (.cells #[.int .i64 p, .int .i64 er] 51)).drew) := by
    refine ⟨((((((Below.refl b w).setCell (p := ⟨b, 0, none⟩) (Nat.le_refl _) _).setCell (p := ⟨b + 1, 0, none⟩) (Nat.le_succ _) _).setCell (p := ⟨b + 2, 0, none⟩) (by show b ≤ b + 2; omega) _).alloc (by simp; omega) _).drew), ?_, ?_, ?_⟩
    · simp [go_sem, hb0, c0]
    · simp [go_sem, hb1, c1]
    · simp [go_sem, hl, c2]
  generalize ((((w.setCell ⟨b, 0, none⟩ (.pointer none)).setCell ⟨b + 1, 0, none⟩ (.int .i64 p)).setCell ⟨b + 2, 0, none⟩ (.int .i64 er)).alloc (.cells #[.int .i64 p, .int .i64 er] 51)).drew = wz at *
  simp [bodyPostS, results, Tryz.results25, go_sem, hfin]

end Go.Proofs.YtfbejfoalnhihaaGreatDoor

/-
  CONTRACT: Parse at every text of at most 2^48 bytes, where the listed variables lie as the program's text lays them: the tree, in new memory, or the place and the error. Of what was there nothing has turned.
-/
namespace Go.Proofs.YtfbejfoalnhihaaGreatDoor
open Go.RowKit

inductive PR
  | ok (ts : List Tok) (ks : List Tree)
  | bad (p e : Nat)
def fuelT (ts : List Tok) : Nat := 4 * ts.length + 1
def treeR (ts : List Tok) (n : Nat) (r : Option (Res (List Tree))) : PR := match r with
  | some (.ok ks _) => .ok ts ks
  | some (.bad j e) => .bad (plf ts n j) e
  | none => .bad 0 0
def parseR (l : List UInt8) : PR := match scanR l with
  | .bad p e => .bad p e
  | .ok ts => treeR ts l.length (P (Tf ts) (fuelT ts) .decls 0 0)
def root (ts : List Tok) (ks : List Tree) : Tree := .mk 1 [] [] 0 (ts.length + 1) ks
def ParseQ (l : List UInt8) (r : PR) (w : World) (e : Ending) (w' : World) : Prop := Below w.heap.size w w' ∧ (match r with
  | .ok ts ks => ∃ b, e = .returned (.tuple #[nodeV b, .int .i64 0, .int .i64 0]) ∧ NodeAt (fun x => w.heap.size ≤ x) (plf ts l.length) w' b (root ts ks)
  | .bad p er => e = .returned (.tuple #[.agg #[.pointer none], .int .i64 p, .int .i64 er]))

def envOf (rb lb cap : Nat) (ts : List Tok) (n : Nat) : Env := ⟨rb, lb, cap, ts.length, Tf ts, plf ts n⟩

theorem cellsT_at (ts : List Tok) : ∀ (k : Nat) (t : Tok), ts[k]? = some t → (cellsT ts)[k * 3]? = some (.int .i64 t.kind) ∧ (cellsT ts)[k * 3 + 1]? = some (.string ⟨t.text.toArray⟩) ∧ (cellsT ts)[k * 3 + 2]? = some (.int .i64 t.place) := by
  induction ts with
  | nil => intro k t h; simp at h
  | cons a r ih =>
    intro k t h
    cases k with
    | zero => obtain rfl := Option.some.inj h; exact ⟨rfl, rfl, rfl⟩
    | succ k =>
      have := ih k t h
      have e : cellsT (a :: r) = [.int .i64 a.kind, .string ⟨a.text.toArray⟩, .int .i64 a.place] ++ cellsT r := rfl
      rw [e]
      refine ⟨?_, ?_, ?_⟩
      · rw [List.getElem?_append_right (by simp; omega), show (k + 1) * 3 - [Value.int .i64 a.kind, .string ⟨a.text.toArray⟩, .int .i64 a.place].length = k * 3 by simp; omega]; exact this.1
      · rw [List.getElem?_append_right (by simp; omega), show (k + 1) * 3 + 1 - [Value.int .i64 a.kind, .string ⟨a.text.toArray⟩, .int .i64 a.place].length = k * 3 + 1 by simp; omega]; exact this.2.1
      · rw [List.getElem?_append_right (by simp; omega), show (k + 1) * 3 + 2 - [Value.int .i64 a.kind, .string ⟨a.text.toArray⟩, .int .i64 a.place].length = k * 3 + 2 by simp; omega]; exact this.2.2

/-- The reader that Parse makes. -/
theorem rd_of {w : World} {base g cap : Nat} {l : List UInt8} {ts : List Tok} (hT : TokS l ts) (G : Good w) (hcap : ts.length + 1 ≤ cap) (hg : g < w.heap.size) (hown : w.ownsRow base 46 3 (.slice (some ⟨g, 0, none⟩) (ts.length + 1) cap) (ts.length + 1) (cellsT (ts ++ [⟨0, [], l.length⟩]))) :
    RD (envOf w.heap.size g cap ts l.length) (w.alloc (.cells #[.slice (some ⟨g, 0, none⟩) (ts.length + 1) cap, .int .i64 0, .int .i64 0] 54)) 0 0 := by
  have hcell : ∀ k, k < (ts.length + 1) * 3 → (w.alloc (.cells #[.slice (some ⟨g, 0, none⟩) (ts.length + 1) cap, .int .i64 0, .int .i64 0] 54)).cell? ⟨g, k, none⟩ = (cellsT (ts ++ [⟨0, [], l.length⟩]))[k]? := fun k hk => by
    rw [World.cell?_alloc_lt w _ ⟨g, k, none⟩ hg]; exact hown.cellAt k hk
  have hat : ∀ k, k ≤ ts.length → ∃ t, (ts ++ [(⟨0, [], l.length⟩ : Tok)])[k]? = some t ∧ Tf ts k = ⟨t.kind, t.text⟩ ∧ plf ts l.length k = t.place := by
    intro k hk
    rcases Nat.lt_or_ge k ts.length with h | h
    · exact ⟨ts[k], by rw [List.getElem?_append_left h, List.getElem?_eq_getElem h], Tf_at (List.getElem?_eq_getElem h), plf_at (List.getElem?_eq_getElem h)⟩
    · have e : k = ts.length := by omega
      subst e
      refine ⟨⟨0, [], l.length⟩, by simp, Tf_end (Nat.le_refl _), ?_⟩
      unfold plf
      rw [List.getElem?_eq_none (Nat.le_refl _)]
      simp
  refine { sent := hT.sent, ne := ?_, cap := hcap, zle := ?_, text := hT.text, ple := ?_, lt := by simp [envOf], llt := by simp [envOf]; omega, c0 := ?_, c1 := ?_, c2 := ?_, fr := ?_, k0 := ?_, k1 := ?_, k2 := ?_, ile := Nat.zero_le _, dle := Nat.zero_le _, good := G.alloc _, rb8 := G.size, nums := hT.nums }
  · show g ≠ w.heap.size; omega
  · show ts.length ≤ 5000; have := hT.len; have := hT.le; omega
  · intro k; show plf ts l.length k ≤ 5000; have := hT.ple k; have := hT.le; omega
  · simp [envOf, go_sem]
  · simp [envOf, go_sem]
  · simp [envOf, go_sem]
  · intro k; simp [envOf, go_sem]
  · intro k hk
    obtain ⟨t, h1, h2, h3⟩ := hat k hk
    show _ = some (Value.int .i64 (Tf ts k).kind)
    rw [h2]
    exact (hcell (k * 3) (by have : k ≤ ts.length := hk; omega)).trans (cellsT_at _ k t h1).1
  · intro k hk
    obtain ⟨t, h1, h2, h3⟩ := hat k hk
    show _ = some (Value.string ⟨(Tf ts k).text.toArray⟩)
    rw [h2]
    exact (hcell (k * 3 + 1) (by have : k ≤ ts.length := hk; omega)).trans (cellsT_at _ k t h1).2.1
  · intro k hk
    obtain ⟨t, h1, h2, h3⟩ := hat k hk
    show _ = some (Value.int .i64 (plf ts l.length k))
    rw [h3]
    exact (hcell (k * 3 + 2) (by have : k ≤ ts.length := hk; omega)).trans (cellsT_at _ k t h1).2.2

def w3s (w : World) : World := ((w.alloc (.cells #[.pointer none] 25)).alloc (.cells #[.int .i64 0] 3)).alloc (.cells #[.int .i64 0] 26)
theorem w3s_below (w : World) : Below w.heap.size w (w3s w) := b3 w _ _ _
theorem w3s_size (w : World) : (w3s w).heap.size = w.heap.size + 3 := by simp [w3s]
/-- The three variables of Parse. -/
structure Vars (w : World) (b : Nat) (x : Option Addr) (y z : Int) : Prop where
  c0 : w.cell? ⟨b, 0, none⟩ = some (.pointer x)
  c1 : w.cell? ⟨b + 1, 0, none⟩ = some (.int .i64 y)
  c2 : w.cell? ⟨b + 2, 0, none⟩ = some (.int .i64 z)
  f0 : w.frozen? ⟨b, 0, none⟩ = false
  f1 : w.frozen? ⟨b + 1, 0, none⟩ = false
  f2 : w.frozen? ⟨b + 2, 0, none⟩ = false
  lt : b + 2 < w.heap.size
theorem w3s_vars (w : World) : Vars (w3s w) w.heap.size none 0 0 := by
  refine ⟨?_, ?_, ?_, ?_, ?_, ?_, by rw [w3s_size]; omega⟩ <;> simp [w3s, go_sem]
theorem Vars.kept {w w' : World} {b rb : Nat} {x : Option Addr} {y z : Int} (h : Vars w b x y z) (hg : w.grownBy w' (some rb)) (h0 : b + 2 < rb) : Vars w' b x y z :=
  ⟨(far hg (by have := h.lt; omega) (by omega) _).trans h.c0, (far hg (by have := h.lt; omega) (by omega) _).trans h.c1, (far hg h.lt (by omega) _).trans h.c2, (farF hg (by have := h.lt; omega) (by omega) _).trans h.f0, (farF hg (by have := h.lt; omega) (by omega) _).trans h.f1, (farF hg h.lt (by omega) _).trans h.f2, Nat.lt_of_lt_of_le h.lt hg.size⟩
theorem Vars.below {w w' : World} {b : Nat} {x : Option Addr} {y z : Int} (h : Vars w b x y z) (hb : Below w.heap.size w w') : Vars w' b x y z := h.kept (rb := b + 3) (kb_below hb) (by omega)

set_option maxRecDepth 100000 in
set_option maxHeartbeats 400000 in
theorem parse_full (s : ByteArray) (r : PR) (w : World) (G : Good w) (hs : s.size ≤ 281474976710656) (hr : Hid (parseR s.data.toList = r)) : Calls Tryz.prog 9 #[.string s] w (ParseQ s.data.toList r w) := by
  have hmf : ∀ (fn : Fn) (first cap : Array Value) (w : World), (Instr.makeFunc fn first cap).run Tryz.prog w = .ok (.func fn first cap) w := fun _ _ _ _ => rfl
  have G3 := Lib.hid (G.below (w3s_below w))
  have B3 := Lib.hid (w3s_below w)
  have V3 := Lib.hid (w3s_vars w)
  unfold w3s at G3 B3 V3
  cases hsc : scanR s.data.toList with
  | bad p er =>
    have HR : Hid (PR.bad p er = r) := by
      have := hr.out; unfold parseR at this; rw [hsc] at this; exact this
    have := HR.out
    subst this
    have HSC := Lib.hid hsc
    clear hsc hr HR G
    go_enter_defers Tryz.func9, Tryz.ntmps9
    go_wp2_with fail
    generalize ((w.alloc (.cells #[.pointer none] 25)).alloc (.cells #[.int .i64 0] 3)).alloc (.cells #[.int .i64 0] 26) = wa at *
    refine (pscan_any s (.bad p er) _ G3.out hs HSC).mono ?_
    rintro e w1 ⟨hb1, rfl⟩
    have V1 := V3.out.below hb1
    have B1 := Lib.hid (B3.out.trans (hb1.mono B3.out.size))
    have hq : Hid (∀ w2, CatchW w.heap.size p er w1 w2 → ParseQ s.data.toList (.bad p er) w (.returned (.tuple #[.agg #[.pointer none], .int .i64 p, .int .i64 er])) w2) := fun w2 hc => ⟨B1.out.trans hc.1, rfl⟩
    have HC := Lib.hid (catch_fault w.heap.size p er none 0 0 [] w1 V1.c0 V1.c1 V1.c2 V1.f0 V1.f1 V1.f2 V1.lt)
    clear V1 hb1 HSC
    unfold faultE
    refine leaves_cons (f := 25) (args := #[.pointer (some ⟨w.heap.size, 0, none⟩), .pointer (some ⟨w.heap.size + 1, 0, none⟩), .pointer (some ⟨w.heap.size + 2, 0, none⟩)]) (by simp) (by simp [go_sem]) ?_
    refine HC.out.mono ?_
    rintro e u' w2 ⟨rfl, rfl, hc⟩
    have hf := hq.out w2 hc
    obtain ⟨hb2, k0, k1, k2⟩ := hc
    simp [Leaves, settle, results, Tryz.results9, go_sem, k0, k1, k2, hf]
  | ok ts =>
    have hT := toks_of hsc
    have HR : Hid (treeR ts s.data.toList.length (P (Tf ts) (fuelT ts) .decls 0 0) = r) := by
      have := hr.out; unfold parseR at this; rw [hsc] at this; exact this
    obtain ⟨rr, hp, -⟩ := P_total hT.sent (fuelT ts) .decls 0 0 trivial (Nat.zero_le _) (by show 4 * (ts.length - 0) + 0 < 4 * ts.length + 1; omega)
    rw [hp] at HR
    have HSC := Lib.hid hsc
    have HP := Lib.hid hp
    have HT := Lib.hid hT
    have HL : Hid (s.size = s.data.toList.length) := (len_size s).symm
    clear hsc hr G hp hT
    go_enter_defers Tryz.func9, Tryz.ntmps9
    go_wp2_with fail
    generalize ((w.alloc (.cells #[.pointer none] 25)).alloc (.cells #[.int .i64 0] 3)).alloc (.cells #[.int .i64 0] 26) = wa at *
    refine (pscan_any s (.ok ts) _ G3.out hs HSC).mono ?_
    rintro e w1 ⟨hb1, g, cap, rfl, hcap, hg1, hg2, hown⟩
    have V1 := V3.out.below hb1
    have G1 := G3.out.below hb1
    have B1 := B3.out.trans (hb1.mono B3.out.size)
    rw [HL.out] at hown
    have hl1 := V1.lt
    have HRD := Lib.hid (rd_of HT.out G1 hcap hg2 hown)
    have V2 := Lib.hid (V1.below (b1 w1 (.cells #[.slice (some ⟨g, 0, none⟩) (ts.length + 1) cap, .int .i64 0, .int .i64 0] 54)))
    have B2 := Lib.hid (B1.trans ((b1 w1 (.cells #[.slice (some ⟨g, 0, none⟩) (ts.length + 1) cap, .int .i64 0, .int .i64 0] 54)).mono B1.size))
    have hl2 : w1.heap.size < (w1.alloc (.cells #[.slice (some ⟨g, 0, none⟩) (ts.length + 1) cap, .int .i64 0, .int .i64 0] 54)).heap.size := by simp
    clear V1 G1 B1 hb1 hown
    go_wp2_with fail
    generalize w1.alloc (.cells #[.slice (some ⟨g, 0, none⟩) (ts.length + 1) cap, .int .i64 0, .int .i64 0] 54) = w2 at *
    have hroot : (envOf w1.heap.size g cap ts s.data.toList.length).pl ((envOf w1.heap.size g cap ts s.data.toList.length).z + 1) = 0 := by
      show plf ts s.data.toList.length (ts.length + 1) = 0
      unfold plf
      rw [List.getElem?_eq_none (by omega)]
      simp
    have HC := Lib.hid (program_any (envOf w1.heap.size g cap ts s.data.toList.length) w2 (fuelT ts) (all_any _ _) rr HRD.out hroot HP)
    clear hroot
    refine HC.out.mono ?_
    clear HC
    cases rr with
    | bad j er =>
      have := HR.out
      subst this
      rintro e w3 ⟨rfl, hg3⟩
      have V3' := V2.out.kept hg3 (show w.heap.size + 2 < w1.heap.size from hl1)
      have B3' : Below w.heap.size w w3 := ⟨hg3.os.trans B2.out.os, hg3.tape.trans B2.out.tape, hg3.output.trans B2.out.output, Nat.le_trans B2.out.size hg3.size, fun k hk => (hg3.block k (by omega) (fun e => by have h9 : k = w1.heap.size := Option.some.inj e; omega)).trans (B2.out.block k hk)⟩
      have hq : Hid (∀ w4, CatchW w.heap.size (plf ts s.data.toList.length j) er w3 w4 → ParseQ s.data.toList (treeR ts s.data.toList.length (some (.bad j er))) w (.returned (.tuple #[.agg #[.pointer none], .int .i64 (plf ts s.data.toList.length j), .int .i64 er])) w4) := fun w4 hc => ⟨B3'.trans hc.1, rfl⟩
      have HC := Lib.hid (catch_fault w.heap.size (plf ts s.data.toList.length j) er none 0 0 [] w3 V3'.c0 V3'.c1 V3'.c2 V3'.f0 V3'.f1 V3'.f2 V3'.lt)
      clear V3' hg3 B3' HSC HP HR
      unfold faultE
      refine leaves_cons (f := 25) (args := #[.pointer (some ⟨w.heap.size, 0, none⟩), .pointer (some ⟨w.heap.size + 1, 0, none⟩), .pointer (some ⟨w.heap.size + 2, 0, none⟩)]) (by simp) (by simp [go_sem]) ?_
      refine HC.out.mono ?_
      rintro e u' w4 ⟨rfl, rfl, hc⟩
      have hf := hq.out w4 hc
      obtain ⟨hb2, k0, k1, k2⟩ := hc
      simp [Leaves, settle, results, Tryz.results9, go_sem, k0, k1, k2]
      exact hf
    | ok ks j =>
      have := HR.out
      subst this
      rintro e w3 ⟨v3, rfl, ⟨nb, hv, hn⟩, hst⟩
      obtain rfl := hv
      unfold nodeV
      have hg3 := hst.2
      have V3' := V2.out.kept hg3 (show w.heap.size + 2 < w1.heap.size from hl1)
      have B3' : Below w.heap.size w w3 := ⟨hg3.os.trans B2.out.os, hg3.tape.trans B2.out.tape, hg3.output.trans B2.out.output, Nat.le_trans B2.out.size hg3.size, fun k hk => (hg3.block k (by omega) (fun e => by have h9 : k = w1.heap.size := Option.some.inj e; omega)).trans (B2.out.block k hk)⟩
      have HN := Lib.hid hn
      have HB3 := Lib.hid B3'
      obtain ⟨c0, c1, c2, f0, f1, f2, lt⟩ := V3'
      clear hst hg3 hn B3' HSC HP HR
      go_wp2_with fail
      have hfin : Hid (ParseQ s.data.toList (treeR ts s.data.toList.length (some (.ok ks j))) w (.returned (.tuple #[.agg #[.pointer (some ⟨nb, 0, none⟩)], .int .i64 0, .int .i64 0])) (((w3.setCell ⟨w.heap.size, 0, none⟩ (.pointer (some ⟨nb, 0, none⟩))).setCell ⟨w.heap.size + 1, 0, none⟩ (.int .i64 0)).setCell ⟨w.heap.size + 2, 0, none⟩ (.int .i64 0))) := by
        refine ⟨((HB3.out.setCell (p := ⟨w.heap.size, 0, none⟩) (Nat.le_refl _) _).setCell (p := ⟨w.heap.size + 1, 0, none⟩) (Nat.le_succ _) _).setCell (p := ⟨w.heap.size + 2, 0, none⟩) (by show w.heap.size ≤ w.heap.size + 2; omega) _, nb, rfl, ?_⟩
        have hn2 : NodeAt (fun x => w.heap.size + 2 < x) (plf ts s.data.toList.length) w3 nb (root ts ks) := HN.out.weak fun x hx _ => by have h9 : w2.heap.size ≤ x := hx; omega
        exact (((hn2.kept (Keeps.set _ ⟨w.heap.size, 0, none⟩ (.pointer (some ⟨nb, 0, none⟩)) (fun h => by have h9 : w.heap.size + 2 < w.heap.size := h; omega))).kept (Keeps.set _ ⟨w.heap.size + 1, 0, none⟩ (.int .i64 0) (fun h => by have h9 : w.heap.size + 2 < w.heap.size + 1 := h; omega))).kept (Keeps.set _ ⟨w.heap.size + 2, 0, none⟩ (.int .i64 0) (fun h => by have h9 : w.heap.size + 2 < w.heap.size + 2 := h; omega))).weak fun x hx _ => by have h9 : w.heap.size + 2 < x := hx; show w.heap.size ≤ x; omega
      refine leaves_cons (f := 25) (args := #[.pointer (some ⟨w.heap.size, 0, none⟩), .pointer (some ⟨w.heap.size + 1, 0, none⟩), .pointer (some ⟨w.heap.size + 2, 0, none⟩)]) (by simp) (by simp [go_sem]) ?_
      refine (catch_idle _ _ _ _).mono ?_
      rintro e u' w4 ⟨rfl, rfl, rfl⟩
      have hfi := hfin.out
      simp [Leaves, settle, results, Tryz.results9, go_sem, c0, c1, c2]
      exact hfi

end Go.Proofs.YtfbejfoalnhihaaGreatDoor

/-
  PLAIN: what is read is a tree of the grammar: each node as it should be, no more nodes than tokens. Nothing of the program stands here.
-/
namespace Go.Proofs.YtfbejfoalnhihaaGreatDoor
open Go.RowKit

abbrev isE (t : Tree) : Prop := 15 ≤ t.op ∧ t.op ≤ 26
abbrev isS (t : Tree) : Prop := 7 ≤ t.op ∧ t.op ≤ 14
def Ty (W : Tx → Prop) (ty : Tx) : Prop := ty = kInt ∨ ty = kBool ∨ ∃ s, ty = 42 :: s ∧ W s
/-- A node as the grammar has it. -/
inductive Loc (W : Tx → Prop) : Tree → Prop
  | struct {s : Tx} {p : Nat} {ks : List Tree} (h : W s) (hk : ∀ u ∈ ks, Tree.op u = 5) : Loc W (.mk 2 s [] 0 p ks)
  | var {op : Nat} {s ty : Tx} {p : Nat} (ho : op = 3 ∨ op = 5) (h : W s) (ht : Ty W ty) : Loc W (.mk op s ty 0 p [])
  | func {s ty : Tx} {p : Nat} {ks : List Tree} {b : Tree} (h : W s) (ht : ty = [] ∨ Ty W ty) (hk : ∀ u ∈ ks, Tree.op u = 5) (hb : b.op = 6) : Loc W (.mk 4 s ty 0 p (ks ++ [b]))
  | block {p : Nat} {ks : List Tree} (hk : ∀ u ∈ ks, isS u) : Loc W (.mk 6 [] [] 0 p ks)
  | set {op : Nat} {s : Tx} {p : Nat} {x : Tree} (ho : op = 7 ∨ op = 8) (h : W s) (hx : isE x) : Loc W (.mk op s [] 0 p [x])
  | put {s : Tx} {p : Nat} {x y : Tree} (h : W s) (hx : isE x) (hy : isE y) : Loc W (.mk 9 s [] 0 p [x, y])
  | cond {p : Nat} {x b : Tree} (hx : isE x) (hb : b.op = 6) : Loc W (.mk 10 [] [] 0 p [x, b])
  | conde {p : Nat} {x b e : Tree} (hx : isE x) (hb : b.op = 6) (he : e.op = 6 ∨ e.op = 10) : Loc W (.mk 10 [] [] 0 p [x, b, e])
  | loop {p : Nat} {x b : Tree} (hx : isE x) (hb : b.op = 6) : Loc W (.mk 11 [] [] 0 p [x, b])
  | print {p : Nat} {x : Tree} (hx : isE x) : Loc W (.mk 12 [] [] 0 p [x])
  | back0 {p : Nat} : Loc W (.mk 13 [] [] 0 p [])
  | back1 {p : Nat} {x : Tree} (hx : isE x) : Loc W (.mk 13 [] [] 0 p [x])
  | act {p : Nat} {x : Tree} (hx : x.op = 21) : Loc W (.mk 14 [] [] 0 p [x])
  | num {p : Nat} {n : Int} (h0 : 0 ≤ n) (h1 : n ≤ 9223372036854775807) : Loc W (.mk 15 [] [] n p [])
  | truth {p : Nat} {n : Int} (h : n = 0 ∨ n = 1) : Loc W (.mk 16 [] [] n p [])
  | none {p : Nat} : Loc W (.mk 17 [] [] 0 p [])
  | name {op : Nat} {s : Tx} {p : Nat} (ho : op = 18 ∨ op = 19) (h : W s) : Loc W (.mk op s [] 0 p [])
  | field {s : Tx} {p : Nat} {x : Tree} (h : W s) (hx : isE x) : Loc W (.mk 20 s [] 0 p [x])
  | call {s : Tx} {p : Nat} {ks : List Tree} (h : W s) (hk : ∀ u ∈ ks, isE u) : Loc W (.mk 21 s [] 0 p ks)
  | input {p : Nat} : Loc W (.mk 22 [] [] 0 p [])
  | unary {n : Int} {p : Nat} {x : Tree} (hn : n = 17 ∨ n = 18) (hx : isE x) : Loc W (.mk 23 [] [] n p [x])
  | binary {op : Nat} {n : Int} {p : Nat} {x y : Tree} (ho : op = 24 ∧ 1 ≤ n ∧ n ≤ 16 ∨ (op = 25 ∨ op = 26) ∧ n = 0) (hx : isE x) (hy : isE y) : Loc W (.mk op [] [] n p [x, y])
inductive Al (W : Tx → Prop) : Tree → Prop
  | mk {op : Nat} {s ty : Tx} {n : Int} {p : Nat} {ks : List Tree} (h : Loc W (.mk op s ty n p ks)) (hk : ∀ u ∈ ks, Al W u) : Al W (.mk op s ty n p ks)

theorem Al.ok {W : Tx → Prop} {t : Tree} (h : Al W t) : OkT t := by
  induction h with
  | @mk op s ty n p ks h hk ih =>
    have hkk : ∀ (k : Nat) (u : Tree), ks[k]? = some u → OkT u := fun k u hu => ih u (List.mem_of_getElem? hu)
    cases h with
    | var ho => rcases ho with rfl | rfl <;> exact .mk (by omega) (fun h => by omega) (fun h => by omega) (by decide) hkk
    | func h ht hp hb => exact .mk (by omega) (fun h => by omega) (fun h => by omega) (by simp [arity]) hkk
    | set ho => rcases ho with rfl | rfl <;> exact .mk (by omega) (fun h => by omega) (fun h => by omega) (by simp [arity]) hkk
    | cond hx hb => exact .mk (by omega) (fun _ => ⟨_, rfl, hb⟩) (fun h => by omega) (by simp [arity]) hkk
    | conde hx hb => exact .mk (by omega) (fun _ => ⟨_, rfl, hb⟩) (fun h => by omega) (by simp [arity]) hkk
    | loop hx hb => exact .mk (by omega) (fun _ => ⟨_, rfl, hb⟩) (fun h => by omega) (by simp [arity]) hkk
    | num h0 h1 => exact .mk (by omega) (fun h => by omega) (fun _ => ⟨h0, h1⟩) (by simp [arity]) hkk
    | name ho => rcases ho with rfl | rfl <;> exact .mk (by omega) (fun h => by omega) (fun h => by omega) (by simp [arity]) hkk
    | binary ho =>
      obtain ho | ho := ho
      · obtain ⟨rfl, -⟩ := ho; exact .mk (by omega) (fun h => by omega) (fun h => by omega) (by simp [arity]) hkk
      · obtain ⟨rfl | rfl, -⟩ := ho <;> exact .mk (by omega) (fun h => by omega) (fun h => by omega) (by simp [arity]) hkk
    | _ => exact .mk (by omega) (fun h => by omega) (fun h => by omega) (by simp [arity]) hkk

/-- Every good answer meets Φ. -/
def Lf {α : Type} (T : Nat → AT) (c : Callee) (Φ : α → Nat → Prop) (p : Pr α) (i : Nat) : Prop := ∀ a j, runW T c p i = some (.ok a j) → Φ a j
section
variable {T : Nat → AT} {c : Callee} {α β : Type} {Φ : α → Nat → Prop} {i : Nat}
theorem lf_ret {a : α} (h : Φ a i) : Lf T c Φ (.ret a) i := fun b j e => by cases e; exact h
theorem lf_fail {e : Nat} : Lf T c Φ (.fail e) i := fun b j e => by cases e
theorem lf_peek {k : Nat → AT → Pr α} (h : Lf T c Φ (k i (T i)) i) : Lf T c Φ (.peek k) i := h
theorem lf_next {p : Pr α} (h : Lf T c Φ p (i + 1)) : Lf T c Φ (.next p) i := h
theorem lf_ite {q : Prop} [Decidable q] {p r : Pr α} (h : q → Lf T c Φ p i) (g : ¬ q → Lf T c Φ r i) : Lf T c Φ (if q then p else r) i := by
  split
  · exact h ‹_›
  · exact g ‹_›
theorem lf_bind {Ψ : β → Nat → Prop} {p : Pr β} {f : β → Pr α} (h : Lf T c Ψ p i) (g : ∀ a j, Ψ a j → Lf T c Φ (f a) j) : Lf T c Φ (p.bind f) i := fun b j e => by
  rw [runW_bind] at e
  cases hr : runW T c p i with
  | none => rw [hr] at e; cases e
  | some r =>
    rw [hr] at e
    cases r with
    | bad => cases e
    | ok a k => exact g a k (h a k hr) b j e
theorem lf_call {nt : NT} {d : Nat} {k : List Tree → Pr α} (h : ∀ ts j, c nt d i = some (.ok ts j) → Lf T c Φ (k ts) j) : Lf T c Φ (.call nt d k) i := fun b j e => by
  simp only [runW] at e
  cases hr : c nt d i with
  | none => rw [hr] at e; cases e
  | some r =>
    rw [hr] at e
    cases r with
    | bad => cases e
    | ok ts k' => exact h ts k' hr b j e
theorem Lf.imp {Ψ : α → Nat → Prop} {p : Pr α} (h : Lf T c Φ p i) (g : ∀ a j, Φ a j → Ψ a j) : Lf T c Ψ p i := fun a j e => g a j (h a j e)
theorem lf_need {s : Tx} : Lf T c (fun a j => a = i ∧ j = i + 1) (need s) i := lf_peek (lf_ite (fun _ => lf_next (lf_ret ⟨rfl, rfl⟩)) fun _ => lf_fail)
theorem lf_word : Lf T c (fun a j => a = (i, (T i).text) ∧ (T i).kind = 1 ∧ j = i + 1) word i := lf_peek (lf_ite (fun h => lf_next (lf_ret ⟨rfl, h, rfl⟩)) fun _ => lf_fail)
theorem lf_enter {d : Nat} {s : Tx} : Lf T c (fun a j => a = i ∧ j = i + 1) (enter d s) i := lf_peek (lf_ite (fun _ => lf_ite (fun _ => lf_fail) fun _ => lf_next (lf_ret ⟨rfl, rfl⟩)) fun _ => lf_fail)
end

end Go.Proofs.YtfbejfoalnhihaaGreatDoor

/-
  PLAIN: what is read is a tree of the grammar, rule by rule. Nothing of the program stands here.
-/
namespace Go.Proofs.YtfbejfoalnhihaaGreatDoor
open Go.RowKit

/-- A word of the tokens T. -/
def Wd (T : Nat → AT) (s : Tx) : Prop := ∃ k, (T k).kind = 1 ∧ (T k).text = s
def Bare (W : Tx → Prop) (f : Tree) : Prop := ∃ s p, f = .mk 20 s [] 0 p [] ∧ W s
def Half (W : Tx → Prop) (h : Tree) : Prop := ∃ op n p r, h = .mk op [] [] n p [r] ∧ (op = 24 ∧ 1 ≤ n ∧ n ≤ 16 ∨ (op = 25 ∨ op = 26) ∧ n = 0) ∧ Al W r ∧ isE r
def XE (W : Tx → Prop) (i : Nat) (t : Tree) (j : Nat) : Prop := Al W t ∧ isE t ∧ i + sizeT t ≤ j
def XS (W : Tx → Prop) (i : Nat) (t : Tree) (j : Nat) : Prop := Al W t ∧ isS t ∧ i + sizeT t ≤ j
def XO (W : Tx → Prop) (op : Nat) (i : Nat) (t : Tree) (j : Nat) : Prop := Al W t ∧ t.op = op ∧ i + sizeT t ≤ j
def LX (X : Tree → Prop) (i : Nat) (ts : List Tree) (j : Nat) : Prop := (∀ t ∈ ts, X t) ∧ i + sizeL ts ≤ j
def Gd (W : Tx → Prop) : NT → Nat → List Tree → Nat → Prop
  | .decls, i, ts, j => LX (fun t => Al W t ∧ (t.op = 2 ∨ t.op = 3 ∨ t.op = 4)) i ts j
  | .parts, i, ts, j => LX (fun t => Al W t ∧ t.op = 5) i ts j
  | .params, i, ts, j => LX (fun t => Al W t ∧ t.op = 5) i ts j
  | .stmts, i, ts, j => LX (fun t => Al W t ∧ isS t) i ts j
  | .stmt, i, ts, j => ∃ t, ts = [t] ∧ XS W i t j
  | .branch, i, ts, j => ∃ t, ts = [t] ∧ XO W 10 i t j
  | .binary l, i, ts, j => 1 ≤ l → ∃ t, ts = [t] ∧ XE W i t j
  | .unary, i, ts, j => ∃ t, ts = [t] ∧ XE W i t j
  | .tail l, i, ts, j => 1 ≤ l → LX (Half W) i ts j
  | .fields, i, ts, j => LX (Bare W) i ts j
  | .args, i, ts, j => LX (fun t => Al W t ∧ isE t) i ts j
theorem sizeT_mk (op : Nat) (s ty : Tx) (n : Int) (p : Nat) (ks : List Tree) : sizeT (.mk op s ty n p ks) = sizeL ks + 1 := rfl
theorem sizeL_nil : sizeL [] = 0 := rfl
theorem sizeL_cons (t : Tree) (l : List Tree) : sizeL (t :: l) = sizeT t + sizeL l := rfl
theorem LX.nil {X : Tree → Prop} {i j : Nat} (h : i ≤ j) : LX X i [] j := ⟨(fun t ht => by cases ht), h⟩
theorem LX.cons {X : Tree → Prop} {i k j : Nat} {t : Tree} {ts : List Tree} (h : X t) (hs : i + sizeT t ≤ k) (hl : LX X k ts j) : LX X i (t :: ts) j :=
  ⟨fun u hu => by rcases List.mem_cons.1 hu with rfl | hu; exact h; exact hl.1 u hu, by rw [sizeL_cons]; have := hl.2; omega⟩
theorem LX.up {X : Tree → Prop} {i i' j j' : Nat} {ts : List Tree} (h : LX X i ts j) (h1 : i' ≤ i) (h2 : j ≤ j') : LX X i' ts j' := ⟨h.1, by have := h.2; omega⟩

/-- Fields behind a part. -/
theorem fold_bare {W : Tx → Prop} (fs : List Tree) : ∀ x, Al W x → isE x → (∀ f ∈ fs, Bare W f) → Al W (fs.foldl (fun a b => attach a b) x) ∧ isE (fs.foldl (fun a b => attach a b) x) ∧ sizeT (fs.foldl (fun a b => attach a b) x) = sizeT x + sizeL fs := by
  induction fs with
  | nil => intro x h1 h2 _; exact ⟨h1, h2, rfl⟩
  | cons f r ih =>
    intro x h1 h2 h3
    obtain ⟨s, p, rfl, hs⟩ := h3 f (List.mem_cons_self ..)
    have := ih (attach x (.mk 20 s [] 0 p [])) (.mk (.field hs h2) (fun u hu => by obtain rfl := List.mem_singleton.1 hu; exact h1)) ⟨by show 15 ≤ 20; omega, by show 20 ≤ 26; omega⟩ (fun g hg => h3 g (List.mem_cons_of_mem _ hg))
    refine ⟨this.1, this.2.1, ?_⟩
    rw [List.foldl_cons, this.2.2]
    simp only [attach, sizeT_mk, sizeL_cons, sizeL_nil]
    omega
theorem fold_half {W : Tx → Prop} (fs : List Tree) : ∀ x, Al W x → isE x → (∀ f ∈ fs, Half W f) → Al W (fs.foldl (fun a b => attach a b) x) ∧ isE (fs.foldl (fun a b => attach a b) x) ∧ sizeT (fs.foldl (fun a b => attach a b) x) = sizeT x + sizeL fs := by
  induction fs with
  | nil => intro x h1 h2 _; exact ⟨h1, h2, rfl⟩
  | cons f r ih =>
    intro x h1 h2 h3
    obtain ⟨op, n, p, y, rfl, ho, hy, hey⟩ := h3 f (List.mem_cons_self ..)
    have := ih (attach x (.mk op [] [] n p [y])) (.mk (.binary ho h2 hey) (fun u hu => by
      rcases List.mem_cons.1 hu with rfl | hu
      · exact h1
      · obtain rfl := List.mem_singleton.1 hu; exact hy)) (show 15 ≤ op ∧ op ≤ 26 by omega) (fun g hg => h3 g (List.mem_cons_of_mem _ hg))
    refine ⟨this.1, this.2.1, ?_⟩
    rw [List.foldl_cons, this.2.2]
    simp only [attach, sizeT_mk, sizeL_cons, sizeL_nil]
    omega
theorem put_al {W : Tx → Prop} (fs : List Tree) : ∀ h f v, Al W h → isE h → Bare W f → (∀ g ∈ fs, Bare W g) → Al W v → isE v → Al W (putT h f fs v) ∧ (putT h f fs v).op = 9 ∧ sizeT (putT h f fs v) = sizeT h + sizeT f + sizeL fs + sizeT v := by
  induction fs with
  | nil =>
    rintro h f v h1 h2 ⟨s, p, rfl, hs⟩ _ h5 h6
    refine ⟨.mk (.put hs h2 h6) (fun u hu => ?_), rfl, ?_⟩
    · rcases List.mem_cons.1 hu with rfl | hu
      · exact h1
      · obtain rfl := List.mem_singleton.1 hu; exact h5
    · simp only [putT, sizeT_mk, sizeL_cons, sizeL_nil]; omega
  | cons g r ih =>
    rintro h f v h1 h2 ⟨s, p, rfl, hs⟩ h4 h5 h6
    have := ih (attach h (.mk 20 s [] 0 p [])) g v (.mk (.field hs h2) (fun u hu => by obtain rfl := List.mem_singleton.1 hu; exact h1)) ⟨by show 15 ≤ 20; omega, by show 20 ≤ 26; omega⟩ (h4 g (List.mem_cons_self ..)) (fun g hg => h4 g (List.mem_cons_of_mem _ hg)) h5 h6
    refine ⟨this.1, this.2.1, ?_⟩
    rw [putT, this.2.2]
    simp only [attach, sizeT_mk, sizeL_cons, sizeL_nil]
    omega

section
variable {T : Nat → AT} {c : Callee} (C : ∀ nt d i ts j, c nt d i = some (.ok ts j) → Gd (Wd T) nt i ts j) (HN : ∀ k, (T k).kind = 3 → numN (T k).text ≤ 9223372036854775807)
include C in
theorem l_expr (d i : Nat) : Lf T c (XE (Wd T) i) (expr d) i := lf_call fun ts j h => by
  obtain ⟨t, rfl, ht⟩ := C _ _ _ _ _ h (Nat.le_refl _)
  exact lf_ret ht
theorem l_typ (i : Nat) : Lf T c (fun ty j => Ty (Wd T) ty ∧ i + 1 ≤ j) typ i :=
  lf_peek (lf_ite (fun _ => lf_next (lf_ret ⟨.inl rfl, Nat.le_refl _⟩)) fun _ => lf_ite (fun _ => lf_next (lf_ret ⟨.inr (.inl rfl), Nat.le_refl _⟩)) fun _ =>
    lf_bind lf_need fun a j h => lf_bind lf_word fun b k g => lf_ret ⟨.inr (.inr ⟨_, rfl, by rw [g.1]; exact ⟨j, g.2.1, rfl⟩⟩), by omega⟩)
theorem l_typed (op i : Nat) (ho : op = 3 ∨ op = 5) : Lf T c (XO (Wd T) op i) (typed op) i :=
  lf_bind lf_word fun p j h => lf_bind (l_typ j) fun ty k g => lf_ret ⟨.mk (.var ho (by rw [h.1]; exact ⟨i, h.2.1, rfl⟩) g.1) (fun u hu => by cases hu), rfl, by rw [sizeT_mk, sizeL_nil]; omega⟩
theorem l_named (op i : Nat) (ho : op = 3 ∨ op = 5) : Lf T c (XO (Wd T) op i) (named op) i :=
  lf_bind (l_typed op i ho) fun x j h => lf_bind lf_need fun a k g => lf_ret ⟨h.1, h.2.1, by have := h.2.2; omega⟩
include C in
theorem l_block (d i : Nat) : Lf T c (XO (Wd T) 6 i) (block d) i :=
  lf_bind lf_enter fun a j h => lf_call fun ks k g => lf_ret (by
    have := C _ _ _ _ _ g
    exact ⟨.mk (.block fun u hu => (this.1 u hu).2) (fun u hu => (this.1 u hu).1), rfl, by rw [sizeT_mk]; have := this.2; omega⟩)
include C in
theorem l_struct (i : Nat) : Lf T c (XO (Wd T) 2 i) structure_ i :=
  lf_bind lf_word fun p j h => lf_bind lf_need fun _ k g => lf_bind lf_need fun _ m f => lf_call fun ks n e => lf_ret (by
    have := C _ _ _ _ _ e
    exact ⟨.mk (.struct (by rw [h.1]; exact ⟨i, h.2.1, rfl⟩) fun u hu => (this.1 u hu).2) (fun u hu => (this.1 u hu).1), rfl, by rw [sizeT_mk]; have := this.2; omega⟩)
include C in
theorem l_fparts (i : Nat) : Lf T c (fun ks j => LX (fun t => Al (Wd T) t ∧ t.op = 5) i ks j) fparts i :=
  lf_bind lf_need fun _ j h => lf_peek (lf_ite (fun _ => lf_next (lf_ret (LX.nil (by omega)))) fun _ =>
    lf_bind (l_typed 5 j (.inr rfl)) fun x k g => lf_call fun xs m e => lf_ret (LX.cons ⟨g.1, g.2.1⟩ (by have := g.2.2; omega) (C _ _ _ _ _ e)))
include C in
theorem l_function (d i : Nat) : Lf T c (XO (Wd T) 4 i) (function d) i :=
  lf_bind lf_word fun p j h => lf_bind (l_fparts C j) fun ks k g =>
    lf_bind (Ψ := fun ty m => (ty = [] ∨ Ty (Wd T) ty) ∧ k ≤ m) (lf_peek (lf_ite (fun _ => lf_ret ⟨.inl rfl, Nat.le_refl _⟩) fun _ => (l_typ k).imp fun a j h => ⟨.inr h.1, by omega⟩)) fun ty m f =>
      lf_bind (l_block C d m) fun b n e => lf_ret ⟨.mk (.func (by rw [h.1]; exact ⟨i, h.2.1, rfl⟩) f.1 (fun u hu => (g.1 u hu).2) e.2.1) (fun u hu => by
        rcases List.mem_append.1 hu with hu | hu
        · exact (g.1 u hu).1
        · obtain rfl := List.mem_singleton.1 hu; exact e.1), rfl, by rw [sizeT_mk, sizeL_append, sizeL_cons, sizeL_nil]; have := g.2; have := e.2.2; omega⟩
include C in
theorem l_decl (d i : Nat) : Lf T c (fun t j => (Al (Wd T) t ∧ (t.op = 2 ∨ t.op = 3 ∨ t.op = 4)) ∧ i + sizeT t ≤ j) (decl d) i :=
  lf_peek (lf_ite (fun _ => lf_next ((l_struct C _).imp fun a j h => ⟨⟨h.1, .inl h.2.1⟩, by have := h.2.2; omega⟩)) fun _ =>
    lf_ite (fun _ => lf_next ((l_named 3 _ (.inl rfl)).imp fun a j h => ⟨⟨h.1, .inr (.inl h.2.1)⟩, by have := h.2.2; omega⟩)) fun _ =>
    lf_ite (fun _ => lf_next ((l_function C d _).imp fun a j h => ⟨⟨h.1, .inr (.inr h.2.1)⟩, by have := h.2.2; omega⟩)) fun _ => lf_fail)
include C in
theorem l_args (d i : Nat) : Lf T c (fun ks j => LX (fun t => Al (Wd T) t ∧ isE t) i ks j) (args d) i :=
  lf_bind lf_enter fun _ j h => lf_peek (lf_ite (fun _ => lf_bind lf_need fun _ k g => lf_ret (LX.nil (by omega))) fun _ =>
    lf_bind (l_expr C (d + 1) j) fun x k g => lf_call fun xs m e => lf_ret (LX.cons ⟨g.1, g.2.1⟩ (by have := g.2.2; omega) (C _ _ _ _ _ e)))
include C in
theorem l_brack (d i : Nat) : Lf T c (XE (Wd T) i) (brack d) i :=
  lf_bind lf_enter fun _ j h => lf_bind (l_expr C (d + 1) j) fun x k g => lf_bind lf_need fun _ m e => lf_ret ⟨g.1, g.2.1, by have := g.2.2; omega⟩
include C in
theorem l_varOrCall (d i : Nat) : Lf T c (XE (Wd T) i) (varOrCall d) i :=
  lf_bind lf_word fun p j h => lf_peek (lf_ite (fun _ => lf_bind (l_args C d j) fun ks k g => lf_ret ⟨.mk (.call (by rw [h.1]; exact ⟨i, h.2.1, rfl⟩) fun u hu => (g.1 u hu).2) (fun u hu => (g.1 u hu).1), ⟨by show 15 ≤ 21; omega, by show 21 ≤ 26; omega⟩, by rw [sizeT_mk]; have := g.2; omega⟩) fun _ =>
    lf_ret ⟨.mk (.name (.inl rfl) (by rw [h.1]; exact ⟨i, h.2.1, rfl⟩)) (fun u hu => by cases hu), ⟨by show 15 ≤ 18; omega, by show 18 ≤ 26; omega⟩, by rw [sizeT_mk, sizeL_nil]; omega⟩)
theorem l_creation (i : Nat) : Lf T c (XE (Wd T) i) creation i :=
  lf_bind lf_need fun _ j h => lf_bind lf_need fun _ k g => lf_bind lf_word fun p m f => lf_bind lf_need fun _ n e => lf_ret ⟨.mk (.name (.inr rfl) (by rw [f.1]; exact ⟨k, f.2.1, rfl⟩)) (fun u hu => by cases hu), ⟨by show 15 ≤ 19; omega, by show 19 ≤ 26; omega⟩, by rw [sizeT_mk, sizeL_nil]; omega⟩
theorem l_input (i : Nat) : Lf T c (XE (Wd T) i) input i :=
  lf_bind lf_need fun _ j h => lf_bind lf_need fun _ k g => lf_bind lf_need fun _ n e => lf_ret ⟨.mk .input (fun u hu => by cases hu), ⟨by show 15 ≤ 22; omega, by show 22 ≤ 26; omega⟩, by rw [sizeT_mk, sizeL_nil]; omega⟩
theorem leaf {W : Tx → Prop} {op : Nat} {n : Int} {i j : Nat} (h : Loc W (.mk op [] [] n i [])) (h1 : 15 ≤ op) (h2 : op ≤ 26) (hj : j = i + 1) : XE W i (.mk op [] [] n i []) j := ⟨.mk h (fun u hu => by cases hu), ⟨h1, h2⟩, by rw [sizeT_mk, sizeL_nil]; omega⟩
include C HN in
theorem l_primary (d i : Nat) : Lf T c (XE (Wd T) i) (primary d) i :=
  lf_peek (lf_ite (fun h => lf_next (lf_ret (leaf (.num (Int.natCast_nonneg _) (HN i h)) (by omega) (by omega) rfl))) fun _ => lf_ite (fun _ => l_varOrCall C d i) fun _ =>
    lf_ite (fun _ => lf_next (lf_ret (leaf (.truth (.inr rfl)) (by omega) (by omega) rfl))) fun _ => lf_ite (fun _ => lf_next (lf_ret (leaf (.truth (.inl rfl)) (by omega) (by omega) rfl))) fun _ =>
    lf_ite (fun _ => lf_next (lf_ret (leaf .none (by omega) (by omega) rfl))) fun _ => lf_ite (fun _ => l_creation i) fun _ => lf_ite (fun _ => l_input i) fun _ => lf_ite (fun _ => l_brack C d i) fun _ => lf_fail)
theorem l_fieldName (i : Nat) : Lf T c (fun p j => Wd T p.2 ∧ i + 2 ≤ j) fieldName i :=
  lf_bind lf_need fun _ j h => lf_word.imp fun p k g => ⟨by rw [g.1]; exact ⟨j, g.2.1, rfl⟩, by omega⟩
include C HN in
theorem l_postfix (d i : Nat) : Lf T c (XE (Wd T) i) (postfix_ d) i :=
  lf_bind (l_primary C HN d i) fun x j h => lf_call fun fs k g => lf_ret (by
    have hg := C _ _ _ _ _ g
    have := fold_bare fs x h.1 h.2.1 hg.1
    exact ⟨this.1, this.2.1, by rw [this.2.2]; have := hg.2; have := h.2.2; omega⟩)
end

end Go.Proofs.YtfbejfoalnhihaaGreatDoor
