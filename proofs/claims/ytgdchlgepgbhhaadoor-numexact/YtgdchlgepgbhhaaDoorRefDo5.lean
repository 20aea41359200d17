/-
  CONTRACTS: what the reference's Do answers, op by op, in terms of bit vectors; of what was there nothing has turned. Conditions: as each states them.
-/
import Derived.Test.YtgdchlgepgbhhaaDoorRefDo4
namespace Go.Proofs.YtgdchlgepgbhhaaDoor
open Go.RowKit


set_option maxHeartbeats 1000000 in
set_option maxRecDepth 100000 in
theorem refDo_5pp (x y : Int) (a b : B64) (w : World) (HA : Hid (BitVec.ofInt 64 x = a)) (HB : Hid (BitVec.ofInt 64 y = b)) (sa sb q r : B64) (HSA : Hid (sizeV a = sa)) (HSB : Hid (sizeV b = sb)) (H0 : Hid (0 < sb.toNat)) (HQ : Hid (sa / sb = q)) (HR : Hid (sa % sb = r)) (HB0 : Hid ((b == 0#64) = false)) (hsa : a.getLsbD 63 = false) (hsb : b.getLsbD 63 = false) (v : Int) (HV : Hid (r.toInt = v)) :
    Calls Tryd.prog 12 #[.int .i64 5, .int .i64 x, .int .i64 y] w fun e w' => e = .returned (.tuple #[.int .i64 v, .int .i64 0]) ∧ Below w.heap.size w w' := by
  go_enter Tryd.func12, Tryd.ntmps12
  go_wp2_with fail
  refine (from_to x a _ HA).mono ?_
  rintro e w1 ⟨rfl, B1⟩
  go_wp2_with (first | (refine wpList_alloc44 rfl rfl ?_; intro ga w2 H2 A2 B2; refine wpList_store44 rfl _ _ rfl ga a.getLsbD rfl rfl noF A2 ?_; intro w3 A3 B3; refine Hid.out ?_))
  have e2 := H2.out
  have s1 := B1.size
  have s2 := B2.size
  have o0 : w.heap.size ≤ ga := by omega
  have C3 := B3.under (B1.trans (B2.mono s1)) (by omega) o0
  have l3 := A3.lt
  clear A2 B1 B2 B3 H2 e2 s1 s2
  refine Lib.hid ?_
  go_wp2_with fail
  refine (from_to y b _ HB).mono ?_
  rintro e w4 ⟨rfl, B4⟩
  go_wp2_with (first | (refine wpList_alloc44 rfl rfl ?_; intro gb w5 H5 A5 B5; refine wpList_store44 rfl _ _ rfl gb b.getLsbD rfl rfl noF A5 ?_; intro w6 A6 B6; refine Hid.out ?_))
  have e5 := H5.out
  have s4 := B4.size
  have s5 := B5.size
  have o1 : ga < gb := by omega
  have X6 := ((A3.below B4).below B5).but B6 (by omega)
  have C6 := B6.under ((C3.trans (B4.mono C3.size)).trans (B5.mono (Nat.le_trans C3.size s4))) (by have := C3.size; omega) (by omega)
  have l6 := A6.lt
  clear A3 A5 B4 B5 B6 H5 e5 s4 s5 l3 C3
  refine Lib.hid ?_
  go_wp2_with (first | (refine wpList_build44 rfl rfl ?_; refine wpList_alloc44 rfl rfl ?_; intro go w7 H7 A7 B7; refine wpList_store44 rfl _ _ rfl go noF rfl rfl noF A7 ?_; intro w8 O B8; refine Hid.out ?_))
  have e7 := H7.out
  have s7 := B7.size
  have o2 : gb < go := by omega
  have X := (X6.below B7).but B8 (by omega)
  have Y := (A6.below B7).but B8 (by omega)
  have C := B8.under (C6.trans (B7.mono C6.size)) (by have := C6.size; omega) (by omega)
  have o3 : w.heap.size ≤ go := by omega
  clear X6 A6 A7 B7 B8 H7 e7 s7 l6 C6
  refine Lib.hid ?_
  go_wp2_with (first | (refine wpList_load44 rfl _ rfl gb rfl b.getLsbD Y ?_; refine wpList_build44 rfl rfl ?_; rw [noF_zero]; refine wpList_eql44 rfl _ _ _ rfl b 0#64 rfl rfl false HB0 ?_))
  refine wp_region_cut (Cut w ga gb go a b q r) (fun a0 g h => (((((((((a0.put (some 55) (.agg (encF a.getLsbD))).put (some 57) (.agg (encF b.getLsbD))).put (some 56) (.agg (encF sa.getLsbD))).put (some 58) (.agg (encF sb.getLsbD))).put (some 59) (.tuple #[.agg (encF q.getLsbD), .agg (encF r.getLsbD)])).put (some 54) (.tuple #[.agg (encF q.getLsbD), .agg (encF r.getLsbD)])).put (some 60) (.agg (encF q.getLsbD))).put (some 61) (.agg (encF r.getLsbD))).put (some 12) (.pointer (some ⟨g, 0, none⟩))).put (some 13) (.pointer (some ⟨h, 0, none⟩))) ?_ ?_
  · refine wp_region_held_drew (S := fun w' => Three w' ga gb go a b) (by kernel_rfl) ⟨X, Y, O⟩ (fun V => ?_)
    have C := C.drew
    clear X Y O
    generalize w8.drew = wd at V C ⊢
    refine take44 0 (some 55) (.tmp 8) ga a.getLsbD rfl rfl rfl (by kernel_rfl) (by kernel_rfl) (by kernel_rfl) (by kernel_rfl) (by kernel_rfl) CutQ.quiet (fun w h => h.a) V ?_
    refine take44 2 (some 57) (.tmp 9) gb b.getLsbD rfl rfl rfl (by kernel_rfl) (by kernel_rfl) (by kernel_rfl) (by kernel_rfl) (by kernel_rfl) CutQ.quiet (fun w h => h.b) V ?_
    refine three_ready (i := 1) (j := 8) (k := 9) (by kernel_rfl) ?_ ?_ ?_
    · skip
      refine step_call rfl #[.agg (encF a.getLsbD)] (.agg (encF sa.getLsbD)) (enter35 _) (by kernel_rfl) (size_to a sa _ HSA) ?_
      intro w1 B
      have C := C.trans (B.mono C.size)
      have V := V.below B
      refine ⟨V, ?_⟩
      refine three_ready (i := 3) (j := 8) (k := 9) (by kernel_rfl) ?_ ?_ ?_
      · skip
        refine step_call rfl #[.agg (encF b.getLsbD)] (.agg (encF sb.getLsbD)) (enter35 _) (by kernel_rfl) (size_to b sb _ HSB) ?_
        intro w1 B
        have C := C.trans (B.mono C.size)
        have V := V.below B
        refine ⟨V, ?_⟩
        refine three_ready (i := 4) (j := 8) (k := 9) (by kernel_rfl) ?_ ?_ ?_
        · skip
          refine step_call rfl #[.agg (encF sa.getLsbD), .agg (encF sb.getLsbD)] (.tuple #[.agg (encF q.getLsbD), .agg (encF r.getLsbD)]) (enter34 _) (by kernel_rfl) (divide_to sa sb q r H0.out _ HQ HR) ?_
          intro w1 B
          have C := C.trans (B.mono C.size)
          have V := V.below B
          refine ⟨V, ?_⟩
          refine takeMove 5 (some 54) (.tmp 59) (.tuple #[.agg (encF q.getLsbD), .agg (encF r.getLsbD)]) rfl rfl rfl (by kernel_rfl) (by kernel_rfl) (by kernel_rfl) (by kernel_rfl) (by kernel_rfl) CutQ.quiet V ?_
          refine takeExtract 6 (some 60) (.tmp 54) 0 #[.agg (encF q.getLsbD), .agg (encF r.getLsbD)] (.agg (encF q.getLsbD)) rfl rfl rfl (by kernel_rfl) (by kernel_rfl) (by kernel_rfl) (by kernel_rfl) (by kernel_rfl) (by kernel_rfl) CutQ.quiet V ?_
          refine takeExtract 7 (some 61) (.tmp 54) 1 #[.agg (encF q.getLsbD), .agg (encF r.getLsbD)] (.agg (encF r.getLsbD)) rfl rfl rfl (by kernel_rfl) (by kernel_rfl) (by kernel_rfl) (by kernel_rfl) (by kernel_rfl) (by kernel_rfl) CutQ.quiet V ?_
          refine two_ready (i := 8) (j := 9) (by kernel_rfl) ?_ ?_
          · skip
            refine step_alloc44 rfl rfl (some 12) rfl rfl ?_
            intro g w1 I G B
            have og : go < g := by have := I.out; have := V.o.lt; omega
            have C := C.trans (B.mono C.size)
            have V := V.below B
            refine ⟨V, ?_⟩
            refine one_ready (i := 9) (by kernel_rfl) ?_
            refine step_alloc44 rfl rfl (some 13) rfl rfl ?_
            intro h w1 I H B
            have oh : go < h := by have := I.out; have := V.o.lt; omega
            have ne : g ≠ h := by have := I.out; have := G.lt; omega
            have C := C.trans (B.mono C.size)
            have V := V.below B
            have G := G.below B
            refine ⟨V, ?_⟩
            refine one_ready (i := 10) (by kernel_rfl) ?_
            refine step_store44 rfl rfl rfl (.tmp 12) (.tmp 60) rfl g q.getLsbD (by kernel_rfl) (by kernel_rfl) noF G ?_
            intro w1 G B
            have C := B.under C C.size (by omega)
            have V := V.but B o1 o2 og
            have H := H.but B (Ne.symm ne)
            refine ⟨V, ?_⟩
            refine one_ready (i := 11) (by kernel_rfl) ?_
            refine step_store44 rfl rfl rfl (.tmp 13) (.tmp 61) rfl h r.getLsbD (by kernel_rfl) (by kernel_rfl) noF H ?_
            intro w1 H B
            have C := B.under C C.size (by omega)
            have V := V.but B o1 o2 oh
            have G := G.but B ne
            refine ⟨V, ?_⟩
            exact wpAnyH_done (by kernel_rfl) ⟨g, h, ⟨V, G, H, C, og, oh, ne⟩, rfl, by kernel_rfl⟩ _
          · skip
            refine step_alloc44 rfl rfl (some 13) rfl rfl ?_
            intro h w1 I H B
            have oh : go < h := by have := I.out; have := V.o.lt; omega
            have C := C.trans (B.mono C.size)
            have V := V.below B
            refine ⟨V, ?_⟩
            refine one_ready (i := 8) (by kernel_rfl) ?_
            refine step_alloc44 rfl rfl (some 12) rfl rfl ?_
            intro g w1 I G B
            have og : go < g := by have := I.out; have := V.o.lt; omega
            have ne : g ≠ h := by have := I.out; have := H.lt; omega
            have C := C.trans (B.mono C.size)
            have V := V.below B
            have H := H.below B
            refine ⟨V, ?_⟩
            refine one_ready (i := 10) (by kernel_rfl) ?_
            refine step_store44 rfl rfl rfl (.tmp 12) (.tmp 60) rfl g q.getLsbD (by kernel_rfl) (by kernel_rfl) noF G ?_
            intro w1 G B
            have C := B.under C C.size (by omega)
            have V := V.but B o1 o2 og
            have H := H.but B (Ne.symm ne)
            refine ⟨V, ?_⟩
            refine one_ready (i := 11) (by kernel_rfl) ?_
            refine step_store44 rfl rfl rfl (.tmp 13) (.tmp 61) rfl h r.getLsbD (by kernel_rfl) (by kernel_rfl) noF H ?_
            intro w1 H B
            have C := B.under C C.size (by omega)
            have V := V.but B o1 o2 oh
            have G := G.but B ne
            refine ⟨V, ?_⟩
            exact wpAnyH_done (by kernel_rfl) ⟨g, h, ⟨V, G, H, C, og, oh, ne⟩, rfl, by kernel_rfl⟩ _
        · skip
          refine step_alloc44 rfl rfl (some 12) rfl rfl ?_
          intro g w1 I G B
          have og : go < g := by have := I.out; have := V.o.lt; omega
          have C := C.trans (B.mono C.size)
          have V := V.below B
          refine ⟨V, ?_⟩
          refine two_ready (i := 4) (j := 9) (by kernel_rfl) ?_ ?_
          · skip
            refine step_call rfl #[.agg (encF sa.getLsbD), .agg (encF sb.getLsbD)] (.tuple #[.agg (encF q.getLsbD), .agg (encF r.getLsbD)]) (enter34 _) (by kernel_rfl) (divide_to sa sb q r H0.out _ HQ HR) ?_
            intro w1 B
            have C := C.trans (B.mono C.size)
            have V := V.below B
            have G := G.below B
            refine ⟨V, ?_⟩
            refine takeMove 5 (some 54) (.tmp 59) (.tuple #[.agg (encF q.getLsbD), .agg (encF r.getLsbD)]) rfl rfl rfl (by kernel_rfl) (by kernel_rfl) (by kernel_rfl) (by kernel_rfl) (by kernel_rfl) CutQ.quiet V ?_
            refine takeExtract 6 (some 60) (.tmp 54) 0 #[.agg (encF q.getLsbD), .agg (encF r.getLsbD)] (.agg (encF q.getLsbD)) rfl rfl rfl (by kernel_rfl) (by kernel_rfl) (by kernel_rfl) (by kernel_rfl) (by kernel_rfl) (by kernel_rfl) CutQ.quiet V ?_
            refine takeExtract 7 (some 61) (.tmp 54) 1 #[.agg (encF q.getLsbD), .agg (encF r.getLsbD)] (.agg (encF r.getLsbD)) rfl rfl rfl (by kernel_rfl) (by kernel_rfl) (by kernel_rfl) (by kernel_rfl) (by kernel_rfl) (by kernel_rfl) CutQ.quiet V ?_
            refine one_ready (i := 9) (by kernel_rfl) ?_
            refine step_alloc44 rfl rfl (some 13) rfl rfl ?_
            intro h w1 I H B
            have oh : go < h := by have := I.out; have := V.o.lt; omega
            have ne : g ≠ h := by have := I.out; have := G.lt; omega
            have C := C.trans (B.mono C.size)
            have V := V.below B
            have G := G.below B
            refine ⟨V, ?_⟩
            refine one_ready (i := 10) (by kernel_rfl) ?_
            refine step_store44 rfl rfl rfl (.tmp 12) (.tmp 60) rfl g q.getLsbD (by kernel_rfl) (by kernel_rfl) noF G ?_
            intro w1 G B
            have C := B.under C C.size (by omega)
            have V := V.but B o1 o2 og
            have H := H.but B (Ne.symm ne)
            refine ⟨V, ?_⟩
            refine one_ready (i := 11) (by kernel_rfl) ?_
            refine step_store44 rfl rfl rfl (.tmp 13) (.tmp 61) rfl h r.getLsbD (by kernel_rfl) (by kernel_rfl) noF H ?_
            intro w1 H B
            have C := B.under C C.size (by omega)
            have V := V.but B o1 o2 oh
            have G := G.but B ne
            refine ⟨V, ?_⟩
            exact wpAnyH_done (by kernel_rfl) ⟨g, h, ⟨V, G, H, C, og, oh, ne⟩, rfl, by kernel_rfl⟩ _
          · skip
            refine step_alloc44 rfl rfl (some 13) rfl rfl ?_
            intro h w1 I H B
            have oh : go < h := by have := I.out; have := V.o.lt; omega
            have ne : g ≠ h := by have := I.out; have := G.lt; omega
            have C := C.trans (B.mono C.size)
            have V := V.below B
            have G := G.below B
            refine ⟨V, ?_⟩
            refine one_ready (i := 4) (by kernel_rfl) ?_
            refine step_call rfl #[.agg (encF sa.getLsbD), .agg (encF sb.getLsbD)] (.tuple #[.agg (encF q.getLsbD), .agg (encF r.getLsbD)]) (enter34 _) (by kernel_rfl) (divide_to sa sb q r H0.out _ HQ HR) ?_
            intro w1 B
            have C := C.trans (B.mono C.size)
            have V := V.below B
            have G := G.below B
            have H := H.below B
            refine ⟨V, ?_⟩
            refine takeMove 5 (some 54) (.tmp 59) (.tuple #[.agg (encF q.getLsbD), .agg (encF r.getLsbD)]) rfl rfl rfl (by kernel_rfl) (by kernel_rfl) (by kernel_rfl) (by kernel_rfl) (by kernel_rfl) CutQ.quiet V ?_
            refine takeExtract 6 (some 60) (.tmp 54) 0 #[.agg (encF q.getLsbD), .agg (encF r.getLsbD)] (.agg (encF q.getLsbD)) rfl rfl rfl (by kernel_rfl) (by kernel_rfl) (by kernel_rfl) (by kernel_rfl) (by kernel_rfl) (by kernel_rfl) CutQ.quiet V ?_
            refine takeExtract 7 (some 61) (.tmp 54) 1 #[.agg (encF q.getLsbD), .agg (encF r.getLsbD)] (.agg (encF r.getLsbD)) rfl rfl rfl (by kernel_rfl) (by kernel_rfl) (by kernel_rfl) (by kernel_rfl) (by kernel_rfl) (by kernel_rfl) CutQ.quiet V ?_
            refine one_ready (i := 10) (by kernel_rfl) ?_
            refine step_store44 rfl rfl rfl (.tmp 12) (.tmp 60) rfl g q.getLsbD (by kernel_rfl) (by kernel_rfl) noF G ?_
            intro w1 G B
            have C := B.under C C.size (by omega)
            have V := V.but B o1 o2 og
            have H := H.but B (Ne.symm ne)
            refine ⟨V, ?_⟩
            refine one_ready (i := 11) (by kernel_rfl) ?_
            refine step_store44 rfl rfl rfl (.tmp 13) (.tmp 61) rfl h r.getLsbD (by kernel_rfl) (by kernel_rfl) noF H ?_
            intro w1 H B
            have C := B.under C C.size (by omega)
            have V := V.but B o1 o2 oh
            have G := G.but B ne
            refine ⟨V, ?_⟩
            exact wpAnyH_done (by kernel_rfl) ⟨g, h, ⟨V, G, H, C, og, oh, ne⟩, rfl, by kernel_rfl⟩ _
        · skip
          refine step_alloc44 rfl rfl (some 13) rfl rfl ?_
          intro h w1 I H B
          have oh : go < h := by have := I.out; have := V.o.lt; omega
          have C := C.trans (B.mono C.size)
          have V := V.below B
          refine ⟨V, ?_⟩
          refine two_ready (i := 4) (j := 8) (by kernel_rfl) ?_ ?_
          · skip
            refine step_call rfl #[.agg (encF sa.getLsbD), .agg (encF sb.getLsbD)] (.tuple #[.agg (encF q.getLsbD), .agg (encF r.getLsbD)]) (enter34 _) (by kernel_rfl) (divide_to sa sb q r H0.out _ HQ HR) ?_
            intro w1 B
            have C := C.trans (B.mono C.size)
            have V := V.below B
            have H := H.below B
            refine ⟨V, ?_⟩
            refine takeMove 5 (some 54) (.tmp 59) (.tuple #[.agg (encF q.getLsbD), .agg (encF r.getLsbD)]) rfl rfl rfl (by kernel_rfl) (by kernel_rfl) (by kernel_rfl) (by kernel_rfl) (by kernel_rfl) CutQ.quiet V ?_
            refine takeExtract 6 (some 60) (.tmp 54) 0 #[.agg (encF q.getLsbD), .agg (encF r.getLsbD)] (.agg (encF q.getLsbD)) rfl rfl rfl (by kernel_rfl) (by kernel_rfl) (by kernel_rfl) (by kernel_rfl) (by kernel_rfl) (by kernel_rfl) CutQ.quiet V ?_
            refine takeExtract 7 (some 61) (.tmp 54) 1 #[.agg (encF q.getLsbD), .agg (encF r.getLsbD)] (.agg (encF r.getLsbD)) rfl rfl rfl (by kernel_rfl) (by kernel_rfl) (by kernel_rfl) (by kernel_rfl) (by kernel_rfl) (by kernel_rfl) CutQ.quiet V ?_
            refine one_ready (i := 8) (by kernel_rfl) ?_
            refine step_alloc44 rfl rfl (some 12) rfl rfl ?_
            intro g w1 I G B
            have og : go < g := by have := I.out; have := V.o.lt; omega
            have ne : g ≠ h := by have := I.out; have := H.lt; omega
            have C := C.trans (B.mono C.size)
            have V := V.below B
            have H := H.below B
            refine ⟨V, ?_⟩
            refine one_ready (i := 10) (by kernel_rfl) ?_
            refine step_store44 rfl rfl rfl (.tmp 12) (.tmp 60) rfl g q.getLsbD (by kernel_rfl) (by kernel_rfl) noF G ?_
            intro w1 G B
            have C := B.under C C.size (by omega)
            have V := V.but B o1 o2 og
            have H := H.but B (Ne.symm ne)
            refine ⟨V, ?_⟩
            refine one_ready (i := 11) (by kernel_rfl) ?_
            refine step_store44 rfl rfl rfl (.tmp 13) (.tmp 61) rfl h r.getLsbD (by kernel_rfl) (by kernel_rfl) noF H ?_
            intro w1 H B
            have C := B.under C C.size (by omega)
            have V := V.but B o1 o2 oh
            have G := G.but B ne
            refine ⟨V, ?_⟩
            exact wpAnyH_done (by kernel_rfl) ⟨g, h, ⟨V, G, H, C, og, oh, ne⟩, rfl, by kernel_rfl⟩ _
          · skip
            refine step_alloc44 rfl rfl (some 12) rfl rfl ?_
            intro g w1 I G B
            have og : go < g := by have := I.out; have := V.o.lt; omega
            have ne : g ≠ h := by have := I.out; have := H.lt; omega
            have C := C.trans (B.mono C.size)
            have V := V.below B
            have H := H.below B
            refine ⟨V, ?_⟩
            refine one_ready (i := 4) (by kernel_rfl) ?_
            refine step_call rfl #[.agg (encF sa.getLsbD), .agg (encF sb.getLsbD)] (.tuple #[.agg (encF q.getLsbD), .agg (encF r.getLsbD)]) (enter34 _) (by kernel_rfl) (divide_to sa sb q r H0.out _ HQ HR) ?_
            intro w1 B
            have C := C.trans (B.mono C.size)
            have V := V.below B
            have G := G.below B
            have H := H.below B
            refine ⟨V, ?_⟩
            refine takeMove 5 (some 54) (.tmp 59) (.tuple #[.agg (encF q.getLsbD), .agg (encF r.getLsbD)]) rfl rfl rfl (by kernel_rfl) (by kernel_rfl) (by kernel_rfl) (by kernel_rfl) (by kernel_rfl) CutQ.quiet V ?_
            refine takeExtract 6 (some 60) (.tmp 54) 0 #[.agg (encF q.getLsbD), .agg (encF r.getLsbD)] (.agg (encF q.getLsbD)) rfl rfl rfl (by kernel_rfl) (by kernel_rfl) (by kernel_rfl) (by kernel_rfl) (by kernel_rfl) (by kernel_rfl) CutQ.quiet V ?_
            refine takeExtract 7 (some 61) (.tmp 54) 1 #[.agg (encF q.getLsbD), .agg (encF r.getLsbD)] (.agg (encF r.getLsbD)) rfl rfl rfl (by kernel_rfl) (by kernel_rfl) (by kernel_rfl) (by kernel_rfl) (by kernel_rfl) (by kernel_rfl) CutQ.quiet V ?_
            refine one_ready (i := 10) (by kernel_rfl) ?_
            refine step_store44 rfl rfl rfl (.tmp 12) (.tmp 60) rfl g q.getLsbD (by kernel_rfl) (by kernel_rfl) noF G ?_
            intro w1 G B
            have C := B.under C C.size (by omega)
            have V := V.but B o1 o2 og
            have H := H.but B (Ne.symm ne)
            refine ⟨V, ?_⟩
            refine one_ready (i := 11) (by kernel_rfl) ?_
            refine step_store44 rfl rfl rfl (.tmp 13) (.tmp 61) rfl h r.getLsbD (by kernel_rfl) (by kernel_rfl) noF H ?_
            intro w1 H B
            have C := B.under C C.size (by omega)
            have V := V.but B o1 o2 oh
            have G := G.but B ne
            refine ⟨V, ?_⟩
            exact wpAnyH_done (by kernel_rfl) ⟨g, h, ⟨V, G, H, C, og, oh, ne⟩, rfl, by kernel_rfl⟩ _
      · skip
        refine step_alloc44 rfl rfl (some 12) rfl rfl ?_
        intro g w1 I G B
        have og : go < g := by have := I.out; have := V.o.lt; omega
        have C := C.trans (B.mono C.size)
        have V := V.below B
        refine ⟨V, ?_⟩
        refine two_ready (i := 3) (j := 9) (by kernel_rfl) ?_ ?_
        · skip
          refine step_call rfl #[.agg (encF b.getLsbD)] (.agg (encF sb.getLsbD)) (enter35 _) (by kernel_rfl) (size_to b sb _ HSB) ?_
          intro w1 B
          have C := C.trans (B.mono C.size)
          have V := V.below B
          have G := G.below B
          refine ⟨V, ?_⟩
          refine two_ready (i := 4) (j := 9) (by kernel_rfl) ?_ ?_
          · skip
            refine step_call rfl #[.agg (encF sa.getLsbD), .agg (encF sb.getLsbD)] (.tuple #[.agg (encF q.getLsbD), .agg (encF r.getLsbD)]) (enter34 _) (by kernel_rfl) (divide_to sa sb q r H0.out _ HQ HR) ?_
            intro w1 B
            have C := C.trans (B.mono C.size)
            have V := V.below B
            have G := G.below B
            refine ⟨V, ?_⟩
            refine takeMove 5 (some 54) (.tmp 59) (.tuple #[.agg (encF q.getLsbD), .agg (encF r.getLsbD)]) rfl rfl rfl (by kernel_rfl) (by kernel_rfl) (by kernel_rfl) (by kernel_rfl) (by kernel_rfl) CutQ.quiet V ?_
            refine takeExtract 6 (some 60) (.tmp 54) 0 #[.agg (encF q.getLsbD), .agg (encF r.getLsbD)] (.agg (encF q.getLsbD)) rfl rfl rfl (by kernel_rfl) (by kernel_rfl) (by kernel_rfl) (by kernel_rfl) (by kernel_rfl) (by kernel_rfl) CutQ.quiet V ?_
            refine takeExtract 7 (some 61) (.tmp 54) 1 #[.agg (encF q.getLsbD), .agg (encF r.getLsbD)] (.agg (encF r.getLsbD)) rfl rfl rfl (by kernel_rfl) (by kernel_rfl) (by kernel_rfl) (by kernel_rfl) (by kernel_rfl) (by kernel_rfl) CutQ.quiet V ?_
            refine one_ready (i := 9) (by kernel_rfl) ?_
            refine step_alloc44 rfl rfl (some 13) rfl rfl ?_
            intro h w1 I H B
            have oh : go < h := by have := I.out; have := V.o.lt; omega
            have ne : g ≠ h := by have := I.out; have := G.lt; omega
            have C := C.trans (B.mono C.size)
            have V := V.below B
            have G := G.below B
            refine ⟨V, ?_⟩
            refine one_ready (i := 10) (by kernel_rfl) ?_
            refine step_store44 rfl rfl rfl (.tmp 12) (.tmp 60) rfl g q.getLsbD (by kernel_rfl) (by kernel_rfl) noF G ?_
            intro w1 G B
            have C := B.under C C.size (by omega)
            have V := V.but B o1 o2 og
            have H := H.but B (Ne.symm ne)
            refine ⟨V, ?_⟩
            refine one_ready (i := 11) (by kernel_rfl) ?_
            refine step_store44 rfl rfl rfl (.tmp 13) (.tmp 61) rfl h r.getLsbD (by kernel_rfl) (by kernel_rfl) noF H ?_
            intro w1 H B
            have C := B.under C C.size (by omega)
            have V := V.but B o1 o2 oh
            have G := G.but B ne
            refine ⟨V, ?_⟩
            exact wpAnyH_done (by kernel_rfl) ⟨g, h, ⟨V, G, H, C, og, oh, ne⟩, rfl, by kernel_rfl⟩ _
          · skip
            refine step_alloc44 rfl rfl (some 13) rfl rfl ?_
            intro h w1 I H B
            have oh : go < h := by have := I.out; have := V.o.lt; omega
            have ne : g ≠ h := by have := I.out; have := G.lt; omega
            have C := C.trans (B.mono C.size)
            have V := V.below B
            have G := G.below B
            refine ⟨V, ?_⟩
            refine one_ready (i := 4) (by kernel_rfl) ?_
            refine step_call rfl #[.agg (encF sa.getLsbD), .agg (encF sb.getLsbD)] (.tuple #[.agg (encF q.getLsbD), .agg (encF r.getLsbD)]) (enter34 _) (by kernel_rfl) (divide_to sa sb q r H0.out _ HQ HR) ?_
            intro w1 B
            have C := C.trans (B.mono C.size)
            have V := V.below B
            have G := G.below B
            have H := H.below B
            refine ⟨V, ?_⟩
            refine takeMove 5 (some 54) (.tmp 59) (.tuple #[.agg (encF q.getLsbD), .agg (encF r.getLsbD)]) rfl rfl rfl (by kernel_rfl) (by kernel_rfl) (by kernel_rfl) (by kernel_rfl) (by kernel_rfl) CutQ.quiet V ?_
            refine takeExtract 6 (some 60) (.tmp 54) 0 #[.agg (encF q.getLsbD), .agg (encF r.getLsbD)] (.agg (encF q.getLsbD)) rfl rfl rfl (by kernel_rfl) (by kernel_rfl) (by kernel_rfl) (by kernel_rfl) (by kernel_rfl) (by kernel_rfl) CutQ.quiet V ?_
            refine takeExtract 7 (some 61) (.tmp 54) 1 #[.agg (encF q.getLsbD), .agg (encF r.getLsbD)] (.agg (encF r.getLsbD)) rfl rfl rfl (by kernel_rfl) (by kernel_rfl) (by kernel_rfl) (by kernel_rfl) (by kernel_rfl) (by kernel_rfl) CutQ.quiet V ?_
            refine one_ready (i := 10) (by kernel_rfl) ?_
            refine step_store44 rfl rfl rfl (.tmp 12) (.tmp 60) rfl g q.getLsbD (by kernel_rfl) (by kernel_rfl) noF G ?_
            intro w1 G B
            have C := B.under C C.size (by omega)
            have V := V.but B o1 o2 og
            have H := H.but B (Ne.symm ne)
            refine ⟨V, ?_⟩
            refine one_ready (i := 11) (by kernel_rfl) ?_
            refine step_store44 rfl rfl rfl (.tmp 13) (.tmp 61) rfl h r.getLsbD (by kernel_rfl) (by kernel_rfl) noF H ?_
            intro w1 H B
            have C := B.under C C.size (by omega)
            have V := V.but B o1 o2 oh
            have G := G.but B ne
            refine ⟨V, ?_⟩
            exact wpAnyH_done (by kernel_rfl) ⟨g, h, ⟨V, G, H, C, og, oh, ne⟩, rfl, by kernel_rfl⟩ _
        · skip
          refine step_alloc44 rfl rfl (some 13) rfl rfl ?_
          intro h w1 I H B
          have oh : go < h := by have := I.out; have := V.o.lt; omega
          have ne : g ≠ h := by have := I.out; have := G.lt; omega
          have C := C.trans (B.mono C.size)
          have V := V.below B
          have G := G.below B
          refine ⟨V, ?_⟩
          refine one_ready (i := 3) (by kernel_rfl) ?_
          refine step_call rfl #[.agg (encF b.getLsbD)] (.agg (encF sb.getLsbD)) (enter35 _) (by kernel_rfl) (size_to b sb _ HSB) ?_
          intro w1 B
          have C := C.trans (B.mono C.size)
          have V := V.below B
          have G := G.below B
          have H := H.below B
          refine ⟨V, ?_⟩
          refine one_ready (i := 4) (by kernel_rfl) ?_
          refine step_call rfl #[.agg (encF sa.getLsbD), .agg (encF sb.getLsbD)] (.tuple #[.agg (encF q.getLsbD), .agg (encF r.getLsbD)]) (enter34 _) (by kernel_rfl) (divide_to sa sb q r H0.out _ HQ HR) ?_
          intro w1 B
          have C := C.trans (B.mono C.size)
          have V := V.below B
          have G := G.below B
          have H := H.below B
          refine ⟨V, ?_⟩
          refine takeMove 5 (some 54) (.tmp 59) (.tuple #[.agg (encF q.getLsbD), .agg (encF r.getLsbD)]) rfl rfl rfl (by kernel_rfl) (by kernel_rfl) (by kernel_rfl) (by kernel_rfl) (by kernel_rfl) CutQ.quiet V ?_
          refine takeExtract 6 (some 60) (.tmp 54) 0 #[.agg (encF q.getLsbD), .agg (encF r.getLsbD)] (.agg (encF q.getLsbD)) rfl rfl rfl (by kernel_rfl) (by kernel_rfl) (by kernel_rfl) (by kernel_rfl) (by kernel_rfl) (by kernel_rfl) CutQ.quiet V ?_
          refine takeExtract 7 (some 61) (.tmp 54) 1 #[.agg (encF q.getLsbD), .agg (encF r.getLsbD)] (.agg (encF r.getLsbD)) rfl rfl rfl (by kernel_rfl) (by kernel_rfl) (by kernel_rfl) (by kernel_rfl) (by kernel_rfl) (by kernel_rfl) CutQ.quiet V ?_
          refine one_ready (i := 10) (by kernel_rfl) ?_
          refine step_store44 rfl rfl rfl (.tmp 12) (.tmp 60) rfl g q.getLsbD (by kernel_rfl) (by kernel_rfl) noF G ?_
          intro w1 G B
          have C := B.under C C.size (by omega)
          have V := V.but B o1 o2 og
          have H := H.but B (Ne.symm ne)
          refine ⟨V, ?_⟩
          refine one_ready (i := 11) (by kernel_rfl) ?_
          refine step_store44 rfl rfl rfl (.tmp 13) (.tmp 61) rfl h r.getLsbD (by kernel_rfl) (by kernel_rfl) noF H ?_
          intro w1 H B
          have C := B.under C C.size (by omega)
          have V := V.but B o1 o2 oh
          have G := G.but B ne
          refine ⟨V, ?_⟩
          exact wpAnyH_done (by kernel_rfl) ⟨g, h, ⟨V, G, H, C, og, oh, ne⟩, rfl, by kernel_rfl⟩ _
      · skip
        refine step_alloc44 rfl rfl (some 13) rfl rfl ?_
        intro h w1 I H B
        have oh : go < h := by have := I.out; have := V.o.lt; omega
        have C := C.trans (B.mono C.size)
        have V := V.below B
        refine ⟨V, ?_⟩
        refine two_ready (i := 3) (j := 8) (by kernel_rfl) ?_ ?_
        · skip
          refine step_call rfl #[.agg (encF b.getLsbD)] (.agg (encF sb.getLsbD)) (enter35 _) (by kernel_rfl) (size_to b sb _ HSB) ?_
          intro w1 B
          have C := C.trans (B.mono C.size)
          have V := V.below B
          have H := H.below B
          refine ⟨V, ?_⟩
          refine two_ready (i := 4) (j := 8) (by kernel_rfl) ?_ ?_
          · skip
            refine step_call rfl #[.agg (encF sa.getLsbD), .agg (encF sb.getLsbD)] (.tuple #[.agg (encF q.getLsbD), .agg (encF r.getLsbD)]) (enter34 _) (by kernel_rfl) (divide_to sa sb q r H0.out _ HQ HR) ?_
            intro w1 B
            have C := C.trans (B.mono C.size)
            have V := V.below B
            have H := H.below B
            refine ⟨V, ?_⟩
            refine takeMove 5 (some 54) (.tmp 59) (.tuple #[.agg (encF q.getLsbD), .agg (encF r.getLsbD)]) rfl rfl rfl (by kernel_rfl) (by kernel_rfl) (by kernel_rfl) (by kernel_rfl) (by kernel_rfl) CutQ.quiet V ?_
            refine takeExtract 6 (some 60) (.tmp 54) 0 #[.agg (encF q.getLsbD), .agg (encF r.getLsbD)] (.agg (encF q.getLsbD)) rfl rfl rfl (by kernel_rfl) (by kernel_rfl) (by kernel_rfl) (by kernel_rfl) (by kernel_rfl) (by kernel_rfl) CutQ.quiet V ?_
            refine takeExtract 7 (some 61) (.tmp 54) 1 #[.agg (encF q.getLsbD), .agg (encF r.getLsbD)] (.agg (encF r.getLsbD)) rfl rfl rfl (by kernel_rfl) (by kernel_rfl) (by kernel_rfl) (by kernel_rfl) (by kernel_rfl) (by kernel_rfl) CutQ.quiet V ?_
            refine one_ready (i := 8) (by kernel_rfl) ?_
            refine step_alloc44 rfl rfl (some 12) rfl rfl ?_
            intro g w1 I G B
            have og : go < g := by have := I.out; have := V.o.lt; omega
            have ne : g ≠ h := by have := I.out; have := H.lt; omega
            have C := C.trans (B.mono C.size)
            have V := V.below B
            have H := H.below B
            refine ⟨V, ?_⟩
            refine one_ready (i := 10) (by kernel_rfl) ?_
            refine step_store44 rfl rfl rfl (.tmp 12) (.tmp 60) rfl g q.getLsbD (by kernel_rfl) (by kernel_rfl) noF G ?_
            intro w1 G B
            have C := B.under C C.size (by omega)
            have V := V.but B o1 o2 og
            have H := H.but B (Ne.symm ne)
            refine ⟨V, ?_⟩
            refine one_ready (i := 11) (by kernel_rfl) ?_
            refine step_store44 rfl rfl rfl (.tmp 13) (.tmp 61) rfl h r.getLsbD (by kernel_rfl) (by kernel_rfl) noF H ?_
            intro w1 H B
            have C := B.under C C.size (by omega)
            have V := V.but B o1 o2 oh
            have G := G.but B ne
            refine ⟨V, ?_⟩
            exact wpAnyH_done (by kernel_rfl) ⟨g, h, ⟨V, G, H, C, og, oh, ne⟩, rfl, by kernel_rfl⟩ _
          · skip
            refine step_alloc44 rfl rfl (some 12) rfl rfl ?_
            intro g w1 I G B
            have og : go < g := by have := I.out; have := V.o.lt; omega
            have ne : g ≠ h := by have := I.out; have := H.lt; omega
            have C := C.trans (B.mono C.size)
            have V := V.below B
            have H := H.below B
            refine ⟨V, ?_⟩
            refine one_ready (i := 4) (by kernel_rfl) ?_
            refine step_call rfl #[.agg (encF sa.getLsbD), .agg (encF sb.getLsbD)] (.tuple #[.agg (encF q.getLsbD), .agg (encF r.getLsbD)]) (enter34 _) (by kernel_rfl) (divide_to sa sb q r H0.out _ HQ HR) ?_
            intro w1 B
            have C := C.trans (B.mono C.size)
            have V := V.below B
            have G := G.below B
            have H := H.below B
            refine ⟨V, ?_⟩
            refine takeMove 5 (some 54) (.tmp 59) (.tuple #[.agg (encF q.getLsbD), .agg (encF r.getLsbD)]) rfl rfl rfl (by kernel_rfl) (by kernel_rfl) (by kernel_rfl) (by kernel_rfl) (by kernel_rfl) CutQ.quiet V ?_
            refine takeExtract 6 (some 60) (.tmp 54) 0 #[.agg (encF q.getLsbD), .agg (encF r.getLsbD)] (.agg (encF q.getLsbD)) rfl rfl rfl (by kernel_rfl) (by kernel_rfl) (by kernel_rfl) (by kernel_rfl) (by kernel_rfl) (by kernel_rfl) CutQ.quiet V ?_
            refine takeExtract 7 (some 61) (.tmp 54) 1 #[.agg (encF q.getLsbD), .agg (encF r.getLsbD)] (.agg (encF r.getLsbD)) rfl rfl rfl (by kernel_rfl) (by kernel_rfl) (by kernel_rfl) (by kernel_rfl) (by kernel_rfl) (by kernel_rfl) CutQ.quiet V ?_
            refine one_ready (i := 10) (by kernel_rfl) ?_
            refine step_store44 rfl rfl rfl (.tmp 12) (.tmp 60) rfl g q.getLsbD (by kernel_rfl) (by kernel_rfl) noF G ?_
            intro w1 G B
            have C := B.under C C.size (by omega)
            have V := V.but B o1 o2 og
            have H := H.but B (Ne.symm ne)
            refine ⟨V, ?_⟩
            refine one_ready (i := 11) (by kernel_rfl) ?_
            refine step_store44 rfl rfl rfl (.tmp 13) (.tmp 61) rfl h r.getLsbD (by kernel_rfl) (by kernel_rfl) noF H ?_
            intro w1 H B
            have C := B.under C C.size (by omega)
            have V := V.but B o1 o2 oh
            have G := G.but B ne
            refine ⟨V, ?_⟩
            exact wpAnyH_done (by kernel_rfl) ⟨g, h, ⟨V, G, H, C, og, oh, ne⟩, rfl, by kernel_rfl⟩ _
        · skip
          refine step_alloc44 rfl rfl (some 12) rfl rfl ?_
          intro g w1 I G B
          have og : go < g := by have := I.out; have := V.o.lt; omega
          have ne : g ≠ h := by have := I.out; have := H.lt; omega
          have C := C.trans (B.mono C.size)
          have V := V.below B
          have H := H.below B
          refine ⟨V, ?_⟩
          refine one_ready (i := 3) (by kernel_rfl) ?_
          refine step_call rfl #[.agg (encF b.getLsbD)] (.agg (encF sb.getLsbD)) (enter35 _) (by kernel_rfl) (size_to b sb _ HSB) ?_
          intro w1 B
          have C := C.trans (B.mono C.size)
          have V := V.below B
          have G := G.below B
          have H := H.below B
          refine ⟨V, ?_⟩
          refine one_ready (i := 4) (by kernel_rfl) ?_
          refine step_call rfl #[.agg (encF sa.getLsbD), .agg (encF sb.getLsbD)] (.tuple #[.agg (encF q.getLsbD), .agg (encF r.getLsbD)]) (enter34 _) (by kernel_rfl) (divide_to sa sb q r H0.out _ HQ HR) ?_
          intro w1 B
          have C := C.trans (B.mono C.size)
          have V := V.below B
          have G := G.below B
          have H := H.below B
          refine ⟨V, ?_⟩
          refine takeMove 5 (some 54) (.tmp 59) (.tuple #[.agg (encF q.getLsbD), .agg (encF r.getLsbD)]) rfl rfl rfl (by kernel_rfl) (by kernel_rfl) (by kernel_rfl) (by kernel_rfl) (by kernel_rfl) CutQ.quiet V ?_
          refine takeExtract 6 (some 60) (.tmp 54) 0 #[.agg (encF q.getLsbD), .agg (encF r.getLsbD)] (.agg (encF q.getLsbD)) rfl rfl rfl (by kernel_rfl) (by kernel_rfl) (by kernel_rfl) (by kernel_rfl) (by kernel_rfl) (by kernel_rfl) CutQ.quiet V ?_
          refine takeExtract 7 (some 61) (.tmp 54) 1 #[.agg (encF q.getLsbD), .agg (encF r.getLsbD)] (.agg (encF r.getLsbD)) rfl rfl rfl (by kernel_rfl) (by kernel_rfl) (by kernel_rfl) (by kernel_rfl) (by kernel_rfl) (by kernel_rfl) CutQ.quiet V ?_
          refine one_ready (i := 10) (by kernel_rfl) ?_
          refine step_store44 rfl rfl rfl (.tmp 12) (.tmp 60) rfl g q.getLsbD (by kernel_rfl) (by kernel_rfl) noF G ?_
          intro w1 G B
          have C := B.under C C.size (by omega)
          have V := V.but B o1 o2 og
          have H := H.but B (Ne.symm ne)
          refine ⟨V, ?_⟩
          refine one_ready (i := 11) (by kernel_rfl) ?_
          refine step_store44 rfl rfl rfl (.tmp 13) (.tmp 61) rfl h r.getLsbD (by kernel_rfl) (by kernel_rfl) noF H ?_
          intro w1 H B
          have C := B.under C C.size (by omega)
          have V := V.but B o1 o2 oh
          have G := G.but B ne
          refine ⟨V, ?_⟩
          exact wpAnyH_done (by kernel_rfl) ⟨g, h, ⟨V, G, H, C, og, oh, ne⟩, rfl, by kernel_rfl⟩ _
    · skip
      refine step_alloc44 rfl rfl (some 12) rfl rfl ?_
      intro g w1 I G B
      have og : go < g := by have := I.out; have := V.o.lt; omega
      have C := C.trans (B.mono C.size)
      have V := V.below B
      refine ⟨V, ?_⟩
      refine two_ready (i := 1) (j := 9) (by kernel_rfl) ?_ ?_
      · skip
        refine step_call rfl #[.agg (encF a.getLsbD)] (.agg (encF sa.getLsbD)) (enter35 _) (by kernel_rfl) (size_to a sa _ HSA) ?_
        intro w1 B
        have C := C.trans (B.mono C.size)
        have V := V.below B
        have G := G.below B
        refine ⟨V, ?_⟩
        refine two_ready (i := 3) (j := 9) (by kernel_rfl) ?_ ?_
        · skip
          refine step_call rfl #[.agg (encF b.getLsbD)] (.agg (encF sb.getLsbD)) (enter35 _) (by kernel_rfl) (size_to b sb _ HSB) ?_
          intro w1 B
          have C := C.trans (B.mono C.size)
          have V := V.below B
          have G := G.below B
          refine ⟨V, ?_⟩
          refine two_ready (i := 4) (j := 9) (by kernel_rfl) ?_ ?_
          · skip
            refine step_call rfl #[.agg (encF sa.getLsbD), .agg (encF sb.getLsbD)] (.tuple #[.agg (encF q.getLsbD), .agg (encF r.getLsbD)]) (enter34 _) (by kernel_rfl) (divide_to sa sb q r H0.out _ HQ HR) ?_
            intro w1 B
            have C := C.trans (B.mono C.size)
            have V := V.below B
            have G := G.below B
            refine ⟨V, ?_⟩
            refine takeMove 5 (some 54) (.tmp 59) (.tuple #[.agg (encF q.getLsbD), .agg (encF r.getLsbD)]) rfl rfl rfl (by kernel_rfl) (by kernel_rfl) (by kernel_rfl) (by kernel_rfl) (by kernel_rfl) CutQ.quiet V ?_
            refine takeExtract 6 (some 60) (.tmp 54) 0 #[.agg (encF q.getLsbD), .agg (encF r.getLsbD)] (.agg (encF q.getLsbD)) rfl rfl rfl (by kernel_rfl) (by kernel_rfl) (by kernel_rfl) (by kernel_rfl) (by kernel_rfl) (by kernel_rfl) CutQ.quiet V ?_
            refine takeExtract 7 (some 61) (.tmp 54) 1 #[.agg (encF q.getLsbD), .agg (encF r.getLsbD)] (.agg (encF r.getLsbD)) rfl rfl rfl (by kernel_rfl) (by kernel_rfl) (by kernel_rfl) (by kernel_rfl) (by kernel_rfl) (by kernel_rfl) CutQ.quiet V ?_
            refine one_ready (i := 9) (by kernel_rfl) ?_
            refine step_alloc44 rfl rfl (some 13) rfl rfl ?_
            intro h w1 I H B
            have oh : go < h := by have := I.out; have := V.o.lt; omega
            have ne : g ≠ h := by have := I.out; have := G.lt; omega
            have C := C.trans (B.mono C.size)
            have V := V.below B
            have G := G.below B
            refine ⟨V, ?_⟩
            refine one_ready (i := 10) (by kernel_rfl) ?_
            refine step_store44 rfl rfl rfl (.tmp 12) (.tmp 60) rfl g q.getLsbD (by kernel_rfl) (by kernel_rfl) noF G ?_
            intro w1 G B
            have C := B.under C C.size (by omega)
            have V := V.but B o1 o2 og
            have H := H.but B (Ne.symm ne)
            refine ⟨V, ?_⟩
            refine one_ready (i := 11) (by kernel_rfl) ?_
            refine step_store44 rfl rfl rfl (.tmp 13) (.tmp 61) rfl h r.getLsbD (by kernel_rfl) (by kernel_rfl) noF H ?_
            intro w1 H B
            have C := B.under C C.size (by omega)
            have V := V.but B o1 o2 oh
            have G := G.but B ne
            refine ⟨V, ?_⟩
            exact wpAnyH_done (by kernel_rfl) ⟨g, h, ⟨V, G, H, C, og, oh, ne⟩, rfl, by kernel_rfl⟩ _
          · skip
            refine step_alloc44 rfl rfl (some 13) rfl rfl ?_
            intro h w1 I H B
            have oh : go < h := by have := I.out; have := V.o.lt; omega
            have ne : g ≠ h := by have := I.out; have := G.lt; omega
            have C := C.trans (B.mono C.size)
            have V := V.below B
            have G := G.below B
            refine ⟨V, ?_⟩
            refine one_ready (i := 4) (by kernel_rfl) ?_
            refine step_call rfl #[.agg (encF sa.getLsbD), .agg (encF sb.getLsbD)] (.tuple #[.agg (encF q.getLsbD), .agg (encF r.getLsbD)]) (enter34 _) (by kernel_rfl) (divide_to sa sb q r H0.out _ HQ HR) ?_
            intro w1 B
            have C := C.trans (B.mono C.size)
            have V := V.below B
            have G := G.below B
            have H := H.below B
            refine ⟨V, ?_⟩
            refine takeMove 5 (some 54) (.tmp 59) (.tuple #[.agg (encF q.getLsbD), .agg (encF r.getLsbD)]) rfl rfl rfl (by kernel_rfl) (by kernel_rfl) (by kernel_rfl) (by kernel_rfl) (by kernel_rfl) CutQ.quiet V ?_
            refine takeExtract 6 (some 60) (.tmp 54) 0 #[.agg (encF q.getLsbD), .agg (encF r.getLsbD)] (.agg (encF q.getLsbD)) rfl rfl rfl (by kernel_rfl) (by kernel_rfl) (by kernel_rfl) (by kernel_rfl) (by kernel_rfl) (by kernel_rfl) CutQ.quiet V ?_
            refine takeExtract 7 (some 61) (.tmp 54) 1 #[.agg (encF q.getLsbD), .agg (encF r.getLsbD)] (.agg (encF r.getLsbD)) rfl rfl rfl (by kernel_rfl) (by kernel_rfl) (by kernel_rfl) (by kernel_rfl) (by kernel_rfl) (by kernel_rfl) CutQ.quiet V ?_
            refine one_ready (i := 10) (by kernel_rfl) ?_
            refine step_store44 rfl rfl rfl (.tmp 12) (.tmp 60) rfl g q.getLsbD (by kernel_rfl) (by kernel_rfl) noF G ?_
            intro w1 G B
            have C := B.under C C.size (by omega)
            have V := V.but B o1 o2 og
            have H := H.but B (Ne.symm ne)
            refine ⟨V, ?_⟩
            refine one_ready (i := 11) (by kernel_rfl) ?_
            refine step_store44 rfl rfl rfl (.tmp 13) (.tmp 61) rfl h r.getLsbD (by kernel_rfl) (by kernel_rfl) noF H ?_
            intro w1 H B
            have C := B.under C C.size (by omega)
            have V := V.but B o1 o2 oh
            have G := G.but B ne
            refine ⟨V, ?_⟩
            exact wpAnyH_done (by kernel_rfl) ⟨g, h, ⟨V, G, H, C, og, oh, ne⟩, rfl, by kernel_rfl⟩ _
        · skip
          refine step_alloc44 rfl rfl (some 13) rfl rfl ?_
          intro h w1 I H B
          have oh : go < h := by have := I.out; have := V.o.lt; omega
          have ne : g ≠ h := by have := I.out; have := G.lt; omega
          have C := C.trans (B.mono C.size)
          have V := V.below B
          have G := G.below B
          refine ⟨V, ?_⟩
          refine one_ready (i := 3) (by kernel_rfl) ?_
          refine step_call rfl #[.agg (encF b.getLsbD)] (.agg (encF sb.getLsbD)) (enter35 _) (by kernel_rfl) (size_to b sb _ HSB) ?_
          intro w1 B
          have C := C.trans (B.mono C.size)
          have V := V.below B
          have G := G.below B
          have H := H.below B
          refine ⟨V, ?_⟩
          refine one_ready (i := 4) (by kernel_rfl) ?_
          refine step_call rfl #[.agg (encF sa.getLsbD), .agg (encF sb.getLsbD)] (.tuple #[.agg (encF q.getLsbD), .agg (encF r.getLsbD)]) (enter34 _) (by kernel_rfl) (divide_to sa sb q r H0.out _ HQ HR) ?_
          intro w1 B
          have C := C.trans (B.mono C.size)
          have V := V.below B
          have G := G.below B
          have H := H.below B
          refine ⟨V, ?_⟩
          refine takeMove 5 (some 54) (.tmp 59) (.tuple #[.agg (encF q.getLsbD), .agg (encF r.getLsbD)]) rfl rfl rfl (by kernel_rfl) (by kernel_rfl) (by kernel_rfl) (by kernel_rfl) (by kernel_rfl) CutQ.quiet V ?_
          refine takeExtract 6 (some 60) (.tmp 54) 0 #[.agg (encF q.getLsbD), .agg (encF r.getLsbD)] (.agg (encF q.getLsbD)) rfl rfl rfl (by kernel_rfl) (by kernel_rfl) (by kernel_rfl) (by kernel_rfl) (by kernel_rfl) (by kernel_rfl) CutQ.quiet V ?_
          refine takeExtract 7 (some 61) (.tmp 54) 1 #[.agg (encF q.getLsbD), .agg (encF r.getLsbD)] (.agg (encF r.getLsbD)) rfl rfl rfl (by kernel_rfl) (by kernel_rfl) (by kernel_rfl) (by kernel_rfl) (by kernel_rfl) (by kernel_rfl) CutQ.quiet V ?_
          refine one_ready (i := 10) (by kernel_rfl) ?_
          refine step_store44 rfl rfl rfl (.tmp 12) (.tmp 60) rfl g q.getLsbD (by kernel_rfl) (by kernel_rfl) noF G ?_
          intro w1 G B
          have C := B.under C C.size (by omega)
          have V := V.but B o1 o2 og
          have H := H.but B (Ne.symm ne)
          refine ⟨V, ?_⟩
          refine one_ready (i := 11) (by kernel_rfl) ?_
          refine step_store44 rfl rfl rfl (.tmp 13) (.tmp 61) rfl h r.getLsbD (by kernel_rfl) (by kernel_rfl) noF H ?_
          intro w1 H B
          have C := B.under C C.size (by omega)
          have V := V.but B o1 o2 oh
          have G := G.but B ne
          refine ⟨V, ?_⟩
          exact wpAnyH_done (by kernel_rfl) ⟨g, h, ⟨V, G, H, C, og, oh, ne⟩, rfl, by kernel_rfl⟩ _
      · skip
        refine step_alloc44 rfl rfl (some 13) rfl rfl ?_
        intro h w1 I H B
        have oh : go < h := by have := I.out; have := V.o.lt; omega
        have ne : g ≠ h := by have := I.out; have := G.lt; omega
        have C := C.trans (B.mono C.size)
        have V := V.below B
        have G := G.below B
        refine ⟨V, ?_⟩
        refine one_ready (i := 1) (by kernel_rfl) ?_
        refine step_call rfl #[.agg (encF a.getLsbD)] (.agg (encF sa.getLsbD)) (enter35 _) (by kernel_rfl) (size_to a sa _ HSA) ?_
        intro w1 B
        have C := C.trans (B.mono C.size)
        have V := V.below B
        have G := G.below B
        have H := H.below B
        refine ⟨V, ?_⟩
        refine one_ready (i := 3) (by kernel_rfl) ?_
        refine step_call rfl #[.agg (encF b.getLsbD)] (.agg (encF sb.getLsbD)) (enter35 _) (by kernel_rfl) (size_to b sb _ HSB) ?_
        intro w1 B
        have C := C.trans (B.mono C.size)
        have V := V.below B
        have G := G.below B
        have H := H.below B
        refine ⟨V, ?_⟩
        refine one_ready (i := 4) (by kernel_rfl) ?_
        refine step_call rfl #[.agg (encF sa.getLsbD), .agg (encF sb.getLsbD)] (.tuple #[.agg (encF q.getLsbD), .agg (encF r.getLsbD)]) (enter34 _) (by kernel_rfl) (divide_to sa sb q r H0.out _ HQ HR) ?_
        intro w1 B
        have C := C.trans (B.mono C.size)
        have V := V.below B
        have G := G.below B
        have H := H.below B
        refine ⟨V, ?_⟩
        refine takeMove 5 (some 54) (.tmp 59) (.tuple #[.agg (encF q.getLsbD), .agg (encF r.getLsbD)]) rfl rfl rfl (by kernel_rfl) (by kernel_rfl) (by kernel_rfl) (by kernel_rfl) (by kernel_rfl) CutQ.quiet V ?_
        refine takeExtract 6 (some 60) (.tmp 54) 0 #[.agg (encF q.getLsbD), .agg (encF r.getLsbD)] (.agg (encF q.getLsbD)) rfl rfl rfl (by kernel_rfl) (by kernel_rfl) (by kernel_rfl) (by kernel_rfl) (by kernel_rfl) (by kernel_rfl) CutQ.quiet V ?_
        refine takeExtract 7 (some 61) (.tmp 54) 1 #[.agg (encF q.getLsbD), .agg (encF r.getLsbD)] (.agg (encF r.getLsbD)) rfl rfl rfl (by kernel_rfl) (by kernel_rfl) (by kernel_rfl) (by kernel_rfl) (by kernel_rfl) (by kernel_rfl) CutQ.quiet V ?_
        refine one_ready (i := 10) (by kernel_rfl) ?_
        refine step_store44 rfl rfl rfl (.tmp 12) (.tmp 60) rfl g q.getLsbD (by kernel_rfl) (by kernel_rfl) noF G ?_
        intro w1 G B
        have C := B.under C C.size (by omega)
        have V := V.but B o1 o2 og
        have H := H.but B (Ne.symm ne)
        refine ⟨V, ?_⟩
        refine one_ready (i := 11) (by kernel_rfl) ?_
        refine step_store44 rfl rfl rfl (.tmp 13) (.tmp 61) rfl h r.getLsbD (by kernel_rfl) (by kernel_rfl) noF H ?_
        intro w1 H B
        have C := B.under C C.size (by omega)
        have V := V.but B o1 o2 oh
        have G := G.but B ne
        refine ⟨V, ?_⟩
        exact wpAnyH_done (by kernel_rfl) ⟨g, h, ⟨V, G, H, C, og, oh, ne⟩, rfl, by kernel_rfl⟩ _
    · skip
      refine step_alloc44 rfl rfl (some 13) rfl rfl ?_
      intro h w1 I H B
      have oh : go < h := by have := I.out; have := V.o.lt; omega
      have C := C.trans (B.mono C.size)
      have V := V.below B
      refine ⟨V, ?_⟩
      refine two_ready (i := 1) (j := 8) (by kernel_rfl) ?_ ?_
      · skip
        refine step_call rfl #[.agg (encF a.getLsbD)] (.agg (encF sa.getLsbD)) (enter35 _) (by kernel_rfl) (size_to a sa _ HSA) ?_
        intro w1 B
        have C := C.trans (B.mono C.size)
        have V := V.below B
        have H := H.below B
        refine ⟨V, ?_⟩
        refine two_ready (i := 3) (j := 8) (by kernel_rfl) ?_ ?_
        · skip
          refine step_call rfl #[.agg (encF b.getLsbD)] (.agg (encF sb.getLsbD)) (enter35 _) (by kernel_rfl) (size_to b sb _ HSB) ?_
          intro w1 B
          have C := C.trans (B.mono C.size)
          have V := V.below B
          have H := H.below B
          refine ⟨V, ?_⟩
          refine two_ready (i := 4) (j := 8) (by kernel_rfl) ?_ ?_
          · skip
            refine step_call rfl #[.agg (encF sa.getLsbD), .agg (encF sb.getLsbD)] (.tuple #[.agg (encF q.getLsbD), .agg (encF r.getLsbD)]) (enter34 _) (by kernel_rfl) (divide_to sa sb q r H0.out _ HQ HR) ?_
            intro w1 B
            have C := C.trans (B.mono C.size)
            have V := V.below B
            have H := H.below B
            refine ⟨V, ?_⟩
            refine takeMove 5 (some 54) (.tmp 59) (.tuple #[.agg (encF q.getLsbD), .agg (encF r.getLsbD)]) rfl rfl rfl (by kernel_rfl) (by kernel_rfl) (by kernel_rfl) (by kernel_rfl) (by kernel_rfl) CutQ.quiet V ?_
            refine takeExtract 6 (some 60) (.tmp 54) 0 #[.agg (encF q.getLsbD), .agg (encF r.getLsbD)] (.agg (encF q.getLsbD)) rfl rfl rfl (by kernel_rfl) (by kernel_rfl) (by kernel_rfl) (by kernel_rfl) (by kernel_rfl) (by kernel_rfl) CutQ.quiet V ?_
            refine takeExtract 7 (some 61) (.tmp 54) 1 #[.agg (encF q.getLsbD), .agg (encF r.getLsbD)] (.agg (encF r.getLsbD)) rfl rfl rfl (by kernel_rfl) (by kernel_rfl) (by kernel_rfl) (by kernel_rfl) (by kernel_rfl) (by kernel_rfl) CutQ.quiet V ?_
            refine one_ready (i := 8) (by kernel_rfl) ?_
            refine step_alloc44 rfl rfl (some 12) rfl rfl ?_
            intro g w1 I G B
            have og : go < g := by have := I.out; have := V.o.lt; omega
            have ne : g ≠ h := by have := I.out; have := H.lt; omega
            have C := C.trans (B.mono C.size)
            have V := V.below B
            have H := H.below B
            refine ⟨V, ?_⟩
            refine one_ready (i := 10) (by kernel_rfl) ?_
            refine step_store44 rfl rfl rfl (.tmp 12) (.tmp 60) rfl g q.getLsbD (by kernel_rfl) (by kernel_rfl) noF G ?_
            intro w1 G B
            have C := B.under C C.size (by omega)
            have V := V.but B o1 o2 og
            have H := H.but B (Ne.symm ne)
            refine ⟨V, ?_⟩
            refine one_ready (i := 11) (by kernel_rfl) ?_
            refine step_store44 rfl rfl rfl (.tmp 13) (.tmp 61) rfl h r.getLsbD (by kernel_rfl) (by kernel_rfl) noF H ?_
            intro w1 H B
            have C := B.under C C.size (by omega)
            have V := V.but B o1 o2 oh
            have G := G.but B ne
            refine ⟨V, ?_⟩
            exact wpAnyH_done (by kernel_rfl) ⟨g, h, ⟨V, G, H, C, og, oh, ne⟩, rfl, by kernel_rfl⟩ _
          · skip
            refine step_alloc44 rfl rfl (some 12) rfl rfl ?_
            intro g w1 I G B
            have og : go < g := by have := I.out; have := V.o.lt; omega
            have ne : g ≠ h := by have := I.out; have := H.lt; omega
            have C := C.trans (B.mono C.size)
            have V := V.below B
            have H := H.below B
            refine ⟨V, ?_⟩
            refine one_ready (i := 4) (by kernel_rfl) ?_
            refine step_call rfl #[.agg (encF sa.getLsbD), .agg (encF sb.getLsbD)] (.tuple #[.agg (encF q.getLsbD), .agg (encF r.getLsbD)]) (enter34 _) (by kernel_rfl) (divide_to sa sb q r H0.out _ HQ HR) ?_
            intro w1 B
            have C := C.trans (B.mono C.size)
            have V := V.below B
            have G := G.below B
            have H := H.below B
            refine ⟨V, ?_⟩
            refine takeMove 5 (some 54) (.tmp 59) (.tuple #[.agg (encF q.getLsbD), .agg (encF r.getLsbD)]) rfl rfl rfl (by kernel_rfl) (by kernel_rfl) (by kernel_rfl) (by kernel_rfl) (by kernel_rfl) CutQ.quiet V ?_
            refine takeExtract 6 (some 60) (.tmp 54) 0 #[.agg (encF q.getLsbD), .agg (encF r.getLsbD)] (.agg (encF q.getLsbD)) rfl rfl rfl (by kernel_rfl) (by kernel_rfl) (by kernel_rfl) (by kernel_rfl) (by kernel_rfl) (by kernel_rfl) CutQ.quiet V ?_
            refine takeExtract 7 (some 61) (.tmp 54) 1 #[.agg (encF q.getLsbD), .agg (encF r.getLsbD)] (.agg (encF r.getLsbD)) rfl rfl rfl (by kernel_rfl) (by kernel_rfl) (by kernel_rfl) (by kernel_rfl) (by kernel_rfl) (by kernel_rfl) CutQ.quiet V ?_
            refine one_ready (i := 10) (by kernel_rfl) ?_
            refine step_store44 rfl rfl rfl (.tmp 12) (.tmp 60) rfl g q.getLsbD (by kernel_rfl) (by kernel_rfl) noF G ?_
            intro w1 G B
            have C := B.under C C.size (by omega)
            have V := V.but B o1 o2 og
            have H := H.but B (Ne.symm ne)
            refine ⟨V, ?_⟩
            refine one_ready (i := 11) (by kernel_rfl) ?_
            refine step_store44 rfl rfl rfl (.tmp 13) (.tmp 61) rfl h r.getLsbD (by kernel_rfl) (by kernel_rfl) noF H ?_
            intro w1 H B
            have C := B.under C C.size (by omega)
            have V := V.but B o1 o2 oh
            have G := G.but B ne
            refine ⟨V, ?_⟩
            exact wpAnyH_done (by kernel_rfl) ⟨g, h, ⟨V, G, H, C, og, oh, ne⟩, rfl, by kernel_rfl⟩ _
        · skip
          refine step_alloc44 rfl rfl (some 12) rfl rfl ?_
          intro g w1 I G B
          have og : go < g := by have := I.out; have := V.o.lt; omega
          have ne : g ≠ h := by have := I.out; have := H.lt; omega
          have C := C.trans (B.mono C.size)
          have V := V.below B
          have H := H.below B
          refine ⟨V, ?_⟩
          refine one_ready (i := 3) (by kernel_rfl) ?_
          refine step_call rfl #[.agg (encF b.getLsbD)] (.agg (encF sb.getLsbD)) (enter35 _) (by kernel_rfl) (size_to b sb _ HSB) ?_
          intro w1 B
          have C := C.trans (B.mono C.size)
          have V := V.below B
          have G := G.below B
          have H := H.below B
          refine ⟨V, ?_⟩
          refine one_ready (i := 4) (by kernel_rfl) ?_
          refine step_call rfl #[.agg (encF sa.getLsbD), .agg (encF sb.getLsbD)] (.tuple #[.agg (encF q.getLsbD), .agg (encF r.getLsbD)]) (enter34 _) (by kernel_rfl) (divide_to sa sb q r H0.out _ HQ HR) ?_
          intro w1 B
          have C := C.trans (B.mono C.size)
          have V := V.below B
          have G := G.below B
          have H := H.below B
          refine ⟨V, ?_⟩
          refine takeMove 5 (some 54) (.tmp 59) (.tuple #[.agg (encF q.getLsbD), .agg (encF r.getLsbD)]) rfl rfl rfl (by kernel_rfl) (by kernel_rfl) (by kernel_rfl) (by kernel_rfl) (by kernel_rfl) CutQ.quiet V ?_
          refine takeExtract 6 (some 60) (.tmp 54) 0 #[.agg (encF q.getLsbD), .agg (encF r.getLsbD)] (.agg (encF q.getLsbD)) rfl rfl rfl (by kernel_rfl) (by kernel_rfl) (by kernel_rfl) (by kernel_rfl) (by kernel_rfl) (by kernel_rfl) CutQ.quiet V ?_
          refine takeExtract 7 (some 61) (.tmp 54) 1 #[.agg (encF q.getLsbD), .agg (encF r.getLsbD)] (.agg (encF r.getLsbD)) rfl rfl rfl (by kernel_rfl) (by kernel_rfl) (by kernel_rfl) (by kernel_rfl) (by kernel_rfl) (by kernel_rfl) CutQ.quiet V ?_
          refine one_ready (i := 10) (by kernel_rfl) ?_
          refine step_store44 rfl rfl rfl (.tmp 12) (.tmp 60) rfl g q.getLsbD (by kernel_rfl) (by kernel_rfl) noF G ?_
          intro w1 G B
          have C := B.under C C.size (by omega)
          have V := V.but B o1 o2 og
          have H := H.but B (Ne.symm ne)
          refine ⟨V, ?_⟩
          refine one_ready (i := 11) (by kernel_rfl) ?_
          refine step_store44 rfl rfl rfl (.tmp 13) (.tmp 61) rfl h r.getLsbD (by kernel_rfl) (by kernel_rfl) noF H ?_
          intro w1 H B
          have C := B.under C C.size (by omega)
          have V := V.but B o1 o2 oh
          have G := G.but B ne
          refine ⟨V, ?_⟩
          exact wpAnyH_done (by kernel_rfl) ⟨g, h, ⟨V, G, H, C, og, oh, ne⟩, rfl, by kernel_rfl⟩ _
      · skip
        refine step_alloc44 rfl rfl (some 12) rfl rfl ?_
        intro g w1 I G B
        have og : go < g := by have := I.out; have := V.o.lt; omega
        have ne : g ≠ h := by have := I.out; have := H.lt; omega
        have C := C.trans (B.mono C.size)
        have V := V.below B
        have H := H.below B
        refine ⟨V, ?_⟩
        refine one_ready (i := 1) (by kernel_rfl) ?_
        refine step_call rfl #[.agg (encF a.getLsbD)] (.agg (encF sa.getLsbD)) (enter35 _) (by kernel_rfl) (size_to a sa _ HSA) ?_
        intro w1 B
        have C := C.trans (B.mono C.size)
        have V := V.below B
        have G := G.below B
        have H := H.below B
        refine ⟨V, ?_⟩
        refine one_ready (i := 3) (by kernel_rfl) ?_
        refine step_call rfl #[.agg (encF b.getLsbD)] (.agg (encF sb.getLsbD)) (enter35 _) (by kernel_rfl) (size_to b sb _ HSB) ?_
        intro w1 B
        have C := C.trans (B.mono C.size)
        have V := V.below B
        have G := G.below B
        have H := H.below B
        refine ⟨V, ?_⟩
        refine one_ready (i := 4) (by kernel_rfl) ?_
        refine step_call rfl #[.agg (encF sa.getLsbD), .agg (encF sb.getLsbD)] (.tuple #[.agg (encF q.getLsbD), .agg (encF r.getLsbD)]) (enter34 _) (by kernel_rfl) (divide_to sa sb q r H0.out _ HQ HR) ?_
        intro w1 B
        have C := C.trans (B.mono C.size)
        have V := V.below B
        have G := G.below B
        have H := H.below B
        refine ⟨V, ?_⟩
        refine takeMove 5 (some 54) (.tmp 59) (.tuple #[.agg (encF q.getLsbD), .agg (encF r.getLsbD)]) rfl rfl rfl (by kernel_rfl) (by kernel_rfl) (by kernel_rfl) (by kernel_rfl) (by kernel_rfl) CutQ.quiet V ?_
        refine takeExtract 6 (some 60) (.tmp 54) 0 #[.agg (encF q.getLsbD), .agg (encF r.getLsbD)] (.agg (encF q.getLsbD)) rfl rfl rfl (by kernel_rfl) (by kernel_rfl) (by kernel_rfl) (by kernel_rfl) (by kernel_rfl) (by kernel_rfl) CutQ.quiet V ?_
        refine takeExtract 7 (some 61) (.tmp 54) 1 #[.agg (encF q.getLsbD), .agg (encF r.getLsbD)] (.agg (encF r.getLsbD)) rfl rfl rfl (by kernel_rfl) (by kernel_rfl) (by kernel_rfl) (by kernel_rfl) (by kernel_rfl) (by kernel_rfl) CutQ.quiet V ?_
        refine one_ready (i := 10) (by kernel_rfl) ?_
        refine step_store44 rfl rfl rfl (.tmp 12) (.tmp 60) rfl g q.getLsbD (by kernel_rfl) (by kernel_rfl) noF G ?_
        intro w1 G B
        have C := B.under C C.size (by omega)
        have V := V.but B o1 o2 og
        have H := H.but B (Ne.symm ne)
        refine ⟨V, ?_⟩
        refine one_ready (i := 11) (by kernel_rfl) ?_
        refine step_store44 rfl rfl rfl (.tmp 13) (.tmp 61) rfl h r.getLsbD (by kernel_rfl) (by kernel_rfl) noF H ?_
        intro w1 H B
        have C := B.under C C.size (by omega)
        have V := V.but B o1 o2 oh
        have G := G.but B ne
        refine ⟨V, ?_⟩
        exact wpAnyH_done (by kernel_rfl) ⟨g, h, ⟨V, G, H, C, og, oh, ne⟩, rfl, by kernel_rfl⟩ _
  intro g h w9 K
  clear X Y O C
  simp only [Act.put, List.setIfInBounds_toArray, List.set_cons_zero, List.set_cons_succ]
  have hca := K.v.a.cell 63 (by omega)
  have hcb := K.v.b.cell 63 (by omega)
  rw [hsa] at hca
  rw [hsb] at hcb
  have o4 := K.og
  have o5 := K.oh
  go_wp2_with (first | (refine wpList_load44 rfl _ rfl g rfl q.getLsbD K.q ?_; refine wpList_store44 rfl _ _ rfl go q.getLsbD rfl rfl noF K.v.o ?_; intro w10 T10 B10; refine Hid.out ?_))
  have G10 := K.q.but B10 (by omega)
  have R10 := K.r.but B10 (by omega)
  have C10 := B10.under K.c K.c.size o3
  have hca := (K.v.a.but B10 (by omega)).cell 63 (by omega)
  have hcb := (K.v.b.but B10 (by omega)).cell 63 (by omega)
  have A10 := K.v.a.but B10 (by omega)
  rw [hsa] at hca
  rw [hsb] at hcb
  clear B10 K
  refine Lib.hid ?_
  go_wp2_with (first | (refine wpList_load44 rfl _ rfl h rfl r.getLsbD R10 ?_; refine wpList_store44 rfl _ _ rfl go r.getLsbD rfl rfl q.getLsbD T10 ?_; intro w13 T13 B13; refine Hid.out ?_))
  have R13 := R10.but B13 (by omega)
  have hca := (A10.but B13 (by omega)).cell 63 (by omega)
  have C13 := B13.under C10 C10.size o3
  rw [hsa] at hca
  clear R10 A10 T10 C10 B13
  refine Lib.hid ?_
  go_wp2_with (first | (refine wpList_load44 rfl _ rfl go rfl r.getLsbD T13 ?_) | (go_at_call 39; refine (toInt_to r v _ HV).mono ?_; rintro e w20 ⟨rfl, B20⟩))
  go_ret2
  exact ⟨rfl, C13.trans (B20.mono C13.size)⟩

set_option maxHeartbeats 1000000 in
set_option maxRecDepth 100000 in
theorem refDo_5pn (x y : Int) (a b : B64) (w : World) (HA : Hid (BitVec.ofInt 64 x = a)) (HB : Hid (BitVec.ofInt 64 y = b)) (sa sb q r : B64) (HSA : Hid (sizeV a = sa)) (HSB : Hid (sizeV b = sb)) (H0 : Hid (0 < sb.toNat)) (HQ : Hid (sa / sb = q)) (HR : Hid (sa % sb = r)) (HB0 : Hid ((b == 0#64) = false)) (nq : B64) (HN : Hid (-q = nq)) (hsa : a.getLsbD 63 = false) (hsb : b.getLsbD 63 = true) (v : Int) (HV : Hid (r.toInt = v)) :
    Calls Tryd.prog 12 #[.int .i64 5, .int .i64 x, .int .i64 y] w fun e w' => e = .returned (.tuple #[.int .i64 v, .int .i64 0]) ∧ Below w.heap.size w w' := by
  go_enter Tryd.func12, Tryd.ntmps12
  go_wp2_with fail
  refine (from_to x a _ HA).mono ?_
  rintro e w1 ⟨rfl, B1⟩
  go_wp2_with (first | (refine wpList_alloc44 rfl rfl ?_; intro ga w2 H2 A2 B2; refine wpList_store44 rfl _ _ rfl ga a.getLsbD rfl rfl noF A2 ?_; intro w3 A3 B3; refine Hid.out ?_))
  have e2 := H2.out
  have s1 := B1.size
  have s2 := B2.size
  have o0 : w.heap.size ≤ ga := by omega
  have C3 := B3.under (B1.trans (B2.mono s1)) (by omega) o0
  have l3 := A3.lt
  clear A2 B1 B2 B3 H2 e2 s1 s2
  refine Lib.hid ?_
  go_wp2_with fail
  refine (from_to y b _ HB).mono ?_
  rintro e w4 ⟨rfl, B4⟩
  go_wp2_with (first | (refine wpList_alloc44 rfl rfl ?_; intro gb w5 H5 A5 B5; refine wpList_store44 rfl _ _ rfl gb b.getLsbD rfl rfl noF A5 ?_; intro w6 A6 B6; refine Hid.out ?_))
  have e5 := H5.out
  have s4 := B4.size
  have s5 := B5.size
  have o1 : ga < gb := by omega
  have X6 := ((A3.below B4).below B5).but B6 (by omega)
  have C6 := B6.under ((C3.trans (B4.mono C3.size)).trans (B5.mono (Nat.le_trans C3.size s4))) (by have := C3.size; omega) (by omega)
  have l6 := A6.lt
  clear A3 A5 B4 B5 B6 H5 e5 s4 s5 l3 C3
  refine Lib.hid ?_
  go_wp2_with (first | (refine wpList_build44 rfl rfl ?_; refine wpList_alloc44 rfl rfl ?_; intro go w7 H7 A7 B7; refine wpList_store44 rfl _ _ rfl go noF rfl rfl noF A7 ?_; intro w8 O B8; refine Hid.out ?_))
  have e7 := H7.out
  have s7 := B7.size
  have o2 : gb < go := by omega
  have X := (X6.below B7).but B8 (by omega)
  have Y := (A6.below B7).but B8 (by omega)
  have C := B8.under (C6.trans (B7.mono C6.size)) (by have := C6.size; omega) (by omega)
  have o3 : w.heap.size ≤ go := by omega
  clear X6 A6 A7 B7 B8 H7 e7 s7 l6 C6
  refine Lib.hid ?_
  go_wp2_with (first | (refine wpList_load44 rfl _ rfl gb rfl b.getLsbD Y ?_; refine wpList_build44 rfl rfl ?_; rw [noF_zero]; refine wpList_eql44 rfl _ _ _ rfl b 0#64 rfl rfl false HB0 ?_))
  refine wp_region_cut (Cut w ga gb go a b q r) (fun a0 g h => (((((((((a0.put (some 55) (.agg (encF a.getLsbD))).put (some 57) (.agg (encF b.getLsbD))).put (some 56) (.agg (encF sa.getLsbD))).put (some 58) (.agg (encF sb.getLsbD))).put (some 59) (.tuple #[.agg (encF q.getLsbD), .agg (encF r.getLsbD)])).put (some 54) (.tuple #[.agg (encF q.getLsbD), .agg (encF r.getLsbD)])).put (some 60) (.agg (encF q.getLsbD))).put (some 61) (.agg (encF r.getLsbD))).put (some 12) (.pointer (some ⟨g, 0, none⟩))).put (some 13) (.pointer (some ⟨h, 0, none⟩))) ?_ ?_
  · refine wp_region_held_drew (S := fun w' => Three w' ga gb go a b) (by kernel_rfl) ⟨X, Y, O⟩ (fun V => ?_)
    have C := C.drew
    clear X Y O
    generalize w8.drew = wd at V C ⊢
    refine take44 0 (some 55) (.tmp 8) ga a.getLsbD rfl rfl rfl (by kernel_rfl) (by kernel_rfl) (by kernel_rfl) (by kernel_rfl) (by kernel_rfl) CutQ.quiet (fun w h => h.a) V ?_
    refine take44 2 (some 57) (.tmp 9) gb b.getLsbD rfl rfl rfl (by kernel_rfl) (by kernel_rfl) (by kernel_rfl) (by kernel_rfl) (by kernel_rfl) CutQ.quiet (fun w h => h.b) V ?_
    refine three_ready (i := 1) (j := 8) (k := 9) (by kernel_rfl) ?_ ?_ ?_
    · skip
      refine step_call rfl #[.agg (encF a.getLsbD)] (.agg (encF sa.getLsbD)) (enter35 _) (by kernel_rfl) (size_to a sa _ HSA) ?_
      intro w1 B
      have C := C.trans (B.mono C.size)
      have V := V.below B
      refine ⟨V, ?_⟩
      refine three_ready (i := 3) (j := 8) (k := 9) (by kernel_rfl) ?_ ?_ ?_
      · skip
        refine step_call rfl #[.agg (encF b.getLsbD)] (.agg (encF sb.getLsbD)) (enter35 _) (by kernel_rfl) (size_to b sb _ HSB) ?_
        intro w1 B
        have C := C.trans (B.mono C.size)
        have V := V.below B
        refine ⟨V, ?_⟩
        refine three_ready (i := 4) (j := 8) (k := 9) (by kernel_rfl) ?_ ?_ ?_
        · skip
          refine step_call rfl #[.agg (encF sa.getLsbD), .agg (encF sb.getLsbD)] (.tuple #[.agg (encF q.getLsbD), .agg (encF r.getLsbD)]) (enter34 _) (by kernel_rfl) (divide_to sa sb q r H0.out _ HQ HR) ?_
          intro w1 B
          have C := C.trans (B.mono C.size)
          have V := V.below B
          refine ⟨V, ?_⟩
          refine takeMove 5 (some 54) (.tmp 59) (.tuple #[.agg (encF q.getLsbD), .agg (encF r.getLsbD)]) rfl rfl rfl (by kernel_rfl) (by kernel_rfl) (by kernel_rfl) (by kernel_rfl) (by kernel_rfl) CutQ.quiet V ?_
          refine takeExtract 6 (some 60) (.tmp 54) 0 #[.agg (encF q.getLsbD), .agg (encF r.getLsbD)] (.agg (encF q.getLsbD)) rfl rfl rfl (by kernel_rfl) (by kernel_rfl) (by kernel_rfl) (by kernel_rfl) (by kernel_rfl) (by kernel_rfl) CutQ.quiet V ?_
          refine takeExtract 7 (some 61) (.tmp 54) 1 #[.agg (encF q.getLsbD), .agg (encF r.getLsbD)] (.agg (encF r.getLsbD)) rfl rfl rfl (by kernel_rfl) (by kernel_rfl) (by kernel_rfl) (by kernel_rfl) (by kernel_rfl) (by kernel_rfl) CutQ.quiet V ?_
          refine two_ready (i := 8) (j := 9) (by kernel_rfl) ?_ ?_
          · skip
            refine step_alloc44 rfl rfl (some 12) rfl rfl ?_
            intro g w1 I G B
            have og : go < g := by have := I.out; have := V.o.lt; omega
            have C := C.trans (B.mono C.size)
            have V := V.below B
            refine ⟨V, ?_⟩
            refine one_ready (i := 9) (by kernel_rfl) ?_
            refine step_alloc44 rfl rfl (some 13) rfl rfl ?_
            intro h w1 I H B
            have oh : go < h := by have := I.out; have := V.o.lt; omega
            have ne : g ≠ h := by have := I.out; have := G.lt; omega
            have C := C.trans (B.mono C.size)
            have V := V.below B
            have G := G.below B
            refine ⟨V, ?_⟩
            refine one_ready (i := 10) (by kernel_rfl) ?_
            refine step_store44 rfl rfl rfl (.tmp 12) (.tmp 60) rfl g q.getLsbD (by kernel_rfl) (by kernel_rfl) noF G ?_
            intro w1 G B
            have C := B.under C C.size (by omega)
            have V := V.but B o1 o2 og
            have H := H.but B (Ne.symm ne)
            refine ⟨V, ?_⟩
            refine one_ready (i := 11) (by kernel_rfl) ?_
            refine step_store44 rfl rfl rfl (.tmp 13) (.tmp 61) rfl h r.getLsbD (by kernel_rfl) (by kernel_rfl) noF H ?_
            intro w1 H B
            have C := B.under C C.size (by omega)
            have V := V.but B o1 o2 oh
            have G := G.but B ne
            refine ⟨V, ?_⟩
            exact wpAnyH_done (by kernel_rfl) ⟨g, h, ⟨V, G, H, C, og, oh, ne⟩, rfl, by kernel_rfl⟩ _
          · skip
            refine step_alloc44 rfl rfl (some 13) rfl rfl ?_
            intro h w1 I H B
            have oh : go < h := by have := I.out; have := V.o.lt; omega
            have C := C.trans (B.mono C.size)
            have V := V.below B
            refine ⟨V, ?_⟩
            refine one_ready (i := 8) (by kernel_rfl) ?_
            refine step_alloc44 rfl rfl (some 12) rfl rfl ?_
            intro g w1 I G B
            have og : go < g := by have := I.out; have := V.o.lt; omega
            have ne : g ≠ h := by have := I.out; have := H.lt; omega
            have C := C.trans (B.mono C.size)
            have V := V.below B
            have H := H.below B
            refine ⟨V, ?_⟩
            refine one_ready (i := 10) (by kernel_rfl) ?_
            refine step_store44 rfl rfl rfl (.tmp 12) (.tmp 60) rfl g q.getLsbD (by kernel_rfl) (by kernel_rfl) noF G ?_
            intro w1 G B
            have C := B.under C C.size (by omega)
            have V := V.but B o1 o2 og
            have H := H.but B (Ne.symm ne)
            refine ⟨V, ?_⟩
            refine one_ready (i := 11) (by kernel_rfl) ?_
            refine step_store44 rfl rfl rfl (.tmp 13) (.tmp 61) rfl h r.getLsbD (by kernel_rfl) (by kernel_rfl) noF H ?_
            intro w1 H B
            have C := B.under C C.size (by omega)
            have V := V.but B o1 o2 oh
            have G := G.but B ne
            refine ⟨V, ?_⟩
            exact wpAnyH_done (by kernel_rfl) ⟨g, h, ⟨V, G, H, C, og, oh, ne⟩, rfl, by kernel_rfl⟩ _
        · skip
          refine step_alloc44 rfl rfl (some 12) rfl rfl ?_
          intro g w1 I G B
          have og : go < g := by have := I.out; have := V.o.lt; omega
          have C := C.trans (B.mono C.size)
          have V := V.below B
          refine ⟨V, ?_⟩
          refine two_ready (i := 4) (j := 9) (by kernel_rfl) ?_ ?_
          · skip
            refine step_call rfl #[.agg (encF sa.getLsbD), .agg (encF sb.getLsbD)] (.tuple #[.agg (encF q.getLsbD), .agg (encF r.getLsbD)]) (enter34 _) (by kernel_rfl) (divide_to sa sb q r H0.out _ HQ HR) ?_
            intro w1 B
            have C := C.trans (B.mono C.size)
            have V := V.below B
            have G := G.below B
            refine ⟨V, ?_⟩
            refine takeMove 5 (some 54) (.tmp 59) (.tuple #[.agg (encF q.getLsbD), .agg (encF r.getLsbD)]) rfl rfl rfl (by kernel_rfl) (by kernel_rfl) (by kernel_rfl) (by kernel_rfl) (by kernel_rfl) CutQ.quiet V ?_
            refine takeExtract 6 (some 60) (.tmp 54) 0 #[.agg (encF q.getLsbD), .agg (encF r.getLsbD)] (.agg (encF q.getLsbD)) rfl rfl rfl (by kernel_rfl) (by kernel_rfl) (by kernel_rfl) (by kernel_rfl) (by kernel_rfl) (by kernel_rfl) CutQ.quiet V ?_
            refine takeExtract 7 (some 61) (.tmp 54) 1 #[.agg (encF q.getLsbD), .agg (encF r.getLsbD)] (.agg (encF r.getLsbD)) rfl rfl rfl (by kernel_rfl) (by kernel_rfl) (by kernel_rfl) (by kernel_rfl) (by kernel_rfl) (by kernel_rfl) CutQ.quiet V ?_
            refine one_ready (i := 9) (by kernel_rfl) ?_
            refine step_alloc44 rfl rfl (some 13) rfl rfl ?_
            intro h w1 I H B
            have oh : go < h := by have := I.out; have := V.o.lt; omega
            have ne : g ≠ h := by have := I.out; have := G.lt; omega
            have C := C.trans (B.mono C.size)
            have V := V.below B
            have G := G.below B
            refine ⟨V, ?_⟩
            refine one_ready (i := 10) (by kernel_rfl) ?_
            refine step_store44 rfl rfl rfl (.tmp 12) (.tmp 60) rfl g q.getLsbD (by kernel_rfl) (by kernel_rfl) noF G ?_
            intro w1 G B
            have C := B.under C C.size (by omega)
            have V := V.but B o1 o2 og
            have H := H.but B (Ne.symm ne)
            refine ⟨V, ?_⟩
            refine one_ready (i := 11) (by kernel_rfl) ?_
            refine step_store44 rfl rfl rfl (.tmp 13) (.tmp 61) rfl h r.getLsbD (by kernel_rfl) (by kernel_rfl) noF H ?_
            intro w1 H B
            have C := B.under C C.size (by omega)
            have V := V.but B o1 o2 oh
            have G := G.but B ne
            refine ⟨V, ?_⟩
            exact wpAnyH_done (by kernel_rfl) ⟨g, h, ⟨V, G, H, C, og, oh, ne⟩, rfl, by kernel_rfl⟩ _
          · skip
            refine step_alloc44 rfl rfl (some 13) rfl rfl ?_
            intro h w1 I H B
            have oh : go < h := by have := I.out; have := V.o.lt; omega
            have ne : g ≠ h := by have := I.out; have := G.lt; omega
            have C := C.trans (B.mono C.size)
            have V := V.below B
            have G := G.below B
            refine ⟨V, ?_⟩
            refine one_ready (i := 4) (by kernel_rfl) ?_
            refine step_call rfl #[.agg (encF sa.getLsbD), .agg (encF sb.getLsbD)] (.tuple #[.agg (encF q.getLsbD), .agg (encF r.getLsbD)]) (enter34 _) (by kernel_rfl) (divide_to sa sb q r H0.out _ HQ HR) ?_
            intro w1 B
            have C := C.trans (B.mono C.size)
            have V := V.below B
            have G := G.below B
            have H := H.below B
            refine ⟨V, ?_⟩
            refine takeMove 5 (some 54) (.tmp 59) (.tuple #[.agg (encF q.getLsbD), .agg (encF r.getLsbD)]) rfl rfl rfl (by kernel_rfl) (by kernel_rfl) (by kernel_rfl) (by kernel_rfl) (by kernel_rfl) CutQ.quiet V ?_
            refine takeExtract 6 (some 60) (.tmp 54) 0 #[.agg (encF q.getLsbD), .agg (encF r.getLsbD)] (.agg (encF q.getLsbD)) rfl rfl rfl (by kernel_rfl) (by kernel_rfl) (by kernel_rfl) (by kernel_rfl) (by kernel_rfl) (by kernel_rfl) CutQ.quiet V ?_
            refine takeExtract 7 (some 61) (.tmp 54) 1 #[.agg (encF q.getLsbD), .agg (encF r.getLsbD)] (.agg (encF r.getLsbD)) rfl rfl rfl (by kernel_rfl) (by kernel_rfl) (by kernel_rfl) (by kernel_rfl) (by kernel_rfl) (by kernel_rfl) CutQ.quiet V ?_
            refine one_ready (i := 10) (by kernel_rfl) ?_
            refine step_store44 rfl rfl rfl (.tmp 12) (.tmp 60) rfl g q.getLsbD (by kernel_rfl) (by kernel_rfl) noF G ?_
            intro w1 G B
            have C := B.under C C.size (by omega)
            have V := V.but B o1 o2 og
            have H := H.but B (Ne.symm ne)
            refine ⟨V, ?_⟩
            refine one_ready (i := 11) (by kernel_rfl) ?_
            refine step_store44 rfl rfl rfl (.tmp 13) (.tmp 61) rfl h r.getLsbD (by kernel_rfl) (by kernel_rfl) noF H ?_
            intro w1 H B
            have C := B.under C C.size (by omega)
            have V := V.but B o1 o2 oh
            have G := G.but B ne
            refine ⟨V, ?_⟩
            exact wpAnyH_done (by kernel_rfl) ⟨g, h, ⟨V, G, H, C, og, oh, ne⟩, rfl, by kernel_rfl⟩ _
        · skip
          refine step_alloc44 rfl rfl (some 13) rfl rfl ?_
          intro h w1 I H B
          have oh : go < h := by have := I.out; have := V.o.lt; omega
          have C := C.trans (B.mono C.size)
          have V := V.below B
          refine ⟨V, ?_⟩
          refine two_ready (i := 4) (j := 8) (by kernel_rfl) ?_ ?_
          · skip
            refine step_call rfl #[.agg (encF sa.getLsbD), .agg (encF sb.getLsbD)] (.tuple #[.agg (encF q.getLsbD), .agg (encF r.getLsbD)]) (enter34 _) (by kernel_rfl) (divide_to sa sb q r H0.out _ HQ HR) ?_
            intro w1 B
            have C := C.trans (B.mono C.size)
            have V := V.below B
            have H := H.below B
            refine ⟨V, ?_⟩
            refine takeMove 5 (some 54) (.tmp 59) (.tuple #[.agg (encF q.getLsbD), .agg (encF r.getLsbD)]) rfl rfl rfl (by kernel_rfl) (by kernel_rfl) (by kernel_rfl) (by kernel_rfl) (by kernel_rfl) CutQ.quiet V ?_
            refine takeExtract 6 (some 60) (.tmp 54) 0 #[.agg (encF q.getLsbD), .agg (encF r.getLsbD)] (.agg (encF q.getLsbD)) rfl rfl rfl (by kernel_rfl) (by kernel_rfl) (by kernel_rfl) (by kernel_rfl) (by kernel_rfl) (by kernel_rfl) CutQ.quiet V ?_
            refine takeExtract 7 (some 61) (.tmp 54) 1 #[.agg (encF q.getLsbD), .agg (encF r.getLsbD)] (.agg (encF r.getLsbD)) rfl rfl rfl (by kernel_rfl) (by kernel_rfl) (by kernel_rfl) (by kernel_rfl) (by kernel_rfl) (by kernel_rfl) CutQ.quiet V ?_
            refine one_ready (i := 8) (by kernel_rfl) ?_
            refine step_alloc44 rfl rfl (some 12) rfl rfl ?_
            intro g w1 I G B
            have og : go < g := by have := I.out; have := V.o.lt; omega
            have ne : g ≠ h := by have := I.out; have := H.lt; omega
            have C := C.trans (B.mono C.size)
            have V := V.below B
            have H := H.below B
            refine ⟨V, ?_⟩
            refine one_ready (i := 10) (by kernel_rfl) ?_
            refine step_store44 rfl rfl rfl (.tmp 12) (.tmp 60) rfl g q.getLsbD (by kernel_rfl) (by kernel_rfl) noF G ?_
            intro w1 G B
            have C := B.under C C.size (by omega)
            have V := V.but B o1 o2 og
            have H := H.but B (Ne.symm ne)
            refine ⟨V, ?_⟩
            refine one_ready (i := 11) (by kernel_rfl) ?_
            refine step_store44 rfl rfl rfl (.tmp 13) (.tmp 61) rfl h r.getLsbD (by kernel_rfl) (by kernel_rfl) noF H ?_
            intro w1 H B
            have C := B.under C C.size (by omega)
            have V := V.but B o1 o2 oh
            have G := G.but B ne
            refine ⟨V, ?_⟩
            exact wpAnyH_done (by kernel_rfl) ⟨g, h, ⟨V, G, H, C, og, oh, ne⟩, rfl, by kernel_rfl⟩ _
          · skip
            refine step_alloc44 rfl rfl (some 12) rfl rfl ?_
            intro g w1 I G B
            have og : go < g := by have := I.out; have := V.o.lt; omega
            have ne : g ≠ h := by have := I.out; have := H.lt; omega
            have C := C.trans (B.mono C.size)
            have V := V.below B
            have H := H.below B
            refine ⟨V, ?_⟩
            refine one_ready (i := 4) (by kernel_rfl) ?_
            refine step_call rfl #[.agg (encF sa.getLsbD), .agg (encF sb.getLsbD)] (.tuple #[.agg (encF q.getLsbD), .agg (encF r.getLsbD)]) (enter34 _) (by kernel_rfl) (divide_to sa sb q r H0.out _ HQ HR) ?_
            intro w1 B
            have C := C.trans (B.mono C.size)
            have V := V.below B
            have G := G.below B
            have H := H.below B
            refine ⟨V, ?_⟩
            refine takeMove 5 (some 54) (.tmp 59) (.tuple #[.agg (encF q.getLsbD), .agg (encF r.getLsbD)]) rfl rfl rfl (by kernel_rfl) (by kernel_rfl) (by kernel_rfl) (by kernel_rfl) (by kernel_rfl) CutQ.quiet V ?_
            refine takeExtract 6 (some 60) (.tmp 54) 0 #[.agg (encF q.getLsbD), .agg (encF r.getLsbD)] (.agg (encF q.getLsbD)) rfl rfl rfl (by kernel_rfl) (by kernel_rfl) (by kernel_rfl) (by kernel_rfl) (by kernel_rfl) (by kernel_rfl) CutQ.quiet V ?_
            refine takeExtract 7 (some 61) (.tmp 54) 1 #[.agg (encF q.getLsbD), .agg (encF r.getLsbD)] (.agg (encF r.getLsbD)) rfl rfl rfl (by kernel_rfl) (by kernel_rfl) (by kernel_rfl) (by kernel_rfl) (by kernel_rfl) (by kernel_rfl) CutQ.quiet V ?_
            refine one_ready (i := 10) (by kernel_rfl) ?_
            refine step_store44 rfl rfl rfl (.tmp 12) (.tmp 60) rfl g q.getLsbD (by kernel_rfl) (by kernel_rfl) noF G ?_
            intro w1 G B
            have C := B.under C C.size (by omega)
            have V := V.but B o1 o2 og
            have H := H.but B (Ne.symm ne)
            refine ⟨V, ?_⟩
            refine one_ready (i := 11) (by kernel_rfl) ?_
            refine step_store44 rfl rfl rfl (.tmp 13) (.tmp 61) rfl h r.getLsbD (by kernel_rfl) (by kernel_rfl) noF H ?_
            intro w1 H B
            have C := B.under C C.size (by omega)
            have V := V.but B o1 o2 oh
            have G := G.but B ne
            refine ⟨V, ?_⟩
            exact wpAnyH_done (by kernel_rfl) ⟨g, h, ⟨V, G, H, C, og, oh, ne⟩, rfl, by kernel_rfl⟩ _
      · skip
        refine step_alloc44 rfl rfl (some 12) rfl rfl ?_
        intro g w1 I G B
        have og : go < g := by have := I.out; have := V.o.lt; omega
        have C := C.trans (B.mono C.size)
        have V := V.below B
        refine ⟨V, ?_⟩
        refine two_ready (i := 3) (j := 9) (by kernel_rfl) ?_ ?_
        · skip
          refine step_call rfl #[.agg (encF b.getLsbD)] (.agg (encF sb.getLsbD)) (enter35 _) (by kernel_rfl) (size_to b sb _ HSB) ?_
          intro w1 B
          have C := C.trans (B.mono C.size)
          have V := V.below B
          have G := G.below B
          refine ⟨V, ?_⟩
          refine two_ready (i := 4) (j := 9) (by kernel_rfl) ?_ ?_
          · skip
            refine step_call rfl #[.agg (encF sa.getLsbD), .agg (encF sb.getLsbD)] (.tuple #[.agg (encF q.getLsbD), .agg (encF r.getLsbD)]) (enter34 _) (by kernel_rfl) (divide_to sa sb q r H0.out _ HQ HR) ?_
            intro w1 B
            have C := C.trans (B.mono C.size)
            have V := V.below B
            have G := G.below B
            refine ⟨V, ?_⟩
            refine takeMove 5 (some 54) (.tmp 59) (.tuple #[.agg (encF q.getLsbD), .agg (encF r.getLsbD)]) rfl rfl rfl (by kernel_rfl) (by kernel_rfl) (by kernel_rfl) (by kernel_rfl) (by kernel_rfl) CutQ.quiet V ?_
            refine takeExtract 6 (some 60) (.tmp 54) 0 #[.agg (encF q.getLsbD), .agg (encF r.getLsbD)] (.agg (encF q.getLsbD)) rfl rfl rfl (by kernel_rfl) (by kernel_rfl) (by kernel_rfl) (by kernel_rfl) (by kernel_rfl) (by kernel_rfl) CutQ.quiet V ?_
            refine takeExtract 7 (some 61) (.tmp 54) 1 #[.agg (encF q.getLsbD), .agg (encF r.getLsbD)] (.agg (encF r.getLsbD)) rfl rfl rfl (by kernel_rfl) (by kernel_rfl) (by kernel_rfl) (by kernel_rfl) (by kernel_rfl) (by kernel_rfl) CutQ.quiet V ?_
            refine one_ready (i := 9) (by kernel_rfl) ?_
            refine step_alloc44 rfl rfl (some 13) rfl rfl ?_
            intro h w1 I H B
            have oh : go < h := by have := I.out; have := V.o.lt; omega
            have ne : g ≠ h := by have := I.out; have := G.lt; omega
            have C := C.trans (B.mono C.size)
            have V := V.below B
            have G := G.below B
            refine ⟨V, ?_⟩
            refine one_ready (i := 10) (by kernel_rfl) ?_
            refine step_store44 rfl rfl rfl (.tmp 12) (.tmp 60) rfl g q.getLsbD (by kernel_rfl) (by kernel_rfl) noF G ?_
            intro w1 G B
            have C := B.under C C.size (by omega)
            have V := V.but B o1 o2 og
            have H := H.but B (Ne.symm ne)
            refine ⟨V, ?_⟩
            refine one_ready (i := 11) (by kernel_rfl) ?_
            refine step_store44 rfl rfl rfl (.tmp 13) (.tmp 61) rfl h r.getLsbD (by kernel_rfl) (by kernel_rfl) noF H ?_
            intro w1 H B
            have C := B.under C C.size (by omega)
            have V := V.but B o1 o2 oh
            have G := G.but B ne
            refine ⟨V, ?_⟩
            exact wpAnyH_done (by kernel_rfl) ⟨g, h, ⟨V, G, H, C, og, oh, ne⟩, rfl, by kernel_rfl⟩ _
          · skip
            refine step_alloc44 rfl rfl (some 13) rfl rfl ?_
            intro h w1 I H B
            have oh : go < h := by have := I.out; have := V.o.lt; omega
            have ne : g ≠ h := by have := I.out; have := G.lt; omega
            have C := C.trans (B.mono C.size)
            have V := V.below B
            have G := G.below B
            refine ⟨V, ?_⟩
            refine one_ready (i := 4) (by kernel_rfl) ?_
            refine step_call rfl #[.agg (encF sa.getLsbD), .agg (encF sb.getLsbD)] (.tuple #[.agg (encF q.getLsbD), .agg (encF r.getLsbD)]) (enter34 _) (by kernel_rfl) (divide_to sa sb q r H0.out _ HQ HR) ?_
            intro w1 B
            have C := C.trans (B.mono C.size)
            have V := V.below B
            have G := G.below B
            have H := H.below B
            refine ⟨V, ?_⟩
            refine takeMove 5 (some 54) (.tmp 59) (.tuple #[.agg (encF q.getLsbD), .agg (encF r.getLsbD)]) rfl rfl rfl (by kernel_rfl) (by kernel_rfl) (by kernel_rfl) (by kernel_rfl) (by kernel_rfl) CutQ.quiet V ?_
            refine takeExtract 6 (some 60) (.tmp 54) 0 #[.agg (encF q.getLsbD), .agg (encF r.getLsbD)] (.agg (encF q.getLsbD)) rfl rfl rfl (by kernel_rfl) (by kernel_rfl) (by kernel_rfl) (by kernel_rfl) (by kernel_rfl) (by kernel_rfl) CutQ.quiet V ?_
            refine takeExtract 7 (some 61) (.tmp 54) 1 #[.agg (encF q.getLsbD), .agg (encF r.getLsbD)] (.agg (encF r.getLsbD)) rfl rfl rfl (by kernel_rfl) (by kernel_rfl) (by kernel_rfl) (by kernel_rfl) (by kernel_rfl) (by kernel_rfl) CutQ.quiet V ?_
            refine one_ready (i := 10) (by kernel_rfl) ?_
            refine step_store44 rfl rfl rfl (.tmp 12) (.tmp 60) rfl g q.getLsbD (by kernel_rfl) (by kernel_rfl) noF G ?_
            intro w1 G B
            have C := B.under C C.size (by omega)
            have V := V.but B o1 o2 og
            have H := H.but B (Ne.symm ne)
            refine ⟨V, ?_⟩
            refine one_ready (i := 11) (by kernel_rfl) ?_
            refine step_store44 rfl rfl rfl (.tmp 13) (.tmp 61) rfl h r.getLsbD (by kernel_rfl) (by kernel_rfl) noF H ?_
            intro w1 H B
            have C := B.under C C.size (by omega)
            have V := V.but B o1 o2 oh
            have G := G.but B ne
            refine ⟨V, ?_⟩
            exact wpAnyH_done (by kernel_rfl) ⟨g, h, ⟨V, G, H, C, og, oh, ne⟩, rfl, by kernel_rfl⟩ _
        · skip
          refine step_alloc44 rfl rfl (some 13) rfl rfl ?_
          intro h w1 I H B
          have oh : go < h := by have := I.out; have := V.o.lt; omega
          have ne : g ≠ h := by have := I.out; have := G.lt; omega
          have C := C.trans (B.mono C.size)
          have V := V.below B
          have G := G.below B
          refine ⟨V, ?_⟩
          refine one_ready (i := 3) (by kernel_rfl) ?_
          refine step_call rfl #[.agg (encF b.getLsbD)] (.agg (encF sb.getLsbD)) (enter35 _) (by kernel_rfl) (size_to b sb _ HSB) ?_
          intro w1 B
          have C := C.trans (B.mono C.size)
          have V := V.below B
          have G := G.below B
          have H := H.below B
          refine ⟨V, ?_⟩
          refine one_ready (i := 4) (by kernel_rfl) ?_
          refine step_call rfl #[.agg (encF sa.getLsbD), .agg (encF sb.getLsbD)] (.tuple #[.agg (encF q.getLsbD), .agg (encF r.getLsbD)]) (enter34 _) (by kernel_rfl) (divide_to sa sb q r H0.out _ HQ HR) ?_
          intro w1 B
          have C := C.trans (B.mono C.size)
          have V := V.below B
          have G := G.below B
          have H := H.below B
          refine ⟨V, ?_⟩
          refine takeMove 5 (some 54) (.tmp 59) (.tuple #[.agg (encF q.getLsbD), .agg (encF r.getLsbD)]) rfl rfl rfl (by kernel_rfl) (by kernel_rfl) (by kernel_rfl) (by kernel_rfl) (by kernel_rfl) CutQ.quiet V ?_
          refine takeExtract 6 (some 60) (.tmp 54) 0 #[.agg (encF q.getLsbD), .agg (encF r.getLsbD)] (.agg (encF q.getLsbD)) rfl rfl rfl (by kernel_rfl) (by kernel_rfl) (by kernel_rfl) (by kernel_rfl) (by kernel_rfl) (by kernel_rfl) CutQ.quiet V ?_
          refine takeExtract 7 (some 61) (.tmp 54) 1 #[.agg (encF q.getLsbD), .agg (encF r.getLsbD)] (.agg (encF r.getLsbD)) rfl rfl rfl (by kernel_rfl) (by kernel_rfl) (by kernel_rfl) (by kernel_rfl) (by kernel_rfl) (by kernel_rfl) CutQ.quiet V ?_
          refine one_ready (i := 10) (by kernel_rfl) ?_
          refine step_store44 rfl rfl rfl (.tmp 12) (.tmp 60) rfl g q.getLsbD (by kernel_rfl) (by kernel_rfl) noF G ?_
          intro w1 G B
          have C := B.under C C.size (by omega)
          have V := V.but B o1 o2 og
          have H := H.but B (Ne.symm ne)
          refine ⟨V, ?_⟩
          refine one_ready (i := 11) (by kernel_rfl) ?_
          refine step_store44 rfl rfl rfl (.tmp 13) (.tmp 61) rfl h r.getLsbD (by kernel_rfl) (by kernel_rfl) noF H ?_
          intro w1 H B
          have C := B.under C C.size (by omega)
          have V := V.but B o1 o2 oh
          have G := G.but B ne
          refine ⟨V, ?_⟩
          exact wpAnyH_done (by kernel_rfl) ⟨g, h, ⟨V, G, H, C, og, oh, ne⟩, rfl, by kernel_rfl⟩ _
      · skip
        refine step_alloc44 rfl rfl (some 13) rfl rfl ?_
        intro h w1 I H B
        have oh : go < h := by have := I.out; have := V.o.lt; omega
        have C := C.trans (B.mono C.size)
        have V := V.below B
        refine ⟨V, ?_⟩
        refine two_ready (i := 3) (j := 8) (by kernel_rfl) ?_ ?_
        · skip
          refine step_call rfl #[.agg (encF b.getLsbD)] (.agg (encF sb.getLsbD)) (enter35 _) (by kernel_rfl) (size_to b sb _ HSB) ?_
          intro w1 B
          have C := C.trans (B.mono C.size)
          have V := V.below B
          have H := H.below B
          refine ⟨V, ?_⟩
          refine two_ready (i := 4) (j := 8) (by kernel_rfl) ?_ ?_
          · skip
            refine step_call rfl #[.agg (encF sa.getLsbD), .agg (encF sb.getLsbD)] (.tuple #[.agg (encF q.getLsbD), .agg (encF r.getLsbD)]) (enter34 _) (by kernel_rfl) (divide_to sa sb q r H0.out _ HQ HR) ?_
            intro w1 B
            have C := C.trans (B.mono C.size)
            have V := V.below B
            have H := H.below B
            refine ⟨V, ?_⟩
            refine takeMove 5 (some 54) (.tmp 59) (.tuple #[.agg (encF q.getLsbD), .agg (encF r.getLsbD)]) rfl rfl rfl (by kernel_rfl) (by kernel_rfl) (by kernel_rfl) (by kernel_rfl) (by kernel_rfl) CutQ.quiet V ?_
            refine takeExtract 6 (some 60) (.tmp 54) 0 #[.agg (encF q.getLsbD), .agg (encF r.getLsbD)] (.agg (encF q.getLsbD)) rfl rfl rfl (by kernel_rfl) (by kernel_rfl) (by kernel_rfl) (by kernel_rfl) (by kernel_rfl) (by kernel_rfl) CutQ.quiet V ?_
            refine takeExtract 7 (some 61) (.tmp 54) 1 #[.agg (encF q.getLsbD), .agg (encF r.getLsbD)] (.agg (encF r.getLsbD)) rfl rfl rfl (by kernel_rfl) (by kernel_rfl) (by kernel_rfl) (by kernel_rfl) (by kernel_rfl) (by kernel_rfl) CutQ.quiet V ?_
            refine one_ready (i := 8) (by kernel_rfl) ?_
            refine step_alloc44 rfl rfl (some 12) rfl rfl ?_
            intro g w1 I G B
            have og : go < g := by have := I.out; have := V.o.lt; omega
            have ne : g ≠ h := by have := I.out; have := H.lt; omega
            have C := C.trans (B.mono C.size)
            have V := V.below B
            have H := H.below B
            refine ⟨V, ?_⟩
            refine one_ready (i := 10) (by kernel_rfl) ?_
            refine step_store44 rfl rfl rfl (.tmp 12) (.tmp 60) rfl g q.getLsbD (by kernel_rfl) (by kernel_rfl) noF G ?_
            intro w1 G B
            have C := B.under C C.size (by omega)
            have V := V.but B o1 o2 og
            have H := H.but B (Ne.symm ne)
            refine ⟨V, ?_⟩
            refine one_ready (i := 11) (by kernel_rfl) ?_
            refine step_store44 rfl rfl rfl (.tmp 13) (.tmp 61) rfl h r.getLsbD (by kernel_rfl) (by kernel_rfl) noF H ?_
            intro w1 H B
            have C := B.under C C.size (by omega)
            have V := V.but B o1 o2 oh
            have G := G.but B ne
            refine ⟨V, ?_⟩
            exact wpAnyH_done (by kernel_rfl) ⟨g, h, ⟨V, G, H, C, og, oh, ne⟩, rfl, by kernel_rfl⟩ _
          · skip
            refine step_alloc44 rfl rfl (some 12) rfl rfl ?_
            intro g w1 I G B
            have og : go < g := by have := I.out; have := V.o.lt; omega
            have ne : g ≠ h := by have := I.out; have := H.lt; omega
            have C := C.trans (B.mono C.size)
            have V := V.below B
            have H := H.below B
            refine ⟨V, ?_⟩
            refine one_ready (i := 4) (by kernel_rfl) ?_
            refine step_call rfl #[.agg (encF sa.getLsbD), .agg (encF sb.getLsbD)] (.tuple #[.agg (encF q.getLsbD), .agg (encF r.getLsbD)]) (enter34 _) (by kernel_rfl) (divide_to sa sb q r H0.out _ HQ HR) ?_
            intro w1 B
            have C := C.trans (B.mono C.size)
            have V := V.below B
            have G := G.below B
            have H := H.below B
            refine ⟨V, ?_⟩
            refine takeMove 5 (some 54) (.tmp 59) (.tuple #[.agg (encF q.getLsbD), .agg (encF r.getLsbD)]) rfl rfl rfl (by kernel_rfl) (by kernel_rfl) (by kernel_rfl) (by kernel_rfl) (by kernel_rfl) CutQ.quiet V ?_
            refine takeExtract 6 (some 60) (.tmp 54) 0 #[.agg (encF q.getLsbD), .agg (encF r.getLsbD)] (.agg (encF q.getLsbD)) rfl rfl rfl (by kernel_rfl) (by kernel_rfl) (by kernel_rfl) (by kernel_rfl) (by kernel_rfl) (by kernel_rfl) CutQ.quiet V ?_
            refine takeExtract 7 (some 61) (.tmp 54) 1 #[.agg (encF q.getLsbD), .agg (encF r.getLsbD)] (.agg (encF r.getLsbD)) rfl rfl rfl (by kernel_rfl) (by kernel_rfl) (by kernel_rfl) (by kernel_rfl) (by kernel_rfl) (by kernel_rfl) CutQ.quiet V ?_
            refine one_ready (i := 10) (by kernel_rfl) ?_
            refine step_store44 rfl rfl rfl (.tmp 12) (.tmp 60) rfl g q.getLsbD (by kernel_rfl) (by kernel_rfl) noF G ?_
            intro w1 G B
            have C := B.under C C.size (by omega)
            have V := V.but B o1 o2 og
            have H := H.but B (Ne.symm ne)
            refine ⟨V, ?_⟩
            refine one_ready (i := 11) (by kernel_rfl) ?_
            refine step_store44 rfl rfl rfl (.tmp 13) (.tmp 61) rfl h r.getLsbD (by kernel_rfl) (by kernel_rfl) noF H ?_
            intro w1 H B
            have C := B.under C C.size (by omega)
            have V := V.but B o1 o2 oh
            have G := G.but B ne
            refine ⟨V, ?_⟩
            exact wpAnyH_done (by kernel_rfl) ⟨g, h, ⟨V, G, H, C, og, oh, ne⟩, rfl, by kernel_rfl⟩ _
        · skip
          refine step_alloc44 rfl rfl (some 12) rfl rfl ?_
          intro g w1 I G B
          have og : go < g := by have := I.out; have := V.o.lt; omega
          have ne : g ≠ h := by have := I.out; have := H.lt; omega
          have C := C.trans (B.mono C.size)
          have V := V.below B
          have H := H.below B
          refine ⟨V, ?_⟩
          refine one_ready (i := 3) (by kernel_rfl) ?_
          refine step_call rfl #[.agg (encF b.getLsbD)] (.agg (encF sb.getLsbD)) (enter35 _) (by kernel_rfl) (size_to b sb _ HSB) ?_
          intro w1 B
          have C := C.trans (B.mono C.size)
          have V := V.below B
          have G := G.below B
          have H := H.below B
          refine ⟨V, ?_⟩
          refine one_ready (i := 4) (by kernel_rfl) ?_
          refine step_call rfl #[.agg (encF sa.getLsbD), .agg (encF sb.getLsbD)] (.tuple #[.agg (encF q.getLsbD), .agg (encF r.getLsbD)]) (enter34 _) (by kernel_rfl) (divide_to sa sb q r H0.out _ HQ HR) ?_
          intro w1 B
          have C := C.trans (B.mono C.size)
          have V := V.below B
          have G := G.below B
          have H := H.below B
          refine ⟨V, ?_⟩
          refine takeMove 5 (some 54) (.tmp 59) (.tuple #[.agg (encF q.getLsbD), .agg (encF r.getLsbD)]) rfl rfl rfl (by kernel_rfl) (by kernel_rfl) (by kernel_rfl) (by kernel_rfl) (by kernel_rfl) CutQ.quiet V ?_
          refine takeExtract 6 (some 60) (.tmp 54) 0 #[.agg (encF q.getLsbD), .agg (encF r.getLsbD)] (.agg (encF q.getLsbD)) rfl rfl rfl (by kernel_rfl) (by kernel_rfl) (by kernel_rfl) (by kernel_rfl) (by kernel_rfl) (by kernel_rfl) CutQ.quiet V ?_
          refine takeExtract 7 (some 61) (.tmp 54) 1 #[.agg (encF q.getLsbD), .agg (encF r.getLsbD)] (.agg (encF r.getLsbD)) rfl rfl rfl (by kernel_rfl) (by kernel_rfl) (by kernel_rfl) (by kernel_rfl) (by kernel_rfl) (by kernel_rfl) CutQ.quiet V ?_
          refine one_ready (i := 10) (by kernel_rfl) ?_
          refine step_store44 rfl rfl rfl (.tmp 12) (.tmp 60) rfl g q.getLsbD (by kernel_rfl) (by kernel_rfl) noF G ?_
          intro w1 G B
          have C := B.under C C.size (by omega)
          have V := V.but B o1 o2 og
          have H := H.but B (Ne.symm ne)
          refine ⟨V, ?_⟩
          refine one_ready (i := 11) (by kernel_rfl) ?_
          refine step_store44 rfl rfl rfl (.tmp 13) (.tmp 61) rfl h r.getLsbD (by kernel_rfl) (by kernel_rfl) noF H ?_
          intro w1 H B
          have C := B.under C C.size (by omega)
          have V := V.but B o1 o2 oh
          have G := G.but B ne
          refine ⟨V, ?_⟩
          exact wpAnyH_done (by kernel_rfl) ⟨g, h, ⟨V, G, H, C, og, oh, ne⟩, rfl, by kernel_rfl⟩ _
    · skip
      refine step_alloc44 rfl rfl (some 12) rfl rfl ?_
      intro g w1 I G B
      have og : go < g := by have := I.out; have := V.o.lt; omega
      have C := C.trans (B.mono C.size)
      have V := V.below B
      refine ⟨V, ?_⟩
      refine two_ready (i := 1) (j := 9) (by kernel_rfl) ?_ ?_
      · skip
        refine step_call rfl #[.agg (encF a.getLsbD)] (.agg (encF sa.getLsbD)) (enter35 _) (by kernel_rfl) (size_to a sa _ HSA) ?_
        intro w1 B
        have C := C.trans (B.mono C.size)
        have V := V.below B
        have G := G.below B
        refine ⟨V, ?_⟩
        refine two_ready (i := 3) (j := 9) (by kernel_rfl) ?_ ?_
        · skip
          refine step_call rfl #[.agg (encF b.getLsbD)] (.agg (encF sb.getLsbD)) (enter35 _) (by kernel_rfl) (size_to b sb _ HSB) ?_
          intro w1 B
          have C := C.trans (B.mono C.size)
          have V := V.below B
          have G := G.below B
          refine ⟨V, ?_⟩
          refine two_ready (i := 4) (j := 9) (by kernel_rfl) ?_ ?_
          · skip
            refine step_call rfl #[.agg (encF sa.getLsbD), .agg (encF sb.getLsbD)] (.tuple #[.agg (encF q.getLsbD), .agg (encF r.getLsbD)]) (enter34 _) (by kernel_rfl) (divide_to sa sb q r H0.out _ HQ HR) ?_
            intro w1 B
            have C := C.trans (B.mono C.size)
            have V := V.below B
            have G := G.below B
            refine ⟨V, ?_⟩
            refine takeMove 5 (some 54) (.tmp 59) (.tuple #[.agg (encF q.getLsbD), .agg (encF r.getLsbD)]) rfl rfl rfl (by kernel_rfl) (by kernel_rfl) (by kernel_rfl) (by kernel_rfl) (by kernel_rfl) CutQ.quiet V ?_
            refine takeExtract 6 (some 60) (.tmp 54) 0 #[.agg (encF q.getLsbD), .agg (encF r.getLsbD)] (.agg (encF q.getLsbD)) rfl rfl rfl (by kernel_rfl) (by kernel_rfl) (by kernel_rfl) (by kernel_rfl) (by kernel_rfl) (by kernel_rfl) CutQ.quiet V ?_
            refine takeExtract 7 (some 61) (.tmp 54) 1 #[.agg (encF q.getLsbD), .agg (encF r.getLsbD)] (.agg (encF r.getLsbD)) rfl rfl rfl (by kernel_rfl) (by kernel_rfl) (by kernel_rfl) (by kernel_rfl) (by kernel_rfl) (by kernel_rfl) CutQ.quiet V ?_
            refine one_ready (i := 9) (by kernel_rfl) ?_
            refine step_alloc44 rfl rfl (some 13) rfl rfl ?_
            intro h w1 I H B
            have oh : go < h := by have := I.out; have := V.o.lt; omega
            have ne : g ≠ h := by have := I.out; have := G.lt; omega
            have C := C.trans (B.mono C.size)
            have V := V.below B
            have G := G.below B
            refine ⟨V, ?_⟩
            refine one_ready (i := 10) (by kernel_rfl) ?_
            refine step_store44 rfl rfl rfl (.tmp 12) (.tmp 60) rfl g q.getLsbD (by kernel_rfl) (by kernel_rfl) noF G ?_
            intro w1 G B
            have C := B.under C C.size (by omega)
            have V := V.but B o1 o2 og
            have H := H.but B (Ne.symm ne)
            refine ⟨V, ?_⟩
            refine one_ready (i := 11) (by kernel_rfl) ?_
            refine step_store44 rfl rfl rfl (.tmp 13) (.tmp 61) rfl h r.getLsbD (by kernel_rfl) (by kernel_rfl) noF H ?_
            intro w1 H B
            have C := B.under C C.size (by omega)
            have V := V.but B o1 o2 oh
            have G := G.but B ne
            refine ⟨V, ?_⟩
            exact wpAnyH_done (by kernel_rfl) ⟨g, h, ⟨V, G, H, C, og, oh, ne⟩, rfl, by kernel_rfl⟩ _
          · skip
            refine step_alloc44 rfl rfl (some 13) rfl rfl ?_
            intro h w1 I H B
            have oh : go < h := by have := I.out; have := V.o.lt; omega
            have ne : g ≠ h := by have := I.out; have := G.lt; omega
            have C := C.trans (B.mono C.size)
            have V := V.below B
            have G := G.below B
            refine ⟨V, ?_⟩
            refine one_ready (i := 4) (by kernel_rfl) ?_
            refine step_call rfl #[.agg (encF sa.getLsbD), .agg (encF sb.getLsbD)] (.tuple #[.agg (encF q.getLsbD), .agg (encF r.getLsbD)]) (enter34 _) (by kernel_rfl) (divide_to sa sb q r H0.out _ HQ HR) ?_
            intro w1 B
            have C := C.trans (B.mono C.size)
            have V := V.below B
            have G := G.below B
            have H := H.below B
            refine ⟨V, ?_⟩
            refine takeMove 5 (some 54) (.tmp 59) (.tuple #[.agg (encF q.getLsbD), .agg (encF r.getLsbD)]) rfl rfl rfl (by kernel_rfl) (by kernel_rfl) (by kernel_rfl) (by kernel_rfl) (by kernel_rfl) CutQ.quiet V ?_
            refine takeExtract 6 (some 60) (.tmp 54) 0 #[.agg (encF q.getLsbD), .agg (encF r.getLsbD)] (.agg (encF q.getLsbD)) rfl rfl rfl (by kernel_rfl) (by kernel_rfl) (by kernel_rfl) (by kernel_rfl) (by kernel_rfl) (by kernel_rfl) CutQ.quiet V ?_
            refine takeExtract 7 (some 61) (.tmp 54) 1 #[.agg (encF q.getLsbD), .agg (encF r.getLsbD)] (.agg (encF r.getLsbD)) rfl rfl rfl (by kernel_rfl) (by kernel_rfl) (by kernel_rfl) (by kernel_rfl) (by kernel_rfl) (by kernel_rfl) CutQ.quiet V ?_
            refine one_ready (i := 10) (by kernel_rfl) ?_
            refine step_store44 rfl rfl rfl (.tmp 12) (.tmp 60) rfl g q.getLsbD (by kernel_rfl) (by kernel_rfl) noF G ?_
            intro w1 G B
            have C := B.under C C.size (by omega)
            have V := V.but B o1 o2 og
            have H := H.but B (Ne.symm ne)
            refine ⟨V, ?_⟩
            refine one_ready (i := 11) (by kernel_rfl) ?_
            refine step_store44 rfl rfl rfl (.tmp 13) (.tmp 61) rfl h r.getLsbD (by kernel_rfl) (by kernel_rfl) noF H ?_
            intro w1 H B
            have C := B.under C C.size (by omega)
            have V := V.but B o1 o2 oh
            have G := G.but B ne
            refine ⟨V, ?_⟩
            exact wpAnyH_done (by kernel_rfl) ⟨g, h, ⟨V, G, H, C, og, oh, ne⟩, rfl, by kernel_rfl⟩ _
        · skip
          refine step_alloc44 rfl rfl (some 13) rfl rfl ?_
          intro h w1 I H B
          have oh : go < h := by have := I.out; have := V.o.lt; omega
          have ne : g ≠ h := by have := I.out; have := G.lt; omega
          have C := C.trans (B.mono C.size)
          have V := V.below B
          have G := G.below B
          refine ⟨V, ?_⟩
          refine one_ready (i := 3) (by kernel_rfl) ?_
          refine step_call rfl #[.agg (encF b.getLsbD)] (.agg (encF sb.getLsbD)) (enter35 _) (by kernel_rfl) (size_to b sb _ HSB) ?_
          intro w1 B
          have C := C.trans (B.mono C.size)
          have V := V.below B
          have G := G.below B
          have H := H.below B
          refine ⟨V, ?_⟩
          refine one_ready (i := 4) (by kernel_rfl) ?_
          refine step_call rfl #[.agg (encF sa.getLsbD), .agg (encF sb.getLsbD)] (.tuple #[.agg (encF q.getLsbD), .agg (encF r.getLsbD)]) (enter34 _) (by kernel_rfl) (divide_to sa sb q r H0.out _ HQ HR) ?_
          intro w1 B
          have C := C.trans (B.mono C.size)
          have V := V.below B
          have G := G.below B
          have H := H.below B
          refine ⟨V, ?_⟩
          refine takeMove 5 (some 54) (.tmp 59) (.tuple #[.agg (encF q.getLsbD), .agg (encF r.getLsbD)]) rfl rfl rfl (by kernel_rfl) (by kernel_rfl) (by kernel_rfl) (by kernel_rfl) (by kernel_rfl) CutQ.quiet V ?_
          refine takeExtract 6 (some 60) (.tmp 54) 0 #[.agg (encF q.getLsbD), .agg (encF r.getLsbD)] (.agg (encF q.getLsbD)) rfl rfl rfl (by kernel_rfl) (by kernel_rfl) (by kernel_rfl) (by kernel_rfl) (by kernel_rfl) (by kernel_rfl) CutQ.quiet V ?_
          refine takeExtract 7 (some 61) (.tmp 54) 1 #[.agg (encF q.getLsbD), .agg (encF r.getLsbD)] (.agg (encF r.getLsbD)) rfl rfl rfl (by kernel_rfl) (by kernel_rfl) (by kernel_rfl) (by kernel_rfl) (by kernel_rfl) (by kernel_rfl) CutQ.quiet V ?_
          refine one_ready (i := 10) (by kernel_rfl) ?_
          refine step_store44 rfl rfl rfl (.tmp 12) (.tmp 60) rfl g q.getLsbD (by kernel_rfl) (by kernel_rfl) noF G ?_
          intro w1 G B
          have C := B.under C C.size (by omega)
          have V := V.but B o1 o2 og
          have H := H.but B (Ne.symm ne)
          refine ⟨V, ?_⟩
          refine one_ready (i := 11) (by kernel_rfl) ?_
          refine step_store44 rfl rfl rfl (.tmp 13) (.tmp 61) rfl h r.getLsbD (by kernel_rfl) (by kernel_rfl) noF H ?_
          intro w1 H B
          have C := B.under C C.size (by omega)
          have V := V.but B o1 o2 oh
          have G := G.but B ne
          refine ⟨V, ?_⟩
          exact wpAnyH_done (by kernel_rfl) ⟨g, h, ⟨V, G, H, C, og, oh, ne⟩, rfl, by kernel_rfl⟩ _
      · skip
        refine step_alloc44 rfl rfl (some 13) rfl rfl ?_
        intro h w1 I H B
        have oh : go < h := by have := I.out; have := V.o.lt; omega
        have ne : g ≠ h := by have := I.out; have := G.lt; omega
        have C := C.trans (B.mono C.size)
        have V := V.below B
        have G := G.below B
        refine ⟨V, ?_⟩
        refine one_ready (i := 1) (by kernel_rfl) ?_
        refine step_call rfl #[.agg (encF a.getLsbD)] (.agg (encF sa.getLsbD)) (enter35 _) (by kernel_rfl) (size_to a sa _ HSA) ?_
        intro w1 B
        have C := C.trans (B.mono C.size)
        have V := V.below B
        have G := G.below B
        have H := H.below B
        refine ⟨V, ?_⟩
        refine one_ready (i := 3) (by kernel_rfl) ?_
        refine step_call rfl #[.agg (encF b.getLsbD)] (.agg (encF sb.getLsbD)) (enter35 _) (by kernel_rfl) (size_to b sb _ HSB) ?_
        intro w1 B
        have C := C.trans (B.mono C.size)
        have V := V.below B
        have G := G.below B
        have H := H.below B
        refine ⟨V, ?_⟩
        refine one_ready (i := 4) (by kernel_rfl) ?_
        refine step_call rfl #[.agg (encF sa.getLsbD), .agg (encF sb.getLsbD)] (.tuple #[.agg (encF q.getLsbD), .agg (encF r.getLsbD)]) (enter34 _) (by kernel_rfl) (divide_to sa sb q r H0.out _ HQ HR) ?_
        intro w1 B
        have C := C.trans (B.mono C.size)
        have V := V.below B
        have G := G.below B
        have H := H.below B
        refine ⟨V, ?_⟩
        refine takeMove 5 (some 54) (.tmp 59) (.tuple #[.agg (encF q.getLsbD), .agg (encF r.getLsbD)]) rfl rfl rfl (by kernel_rfl) (by kernel_rfl) (by kernel_rfl) (by kernel_rfl) (by kernel_rfl) CutQ.quiet V ?_
        refine takeExtract 6 (some 60) (.tmp 54) 0 #[.agg (encF q.getLsbD), .agg (encF r.getLsbD)] (.agg (encF q.getLsbD)) rfl rfl rfl (by kernel_rfl) (by kernel_rfl) (by kernel_rfl) (by kernel_rfl) (by kernel_rfl) (by kernel_rfl) CutQ.quiet V ?_
        refine takeExtract 7 (some 61) (.tmp 54) 1 #[.agg (encF q.getLsbD), .agg (encF r.getLsbD)] (.agg (encF r.getLsbD)) rfl rfl rfl (by kernel_rfl) (by kernel_rfl) (by kernel_rfl) (by kernel_rfl) (by kernel_rfl) (by kernel_rfl) CutQ.quiet V ?_
        refine one_ready (i := 10) (by kernel_rfl) ?_
        refine step_store44 rfl rfl rfl (.tmp 12) (.tmp 60) rfl g q.getLsbD (by kernel_rfl) (by kernel_rfl) noF G ?_
        intro w1 G B
        have C := B.under C C.size (by omega)
        have V := V.but B o1 o2 og
        have H := H.but B (Ne.symm ne)
        refine ⟨V, ?_⟩
        refine one_ready (i := 11) (by kernel_rfl) ?_
        refine step_store44 rfl rfl rfl (.tmp 13) (.tmp 61) rfl h r.getLsbD (by kernel_rfl) (by kernel_rfl) noF H ?_
        intro w1 H B
        have C := B.under C C.size (by omega)
        have V := V.but B o1 o2 oh
        have G := G.but B ne
        refine ⟨V, ?_⟩
        exact wpAnyH_done (by kernel_rfl) ⟨g, h, ⟨V, G, H, C, og, oh, ne⟩, rfl, by kernel_rfl⟩ _
    · skip
      refine step_alloc44 rfl rfl (some 13) rfl rfl ?_
      intro h w1 I H B
      have oh : go < h := by have := I.out; have := V.o.lt; omega
      have C := C.trans (B.mono C.size)
      have V := V.below B
      refine ⟨V, ?_⟩
      refine two_ready (i := 1) (j := 8) (by kernel_rfl) ?_ ?_
      · skip
        refine step_call rfl #[.agg (encF a.getLsbD)] (.agg (encF sa.getLsbD)) (enter35 _) (by kernel_rfl) (size_to a sa _ HSA) ?_
        intro w1 B
        have C := C.trans (B.mono C.size)
        have V := V.below B
        have H := H.below B
        refine ⟨V, ?_⟩
        refine two_ready (i := 3) (j := 8) (by kernel_rfl) ?_ ?_
        · skip
          refine step_call rfl #[.agg (encF b.getLsbD)] (.agg (encF sb.getLsbD)) (enter35 _) (by kernel_rfl) (size_to b sb _ HSB) ?_
          intro w1 B
          have C := C.trans (B.mono C.size)
          have V := V.below B
          have H := H.below B
          refine ⟨V, ?_⟩
          refine two_ready (i := 4) (j := 8) (by kernel_rfl) ?_ ?_
          · skip
            refine step_call rfl #[.agg (encF sa.getLsbD), .agg (encF sb.getLsbD)] (.tuple #[.agg (encF q.getLsbD), .agg (encF r.getLsbD)]) (enter34 _) (by kernel_rfl) (divide_to sa sb q r H0.out _ HQ HR) ?_
            intro w1 B
            have C := C.trans (B.mono C.size)
            have V := V.below B
            have H := H.below B
            refine ⟨V, ?_⟩
            refine takeMove 5 (some 54) (.tmp 59) (.tuple #[.agg (encF q.getLsbD), .agg (encF r.getLsbD)]) rfl rfl rfl (by kernel_rfl) (by kernel_rfl) (by kernel_rfl) (by kernel_rfl) (by kernel_rfl) CutQ.quiet V ?_
            refine takeExtract 6 (some 60) (.tmp 54) 0 #[.agg (encF q.getLsbD), .agg (encF r.getLsbD)] (.agg (encF q.getLsbD)) rfl rfl rfl (by kernel_rfl) (by kernel_rfl) (by kernel_rfl) (by kernel_rfl) (by kernel_rfl) (by kernel_rfl) CutQ.quiet V ?_
            refine takeExtract 7 (some 61) (.tmp 54) 1 #[.agg (encF q.getLsbD), .agg (encF r.getLsbD)] (.agg (encF r.getLsbD)) rfl rfl rfl (by kernel_rfl) (by kernel_rfl) (by kernel_rfl) (by kernel_rfl) (by kernel_rfl) (by kernel_rfl) CutQ.quiet V ?_
            refine one_ready (i := 8) (by kernel_rfl) ?_
            refine step_alloc44 rfl rfl (some 12) rfl rfl ?_
            intro g w1 I G B
            have og : go < g := by have := I.out; have := V.o.lt; omega
            have ne : g ≠ h := by have := I.out; have := H.lt; omega
            have C := C.trans (B.mono C.size)
            have V := V.below B
            have H := H.below B
            refine ⟨V, ?_⟩
            refine one_ready (i := 10) (by kernel_rfl) ?_
            refine step_store44 rfl rfl rfl (.tmp 12) (.tmp 60) rfl g q.getLsbD (by kernel_rfl) (by kernel_rfl) noF G ?_
            intro w1 G B
            have C := B.under C C.size (by omega)
            have V := V.but B o1 o2 og
            have H := H.but B (Ne.symm ne)
            refine ⟨V, ?_⟩
            refine one_ready (i := 11) (by kernel_rfl) ?_
            refine step_store44 rfl rfl rfl (.tmp 13) (.tmp 61) rfl h r.getLsbD (by kernel_rfl) (by kernel_rfl) noF H ?_
            intro w1 H B
            have C := B.under C C.size (by omega)
            have V := V.but B o1 o2 oh
            have G := G.but B ne
            refine ⟨V, ?_⟩
            exact wpAnyH_done (by kernel_rfl) ⟨g, h, ⟨V, G, H, C, og, oh, ne⟩, rfl, by kernel_rfl⟩ _
          · skip
            refine step_alloc44 rfl rfl (some 12) rfl rfl ?_
            intro g w1 I G B
            have og : go < g := by have := I.out; have := V.o.lt; omega
            have ne : g ≠ h := by have := I.out; have := H.lt; omega
            have C := C.trans (B.mono C.size)
            have V := V.below B
            have H := H.below B
            refine ⟨V, ?_⟩
            refine one_ready (i := 4) (by kernel_rfl) ?_
            refine step_call rfl #[.agg (encF sa.getLsbD), .agg (encF sb.getLsbD)] (.tuple #[.agg (encF q.getLsbD), .agg (encF r.getLsbD)]) (enter34 _) (by kernel_rfl) (divide_to sa sb q r H0.out _ HQ HR) ?_
            intro w1 B
            have C := C.trans (B.mono C.size)
            have V := V.below B
            have G := G.below B
            have H := H.below B
            refine ⟨V, ?_⟩
            refine takeMove 5 (some 54) (.tmp 59) (.tuple #[.agg (encF q.getLsbD), .agg (encF r.getLsbD)]) rfl rfl rfl (by kernel_rfl) (by kernel_rfl) (by kernel_rfl) (by kernel_rfl) (by kernel_rfl) CutQ.quiet V ?_
            refine takeExtract 6 (some 60) (.tmp 54) 0 #[.agg (encF q.getLsbD), .agg (encF r.getLsbD)] (.agg (encF q.getLsbD)) rfl rfl rfl (by kernel_rfl) (by kernel_rfl) (by kernel_rfl) (by kernel_rfl) (by kernel_rfl) (by kernel_rfl) CutQ.quiet V ?_
            refine takeExtract 7 (some 61) (.tmp 54) 1 #[.agg (encF q.getLsbD), .agg (encF r.getLsbD)] (.agg (encF r.getLsbD)) rfl rfl rfl (by kernel_rfl) (by kernel_rfl) (by kernel_rfl) (by kernel_rfl) (by kernel_rfl) (by kernel_rfl) CutQ.quiet V ?_
            refine one_ready (i := 10) (by kernel_rfl) ?_
            refine step_store44 rfl rfl rfl (.tmp 12) (.tmp 60) rfl g q.getLsbD (by kernel_rfl) (by kernel_rfl) noF G ?_
            intro w1 G B
            have C := B.under C C.size (by omega)
            have V := V.but B o1 o2 og
            have H := H.but B (Ne.symm ne)
            refine ⟨V, ?_⟩
            refine one_ready (i := 11) (by kernel_rfl) ?_
            refine step_store44 rfl rfl rfl (.tmp 13) (.tmp 61) rfl h r.getLsbD (by kernel_rfl) (by kernel_rfl) noF H ?_
            intro w1 H B
            have C := B.under C C.size (by omega)
            have V := V.but B o1 o2 oh
            have G := G.but B ne
            refine ⟨V, ?_⟩
            exact wpAnyH_done (by kernel_rfl) ⟨g, h, ⟨V, G, H, C, og, oh, ne⟩, rfl, by kernel_rfl⟩ _
        · skip
          refine step_alloc44 rfl rfl (some 12) rfl rfl ?_
          intro g w1 I G B
          have og : go < g := by have := I.out; have := V.o.lt; omega
          have ne : g ≠ h := by have := I.out; have := H.lt; omega
          have C := C.trans (B.mono C.size)
          have V := V.below B
          have H := H.below B
          refine ⟨V, ?_⟩
          refine one_ready (i := 3) (by kernel_rfl) ?_
          refine step_call rfl #[.agg (encF b.getLsbD)] (.agg (encF sb.getLsbD)) (enter35 _) (by kernel_rfl) (size_to b sb _ HSB) ?_
          intro w1 B
          have C := C.trans (B.mono C.size)
          have V := V.below B
          have G := G.below B
          have H := H.below B
          refine ⟨V, ?_⟩
          refine one_ready (i := 4) (by kernel_rfl) ?_
          refine step_call rfl #[.agg (encF sa.getLsbD), .agg (encF sb.getLsbD)] (.tuple #[.agg (encF q.getLsbD), .agg (encF r.getLsbD)]) (enter34 _) (by kernel_rfl) (divide_to sa sb q r H0.out _ HQ HR) ?_
          intro w1 B
          have C := C.trans (B.mono C.size)
          have V := V.below B
          have G := G.below B
          have H := H.below B
          refine ⟨V, ?_⟩
          refine takeMove 5 (some 54) (.tmp 59) (.tuple #[.agg (encF q.getLsbD), .agg (encF r.getLsbD)]) rfl rfl rfl (by kernel_rfl) (by kernel_rfl) (by kernel_rfl) (by kernel_rfl) (by kernel_rfl) CutQ.quiet V ?_
          refine takeExtract 6 (some 60) (.tmp 54) 0 #[.agg (encF q.getLsbD), .agg (encF r.getLsbD)] (.agg (encF q.getLsbD)) rfl rfl rfl (by kernel_rfl) (by kernel_rfl) (by kernel_rfl) (by kernel_rfl) (by kernel_rfl) (by kernel_rfl) CutQ.quiet V ?_
          refine takeExtract 7 (some 61) (.tmp 54) 1 #[.agg (encF q.getLsbD), .agg (encF r.getLsbD)] (.agg (encF r.getLsbD)) rfl rfl rfl (by kernel_rfl) (by kernel_rfl) (by kernel_rfl) (by kernel_rfl) (by kernel_rfl) (by kernel_rfl) CutQ.quiet V ?_
          refine one_ready (i := 10) (by kernel_rfl) ?_
          refine step_store44 rfl rfl rfl (.tmp 12) (.tmp 60) rfl g q.getLsbD (by kernel_rfl) (by kernel_rfl) noF G ?_
          intro w1 G B
          have C := B.under C C.size (by omega)
          have V := V.but B o1 o2 og
          have H := H.but B (Ne.symm ne)
          refine ⟨V, ?_⟩
          refine one_ready (i := 11) (by kernel_rfl) ?_
          refine step_store44 rfl rfl rfl (.tmp 13) (.tmp 61) rfl h r.getLsbD (by kernel_rfl) (by kernel_rfl) noF H ?_
          intro w1 H B
          have C := B.under C C.size (by omega)
          have V := V.but B o1 o2 oh
          have G := G.but B ne
          refine ⟨V, ?_⟩
          exact wpAnyH_done (by kernel_rfl) ⟨g, h, ⟨V, G, H, C, og, oh, ne⟩, rfl, by kernel_rfl⟩ _
      · skip
        refine step_alloc44 rfl rfl (some 12) rfl rfl ?_
        intro g w1 I G B
        have og : go < g := by have := I.out; have := V.o.lt; omega
        have ne : g ≠ h := by have := I.out; have := H.lt; omega
        have C := C.trans (B.mono C.size)
        have V := V.below B
        have H := H.below B
        refine ⟨V, ?_⟩
        refine one_ready (i := 1) (by kernel_rfl) ?_
        refine step_call rfl #[.agg (encF a.getLsbD)] (.agg (encF sa.getLsbD)) (enter35 _) (by kernel_rfl) (size_to a sa _ HSA) ?_
        intro w1 B
        have C := C.trans (B.mono C.size)
        have V := V.below B
        have G := G.below B
        have H := H.below B
        refine ⟨V, ?_⟩
        refine one_ready (i := 3) (by kernel_rfl) ?_
        refine step_call rfl #[.agg (encF b.getLsbD)] (.agg (encF sb.getLsbD)) (enter35 _) (by kernel_rfl) (size_to b sb _ HSB) ?_
        intro w1 B
        have C := C.trans (B.mono C.size)
        have V := V.below B
        have G := G.below B
        have H := H.below B
        refine ⟨V, ?_⟩
        refine one_ready (i := 4) (by kernel_rfl) ?_
        refine step_call rfl #[.agg (encF sa.getLsbD), .agg (encF sb.getLsbD)] (.tuple #[.agg (encF q.getLsbD), .agg (encF r.getLsbD)]) (enter34 _) (by kernel_rfl) (divide_to sa sb q r H0.out _ HQ HR) ?_
        intro w1 B
        have C := C.trans (B.mono C.size)
        have V := V.below B
        have G := G.below B
        have H := H.below B
        refine ⟨V, ?_⟩
        refine takeMove 5 (some 54) (.tmp 59) (.tuple #[.agg (encF q.getLsbD), .agg (encF r.getLsbD)]) rfl rfl rfl (by kernel_rfl) (by kernel_rfl) (by kernel_rfl) (by kernel_rfl) (by kernel_rfl) CutQ.quiet V ?_
        refine takeExtract 6 (some 60) (.tmp 54) 0 #[.agg (encF q.getLsbD), .agg (encF r.getLsbD)] (.agg (encF q.getLsbD)) rfl rfl rfl (by kernel_rfl) (by kernel_rfl) (by kernel_rfl) (by kernel_rfl) (by kernel_rfl) (by kernel_rfl) CutQ.quiet V ?_
        refine takeExtract 7 (some 61) (.tmp 54) 1 #[.agg (encF q.getLsbD), .agg (encF r.getLsbD)] (.agg (encF r.getLsbD)) rfl rfl rfl (by kernel_rfl) (by kernel_rfl) (by kernel_rfl) (by kernel_rfl) (by kernel_rfl) (by kernel_rfl) CutQ.quiet V ?_
        refine one_ready (i := 10) (by kernel_rfl) ?_
        refine step_store44 rfl rfl rfl (.tmp 12) (.tmp 60) rfl g q.getLsbD (by kernel_rfl) (by kernel_rfl) noF G ?_
        intro w1 G B
        have C := B.under C C.size (by omega)
        have V := V.but B o1 o2 og
        have H := H.but B (Ne.symm ne)
        refine ⟨V, ?_⟩
        refine one_ready (i := 11) (by kernel_rfl) ?_
        refine step_store44 rfl rfl rfl (.tmp 13) (.tmp 61) rfl h r.getLsbD (by kernel_rfl) (by kernel_rfl) noF H ?_
        intro w1 H B
        have C := B.under C C.size (by omega)
        have V := V.but B o1 o2 oh
        have G := G.but B ne
        refine ⟨V, ?_⟩
        exact wpAnyH_done (by kernel_rfl) ⟨g, h, ⟨V, G, H, C, og, oh, ne⟩, rfl, by kernel_rfl⟩ _
  intro g h w9 K
  clear X Y O C
  simp only [Act.put, List.setIfInBounds_toArray, List.set_cons_zero, List.set_cons_succ]
  have hca := K.v.a.cell 63 (by omega)
  have hcb := K.v.b.cell 63 (by omega)
  rw [hsa] at hca
  rw [hsb] at hcb
  have o4 := K.og
  have o5 := K.oh
  go_wp2_with (first | (refine wpList_load44 rfl _ rfl g rfl q.getLsbD K.q ?_; refine wpList_store44 rfl _ _ rfl go q.getLsbD rfl rfl noF K.v.o ?_; intro w10 T10 B10; refine Hid.out ?_))
  have G10 := K.q.but B10 (by omega)
  have R10 := K.r.but B10 (by omega)
  have C10 := B10.under K.c K.c.size o3
  have hca := (K.v.a.but B10 (by omega)).cell 63 (by omega)
  have hcb := (K.v.b.but B10 (by omega)).cell 63 (by omega)
  have A10 := K.v.a.but B10 (by omega)
  rw [hsa] at hca
  rw [hsb] at hcb
  clear B10 K
  refine Lib.hid ?_
  go_wp2_with (first | (refine wpList_load44 rfl _ rfl g rfl q.getLsbD G10 ?_) | (go_at_call 36; refine (neg_to q nq _ HN).mono ?_; rintro e w11 ⟨rfl, B11⟩; refine Hid.out ?_))
  have R11 := R10.below B11
  have A11 := A10.below B11
  have O11 := T10.below B11
  have C11 := C10.trans (B11.mono C10.size)
  clear hca hcb R10 A10 T10 C10 B11 G10
  refine Lib.hid ?_
  go_wp2_with (first | (refine wpList_store44 rfl _ _ rfl go nq.getLsbD rfl rfl q.getLsbD O11 ?_; intro w12 T12 B12; refine Hid.out ?_))
  have R10 := R11.but B12 (by omega)
  have A10 := A11.but B12 (by omega)
  have C10 := B12.under C11 C11.size o3
  have T10 := T12
  have hca := A10.cell 63 (by omega)
  rw [hsa] at hca
  clear R11 A11 C11 O11 B12
  refine Lib.hid ?_
  go_wp2_with (first | (refine wpList_load44 rfl _ rfl h rfl r.getLsbD R10 ?_; refine wpList_store44 rfl _ _ rfl go r.getLsbD rfl rfl nq.getLsbD T10 ?_; intro w13 T13 B13; refine Hid.out ?_))
  have R13 := R10.but B13 (by omega)
  have hca := (A10.but B13 (by omega)).cell 63 (by omega)
  have C13 := B13.under C10 C10.size o3
  rw [hsa] at hca
  clear R10 A10 T10 C10 B13
  refine Lib.hid ?_
  go_wp2_with (first | (refine wpList_load44 rfl _ rfl go rfl r.getLsbD T13 ?_) | (go_at_call 39; refine (toInt_to r v _ HV).mono ?_; rintro e w20 ⟨rfl, B20⟩))
  go_ret2
  exact ⟨rfl, C13.trans (B20.mono C13.size)⟩

set_option maxHeartbeats 1000000 in
set_option maxRecDepth 100000 in
theorem refDo_5np (x y : Int) (a b : B64) (w : World) (HA : Hid (BitVec.ofInt 64 x = a)) (HB : Hid (BitVec.ofInt 64 y = b)) (sa sb q r : B64) (HSA : Hid (sizeV a = sa)) (HSB : Hid (sizeV b = sb)) (H0 : Hid (0 < sb.toNat)) (HQ : Hid (sa / sb = q)) (HR : Hid (sa % sb = r)) (HB0 : Hid ((b == 0#64) = false)) (nq : B64) (HN : Hid (-q = nq)) (nr : B64) (HNR : Hid (-r = nr)) (hsa : a.getLsbD 63 = true) (hsb : b.getLsbD 63 = false) (v : Int) (HV : Hid (nr.toInt = v)) :
    Calls Tryd.prog 12 #[.int .i64 5, .int .i64 x, .int .i64 y] w fun e w' => e = .returned (.tuple #[.int .i64 v, .int .i64 0]) ∧ Below w.heap.size w w' := by
  go_enter Tryd.func12, Tryd.ntmps12
  go_wp2_with fail
  refine (from_to x a _ HA).mono ?_
  rintro e w1 ⟨rfl, B1⟩
  go_wp2_with (first | (refine wpList_alloc44 rfl rfl ?_; intro ga w2 H2 A2 B2; refine wpList_store44 rfl _ _ rfl ga a.getLsbD rfl rfl noF A2 ?_; intro w3 A3 B3; refine Hid.out ?_))
  have e2 := H2.out
  have s1 := B1.size
  have s2 := B2.size
  have o0 : w.heap.size ≤ ga := by omega
  have C3 := B3.under (B1.trans (B2.mono s1)) (by omega) o0
  have l3 := A3.lt
  clear A2 B1 B2 B3 H2 e2 s1 s2
  refine Lib.hid ?_
  go_wp2_with fail
  refine (from_to y b _ HB).mono ?_
  rintro e w4 ⟨rfl, B4⟩
  go_wp2_with (first | (refine wpList_alloc44 rfl rfl ?_; intro gb w5 H5 A5 B5; refine wpList_store44 rfl _ _ rfl gb b.getLsbD rfl rfl noF A5 ?_; intro w6 A6 B6; refine Hid.out ?_))
  have e5 := H5.out
  have s4 := B4.size
  have s5 := B5.size
  have o1 : ga < gb := by omega
  have X6 := ((A3.below B4).below B5).but B6 (by omega)
  have C6 := B6.under ((C3.trans (B4.mono C3.size)).trans (B5.mono (Nat.le_trans C3.size s4))) (by have := C3.size; omega) (by omega)
  have l6 := A6.lt
  clear A3 A5 B4 B5 B6 H5 e5 s4 s5 l3 C3
  refine Lib.hid ?_
  go_wp2_with (first | (refine wpList_build44 rfl rfl ?_; refine wpList_alloc44 rfl rfl ?_; intro go w7 H7 A7 B7; refine wpList_store44 rfl _ _ rfl go noF rfl rfl noF A7 ?_; intro w8 O B8; refine Hid.out ?_))
  have e7 := H7.out
  have s7 := B7.size
  have o2 : gb < go := by omega
  have X := (X6.below B7).but B8 (by omega)
  have Y := (A6.below B7).but B8 (by omega)
  have C := B8.under (C6.trans (B7.mono C6.size)) (by have := C6.size; omega) (by omega)
  have o3 : w.heap.size ≤ go := by omega
  clear X6 A6 A7 B7 B8 H7 e7 s7 l6 C6
  refine Lib.hid ?_
  go_wp2_with (first | (refine wpList_load44 rfl _ rfl gb rfl b.getLsbD Y ?_; refine wpList_build44 rfl rfl ?_; rw [noF_zero]; refine wpList_eql44 rfl _ _ _ rfl b 0#64 rfl rfl false HB0 ?_))
  refine wp_region_cut (Cut w ga gb go a b q r) (fun a0 g h => (((((((((a0.put (some 55) (.agg (encF a.getLsbD))).put (some 57) (.agg (encF b.getLsbD))).put (some 56) (.agg (encF sa.getLsbD))).put (some 58) (.agg (encF sb.getLsbD))).put (some 59) (.tuple #[.agg (encF q.getLsbD), .agg (encF r.getLsbD)])).put (some 54) (.tuple #[.agg (encF q.getLsbD), .agg (encF r.getLsbD)])).put (some 60) (.agg (encF q.getLsbD))).put (some 61) (.agg (encF r.getLsbD))).put (some 12) (.pointer (some ⟨g, 0, none⟩))).put (some 13) (.pointer (some ⟨h, 0, none⟩))) ?_ ?_
  · refine wp_region_held_drew (S := fun w' => Three w' ga gb go a b) (by kernel_rfl) ⟨X, Y, O⟩ (fun V => ?_)
    have C := C.drew
    clear X Y O
    generalize w8.drew = wd at V C ⊢
    refine take44 0 (some 55) (.tmp 8) ga a.getLsbD rfl rfl rfl (by kernel_rfl) (by kernel_rfl) (by kernel_rfl) (by kernel_rfl) (by kernel_rfl) CutQ.quiet (fun w h => h.a) V ?_
    refine take44 2 (some 57) (.tmp 9) gb b.getLsbD rfl rfl rfl (by kernel_rfl) (by kernel_rfl) (by kernel_rfl) (by kernel_rfl) (by kernel_rfl) CutQ.quiet (fun w h => h.b) V ?_
    refine three_ready (i := 1) (j := 8) (k := 9) (by kernel_rfl) ?_ ?_ ?_
    · skip
      refine step_call rfl #[.agg (encF a.getLsbD)] (.agg (encF sa.getLsbD)) (enter35 _) (by kernel_rfl) (size_to a sa _ HSA) ?_
      intro w1 B
      have C := C.trans (B.mono C.size)
      have V := V.below B
      refine ⟨V, ?_⟩
      refine three_ready (i := 3) (j := 8) (k := 9) (by kernel_rfl) ?_ ?_ ?_
      · skip
        refine step_call rfl #[.agg (encF b.getLsbD)] (.agg (encF sb.getLsbD)) (enter35 _) (by kernel_rfl) (size_to b sb _ HSB) ?_
        intro w1 B
        have C := C.trans (B.mono C.size)
        have V := V.below B
        refine ⟨V, ?_⟩
        refine three_ready (i := 4) (j := 8) (k := 9) (by kernel_rfl) ?_ ?_ ?_
        · skip
          refine step_call rfl #[.agg (encF sa.getLsbD), .agg (encF sb.getLsbD)] (.tuple #[.agg (encF q.getLsbD), .agg (encF r.getLsbD)]) (enter34 _) (by kernel_rfl) (divide_to sa sb q r H0.out _ HQ HR) ?_
          intro w1 B
          have C := C.trans (B.mono C.size)
          have V := V.below B
          refine ⟨V, ?_⟩
          refine takeMove 5 (some 54) (.tmp 59) (.tuple #[.agg (encF q.getLsbD), .agg (encF r.getLsbD)]) rfl rfl rfl (by kernel_rfl) (by kernel_rfl) (by kernel_rfl) (by kernel_rfl) (by kernel_rfl) CutQ.quiet V ?_
          refine takeExtract 6 (some 60) (.tmp 54) 0 #[.agg (encF q.getLsbD), .agg (encF r.getLsbD)] (.agg (encF q.getLsbD)) rfl rfl rfl (by kernel_rfl) (by kernel_rfl) (by kernel_rfl) (by kernel_rfl) (by kernel_rfl) (by kernel_rfl) CutQ.quiet V ?_
          refine takeExtract 7 (some 61) (.tmp 54) 1 #[.agg (encF q.getLsbD), .agg (encF r.getLsbD)] (.agg (encF r.getLsbD)) rfl rfl rfl (by kernel_rfl) (by kernel_rfl) (by kernel_rfl) (by kernel_rfl) (by kernel_rfl) (by kernel_rfl) CutQ.quiet V ?_
          refine two_ready (i := 8) (j := 9) (by kernel_rfl) ?_ ?_
          · skip
            refine step_alloc44 rfl rfl (some 12) rfl rfl ?_
            intro g w1 I G B
            have og : go < g := by have := I.out; have := V.o.lt; omega
            have C := C.trans (B.mono C.size)
            have V := V.below B
            refine ⟨V, ?_⟩
            refine one_ready (i := 9) (by kernel_rfl) ?_
            refine step_alloc44 rfl rfl (some 13) rfl rfl ?_
            intro h w1 I H B
            have oh : go < h := by have := I.out; have := V.o.lt; omega
            have ne : g ≠ h := by have := I.out; have := G.lt; omega
            have C := C.trans (B.mono C.size)
            have V := V.below B
            have G := G.below B
            refine ⟨V, ?_⟩
            refine one_ready (i := 10) (by kernel_rfl) ?_
            refine step_store44 rfl rfl rfl (.tmp 12) (.tmp 60) rfl g q.getLsbD (by kernel_rfl) (by kernel_rfl) noF G ?_
            intro w1 G B
            have C := B.under C C.size (by omega)
            have V := V.but B o1 o2 og
            have H := H.but B (Ne.symm ne)
            refine ⟨V, ?_⟩
            refine one_ready (i := 11) (by kernel_rfl) ?_
            refine step_store44 rfl rfl rfl (.tmp 13) (.tmp 61) rfl h r.getLsbD (by kernel_rfl) (by kernel_rfl) noF H ?_
            intro w1 H B
            have C := B.under C C.size (by omega)
            have V := V.but B o1 o2 oh
            have G := G.but B ne
            refine ⟨V, ?_⟩
            exact wpAnyH_done (by kernel_rfl) ⟨g, h, ⟨V, G, H, C, og, oh, ne⟩, rfl, by kernel_rfl⟩ _
          · skip
            refine step_alloc44 rfl rfl (some 13) rfl rfl ?_
            intro h w1 I H B
            have oh : go < h := by have := I.out; have := V.o.lt; omega
            have C := C.trans (B.mono C.size)
            have V := V.below B
            refine ⟨V, ?_⟩
            refine one_ready (i := 8) (by kernel_rfl) ?_
            refine step_alloc44 rfl rfl (some 12) rfl rfl ?_
            intro g w1 I G B
            have og : go < g := by have := I.out; have := V.o.lt; omega
            have ne : g ≠ h := by have := I.out; have := H.lt; omega
            have C := C.trans (B.mono C.size)
            have V := V.below B
            have H := H.below B
            refine ⟨V, ?_⟩
            refine one_ready (i := 10) (by kernel_rfl) ?_
            refine step_store44 rfl rfl rfl (.tmp 12) (.tmp 60) rfl g q.getLsbD (by kernel_rfl) (by kernel_rfl) noF G ?_
            intro w1 G B
            have C := B.under C C.size (by omega)
            have V := V.but B o1 o2 og
            have H := H.but B (Ne.symm ne)
            refine ⟨V, ?_⟩
            refine one_ready (i := 11) (by kernel_rfl) ?_
            refine step_store44 rfl rfl rfl (.tmp 13) (.tmp 61) rfl h r.getLsbD (by kernel_rfl) (by kernel_rfl) noF H ?_
            intro w1 H B
            have C := B.under C C.size (by omega)
            have V := V.but B o1 o2 oh
            have G := G.but B ne
            refine ⟨V, ?_⟩
            exact wpAnyH_done (by kernel_rfl) ⟨g, h, ⟨V, G, H, C, og, oh, ne⟩, rfl, by kernel_rfl⟩ _
        · skip
          refine step_alloc44 rfl rfl (some 12) rfl rfl ?_
          intro g w1 I G B
          have og : go < g := by have := I.out; have := V.o.lt; omega
          have C := C.trans (B.mono C.size)
          have V := V.below B
          refine ⟨V, ?_⟩
          refine two_ready (i := 4) (j := 9) (by kernel_rfl) ?_ ?_
          · skip
            refine step_call rfl #[.agg (encF sa.getLsbD), .agg (encF sb.getLsbD)] (.tuple #[.agg (encF q.getLsbD), .agg (encF r.getLsbD)]) (enter34 _) (by kernel_rfl) (divide_to sa sb q r H0.out _ HQ HR) ?_
            intro w1 B
            have C := C.trans (B.mono C.size)
            have V := V.below B
            have G := G.below B
            refine ⟨V, ?_⟩
            refine takeMove 5 (some 54) (.tmp 59) (.tuple #[.agg (encF q.getLsbD), .agg (encF r.getLsbD)]) rfl rfl rfl (by kernel_rfl) (by kernel_rfl) (by kernel_rfl) (by kernel_rfl) (by kernel_rfl) CutQ.quiet V ?_
            refine takeExtract 6 (some 60) (.tmp 54) 0 #[.agg (encF q.getLsbD), .agg (encF r.getLsbD)] (.agg (encF q.getLsbD)) rfl rfl rfl (by kernel_rfl) (by kernel_rfl) (by kernel_rfl) (by kernel_rfl) (by kernel_rfl) (by kernel_rfl) CutQ.quiet V ?_
            refine takeExtract 7 (some 61) (.tmp 54) 1 #[.agg (encF q.getLsbD), .agg (encF r.getLsbD)] (.agg (encF r.getLsbD)) rfl rfl rfl (by kernel_rfl) (by kernel_rfl) (by kernel_rfl) (by kernel_rfl) (by kernel_rfl) (by kernel_rfl) CutQ.quiet V ?_
            refine one_ready (i := 9) (by kernel_rfl) ?_
            refine step_alloc44 rfl rfl (some 13) rfl rfl ?_
            intro h w1 I H B
            have oh : go < h := by have := I.out; have := V.o.lt; omega
            have ne : g ≠ h := by have := I.out; have := G.lt; omega
            have C := C.trans (B.mono C.size)
            have V := V.below B
            have G := G.below B
            refine ⟨V, ?_⟩
            refine one_ready (i := 10) (by kernel_rfl) ?_
            refine step_store44 rfl rfl rfl (.tmp 12) (.tmp 60) rfl g q.getLsbD (by kernel_rfl) (by kernel_rfl) noF G ?_
            intro w1 G B
            have C := B.under C C.size (by omega)
            have V := V.but B o1 o2 og
            have H := H.but B (Ne.symm ne)
            refine ⟨V, ?_⟩
            refine one_ready (i := 11) (by kernel_rfl) ?_
            refine step_store44 rfl rfl rfl (.tmp 13) (.tmp 61) rfl h r.getLsbD (by kernel_rfl) (by kernel_rfl) noF H ?_
            intro w1 H B
            have C := B.under C C.size (by omega)
            have V := V.but B o1 o2 oh
            have G := G.but B ne
            refine ⟨V, ?_⟩
            exact wpAnyH_done (by kernel_rfl) ⟨g, h, ⟨V, G, H, C, og, oh, ne⟩, rfl, by kernel_rfl⟩ _
          · skip
            refine step_alloc44 rfl rfl (some 13) rfl rfl ?_
            intro h w1 I H B
            have oh : go < h := by have := I.out; have := V.o.lt; omega
            have ne : g ≠ h := by have := I.out; have := G.lt; omega
            have C := C.trans (B.mono C.size)
            have V := V.below B
            have G := G.below B
            refine ⟨V, ?_⟩
            refine one_ready (i := 4) (by kernel_rfl) ?_
            refine step_call rfl #[.agg (encF sa.getLsbD), .agg (encF sb.getLsbD)] (.tuple #[.agg (encF q.getLsbD), .agg (encF r.getLsbD)]) (enter34 _) (by kernel_rfl) (divide_to sa sb q r H0.out _ HQ HR) ?_
            intro w1 B
            have C := C.trans (B.mono C.size)
            have V := V.below B
            have G := G.below B
            have H := H.below B
            refine ⟨V, ?_⟩
            refine takeMove 5 (some 54) (.tmp 59) (.tuple #[.agg (encF q.getLsbD), .agg (encF r.getLsbD)]) rfl rfl rfl (by kernel_rfl) (by kernel_rfl) (by kernel_rfl) (by kernel_rfl) (by kernel_rfl) CutQ.quiet V ?_
            refine takeExtract 6 (some 60) (.tmp 54) 0 #[.agg (encF q.getLsbD), .agg (encF r.getLsbD)] (.agg (encF q.getLsbD)) rfl rfl rfl (by kernel_rfl) (by kernel_rfl) (by kernel_rfl) (by kernel_rfl) (by kernel_rfl) (by kernel_rfl) CutQ.quiet V ?_
            refine takeExtract 7 (some 61) (.tmp 54) 1 #[.agg (encF q.getLsbD), .agg (encF r.getLsbD)] (.agg (encF r.getLsbD)) rfl rfl rfl (by kernel_rfl) (by kernel_rfl) (by kernel_rfl) (by kernel_rfl) (by kernel_rfl) (by kernel_rfl) CutQ.quiet V ?_
            refine one_ready (i := 10) (by kernel_rfl) ?_
            refine step_store44 rfl rfl rfl (.tmp 12) (.tmp 60) rfl g q.getLsbD (by kernel_rfl) (by kernel_rfl) noF G ?_
            intro w1 G B
            have C := B.under C C.size (by omega)
            have V := V.but B o1 o2 og
            have H := H.but B (Ne.symm ne)
            refine ⟨V, ?_⟩
            refine one_ready (i := 11) (by kernel_rfl) ?_
            refine step_store44 rfl rfl rfl (.tmp 13) (.tmp 61) rfl h r.getLsbD (by kernel_rfl) (by kernel_rfl) noF H ?_
            intro w1 H B
            have C := B.under C C.size (by omega)
            have V := V.but B o1 o2 oh
            have G := G.but B ne
            refine ⟨V, ?_⟩
            exact wpAnyH_done (by kernel_rfl) ⟨g, h, ⟨V, G, H, C, og, oh, ne⟩, rfl, by kernel_rfl⟩ _
        · skip
          refine step_alloc44 rfl rfl (some 13) rfl rfl ?_
          intro h w1 I H B
          have oh : go < h := by have := I.out; have := V.o.lt; omega
          have C := C.trans (B.mono C.size)
          have V := V.below B
          refine ⟨V, ?_⟩
          refine two_ready (i := 4) (j := 8) (by kernel_rfl) ?_ ?_
          · skip
            refine step_call rfl #[.agg (encF sa.getLsbD), .agg (encF sb.getLsbD)] (.tuple #[.agg (encF q.getLsbD), .agg (encF r.getLsbD)]) (enter34 _) (by kernel_rfl) (divide_to sa sb q r H0.out _ HQ HR) ?_
            intro w1 B
            have C := C.trans (B.mono C.size)
            have V := V.below B
            have H := H.below B
            refine ⟨V, ?_⟩
            refine takeMove 5 (some 54) (.tmp 59) (.tuple #[.agg (encF q.getLsbD), .agg (encF r.getLsbD)]) rfl rfl rfl (by kernel_rfl) (by kernel_rfl) (by kernel_rfl) (by kernel_rfl) (by kernel_rfl) CutQ.quiet V ?_
            refine takeExtract 6 (some 60) (.tmp 54) 0 #[.agg (encF q.getLsbD), .agg (encF r.getLsbD)] (.agg (encF q.getLsbD)) rfl rfl rfl (by kernel_rfl) (by kernel_rfl) (by kernel_rfl) (by kernel_rfl) (by kernel_rfl) (by kernel_rfl) CutQ.quiet V ?_
            refine takeExtract 7 (some 61) (.tmp 54) 1 #[.agg (encF q.getLsbD), .agg (encF r.getLsbD)] (.agg (encF r.getLsbD)) rfl rfl rfl (by kernel_rfl) (by kernel_rfl) (by kernel_rfl) (by kernel_rfl) (by kernel_rfl) (by kernel_rfl) CutQ.quiet V ?_
            refine one_ready (i := 8) (by kernel_rfl) ?_
            refine step_alloc44 rfl rfl (some 12) rfl rfl ?_
            intro g w1 I G B
            have og : go < g := by have := I.out; have := V.o.lt; omega
            have ne : g ≠ h := by have := I.out; have := H.lt; omega
            have C := C.trans (B.mono C.size)
            have V := V.below B
            have H := H.below B
            refine ⟨V, ?_⟩
            refine one_ready (i := 10) (by kernel_rfl) ?_
            refine step_store44 rfl rfl rfl (.tmp 12) (.tmp 60) rfl g q.getLsbD (by kernel_rfl) (by kernel_rfl) noF G ?_
            intro w1 G B
            have C := B.under C C.size (by omega)
            have V := V.but B o1 o2 og
            have H := H.but B (Ne.symm ne)
            refine ⟨V, ?_⟩
            refine one_ready (i := 11) (by kernel_rfl) ?_
            refine step_store44 rfl rfl rfl (.tmp 13) (.tmp 61) rfl h r.getLsbD (by kernel_rfl) (by kernel_rfl) noF H ?_
            intro w1 H B
            have C := B.under C C.size (by omega)
            have V := V.but B o1 o2 oh
            have G := G.but B ne
            refine ⟨V, ?_⟩
            exact wpAnyH_done (by kernel_rfl) ⟨g, h, ⟨V, G, H, C, og, oh, ne⟩, rfl, by kernel_rfl⟩ _
          · skip
            refine step_alloc44 rfl rfl (some 12) rfl rfl ?_
            intro g w1 I G B
            have og : go < g := by have := I.out; have := V.o.lt; omega
            have ne : g ≠ h := by have := I.out; have := H.lt; omega
            have C := C.trans (B.mono C.size)
            have V := V.below B
            have H := H.below B
            refine ⟨V, ?_⟩
            refine one_ready (i := 4) (by kernel_rfl) ?_
            refine step_call rfl #[.agg (encF sa.getLsbD), .agg (encF sb.getLsbD)] (.tuple #[.agg (encF q.getLsbD), .agg (encF r.getLsbD)]) (enter34 _) (by kernel_rfl) (divide_to sa sb q r H0.out _ HQ HR) ?_
            intro w1 B
            have C := C.trans (B.mono C.size)
            have V := V.below B
            have G := G.below B
            have H := H.below B
            refine ⟨V, ?_⟩
            refine takeMove 5 (some 54) (.tmp 59) (.tuple #[.agg (encF q.getLsbD), .agg (encF r.getLsbD)]) rfl rfl rfl (by kernel_rfl) (by kernel_rfl) (by kernel_rfl) (by kernel_rfl) (by kernel_rfl) CutQ.quiet V ?_
            refine takeExtract 6 (some 60) (.tmp 54) 0 #[.agg (encF q.getLsbD), .agg (encF r.getLsbD)] (.agg (encF q.getLsbD)) rfl rfl rfl (by kernel_rfl) (by kernel_rfl) (by kernel_rfl) (by kernel_rfl) (by kernel_rfl) (by kernel_rfl) CutQ.quiet V ?_
            refine takeExtract 7 (some 61) (.tmp 54) 1 #[.agg (encF q.getLsbD), .agg (encF r.getLsbD)] (.agg (encF r.getLsbD)) rfl rfl rfl (by kernel_rfl) (by kernel_rfl) (by kernel_rfl) (by kernel_rfl) (by kernel_rfl) (by kernel_rfl) CutQ.quiet V ?_
            refine one_ready (i := 10) (by kernel_rfl) ?_
            refine step_store44 rfl rfl rfl (.tmp 12) (.tmp 60) rfl g q.getLsbD (by kernel_rfl) (by kernel_rfl) noF G ?_
            intro w1 G B
            have C := B.under C C.size (by omega)
            have V := V.but B o1 o2 og
            have H := H.but B (Ne.symm ne)
            refine ⟨V, ?_⟩
            refine one_ready (i := 11) (by kernel_rfl) ?_
            refine step_store44 rfl rfl rfl (.tmp 13) (.tmp 61) rfl h r.getLsbD (by kernel_rfl) (by kernel_rfl) noF H ?_
            intro w1 H B
            have C := B.under C C.size (by omega)
            have V := V.but B o1 o2 oh
            have G := G.but B ne
            refine ⟨V, ?_⟩
            exact wpAnyH_done (by kernel_rfl) ⟨g, h, ⟨V, G, H, C, og, oh, ne⟩, rfl, by kernel_rfl⟩ _
      · skip
        refine step_alloc44 rfl rfl (some 12) rfl rfl ?_
        intro g w1 I G B
        have og : go < g := by have := I.out; have := V.o.lt; omega
        have C := C.trans (B.mono C.size)
        have V := V.below B
        refine ⟨V, ?_⟩
        refine two_ready (i := 3) (j := 9) (by kernel_rfl) ?_ ?_
        · skip
          refine step_call rfl #[.agg (encF b.getLsbD)] (.agg (encF sb.getLsbD)) (enter35 _) (by kernel_rfl) (size_to b sb _ HSB) ?_
          intro w1 B
          have C := C.trans (B.mono C.size)
          have V := V.below B
          have G := G.below B
          refine ⟨V, ?_⟩
          refine two_ready (i := 4) (j := 9) (by kernel_rfl) ?_ ?_
          · skip
            refine step_call rfl #[.agg (encF sa.getLsbD), .agg (encF sb.getLsbD)] (.tuple #[.agg (encF q.getLsbD), .agg (encF r.getLsbD)]) (enter34 _) (by kernel_rfl) (divide_to sa sb q r H0.out _ HQ HR) ?_
            intro w1 B
            have C := C.trans (B.mono C.size)
            have V := V.below B
            have G := G.below B
            refine ⟨V, ?_⟩
            refine takeMove 5 (some 54) (.tmp 59) (.tuple #[.agg (encF q.getLsbD), .agg (encF r.getLsbD)]) rfl rfl rfl (by kernel_rfl) (by kernel_rfl) (by kernel_rfl) (by kernel_rfl) (by kernel_rfl) CutQ.quiet V ?_
            refine takeExtract 6 (some 60) (.tmp 54) 0 #[.agg (encF q.getLsbD), .agg (encF r.getLsbD)] (.agg (encF q.getLsbD)) rfl rfl rfl (by kernel_rfl) (by kernel_rfl) (by kernel_rfl) (by kernel_rfl) (by kernel_rfl) (by kernel_rfl) CutQ.quiet V ?_
            refine takeExtract 7 (some 61) (.tmp 54) 1 #[.agg (encF q.getLsbD), .agg (encF r.getLsbD)] (.agg (encF r.getLsbD)) rfl rfl rfl (by kernel_rfl) (by kernel_rfl) (by kernel_rfl) (by kernel_rfl) (by kernel_rfl) (by kernel_rfl) CutQ.quiet V ?_
            refine one_ready (i := 9) (by kernel_rfl) ?_
            refine step_alloc44 rfl rfl (some 13) rfl rfl ?_
            intro h w1 I H B
            have oh : go < h := by have := I.out; have := V.o.lt; omega
            have ne : g ≠ h := by have := I.out; have := G.lt; omega
            have C := C.trans (B.mono C.size)
            have V := V.below B
            have G := G.below B
            refine ⟨V, ?_⟩
            refine one_ready (i := 10) (by kernel_rfl) ?_
            refine step_store44 rfl rfl rfl (.tmp 12) (.tmp 60) rfl g q.getLsbD (by kernel_rfl) (by kernel_rfl) noF G ?_
            intro w1 G B
            have C := B.under C C.size (by omega)
            have V := V.but B o1 o2 og
            have H := H.but B (Ne.symm ne)
            refine ⟨V, ?_⟩
            refine one_ready (i := 11) (by kernel_rfl) ?_
            refine step_store44 rfl rfl rfl (.tmp 13) (.tmp 61) rfl h r.getLsbD (by kernel_rfl) (by kernel_rfl) noF H ?_
            intro w1 H B
            have C := B.under C C.size (by omega)
            have V := V.but B o1 o2 oh
            have G := G.but B ne
            refine ⟨V, ?_⟩
            exact wpAnyH_done (by kernel_rfl) ⟨g, h, ⟨V, G, H, C, og, oh, ne⟩, rfl, by kernel_rfl⟩ _
          · skip
            refine step_alloc44 rfl rfl (some 13) rfl rfl ?_
            intro h w1 I H B
            have oh : go < h := by have := I.out; have := V.o.lt; omega
            have ne : g ≠ h := by have := I.out; have := G.lt; omega
            have C := C.trans (B.mono C.size)
            have V := V.below B
            have G := G.below B
            refine ⟨V, ?_⟩
            refine one_ready (i := 4) (by kernel_rfl) ?_
            refine step_call rfl #[.agg (encF sa.getLsbD), .agg (encF sb.getLsbD)] (.tuple #[.agg (encF q.getLsbD), .agg (encF r.getLsbD)]) (enter34 _) (by kernel_rfl) (divide_to sa sb q r H0.out _ HQ HR) ?_
            intro w1 B
            have C := C.trans (B.mono C.size)
            have V := V.below B
            have G := G.below B
            have H := H.below B
            refine ⟨V, ?_⟩
            refine takeMove 5 (some 54) (.tmp 59) (.tuple #[.agg (encF q.getLsbD), .agg (encF r.getLsbD)]) rfl rfl rfl (by kernel_rfl) (by kernel_rfl) (by kernel_rfl) (by kernel_rfl) (by kernel_rfl) CutQ.quiet V ?_
            refine takeExtract 6 (some 60) (.tmp 54) 0 #[.agg (encF q.getLsbD), .agg (encF r.getLsbD)] (.agg (encF q.getLsbD)) rfl rfl rfl (by kernel_rfl) (by kernel_rfl) (by kernel_rfl) (by kernel_rfl) (by kernel_rfl) (by kernel_rfl) CutQ.quiet V ?_
            refine takeExtract 7 (some 61) (.tmp 54) 1 #[.agg (encF q.getLsbD), .agg (encF r.getLsbD)] (.agg (encF r.getLsbD)) rfl rfl rfl (by kernel_rfl) (by kernel_rfl) (by kernel_rfl) (by kernel_rfl) (by kernel_rfl) (by kernel_rfl) CutQ.quiet V ?_
            refine one_ready (i := 10) (by kernel_rfl) ?_
            refine step_store44 rfl rfl rfl (.tmp 12) (.tmp 60) rfl g q.getLsbD (by kernel_rfl) (by kernel_rfl) noF G ?_
            intro w1 G B
            have C := B.under C C.size (by omega)
            have V := V.but B o1 o2 og
            have H := H.but B (Ne.symm ne)
            refine ⟨V, ?_⟩
            refine one_ready (i := 11) (by kernel_rfl) ?_
            refine step_store44 rfl rfl rfl (.tmp 13) (.tmp 61) rfl h r.getLsbD (by kernel_rfl) (by kernel_rfl) noF H ?_
            intro w1 H B
            have C := B.under C C.size (by omega)
            have V := V.but B o1 o2 oh
            have G := G.but B ne
            refine ⟨V, ?_⟩
            exact wpAnyH_done (by kernel_rfl) ⟨g, h, ⟨V, G, H, C, og, oh, ne⟩, rfl, by kernel_rfl⟩ _
        · skip
          refine step_alloc44 rfl rfl (some 13) rfl rfl ?_
          intro h w1 I H B
          have oh : go < h := by have := I.out; have := V.o.lt; omega
          have ne : g ≠ h := by have := I.out; have := G.lt; omega
          have C := C.trans (B.mono C.size)
          have V := V.below B
          have G := G.below B
          refine ⟨V, ?_⟩
          refine one_ready (i := 3) (by kernel_rfl) ?_
          refine step_call rfl #[.agg (encF b.getLsbD)] (.agg (encF sb.getLsbD)) (enter35 _) (by kernel_rfl) (size_to b sb _ HSB) ?_
          intro w1 B
          have C := C.trans (B.mono C.size)
          have V := V.below B
          have G := G.below B
          have H := H.below B
          refine ⟨V, ?_⟩
          refine one_ready (i := 4) (by kernel_rfl) ?_
          refine step_call rfl #[.agg (encF sa.getLsbD), .agg (encF sb.getLsbD)] (.tuple #[.agg (encF q.getLsbD), .agg (encF r.getLsbD)]) (enter34 _) (by kernel_rfl) (divide_to sa sb q r H0.out _ HQ HR) ?_
          intro w1 B
          have C := C.trans (B.mono C.size)
          have V := V.below B
          have G := G.below B
          have H := H.below B
          refine ⟨V, ?_⟩
          refine takeMove 5 (some 54) (.tmp 59) (.tuple #[.agg (encF q.getLsbD), .agg (encF r.getLsbD)]) rfl rfl rfl (by kernel_rfl) (by kernel_rfl) (by kernel_rfl) (by kernel_rfl) (by kernel_rfl) CutQ.quiet V ?_
          refine takeExtract 6 (some 60) (.tmp 54) 0 #[.agg (encF q.getLsbD), .agg (encF r.getLsbD)] (.agg (encF q.getLsbD)) rfl rfl rfl (by kernel_rfl) (by kernel_rfl) (by kernel_rfl) (by kernel_rfl) (by kernel_rfl) (by kernel_rfl) CutQ.quiet V ?_
          refine takeExtract 7 (some 61) (.tmp 54) 1 #[.agg (encF q.getLsbD), .agg (encF r.getLsbD)] (.agg (encF r.getLsbD)) rfl rfl rfl (by kernel_rfl) (by kernel_rfl) (by kernel_rfl) (by kernel_rfl) (by kernel_rfl) (by kernel_rfl) CutQ.quiet V ?_
          refine one_ready (i := 10) (by kernel_rfl) ?_
          refine step_store44 rfl rfl rfl (.tmp 12) (.tmp 60) rfl g q.getLsbD (by kernel_rfl) (by kernel_rfl) noF G ?_
          intro w1 G B
          have C := B.under C C.size (by omega)
          have V := V.but B o1 o2 og
          have H := H.but B (Ne.symm ne)
          refine ⟨V, ?_⟩
          refine one_ready (i := 11) (by kernel_rfl) ?_
          refine step_store44 rfl rfl rfl (.tmp 13) (.tmp 61) rfl h r.getLsbD (by kernel_rfl) (by kernel_rfl) noF H ?_
          intro w1 H B
          have C := B.under C C.size (by omega)
          have V := V.but B o1 o2 oh
          have G := G.but B ne
          refine ⟨V, ?_⟩
          exact wpAnyH_done (by kernel_rfl) ⟨g, h, ⟨V, G, H, C, og, oh, ne⟩, rfl, by kernel_rfl⟩ _
      · skip
        refine step_alloc44 rfl rfl (some 13) rfl rfl ?_
        intro h w1 I H B
        have oh : go < h := by have := I.out; have := V.o.lt; omega
        have C := C.trans (B.mono C.size)
        have V := V.below B
        refine ⟨V, ?_⟩
        refine two_ready (i := 3) (j := 8) (by kernel_rfl) ?_ ?_
        · skip
          refine step_call rfl #[.agg (encF b.getLsbD)] (.agg (encF sb.getLsbD)) (enter35 _) (by kernel_rfl) (size_to b sb _ HSB) ?_
          intro w1 B
          have C := C.trans (B.mono C.size)
          have V := V.below B
          have H := H.below B
          refine ⟨V, ?_⟩
          refine two_ready (i := 4) (j := 8) (by kernel_rfl) ?_ ?_
          · skip
            refine step_call rfl #[.agg (encF sa.getLsbD), .agg (encF sb.getLsbD)] (.tuple #[.agg (encF q.getLsbD), .agg (encF r.getLsbD)]) (enter34 _) (by kernel_rfl) (divide_to sa sb q r H0.out _ HQ HR) ?_
            intro w1 B
            have C := C.trans (B.mono C.size)
            have V := V.below B
            have H := H.below B
            refine ⟨V, ?_⟩
            refine takeMove 5 (some 54) (.tmp 59) (.tuple #[.agg (encF q.getLsbD), .agg (encF r.getLsbD)]) rfl rfl rfl (by kernel_rfl) (by kernel_rfl) (by kernel_rfl) (by kernel_rfl) (by kernel_rfl) CutQ.quiet V ?_
            refine takeExtract 6 (some 60) (.tmp 54) 0 #[.agg (encF q.getLsbD), .agg (encF r.getLsbD)] (.agg (encF q.getLsbD)) rfl rfl rfl (by kernel_rfl) (by kernel_rfl) (by kernel_rfl) (by kernel_rfl) (by kernel_rfl) (by kernel_rfl) CutQ.quiet V ?_
            refine takeExtract 7 (some 61) (.tmp 54) 1 #[.agg (encF q.getLsbD), .agg (encF r.getLsbD)] (.agg (encF r.getLsbD)) rfl rfl rfl (by kernel_rfl) (by kernel_rfl) (by kernel_rfl) (by kernel_rfl) (by kernel_rfl) (by kernel_rfl) CutQ.quiet V ?_
            refine one_ready (i := 8) (by kernel_rfl) ?_
            refine step_alloc44 rfl rfl (some 12) rfl rfl ?_
            intro g w1 I G B
            have og : go < g := by have := I.out; have := V.o.lt; omega
            have ne : g ≠ h := by have := I.out; have := H.lt; omega
            have C := C.trans (B.mono C.size)
            have V := V.below B
            have H := H.below B
            refine ⟨V, ?_⟩
            refine one_ready (i := 10) (by kernel_rfl) ?_
            refine step_store44 rfl rfl rfl (.tmp 12) (.tmp 60) rfl g q.getLsbD (by kernel_rfl) (by kernel_rfl) noF G ?_
            intro w1 G B
            have C := B.under C C.size (by omega)
            have V := V.but B o1 o2 og
            have H := H.but B (Ne.symm ne)
            refine ⟨V, ?_⟩
            refine one_ready (i := 11) (by kernel_rfl) ?_
            refine step_store44 rfl rfl rfl (.tmp 13) (.tmp 61) rfl h r.getLsbD (by kernel_rfl) (by kernel_rfl) noF H ?_
            intro w1 H B
            have C := B.under C C.size (by omega)
            have V := V.but B o1 o2 oh
            have G := G.but B ne
            refine ⟨V, ?_⟩
            exact wpAnyH_done (by kernel_rfl) ⟨g, h, ⟨V, G, H, C, og, oh, ne⟩, rfl, by kernel_rfl⟩ _
          · skip
            refine step_alloc44 rfl rfl (some 12) rfl rfl ?_
            intro g w1 I G B
            have og : go < g := by have := I.out; have := V.o.lt; omega
            have ne : g ≠ h := by have := I.out; have := H.lt; omega
            have C := C.trans (B.mono C.size)
            have V := V.below B
            have H := H.below B
            refine ⟨V, ?_⟩
            refine one_ready (i := 4) (by kernel_rfl) ?_
            refine step_call rfl #[.agg (encF sa.getLsbD), .agg (encF sb.getLsbD)] (.tuple #[.agg (encF q.getLsbD), .agg (encF r.getLsbD)]) (enter34 _) (by kernel_rfl) (divide_to sa sb q r H0.out _ HQ HR) ?_
            intro w1 B
            have C := C.trans (B.mono C.size)
            have V := V.below B
            have G := G.below B
            have H := H.below B
            refine ⟨V, ?_⟩
            refine takeMove 5 (some 54) (.tmp 59) (.tuple #[.agg (encF q.getLsbD), .agg (encF r.getLsbD)]) rfl rfl rfl (by kernel_rfl) (by kernel_rfl) (by kernel_rfl) (by kernel_rfl) (by kernel_rfl) CutQ.quiet V ?_
            refine takeExtract 6 (some 60) (.tmp 54) 0 #[.agg (encF q.getLsbD), .agg (encF r.getLsbD)] (.agg (encF q.getLsbD)) rfl rfl rfl (by kernel_rfl) (by kernel_rfl) (by kernel_rfl) (by kernel_rfl) (by kernel_rfl) (by kernel_rfl) CutQ.quiet V ?_
            refine takeExtract 7 (some 61) (.tmp 54) 1 #[.agg (encF q.getLsbD), .agg (encF r.getLsbD)] (.agg (encF r.getLsbD)) rfl rfl rfl (by kernel_rfl) (by kernel_rfl) (by kernel_rfl) (by kernel_rfl) (by kernel_rfl) (by kernel_rfl) CutQ.quiet V ?_
            refine one_ready (i := 10) (by kernel_rfl) ?_
            refine step_store44 rfl rfl rfl (.tmp 12) (.tmp 60) rfl g q.getLsbD (by kernel_rfl) (by kernel_rfl) noF G ?_
            intro w1 G B
            have C := B.under C C.size (by omega)
            have V := V.but B o1 o2 og
            have H := H.but B (Ne.symm ne)
            refine ⟨V, ?_⟩
            refine one_ready (i := 11) (by kernel_rfl) ?_
            refine step_store44 rfl rfl rfl (.tmp 13) (.tmp 61) rfl h r.getLsbD (by kernel_rfl) (by kernel_rfl) noF H ?_
            intro w1 H B
            have C := B.under C C.size (by omega)
            have V := V.but B o1 o2 oh
            have G := G.but B ne
            refine ⟨V, ?_⟩
            exact wpAnyH_done (by kernel_rfl) ⟨g, h, ⟨V, G, H, C, og, oh, ne⟩, rfl, by kernel_rfl⟩ _
        · skip
          refine step_alloc44 rfl rfl (some 12) rfl rfl ?_
          intro g w1 I G B
          have og : go < g := by have := I.out; have := V.o.lt; omega
          have ne : g ≠ h := by have := I.out; have := H.lt; omega
          have C := C.trans (B.mono C.size)
          have V := V.below B
          have H := H.below B
          refine ⟨V, ?_⟩
          refine one_ready (i := 3) (by kernel_rfl) ?_
          refine step_call rfl #[.agg (encF b.getLsbD)] (.agg (encF sb.getLsbD)) (enter35 _) (by kernel_rfl) (size_to b sb _ HSB) ?_
          intro w1 B
          have C := C.trans (B.mono C.size)
          have V := V.below B
          have G := G.below B
          have H := H.below B
          refine ⟨V, ?_⟩
          refine one_ready (i := 4) (by kernel_rfl) ?_
          refine step_call rfl #[.agg (encF sa.getLsbD), .agg (encF sb.getLsbD)] (.tuple #[.agg (encF q.getLsbD), .agg (encF r.getLsbD)]) (enter34 _) (by kernel_rfl) (divide_to sa sb q r H0.out _ HQ HR) ?_
          intro w1 B
          have C := C.trans (B.mono C.size)
          have V := V.below B
          have G := G.below B
          have H := H.below B
          refine ⟨V, ?_⟩
          refine takeMove 5 (some 54) (.tmp 59) (.tuple #[.agg (encF q.getLsbD), .agg (encF r.getLsbD)]) rfl rfl rfl (by kernel_rfl) (by kernel_rfl) (by kernel_rfl) (by kernel_rfl) (by kernel_rfl) CutQ.quiet V ?_
          refine takeExtract 6 (some 60) (.tmp 54) 0 #[.agg (encF q.getLsbD), .agg (encF r.getLsbD)] (.agg (encF q.getLsbD)) rfl rfl rfl (by kernel_rfl) (by kernel_rfl) (by kernel_rfl) (by kernel_rfl) (by kernel_rfl) (by kernel_rfl) CutQ.quiet V ?_
          refine takeExtract 7 (some 61) (.tmp 54) 1 #[.agg (encF q.getLsbD), .agg (encF r.getLsbD)] (.agg (encF r.getLsbD)) rfl rfl rfl (by kernel_rfl) (by kernel_rfl) (by kernel_rfl) (by kernel_rfl) (by kernel_rfl) (by kernel_rfl) CutQ.quiet V ?_
          refine one_ready (i := 10) (by kernel_rfl) ?_
          refine step_store44 rfl rfl rfl (.tmp 12) (.tmp 60) rfl g q.getLsbD (by kernel_rfl) (by kernel_rfl) noF G ?_
          intro w1 G B
          have C := B.under C C.size (by omega)
          have V := V.but B o1 o2 og
          have H := H.but B (Ne.symm ne)
          refine ⟨V, ?_⟩
          refine one_ready (i := 11) (by kernel_rfl) ?_
          refine step_store44 rfl rfl rfl (.tmp 13) (.tmp 61) rfl h r.getLsbD (by kernel_rfl) (by kernel_rfl) noF H ?_
          intro w1 H B
          have C := B.under C C.size (by omega)
          have V := V.but B o1 o2 oh
          have G := G.but B ne
          refine ⟨V, ?_⟩
          exact wpAnyH_done (by kernel_rfl) ⟨g, h, ⟨V, G, H, C, og, oh, ne⟩, rfl, by kernel_rfl⟩ _
    · skip
      refine step_alloc44 rfl rfl (some 12) rfl rfl ?_
      intro g w1 I G B
      have og : go < g := by have := I.out; have := V.o.lt; omega
      have C := C.trans (B.mono C.size)
      have V := V.below B
      refine ⟨V, ?_⟩
      refine two_ready (i := 1) (j := 9) (by kernel_rfl) ?_ ?_
      · skip
        refine step_call rfl #[.agg (encF a.getLsbD)] (.agg (encF sa.getLsbD)) (enter35 _) (by kernel_rfl) (size_to a sa _ HSA) ?_
        intro w1 B
        have C := C.trans (B.mono C.size)
        have V := V.below B
        have G := G.below B
        refine ⟨V, ?_⟩
        refine two_ready (i := 3) (j := 9) (by kernel_rfl) ?_ ?_
        · skip
          refine step_call rfl #[.agg (encF b.getLsbD)] (.agg (encF sb.getLsbD)) (enter35 _) (by kernel_rfl) (size_to b sb _ HSB) ?_
          intro w1 B
          have C := C.trans (B.mono C.size)
          have V := V.below B
          have G := G.below B
          refine ⟨V, ?_⟩
          refine two_ready (i := 4) (j := 9) (by kernel_rfl) ?_ ?_
          · skip
            refine step_call rfl #[.agg (encF sa.getLsbD), .agg (encF sb.getLsbD)] (.tuple #[.agg (encF q.getLsbD), .agg (encF r.getLsbD)]) (enter34 _) (by kernel_rfl) (divide_to sa sb q r H0.out _ HQ HR) ?_
            intro w1 B
            have C := C.trans (B.mono C.size)
            have V := V.below B
            have G := G.below B
            refine ⟨V, ?_⟩
            refine takeMove 5 (some 54) (.tmp 59) (.tuple #[.agg (encF q.getLsbD), .agg (encF r.getLsbD)]) rfl rfl rfl (by kernel_rfl) (by kernel_rfl) (by kernel_rfl) (by kernel_rfl) (by kernel_rfl) CutQ.quiet V ?_
            refine takeExtract 6 (some 60) (.tmp 54) 0 #[.agg (encF q.getLsbD), .agg (encF r.getLsbD)] (.agg (encF q.getLsbD)) rfl rfl rfl (by kernel_rfl) (by kernel_rfl) (by kernel_rfl) (by kernel_rfl) (by kernel_rfl) (by kernel_rfl) CutQ.quiet V ?_
            refine takeExtract 7 (some 61) (.tmp 54) 1 #[.agg (encF q.getLsbD), .agg (encF r.getLsbD)] (.agg (encF r.getLsbD)) rfl rfl rfl (by kernel_rfl) (by kernel_rfl) (by kernel_rfl) (by kernel_rfl) (by kernel_rfl) (by kernel_rfl) CutQ.quiet V ?_
            refine one_ready (i := 9) (by kernel_rfl) ?_
            refine step_alloc44 rfl rfl (some 13) rfl rfl ?_
            intro h w1 I H B
            have oh : go < h := by have := I.out; have := V.o.lt; omega
            have ne : g ≠ h := by have := I.out; have := G.lt; omega
            have C := C.trans (B.mono C.size)
            have V := V.below B
            have G := G.below B
            refine ⟨V, ?_⟩
            refine one_ready (i := 10) (by kernel_rfl) ?_
            refine step_store44 rfl rfl rfl (.tmp 12) (.tmp 60) rfl g q.getLsbD (by kernel_rfl) (by kernel_rfl) noF G ?_
            intro w1 G B
            have C := B.under C C.size (by omega)
            have V := V.but B o1 o2 og
            have H := H.but B (Ne.symm ne)
            refine ⟨V, ?_⟩
            refine one_ready (i := 11) (by kernel_rfl) ?_
            refine step_store44 rfl rfl rfl (.tmp 13) (.tmp 61) rfl h r.getLsbD (by kernel_rfl) (by kernel_rfl) noF H ?_
            intro w1 H B
            have C := B.under C C.size (by omega)
            have V := V.but B o1 o2 oh
            have G := G.but B ne
            refine ⟨V, ?_⟩
            exact wpAnyH_done (by kernel_rfl) ⟨g, h, ⟨V, G, H, C, og, oh, ne⟩, rfl, by kernel_rfl⟩ _
          · skip
            refine step_alloc44 rfl rfl (some 13) rfl rfl ?_
            intro h w1 I H B
            have oh : go < h := by have := I.out; have := V.o.lt; omega
            have ne : g ≠ h := by have := I.out; have := G.lt; omega
            have C := C.trans (B.mono C.size)
            have V := V.below B
            have G := G.below B
            refine ⟨V, ?_⟩
            refine one_ready (i := 4) (by kernel_rfl) ?_
            refine step_call rfl #[.agg (encF sa.getLsbD), .agg (encF sb.getLsbD)] (.tuple #[.agg (encF q.getLsbD), .agg (encF r.getLsbD)]) (enter34 _) (by kernel_rfl) (divide_to sa sb q r H0.out _ HQ HR) ?_
            intro w1 B
            have C := C.trans (B.mono C.size)
            have V := V.below B
            have G := G.below B
            have H := H.below B
            refine ⟨V, ?_⟩
            refine takeMove 5 (some 54) (.tmp 59) (.tuple #[.agg (encF q.getLsbD), .agg (encF r.getLsbD)]) rfl rfl rfl (by kernel_rfl) (by kernel_rfl) (by kernel_rfl) (by kernel_rfl) (by kernel_rfl) CutQ.quiet V ?_
            refine takeExtract 6 (some 60) (.tmp 54) 0 #[.agg (encF q.getLsbD), .agg (encF r.getLsbD)] (.agg (encF q.getLsbD)) rfl rfl rfl (by kernel_rfl) (by kernel_rfl) (by kernel_rfl) (by kernel_rfl) (by kernel_rfl) (by kernel_rfl) CutQ.quiet V ?_
            refine takeExtract 7 (some 61) (.tmp 54) 1 #[.agg (encF q.getLsbD), .agg (encF r.getLsbD)] (.agg (encF r.getLsbD)) rfl rfl rfl (by kernel_rfl) (by kernel_rfl) (by kernel_rfl) (by kernel_rfl) (by kernel_rfl) (by kernel_rfl) CutQ.quiet V ?_
            refine one_ready (i := 10) (by kernel_rfl) ?_
            refine step_store44 rfl rfl rfl (.tmp 12) (.tmp 60) rfl g q.getLsbD (by kernel_rfl) (by kernel_rfl) noF G ?_
            intro w1 G B
            have C := B.under C C.size (by omega)
            have V := V.but B o1 o2 og
            have H := H.but B (Ne.symm ne)
            refine ⟨V, ?_⟩
            refine one_ready (i := 11) (by kernel_rfl) ?_
            refine step_store44 rfl rfl rfl (.tmp 13) (.tmp 61) rfl h r.getLsbD (by kernel_rfl) (by kernel_rfl) noF H ?_
            intro w1 H B
            have C := B.under C C.size (by omega)
            have V := V.but B o1 o2 oh
            have G := G.but B ne
            refine ⟨V, ?_⟩
            exact wpAnyH_done (by kernel_rfl) ⟨g, h, ⟨V, G, H, C, og, oh, ne⟩, rfl, by kernel_rfl⟩ _
        · skip
          refine step_alloc44 rfl rfl (some 13) rfl rfl ?_
          intro h w1 I H B
          have oh : go < h := by have := I.out; have := V.o.lt; omega
          have ne : g ≠ h := by have := I.out; have := G.lt; omega
          have C := C.trans (B.mono C.size)
          have V := V.below B
          have G := G.below B
          refine ⟨V, ?_⟩
          refine one_ready (i := 3) (by kernel_rfl) ?_
          refine step_call rfl #[.agg (encF b.getLsbD)] (.agg (encF sb.getLsbD)) (enter35 _) (by kernel_rfl) (size_to b sb _ HSB) ?_
          intro w1 B
          have C := C.trans (B.mono C.size)
          have V := V.below B
          have G := G.below B
          have H := H.below B
          refine ⟨V, ?_⟩
          refine one_ready (i := 4) (by kernel_rfl) ?_
          refine step_call rfl #[.agg (encF sa.getLsbD), .agg (encF sb.getLsbD)] (.tuple #[.agg (encF q.getLsbD), .agg (encF r.getLsbD)]) (enter34 _) (by kernel_rfl) (divide_to sa sb q r H0.out _ HQ HR) ?_
          intro w1 B
          have C := C.trans (B.mono C.size)
          have V := V.below B
          have G := G.below B
          have H := H.below B
          refine ⟨V, ?_⟩
          refine takeMove 5 (some 54) (.tmp 59) (.tuple #[.agg (encF q.getLsbD), .agg (encF r.getLsbD)]) rfl rfl rfl (by kernel_rfl) (by kernel_rfl) (by kernel_rfl) (by kernel_rfl) (by kernel_rfl) CutQ.quiet V ?_
          refine takeExtract 6 (some 60) (.tmp 54) 0 #[.agg (encF q.getLsbD), .agg (encF r.getLsbD)] (.agg (encF q.getLsbD)) rfl rfl rfl (by kernel_rfl) (by kernel_rfl) (by kernel_rfl) (by kernel_rfl) (by kernel_rfl) (by kernel_rfl) CutQ.quiet V ?_
          refine takeExtract 7 (some 61) (.tmp 54) 1 #[.agg (encF q.getLsbD), .agg (encF r.getLsbD)] (.agg (encF r.getLsbD)) rfl rfl rfl (by kernel_rfl) (by kernel_rfl) (by kernel_rfl) (by kernel_rfl) (by kernel_rfl) (by kernel_rfl) CutQ.quiet V ?_
          refine one_ready (i := 10) (by kernel_rfl) ?_
          refine step_store44 rfl rfl rfl (.tmp 12) (.tmp 60) rfl g q.getLsbD (by kernel_rfl) (by kernel_rfl) noF G ?_
          intro w1 G B
          have C := B.under C C.size (by omega)
          have V := V.but B o1 o2 og
          have H := H.but B (Ne.symm ne)
          refine ⟨V, ?_⟩
          refine one_ready (i := 11) (by kernel_rfl) ?_
          refine step_store44 rfl rfl rfl (.tmp 13) (.tmp 61) rfl h r.getLsbD (by kernel_rfl) (by kernel_rfl) noF H ?_
          intro w1 H B
          have C := B.under C C.size (by omega)
          have V := V.but B o1 o2 oh
          have G := G.but B ne
          refine ⟨V, ?_⟩
          exact wpAnyH_done (by kernel_rfl) ⟨g, h, ⟨V, G, H, C, og, oh, ne⟩, rfl, by kernel_rfl⟩ _
      · skip
        refine step_alloc44 rfl rfl (some 13) rfl rfl ?_
        intro h w1 I H B
        have oh : go < h := by have := I.out; have := V.o.lt; omega
        have ne : g ≠ h := by have := I.out; have := G.lt; omega
        have C := C.trans (B.mono C.size)
        have V := V.below B
        have G := G.below B
        refine ⟨V, ?_⟩
        refine one_ready (i := 1) (by kernel_rfl) ?_
        refine step_call rfl #[.agg (encF a.getLsbD)] (.agg (encF sa.getLsbD)) (enter35 _) (by kernel_rfl) (size_to a sa _ HSA) ?_
        intro w1 B
        have C := C.trans (B.mono C.size)
        have V := V.below B
        have G := G.below B
        have H := H.below B
        refine ⟨V, ?_⟩
        refine one_ready (i := 3) (by kernel_rfl) ?_
        refine step_call rfl #[.agg (encF b.getLsbD)] (.agg (encF sb.getLsbD)) (enter35 _) (by kernel_rfl) (size_to b sb _ HSB) ?_
        intro w1 B
        have C := C.trans (B.mono C.size)
        have V := V.below B
        have G := G.below B
        have H := H.below B
        refine ⟨V, ?_⟩
        refine one_ready (i := 4) (by kernel_rfl) ?_
        refine step_call rfl #[.agg (encF sa.getLsbD), .agg (encF sb.getLsbD)] (.tuple #[.agg (encF q.getLsbD), .agg (encF r.getLsbD)]) (enter34 _) (by kernel_rfl) (divide_to sa sb q r H0.out _ HQ HR) ?_
        intro w1 B
        have C := C.trans (B.mono C.size)
        have V := V.below B
        have G := G.below B
        have H := H.below B
        refine ⟨V, ?_⟩
        refine takeMove 5 (some 54) (.tmp 59) (.tuple #[.agg (encF q.getLsbD), .agg (encF r.getLsbD)]) rfl rfl rfl (by kernel_rfl) (by kernel_rfl) (by kernel_rfl) (by kernel_rfl) (by kernel_rfl) CutQ.quiet V ?_
        refine takeExtract 6 (some 60) (.tmp 54) 0 #[.agg (encF q.getLsbD), .agg (encF r.getLsbD)] (.agg (encF q.getLsbD)) rfl rfl rfl (by kernel_rfl) (by kernel_rfl) (by kernel_rfl) (by kernel_rfl) (by kernel_rfl) (by kernel_rfl) CutQ.quiet V ?_
        refine takeExtract 7 (some 61) (.tmp 54) 1 #[.agg (encF q.getLsbD), .agg (encF r.getLsbD)] (.agg (encF r.getLsbD)) rfl rfl rfl (by kernel_rfl) (by kernel_rfl) (by kernel_rfl) (by kernel_rfl) (by kernel_rfl) (by kernel_rfl) CutQ.quiet V ?_
        refine one_ready (i := 10) (by kernel_rfl) ?_
        refine step_store44 rfl rfl rfl (.tmp 12) (.tmp 60) rfl g q.getLsbD (by kernel_rfl) (by kernel_rfl) noF G ?_
        intro w1 G B
        have C := B.under C C.size (by omega)
        have V := V.but B o1 o2 og
        have H := H.but B (Ne.symm ne)
        refine ⟨V, ?_⟩
        refine one_ready (i := 11) (by kernel_rfl) ?_
        refine step_store44 rfl rfl rfl (.tmp 13) (.tmp 61) rfl h r.getLsbD (by kernel_rfl) (by kernel_rfl) noF H ?_
        intro w1 H B
        have C := B.under C C.size (by omega)
        have V := V.but B o1 o2 oh
        have G := G.but B ne
        refine ⟨V, ?_⟩
        exact wpAnyH_done (by kernel_rfl) ⟨g, h, ⟨V, G, H, C, og, oh, ne⟩, rfl, by kernel_rfl⟩ _
    · skip
      refine step_alloc44 rfl rfl (some 13) rfl rfl ?_
      intro h w1 I H B
      have oh : go < h := by have := I.out; have := V.o.lt; omega
      have C := C.trans (B.mono C.size)
      have V := V.below B
      refine ⟨V, ?_⟩
      refine two_ready (i := 1) (j := 8) (by kernel_rfl) ?_ ?_
      · skip
        refine step_call rfl #[.agg (encF a.getLsbD)] (.agg (encF sa.getLsbD)) (enter35 _) (by kernel_rfl) (size_to a sa _ HSA) ?_
        intro w1 B
        have C := C.trans (B.mono C.size)
        have V := V.below B
        have H := H.below B
        refine ⟨V, ?_⟩
        refine two_ready (i := 3) (j := 8) (by kernel_rfl) ?_ ?_
        · skip
          refine step_call rfl #[.agg (encF b.getLsbD)] (.agg (encF sb.getLsbD)) (enter35 _) (by kernel_rfl) (size_to b sb _ HSB) ?_
          intro w1 B
          have C := C.trans (B.mono C.size)
          have V := V.below B
          have H := H.below B
          refine ⟨V, ?_⟩
          refine two_ready (i := 4) (j := 8) (by kernel_rfl) ?_ ?_
          · skip
            refine step_call rfl #[.agg (encF sa.getLsbD), .agg (encF sb.getLsbD)] (.tuple #[.agg (encF q.getLsbD), .agg (encF r.getLsbD)]) (enter34 _) (by kernel_rfl) (divide_to sa sb q r H0.out _ HQ HR) ?_
            intro w1 B
            have C := C.trans (B.mono C.size)
            have V := V.below B
            have H := H.below B
            refine ⟨V, ?_⟩
            refine takeMove 5 (some 54) (.tmp 59) (.tuple #[.agg (encF q.getLsbD), .agg (encF r.getLsbD)]) rfl rfl rfl (by kernel_rfl) (by kernel_rfl) (by kernel_rfl) (by kernel_rfl) (by kernel_rfl) CutQ.quiet V ?_
            refine takeExtract 6 (some 60) (.tmp 54) 0 #[.agg (encF q.getLsbD), .agg (encF r.getLsbD)] (.agg (encF q.getLsbD)) rfl rfl rfl (by kernel_rfl) (by kernel_rfl) (by kernel_rfl) (by kernel_rfl) (by kernel_rfl) (by kernel_rfl) CutQ.quiet V ?_
            refine takeExtract 7 (some 61) (.tmp 54) 1 #[.agg (encF q.getLsbD), .agg (encF r.getLsbD)] (.agg (encF r.getLsbD)) rfl rfl rfl (by kernel_rfl) (by kernel_rfl) (by kernel_rfl) (by kernel_rfl) (by kernel_rfl) (by kernel_rfl) CutQ.quiet V ?_
            refine one_ready (i := 8) (by kernel_rfl) ?_
            refine step_alloc44 rfl rfl (some 12) rfl rfl ?_
            intro g w1 I G B
            have og : go < g := by have := I.out; have := V.o.lt; omega
            have ne : g ≠ h := by have := I.out; have := H.lt; omega
            have C := C.trans (B.mono C.size)
            have V := V.below B
            have H := H.below B
            refine ⟨V, ?_⟩
            refine one_ready (i := 10) (by kernel_rfl) ?_
            refine step_store44 rfl rfl rfl (.tmp 12) (.tmp 60) rfl g q.getLsbD (by kernel_rfl) (by kernel_rfl) noF G ?_
            intro w1 G B
            have C := B.under C C.size (by omega)
            have V := V.but B o1 o2 og
            have H := H.but B (Ne.symm ne)
            refine ⟨V, ?_⟩
            refine one_ready (i := 11) (by kernel_rfl) ?_
            refine step_store44 rfl rfl rfl (.tmp 13) (.tmp 61) rfl h r.getLsbD (by kernel_rfl) (by kernel_rfl) noF H ?_
            intro w1 H B
            have C := B.under C C.size (by omega)
            have V := V.but B o1 o2 oh
            have G := G.but B ne
            refine ⟨V, ?_⟩
            exact wpAnyH_done (by kernel_rfl) ⟨g, h, ⟨V, G, H, C, og, oh, ne⟩, rfl, by kernel_rfl⟩ _
          · skip
            refine step_alloc44 rfl rfl (some 12) rfl rfl ?_
            intro g w1 I G B
            have og : go < g := by have := I.out; have := V.o.lt; omega
            have ne : g ≠ h := by have := I.out; have := H.lt; omega
            have C := C.trans (B.mono C.size)
            have V := V.below B
            have H := H.below B
            refine ⟨V, ?_⟩
            refine one_ready (i := 4) (by kernel_rfl) ?_
            refine step_call rfl #[.agg (encF sa.getLsbD), .agg (encF sb.getLsbD)] (.tuple #[.agg (encF q.getLsbD), .agg (encF r.getLsbD)]) (enter34 _) (by kernel_rfl) (divide_to sa sb q r H0.out _ HQ HR) ?_
            intro w1 B
            have C := C.trans (B.mono C.size)
            have V := V.below B
            have G := G.below B
            have H := H.below B
            refine ⟨V, ?_⟩
            refine takeMove 5 (some 54) (.tmp 59) (.tuple #[.agg (encF q.getLsbD), .agg (encF r.getLsbD)]) rfl rfl rfl (by kernel_rfl) (by kernel_rfl) (by kernel_rfl) (by kernel_rfl) (by kernel_rfl) CutQ.quiet V ?_
            refine takeExtract 6 (some 60) (.tmp 54) 0 #[.agg (encF q.getLsbD), .agg (encF r.getLsbD)] (.agg (encF q.getLsbD)) rfl rfl rfl (by kernel_rfl) (by kernel_rfl) (by kernel_rfl) (by kernel_rfl) (by kernel_rfl) (by kernel_rfl) CutQ.quiet V ?_
            refine takeExtract 7 (some 61) (.tmp 54) 1 #[.agg (encF q.getLsbD), .agg (encF r.getLsbD)] (.agg (encF r.getLsbD)) rfl rfl rfl (by kernel_rfl) (by kernel_rfl) (by kernel_rfl) (by kernel_rfl) (by kernel_rfl) (by kernel_rfl) CutQ.quiet V ?_
            refine one_ready (i := 10) (by kernel_rfl) ?_
            refine step_store44 rfl rfl rfl (.tmp 12) (.tmp 60) rfl g q.getLsbD (by kernel_rfl) (by kernel_rfl) noF G ?_
            intro w1 G B
            have C := B.under C C.size (by omega)
            have V := V.but B o1 o2 og
            have H := H.but B (Ne.symm ne)
            refine ⟨V, ?_⟩
            refine one_ready (i := 11) (by kernel_rfl) ?_
            refine step_store44 rfl rfl rfl (.tmp 13) (.tmp 61) rfl h r.getLsbD (by kernel_rfl) (by kernel_rfl) noF H ?_
            intro w1 H B
            have C := B.under C C.size (by omega)
            have V := V.but B o1 o2 oh
            have G := G.but B ne
            refine ⟨V, ?_⟩
            exact wpAnyH_done (by kernel_rfl) ⟨g, h, ⟨V, G, H, C, og, oh, ne⟩, rfl, by kernel_rfl⟩ _
        · skip
          refine step_alloc44 rfl rfl (some 12) rfl rfl ?_
          intro g w1 I G B
          have og : go < g := by have := I.out; have := V.o.lt; omega
          have ne : g ≠ h := by have := I.out; have := H.lt; omega
          have C := C.trans (B.mono C.size)
          have V := V.below B
          have H := H.below B
          refine ⟨V, ?_⟩
          refine one_ready (i := 3) (by kernel_rfl) ?_
          refine step_call rfl #[.agg (encF b.getLsbD)] (.agg (encF sb.getLsbD)) (enter35 _) (by kernel_rfl) (size_to b sb _ HSB) ?_
          intro w1 B
          have C := C.trans (B.mono C.size)
          have V := V.below B
          have G := G.below B
          have H := H.below B
          refine ⟨V, ?_⟩
          refine one_ready (i := 4) (by kernel_rfl) ?_
          refine step_call rfl #[.agg (encF sa.getLsbD), .agg (encF sb.getLsbD)] (.tuple #[.agg (encF q.getLsbD), .agg (encF r.getLsbD)]) (enter34 _) (by kernel_rfl) (divide_to sa sb q r H0.out _ HQ HR) ?_
          intro w1 B
          have C := C.trans (B.mono C.size)
          have V := V.below B
          have G := G.below B
          have H := H.below B
          refine ⟨V, ?_⟩
          refine takeMove 5 (some 54) (.tmp 59) (.tuple #[.agg (encF q.getLsbD), .agg (encF r.getLsbD)]) rfl rfl rfl (by kernel_rfl) (by kernel_rfl) (by kernel_rfl) (by kernel_rfl) (by kernel_rfl) CutQ.quiet V ?_
          refine takeExtract 6 (some 60) (.tmp 54) 0 #[.agg (encF q.getLsbD), .agg (encF r.getLsbD)] (.agg (encF q.getLsbD)) rfl rfl rfl (by kernel_rfl) (by kernel_rfl) (by kernel_rfl) (by kernel_rfl) (by kernel_rfl) (by kernel_rfl) CutQ.quiet V ?_
          refine takeExtract 7 (some 61) (.tmp 54) 1 #[.agg (encF q.getLsbD), .agg (encF r.getLsbD)] (.agg (encF r.getLsbD)) rfl rfl rfl (by kernel_rfl) (by kernel_rfl) (by kernel_rfl) (by kernel_rfl) (by kernel_rfl) (by kernel_rfl) CutQ.quiet V ?_
          refine one_ready (i := 10) (by kernel_rfl) ?_
          refine step_store44 rfl rfl rfl (.tmp 12) (.tmp 60) rfl g q.getLsbD (by kernel_rfl) (by kernel_rfl) noF G ?_
          intro w1 G B
          have C := B.under C C.size (by omega)
          have V := V.but B o1 o2 og
          have H := H.but B (Ne.symm ne)
          refine ⟨V, ?_⟩
          refine one_ready (i := 11) (by kernel_rfl) ?_
          refine step_store44 rfl rfl rfl (.tmp 13) (.tmp 61) rfl h r.getLsbD (by kernel_rfl) (by kernel_rfl) noF H ?_
          intro w1 H B
          have C := B.under C C.size (by omega)
          have V := V.but B o1 o2 oh
          have G := G.but B ne
          refine ⟨V, ?_⟩
          exact wpAnyH_done (by kernel_rfl) ⟨g, h, ⟨V, G, H, C, og, oh, ne⟩, rfl, by kernel_rfl⟩ _
      · skip
        refine step_alloc44 rfl rfl (some 12) rfl rfl ?_
        intro g w1 I G B
        have og : go < g := by have := I.out; have := V.o.lt; omega
        have ne : g ≠ h := by have := I.out; have := H.lt; omega
        have C := C.trans (B.mono C.size)
        have V := V.below B
        have H := H.below B
        refine ⟨V, ?_⟩
        refine one_ready (i := 1) (by kernel_rfl) ?_
        refine step_call rfl #[.agg (encF a.getLsbD)] (.agg (encF sa.getLsbD)) (enter35 _) (by kernel_rfl) (size_to a sa _ HSA) ?_
        intro w1 B
        have C := C.trans (B.mono C.size)
        have V := V.below B
        have G := G.below B
        have H := H.below B
        refine ⟨V, ?_⟩
        refine one_ready (i := 3) (by kernel_rfl) ?_
        refine step_call rfl #[.agg (encF b.getLsbD)] (.agg (encF sb.getLsbD)) (enter35 _) (by kernel_rfl) (size_to b sb _ HSB) ?_
        intro w1 B
        have C := C.trans (B.mono C.size)
        have V := V.below B
        have G := G.below B
        have H := H.below B
        refine ⟨V, ?_⟩
        refine one_ready (i := 4) (by kernel_rfl) ?_
        refine step_call rfl #[.agg (encF sa.getLsbD), .agg (encF sb.getLsbD)] (.tuple #[.agg (encF q.getLsbD), .agg (encF r.getLsbD)]) (enter34 _) (by kernel_rfl) (divide_to sa sb q r H0.out _ HQ HR) ?_
        intro w1 B
        have C := C.trans (B.mono C.size)
        have V := V.below B
        have G := G.below B
        have H := H.below B
        refine ⟨V, ?_⟩
        refine takeMove 5 (some 54) (.tmp 59) (.tuple #[.agg (encF q.getLsbD), .agg (encF r.getLsbD)]) rfl rfl rfl (by kernel_rfl) (by kernel_rfl) (by kernel_rfl) (by kernel_rfl) (by kernel_rfl) CutQ.quiet V ?_
        refine takeExtract 6 (some 60) (.tmp 54) 0 #[.agg (encF q.getLsbD), .agg (encF r.getLsbD)] (.agg (encF q.getLsbD)) rfl rfl rfl (by kernel_rfl) (by kernel_rfl) (by kernel_rfl) (by kernel_rfl) (by kernel_rfl) (by kernel_rfl) CutQ.quiet V ?_
        refine takeExtract 7 (some 61) (.tmp 54) 1 #[.agg (encF q.getLsbD), .agg (encF r.getLsbD)] (.agg (encF r.getLsbD)) rfl rfl rfl (by kernel_rfl) (by kernel_rfl) (by kernel_rfl) (by kernel_rfl) (by kernel_rfl) (by kernel_rfl) CutQ.quiet V ?_
        refine one_ready (i := 10) (by kernel_rfl) ?_
        refine step_store44 rfl rfl rfl (.tmp 12) (.tmp 60) rfl g q.getLsbD (by kernel_rfl) (by kernel_rfl) noF G ?_
        intro w1 G B
        have C := B.under C C.size (by omega)
        have V := V.but B o1 o2 og
        have H := H.but B (Ne.symm ne)
        refine ⟨V, ?_⟩
        refine one_ready (i := 11) (by kernel_rfl) ?_
        refine step_store44 rfl rfl rfl (.tmp 13) (.tmp 61) rfl h r.getLsbD (by kernel_rfl) (by kernel_rfl) noF H ?_
        intro w1 H B
        have C := B.under C C.size (by omega)
        have V := V.but B o1 o2 oh
        have G := G.but B ne
        refine ⟨V, ?_⟩
        exact wpAnyH_done (by kernel_rfl) ⟨g, h, ⟨V, G, H, C, og, oh, ne⟩, rfl, by kernel_rfl⟩ _
  intro g h w9 K
  clear X Y O C
  simp only [Act.put, List.setIfInBounds_toArray, List.set_cons_zero, List.set_cons_succ]
  have hca := K.v.a.cell 63 (by omega)
  have hcb := K.v.b.cell 63 (by omega)
  rw [hsa] at hca
  rw [hsb] at hcb
  have o4 := K.og
  have o5 := K.oh
  go_wp2_with (first | (refine wpList_load44 rfl _ rfl g rfl q.getLsbD K.q ?_; refine wpList_store44 rfl _ _ rfl go q.getLsbD rfl rfl noF K.v.o ?_; intro w10 T10 B10; refine Hid.out ?_))
  have G10 := K.q.but B10 (by omega)
  have R10 := K.r.but B10 (by omega)
  have C10 := B10.under K.c K.c.size o3
  have hca := (K.v.a.but B10 (by omega)).cell 63 (by omega)
  have hcb := (K.v.b.but B10 (by omega)).cell 63 (by omega)
  have A10 := K.v.a.but B10 (by omega)
  rw [hsa] at hca
  rw [hsb] at hcb
  clear B10 K
  refine Lib.hid ?_
  go_wp2_with (first | (refine wpList_load44 rfl _ rfl g rfl q.getLsbD G10 ?_) | (go_at_call 36; refine (neg_to q nq _ HN).mono ?_; rintro e w11 ⟨rfl, B11⟩; refine Hid.out ?_))
  have R11 := R10.below B11
  have A11 := A10.below B11
  have O11 := T10.below B11
  have C11 := C10.trans (B11.mono C10.size)
  clear hca hcb R10 A10 T10 C10 B11 G10
  refine Lib.hid ?_
  go_wp2_with (first | (refine wpList_store44 rfl _ _ rfl go nq.getLsbD rfl rfl q.getLsbD O11 ?_; intro w12 T12 B12; refine Hid.out ?_))
  have R10 := R11.but B12 (by omega)
  have A10 := A11.but B12 (by omega)
  have C10 := B12.under C11 C11.size o3
  have T10 := T12
  have hca := A10.cell 63 (by omega)
  rw [hsa] at hca
  clear R11 A11 C11 O11 B12
  refine Lib.hid ?_
  go_wp2_with (first | (refine wpList_load44 rfl _ rfl h rfl r.getLsbD R10 ?_; refine wpList_store44 rfl _ _ rfl go r.getLsbD rfl rfl nq.getLsbD T10 ?_; intro w13 T13 B13; refine Hid.out ?_))
  have R13 := R10.but B13 (by omega)
  have hca := (A10.but B13 (by omega)).cell 63 (by omega)
  have C13 := B13.under C10 C10.size o3
  rw [hsa] at hca
  clear R10 A10 T10 C10 B13
  refine Lib.hid ?_
  go_wp2_with (first | (refine wpList_load44 rfl _ rfl h rfl r.getLsbD R13 ?_) | (go_at_call 36; refine (neg_to r nr _ HNR).mono ?_; rintro e w14 ⟨rfl, B14⟩; refine Hid.out ?_))
  have O14 := T13.below B14
  have C14 := C13.trans (B14.mono C13.size)
  clear hca R13 T13 C13 B14
  refine Lib.hid ?_
  go_wp2_with (first | (refine wpList_store44 rfl _ _ rfl go nr.getLsbD rfl rfl r.getLsbD O14 ?_; intro w15 T15 B15; refine Hid.out ?_))
  have C15 := B15.under C14 C14.size o3
  refine Lib.hid ?_
  go_wp2_with (first | (refine wpList_load44 rfl _ rfl go rfl nr.getLsbD T15 ?_) | (go_at_call 39; refine (toInt_to nr v _ HV).mono ?_; rintro e w20 ⟨rfl, B20⟩))
  go_ret2
  exact ⟨rfl, C15.trans (B20.mono C15.size)⟩

set_option maxHeartbeats 1000000 in
set_option maxRecDepth 100000 in
theorem refDo_5nn (x y : Int) (a b : B64) (w : World) (HA : Hid (BitVec.ofInt 64 x = a)) (HB : Hid (BitVec.ofInt 64 y = b)) (sa sb q r : B64) (HSA : Hid (sizeV a = sa)) (HSB : Hid (sizeV b = sb)) (H0 : Hid (0 < sb.toNat)) (HQ : Hid (sa / sb = q)) (HR : Hid (sa % sb = r)) (HB0 : Hid ((b == 0#64) = false)) (nr : B64) (HNR : Hid (-r = nr)) (hsa : a.getLsbD 63 = true) (hsb : b.getLsbD 63 = true) (v : Int) (HV : Hid (nr.toInt = v)) :
    Calls Tryd.prog 12 #[.int .i64 5, .int .i64 x, .int .i64 y] w fun e w' => e = .returned (.tuple #[.int .i64 v, .int .i64 0]) ∧ Below w.heap.size w w' := by
  go_enter Tryd.func12, Tryd.ntmps12
  go_wp2_with fail
  refine (from_to x a _ HA).mono ?_
  rintro e w1 ⟨rfl, B1⟩
  go_wp2_with (first | (refine wpList_alloc44 rfl rfl ?_; intro ga w2 H2 A2 B2; refine wpList_store44 rfl _ _ rfl ga a.getLsbD rfl rfl noF A2 ?_; intro w3 A3 B3; refine Hid.out ?_))
  have e2 := H2.out
  have s1 := B1.size
  have s2 := B2.size
  have o0 : w.heap.size ≤ ga := by omega
  have C3 := B3.under (B1.trans (B2.mono s1)) (by omega) o0
  have l3 := A3.lt
  clear A2 B1 B2 B3 H2 e2 s1 s2
  refine Lib.hid ?_
  go_wp2_with fail
  refine (from_to y b _ HB).mono ?_
  rintro e w4 ⟨rfl, B4⟩
  go_wp2_with (first | (refine wpList_alloc44 rfl rfl ?_; intro gb w5 H5 A5 B5; refine wpList_store44 rfl _ _ rfl gb b.getLsbD rfl rfl noF A5 ?_; intro w6 A6 B6; refine Hid.out ?_))
  have e5 := H5.out
  have s4 := B4.size
  have s5 := B5.size
  have o1 : ga < gb := by omega
  have X6 := ((A3.below B4).below B5).but B6 (by omega)
  have C6 := B6.under ((C3.trans (B4.mono C3.size)).trans (B5.mono (Nat.le_trans C3.size s4))) (by have := C3.size; omega) (by omega)
  have l6 := A6.lt
  clear A3 A5 B4 B5 B6 H5 e5 s4 s5 l3 C3
  refine Lib.hid ?_
  go_wp2_with (first | (refine wpList_build44 rfl rfl ?_; refine wpList_alloc44 rfl rfl ?_; intro go w7 H7 A7 B7; refine wpList_store44 rfl _ _ rfl go noF rfl rfl noF A7 ?_; intro w8 O B8; refine Hid.out ?_))
  have e7 := H7.out
  have s7 := B7.size
  have o2 : gb < go := by omega
  have X := (X6.below B7).but B8 (by omega)
  have Y := (A6.below B7).but B8 (by omega)
  have C := B8.under (C6.trans (B7.mono C6.size)) (by have := C6.size; omega) (by omega)
  have o3 : w.heap.size ≤ go := by omega
  clear X6 A6 A7 B7 B8 H7 e7 s7 l6 C6
  refine Lib.hid ?_
  go_wp2_with (first | (refine wpList_load44 rfl _ rfl gb rfl b.getLsbD Y ?_; refine wpList_build44 rfl rfl ?_; rw [noF_zero]; refine wpList_eql44 rfl _ _ _ rfl b 0#64 rfl rfl false HB0 ?_))
  refine wp_region_cut (Cut w ga gb go a b q r) (fun a0 g h => (((((((((a0.put (some 55) (.agg (encF a.getLsbD))).put (some 57) (.agg (encF b.getLsbD))).put (some 56) (.agg (encF sa.getLsbD))).put (some 58) (.agg (encF sb.getLsbD))).put (some 59) (.tuple #[.agg (encF q.getLsbD), .agg (encF r.getLsbD)])).put (some 54) (.tuple #[.agg (encF q.getLsbD), .agg (encF r.getLsbD)])).put (some 60) (.agg (encF q.getLsbD))).put (some 61) (.agg (encF r.getLsbD))).put (some 12) (.pointer (some ⟨g, 0, none⟩))).put (some 13) (.pointer (some ⟨h, 0, none⟩))) ?_ ?_
  · refine wp_region_held_drew (S := fun w' => Three w' ga gb go a b) (by kernel_rfl) ⟨X, Y, O⟩ (fun V => ?_)
    have C := C.drew
    clear X Y O
    generalize w8.drew = wd at V C ⊢
    refine take44 0 (some 55) (.tmp 8) ga a.getLsbD rfl rfl rfl (by kernel_rfl) (by kernel_rfl) (by kernel_rfl) (by kernel_rfl) (by kernel_rfl) CutQ.quiet (fun w h => h.a) V ?_
    refine take44 2 (some 57) (.tmp 9) gb b.getLsbD rfl rfl rfl (by kernel_rfl) (by kernel_rfl) (by kernel_rfl) (by kernel_rfl) (by kernel_rfl) CutQ.quiet (fun w h => h.b) V ?_
    refine three_ready (i := 1) (j := 8) (k := 9) (by kernel_rfl) ?_ ?_ ?_
    · skip
      refine step_call rfl #[.agg (encF a.getLsbD)] (.agg (encF sa.getLsbD)) (enter35 _) (by kernel_rfl) (size_to a sa _ HSA) ?_
      intro w1 B
      have C := C.trans (B.mono C.size)
      have V := V.below B
      refine ⟨V, ?_⟩
      refine three_ready (i := 3) (j := 8) (k := 9) (by kernel_rfl) ?_ ?_ ?_
      · skip
        refine step_call rfl #[.agg (encF b.getLsbD)] (.agg (encF sb.getLsbD)) (enter35 _) (by kernel_rfl) (size_to b sb _ HSB) ?_
        intro w1 B
        have C := C.trans (B.mono C.size)
        have V := V.below B
        refine ⟨V, ?_⟩
        refine three_ready (i := 4) (j := 8) (k := 9) (by kernel_rfl) ?_ ?_ ?_
        · skip
          refine step_call rfl #[.agg (encF sa.getLsbD), .agg (encF sb.getLsbD)] (.tuple #[.agg (encF q.getLsbD), .agg (encF r.getLsbD)]) (enter34 _) (by kernel_rfl) (divide_to sa sb q r H0.out _ HQ HR) ?_
          intro w1 B
          have C := C.trans (B.mono C.size)
          have V := V.below B
          refine ⟨V, ?_⟩
          refine takeMove 5 (some 54) (.tmp 59) (.tuple #[.agg (encF q.getLsbD), .agg (encF r.getLsbD)]) rfl rfl rfl (by kernel_rfl) (by kernel_rfl) (by kernel_rfl) (by kernel_rfl) (by kernel_rfl) CutQ.quiet V ?_
          refine takeExtract 6 (some 60) (.tmp 54) 0 #[.agg (encF q.getLsbD), .agg (encF r.getLsbD)] (.agg (encF q.getLsbD)) rfl rfl rfl (by kernel_rfl) (by kernel_rfl) (by kernel_rfl) (by kernel_rfl) (by kernel_rfl) (by kernel_rfl) CutQ.quiet V ?_
          refine takeExtract 7 (some 61) (.tmp 54) 1 #[.agg (encF q.getLsbD), .agg (encF r.getLsbD)] (.agg (encF r.getLsbD)) rfl rfl rfl (by kernel_rfl) (by kernel_rfl) (by kernel_rfl) (by kernel_rfl) (by kernel_rfl) (by kernel_rfl) CutQ.quiet V ?_
          refine two_ready (i := 8) (j := 9) (by kernel_rfl) ?_ ?_
          · skip
            refine step_alloc44 rfl rfl (some 12) rfl rfl ?_
            intro g w1 I G B
            have og : go < g := by have := I.out; have := V.o.lt; omega
            have C := C.trans (B.mono C.size)
            have V := V.below B
            refine ⟨V, ?_⟩
            refine one_ready (i := 9) (by kernel_rfl) ?_
            refine step_alloc44 rfl rfl (some 13) rfl rfl ?_
            intro h w1 I H B
            have oh : go < h := by have := I.out; have := V.o.lt; omega
            have ne : g ≠ h := by have := I.out; have := G.lt; omega
            have C := C.trans (B.mono C.size)
            have V := V.below B
            have G := G.below B
            refine ⟨V, ?_⟩
            refine one_ready (i := 10) (by kernel_rfl) ?_
            refine step_store44 rfl rfl rfl (.tmp 12) (.tmp 60) rfl g q.getLsbD (by kernel_rfl) (by kernel_rfl) noF G ?_
            intro w1 G B
            have C := B.under C C.size (by omega)
            have V := V.but B o1 o2 og
            have H := H.but B (Ne.symm ne)
            refine ⟨V, ?_⟩
            refine one_ready (i := 11) (by kernel_rfl) ?_
            refine step_store44 rfl rfl rfl (.tmp 13) (.tmp 61) rfl h r.getLsbD (by kernel_rfl) (by kernel_rfl) noF H ?_
            intro w1 H B
            have C := B.under C C.size (by omega)
            have V := V.but B o1 o2 oh
            have G := G.but B ne
            refine ⟨V, ?_⟩
            exact wpAnyH_done (by kernel_rfl) ⟨g, h, ⟨V, G, H, C, og, oh, ne⟩, rfl, by kernel_rfl⟩ _
          · skip
            refine step_alloc44 rfl rfl (some 13) rfl rfl ?_
            intro h w1 I H B
            have oh : go < h := by have := I.out; have := V.o.lt; omega
            have C := C.trans (B.mono C.size)
            have V := V.below B
            refine ⟨V, ?_⟩
            refine one_ready (i := 8) (by kernel_rfl) ?_
            refine step_alloc44 rfl rfl (some 12) rfl rfl ?_
            intro g w1 I G B
            have og : go < g := by have := I.out; have := V.o.lt; omega
            have ne : g ≠ h := by have := I.out; have := H.lt; omega
            have C := C.trans (B.mono C.size)
            have V := V.below B
            have H := H.below B
            refine ⟨V, ?_⟩
            refine one_ready (i := 10) (by kernel_rfl) ?_
            refine step_store44 rfl rfl rfl (.tmp 12) (.tmp 60) rfl g q.getLsbD (by kernel_rfl) (by kernel_rfl) noF G ?_
            intro w1 G B
            have C := B.under C C.size (by omega)
            have V := V.but B o1 o2 og
            have H := H.but B (Ne.symm ne)
            refine ⟨V, ?_⟩
            refine one_ready (i := 11) (by kernel_rfl) ?_
            refine step_store44 rfl rfl rfl (.tmp 13) (.tmp 61) rfl h r.getLsbD (by kernel_rfl) (by kernel_rfl) noF H ?_
            intro w1 H B
            have C := B.under C C.size (by omega)
            have V := V.but B o1 o2 oh
            have G := G.but B ne
            refine ⟨V, ?_⟩
            exact wpAnyH_done (by kernel_rfl) ⟨g, h, ⟨V, G, H, C, og, oh, ne⟩, rfl, by kernel_rfl⟩ _
        · skip
          refine step_alloc44 rfl rfl (some 12) rfl rfl ?_
          intro g w1 I G B
          have og : go < g := by have := I.out; have := V.o.lt; omega
          have C := C.trans (B.mono C.size)
          have V := V.below B
          refine ⟨V, ?_⟩
          refine two_ready (i := 4) (j := 9) (by kernel_rfl) ?_ ?_
          · skip
            refine step_call rfl #[.agg (encF sa.getLsbD), .agg (encF sb.getLsbD)] (.tuple #[.agg (encF q.getLsbD), .agg (encF r.getLsbD)]) (enter34 _) (by kernel_rfl) (divide_to sa sb q r H0.out _ HQ HR) ?_
            intro w1 B
            have C := C.trans (B.mono C.size)
            have V := V.below B
            have G := G.below B
            refine ⟨V, ?_⟩
            refine takeMove 5 (some 54) (.tmp 59) (.tuple #[.agg (encF q.getLsbD), .agg (encF r.getLsbD)]) rfl rfl rfl (by kernel_rfl) (by kernel_rfl) (by kernel_rfl) (by kernel_rfl) (by kernel_rfl) CutQ.quiet V ?_
            refine takeExtract 6 (some 60) (.tmp 54) 0 #[.agg (encF q.getLsbD), .agg (encF r.getLsbD)] (.agg (encF q.getLsbD)) rfl rfl rfl (by kernel_rfl) (by kernel_rfl) (by kernel_rfl) (by kernel_rfl) (by kernel_rfl) (by kernel_rfl) CutQ.quiet V ?_
            refine takeExtract 7 (some 61) (.tmp 54) 1 #[.agg (encF q.getLsbD), .agg (encF r.getLsbD)] (.agg (encF r.getLsbD)) rfl rfl rfl (by kernel_rfl) (by kernel_rfl) (by kernel_rfl) (by kernel_rfl) (by kernel_rfl) (by kernel_rfl) CutQ.quiet V ?_
            refine one_ready (i := 9) (by kernel_rfl) ?_
            refine step_alloc44 rfl rfl (some 13) rfl rfl ?_
            intro h w1 I H B
            have oh : go < h := by have := I.out; have := V.o.lt; omega
            have ne : g ≠ h := by have := I.out; have := G.lt; omega
            have C := C.trans (B.mono C.size)
            have V := V.below B
            have G := G.below B
            refine ⟨V, ?_⟩
            refine one_ready (i := 10) (by kernel_rfl) ?_
            refine step_store44 rfl rfl rfl (.tmp 12) (.tmp 60) rfl g q.getLsbD (by kernel_rfl) (by kernel_rfl) noF G ?_
            intro w1 G B
            have C := B.under C C.size (by omega)
            have V := V.but B o1 o2 og
            have H := H.but B (Ne.symm ne)
            refine ⟨V, ?_⟩
            refine one_ready (i := 11) (by kernel_rfl) ?_
            refine step_store44 rfl rfl rfl (.tmp 13) (.tmp 61) rfl h r.getLsbD (by kernel_rfl) (by kernel_rfl) noF H ?_
            intro w1 H B
            have C := B.under C C.size (by omega)
            have V := V.but B o1 o2 oh
            have G := G.but B ne
            refine ⟨V, ?_⟩
            exact wpAnyH_done (by kernel_rfl) ⟨g, h, ⟨V, G, H, C, og, oh, ne⟩, rfl, by kernel_rfl⟩ _
          · skip
            refine step_alloc44 rfl rfl (some 13) rfl rfl ?_
            intro h w1 I H B
            have oh : go < h := by have := I.out; have := V.o.lt; omega
            have ne : g ≠ h := by have := I.out; have := G.lt; omega
            have C := C.trans (B.mono C.size)
            have V := V.below B
            have G := G.below B
            refine ⟨V, ?_⟩
            refine one_ready (i := 4) (by kernel_rfl) ?_
            refine step_call rfl #[.agg (encF sa.getLsbD), .agg (encF sb.getLsbD)] (.tuple #[.agg (encF q.getLsbD), .agg (encF r.getLsbD)]) (enter34 _) (by kernel_rfl) (divide_to sa sb q r H0.out _ HQ HR) ?_
            intro w1 B
            have C := C.trans (B.mono C.size)
            have V := V.below B
            have G := G.below B
            have H := H.below B
            refine ⟨V, ?_⟩
            refine takeMove 5 (some 54) (.tmp 59) (.tuple #[.agg (encF q.getLsbD), .agg (encF r.getLsbD)]) rfl rfl rfl (by kernel_rfl) (by kernel_rfl) (by kernel_rfl) (by kernel_rfl) (by kernel_rfl) CutQ.quiet V ?_
            refine takeExtract 6 (some 60) (.tmp 54) 0 #[.agg (encF q.getLsbD), .agg (encF r.getLsbD)] (.agg (encF q.getLsbD)) rfl rfl rfl (by kernel_rfl) (by kernel_rfl) (by kernel_rfl) (by kernel_rfl) (by kernel_rfl) (by kernel_rfl) CutQ.quiet V ?_
            refine takeExtract 7 (some 61) (.tmp 54) 1 #[.agg (encF q.getLsbD), .agg (encF r.getLsbD)] (.agg (encF r.getLsbD)) rfl rfl rfl (by kernel_rfl) (by kernel_rfl) (by kernel_rfl) (by kernel_rfl) (by kernel_rfl) (by kernel_rfl) CutQ.quiet V ?_
            refine one_ready (i := 10) (by kernel_rfl) ?_
            refine step_store44 rfl rfl rfl (.tmp 12) (.tmp 60) rfl g q.getLsbD (by kernel_rfl) (by kernel_rfl) noF G ?_
            intro w1 G B
            have C := B.under C C.size (by omega)
            have V := V.but B o1 o2 og
            have H := H.but B (Ne.symm ne)
            refine ⟨V, ?_⟩
            refine one_ready (i := 11) (by kernel_rfl) ?_
            refine step_store44 rfl rfl rfl (.tmp 13) (.tmp 61) rfl h r.getLsbD (by kernel_rfl) (by kernel_rfl) noF H ?_
            intro w1 H B
            have C := B.under C C.size (by omega)
            have V := V.but B o1 o2 oh
            have G := G.but B ne
            refine ⟨V, ?_⟩
            exact wpAnyH_done (by kernel_rfl) ⟨g, h, ⟨V, G, H, C, og, oh, ne⟩, rfl, by kernel_rfl⟩ _
        · skip
          refine step_alloc44 rfl rfl (some 13) rfl rfl ?_
          intro h w1 I H B
          have oh : go < h := by have := I.out; have := V.o.lt; omega
          have C := C.trans (B.mono C.size)
          have V := V.below B
          refine ⟨V, ?_⟩
          refine two_ready (i := 4) (j := 8) (by kernel_rfl) ?_ ?_
          · skip
            refine step_call rfl #[.agg (encF sa.getLsbD), .agg (encF sb.getLsbD)] (.tuple #[.agg (encF q.getLsbD), .agg (encF r.getLsbD)]) (enter34 _) (by kernel_rfl) (divide_to sa sb q r H0.out _ HQ HR) ?_
            intro w1 B
            have C := C.trans (B.mono C.size)
            have V := V.below B
            have H := H.below B
            refine ⟨V, ?_⟩
            refine takeMove 5 (some 54) (.tmp 59) (.tuple #[.agg (encF q.getLsbD), .agg (encF r.getLsbD)]) rfl rfl rfl (by kernel_rfl) (by kernel_rfl) (by kernel_rfl) (by kernel_rfl) (by kernel_rfl) CutQ.quiet V ?_
            refine takeExtract 6 (some 60) (.tmp 54) 0 #[.agg (encF q.getLsbD), .agg (encF r.getLsbD)] (.agg (encF q.getLsbD)) rfl rfl rfl (by kernel_rfl) (by kernel_rfl) (by kernel_rfl) (by kernel_rfl) (by kernel_rfl) (by kernel_rfl) CutQ.quiet V ?_
            refine takeExtract 7 (some 61) (.tmp 54) 1 #[.agg (encF q.getLsbD), .agg (encF r.getLsbD)] (.agg (encF r.getLsbD)) rfl rfl rfl (by kernel_rfl) (by kernel_rfl) (by kernel_rfl) (by kernel_rfl) (by kernel_rfl) (by kernel_rfl) CutQ.quiet V ?_
            refine one_ready (i := 8) (by kernel_rfl) ?_
            refine step_alloc44 rfl rfl (some 12) rfl rfl ?_
            intro g w1 I G B
            have og : go < g := by have := I.out; have := V.o.lt; omega
            have ne : g ≠ h := by have := I.out; have := H.lt; omega
            have C := C.trans (B.mono C.size)
            have V := V.below B
            have H := H.below B
            refine ⟨V, ?_⟩
            refine one_ready (i := 10) (by kernel_rfl) ?_
            refine step_store44 rfl rfl rfl (.tmp 12) (.tmp 60) rfl g q.getLsbD (by kernel_rfl) (by kernel_rfl) noF G ?_
            intro w1 G B
            have C := B.under C C.size (by omega)
            have V := V.but B o1 o2 og
            have H := H.but B (Ne.symm ne)
            refine ⟨V, ?_⟩
            refine one_ready (i := 11) (by kernel_rfl) ?_
            refine step_store44 rfl rfl rfl (.tmp 13) (.tmp 61) rfl h r.getLsbD (by kernel_rfl) (by kernel_rfl) noF H ?_
            intro w1 H B
            have C := B.under C C.size (by omega)
            have V := V.but B o1 o2 oh
            have G := G.but B ne
            refine ⟨V, ?_⟩
            exact wpAnyH_done (by kernel_rfl) ⟨g, h, ⟨V, G, H, C, og, oh, ne⟩, rfl, by kernel_rfl⟩ _
          · skip
            refine step_alloc44 rfl rfl (some 12) rfl rfl ?_
            intro g w1 I G B
            have og : go < g := by have := I.out; have := V.o.lt; omega
            have ne : g ≠ h := by have := I.out; have := H.lt; omega
            have C := C.trans (B.mono C.size)
            have V := V.below B
            have H := H.below B
            refine ⟨V, ?_⟩
            refine one_ready (i := 4) (by kernel_rfl) ?_
            refine step_call rfl #[.agg (encF sa.getLsbD), .agg (encF sb.getLsbD)] (.tuple #[.agg (encF q.getLsbD), .agg (encF r.getLsbD)]) (enter34 _) (by kernel_rfl) (divide_to sa sb q r H0.out _ HQ HR) ?_
            intro w1 B
            have C := C.trans (B.mono C.size)
            have V := V.below B
            have G := G.below B
            have H := H.below B
            refine ⟨V, ?_⟩
            refine takeMove 5 (some 54) (.tmp 59) (.tuple #[.agg (encF q.getLsbD), .agg (encF r.getLsbD)]) rfl rfl rfl (by kernel_rfl) (by kernel_rfl) (by kernel_rfl) (by kernel_rfl) (by kernel_rfl) CutQ.quiet V ?_
            refine takeExtract 6 (some 60) (.tmp 54) 0 #[.agg (encF q.getLsbD), .agg (encF r.getLsbD)] (.agg (encF q.getLsbD)) rfl rfl rfl (by kernel_rfl) (by kernel_rfl) (by kernel_rfl) (by kernel_rfl) (by kernel_rfl) (by kernel_rfl) CutQ.quiet V ?_
            refine takeExtract 7 (some 61) (.tmp 54) 1 #[.agg (encF q.getLsbD), .agg (encF r.getLsbD)] (.agg (encF r.getLsbD)) rfl rfl rfl (by kernel_rfl) (by kernel_rfl) (by kernel_rfl) (by kernel_rfl) (by kernel_rfl) (by kernel_rfl) CutQ.quiet V ?_
            refine one_ready (i := 10) (by kernel_rfl) ?_
            refine step_store44 rfl rfl rfl (.tmp 12) (.tmp 60) rfl g q.getLsbD (by kernel_rfl) (by kernel_rfl) noF G ?_
            intro w1 G B
            have C := B.under C C.size (by omega)
            have V := V.but B o1 o2 og
            have H := H.but B (Ne.symm ne)
            refine ⟨V, ?_⟩
            refine one_ready (i := 11) (by kernel_rfl) ?_
            refine step_store44 rfl rfl rfl (.tmp 13) (.tmp 61) rfl h r.getLsbD (by kernel_rfl) (by kernel_rfl) noF H ?_
            intro w1 H B
            have C := B.under C C.size (by omega)
            have V := V.but B o1 o2 oh
            have G := G.but B ne
            refine ⟨V, ?_⟩
            exact wpAnyH_done (by kernel_rfl) ⟨g, h, ⟨V, G, H, C, og, oh, ne⟩, rfl, by kernel_rfl⟩ _
      · skip
        refine step_alloc44 rfl rfl (some 12) rfl rfl ?_
        intro g w1 I G B
        have og : go < g := by have := I.out; have := V.o.lt; omega
        have C := C.trans (B.mono C.size)
        have V := V.below B
        refine ⟨V, ?_⟩
        refine two_ready (i := 3) (j := 9) (by kernel_rfl) ?_ ?_
        · skip
          refine step_call rfl #[.agg (encF b.getLsbD)] (.agg (encF sb.getLsbD)) (enter35 _) (by kernel_rfl) (size_to b sb _ HSB) ?_
          intro w1 B
          have C := C.trans (B.mono C.size)
          have V := V.below B
          have G := G.below B
          refine ⟨V, ?_⟩
          refine two_ready (i := 4) (j := 9) (by kernel_rfl) ?_ ?_
          · skip
            refine step_call rfl #[.agg (encF sa.getLsbD), .agg (encF sb.getLsbD)] (.tuple #[.agg (encF q.getLsbD), .agg (encF r.getLsbD)]) (enter34 _) (by kernel_rfl) (divide_to sa sb q r H0.out _ HQ HR) ?_
            intro w1 B
            have C := C.trans (B.mono C.size)
            have V := V.below B
            have G := G.below B
            refine ⟨V, ?_⟩
            refine takeMove 5 (some 54) (.tmp 59) (.tuple #[.agg (encF q.getLsbD), .agg (encF r.getLsbD)]) rfl rfl rfl (by kernel_rfl) (by kernel_rfl) (by kernel_rfl) (by kernel_rfl) (by kernel_rfl) CutQ.quiet V ?_
            refine takeExtract 6 (some 60) (.tmp 54) 0 #[.agg (encF q.getLsbD), .agg (encF r.getLsbD)] (.agg (encF q.getLsbD)) rfl rfl rfl (by kernel_rfl) (by kernel_rfl) (by kernel_rfl) (by kernel_rfl) (by kernel_rfl) (by kernel_rfl) CutQ.quiet V ?_
            refine takeExtract 7 (some 61) (.tmp 54) 1 #[.agg (encF q.getLsbD), .agg (encF r.getLsbD)] (.agg (encF r.getLsbD)) rfl rfl rfl (by kernel_rfl) (by kernel_rfl) (by kernel_rfl) (by kernel_rfl) (by kernel_rfl) (by kernel_rfl) CutQ.quiet V ?_
            refine one_ready (i := 9) (by kernel_rfl) ?_
            refine step_alloc44 rfl rfl (some 13) rfl rfl ?_
            intro h w1 I H B
            have oh : go < h := by have := I.out; have := V.o.lt; omega
            have ne : g ≠ h := by have := I.out; have := G.lt; omega
            have C := C.trans (B.mono C.size)
            have V := V.below B
            have G := G.below B
            refine ⟨V, ?_⟩
            refine one_ready (i := 10) (by kernel_rfl) ?_
            refine step_store44 rfl rfl rfl (.tmp 12) (.tmp 60) rfl g q.getLsbD (by kernel_rfl) (by kernel_rfl) noF G ?_
            intro w1 G B
            have C := B.under C C.size (by omega)
            have V := V.but B o1 o2 og
            have H := H.but B (Ne.symm ne)
            refine ⟨V, ?_⟩
            refine one_ready (i := 11) (by kernel_rfl) ?_
            refine step_store44 rfl rfl rfl (.tmp 13) (.tmp 61) rfl h r.getLsbD (by kernel_rfl) (by kernel_rfl) noF H ?_
            intro w1 H B
            have C := B.under C C.size (by omega)
            have V := V.but B o1 o2 oh
            have G := G.but B ne
            refine ⟨V, ?_⟩
            exact wpAnyH_done (by kernel_rfl) ⟨g, h, ⟨V, G, H, C, og, oh, ne⟩, rfl, by kernel_rfl⟩ _
          · skip
            refine step_alloc44 rfl rfl (some 13) rfl rfl ?_
            intro h w1 I H B
            have oh : go < h := by have := I.out; have := V.o.lt; omega
            have ne : g ≠ h := by have := I.out; have := G.lt; omega
            have C := C.trans (B.mono C.size)
            have V := V.below B
            have G := G.below B
            refine ⟨V, ?_⟩
            refine one_ready (i := 4) (by kernel_rfl) ?_
            refine step_call rfl #[.agg (encF sa.getLsbD), .agg (encF sb.getLsbD)] (.tuple #[.agg (encF q.getLsbD), .agg (encF r.getLsbD)]) (enter34 _) (by kernel_rfl) (divide_to sa sb q r H0.out _ HQ HR) ?_
            intro w1 B
            have C := C.trans (B.mono C.size)
            have V := V.below B
            have G := G.below B
            have H := H.below B
            refine ⟨V, ?_⟩
            refine takeMove 5 (some 54) (.tmp 59) (.tuple #[.agg (encF q.getLsbD), .agg (encF r.getLsbD)]) rfl rfl rfl (by kernel_rfl) (by kernel_rfl) (by kernel_rfl) (by kernel_rfl) (by kernel_rfl) CutQ.quiet V ?_
            refine takeExtract 6 (some 60) (.tmp 54) 0 #[.agg (encF q.getLsbD), .agg (encF r.getLsbD)] (.agg (encF q.getLsbD)) rfl rfl rfl (by kernel_rfl) (by kernel_rfl) (by kernel_rfl) (by kernel_rfl) (by kernel_rfl) (by kernel_rfl) CutQ.quiet V ?_
            refine takeExtract 7 (some 61) (.tmp 54) 1 #[.agg (encF q.getLsbD), .agg (encF r.getLsbD)] (.agg (encF r.getLsbD)) rfl rfl rfl (by kernel_rfl) (by kernel_rfl) (by kernel_rfl) (by kernel_rfl) (by kernel_rfl) (by kernel_rfl) CutQ.quiet V ?_
            refine one_ready (i := 10) (by kernel_rfl) ?_
            refine step_store44 rfl rfl rfl (.tmp 12) (.tmp 60) rfl g q.getLsbD (by kernel_rfl) (by kernel_rfl) noF G ?_
            intro w1 G B
            have C := B.under C C.size (by omega)
            have V := V.but B o1 o2 og
            have H := H.but B (Ne.symm ne)
            refine ⟨V, ?_⟩
            refine one_ready (i := 11) (by kernel_rfl) ?_
            refine step_store44 rfl rfl rfl (.tmp 13) (.tmp 61) rfl h r.getLsbD (by kernel_rfl) (by kernel_rfl) noF H ?_
            intro w1 H B
            have C := B.under C C.size (by omega)
            have V := V.but B o1 o2 oh
            have G := G.but B ne
            refine ⟨V, ?_⟩
            exact wpAnyH_done (by kernel_rfl) ⟨g, h, ⟨V, G, H, C, og, oh, ne⟩, rfl, by kernel_rfl⟩ _
        · skip
          refine step_alloc44 rfl rfl (some 13) rfl rfl ?_
          intro h w1 I H B
          have oh : go < h := by have := I.out; have := V.o.lt; omega
          have ne : g ≠ h := by have := I.out; have := G.lt; omega
          have C := C.trans (B.mono C.size)
          have V := V.below B
          have G := G.below B
          refine ⟨V, ?_⟩
          refine one_ready (i := 3) (by kernel_rfl) ?_
          refine step_call rfl #[.agg (encF b.getLsbD)] (.agg (encF sb.getLsbD)) (enter35 _) (by kernel_rfl) (size_to b sb _ HSB) ?_
          intro w1 B
          have C := C.trans (B.mono C.size)
          have V := V.below B
          have G := G.below B
          have H := H.below B
          refine ⟨V, ?_⟩
          refine one_ready (i := 4) (by kernel_rfl) ?_
          refine step_call rfl #[.agg (encF sa.getLsbD), .agg (encF sb.getLsbD)] (.tuple #[.agg (encF q.getLsbD), .agg (encF r.getLsbD)]) (enter34 _) (by kernel_rfl) (divide_to sa sb q r H0.out _ HQ HR) ?_
          intro w1 B
          have C := C.trans (B.mono C.size)
          have V := V.below B
          have G := G.below B
          have H := H.below B
          refine ⟨V, ?_⟩
          refine takeMove 5 (some 54) (.tmp 59) (.tuple #[.agg (encF q.getLsbD), .agg (encF r.getLsbD)]) rfl rfl rfl (by kernel_rfl) (by kernel_rfl) (by kernel_rfl) (by kernel_rfl) (by kernel_rfl) CutQ.quiet V ?_
          refine takeExtract 6 (some 60) (.tmp 54) 0 #[.agg (encF q.getLsbD), .agg (encF r.getLsbD)] (.agg (encF q.getLsbD)) rfl rfl rfl (by kernel_rfl) (by kernel_rfl) (by kernel_rfl) (by kernel_rfl) (by kernel_rfl) (by kernel_rfl) CutQ.quiet V ?_
          refine takeExtract 7 (some 61) (.tmp 54) 1 #[.agg (encF q.getLsbD), .agg (encF r.getLsbD)] (.agg (encF r.getLsbD)) rfl rfl rfl (by kernel_rfl) (by kernel_rfl) (by kernel_rfl) (by kernel_rfl) (by kernel_rfl) (by kernel_rfl) CutQ.quiet V ?_
          refine one_ready (i := 10) (by kernel_rfl) ?_
          refine step_store44 rfl rfl rfl (.tmp 12) (.tmp 60) rfl g q.getLsbD (by kernel_rfl) (by kernel_rfl) noF G ?_
          intro w1 G B
          have C := B.under C C.size (by omega)
          have V := V.but B o1 o2 og
          have H := H.but B (Ne.symm ne)
          refine ⟨V, ?_⟩
          refine one_ready (i := 11) (by kernel_rfl) ?_
          refine step_store44 rfl rfl rfl (.tmp 13) (.tmp 61) rfl h r.getLsbD (by kernel_rfl) (by kernel_rfl) noF H ?_
          intro w1 H B
          have C := B.under C C.size (by omega)
          have V := V.but B o1 o2 oh
          have G := G.but B ne
          refine ⟨V, ?_⟩
          exact wpAnyH_done (by kernel_rfl) ⟨g, h, ⟨V, G, H, C, og, oh, ne⟩, rfl, by kernel_rfl⟩ _
      · skip
        refine step_alloc44 rfl rfl (some 13) rfl rfl ?_
        intro h w1 I H B
        have oh : go < h := by have := I.out; have := V.o.lt; omega
        have C := C.trans (B.mono C.size)
        have V := V.below B
        refine ⟨V, ?_⟩
        refine two_ready (i := 3) (j := 8) (by kernel_rfl) ?_ ?_
        · skip
          refine step_call rfl #[.agg (encF b.getLsbD)] (.agg (encF sb.getLsbD)) (enter35 _) (by kernel_rfl) (size_to b sb _ HSB) ?_
          intro w1 B
          have C := C.trans (B.mono C.size)
          have V := V.below B
          have H := H.below B
          refine ⟨V, ?_⟩
          refine two_ready (i := 4) (j := 8) (by kernel_rfl) ?_ ?_
          · skip
            refine step_call rfl #[.agg (encF sa.getLsbD), .agg (encF sb.getLsbD)] (.tuple #[.agg (encF q.getLsbD), .agg (encF r.getLsbD)]) (enter34 _) (by kernel_rfl) (divide_to sa sb q r H0.out _ HQ HR) ?_
            intro w1 B
            have C := C.trans (B.mono C.size)
            have V := V.below B
            have H := H.below B
            refine ⟨V, ?_⟩
            refine takeMove 5 (some 54) (.tmp 59) (.tuple #[.agg (encF q.getLsbD), .agg (encF r.getLsbD)]) rfl rfl rfl (by kernel_rfl) (by kernel_rfl) (by kernel_rfl) (by kernel_rfl) (by kernel_rfl) CutQ.quiet V ?_
            refine takeExtract 6 (some 60) (.tmp 54) 0 #[.agg (encF q.getLsbD), .agg (encF r.getLsbD)] (.agg (encF q.getLsbD)) rfl rfl rfl (by kernel_rfl) (by kernel_rfl) (by kernel_rfl) (by kernel_rfl) (by kernel_rfl) (by kernel_rfl) CutQ.quiet V ?_
            refine takeExtract 7 (some 61) (.tmp 54) 1 #[.agg (encF q.getLsbD), .agg (encF r.getLsbD)] (.agg (encF r.getLsbD)) rfl rfl rfl (by kernel_rfl) (by kernel_rfl) (by kernel_rfl) (by kernel_rfl) (by kernel_rfl) (by kernel_rfl) CutQ.quiet V ?_
            refine one_ready (i := 8) (by kernel_rfl) ?_
            refine step_alloc44 rfl rfl (some 12) rfl rfl ?_
            intro g w1 I G B
            have og : go < g := by have := I.out; have := V.o.lt; omega
            have ne : g ≠ h := by have := I.out; have := H.lt; omega
            have C := C.trans (B.mono C.size)
            have V := V.below B
            have H := H.below B
            refine ⟨V, ?_⟩
            refine one_ready (i := 10) (by kernel_rfl) ?_
            refine step_store44 rfl rfl rfl (.tmp 12) (.tmp 60) rfl g q.getLsbD (by kernel_rfl) (by kernel_rfl) noF G ?_
            intro w1 G B
            have C := B.under C C.size (by omega)
            have V := V.but B o1 o2 og
            have H := H.but B (Ne.symm ne)
            refine ⟨V, ?_⟩
            refine one_ready (i := 11) (by kernel_rfl) ?_
            refine step_store44 rfl rfl rfl (.tmp 13) (.tmp 61) rfl h r.getLsbD (by kernel_rfl) (by kernel_rfl) noF H ?_
            intro w1 H B
            have C := B.under C C.size (by omega)
            have V := V.but B o1 o2 oh
            have G := G.but B ne
            refine ⟨V, ?_⟩
            exact wpAnyH_done (by kernel_rfl) ⟨g, h, ⟨V, G, H, C, og, oh, ne⟩, rfl, by kernel_rfl⟩ _
          · skip
            refine step_alloc44 rfl rfl (some 12) rfl rfl ?_
            intro g w1 I G B
            have og : go < g := by have := I.out; have := V.o.lt; omega
            have ne : g ≠ h := by have := I.out; have := H.lt; omega
            have C := C.trans (B.mono C.size)
            have V := V.below B
            have H := H.below B
            refine ⟨V, ?_⟩
            refine one_ready (i := 4) (by kernel_rfl) ?_
            refine step_call rfl #[.agg (encF sa.getLsbD), .agg (encF sb.getLsbD)] (.tuple #[.agg (encF q.getLsbD), .agg (encF r.getLsbD)]) (enter34 _) (by kernel_rfl) (divide_to sa sb q r H0.out _ HQ HR) ?_
            intro w1 B
            have C := C.trans (B.mono C.size)
            have V := V.below B
            have G := G.below B
            have H := H.below B
            refine ⟨V, ?_⟩
            refine takeMove 5 (some 54) (.tmp 59) (.tuple #[.agg (encF q.getLsbD), .agg (encF r.getLsbD)]) rfl rfl rfl (by kernel_rfl) (by kernel_rfl) (by kernel_rfl) (by kernel_rfl) (by kernel_rfl) CutQ.quiet V ?_
            refine takeExtract 6 (some 60) (.tmp 54) 0 #[.agg (encF q.getLsbD), .agg (encF r.getLsbD)] (.agg (encF q.getLsbD)) rfl rfl rfl (by kernel_rfl) (by kernel_rfl) (by kernel_rfl) (by kernel_rfl) (by kernel_rfl) (by kernel_rfl) CutQ.quiet V ?_
            refine takeExtract 7 (some 61) (.tmp 54) 1 #[.agg (encF q.getLsbD), .agg (encF r.getLsbD)] (.agg (encF r.getLsbD)) rfl rfl rfl (by kernel_rfl) (by kernel_rfl) (by kernel_rfl) (by kernel_rfl) (by kernel_rfl) (by kernel_rfl) CutQ.quiet V ?_
            refine one_ready (i := 10) (by kernel_rfl) ?_
            refine step_store44 rfl rfl rfl (.tmp 12) (.tmp 60) rfl g q.getLsbD (by kernel_rfl) (by kernel_rfl) noF G ?_
            intro w1 G B
            have C := B.under C C.size (by omega)
            have V := V.but B o1 o2 og
            have H := H.but B (Ne.symm ne)
            refine ⟨V, ?_⟩
            refine one_ready (i := 11) (by kernel_rfl) ?_
            refine step_store44 rfl rfl rfl (.tmp 13) (.tmp 61) rfl h r.getLsbD (by kernel_rfl) (by kernel_rfl) noF H ?_
            intro w1 H B
            have C := B.under C C.size (by omega)
            have V := V.but B o1 o2 oh
            have G := G.but B ne
            refine ⟨V, ?_⟩
            exact wpAnyH_done (by kernel_rfl) ⟨g, h, ⟨V, G, H, C, og, oh, ne⟩, rfl, by kernel_rfl⟩ _
        · skip
          refine step_alloc44 rfl rfl (some 12) rfl rfl ?_
          intro g w1 I G B
          have og : go < g := by have := I.out; have := V.o.lt; omega
          have ne : g ≠ h := by have := I.out; have := H.lt; omega
          have C := C.trans (B.mono C.size)
          have V := V.below B
          have H := H.below B
          refine ⟨V, ?_⟩
          refine one_ready (i := 3) (by kernel_rfl) ?_
          refine step_call rfl #[.agg (encF b.getLsbD)] (.agg (encF sb.getLsbD)) (enter35 _) (by kernel_rfl) (size_to b sb _ HSB) ?_
          intro w1 B
          have C := C.trans (B.mono C.size)
          have V := V.below B
          have G := G.below B
          have H := H.below B
          refine ⟨V, ?_⟩
          refine one_ready (i := 4) (by kernel_rfl) ?_
          refine step_call rfl #[.agg (encF sa.getLsbD), .agg (encF sb.getLsbD)] (.tuple #[.agg (encF q.getLsbD), .agg (encF r.getLsbD)]) (enter34 _) (by kernel_rfl) (divide_to sa sb q r H0.out _ HQ HR) ?_
          intro w1 B
          have C := C.trans (B.mono C.size)
          have V := V.below B
          have G := G.below B
          have H := H.below B
          refine ⟨V, ?_⟩
          refine takeMove 5 (some 54) (.tmp 59) (.tuple #[.agg (encF q.getLsbD), .agg (encF r.getLsbD)]) rfl rfl rfl (by kernel_rfl) (by kernel_rfl) (by kernel_rfl) (by kernel_rfl) (by kernel_rfl) CutQ.quiet V ?_
          refine takeExtract 6 (some 60) (.tmp 54) 0 #[.agg (encF q.getLsbD), .agg (encF r.getLsbD)] (.agg (encF q.getLsbD)) rfl rfl rfl (by kernel_rfl) (by kernel_rfl) (by kernel_rfl) (by kernel_rfl) (by kernel_rfl) (by kernel_rfl) CutQ.quiet V ?_
          refine takeExtract 7 (some 61) (.tmp 54) 1 #[.agg (encF q.getLsbD), .agg (encF r.getLsbD)] (.agg (encF r.getLsbD)) rfl rfl rfl (by kernel_rfl) (by kernel_rfl) (by kernel_rfl) (by kernel_rfl) (by kernel_rfl) (by kernel_rfl) CutQ.quiet V ?_
          refine one_ready (i := 10) (by kernel_rfl) ?_
          refine step_store44 rfl rfl rfl (.tmp 12) (.tmp 60) rfl g q.getLsbD (by kernel_rfl) (by kernel_rfl) noF G ?_
          intro w1 G B
          have C := B.under C C.size (by omega)
          have V := V.but B o1 o2 og
          have H := H.but B (Ne.symm ne)
          refine ⟨V, ?_⟩
          refine one_ready (i := 11) (by kernel_rfl) ?_
          refine step_store44 rfl rfl rfl (.tmp 13) (.tmp 61) rfl h r.getLsbD (by kernel_rfl) (by kernel_rfl) noF H ?_
          intro w1 H B
          have C := B.under C C.size (by omega)
          have V := V.but B o1 o2 oh
          have G := G.but B ne
          refine ⟨V, ?_⟩
          exact wpAnyH_done (by kernel_rfl) ⟨g, h, ⟨V, G, H, C, og, oh, ne⟩, rfl, by kernel_rfl⟩ _
    · skip
      refine step_alloc44 rfl rfl (some 12) rfl rfl ?_
      intro g w1 I G B
      have og : go < g := by have := I.out; have := V.o.lt; omega
      have C := C.trans (B.mono C.size)
      have V := V.below B
      refine ⟨V, ?_⟩
      refine two_ready (i := 1) (j := 9) (by kernel_rfl) ?_ ?_
      · skip
        refine step_call rfl #[.agg (encF a.getLsbD)] (.agg (encF sa.getLsbD)) (enter35 _) (by kernel_rfl) (size_to a sa _ HSA) ?_
        intro w1 B
        have C := C.trans (B.mono C.size)
        have V := V.below B
        have G := G.below B
        refine ⟨V, ?_⟩
        refine two_ready (i := 3) (j := 9) (by kernel_rfl) ?_ ?_
        · skip
          refine step_call rfl #[.agg (encF b.getLsbD)] (.agg (encF sb.getLsbD)) (enter35 _) (by kernel_rfl) (size_to b sb _ HSB) ?_
          intro w1 B
          have C := C.trans (B.mono C.size)
          have V := V.below B
          have G := G.below B
          refine ⟨V, ?_⟩
          refine two_ready (i := 4) (j := 9) (by kernel_rfl) ?_ ?_
          · skip
            refine step_call rfl #[.agg (encF sa.getLsbD), .agg (encF sb.getLsbD)] (.tuple #[.agg (encF q.getLsbD), .agg (encF r.getLsbD)]) (enter34 _) (by kernel_rfl) (divide_to sa sb q r H0.out _ HQ HR) ?_
            intro w1 B
            have C := C.trans (B.mono C.size)
            have V := V.below B
            have G := G.below B
            refine ⟨V, ?_⟩
            refine takeMove 5 (some 54) (.tmp 59) (.tuple #[.agg (encF q.getLsbD), .agg (encF r.getLsbD)]) rfl rfl rfl (by kernel_rfl) (by kernel_rfl) (by kernel_rfl) (by kernel_rfl) (by kernel_rfl) CutQ.quiet V ?_
            refine takeExtract 6 (some 60) (.tmp 54) 0 #[.agg (encF q.getLsbD), .agg (encF r.getLsbD)] (.agg (encF q.getLsbD)) rfl rfl rfl (by kernel_rfl) (by kernel_rfl) (by kernel_rfl) (by kernel_rfl) (by kernel_rfl) (by kernel_rfl) CutQ.quiet V ?_
            refine takeExtract 7 (some 61) (.tmp 54) 1 #[.agg (encF q.getLsbD), .agg (encF r.getLsbD)] (.agg (encF r.getLsbD)) rfl rfl rfl (by kernel_rfl) (by kernel_rfl) (by kernel_rfl) (by kernel_rfl) (by kernel_rfl) (by kernel_rfl) CutQ.quiet V ?_
            refine one_ready (i := 9) (by kernel_rfl) ?_
            refine step_alloc44 rfl rfl (some 13) rfl rfl ?_
            intro h w1 I H B
            have oh : go < h := by have := I.out; have := V.o.lt; omega
            have ne : g ≠ h := by have := I.out; have := G.lt; omega
            have C := C.trans (B.mono C.size)
            have V := V.below B
            have G := G.below B
            refine ⟨V, ?_⟩
            refine one_ready (i := 10) (by kernel_rfl) ?_
            refine step_store44 rfl rfl rfl (.tmp 12) (.tmp 60) rfl g q.getLsbD (by kernel_rfl) (by kernel_rfl) noF G ?_
            intro w1 G B
            have C := B.under C C.size (by omega)
            have V := V.but B o1 o2 og
            have H := H.but B (Ne.symm ne)
            refine ⟨V, ?_⟩
            refine one_ready (i := 11) (by kernel_rfl) ?_
            refine step_store44 rfl rfl rfl (.tmp 13) (.tmp 61) rfl h r.getLsbD (by kernel_rfl) (by kernel_rfl) noF H ?_
            intro w1 H B
            have C := B.under C C.size (by omega)
            have V := V.but B o1 o2 oh
            have G := G.but B ne
            refine ⟨V, ?_⟩
            exact wpAnyH_done (by kernel_rfl) ⟨g, h, ⟨V, G, H, C, og, oh, ne⟩, rfl, by kernel_rfl⟩ _
          · skip
            refine step_alloc44 rfl rfl (some 13) rfl rfl ?_
            intro h w1 I H B
            have oh : go < h := by have := I.out; have := V.o.lt; omega
            have ne : g ≠ h := by have := I.out; have := G.lt; omega
            have C := C.trans (B.mono C.size)
            have V := V.below B
            have G := G.below B
            refine ⟨V, ?_⟩
            refine one_ready (i := 4) (by kernel_rfl) ?_
            refine step_call rfl #[.agg (encF sa.getLsbD), .agg (encF sb.getLsbD)] (.tuple #[.agg (encF q.getLsbD), .agg (encF r.getLsbD)]) (enter34 _) (by kernel_rfl) (divide_to sa sb q r H0.out _ HQ HR) ?_
            intro w1 B
            have C := C.trans (B.mono C.size)
            have V := V.below B
            have G := G.below B
            have H := H.below B
            refine ⟨V, ?_⟩
            refine takeMove 5 (some 54) (.tmp 59) (.tuple #[.agg (encF q.getLsbD), .agg (encF r.getLsbD)]) rfl rfl rfl (by kernel_rfl) (by kernel_rfl) (by kernel_rfl) (by kernel_rfl) (by kernel_rfl) CutQ.quiet V ?_
            refine takeExtract 6 (some 60) (.tmp 54) 0 #[.agg (encF q.getLsbD), .agg (encF r.getLsbD)] (.agg (encF q.getLsbD)) rfl rfl rfl (by kernel_rfl) (by kernel_rfl) (by kernel_rfl) (by kernel_rfl) (by kernel_rfl) (by kernel_rfl) CutQ.quiet V ?_
            refine takeExtract 7 (some 61) (.tmp 54) 1 #[.agg (encF q.getLsbD), .agg (encF r.getLsbD)] (.agg (encF r.getLsbD)) rfl rfl rfl (by kernel_rfl) (by kernel_rfl) (by kernel_rfl) (by kernel_rfl) (by kernel_rfl) (by kernel_rfl) CutQ.quiet V ?_
            refine one_ready (i := 10) (by kernel_rfl) ?_
            refine step_store44 rfl rfl rfl (.tmp 12) (.tmp 60) rfl g q.getLsbD (by kernel_rfl) (by kernel_rfl) noF G ?_
            intro w1 G B
            have C := B.under C C.size (by omega)
            have V := V.but B o1 o2 og
            have H := H.but B (Ne.symm ne)
            refine ⟨V, ?_⟩
            refine one_ready (i := 11) (by kernel_rfl) ?_
            refine step_store44 rfl rfl rfl (.tmp 13) (.tmp 61) rfl h r.getLsbD (by kernel_rfl) (by kernel_rfl) noF H ?_
            intro w1 H B
            have C := B.under C C.size (by omega)
            have V := V.but B o1 o2 oh
            have G := G.but B ne
            refine ⟨V, ?_⟩
            exact wpAnyH_done (by kernel_rfl) ⟨g, h, ⟨V, G, H, C, og, oh, ne⟩, rfl, by kernel_rfl⟩ _
        · skip
          refine step_alloc44 rfl rfl (some 13) rfl rfl ?_
          intro h w1 I H B
          have oh : go < h := by have := I.out; have := V.o.lt; omega
          have ne : g ≠ h := by have := I.out; have := G.lt; omega
          have C := C.trans (B.mono C.size)
          have V := V.below B
          have G := G.below B
          refine ⟨V, ?_⟩
          refine one_ready (i := 3) (by kernel_rfl) ?_
          refine step_call rfl #[.agg (encF b.getLsbD)] (.agg (encF sb.getLsbD)) (enter35 _) (by kernel_rfl) (size_to b sb _ HSB) ?_
          intro w1 B
          have C := C.trans (B.mono C.size)
          have V := V.below B
          have G := G.below B
          have H := H.below B
          refine ⟨V, ?_⟩
          refine one_ready (i := 4) (by kernel_rfl) ?_
          refine step_call rfl #[.agg (encF sa.getLsbD), .agg (encF sb.getLsbD)] (.tuple #[.agg (encF q.getLsbD), .agg (encF r.getLsbD)]) (enter34 _) (by kernel_rfl) (divide_to sa sb q r H0.out _ HQ HR) ?_
          intro w1 B
          have C := C.trans (B.mono C.size)
          have V := V.below B
          have G := G.below B
          have H := H.below B
          refine ⟨V, ?_⟩
          refine takeMove 5 (some 54) (.tmp 59) (.tuple #[.agg (encF q.getLsbD), .agg (encF r.getLsbD)]) rfl rfl rfl (by kernel_rfl) (by kernel_rfl) (by kernel_rfl) (by kernel_rfl) (by kernel_rfl) CutQ.quiet V ?_
          refine takeExtract 6 (some 60) (.tmp 54) 0 #[.agg (encF q.getLsbD), .agg (encF r.getLsbD)] (.agg (encF q.getLsbD)) rfl rfl rfl (by kernel_rfl) (by kernel_rfl) (by kernel_rfl) (by kernel_rfl) (by kernel_rfl) (by kernel_rfl) CutQ.quiet V ?_
          refine takeExtract 7 (some 61) (.tmp 54) 1 #[.agg (encF q.getLsbD), .agg (encF r.getLsbD)] (.agg (encF r.getLsbD)) rfl rfl rfl (by kernel_rfl) (by kernel_rfl) (by kernel_rfl) (by kernel_rfl) (by kernel_rfl) (by kernel_rfl) CutQ.quiet V ?_
          refine one_ready (i := 10) (by kernel_rfl) ?_
          refine step_store44 rfl rfl rfl (.tmp 12) (.tmp 60) rfl g q.getLsbD (by kernel_rfl) (by kernel_rfl) noF G ?_
          intro w1 G B
          have C := B.under C C.size (by omega)
          have V := V.but B o1 o2 og
          have H := H.but B (Ne.symm ne)
          refine ⟨V, ?_⟩
          refine one_ready (i := 11) (by kernel_rfl) ?_
          refine step_store44 rfl rfl rfl (.tmp 13) (.tmp 61) rfl h r.getLsbD (by kernel_rfl) (by kernel_rfl) noF H ?_
          intro w1 H B
          have C := B.under C C.size (by omega)
          have V := V.but B o1 o2 oh
          have G := G.but B ne
          refine ⟨V, ?_⟩
          exact wpAnyH_done (by kernel_rfl) ⟨g, h, ⟨V, G, H, C, og, oh, ne⟩, rfl, by kernel_rfl⟩ _
      · skip
        refine step_alloc44 rfl rfl (some 13) rfl rfl ?_
        intro h w1 I H B
        have oh : go < h := by have := I.out; have := V.o.lt; omega
        have ne : g ≠ h := by have := I.out; have := G.lt; omega
        have C := C.trans (B.mono C.size)
        have V := V.below B
        have G := G.below B
        refine ⟨V, ?_⟩
        refine one_ready (i := 1) (by kernel_rfl) ?_
        refine step_call rfl #[.agg (encF a.getLsbD)] (.agg (encF sa.getLsbD)) (enter35 _) (by kernel_rfl) (size_to a sa _ HSA) ?_
        intro w1 B
        have C := C.trans (B.mono C.size)
        have V := V.below B
        have G := G.below B
        have H := H.below B
        refine ⟨V, ?_⟩
        refine one_ready (i := 3) (by kernel_rfl) ?_
        refine step_call rfl #[.agg (encF b.getLsbD)] (.agg (encF sb.getLsbD)) (enter35 _) (by kernel_rfl) (size_to b sb _ HSB) ?_
        intro w1 B
        have C := C.trans (B.mono C.size)
        have V := V.below B
        have G := G.below B
        have H := H.below B
        refine ⟨V, ?_⟩
        refine one_ready (i := 4) (by kernel_rfl) ?_
        refine step_call rfl #[.agg (encF sa.getLsbD), .agg (encF sb.getLsbD)] (.tuple #[.agg (encF q.getLsbD), .agg (encF r.getLsbD)]) (enter34 _) (by kernel_rfl) (divide_to sa sb q r H0.out _ HQ HR) ?_
        intro w1 B
        have C := C.trans (B.mono C.size)
        have V := V.below B
        have G := G.below B
        have H := H.below B
        refine ⟨V, ?_⟩
        refine takeMove 5 (some 54) (.tmp 59) (.tuple #[.agg (encF q.getLsbD), .agg (encF r.getLsbD)]) rfl rfl rfl (by kernel_rfl) (by kernel_rfl) (by kernel_rfl) (by kernel_rfl) (by kernel_rfl) CutQ.quiet V ?_
        refine takeExtract 6 (some 60) (.tmp 54) 0 #[.agg (encF q.getLsbD), .agg (encF r.getLsbD)] (.agg (encF q.getLsbD)) rfl rfl rfl (by kernel_rfl) (by kernel_rfl) (by kernel_rfl) (by kernel_rfl) (by kernel_rfl) (by kernel_rfl) CutQ.quiet V ?_
        refine takeExtract 7 (some 61) (.tmp 54) 1 #[.agg (encF q.getLsbD), .agg (encF r.getLsbD)] (.agg (encF r.getLsbD)) rfl rfl rfl (by kernel_rfl) (by kernel_rfl) (by kernel_rfl) (by kernel_rfl) (by kernel_rfl) (by kernel_rfl) CutQ.quiet V ?_
        refine one_ready (i := 10) (by kernel_rfl) ?_
        refine step_store44 rfl rfl rfl (.tmp 12) (.tmp 60) rfl g q.getLsbD (by kernel_rfl) (by kernel_rfl) noF G ?_
        intro w1 G B
        have C := B.under C C.size (by omega)
        have V := V.but B o1 o2 og
        have H := H.but B (Ne.symm ne)
        refine ⟨V, ?_⟩
        refine one_ready (i := 11) (by kernel_rfl) ?_
        refine step_store44 rfl rfl rfl (.tmp 13) (.tmp 61) rfl h r.getLsbD (by kernel_rfl) (by kernel_rfl) noF H ?_
        intro w1 H B
        have C := B.under C C.size (by omega)
        have V := V.but B o1 o2 oh
        have G := G.but B ne
        refine ⟨V, ?_⟩
        exact wpAnyH_done (by kernel_rfl) ⟨g, h, ⟨V, G, H, C, og, oh, ne⟩, rfl, by kernel_rfl⟩ _
    · skip
      refine step_alloc44 rfl rfl (some 13) rfl rfl ?_
      intro h w1 I H B
      have oh : go < h := by have := I.out; have := V.o.lt; omega
      have C := C.trans (B.mono C.size)
      have V := V.below B
      refine ⟨V, ?_⟩
      refine two_ready (i := 1) (j := 8) (by kernel_rfl) ?_ ?_
      · skip
        refine step_call rfl #[.agg (encF a.getLsbD)] (.agg (encF sa.getLsbD)) (enter35 _) (by kernel_rfl) (size_to a sa _ HSA) ?_
        intro w1 B
        have C := C.trans (B.mono C.size)
        have V := V.below B
        have H := H.below B
        refine ⟨V, ?_⟩
        refine two_ready (i := 3) (j := 8) (by kernel_rfl) ?_ ?_
        · skip
          refine step_call rfl #[.agg (encF b.getLsbD)] (.agg (encF sb.getLsbD)) (enter35 _) (by kernel_rfl) (size_to b sb _ HSB) ?_
          intro w1 B
          have C := C.trans (B.mono C.size)
          have V := V.below B
          have H := H.below B
          refine ⟨V, ?_⟩
          refine two_ready (i := 4) (j := 8) (by kernel_rfl) ?_ ?_
          · skip
            refine step_call rfl #[.agg (encF sa.getLsbD), .agg (encF sb.getLsbD)] (.tuple #[.agg (encF q.getLsbD), .agg (encF r.getLsbD)]) (enter34 _) (by kernel_rfl) (divide_to sa sb q r H0.out _ HQ HR) ?_
            intro w1 B
            have C := C.trans (B.mono C.size)
            have V := V.below B
            have H := H.below B
            refine ⟨V, ?_⟩
            refine takeMove 5 (some 54) (.tmp 59) (.tuple #[.agg (encF q.getLsbD), .agg (encF r.getLsbD)]) rfl rfl rfl (by kernel_rfl) (by kernel_rfl) (by kernel_rfl) (by kernel_rfl) (by kernel_rfl) CutQ.quiet V ?_
            refine takeExtract 6 (some 60) (.tmp 54) 0 #[.agg (encF q.getLsbD), .agg (encF r.getLsbD)] (.agg (encF q.getLsbD)) rfl rfl rfl (by kernel_rfl) (by kernel_rfl) (by kernel_rfl) (by kernel_rfl) (by kernel_rfl) (by kernel_rfl) CutQ.quiet V ?_
            refine takeExtract 7 (some 61) (.tmp 54) 1 #[.agg (encF q.getLsbD), .agg (encF r.getLsbD)] (.agg (encF r.getLsbD)) rfl rfl rfl (by kernel_rfl) (by kernel_rfl) (by kernel_rfl) (by kernel_rfl) (by kernel_rfl) (by kernel_rfl) CutQ.quiet V ?_
            refine one_ready (i := 8) (by kernel_rfl) ?_
            refine step_alloc44 rfl rfl (some 12) rfl rfl ?_
            intro g w1 I G B
            have og : go < g := by have := I.out; have := V.o.lt; omega
            have ne : g ≠ h := by have := I.out; have := H.lt; omega
            have C := C.trans (B.mono C.size)
            have V := V.below B
            have H := H.below B
            refine ⟨V, ?_⟩
            refine one_ready (i := 10) (by kernel_rfl) ?_
            refine step_store44 rfl rfl rfl (.tmp 12) (.tmp 60) rfl g q.getLsbD (by kernel_rfl) (by kernel_rfl) noF G ?_
            intro w1 G B
            have C := B.under C C.size (by omega)
            have V := V.but B o1 o2 og
            have H := H.but B (Ne.symm ne)
            refine ⟨V, ?_⟩
            refine one_ready (i := 11) (by kernel_rfl) ?_
            refine step_store44 rfl rfl rfl (.tmp 13) (.tmp 61) rfl h r.getLsbD (by kernel_rfl) (by kernel_rfl) noF H ?_
            intro w1 H B
            have C := B.under C C.size (by omega)
            have V := V.but B o1 o2 oh
            have G := G.but B ne
            refine ⟨V, ?_⟩
            exact wpAnyH_done (by kernel_rfl) ⟨g, h, ⟨V, G, H, C, og, oh, ne⟩, rfl, by kernel_rfl⟩ _
          · skip
            refine step_alloc44 rfl rfl (some 12) rfl rfl ?_
            intro g w1 I G B
            have og : go < g := by have := I.out; have := V.o.lt; omega
            have ne : g ≠ h := by have := I.out; have := H.lt; omega
            have C := C.trans (B.mono C.size)
            have V := V.below B
            have H := H.below B
            refine ⟨V, ?_⟩
            refine one_ready (i := 4) (by kernel_rfl) ?_
            refine step_call rfl #[.agg (encF sa.getLsbD), .agg (encF sb.getLsbD)] (.tuple #[.agg (encF q.getLsbD), .agg (encF r.getLsbD)]) (enter34 _) (by kernel_rfl) (divide_to sa sb q r H0.out _ HQ HR) ?_
            intro w1 B
            have C := C.trans (B.mono C.size)
            have V := V.below B
            have G := G.below B
            have H := H.below B
            refine ⟨V, ?_⟩
            refine takeMove 5 (some 54) (.tmp 59) (.tuple #[.agg (encF q.getLsbD), .agg (encF r.getLsbD)]) rfl rfl rfl (by kernel_rfl) (by kernel_rfl) (by kernel_rfl) (by kernel_rfl) (by kernel_rfl) CutQ.quiet V ?_
            refine takeExtract 6 (some 60) (.tmp 54) 0 #[.agg (encF q.getLsbD), .agg (encF r.getLsbD)] (.agg (encF q.getLsbD)) rfl rfl rfl (by kernel_rfl) (by kernel_rfl) (by kernel_rfl) (by kernel_rfl) (by kernel_rfl) (by kernel_rfl) CutQ.quiet V ?_
            refine takeExtract 7 (some 61) (.tmp 54) 1 #[.agg (encF q.getLsbD), .agg (encF r.getLsbD)] (.agg (encF r.getLsbD)) rfl rfl rfl (by kernel_rfl) (by kernel_rfl) (by kernel_rfl) (by kernel_rfl) (by kernel_rfl) (by kernel_rfl) CutQ.quiet V ?_
            refine one_ready (i := 10) (by kernel_rfl) ?_
            refine step_store44 rfl rfl rfl (.tmp 12) (.tmp 60) rfl g q.getLsbD (by kernel_rfl) (by kernel_rfl) noF G ?_
            intro w1 G B
            have C := B.under C C.size (by omega)
            have V := V.but B o1 o2 og
            have H := H.but B (Ne.symm ne)
            refine ⟨V, ?_⟩
            refine one_ready (i := 11) (by kernel_rfl) ?_
            refine step_store44 rfl rfl rfl (.tmp 13) (.tmp 61) rfl h r.getLsbD (by kernel_rfl) (by kernel_rfl) noF H ?_
            intro w1 H B
            have C := B.under C C.size (by omega)
            have V := V.but B o1 o2 oh
            have G := G.but B ne
            refine ⟨V, ?_⟩
            exact wpAnyH_done (by kernel_rfl) ⟨g, h, ⟨V, G, H, C, og, oh, ne⟩, rfl, by kernel_rfl⟩ _
        · skip
          refine step_alloc44 rfl rfl (some 12) rfl rfl ?_
          intro g w1 I G B
          have og : go < g := by have := I.out; have := V.o.lt; omega
          have ne : g ≠ h := by have := I.out; have := H.lt; omega
          have C := C.trans (B.mono C.size)
          have V := V.below B
          have H := H.below B
          refine ⟨V, ?_⟩
          refine one_ready (i := 3) (by kernel_rfl) ?_
          refine step_call rfl #[.agg (encF b.getLsbD)] (.agg (encF sb.getLsbD)) (enter35 _) (by kernel_rfl) (size_to b sb _ HSB) ?_
          intro w1 B
          have C := C.trans (B.mono C.size)
          have V := V.below B
          have G := G.below B
          have H := H.below B
          refine ⟨V, ?_⟩
          refine one_ready (i := 4) (by kernel_rfl) ?_
          refine step_call rfl #[.agg (encF sa.getLsbD), .agg (encF sb.getLsbD)] (.tuple #[.agg (encF q.getLsbD), .agg (encF r.getLsbD)]) (enter34 _) (by kernel_rfl) (divide_to sa sb q r H0.out _ HQ HR) ?_
          intro w1 B
          have C := C.trans (B.mono C.size)
          have V := V.below B
          have G := G.below B
          have H := H.below B
          refine ⟨V, ?_⟩
          refine takeMove 5 (some 54) (.tmp 59) (.tuple #[.agg (encF q.getLsbD), .agg (encF r.getLsbD)]) rfl rfl rfl (by kernel_rfl) (by kernel_rfl) (by kernel_rfl) (by kernel_rfl) (by kernel_rfl) CutQ.quiet V ?_
          refine takeExtract 6 (some 60) (.tmp 54) 0 #[.agg (encF q.getLsbD), .agg (encF r.getLsbD)] (.agg (encF q.getLsbD)) rfl rfl rfl (by kernel_rfl) (by kernel_rfl) (by kernel_rfl) (by kernel_rfl) (by kernel_rfl) (by kernel_rfl) CutQ.quiet V ?_
          refine takeExtract 7 (some 61) (.tmp 54) 1 #[.agg (encF q.getLsbD), .agg (encF r.getLsbD)] (.agg (encF r.getLsbD)) rfl rfl rfl (by kernel_rfl) (by kernel_rfl) (by kernel_rfl) (by kernel_rfl) (by kernel_rfl) (by kernel_rfl) CutQ.quiet V ?_
          refine one_ready (i := 10) (by kernel_rfl) ?_
          refine step_store44 rfl rfl rfl (.tmp 12) (.tmp 60) rfl g q.getLsbD (by kernel_rfl) (by kernel_rfl) noF G ?_
          intro w1 G B
          have C := B.under C C.size (by omega)
          have V := V.but B o1 o2 og
          have H := H.but B (Ne.symm ne)
          refine ⟨V, ?_⟩
          refine one_ready (i := 11) (by kernel_rfl) ?_
          refine step_store44 rfl rfl rfl (.tmp 13) (.tmp 61) rfl h r.getLsbD (by kernel_rfl) (by kernel_rfl) noF H ?_
          intro w1 H B
          have C := B.under C C.size (by omega)
          have V := V.but B o1 o2 oh
          have G := G.but B ne
          refine ⟨V, ?_⟩
          exact wpAnyH_done (by kernel_rfl) ⟨g, h, ⟨V, G, H, C, og, oh, ne⟩, rfl, by kernel_rfl⟩ _
      · skip
        refine step_alloc44 rfl rfl (some 12) rfl rfl ?_
        intro g w1 I G B
        have og : go < g := by have := I.out; have := V.o.lt; omega
        have ne : g ≠ h := by have := I.out; have := H.lt; omega
        have C := C.trans (B.mono C.size)
        have V := V.below B
        have H := H.below B
        refine ⟨V, ?_⟩
        refine one_ready (i := 1) (by kernel_rfl) ?_
        refine step_call rfl #[.agg (encF a.getLsbD)] (.agg (encF sa.getLsbD)) (enter35 _) (by kernel_rfl) (size_to a sa _ HSA) ?_
        intro w1 B
        have C := C.trans (B.mono C.size)
        have V := V.below B
        have G := G.below B
        have H := H.below B
        refine ⟨V, ?_⟩
        refine one_ready (i := 3) (by kernel_rfl) ?_
        refine step_call rfl #[.agg (encF b.getLsbD)] (.agg (encF sb.getLsbD)) (enter35 _) (by kernel_rfl) (size_to b sb _ HSB) ?_
        intro w1 B
        have C := C.trans (B.mono C.size)
        have V := V.below B
        have G := G.below B
        have H := H.below B
        refine ⟨V, ?_⟩
        refine one_ready (i := 4) (by kernel_rfl) ?_
        refine step_call rfl #[.agg (encF sa.getLsbD), .agg (encF sb.getLsbD)] (.tuple #[.agg (encF q.getLsbD), .agg (encF r.getLsbD)]) (enter34 _) (by kernel_rfl) (divide_to sa sb q r H0.out _ HQ HR) ?_
        intro w1 B
        have C := C.trans (B.mono C.size)
        have V := V.below B
        have G := G.below B
        have H := H.below B
        refine ⟨V, ?_⟩
        refine takeMove 5 (some 54) (.tmp 59) (.tuple #[.agg (encF q.getLsbD), .agg (encF r.getLsbD)]) rfl rfl rfl (by kernel_rfl) (by kernel_rfl) (by kernel_rfl) (by kernel_rfl) (by kernel_rfl) CutQ.quiet V ?_
        refine takeExtract 6 (some 60) (.tmp 54) 0 #[.agg (encF q.getLsbD), .agg (encF r.getLsbD)] (.agg (encF q.getLsbD)) rfl rfl rfl (by kernel_rfl) (by kernel_rfl) (by kernel_rfl) (by kernel_rfl) (by kernel_rfl) (by kernel_rfl) CutQ.quiet V ?_
        refine takeExtract 7 (some 61) (.tmp 54) 1 #[.agg (encF q.getLsbD), .agg (encF r.getLsbD)] (.agg (encF r.getLsbD)) rfl rfl rfl (by kernel_rfl) (by kernel_rfl) (by kernel_rfl) (by kernel_rfl) (by kernel_rfl) (by kernel_rfl) CutQ.quiet V ?_
        refine one_ready (i := 10) (by kernel_rfl) ?_
        refine step_store44 rfl rfl rfl (.tmp 12) (.tmp 60) rfl g q.getLsbD (by kernel_rfl) (by kernel_rfl) noF G ?_
        intro w1 G B
        have C := B.under C C.size (by omega)
        have V := V.but B o1 o2 og
        have H := H.but B (Ne.symm ne)
        refine ⟨V, ?_⟩
        refine one_ready (i := 11) (by kernel_rfl) ?_
        refine step_store44 rfl rfl rfl (.tmp 13) (.tmp 61) rfl h r.getLsbD (by kernel_rfl) (by kernel_rfl) noF H ?_
        intro w1 H B
        have C := B.under C C.size (by omega)
        have V := V.but B o1 o2 oh
        have G := G.but B ne
        refine ⟨V, ?_⟩
        exact wpAnyH_done (by kernel_rfl) ⟨g, h, ⟨V, G, H, C, og, oh, ne⟩, rfl, by kernel_rfl⟩ _
  intro g h w9 K
  clear X Y O C
  simp only [Act.put, List.setIfInBounds_toArray, List.set_cons_zero, List.set_cons_succ]
  have hca := K.v.a.cell 63 (by omega)
  have hcb := K.v.b.cell 63 (by omega)
  rw [hsa] at hca
  rw [hsb] at hcb
  have o4 := K.og
  have o5 := K.oh
  go_wp2_with (first | (refine wpList_load44 rfl _ rfl g rfl q.getLsbD K.q ?_; refine wpList_store44 rfl _ _ rfl go q.getLsbD rfl rfl noF K.v.o ?_; intro w10 T10 B10; refine Hid.out ?_))
  have G10 := K.q.but B10 (by omega)
  have R10 := K.r.but B10 (by omega)
  have C10 := B10.under K.c K.c.size o3
  have hca := (K.v.a.but B10 (by omega)).cell 63 (by omega)
  have hcb := (K.v.b.but B10 (by omega)).cell 63 (by omega)
  have A10 := K.v.a.but B10 (by omega)
  rw [hsa] at hca
  rw [hsb] at hcb
  clear B10 K
  refine Lib.hid ?_
  go_wp2_with (first | (refine wpList_load44 rfl _ rfl h rfl r.getLsbD R10 ?_; refine wpList_store44 rfl _ _ rfl go r.getLsbD rfl rfl q.getLsbD T10 ?_; intro w13 T13 B13; refine Hid.out ?_))
  have R13 := R10.but B13 (by omega)
  have hca := (A10.but B13 (by omega)).cell 63 (by omega)
  have C13 := B13.under C10 C10.size o3
  rw [hsa] at hca
  clear R10 A10 T10 C10 B13
  refine Lib.hid ?_
  go_wp2_with (first | (refine wpList_load44 rfl _ rfl h rfl r.getLsbD R13 ?_) | (go_at_call 36; refine (neg_to r nr _ HNR).mono ?_; rintro e w14 ⟨rfl, B14⟩; refine Hid.out ?_))
  have O14 := T13.below B14
  have C14 := C13.trans (B14.mono C13.size)
  clear hca R13 T13 C13 B14
  refine Lib.hid ?_
  go_wp2_with (first | (refine wpList_store44 rfl _ _ rfl go nr.getLsbD rfl rfl r.getLsbD O14 ?_; intro w15 T15 B15; refine Hid.out ?_))
  have C15 := B15.under C14 C14.size o3
  refine Lib.hid ?_
  go_wp2_with (first | (refine wpList_load44 rfl _ rfl go rfl nr.getLsbD T15 ?_) | (go_at_call 39; refine (toInt_to nr v _ HV).mono ?_; rintro e w20 ⟨rfl, B20⟩))
  go_ret2
  exact ⟨rfl, C15.trans (B20.mono C15.size)⟩

end Go.Proofs.YtgdchlgepgbhhaaDoor
