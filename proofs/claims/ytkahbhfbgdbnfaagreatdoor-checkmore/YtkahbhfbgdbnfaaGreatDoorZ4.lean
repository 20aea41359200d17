/- CONTRACTS: number, varOrCall of the reader. Nobody but the reader's own block has turned. -/
import Derived.Test.YtkahbhfbgdbnfaaGreatDoorZ3
import Derived.Test.YtkahbhfbgdbnfaaGreatDoorZ2
set_option maxRecDepth 100000
set_option maxHeartbeats 1000000
namespace Go.Proofs.YtkahbhfbgdbnfaaGreatDoor
open Go.Lib (hid)
open Go.RowKit
theorem number_any (E:Env) (w:World) (i d:Nat) (h:RD E w i d) (hk:(E.T i).kind=3):
 Calls Tryz.prog 219 #[.pointer (some ⟨E.rb,0,none⟩)] w (Q E w d (VN E w.heap.size) (.ok (.mk 15 [] [] (numN (E.T i).text) i []) (i+1))):=by
 have hiz:=lt_kind h.sent (by decide) hk
 have HN:=hid (h.nums i hk)
 have htl:=h.text i
 clear hk
 have H:=hid h
 have hr1:=h.lt
 have hf0:=zxw
 have hf1:=zxn
 have hf2:=zq7
 have S0:=hid (ST.below (ST.refl h) (b1 w (.cells #[.pointer none] 25)))
 have P0:=hid (PtrAt.new w none)
 have l0:=P0.out.lt
 clear h
 go_enter Tryz.func219,Tryz.ntmps219
 go_wp2_with fail
 generalize w.alloc (.cells #[.pointer none] 25)=wa at*
 refine (zk3 E _ i d S0.out.1).mono ?_
 rintro e w1 ⟨rfl,hb⟩
 have P0':=hid (P0.out.below hb)
 clear P0
 have P0:=P0'
 clear P0'
 have S1:=hid (S0.out.below hb)
 have z1:=hb.size
 clear hb
 unfold tokV
 go_wp2_with fail
 have hsz:(⟨(E.T i).text.toArray⟩:ByteArray).size≤281474976710656:=by show (E.T i).text.toArray.size≤_;simp;omega
 refine (zvn _ _ _ S1.out.1.good.rng hsz (hid rfl)).mono ?_
 rintro e w2 ⟨rfl,hb⟩
 have P0':=hid (P0.out.below hb)
 clear P0
 have P0:=P0'
 clear P0'
 have S2:=hid (S1.out.below hb)
 have z2:=hb.size
 clear hb
 rw [HN.out]
 generalize (z1w ⟨(E.T i).text.toArray⟩).2=pe
 go_wp2_with fail
 refine (z1c E _ i d 15 _ S2.out.1 hiz).mono ?_
 rintro e w3 ⟨v3,rfl,⟨nb3,hv,hn⟩,hst⟩
 obtain rfl:=hv
 unfold zzd
 have P0':=hid (P0.out.kept hst.2 (by omega))
 clear P0
 have P0:=P0'
 clear P0'
 have N3:=hid (hn.from (B:=w.heap.size) (by omega))
 clear hn
 have S3:=hid (S2.out.trans hst)
 have z3:=hst.2.size
 clear hst
 have q0:=P0.out.c0
 have f0:=P0.out.f0
 go_wp2_with fail
 refine bodyPost_ret (v:=zzd nb3) (by unfold zzd;simp [results,Tryz.results219,go_sem,q0]) rfl ?_
 exact zz5 H.out S3.out N3.out (by omega) _
theorem z2j (E:Env) (w:World) (i d:Nat) (n:Nat) (ih:IH E n) (r:Res Tree) (h:RD E w i d) (hr:Hid (runW E.T (P E.T n) (zje d) i=some r)):
 Calls Tryz.prog 220 #[.pointer (some ⟨E.rb,0,none⟩)] w (Q E w d (VN E w.heap.size) r):=by
 have H:=hid h
 have hr1:=h.lt
 have hf0:=zxw
 have hf1:=zxn
 have hf2:=zq7
 have S0:=hid (ST.below (ST.refl h) (b1 w (.cells #[.pointer none] 25)))
 have P0:=hid (PtrAt.new w none)
 have l0:=P0.out.lt
 clear h
 go_enter Tryz.func220,Tryz.ntmps220
 go_wp2_with fail
 generalize w.alloc (.cells #[.pointer none] 25)=wa at*
 rcases zzc hr.out with ⟨j1,er,hx,hq⟩|⟨a1,j1,hx,hq⟩
 ·exact (zki E _ i d (P E.T n) _ S0.out.1 hx).mono fun e w' h=>by obtain ⟨rfl,hg⟩:=h;exact ⟨rfl,by rw [hq];exact ⟨rfl,S0.out.2.trans hg⟩⟩
 refine (zki E _ i d (P E.T n) _ S0.out.1 hx).mono ?_
 rintro e w1 ⟨v1,rfl,⟨hv,htx⟩,hst⟩
 obtain rfl:=hv
 unfold tokV
 have P0':=hid (P0.out.kept hst.2 (by omega))
 clear P0
 have P0:=P0'
 clear P0'
 have X1:=hid htx
 clear htx
 have S1:=hid (S0.out.trans hst)
 have z1:=hst.2.size
 clear hst
 have HR1:=hid hq
 clear hx hq
 have T:=hid (TokAt.new w1 (E.T a1.1).kind ⟨(E.T a1.1).text.toArray⟩ (E.pl a1.1))
 have P0':=hid (P0.out.below (b1 w1 (.cells #[.int .i64 (E.T a1.1).kind,.string ⟨(E.T a1.1).text.toArray⟩,.int .i64 (E.pl a1.1)] 108)))
 clear P0
 have P0:=P0'
 clear P0'
 have S2:=hid (S1.out.below (b1 w1 (.cells #[.int .i64 (E.T a1.1).kind,.string ⟨(E.T a1.1).text.toArray⟩,.int .i64 (E.pl a1.1)] 108)))
 have z2:=(b1 w1 (.cells #[.int .i64 (E.T a1.1).kind,.string ⟨(E.T a1.1).text.toArray⟩,.int .i64 (E.pl a1.1)] 108)).size
 have y2:w1.heap.size<(w1.alloc (.cells #[.int .i64 (E.T a1.1).kind,.string ⟨(E.T a1.1).text.toArray⟩,.int .i64 (E.pl a1.1)] 108)).heap.size:=by simp
 go_wp2_with fail
 generalize w1.alloc (.cells #[.int .i64 (E.T a1.1).kind,.string ⟨(E.T a1.1).text.toArray⟩,.int .i64 (E.pl a1.1)] 108)=w2 at*
 by_cases ht:(E.T j1).text=cLB
 ·skip
  have h0:=zq9 HR1.out ht
  have HR3:=hid h0
  clear h0
  refine (is_yes E _ j1 d ⟨#[40]⟩ S2.out.1 ht).mono ?_
  rintro e w4 ⟨rfl,hb⟩
  have P0':=hid (P0.out.below hb)
  clear P0
  have P0:=P0'
  clear P0'
  have T':=hid (T.out.below hb)
  clear T
  have T:=T'
  clear T'
  have S4:=hid (S2.out.below hb)
  have z4:=hb.size
  clear hb
  clear ht
  go_wp2_with fail
  have c1:=T.out.c1
  have c2:=T.out.c2
  have lT:=T.out.lt
  have lP:=P0.out.lt
  rcases zzc HR3.out with ⟨jz,er,hx,hq⟩|⟨az,jz,hx,hq⟩
  ·have HX:=hid hx
   have HQ:=hid hq
   clear hx hq
   go_region_dies
   all_goals
    refine (z3j E _ j1 d n ih _ (S4.out.1.below (Below.refl _ _).drew) HX).mono ?_
    rintro e w2 ⟨rfl,hg⟩
    exact ⟨rfl,by rw [HQ.out];exact ⟨rfl,S4.out.2.trans ((zqe (Below.refl _ _).drew).trans hg)⟩⟩
  have HX:=hid hx
  have HQ:Hid (r= .ok (.mk 21 a1.2 [] 0 a1.1 az) jz):=zz7 hq
  clear hx hq
  go_region_held3 (fun w'=>w'.cell? ⟨w1.heap.size,1,none⟩=some (.string ⟨(E.T a1.1).text.toArray⟩)∧w'.cell? ⟨w1.heap.size,2,none⟩=some (.int .i64 (E.pl a1.1))) (first|exact ⟨c1,c2⟩|exact ⟨c1',c2'⟩|exact ⟨c1'',c2''⟩|(refine ⟨?_,?_⟩<;>(rw [World.cell?_setCell_other _ _ _ _ (fun h=>by injection h with h1;omega)];assumption))) (first|(go_at_call 239;refine (z3j E _ j1 d n ih _ (S4.out.1.below (Below.refl _ _).drew) HX).mono ?_;rintro e w8 ⟨v8,rfl,⟨hkl,hk⟩,hst⟩;have c1':=(far hst.2 lT (by omega) 1).trans c1;have c2':=(far hst.2 lT (by omega) 2).trans c2;obtain ⟨Ak,ck,hvk,-,-⟩:=hk.slice;subst hvk;have HK:=hid hk;have HST:=hid hst;clear hst hk)|(go_at_call 55;refine (zzz _ _ _ _ _ _ _ _ _).mono ?_;rintro e w9 ⟨rfl,hb3,hrow⟩;have c1'':=(hb3.cell (p:=⟨w1.heap.size,1,none⟩) (Nat.lt_of_lt_of_le lT HST.out.2.size)).trans c1';have c2'':=(hb3.cell (p:=⟨w1.heap.size,2,none⟩) (Nat.lt_of_lt_of_le lT HST.out.2.size)).trans c2';have HP3:=((P0.out.below (Below.refl _ _).drew).kept HST.out.2 (by omega)).below hb3;have q3:=HP3.c0;have f3:=HP3.f0;have HB3:=hid hb3;have HROW:=hid hrow;clear hrow hb3 HP3;unfold zzd))
  go_wp2_with fail
  refine bodyPost_ret (v:=zzd w8.heap.size) (by unfold zzd;simp [results,Tryz.results220,go_sem,q3]) rfl ?_
  rw [HQ.out]
  have hz8:w4.heap.size≤w8.heap.size:=HST.out.2.size
  have hrow:=HROW.out
  rw [X1.out] at hrow
  exact zqm H.out ((S4.out.below (Below.refl _ _).drew).trans HST.out) (HK.out.from (B:=w.heap.size) (by show w.heap.size<w4.heap.size;omega)) (Nat.le_refl _) HB3.out hrow (by omega) (by omega) _
 ·skip
  have HR5:=hid (zk6 HR1.out ht)
  refine (is_no E _ j1 d ⟨#[40]⟩ S2.out.1 ht).mono ?_
  rintro e w6 ⟨rfl,hb⟩
  have P0':=hid (P0.out.below hb)
  clear P0
  have P0:=P0'
  clear P0'
  have T':=hid (T.out.below hb)
  clear T
  have T:=T'
  clear T'
  have S6:=hid (S2.out.below hb)
  have z6:=hb.size
  clear hb
  clear ht
  have HQ:Hid (r= .ok (.mk 18 a1.2 [] 0 a1.1 []) j1):=(Option.some.inj HR5.out).symm
  have T0:=T.out.c0
  have T1:=T.out.c1
  have T2:=T.out.c2
  go_wp2_with fail
  refine (zzz _ _ _ _ _ _ _ _ _).mono ?_
  rintro e wz ⟨rfl,hb9,hrow⟩
  have P9:=P0.out.below hb9
  have q0:=P9.c0
  have f0:=P9.f0
  have HB9:=hid hb9
  have HROW:=hid hrow
  clear hb9 hrow P9
  unfold zzd
  go_wp2_with fail
  refine bodyPost_ret (v:=zzd w6.heap.size) (by unfold zzd;simp [results,Tryz.results220,go_sem,q0]) rfl ?_
  rw [HQ.out]
  have hrow:=HROW.out
  rw [X1.out] at hrow
  exact zqm H.out S6.out (KidsIn.nil (fun x=>w1.heap.size<x) E.pl w6) (by omega) HB9.out hrow (by omega) (by omega) _
theorem zjq (E:Env) (w:World) (i d:Nat) (n:Nat) (ih:IH E n) (r:Res Tree) (h:RD E w i d) (hr:Hid (runW E.T (P E.T n) (zvm d) i=some r)):
 Calls Tryz.prog 200 #[.pointer (some ⟨E.rb,0,none⟩)] w (Q E w d (VN E w.heap.size) r):=by
 have H:=hid h
 have hr1:=h.lt
 have hf0:=zxw
 have hf1:=zxn
 have hf2:=zq7
 have S0:=hid (ST.below (ST.refl h) (b1 w (.cells #[.pointer none] 25)))
 have P0:=hid (PtrAt.new w none)
 have l0:=P0.out.lt
 clear h
 go_enter Tryz.func200,Tryz.ntmps200
 go_wp2_with fail
 generalize w.alloc (.cells #[.pointer none] 25)=wa at*
 refine (zk3 E _ i d S0.out.1).mono ?_
 rintro e w1 ⟨rfl,hb⟩
 have P0':=hid (P0.out.below hb)
 clear P0
 have P0:=P0'
 clear P0'
 have S1:=hid (S0.out.below hb)
 have z1:=hb.size
 clear hb
 unfold tokV
 have T:=hid (TokAt.new w1 (E.T i).kind ⟨(E.T i).text.toArray⟩ (E.pl i))
 have P0':=hid (P0.out.below (b1 w1 (.cells #[.int .i64 (E.T i).kind,.string ⟨(E.T i).text.toArray⟩,.int .i64 (E.pl i)] 108)))
 clear P0
 have P0:=P0'
 clear P0'
 have S2:=hid (S1.out.below (b1 w1 (.cells #[.int .i64 (E.T i).kind,.string ⟨(E.T i).text.toArray⟩,.int .i64 (E.pl i)] 108)))
 have z2:=(b1 w1 (.cells #[.int .i64 (E.T i).kind,.string ⟨(E.T i).text.toArray⟩,.int .i64 (E.pl i)] 108)).size
 have y2:w1.heap.size<(w1.alloc (.cells #[.int .i64 (E.T i).kind,.string ⟨(E.T i).text.toArray⟩,.int .i64 (E.pl i)] 108)).heap.size:=by simp
 have HR0:=hid (zvc hr.out)
 have T0:=T.out.c0
 have T1:=T.out.c1
 by_cases ht:(E.T i).kind=3
 ·skip
  have HQ:=hid (zz7 (zq4 (zkc HR0.out ht)))
  have HT:=hid ht
  have b3:(((E.T i).kind:Int)==3)=true:=by rw [ht];rfl
  clear ht
  go_wp2_with fail
  generalize w1.alloc (.cells #[.int .i64 (E.T i).kind,.string ⟨(E.T i).text.toArray⟩,.int .i64 (E.pl i)] 108)=w2 at*
  refine (number_any E _ i d S2.out.1 HT.out).mono ?_
  rintro e w3 ⟨v3,rfl,⟨nb3,hv,hn⟩,hst⟩
  obtain rfl:=hv
  unfold zzd
  have P0':=hid (P0.out.kept hst.2 (by omega))
  clear P0
  have P0:=P0'
  clear P0'
  have T':=hid (T.out.kept hst.2 (by omega))
  clear T
  have T:=T'
  clear T'
  have N3:=hid (hn.from (B:=w.heap.size) (by omega))
  clear hn
  have S3:=hid (S2.out.trans hst)
  have z3:=hst.2.size
  clear hst
  have q0:=P0.out.c0
  have f0:=P0.out.f0
  go_wp2_with fail
  refine bodyPost_ret (v:=zzd nb3) (by unfold zzd;simp [results,Tryz.results200,go_sem,q0]) rfl ?_
  rw [HQ.out]
  exact zz5 H.out S3.out N3.out (by omega) _
 ·skip
  have b3:(((E.T i).kind:Int)==3)=false:=by simp;omega
  have HR1:=hid (zqq HR0.out ht)
  clear ht
  by_cases ht:(E.T i).kind=1
  ·skip
   have HR2:=hid (zkc HR1.out ht)
   have bb1:(((E.T i).kind:Int)==1)=true:=by rw [ht];rfl
   clear ht
   go_wp2_with fail
   generalize w1.alloc (.cells #[.int .i64 (E.T i).kind,.string ⟨(E.T i).text.toArray⟩,.int .i64 (E.pl i)] 108)=w2 at*
   rcases zxr HR2.out with ⟨j4,er,hx,hq⟩|⟨a4,j4,hx,hq⟩
   ·exact (z2j E _ i d n ih _ S2.out.1 hx).mono fun e w' h=>by obtain ⟨rfl,hg⟩:=h;exact ⟨rfl,by rw [hq];exact ⟨rfl,S2.out.2.trans hg⟩⟩
   refine (z2j E _ i d n ih _ S2.out.1 hx).mono ?_
   rintro e w4 ⟨v4,rfl,⟨nb4,hv,hn⟩,hst⟩
   obtain rfl:=hv
   unfold zzd
   have P0':=hid (P0.out.kept hst.2 (by omega))
   clear P0
   have P0:=P0'
   clear P0'
   have T':=hid (T.out.kept hst.2 (by omega))
   clear T
   have T:=T'
   clear T'
   have N4:=hid (hn.from (B:=w.heap.size) (by omega))
   clear hn
   have S4:=hid (S2.out.trans hst)
   have z4:=hst.2.size
   clear hst
   have HQ:=hid hq
   clear hx hq
   have q0:=P0.out.c0
   have f0:=P0.out.f0
   go_wp2_with fail
   refine bodyPost_ret (v:=zzd nb4) (by unfold zzd;simp [results,Tryz.results200,go_sem,q0]) rfl ?_
   rw [HQ.out]
   exact zz5 H.out S4.out N4.out (by omega) _
  ·skip
   have bb1:(((E.T i).kind:Int)==1)=false:=by simp;omega
   have HR2:=hid (zqq HR1.out ht)
   clear ht
   by_cases ht:(E.T i).text=kTrue
   ·skip
    have HR22:=hid (zkc HR2.out ht)
    have hiz:=zqn H.out.sent (by decide) ht
    have ty:((E.T i).text== [116,114,117,101])=true:=by rw [ht];rfl
    clear ht
    have HQ:=hid (zz7 (zq4 HR22.out))
    go_wp2_with fail
    generalize w1.alloc (.cells #[.int .i64 (E.T i).kind,.string ⟨(E.T i).text.toArray⟩,.int .i64 (E.pl i)] 108)=w2 at*
    refine (z1c E _ i d 16 1 S2.out.1 hiz).mono ?_
    rintro e w5 ⟨v5,rfl,⟨nb5,hv,hn⟩,hst⟩
    obtain rfl:=hv
    unfold zzd
    have P0':=hid (P0.out.kept hst.2 (by omega))
    clear P0
    have P0:=P0'
    clear P0'
    have T':=hid (T.out.kept hst.2 (by omega))
    clear T
    have T:=T'
    clear T'
    have N5:=hid (hn.from (B:=w.heap.size) (by omega))
    clear hn
    have S5:=hid (S2.out.trans hst)
    have z5:=hst.2.size
    clear hst
    have q0:=P0.out.c0
    have f0:=P0.out.f0
    go_wp2_with fail
    refine bodyPost_ret (v:=zzd nb5) (by unfold zzd;simp [results,Tryz.results200,go_sem,q0]) rfl ?_
    rw [HQ.out]
    exact zz5 H.out S5.out N5.out (by omega) _
   ·skip
    have HR3:=hid (zqq HR2.out ht)
    have nt2:((E.T i).text== [116,114,117,101])=false:=by simpa using ht
    clear ht
    by_cases ht:(E.T i).text=z1s
    ·skip
     have HR23:=hid (zkc HR3.out ht)
     have hiz:=zqn H.out.sent (by decide) ht
     have ty:((E.T i).text== [102,97,108,115,101])=true:=by rw [ht];rfl
     clear ht
     have HQ:=hid (zz7 (zq4 HR23.out))
     go_wp2_with fail
     generalize w1.alloc (.cells #[.int .i64 (E.T i).kind,.string ⟨(E.T i).text.toArray⟩,.int .i64 (E.pl i)] 108)=w2 at*
     refine (z1c E _ i d 16 0 S2.out.1 hiz).mono ?_
     rintro e w6 ⟨v6,rfl,⟨nb6,hv,hn⟩,hst⟩
     obtain rfl:=hv
     unfold zzd
     have P0':=hid (P0.out.kept hst.2 (by omega))
     clear P0
     have P0:=P0'
     clear P0'
     have T':=hid (T.out.kept hst.2 (by omega))
     clear T
     have T:=T'
     clear T'
     have N6:=hid (hn.from (B:=w.heap.size) (by omega))
     clear hn
     have S6:=hid (S2.out.trans hst)
     have z6:=hst.2.size
     clear hst
     have q0:=P0.out.c0
     have f0:=P0.out.f0
     go_wp2_with fail
     refine bodyPost_ret (v:=zzd nb6) (by unfold zzd;simp [results,Tryz.results200,go_sem,q0]) rfl ?_
     rw [HQ.out]
     exact zz5 H.out S6.out N6.out (by omega) _
    ·skip
     have HR4:=hid (zqq HR3.out ht)
     have nt3:((E.T i).text== [102,97,108,115,101])=false:=by simpa using ht
     clear ht
     by_cases ht:(E.T i).text=kNil
     ·skip
      have HR24:=hid (zkc HR4.out ht)
      have hiz:=zqn H.out.sent (by decide) ht
      have ty:((E.T i).text== [110,105,108])=true:=by rw [ht];rfl
      clear ht
      have HQ:=hid (zz7 (zq4 HR24.out))
      go_wp2_with fail
      generalize w1.alloc (.cells #[.int .i64 (E.T i).kind,.string ⟨(E.T i).text.toArray⟩,.int .i64 (E.pl i)] 108)=w2 at*
      refine (z1c E _ i d 17 0 S2.out.1 hiz).mono ?_
      rintro e w7 ⟨v7,rfl,⟨nb7,hv,hn⟩,hst⟩
      obtain rfl:=hv
      unfold zzd
      have P0':=hid (P0.out.kept hst.2 (by omega))
      clear P0
      have P0:=P0'
      clear P0'
      have T':=hid (T.out.kept hst.2 (by omega))
      clear T
      have T:=T'
      clear T'
      have N7:=hid (hn.from (B:=w.heap.size) (by omega))
      clear hn
      have S7:=hid (S2.out.trans hst)
      have z7:=hst.2.size
      clear hst
      have q0:=P0.out.c0
      have f0:=P0.out.f0
      go_wp2_with fail
      refine bodyPost_ret (v:=zzd nb7) (by unfold zzd;simp [results,Tryz.results200,go_sem,q0]) rfl ?_
      rw [HQ.out]
      exact zz5 H.out S7.out N7.out (by omega) _
     ·skip
      have HR5:=hid (zqq HR4.out ht)
      have nt4:((E.T i).text== [110,105,108])=false:=by simpa using ht
      clear ht
      by_cases ht:(E.T i).text=kNew
      ·skip
       have HR25:=hid (zkc HR5.out ht)
       have hiz:=zqn H.out.sent (by decide) ht
       have ty:((E.T i).text== [110,101,119])=true:=by rw [ht];rfl
       clear ht
       go_wp2_with fail
       generalize w1.alloc (.cells #[.int .i64 (E.T i).kind,.string ⟨(E.T i).text.toArray⟩,.int .i64 (E.pl i)] 108)=w2 at*
       rcases zxr HR25.out with ⟨j8,er,hx,hq⟩|⟨a8,j8,hx,hq⟩
       ·exact (creation_any E _ i d (P E.T n) _ S2.out.1 hx).mono fun e w' h=>by obtain ⟨rfl,hg⟩:=h;exact ⟨rfl,by rw [hq];exact ⟨rfl,S2.out.2.trans hg⟩⟩
       refine (creation_any E _ i d (P E.T n) _ S2.out.1 hx).mono ?_
       rintro e w8 ⟨v8,rfl,⟨nb8,hv,hn⟩,hst⟩
       obtain rfl:=hv
       unfold zzd
       have P0':=hid (P0.out.kept hst.2 (by omega))
       clear P0
       have P0:=P0'
       clear P0'
       have T':=hid (T.out.kept hst.2 (by omega))
       clear T
       have T:=T'
       clear T'
       have N8:=hid (hn.from (B:=w.heap.size) (by omega))
       clear hn
       have S8:=hid (S2.out.trans hst)
       have z8:=hst.2.size
       clear hst
       have HQ:=hid hq
       clear hx hq
       have q0:=P0.out.c0
       have f0:=P0.out.f0
       go_wp2_with fail
       refine bodyPost_ret (v:=zzd nb8) (by unfold zzd;simp [results,Tryz.results200,go_sem,q0]) rfl ?_
       rw [HQ.out]
       exact zz5 H.out S8.out N8.out (by omega) _
      ·skip
       have HR6:=hid (zqq HR5.out ht)
       have nt5:((E.T i).text== [110,101,119])=false:=by simpa using ht
       clear ht
       by_cases ht:(E.T i).text=z1n
       ·skip
        have HR26:=hid (zkc HR6.out ht)
        have hiz:=zqn H.out.sent (by decide) ht
        have ty:((E.T i).text== [114,101,97,100])=true:=by rw [ht];rfl
        clear ht
        go_wp2_with fail
        generalize w1.alloc (.cells #[.int .i64 (E.T i).kind,.string ⟨(E.T i).text.toArray⟩,.int .i64 (E.pl i)] 108)=w2 at*
        rcases zxr HR26.out with ⟨j9,er,hx,hq⟩|⟨a9,j9,hx,hq⟩
        ·exact (input_any E _ i d (P E.T n) _ S2.out.1 hx).mono fun e w' h=>by obtain ⟨rfl,hg⟩:=h;exact ⟨rfl,by rw [hq];exact ⟨rfl,S2.out.2.trans hg⟩⟩
        refine (input_any E _ i d (P E.T n) _ S2.out.1 hx).mono ?_
        rintro e w9 ⟨v9,rfl,⟨nb9,hv,hn⟩,hst⟩
        obtain rfl:=hv
        unfold zzd
        have P0':=hid (P0.out.kept hst.2 (by omega))
        clear P0
        have P0:=P0'
        clear P0'
        have T':=hid (T.out.kept hst.2 (by omega))
        clear T
        have T:=T'
        clear T'
        have N9:=hid (hn.from (B:=w.heap.size) (by omega))
        clear hn
        have S9:=hid (S2.out.trans hst)
        have z9:=hst.2.size
        clear hst
        have HQ:=hid hq
        clear hx hq
        have q0:=P0.out.c0
        have f0:=P0.out.f0
        go_wp2_with fail
        refine bodyPost_ret (v:=zzd nb9) (by unfold zzd;simp [results,Tryz.results200,go_sem,q0]) rfl ?_
        rw [HQ.out]
        exact zz5 H.out S9.out N9.out (by omega) _
       ·skip
        have HR7:=hid (zqq HR6.out ht)
        have nt6:((E.T i).text== [114,101,97,100])=false:=by simpa using ht
        clear ht
        by_cases ht:(E.T i).text=cLB
        ·skip
         have HR27:=hid (zkc HR7.out ht)
         have hiz:=zqn H.out.sent (by decide) ht
         have ty:((E.T i).text== [40])=true:=by rw [ht];rfl
         clear ht
         go_wp2_with fail
         generalize w1.alloc (.cells #[.int .i64 (E.T i).kind,.string ⟨(E.T i).text.toArray⟩,.int .i64 (E.pl i)] 108)=w2 at*
         rcases zxr HR27.out with ⟨j10,er,hx,hq⟩|⟨a10,j10,hx,hq⟩
         ·exact (zvg E _ i d n ih _ S2.out.1 hx).mono fun e w' h=>by obtain ⟨rfl,hg⟩:=h;exact ⟨rfl,by rw [hq];exact ⟨rfl,S2.out.2.trans hg⟩⟩
         refine (zvg E _ i d n ih _ S2.out.1 hx).mono ?_
         rintro e w10 ⟨v10,rfl,⟨nb10,hv,hn⟩,hst⟩
         obtain rfl:=hv
         unfold zzd
         have P0':=hid (P0.out.kept hst.2 (by omega))
         clear P0
         have P0:=P0'
         clear P0'
         have T':=hid (T.out.kept hst.2 (by omega))
         clear T
         have T:=T'
         clear T'
         have N10:=hid (hn.from (B:=w.heap.size) (by omega))
         clear hn
         have S10:=hid (S2.out.trans hst)
         have z10:=hst.2.size
         clear hst
         have HQ:=hid hq
         clear hx hq
         have q0:=P0.out.c0
         have f0:=P0.out.f0
         go_wp2_with fail
         refine bodyPost_ret (v:=zzd nb10) (by unfold zzd;simp [results,Tryz.results200,go_sem,q0]) rfl ?_
         rw [HQ.out]
         exact zz5 H.out S10.out N10.out (by omega) _
        ·skip
         have HR8:=hid (zqq HR7.out ht)
         have nt7:((E.T i).text== [40])=false:=by simpa using ht
         clear ht
         have HQ:=hid (run_fail HR8.out)
         go_wp2_with fail
         generalize w1.alloc (.cells #[.int .i64 (E.T i).kind,.string ⟨(E.T i).text.toArray⟩,.int .i64 (E.pl i)] 108)=w2 at*
         refine (z1h E _ i d S2.out.1).mono ?_
         rintro e w11 ⟨rfl,hb⟩
         have P0':=hid (P0.out.below hb)
         clear P0
         have P0:=P0'
         clear P0'
         have T':=hid (T.out.below hb)
         clear T
         have T:=T'
         clear T'
         have S11:=hid (S2.out.below hb)
         have z11:=hb.size
         clear hb
         go_wp2_with fail
         refine ⟨rfl,?_⟩
         rw [HQ.out]
         exact ⟨rfl,S11.out.2⟩
theorem kids_lit1g {ok ok':Nat→Prop} {pl:Nat→Nat} {w:World} {b:Nat} {t:Tree} (h:NodeAt ok pl w b t) (hok:∀ y,ok y→y<w.heap.size→ok' y) (hw:ok' w.heap.size):KidsIn ok' pl (w.alloc (.cells #[.pointer (some ⟨b,0,none⟩)] 25)) (.slice (some ⟨w.heap.size,0,none⟩) 1 1) 1 [t]:=by
 refine ⟨[b],World.ownsRow_lit w #[.pointer (some ⟨b,0,none⟩)] 1 (Nat.zero_le _) (by simp only [maxLen];omega) rfl,rfl,rfl,?_,?_⟩
 ·intro g hg;have h9:w.heap.size=g:=Option.some.inj hg;subst h9;exact hw
 ·intro k x t' hx ht
  rcases k with _|k
  ·obtain rfl:=Option.some.inj hx
   obtain rfl:=Option.some.inj ht
   exact h.keep (Keeps.below (b1 w _)) fun y hy hl=>⟨hok y hy hl,fun e=>by have h9:w.heap.size=y:=Option.some.inj e;omega⟩
  ·simp at hx
theorem kids_lit2g {ok ok':Nat→Prop} {pl:Nat→Nat} {w:World} {b c:Nat} {t u:Tree} (h:NodeAt ok pl w b t) (h':NodeAt ok pl w c u) (hok:∀ y,ok y→y<w.heap.size→ok' y) (hw:ok' w.heap.size):KidsIn ok' pl (w.alloc (.cells #[.pointer (some ⟨b,0,none⟩),.pointer (some ⟨c,0,none⟩)] 25)) (.slice (some ⟨w.heap.size,0,none⟩) 2 2) 2 [t,u]:=by
 refine ⟨[b,c],World.ownsRow_lit w #[.pointer (some ⟨b,0,none⟩),.pointer (some ⟨c,0,none⟩)] 2 (Nat.zero_le _) (by simp only [maxLen];omega) rfl,rfl,rfl,?_,?_⟩
 ·intro g hg;have h9:w.heap.size=g:=Option.some.inj hg;subst h9;exact hw
 ·intro k x t' hx ht
  rcases k with _|k
  ·obtain rfl:=Option.some.inj hx
   obtain rfl:=Option.some.inj ht
   exact h.keep (Keeps.below (b1 w _)) fun y hy hl=>⟨hok y hy hl,fun e=>by have h9:w.heap.size=y:=Option.some.inj e;omega⟩
  ·rcases k with _|k
   ·obtain rfl:=Option.some.inj hx
    obtain rfl:=Option.some.inj ht
    exact h'.keep (Keeps.below (b1 w _)) fun y hy hl=>⟨hok y hy hl,fun e=>by have h9:w.heap.size=y:=Option.some.inj e;omega⟩
   ·simp at hx
def MadeQ (E:Env) (w:World) (ok:Nat→Prop) (t:Tree) (e:Ending) (w':World):Prop:=
 ∃ b,e= .returned (zzd b)∧Below w.heap.size w w'∧NodeAt (fun y=>ok y∨w.heap.size≤y) E.pl w' b t
theorem b3 (w:World) (o o' o'':Obj):Below w.heap.size w (((w.alloc o).alloc o').alloc o''):=(b2 w o o').trans ((b1 _ o'').mono (by simp;omega))
theorem fieldOf_any (E:Env) (w:World) (ok:Nat→Prop) (b:Nat) (t:Tree) (p:Nat×List UInt8) (h:NodeAt ok E.pl w b t) (hp:Hid ((E.T p.1).text=p.2)):
 Calls Tryz.prog 225 #[.agg #[.pointer (some ⟨b,0,none⟩)],.agg #[.int .i64 (E.T p.1).kind,.string ⟨(E.T p.1).text.toArray⟩,.int .i64 (E.pl p.1)]] w (MadeQ E w ok (zqg t (bare p))):=by
 have H:=hid h
 have hb3:=b3 w (.cells #[.pointer (some ⟨b,0,none⟩)] 25) (.cells #[.int .i64 (E.T p.1).kind,.string ⟨(E.T p.1).text.toArray⟩,.int .i64 (E.pl p.1)] 108) (.cells #[.pointer none] 25)
 have hsz:(((w.alloc (.cells #[.pointer (some ⟨b,0,none⟩)] 25)).alloc (.cells #[.int .i64 (E.T p.1).kind,.string ⟨(E.T p.1).text.toArray⟩,.int .i64 (E.pl p.1)] 108)).alloc (.cells #[.pointer none] 25)).heap.size=w.heap.size+3:=by simp
 have P0:=PtrAt.new ((w.alloc (.cells #[.pointer (some ⟨b,0,none⟩)] 25)).alloc (.cells #[.int .i64 (E.T p.1).kind,.string ⟨(E.T p.1).text.toArray⟩,.int .i64 (E.pl p.1)] 108)) none
 rw [show ((w.alloc (.cells #[.pointer (some ⟨b,0,none⟩)] 25)).alloc (.cells #[.int .i64 (E.T p.1).kind,.string ⟨(E.T p.1).text.toArray⟩,.int .i64 (E.pl p.1)] 108)).heap.size=w.heap.size+2 by simp] at P0
 have K0:=kids_lit1g (ok:=fun y=>ok y∧y<w.heap.size) (ok':=fun y=>(ok y∨w.heap.size≤y)∧y≠w.heap.size+2) ((h.weak (ok':=fun y=>ok y∧y<w.heap.size) (fun y hy hl=>⟨hy,hl⟩)).kept (Keeps.below hb3)) (fun y hy _=>⟨.inl hy.1,by omega⟩) ⟨.inr (by rw [hsz];omega),by rw [hsz];omega⟩
 rw [hsz] at K0
 have P1:=P0.below (b1 _ (.cells #[.pointer (some ⟨b,0,none⟩)] 25))
 have hb4:=hb3.trans ((b1 _ (.cells #[.pointer (some ⟨b,0,none⟩)] 25)).mono (by rw [hsz];omega))
 have HB4:=hid hb4
 have HP1:=hid P1
 have HK0:=hid K0
 clear h P0 K0 P1 hb3 hb4 hsz
 go_enter Tryz.func225,Tryz.ntmps225
 go_wp2_with fail
 generalize (((w.alloc (.cells #[.pointer (some ⟨b,0,none⟩)] 25)).alloc (.cells #[.int .i64 (E.T p.1).kind,.string ⟨(E.T p.1).text.toArray⟩,.int .i64 (E.pl p.1)] 108)).alloc (.cells #[.pointer none] 25)).alloc (.cells #[.pointer (some ⟨b,0,none⟩)] 25)=w2 at*
 refine (zzz _ _ _ _ _ _ _ _ _).mono ?_
 rintro e wz ⟨rfl,hb9,hrow⟩
 have P9:=HP1.out.below hb9
 have q0:=P9.c0
 have f0:=P9.f0
 have l2:=HP1.out.lt
 have HB9:=hid hb9
 have HROW:=hid hrow
 clear hb9 hrow P9
 unfold zzd
 go_wp2_with fail
 refine bodyPost_ret (v:=zzd w2.heap.size) (by unfold zzd;simp [results,Tryz.results225,go_sem,q0]) rfl ?_
 have hrow:=HROW.out
 rw [hp.out] at hrow
 refine ⟨_,rfl,(HB4.out.trans (HB9.out.mono HB4.out.size)).setCell (by show w.heap.size≤w.heap.size+2;omega) _,?_⟩
 exact (node_mk (op:=20) (ok':=fun y=>(ok y∨w.heap.size≤y)∧y≠w.heap.size+2) HK0.out HB9.out hrow ⟨.inr (by omega),by omega⟩ (fun _ h _=>h) (by omega)).keep (Keeps.set _ _ _ (fun h=>h.2 rfl)) fun _ h _=>h.1
theorem attach_half (l:Tree) (t:AT) (i:Nat) (r:Tree):zqg l (half t i r)=if t.text=cOr then .mk 26 [] [] 0 i [l,r] else if t.text=cAnd then .mk 25 [] [] 0 i [l,r] else .mk 24 [] [] (zq1 t.text 1 16) i [l,r]:=by
 unfold half
 split
 ·rfl
 ·split<;>rfl
def FRelP (E:Env) (n:Nat) (w:World) (vb d:Nat) (x:Tree) (rs:Res (List Tree)) (_:Value) (wr:World):Prop:=
 ∃ (m i nb:Nat) (ds:List Tree) (r:Res (List Tree)),m≤n∧vb<wr.heap.size∧Hid (P E.T m .fields d i=some r)∧Hid (rs=preR ds r)∧Hid (NodeAt (fun y=>w.heap.size<y∧y≠vb) E.pl wr nb (ds.foldl (fun a b=>zqg a b) x))∧Hid (ST E w wr i d)∧Hid (PtrAt wr w.heap.size none)∧Hid (PtrAt wr vb (some ⟨nb,0,none⟩))
theorem PtrAt.set {w:World} {b:Nat} {x:Option Addr} (h:PtrAt w b x) (y:Option Addr):PtrAt (w.setCell ⟨b,0,none⟩ (.pointer y)) b y:=
 ⟨Nat.lt_of_lt_of_le h.lt (zxf w ⟨b,0,none⟩ (.pointer y)).size,World.cell?_setCell_same _ _ _ h.c0,(World.frozen?_setCell _ _ _ _).trans h.f0⟩
theorem fname_prog {T:Nat→AT} {z:Nat} {c:zxl} {i j:Nat} {p:Nat×List UInt8} (S:Sent T z) (h:runW T c fieldName i=some (.ok p j)):i+1≤j∧j≤z:=z2l (zww S i) h
theorem postfix_any (E:Env) (w:World) (i d:Nat) (n:Nat) (ih:IH E n) (r:Res Tree) (h:RD E w i d) (hr:Hid (runW E.T (P E.T n) (zjv d) i=some r)):
 Calls Tryz.prog 248 #[.pointer (some ⟨E.rb,0,none⟩)] w (Q E w d (VN E w.heap.size) r):=by
 have H:=hid h
 have hr1:=h.lt
 have hf0:=zxw
 have hf1:=zxn
 have hf2:=zq7
 have S0:=hid (ST.below (ST.refl h) (b1 w (.cells #[.pointer none] 25)))
 have P0:=hid (PtrAt.new w none)
 have l0:=P0.out.lt
 clear h
 go_enter Tryz.func248,Tryz.ntmps248
 go_wp2_with fail
 generalize w.alloc (.cells #[.pointer none] 25)=wa at*
 have hz:=H.out.zle
 rcases zzc hr.out with ⟨j1,er,hx,hq⟩|⟨a1,j1,hx,hq⟩
 ·exact (zjq E _ i d n ih _ S0.out.1 hx).mono fun e w' h=>by obtain ⟨rfl,hg⟩:=h;exact ⟨rfl,by rw [hq];exact ⟨rfl,S0.out.2.trans hg⟩⟩
 refine (zjq E _ i d n ih _ S0.out.1 hx).mono ?_
 rintro e w1 ⟨v1,rfl,⟨nb1,hv,hn⟩,hst⟩
 obtain rfl:=hv
 unfold zzd
 have P0':=hid (P0.out.kept hst.2 (by omega))
 clear P0
 have P0:=P0'
 clear P0'
 have N1:=hid (hn.from (B:=w.heap.size) (by omega))
 clear hn
 have S1:=hid (S0.out.trans hst)
 have z1:=hst.2.size
 clear hst
 have HR1:=hid hq
 clear hx hq
 have N0:=hid (N1.out.weak (ok':=fun y=>w.heap.size<y∧y≠w1.heap.size) fun y hy hl=>⟨hy,by omega⟩)
 clear N1
 obtain ⟨rs,hrs,hbad,hok⟩:=zvs HR1.out
 have HRS:=hid hrs
 have HBAD:=hid hbad
 have HOK:=hid hok
 clear hrs hbad hok
 have V:=hid (PtrAt.new w1 (some ⟨nb1,0,none⟩))
 have P0':=hid (P0.out.below (b1 w1 (.cells #[.pointer (some ⟨nb1,0,none⟩)] 25)))
 clear P0
 have P0:=P0'
 clear P0'
 have N0':=hid (N0.out.bl (b1 w1 (.cells #[.pointer (some ⟨nb1,0,none⟩)] 25)))
 clear N0
 have N0:=N0'
 clear N0'
 have S2:=hid (S1.out.below (b1 w1 (.cells #[.pointer (some ⟨nb1,0,none⟩)] 25)))
 have z2:=(b1 w1 (.cells #[.pointer (some ⟨nb1,0,none⟩)] 25)).size
 have y2:w1.heap.size<(w1.alloc (.cells #[.pointer (some ⟨nb1,0,none⟩)] 25)).heap.size:=by simp
 go_wp2_with fail
 generalize w1.alloc (.cells #[.pointer (some ⟨nb1,0,none⟩)] 25)=w2 at*
 go_loopw [7] (fun v wr=>FRelP E n w w1.heap.size d a1 rs v wr) (fun _ wr=>E.z - nx E wr)
 case atStart=>exact ⟨n,j1,nb1,[],rs,Nat.le_refl _,by omega,HRS,hid (z1f rs).symm,N0,S2,P0,V⟩
 case round=>
  obtain ⟨m,iq,nb,ds,rq,hm,hB,HP,HE,N,S,P0,V⟩:=hrel
  obtain ⟨m,rfl,hp⟩:=P_pos HP.out
  have HR:=hid hp
  clear hp HP
  have hiz:=S.out.1.ile
  have hnx:=S.out.1.at_nx
  have HNX:=hid hnx
  clear hnx
  by_cases ht:(E.T iq).text=cDot
  ·skip
   have h0:=zq9 HR.out ht
   have HR3:=hid h0
   clear h0
   go_wp2_with fail
   refine (is_yes E _ iq d ⟨#[46]⟩ S.out.1 ht).mono ?_
   rintro e w4 ⟨rfl,hb⟩
   have P0':=hid (P0.out.below hb)
   clear P0
   have P0:=P0'
   clear P0'
   have V':=hid (V.out.below hb)
   clear V
   have V:=V'
   clear V'
   have N':=hid (N.out.bl hb)
   clear N
   have N:=N'
   clear N'
   have S4:=hid (S.out.below hb)
   have z4:=hb.size
   clear hb
   clear ht
   go_wp2_with fail
   have cv:=V.out.c0
   have lV:=V.out.lt
   have lP:=P0.out.lt
   rcases zzc HR3.out with ⟨jz,er,hx,hq⟩|⟨az,jz,hx,hq⟩
   ·have HX:=hid hx
    have HQ:=hid (HBAD.out jz er (by rw [HE.out,hq];rfl))
    clear hx hq
    go_region_dies
    all_goals
     refine (zkt E _ iq d _ _ (S4.out.1.below (Below.refl _ _).drew) HX).mono ?_
     rintro e w2 ⟨rfl,hg⟩
     exact ⟨rfl,by rw [HQ.out];exact ⟨rfl,S4.out.2.trans ((zqe (Below.refl _ _).drew).trans hg)⟩⟩
   have hpr:=fname_prog S4.out.1.sent hx
   have HX:=hid hx
   have HQQ:=hid hq
   clear hx hq
   go_region_with (first|(go_at_call 224;refine (zkt E _ iq d _ _ (S4.out.1.below (Below.refl _ _).drew) HX).mono ?_;rintro e w8 ⟨v8,rfl,⟨hv8,htx⟩,hst⟩;obtain rfl:=hv8;unfold tokV;have HTX:=hid htx;have cv':=(far hst.2 lV (by omega) 0).trans cv;have HST:=hid hst;clear hst htx)|(go_at_call 225;refine (fieldOf_any E _ (fun y=>w.heap.size<y∧y≠w1.heap.size) nb _ az ((N.out.kept (Keeps.below (Below.refl _ _).drew)).kept (Keeps.grown HST.out.2 (fun y e hy=>by have h9:E.rb=y:=Option.some.inj e;omega))) HTX).mono ?_;rintro e w9 ⟨nb9,rfl,hb9,hn9⟩;unfold zzd;have V9:=hid (((V.out.below (Below.refl _ _).drew).kept HST.out.2 (by omega)).below hb9);have cv'':=V9.out.c0;have fv:=V9.out.f0;have P9:=hid (((P0.out.below (Below.refl _ _).drew).kept HST.out.2 (by omega)).below hb9);have HB9:=hid hb9;have HN9:=hid hn9;clear hb9 hn9))
   all_goals
    have hz8:w4.heap.size≤w8.heap.size:=HST.out.2.size
    have hbb:=HB9.out
    have NN:=HN9.out.keep (ok':=fun y=>w.heap.size<y∧y≠w1.heap.size) (Keeps.below (Below.refl _ _)) (fun y hy _=>by rcases hy with hy|hy<;>omega)
    have N9:=hid (NN.kept (Keeps.set _ ⟨w1.heap.size,0,none⟩ (.pointer (some ⟨nb9,0,none⟩)) (fun h=>h.2 rfl)))
    clear NN
    have S9:=hid (ST.set H.out ((((S4.out.below (Below.refl _ _).drew).trans HST.out)).below HB9.out) w1.heap.size 0 (by omega) (.pointer (some ⟨nb9,0,none⟩)))
    have VV:=hid (V9.out.set (some ⟨nb9,0,none⟩))
    have PP:=hid (P9.out.kept (zxf _ ⟨w1.heap.size,0,none⟩ (.pointer (some ⟨nb9,0,none⟩))) (by show w.heap.size≠w1.heap.size;omega))
    have hnx2:=S9.out.1.at_nx
    have HNX2:=hid hnx2
    clear hnx2
    have z9:=VV.out.lt
    rcases zxx HQQ.out with ⟨jy,er,hy,hq2⟩|⟨ay,jy,hy,hq2⟩
    ·have HP:Hid (P E.T m .fields d jz=some (.bad jy er)):=hy
     have HE2:Hid (rs=preR (ds++ [bare az]) (.bad jy er)):=by show _=_;rw [HE.out,hq2];rfl
     clear hy hq2
     go_wp2_with fail
     go_roundw
     case rel=>exact ⟨m,jz,nb9,_,_,by omega,z9,HP,HE2,by show NodeAt _ _ _ _ _;rw [List.foldl_append];exact N9.out,S9,PP,VV⟩
     case measure=>rw [HNX.out,HNX2.out];omega
    ·have HP:Hid (P E.T m .fields d jz=some (.ok ay jy)):=hy
     have HE2:Hid (rs=preR (ds++ [bare az]) (.ok ay jy)):=by show _=_;rw [HE.out,zz7 hq2];simp [preR]
     clear hy hq2
     go_wp2_with fail
     go_roundw
     case rel=>exact ⟨m,jz,nb9,_,_,by omega,z9,HP,HE2,by show NodeAt _ _ _ _ _;rw [List.foldl_append];exact N9.out,S9,PP,VV⟩
     case measure=>rw [HNX.out,HNX2.out];omega
  ·skip
   have HR5:=hid (zk6 HR.out ht)
   go_wp2_with fail
   refine (is_no E _ iq d ⟨#[46]⟩ S.out.1 ht).mono ?_
   rintro e w6 ⟨rfl,hb⟩
   have P0':=hid (P0.out.below hb)
   clear P0
   have P0:=P0'
   clear P0'
   have V':=hid (V.out.below hb)
   clear V
   have V:=V'
   clear V'
   have N':=hid (N.out.bl hb)
   clear N
   have N:=N'
   clear N'
   have S6:=hid (S.out.below hb)
   have z6:=hb.size
   clear hb
   clear ht
   have HQ:Hid (r= .ok (ds.foldl (fun a b=>zqg a b) a1) iq):=zz7 (HOK.out _ _ (by rw [HE.out,zz7 HR5.out];simp [preR]))
   have V0:=V.out.c0
   have q0:=P0.out.c0
   have f0:=P0.out.f0
   go_wp2_with fail
   refine bodyPost_ret (v:=zzd nb) (by unfold zzd;simp [results,Tryz.results248,go_sem,q0]) rfl ?_
   rw [HQ.out]
   exact zz5 H.out S6.out (N.out.weak (ok':=fun y=>w.heap.size<y) fun y hy _=>hy.1) (Nat.le_refl _) _
theorem unary_any (E:Env) (w:World) (i d:Nat) (n:Nat) (ih:IH E n) (r:Res Tree) (h:RD E w i d) (hr:Hid (runW E.T (P E.T n) (unary d) i=some r)):
 Calls Tryz.prog 236 #[.pointer (some ⟨E.rb,0,none⟩)] w (Q E w d (VN E w.heap.size) r):=by
 have H:=hid h
 have hr1:=h.lt
 have hf0:=zxw
 have hf1:=zxn
 have hf2:=zq7
 have S0:=hid (ST.below (ST.refl h) (b1 w (.cells #[.pointer none] 25)))
 have P0:=hid (PtrAt.new w none)
 have l0:=P0.out.lt
 clear h
 go_enter Tryz.func236,Tryz.ntmps236
 go_wp2_with fail
 generalize w.alloc (.cells #[.pointer none] 25)=wa at*
 have htl:=H.out.text i
 refine (zk3 E _ i d S0.out.1).mono ?_
 rintro e w1 ⟨rfl,hb⟩
 have P0':=hid (P0.out.below hb)
 clear P0
 have P0:=P0'
 clear P0'
 have S1:=hid (S0.out.below hb)
 have z1:=hb.size
 clear hb
 unfold tokV
 have T:=hid (TokAt.new w1 (E.T i).kind ⟨(E.T i).text.toArray⟩ (E.pl i))
 have P0':=hid (P0.out.below (b1 w1 (.cells #[.int .i64 (E.T i).kind,.string ⟨(E.T i).text.toArray⟩,.int .i64 (E.pl i)] 108)))
 clear P0
 have P0:=P0'
 clear P0'
 have S2:=hid (S1.out.below (b1 w1 (.cells #[.int .i64 (E.T i).kind,.string ⟨(E.T i).text.toArray⟩,.int .i64 (E.pl i)] 108)))
 have z2:=(b1 w1 (.cells #[.int .i64 (E.T i).kind,.string ⟨(E.T i).text.toArray⟩,.int .i64 (E.pl i)] 108)).size
 have y2:w1.heap.size<(w1.alloc (.cells #[.int .i64 (E.T i).kind,.string ⟨(E.T i).text.toArray⟩,.int .i64 (E.pl i)] 108)).heap.size:=by simp
 have T1:=T.out.c1
 go_wp2_with fail
 generalize w1.alloc (.cells #[.int .i64 (E.T i).kind,.string ⟨(E.T i).text.toArray⟩,.int .i64 (E.pl i)] 108)=w2 at*
 obtain ⟨op,hop⟩:∃ op,zq1 (E.T i).text 17 2=op:=⟨_,rfl⟩
 have hs1:zjg ⟨(E.T i).text.toArray⟩ 1=op:=by simp [zjg,hop]
 have HOP:=hid hop
 have HS1:=hid hs1
 clear hop hs1 T1
 refine (signed_any _ _ _ S2.out.1.good.signs).mono ?_
 rintro e w9 ⟨rfl,rfl⟩
 rw [HS1.out]
 have HR0:=hid (zvc hr.out)
 by_cases ht:op=0
 ·skip
  have HR1:=hid (zkc HR0.out (HOP.out.trans ht))
  have b0:(op !=0)=false:=by rw [ht];rfl
  rw [b0]
  clear b0 ht
  go_wp2_with fail
  rcases zxr HR1.out with ⟨j3,er,hx,hq⟩|⟨a3,j3,hx,hq⟩
  ·exact (postfix_any E _ i d n ih _ S2.out.1 hx).mono fun e w' h=>by obtain ⟨rfl,hg⟩:=h;exact ⟨rfl,by rw [hq];exact ⟨rfl,S2.out.2.trans hg⟩⟩
  refine (postfix_any E _ i d n ih _ S2.out.1 hx).mono ?_
  rintro e w3 ⟨v3,rfl,⟨nb3,hv,hn⟩,hst⟩
  obtain rfl:=hv
  unfold zzd
  have P0':=hid (P0.out.kept hst.2 (by omega))
  clear P0
  have P0:=P0'
  clear P0'
  have T':=hid (T.out.kept hst.2 (by omega))
  clear T
  have T:=T'
  clear T'
  have N3:=hid (hn.from (B:=w.heap.size) (by omega))
  clear hn
  have S3:=hid (S2.out.trans hst)
  have z3:=hst.2.size
  clear hst
  have HQ:=hid hq
  clear hx hq
  have q0:=P0.out.c0
  have f0:=P0.out.f0
  go_wp2_with fail
  refine bodyPost_ret (v:=zzd nb3) (by unfold zzd;simp [results,Tryz.results236,go_sem,q0]) rfl ?_
  rw [HQ.out]
  exact zz5 H.out S3.out N3.out (by omega) _
 ·skip
  have HR1:=hid (zqq HR0.out (fun e=>ht (HOP.out.symm.trans e)))
  have b0:(op !=0)=true:=by simpa using ht
  rw [b0]
  have hne:(E.T i).text≠ []:=find_some (k:=17) (n:=2) (by omega) (by omega) (fun e=>ht (HOP.out.symm.trans e))
  have HNE:=hid hne
  clear b0 ht hne
  have T0:=T.out.c0
  have T1:=T.out.c1
  have T2:=T.out.c2
  go_wp2_with fail
  rcases zzc HR1.out with ⟨j4,er,hx,hq⟩|⟨a4,j4,hx,hq⟩
  ·exact (zj5 E _ i d ⟨(E.T i).text.toArray⟩ (P E.T n) _ S2.out.1 HNE hx).mono fun e w' h=>by obtain ⟨rfl,hg⟩:=h;exact ⟨rfl,by rw [hq];exact ⟨rfl,S2.out.2.trans hg⟩⟩
  refine (zj5 E _ i d ⟨(E.T i).text.toArray⟩ (P E.T n) _ S2.out.1 HNE hx).mono ?_
  rintro e w4 ⟨v4,rfl,-,hst⟩
  have P0':=hid (P0.out.kept hst.2 (by omega))
  clear P0
  have P0:=P0'
  clear P0'
  have T':=hid (T.out.kept hst.2 (by omega))
  clear T
  have T:=T'
  clear T'
  have S4:=hid (S2.out.trans hst)
  have z4:=hst.2.size
  clear hst
  have HR4:=hid hq
  clear hx hq
  clear T0 T1 T2
  go_wp2_with fail
  rcases zzc HR4.out with ⟨j5,er,hx0,hq⟩|⟨a5,j5,hx0,hq⟩
  ·rcases zxx hx0 with ⟨j8,er8,hx,hq8⟩|⟨a8,j8,hx,hq8⟩
   ·cases hq8;exact (ih.unary _ j4 (d+1) _ S4.out.1 hx).mono fun e w' h=>by obtain ⟨rfl,hg⟩:=h;exact ⟨rfl,by rw [hq];exact ⟨rfl,S4.out.2.trans hg⟩⟩
   ·exact absurd (zz7 hq8) (by simp)
  rcases zxx hx0 with ⟨j8,er8,hx,hq8⟩|⟨a8,j8,hx,hq8⟩
  ·exact absurd hq8 (by simp)
  have e9:=zz7 hq8
  injection e9 with e1 e2
  subst e1
  subst e2
  have HR5:=hid hq
  clear hq hx0 hq8
  refine (ih.unary _ j4 (d+1) _ S4.out.1 hx).mono ?_
  rintro e w5 ⟨v5,rfl,⟨nb5,hv,hn⟩,hst⟩
  obtain rfl:=hv
  unfold zzd
  have P0':=hid (P0.out.kept hst.2 (by omega))
  clear P0
  have P0:=P0'
  clear P0'
  have T':=hid (T.out.kept hst.2 (by omega))
  clear T
  have T:=T'
  clear T'
  have N5:=hid (hn.from (B:=w.heap.size) (by omega))
  clear hn
  have S5:=hid (S4.out.trans hst)
  have z5:=hst.2.size
  clear hst
  clear hx
  have V:=hid (PtrAt.new w5 (some ⟨nb5,0,none⟩))
  have P0':=hid (P0.out.below (b1 w5 (.cells #[.pointer (some ⟨nb5,0,none⟩)] 25)))
  clear P0
  have P0:=P0'
  clear P0'
  have T':=hid (T.out.below (b1 w5 (.cells #[.pointer (some ⟨nb5,0,none⟩)] 25)))
  clear T
  have T:=T'
  clear T'
  have N5':=hid (N5.out.bl (b1 w5 (.cells #[.pointer (some ⟨nb5,0,none⟩)] 25)))
  clear N5
  have N5:=N5'
  clear N5'
  have S6:=hid (S5.out.below (b1 w5 (.cells #[.pointer (some ⟨nb5,0,none⟩)] 25)))
  have z6:=(b1 w5 (.cells #[.pointer (some ⟨nb5,0,none⟩)] 25)).size
  have y6:w5.heap.size<(w5.alloc (.cells #[.pointer (some ⟨nb5,0,none⟩)] 25)).heap.size:=by simp
  go_wp2_with fail
  generalize w5.alloc (.cells #[.pointer (some ⟨nb5,0,none⟩)] 25)=w6 at*
  refine (z0s E _ j5 d S6.out.1).mono ?_
  rintro e w7 ⟨rfl,hst⟩
  have P0':=hid (P0.out.kept hst.2 (by omega))
  clear P0
  have P0:=P0'
  clear P0'
  have T':=hid (T.out.kept hst.2 (by omega))
  clear T
  have T:=T'
  clear T'
  have N5':=hid (N5.out.st hst.2 (by omega))
  clear N5
  have N5:=N5'
  clear N5'
  have V':=hid (V.out.kept hst.2 (by omega))
  clear V
  have V:=V'
  clear V'
  have S7:=hid (S6.out.trans hst)
  have z7:=hst.2.size
  clear hst
  have HQ:Hid (r= .ok (.mk 23 [] [] op i [hd a8]) j5):=by show _=_;rw [zz7 HR5.out,HOP.out]
  have V0:=V.out.c0
  have T2:=T.out.c2
  have K:=hid (zxk N5.out (by omega))
  have P0':=hid (P0.out.below (b1 w7 (.cells #[.pointer (some ⟨nb5,0,none⟩)] 25)))
  clear P0
  have P0:=P0'
  clear P0'
  have T':=hid (T.out.below (b1 w7 (.cells #[.pointer (some ⟨nb5,0,none⟩)] 25)))
  clear T
  have T:=T'
  clear T'
  have N5':=hid (N5.out.bl (b1 w7 (.cells #[.pointer (some ⟨nb5,0,none⟩)] 25)))
  clear N5
  have N5:=N5'
  clear N5'
  have V':=hid (V.out.below (b1 w7 (.cells #[.pointer (some ⟨nb5,0,none⟩)] 25)))
  clear V
  have V:=V'
  clear V'
  have S8:=hid (S7.out.below (b1 w7 (.cells #[.pointer (some ⟨nb5,0,none⟩)] 25)))
  have z8:=(b1 w7 (.cells #[.pointer (some ⟨nb5,0,none⟩)] 25)).size
  have y8:w7.heap.size<(w7.alloc (.cells #[.pointer (some ⟨nb5,0,none⟩)] 25)).heap.size:=by simp
  go_wp2_with fail
  generalize w7.alloc (.cells #[.pointer (some ⟨nb5,0,none⟩)] 25)=w8 at*
  refine (zzz _ _ _ _ _ _ _ _ _).mono ?_
  rintro e wz ⟨rfl,hb9,hrow⟩
  have P9:=P0.out.below hb9
  have q0:=P9.c0
  have f0:=P9.f0
  have HB9:=hid hb9
  have HROW:=hid hrow
  clear hb9 hrow P9
  unfold zzd
  go_wp2_with fail
  refine bodyPost_ret (v:=zzd w8.heap.size) (by unfold zzd;simp [results,Tryz.results236,go_sem,q0]) rfl ?_
  rw [HQ.out]
  have hrow:=HROW.out
  exact zqm H.out S8.out K.out (by omega) HB9.out hrow (by omega) (by omega) _
def pA (w:World) (k:Int) (s:ByteArray) (p:Int) (bl br:Nat):World:=(((w.alloc (.cells #[.int .i64 k,.string s,.int .i64 p] 108)).alloc (.cells #[.pointer (some ⟨bl,0,none⟩)] 25)).alloc (.cells #[.pointer (some ⟨br,0,none⟩)] 25)).alloc (.cells #[.pointer none] 25)
def pB (w:World) (k:Int) (s:ByteArray) (p:Int) (bl br:Nat):World:=(pA w k s p bl br).alloc (.cells #[.pointer (some ⟨bl,0,none⟩),.pointer (some ⟨br,0,none⟩)] 25)
def pC (w:World) (k:Int) (s:ByteArray) (p:Int) (bl br:Nat) (op n:Int):World:=(pB w k s p bl br).alloc (.cells #[.int .i64 op,.string ⟨#[]⟩,.string ⟨#[]⟩,.int .i64 n,.int .i64 p,.slice (some ⟨w.heap.size+4,0,none⟩) 2 2] 82)
theorem pA_size (w:World) (k:Int) (s:ByteArray) (p:Int) (bl br:Nat):(pA w k s p bl br).heap.size=w.heap.size+4:=by simp [pA]
theorem pA_below (w:World) (k:Int) (s:ByteArray) (p:Int) (bl br:Nat):Below w.heap.size w (pA w k s p bl br):=(b3 w _ _ _).trans ((b1 _ _).mono (by simp;omega))
theorem pB_below (w:World) (k:Int) (s:ByteArray) (p:Int) (bl br:Nat):Below w.heap.size w (pB w k s p bl br):=(pA_below w k s p bl br).trans ((b1 _ _).mono (by rw [pA_size];omega))
theorem pC_below (w:World) (k:Int) (s:ByteArray) (p:Int) (bl br:Nat) (op n:Int):Below w.heap.size w (pC w k s p bl br op n):=(pB_below w k s p bl br).trans ((b1 _ _).mono (pB_below w k s p bl br).size)
theorem pA_ptr (w:World) (k:Int) (s:ByteArray) (p:Int) (bl br:Nat):PtrAt (pA w k s p bl br) (w.heap.size+3) none:=by
 have:=PtrAt.new (((w.alloc (.cells #[.int .i64 k,.string s,.int .i64 p] 108)).alloc (.cells #[.pointer (some ⟨bl,0,none⟩)] 25)).alloc (.cells #[.pointer (some ⟨br,0,none⟩)] 25)) none
 rw [show (((w.alloc (.cells #[.int .i64 k,.string s,.int .i64 p] 108)).alloc (.cells #[.pointer (some ⟨bl,0,none⟩)] 25)).alloc (.cells #[.pointer (some ⟨br,0,none⟩)] 25)).heap.size=w.heap.size+3 by simp] at this
 exact this
theorem pC_ptr (w:World) (k:Int) (s:ByteArray) (p:Int) (bl br:Nat) (op n:Int):PtrAt (pC w k s p bl br op n) (w.heap.size+3) none:=((pA_ptr w k s p bl br).below (b1 _ _)).below (b1 _ _)
theorem pC_kids {ok:Nat→Prop} {pl:Nat→Nat} {w:World} {bl br:Nat} {l r:Tree} (hl:NodeAt ok pl w bl l) (hr:NodeAt ok pl w br r) (k:Int) (s:ByteArray) (p:Int) (op n:Int):KidsIn (fun y=>(ok y∨w.heap.size≤y)∧y≠w.heap.size+3) pl (pC w k s p bl br op n) (.slice (some ⟨w.heap.size+4,0,none⟩) 2 2) 2 [l,r]:=by
 have K0:=kids_lit2g (ok:=fun y=>ok y∧y<w.heap.size) (ok':=fun y=>(ok y∨w.heap.size≤y)∧y≠w.heap.size+3) ((hl.weak (ok':=fun y=>ok y∧y<w.heap.size) (fun y hy hl=>⟨hy,hl⟩)).kept (Keeps.below (pA_below w k s p bl br))) ((hr.weak (ok':=fun y=>ok y∧y<w.heap.size) (fun y hy hl=>⟨hy,hl⟩)).kept (Keeps.below (pA_below w k s p bl br))) (fun y hy _=>⟨.inl hy.1,by omega⟩) ⟨.inr (by rw [pA_size];omega),by rw [pA_size];omega⟩
 rw [pA_size] at K0
 exact K0.bl (b1 _ _)
theorem pair_end {E:Env} {w w2 wz:World} {ok:Nat→Prop} {l r:Tree} {i:Nat} {op:Nat} {n:Int} (hb:Below w.heap.size w w2) (hk:KidsIn (fun y=>(ok y∨w.heap.size≤y)∧y≠w.heap.size+3) E.pl w2 (.slice (some ⟨w.heap.size+4,0,none⟩) 2 2) 2 [l,r]) (hl:w.heap.size+3<w2.heap.size) (hb9:Below w2.heap.size w2 wz) (hrow:RowAt wz w2.heap.size op ⟨#[]⟩ ⟨#[]⟩ n (E.pl i) (.slice (some ⟨w.heap.size+4,0,none⟩) 2 2)) (u:Value):
 MadeQ E w ok (.mk op [] [] n i [l,r]) (.returned (zzd w2.heap.size)) (wz.setCell ⟨w.heap.size+3,0,none⟩ u):=by
 refine ⟨_,rfl,(hb.trans (hb9.mono hb.size)).setCell (by show w.heap.size≤w.heap.size+3;omega) _,?_⟩
 exact (node_mk (name:= []) (typ:= []) (ok':=fun y=>(ok y∨w.heap.size≤y)∧y≠w.heap.size+3) hk hb9 hrow ⟨.inr (by omega),by omega⟩ (fun _ h _=>h) (by omega)).keep (Keeps.set _ _ _ (fun h=>h.2 rfl)) fun _ h _=>h.1
theorem pair_any (E:Env) (w:World) (ok:Nat→Prop) (i bl br:Nat) (l r:Tree) (hl:NodeAt ok E.pl w bl l) (hr:NodeAt ok E.pl w br r) (G:Good w):
 Calls Tryz.prog 238 #[.agg #[.int .i64 (E.T i).kind,.string ⟨(E.T i).text.toArray⟩,.int .i64 (E.pl i)],.agg #[.pointer (some ⟨bl,0,none⟩)],.agg #[.pointer (some ⟨br,0,none⟩)]] w (MadeQ E w ok (zqg l (half (E.T i) i r))):=by
 rw [attach_half]
 obtain ⟨kd,hkd⟩:∃ kd:Int,((E.T i).kind:Int)=kd:=⟨_,rfl⟩
 rw [hkd]
 clear hkd
 by_cases h1:(E.T i).text=cOr
 ·rw [if_pos h1,h1]
  have HB:=hid (pC_below w kd ⟨cOr.toArray⟩ (E.pl i) bl br 26 0)
  have HP:=hid (pC_ptr w kd ⟨cOr.toArray⟩ (E.pl i) bl br 26 0)
  have HK:=hid (pC_kids hl hr kd ⟨cOr.toArray⟩ (E.pl i) 26 0)
  clear hl hr h1
  unfold pC pB pA at HB HP HK
  go_enter Tryz.func238,Tryz.ntmps238
  go_wp2_with fail
  generalize (((((w.alloc (.cells #[.int .i64 kd,.string ⟨#[124,124]⟩,.int .i64 (E.pl i)] 108)).alloc (.cells #[.pointer (some ⟨bl,0,none⟩)] 25)).alloc (.cells #[.pointer (some ⟨br,0,none⟩)] 25)).alloc (.cells #[.pointer none] 25)).alloc (.cells #[.pointer (some ⟨bl,0,none⟩),.pointer (some ⟨br,0,none⟩)] 25)).alloc (.cells #[.int .i64 26,.string ⟨#[]⟩,.string ⟨#[]⟩,.int .i64 0,.int .i64 (E.pl i),.slice (some ⟨w.heap.size+4,0,none⟩) 2 2] 82)=w2 at*
  refine (zzz _ _ _ _ _ _ _ _ _).mono ?_
  rintro e wz ⟨rfl,hb9,hrow⟩
  have P9:=HP.out.below hb9
  have q0:=P9.c0
  have f0:=P9.f0
  have HB9:=hid hb9
  have HROW:=hid hrow
  clear hb9 hrow P9
  unfold zzd
  go_wp2_with fail
  refine bodyPost_ret (v:=zzd w2.heap.size) (by unfold zzd;simp [results,Tryz.results238,go_sem,q0]) rfl ?_
  exact pair_end HB.out HK.out HP.out.lt HB9.out HROW.out _
 ·rw [if_neg h1]
  by_cases h2:(E.T i).text=cAnd
  ·rw [if_pos h2,h2]
   have HB:=hid (pC_below w kd ⟨cAnd.toArray⟩ (E.pl i) bl br 25 0)
   have HP:=hid (pC_ptr w kd ⟨cAnd.toArray⟩ (E.pl i) bl br 25 0)
   have HK:=hid (pC_kids hl hr kd ⟨cAnd.toArray⟩ (E.pl i) 25 0)
   clear hl hr h1 h2
   unfold pC pB pA at HB HP HK
   go_enter Tryz.func238,Tryz.ntmps238
   go_wp2_with fail
   generalize (((((w.alloc (.cells #[.int .i64 kd,.string ⟨#[38,38]⟩,.int .i64 (E.pl i)] 108)).alloc (.cells #[.pointer (some ⟨bl,0,none⟩)] 25)).alloc (.cells #[.pointer (some ⟨br,0,none⟩)] 25)).alloc (.cells #[.pointer none] 25)).alloc (.cells #[.pointer (some ⟨bl,0,none⟩),.pointer (some ⟨br,0,none⟩)] 25)).alloc (.cells #[.int .i64 25,.string ⟨#[]⟩,.string ⟨#[]⟩,.int .i64 0,.int .i64 (E.pl i),.slice (some ⟨w.heap.size+4,0,none⟩) 2 2] 82)=w2 at*
   refine (zzz _ _ _ _ _ _ _ _ _).mono ?_
   rintro e wz ⟨rfl,hb9,hrow⟩
   have P9:=HP.out.below hb9
   have q0:=P9.c0
   have f0:=P9.f0
   have HB9:=hid hb9
   have HROW:=hid hrow
   clear hb9 hrow P9
   unfold zzd
   go_wp2_with fail
   refine bodyPost_ret (v:=zzd w2.heap.size) (by unfold zzd;simp [results,Tryz.results238,go_sem,q0]) rfl ?_
   exact pair_end HB.out HK.out HP.out.lt HB9.out HROW.out _
  ·rw [if_neg h2]
   obtain ⟨op,hop⟩:∃ op,zq1 (E.T i).text 1 16=op:=⟨_,rfl⟩
   rw [hop]
   have hs2:zjg ⟨(E.T i).text.toArray⟩ 2=op:=by simp [zjg,hop]
   have n1:((E.T i).text== [124,124])=false:=by simpa using h1
   have n2:((E.T i).text== [38,38])=false:=by simpa using h2
   have HS:=hid (signed_any ⟨(E.T i).text.toArray⟩ 2 _ (G.below (pC_below w kd ⟨(E.T i).text.toArray⟩ (E.pl i) bl br 24 0)).signs)
   have H2:=hid hs2
   have HB:=hid (pC_below w kd ⟨(E.T i).text.toArray⟩ (E.pl i) bl br 24 op)
   have HP:=hid (pC_ptr w kd ⟨(E.T i).text.toArray⟩ (E.pl i) bl br 24 op)
   have HK:=hid (pC_kids hl hr kd ⟨(E.T i).text.toArray⟩ (E.pl i) 24 op)
   clear hl hr h1 h2 hop hs2 G
   unfold pC pB pA at HB HP HK HS
   go_enter Tryz.func238,Tryz.ntmps238
   go_wp2_with fail
   refine HS.out.mono ?_
   rintro e w1 ⟨rfl,rfl⟩
   rw [H2.out]
   clear HS H2
   go_wp2_with fail
   generalize (((((w.alloc (.cells #[.int .i64 kd,.string ⟨(E.T i).text.toArray⟩,.int .i64 (E.pl i)] 108)).alloc (.cells #[.pointer (some ⟨bl,0,none⟩)] 25)).alloc (.cells #[.pointer (some ⟨br,0,none⟩)] 25)).alloc (.cells #[.pointer none] 25)).alloc (.cells #[.pointer (some ⟨bl,0,none⟩),.pointer (some ⟨br,0,none⟩)] 25)).alloc (.cells #[.int .i64 24,.string ⟨#[]⟩,.string ⟨#[]⟩,.int .i64 op,.int .i64 (E.pl i),.slice (some ⟨w.heap.size+4,0,none⟩) 2 2] 82)=w2 at*
   refine (zzz _ _ _ _ _ _ _ _ _).mono ?_
   rintro e wz ⟨rfl,hb9,hrow⟩
   have P9:=HP.out.below hb9
   have q0:=P9.c0
   have f0:=P9.f0
   have HB9:=hid hb9
   have HROW:=hid hrow
   clear hb9 hrow P9
   unfold zzd
   go_wp2_with fail
   refine bodyPost_ret (v:=zzd w2.heap.size) (by unfold zzd;simp [results,Tryz.results238,go_sem,q0]) rfl ?_
   exact pair_end HB.out HK.out HP.out.lt HB9.out HROW.out _
end Go.Proofs.YtkahbhfbgdbnfaaGreatDoor
