/- CONTRACT: structure of the reader. Nobody but the reader's own block has turned. -/
import Derived.Test.YtkahbhfbgdbnfaaGreatDoorZ3
import Derived.Test.YtkahbhfbgdbnfaaGreatDoorZ5
import Derived.Test.YtkahbhfbgdbnfaaGreatDoorZ1
import Derived.Lib.Join
import Derived.Lib.AppendIntMem
import Derived.Test.YtkahbhfbgdbnfaaGreatDoorZ2
set_option maxRecDepth 100000
set_option maxHeartbeats 400000
namespace Go.Proofs.YtkahbhfbgdbnfaaGreatDoor
open Go.Lib (hid)
open Go.RowKit
theorem z2o (E:Env) (w:World) (i d:Nat) (n:Nat) (_:IH E n) (r:Res Tree) (h:RD E w i d) (hr:Hid (runW E.T (P E.T n) (zjb) i=some r)):
 Calls Tryz.prog 90 #[.pointer (some ⟨E.rb,0,none⟩)] w (Q E w d (VN E w.heap.size) r):=by
 have H:=hid h
 have hr1:=h.lt
 have hf0:=zxw
 have hf1:=zxn
 have hf2:=zq7
 have S0:=hid (ST.below (ST.refl h) (b1 w (.cells #[.pointer none] 25)))
 have P0:=hid (PtrAt.new w none)
 have l0:=P0.out.lt
 clear h
 go_enter Tryz.func90,Tryz.ntmps90
 go_wp2_with fail
 generalize w.alloc (.cells #[.pointer none] 25)=wa at*
 have hz:=H.out.zle
 rcases zzc hr.out with ⟨j1,er,hx,hq⟩|⟨a1,j1,hx,hq⟩
 ·exact (zki E _ i d (P E.T n) _ S0.out.1 hx).mono fun e w' h=>by obtain ⟨rfl,hg⟩:=h;exact ⟨rfl,by rw [hq];exact ⟨rfl,S0.out.2.trans hg⟩⟩
 refine (zki E _ i d (P E.T n) _ S0.out.1 hx).mono ?_
 rintro e w1 ⟨v1,rfl,⟨hv,htx⟩,hst⟩
 obtain rfl:=hv
 unfold tokV
 have P0':=hid (P0.out.kept hst.2 (by omega))
 clear P0
 have P0:=P0'
 clear P0'
 have X1:=hid htx
 clear htx
 have S1:=hid (S0.out.trans hst)
 have z1:=hst.2.size
 clear hst
 have HR1:=hid hq
 clear hx hq
 have T:=hid (TokAt.new w1 (E.T a1.1).kind ⟨(E.T a1.1).text.toArray⟩ (E.pl a1.1))
 have P0':=hid (P0.out.below (b1 w1 (.cells #[.int .i64 (E.T a1.1).kind,.string ⟨(E.T a1.1).text.toArray⟩,.int .i64 (E.pl a1.1)] 108)))
 clear P0
 have P0:=P0'
 clear P0'
 have S2:=hid (S1.out.below (b1 w1 (.cells #[.int .i64 (E.T a1.1).kind,.string ⟨(E.T a1.1).text.toArray⟩,.int .i64 (E.pl a1.1)] 108)))
 have z2:=(b1 w1 (.cells #[.int .i64 (E.T a1.1).kind,.string ⟨(E.T a1.1).text.toArray⟩,.int .i64 (E.pl a1.1)] 108)).size
 have y2:w1.heap.size<(w1.alloc (.cells #[.int .i64 (E.T a1.1).kind,.string ⟨(E.T a1.1).text.toArray⟩,.int .i64 (E.pl a1.1)] 108)).heap.size:=by simp
 go_wp2_with fail
 generalize w1.alloc (.cells #[.int .i64 (E.T a1.1).kind,.string ⟨(E.T a1.1).text.toArray⟩,.int .i64 (E.pl a1.1)] 108)=w2 at*
 rcases zzc HR1.out with ⟨j3,er,hx,hq⟩|⟨a3,j3,hx,hq⟩
 ·exact (zzm E _ j1 d ⟨#[115,116,114,117,99,116]⟩ (P E.T n) _ S2.out.1 (hid (by decide)) hx).mono fun e w' h=>by obtain ⟨rfl,hg⟩:=h;exact ⟨rfl,by rw [hq];exact ⟨rfl,S2.out.2.trans hg⟩⟩
 refine (zzm E _ j1 d ⟨#[115,116,114,117,99,116]⟩ (P E.T n) _ S2.out.1 (hid (by decide)) hx).mono ?_
 rintro e w3 ⟨v3,rfl,-,hst⟩
 have P0':=hid (P0.out.kept hst.2 (by omega))
 clear P0
 have P0:=P0'
 clear P0'
 have T':=hid (T.out.kept hst.2 (by omega))
 clear T
 have T:=T'
 clear T'
 have S3:=hid (S2.out.trans hst)
 have z3:=hst.2.size
 clear hst
 have HR3:=hid hq
 clear hx hq
 go_wp2_with fail
 rcases zzc HR3.out with ⟨j4,er,hx,hq⟩|⟨a4,j4,hx,hq⟩
 ·exact (zzm E _ j3 d ⟨#[123]⟩ (P E.T n) _ S3.out.1 (hid (by decide)) hx).mono fun e w' h=>by obtain ⟨rfl,hg⟩:=h;exact ⟨rfl,by rw [hq];exact ⟨rfl,S3.out.2.trans hg⟩⟩
 refine (zzm E _ j3 d ⟨#[123]⟩ (P E.T n) _ S3.out.1 (hid (by decide)) hx).mono ?_
 rintro e w4 ⟨v4,rfl,-,hst⟩
 have P0':=hid (P0.out.kept hst.2 (by omega))
 clear P0
 have P0:=P0'
 clear P0'
 have T':=hid (T.out.kept hst.2 (by omega))
 clear T
 have T:=T'
 clear T'
 have S4:=hid (S3.out.trans hst)
 have z4:=hst.2.size
 clear hst
 have HR4:=hid hq
 clear hx hq
 obtain ⟨rs,hrs,hbad,hok⟩:=zvs HR4.out
 have HRS:=hid hrs
 have HBAD:=hid hbad
 have HOK:=hid hok
 clear hrs hbad hok
 go_wp2_with fail
 go_loopw [4] (fun v wr=>KRelT E n w w1.heap.size .parts 0 d (E.T a1.1).kind ⟨(E.T a1.1).text.toArray⟩ (E.pl a1.1) rs v wr) (fun _ wr=>E.z - nx E wr)
 case atStart=>exact ⟨n,0,j4,[],rs,Nat.le_refl _,Nat.zero_le _,by omega,HRS,hid (z1f rs).symm,KidsIn.nil _ _ _,S4,P0,T⟩
 case round=>
  obtain ⟨m,k,iq,ts,rq,hm,hk,hB,HP,HE,K,S,P0,T⟩:=hrel
  obtain ⟨m,rfl,hp⟩:=P_pos HP.out
  have HR:=hid hp
  clear hp HP
  have hiz:=S.out.1.ile
  have hnx:=S.out.1.at_nx
  have HNX:=hid hnx
  clear hnx
  by_cases ht:(E.T iq).text=cRC
  ·skip
   have h0:=zq9 HR.out ht
   have HR5:=hid (zq4 h0)
   clear h0
   have hq:=zz7 HR5.out
   have hrs:rs= .ok ts (iq+1):=by rw [HE.out,hq];simp [preR]
   have HQ:Hid (r= .ok (.mk 2 a1.2 [] 0 a1.1 ts) (iq+1)):=zz7 (HOK.out _ _ hrs)
   clear hq hrs
   go_wp2_with fail
   refine (zke E _ iq d ⟨#[125]⟩ S.out.1 ht (hid (by decide))).mono ?_
   rintro e w6 ⟨rfl,hst⟩
   have K':=hid (K.out.st hst.2 (by omega))
   clear K
   have K:=K'
   clear K'
   have P0':=hid (P0.out.kept hst.2 (by omega))
   clear P0
   have P0:=P0'
   clear P0'
   have T':=hid (T.out.kept hst.2 (by omega))
   clear T
   have T:=T'
   clear T'
   have S6:=hid (S.out.trans hst)
   have z6:=hst.2.size
   clear hst
   clear ht
   obtain ⟨Ak,ck,hvk,-,-⟩:=K.out.slice
   subst hvk
   have T0:=T.out.c0
   have T1:=T.out.c1
   have T2:=T.out.c2
   go_wp2_with fail
   refine (zzz _ _ _ _ _ _ _ _ _).mono ?_
   rintro e wz ⟨rfl,hb9,hrow⟩
   have P9:=P0.out.below hb9
   have q0:=P9.c0
   have f0:=P9.f0
   have HB9:=hid hb9
   have HROW:=hid hrow
   clear hb9 hrow P9
   unfold zzd
   go_wp2_with fail
   refine bodyPost_ret (v:=zzd w6.heap.size) (by unfold zzd;simp [results,Tryz.results90,go_sem,q0]) rfl ?_
   rw [HQ.out]
   have hrow:=HROW.out
   rw [X1.out] at hrow
   exact zqm H.out S6.out K.out (by omega) HB9.out hrow (by omega) (by omega) _
  ·skip
   have HR7:=hid (zk6 HR.out ht)
   go_wp2_with fail
   refine (zk5 E _ iq d ⟨#[125]⟩ S.out.1 ht).mono ?_
   rintro e w8 ⟨rfl,hb⟩
   have K':=hid (K.out.bl hb)
   clear K
   have K:=K'
   clear K'
   have P0':=hid (P0.out.below hb)
   clear P0
   have P0:=P0'
   clear P0'
   have T':=hid (T.out.below hb)
   clear T
   have T:=T'
   clear T'
   have S8:=hid (S.out.below hb)
   have z8:=hb.size
   clear hb
   clear ht
   go_wp2_with fail
   have KL:=hid K.out.lt
   rcases zzc HR7.out with ⟨j9,er,hx,hq⟩|⟨a9,j9,hx,hq⟩
   ·exact (z28 E _ iq d (P E.T m) 5 (by omega) _ S8.out.1 hx).mono fun e w' h=>by obtain ⟨rfl,hg⟩:=h;exact ⟨rfl,by rw [HBAD.out j9 er (by rw [HE.out,hq];rfl)];exact ⟨rfl,S8.out.2.trans hg⟩⟩
   have hpr:=z2l (tot_named S8.out.1.sent 5 _) hx
   refine (z28 E _ iq d (P E.T m) 5 (by omega) _ S8.out.1 hx).mono ?_
   rintro e w9 ⟨v9,rfl,⟨nb9,hv,hn⟩,hst⟩
   obtain rfl:=hv
   unfold zzd
   have K':=hid (K.out.st hst.2 (by omega))
   clear K
   have K:=K'
   clear K'
   have P0':=hid (P0.out.kept hst.2 (by omega))
   clear P0
   have P0:=P0'
   clear P0'
   have T':=hid (T.out.kept hst.2 (by omega))
   clear T
   have T:=T'
   clear T'
   have N9:=hid (hn.from (B:=w1.heap.size) (by omega))
   have M9:=hid hn
   clear hn
   have S9:=hid (S8.out.trans hst)
   have z9:=hst.2.size
   clear hst
   rcases zxx hq with ⟨jz,er,hy,hq2⟩|⟨az,jz,hy,hq2⟩
   ·skip
    have HP:Hid (P E.T m .parts 0 j9=some (.bad jz er)):=hy
    have HE2:Hid (rs=preR (ts++ [a9]) (.bad jz er)):=by show _=_;rw [HE.out,hq2];rfl
    clear hx hq hy hq2
    have L:=hid (show (w9.alloc (.cells #[.pointer (some ⟨nb9,0,none⟩)] 25)).cell? ⟨w9.heap.size,0,none⟩=some (.pointer (some ⟨nb9,0,none⟩)) by simp [go_sem])
    have K':=hid (K.out.bl (b1 w9 (.cells #[.pointer (some ⟨nb9,0,none⟩)] 25)))
    clear K
    have K:=K'
    clear K'
    have P0':=hid (P0.out.below (b1 w9 (.cells #[.pointer (some ⟨nb9,0,none⟩)] 25)))
    clear P0
    have P0:=P0'
    clear P0'
    have T':=hid (T.out.below (b1 w9 (.cells #[.pointer (some ⟨nb9,0,none⟩)] 25)))
    clear T
    have T:=T'
    clear T'
    have N9':=hid (N9.out.bl (b1 w9 (.cells #[.pointer (some ⟨nb9,0,none⟩)] 25)))
    clear N9
    have N9:=N9'
    clear N9'
    have M9':=hid (M9.out.bl (b1 w9 (.cells #[.pointer (some ⟨nb9,0,none⟩)] 25)))
    clear M9
    have M9:=M9'
    clear M9'
    have S10:=hid (S9.out.below (b1 w9 (.cells #[.pointer (some ⟨nb9,0,none⟩)] 25)))
    have z10:=(b1 w9 (.cells #[.pointer (some ⟨nb9,0,none⟩)] 25)).size
    have y10:w9.heap.size<(w9.alloc (.cells #[.pointer (some ⟨nb9,0,none⟩)] 25)).heap.size:=by simp
    go_wp2_with (at_builtin;refine Hid.out ?_)
    generalize w9.alloc (.cells #[.pointer (some ⟨nb9,0,none⟩)] 25)=w10 at*
    refine hid ?_
    refine zzs rfl (.tmp 14) (.tmp 17) rfl w1.heap.size E.pl _ k ts rfl K.out nb9 a9 N9.out (fun g hg=>M9.out.weak fun x hx _=>⟨by omega,by have:=KL.out g hg;omega⟩) _ rfl L.out (by omega) (by omega) ?_
    intro g11 cap11 w11 hk hg hy
    have P0':=hid (P0.out.grow hg (fun e=>by have:=hy _ e;omega))
    clear P0
    have P0:=P0'
    clear P0'
    have T':=hid (T.out.grow hg (fun e=>by have:=hy _ e;omega))
    clear T
    have T:=T'
    clear T'
    have S11:=hid (ST.grow H.out S10.out hg (fun y e=>by have:=hy y e;omega))
    have z11:=hg.size
    clear K
    have K:=hid hk
    clear hk hg hy
    have hnx2:=S11.out.1.at_nx
    have HNX2:=hid hnx2
    clear hnx2
    go_wp2_with fail
    go_roundw
    case rel=>exact ⟨m,k+1,_,_,_,by omega,by omega,by omega,HP,HE2,K,S11,P0,T⟩
    case measure=>rw [HNX.out,HNX2.out];omega
   ·skip
    have HP:Hid (P E.T m .parts 0 j9=some (.ok az jz)):=hy
    have HE2:Hid (rs=preR (ts++ [a9]) (.ok az jz)):=by show _=_;rw [HE.out,zz7 hq2];simp [preR]
    clear hx hq hy hq2
    have L:=hid (show (w9.alloc (.cells #[.pointer (some ⟨nb9,0,none⟩)] 25)).cell? ⟨w9.heap.size,0,none⟩=some (.pointer (some ⟨nb9,0,none⟩)) by simp [go_sem])
    have K':=hid (K.out.bl (b1 w9 (.cells #[.pointer (some ⟨nb9,0,none⟩)] 25)))
    clear K
    have K:=K'
    clear K'
    have P0':=hid (P0.out.below (b1 w9 (.cells #[.pointer (some ⟨nb9,0,none⟩)] 25)))
    clear P0
    have P0:=P0'
    clear P0'
    have T':=hid (T.out.below (b1 w9 (.cells #[.pointer (some ⟨nb9,0,none⟩)] 25)))
    clear T
    have T:=T'
    clear T'
    have N9':=hid (N9.out.bl (b1 w9 (.cells #[.pointer (some ⟨nb9,0,none⟩)] 25)))
    clear N9
    have N9:=N9'
    clear N9'
    have M9':=hid (M9.out.bl (b1 w9 (.cells #[.pointer (some ⟨nb9,0,none⟩)] 25)))
    clear M9
    have M9:=M9'
    clear M9'
    have S12:=hid (S9.out.below (b1 w9 (.cells #[.pointer (some ⟨nb9,0,none⟩)] 25)))
    have z12:=(b1 w9 (.cells #[.pointer (some ⟨nb9,0,none⟩)] 25)).size
    have y12:w9.heap.size<(w9.alloc (.cells #[.pointer (some ⟨nb9,0,none⟩)] 25)).heap.size:=by simp
    go_wp2_with (at_builtin;refine Hid.out ?_)
    generalize w9.alloc (.cells #[.pointer (some ⟨nb9,0,none⟩)] 25)=w12 at*
    refine hid ?_
    refine zzs rfl (.tmp 14) (.tmp 17) rfl w1.heap.size E.pl _ k ts rfl K.out nb9 a9 N9.out (fun g hg=>M9.out.weak fun x hx _=>⟨by omega,by have:=KL.out g hg;omega⟩) _ rfl L.out (by omega) (by omega) ?_
    intro g13 cap13 w13 hk hg hy
    have P0':=hid (P0.out.grow hg (fun e=>by have:=hy _ e;omega))
    clear P0
    have P0:=P0'
    clear P0'
    have T':=hid (T.out.grow hg (fun e=>by have:=hy _ e;omega))
    clear T
    have T:=T'
    clear T'
    have S13:=hid (ST.grow H.out S12.out hg (fun y e=>by have:=hy y e;omega))
    have z13:=hg.size
    clear K
    have K:=hid hk
    clear hk hg hy
    have hnx2:=S13.out.1.at_nx
    have HNX2:=hid hnx2
    clear hnx2
    go_wp2_with fail
    go_roundw
    case rel=>exact ⟨m,k+1,_,_,_,by omega,by omega,by omega,HP,HE2,K,S13,P0,T⟩
    case measure=>rw [HNX.out,HNX2.out];omega
theorem function_any (E:Env) (w:World) (i d:Nat) (n:Nat) (ih:IH E n) (r:Res Tree) (h:RD E w i d) (hr:Hid (runW E.T (P E.T n) (zjk d) i=some r)):
 Calls Tryz.prog 92 #[.pointer (some ⟨E.rb,0,none⟩)] w (Q E w d (VN E w.heap.size) r):=by
 have H:=hid h
 have hr1:=h.lt
 have hf0:=zxw
 have hf1:=zxn
 have hf2:=zq7
 have S0:=hid (ST.below (ST.refl h) (b1 w (.cells #[.pointer none] 25)))
 have P0:=hid (PtrAt.new w none)
 have l0:=P0.out.lt
 clear h
 go_enter Tryz.func92,Tryz.ntmps92
 go_wp2_with fail
 generalize w.alloc (.cells #[.pointer none] 25)=wa at*
 rcases zzc hr.out with ⟨j1,er,hx,hq⟩|⟨a1,j1,hx,hq⟩
 ·exact (zki E _ i d (P E.T n) _ S0.out.1 hx).mono fun e w' h=>by obtain ⟨rfl,hg⟩:=h;exact ⟨rfl,by rw [hq];exact ⟨rfl,S0.out.2.trans hg⟩⟩
 refine (zki E _ i d (P E.T n) _ S0.out.1 hx).mono ?_
 rintro e w1 ⟨v1,rfl,⟨hv,htx⟩,hst⟩
 obtain rfl:=hv
 unfold tokV
 have P0':=hid (P0.out.kept hst.2 (by omega))
 clear P0
 have P0:=P0'
 clear P0'
 have X1:=hid htx
 clear htx
 have S1:=hid (S0.out.trans hst)
 have z1:=hst.2.size
 clear hst
 have HR1:=hid hq
 clear hx hq
 have T:=hid (TokAt.new w1 (E.T a1.1).kind ⟨(E.T a1.1).text.toArray⟩ (E.pl a1.1))
 have P0':=hid (P0.out.below (b1 w1 (.cells #[.int .i64 (E.T a1.1).kind,.string ⟨(E.T a1.1).text.toArray⟩,.int .i64 (E.pl a1.1)] 108)))
 clear P0
 have P0:=P0'
 clear P0'
 have S2:=hid (S1.out.below (b1 w1 (.cells #[.int .i64 (E.T a1.1).kind,.string ⟨(E.T a1.1).text.toArray⟩,.int .i64 (E.pl a1.1)] 108)))
 have z2:=(b1 w1 (.cells #[.int .i64 (E.T a1.1).kind,.string ⟨(E.T a1.1).text.toArray⟩,.int .i64 (E.pl a1.1)] 108)).size
 have y2:w1.heap.size<(w1.alloc (.cells #[.int .i64 (E.T a1.1).kind,.string ⟨(E.T a1.1).text.toArray⟩,.int .i64 (E.pl a1.1)] 108)).heap.size:=by simp
 go_wp2_with fail
 generalize w1.alloc (.cells #[.int .i64 (E.T a1.1).kind,.string ⟨(E.T a1.1).text.toArray⟩,.int .i64 (E.pl a1.1)] 108)=w2 at*
 rcases zzc HR1.out with ⟨j3,er,hx,hq⟩|⟨a3,j3,hx,hq⟩
 ·exact (parts_any E _ j1 d n ih _ S2.out.1 hx).mono fun e w' h=>by obtain ⟨rfl,hg⟩:=h;exact ⟨rfl,by rw [hq];exact ⟨rfl,S2.out.2.trans hg⟩⟩
 refine (parts_any E _ j1 d n ih _ S2.out.1 hx).mono ?_
 rintro e w3 ⟨v3,rfl,⟨hkl,hk⟩,hst⟩
 have P0':=hid (P0.out.kept hst.2 (by omega))
 clear P0
 have P0:=P0'
 clear P0'
 have T':=hid (T.out.kept hst.2 (by omega))
 clear T
 have T:=T'
 clear T'
 have K3:=hid (hk.from (B:=w1.heap.size) (by omega))
 clear hk
 have S3:=hid (S2.out.trans hst)
 have z3:=hst.2.size
 clear hst
 have HR3:=hid hq
 clear hx hq
 go_wp2_with fail
 by_cases ht:(E.T j3).text=cLC
 ·skip
  rcases zzc HR3.out with ⟨j9,er,hx,hq⟩|⟨a9,j9,hx,hq⟩
  ·exact absurd (zz7 (zq9 hx ht)) (by simp)
  have e9:=zz7 (zq9 hx ht)
  injection e9 with e1 e2
  subst e1
  subst e2
  have HR9:=hid hq
  clear hx hq
  refine (is_yes E _ j9 d ⟨#[123]⟩ S3.out.1 ht).mono ?_
  rintro e w4 ⟨rfl,hb⟩
  have P0':=hid (P0.out.below hb)
  clear P0
  have P0:=P0'
  clear P0'
  have T':=hid (T.out.below hb)
  clear T
  have T:=T'
  clear T'
  have K3':=hid (K3.out.bl hb)
  clear K3
  have K3:=K3'
  clear K3'
  have S4:=hid (S3.out.below hb)
  have z4:=hb.size
  clear hb
  clear ht
  go_wp2_with fail
  have KL:=hid K3.out.lt
  rcases zzc HR9.out with ⟨j5,er,hx,hq⟩|⟨a5,j5,hx,hq⟩
  ·exact (zkz E _ j9 d n ih _ S4.out.1 hx).mono fun e w' h=>by obtain ⟨rfl,hg⟩:=h;exact ⟨rfl,by rw [hq];exact ⟨rfl,S4.out.2.trans hg⟩⟩
  refine (zkz E _ j9 d n ih _ S4.out.1 hx).mono ?_
  rintro e w5 ⟨v5,rfl,⟨nb5,hv,hn⟩,hst⟩
  obtain rfl:=hv
  unfold zzd
  have P0':=hid (P0.out.kept hst.2 (by omega))
  clear P0
  have P0:=P0'
  clear P0'
  have T':=hid (T.out.kept hst.2 (by omega))
  clear T
  have T:=T'
  clear T'
  have K3':=hid (K3.out.st hst.2 (by omega))
  clear K3
  have K3:=K3'
  clear K3'
  have N5:=hid (hn.from (B:=w1.heap.size) (by omega))
  have M5:=hid hn
  clear hn
  have S5:=hid (S4.out.trans hst)
  have z5:=hst.2.size
  clear hst
  have HR5:=hid hq
  clear hx hq
  have HQ:Hid (r= .ok (.mk 4 a1.2 [] 0 a1.1 (a3++ [a5])) j5):=(Option.some.inj HR5.out).symm
  have L:=hid (show (w5.alloc (.cells #[.pointer (some ⟨nb5,0,none⟩)] 25)).cell? ⟨w5.heap.size,0,none⟩=some (.pointer (some ⟨nb5,0,none⟩)) by simp [go_sem])
  have P0':=hid (P0.out.below (b1 w5 (.cells #[.pointer (some ⟨nb5,0,none⟩)] 25)))
  clear P0
  have P0:=P0'
  clear P0'
  have T':=hid (T.out.below (b1 w5 (.cells #[.pointer (some ⟨nb5,0,none⟩)] 25)))
  clear T
  have T:=T'
  clear T'
  have K3':=hid (K3.out.bl (b1 w5 (.cells #[.pointer (some ⟨nb5,0,none⟩)] 25)))
  clear K3
  have K3:=K3'
  clear K3'
  have N5':=hid (N5.out.bl (b1 w5 (.cells #[.pointer (some ⟨nb5,0,none⟩)] 25)))
  clear N5
  have N5:=N5'
  clear N5'
  have M5':=hid (M5.out.bl (b1 w5 (.cells #[.pointer (some ⟨nb5,0,none⟩)] 25)))
  clear M5
  have M5:=M5'
  clear M5'
  have S6:=hid (S5.out.below (b1 w5 (.cells #[.pointer (some ⟨nb5,0,none⟩)] 25)))
  have z6:=(b1 w5 (.cells #[.pointer (some ⟨nb5,0,none⟩)] 25)).size
  have y6:w5.heap.size<(w5.alloc (.cells #[.pointer (some ⟨nb5,0,none⟩)] 25)).heap.size:=by simp
  go_wp2_with (at_builtin;refine Hid.out ?_)
  generalize w5.alloc (.cells #[.pointer (some ⟨nb5,0,none⟩)] 25)=w6 at*
  refine hid ?_
  refine zzs rfl (.tmp 15) (.tmp 18) rfl w1.heap.size E.pl _ a3.length a3 rfl K3.out nb5 a5 N5.out (fun g hg=>M5.out.weak fun x hx _=>⟨by omega,by have:=KL.out g hg;omega⟩) _ rfl L.out (by omega) (by omega) ?_
  intro g7 cap7 w7 hk hg hy
  have P0':=hid (P0.out.grow hg (fun e=>by have:=hy _ e;omega))
  clear P0
  have P0:=P0'
  clear P0'
  have T':=hid (T.out.grow hg (fun e=>by have:=hy _ e;omega))
  clear T
  have T:=T'
  clear T'
  have S7:=hid (ST.grow H.out S6.out hg (fun y e=>by have:=hy y e;omega))
  have z7:=hg.size
  clear K3
  have K3:=hid hk
  clear hk hg hy
  have T0:=T.out.c0
  have T1:=T.out.c1
  have T2:=T.out.c2
  go_wp2_with fail
  refine (zzz _ _ _ _ _ _ _ _ _).mono ?_
  rintro e wz ⟨rfl,hb9,hrow⟩
  have P9:=P0.out.below hb9
  have q0:=P9.c0
  have f0:=P9.f0
  have HB9:=hid hb9
  have HROW:=hid hrow
  clear hb9 hrow P9
  unfold zzd
  go_wp2_with fail
  refine bodyPost_ret (v:=zzd w7.heap.size) (by unfold zzd;simp [results,Tryz.results92,go_sem,q0]) rfl ?_
  rw [HQ.out]
  have hrow:=HROW.out
  rw [X1.out] at hrow
  exact zqm H.out S7.out K3.out (by omega) HB9.out hrow (by omega) (by omega) _
 ·skip
  refine (is_no E _ j3 d ⟨#[123]⟩ S3.out.1 ht).mono ?_
  rintro e w8 ⟨rfl,hb⟩
  have P0':=hid (P0.out.below hb)
  clear P0
  have P0:=P0'
  clear P0'
  have T':=hid (T.out.below hb)
  clear T
  have T:=T'
  clear T'
  have K3':=hid (K3.out.bl hb)
  clear K3
  have K3:=K3'
  clear K3'
  have S8:=hid (S3.out.below hb)
  have z8:=hb.size
  clear hb
  go_wp2_with fail
  rcases zzc HR3.out with ⟨j9,er,hx9,hq⟩|⟨a9,j9,hx9,hq⟩
  all_goals have hx:=zk6 hx9 ht
  all_goals clear hx9 ht
  ·exact (zvv E _ j3 d (P E.T n) _ S8.out.1 hx).mono fun e w' h=>by obtain ⟨rfl,hg⟩:=h;exact ⟨rfl,by rw [hq];exact ⟨rfl,S8.out.2.trans hg⟩⟩
  refine (zvv E _ j3 d (P E.T n) _ S8.out.1 hx).mono ?_
  rintro e w9 ⟨v9,rfl,hv,hst⟩
  obtain rfl:=hv
  have P0':=hid (P0.out.kept hst.2 (by omega))
  clear P0
  have P0:=P0'
  clear P0'
  have T':=hid (T.out.kept hst.2 (by omega))
  clear T
  have T:=T'
  clear T'
  have K3':=hid (K3.out.st hst.2 (by omega))
  clear K3
  have K3:=K3'
  clear K3'
  have S9:=hid (S8.out.trans hst)
  have z9:=hst.2.size
  clear hst
  have HR9:=hid hq
  clear hx hq
  go_wp2_with fail
  have KL:=hid K3.out.lt
  rcases zzc HR9.out with ⟨j10,er,hx,hq⟩|⟨a10,j10,hx,hq⟩
  ·exact (zkz E _ j9 d n ih _ S9.out.1 hx).mono fun e w' h=>by obtain ⟨rfl,hg⟩:=h;exact ⟨rfl,by rw [hq];exact ⟨rfl,S9.out.2.trans hg⟩⟩
  refine (zkz E _ j9 d n ih _ S9.out.1 hx).mono ?_
  rintro e w10 ⟨v10,rfl,⟨nb10,hv,hn⟩,hst⟩
  obtain rfl:=hv
  unfold zzd
  have P0':=hid (P0.out.kept hst.2 (by omega))
  clear P0
  have P0:=P0'
  clear P0'
  have T':=hid (T.out.kept hst.2 (by omega))
  clear T
  have T:=T'
  clear T'
  have K3':=hid (K3.out.st hst.2 (by omega))
  clear K3
  have K3:=K3'
  clear K3'
  have N10:=hid (hn.from (B:=w1.heap.size) (by omega))
  have M10:=hid hn
  clear hn
  have S10:=hid (S9.out.trans hst)
  have z10:=hst.2.size
  clear hst
  have HR10:=hid hq
  clear hx hq
  have HQ:Hid (r= .ok (.mk 4 a1.2 a9 0 a1.1 (a3++ [a10])) j10):=(Option.some.inj HR10.out).symm
  have L:=hid (show (w10.alloc (.cells #[.pointer (some ⟨nb10,0,none⟩)] 25)).cell? ⟨w10.heap.size,0,none⟩=some (.pointer (some ⟨nb10,0,none⟩)) by simp [go_sem])
  have P0':=hid (P0.out.below (b1 w10 (.cells #[.pointer (some ⟨nb10,0,none⟩)] 25)))
  clear P0
  have P0:=P0'
  clear P0'
  have T':=hid (T.out.below (b1 w10 (.cells #[.pointer (some ⟨nb10,0,none⟩)] 25)))
  clear T
  have T:=T'
  clear T'
  have K3':=hid (K3.out.bl (b1 w10 (.cells #[.pointer (some ⟨nb10,0,none⟩)] 25)))
  clear K3
  have K3:=K3'
  clear K3'
  have N10':=hid (N10.out.bl (b1 w10 (.cells #[.pointer (some ⟨nb10,0,none⟩)] 25)))
  clear N10
  have N10:=N10'
  clear N10'
  have M10':=hid (M10.out.bl (b1 w10 (.cells #[.pointer (some ⟨nb10,0,none⟩)] 25)))
  clear M10
  have M10:=M10'
  clear M10'
  have S11:=hid (S10.out.below (b1 w10 (.cells #[.pointer (some ⟨nb10,0,none⟩)] 25)))
  have z11:=(b1 w10 (.cells #[.pointer (some ⟨nb10,0,none⟩)] 25)).size
  have y11:w10.heap.size<(w10.alloc (.cells #[.pointer (some ⟨nb10,0,none⟩)] 25)).heap.size:=by simp
  go_wp2_with (at_builtin;refine Hid.out ?_)
  generalize w10.alloc (.cells #[.pointer (some ⟨nb10,0,none⟩)] 25)=w11 at*
  refine hid ?_
  refine zzs rfl (.tmp 15) (.tmp 18) rfl w1.heap.size E.pl _ a3.length a3 rfl K3.out nb10 a10 N10.out (fun g hg=>M10.out.weak fun x hx _=>⟨by omega,by have:=KL.out g hg;omega⟩) _ rfl L.out (by omega) (by omega) ?_
  intro g12 cap12 w12 hk hg hy
  have P0':=hid (P0.out.grow hg (fun e=>by have:=hy _ e;omega))
  clear P0
  have P0:=P0'
  clear P0'
  have T':=hid (T.out.grow hg (fun e=>by have:=hy _ e;omega))
  clear T
  have T:=T'
  clear T'
  have S12:=hid (ST.grow H.out S11.out hg (fun y e=>by have:=hy y e;omega))
  have z12:=hg.size
  clear K3
  have K3:=hid hk
  clear hk hg hy
  have T0:=T.out.c0
  have T1:=T.out.c1
  have T2:=T.out.c2
  go_wp2_with fail
  refine (zzz _ _ _ _ _ _ _ _ _).mono ?_
  rintro e wz ⟨rfl,hb9,hrow⟩
  have P9:=P0.out.below hb9
  have q0:=P9.c0
  have f0:=P9.f0
  have HB9:=hid hb9
  have HROW:=hid hrow
  clear hb9 hrow P9
  unfold zzd
  go_wp2_with fail
  refine bodyPost_ret (v:=zzd w12.heap.size) (by unfold zzd;simp [results,Tryz.results92,go_sem,q0]) rfl ?_
  rw [HQ.out]
  have hrow:=HROW.out
  rw [X1.out] at hrow
  exact zqm H.out S12.out K3.out (by omega) HB9.out hrow (by omega) (by omega) _
theorem z01 (E:Env) (w:World) (i d:Nat) (n:Nat) (ih:IH E n) (r:Res Tree) (h:RD E w i d) (hr:Hid (runW E.T (P E.T n) (decl d) i=some r)):
 Calls Tryz.prog 54 #[.pointer (some ⟨E.rb,0,none⟩)] w (Q E w d (VN E w.heap.size) r):=by
 have H:=hid h
 have hr1:=h.lt
 have hf0:=zxw
 have hf1:=zxn
 have hf2:=zq7
 have S0:=hid (ST.below (ST.refl h) (b1 w (.cells #[.pointer none] 25)))
 have P0:=hid (PtrAt.new w none)
 have l0:=P0.out.lt
 clear h
 go_enter Tryz.func54,Tryz.ntmps54
 go_wp2_with fail
 generalize w.alloc (.cells #[.pointer none] 25)=wa at*
 by_cases ht:(E.T i).text=zwn
 ·skip
  have h0:=zq9 hr.out ht
  have HR1:=hid (zq4 h0)
  clear h0
  refine (zke E _ i d ⟨#[116,121,112,101]⟩ S0.out.1 ht (hid (by decide))).mono ?_
  rintro e w2 ⟨rfl,hst⟩
  have P0':=hid (P0.out.kept hst.2 (by omega))
  clear P0
  have P0:=P0'
  clear P0'
  have S2:=hid (S0.out.trans hst)
  have z2:=hst.2.size
  clear hst
  clear ht
  go_wp2_with fail
  rcases zxr HR1.out with ⟨j3,er,hx,hq⟩|⟨a3,j3,hx,hq⟩
  ·exact (z2o E _ (i+1) d n ih _ S2.out.1 hx).mono fun e w' h=>by obtain ⟨rfl,hg⟩:=h;exact ⟨rfl,by rw [hq];exact ⟨rfl,S2.out.2.trans hg⟩⟩
  refine (z2o E _ (i+1) d n ih _ S2.out.1 hx).mono ?_
  rintro e w3 ⟨v3,rfl,⟨nb3,hv,hn⟩,hst⟩
  obtain rfl:=hv
  unfold zzd
  have P0':=hid (P0.out.kept hst.2 (by omega))
  clear P0
  have P0:=P0'
  clear P0'
  have N3:=hid (hn.from (B:=w.heap.size) (by omega))
  clear hn
  have S3:=hid (S2.out.trans hst)
  have z3:=hst.2.size
  clear hst
  have HQ:=hid hq
  clear hx hq
  have q0:=P0.out.c0
  have f0:=P0.out.f0
  go_wp2_with fail
  refine bodyPost_ret (v:=zzd nb3) (by unfold zzd;simp [results,Tryz.results54,go_sem,q0]) rfl ?_
  rw [HQ.out]
  exact zz5 H.out S3.out N3.out (by omega) _
 ·skip
  have HR4:=hid (zk6 hr.out ht)
  refine (zk5 E _ i d ⟨#[116,121,112,101]⟩ S0.out.1 ht).mono ?_
  rintro e w5 ⟨rfl,hb⟩
  have P0':=hid (P0.out.below hb)
  clear P0
  have P0:=P0'
  clear P0'
  have S5:=hid (S0.out.below hb)
  have z5:=hb.size
  clear hb
  clear ht
  go_wp2_with fail
  by_cases ht:(E.T i).text=kVar
  ·skip
   have h0:=zkc HR4.out ht
   have HR6:=hid (zq4 h0)
   clear h0
   refine (zke E _ i d ⟨#[118,97,114]⟩ S5.out.1 ht (hid (by decide))).mono ?_
   rintro e w7 ⟨rfl,hst⟩
   have P0':=hid (P0.out.kept hst.2 (by omega))
   clear P0
   have P0:=P0'
   clear P0'
   have S7:=hid (S5.out.trans hst)
   have z7:=hst.2.size
   clear hst
   clear ht
   go_wp2_with fail
   rcases zxr HR6.out with ⟨j8,er,hx,hq⟩|⟨a8,j8,hx,hq⟩
   ·exact (z28 E _ (i+1) d (P E.T n) 3 (by omega) _ S7.out.1 hx).mono fun e w' h=>by obtain ⟨rfl,hg⟩:=h;exact ⟨rfl,by rw [hq];exact ⟨rfl,S7.out.2.trans hg⟩⟩
   refine (z28 E _ (i+1) d (P E.T n) 3 (by omega) _ S7.out.1 hx).mono ?_
   rintro e w8 ⟨v8,rfl,⟨nb8,hv,hn⟩,hst⟩
   obtain rfl:=hv
   unfold zzd
   have P0':=hid (P0.out.kept hst.2 (by omega))
   clear P0
   have P0:=P0'
   clear P0'
   have N8:=hid (hn.from (B:=w.heap.size) (by omega))
   clear hn
   have S8:=hid (S7.out.trans hst)
   have z8:=hst.2.size
   clear hst
   have HQ:=hid hq
   clear hx hq
   have q0:=P0.out.c0
   have f0:=P0.out.f0
   go_wp2_with fail
   refine bodyPost_ret (v:=zzd nb8) (by unfold zzd;simp [results,Tryz.results54,go_sem,q0]) rfl ?_
   rw [HQ.out]
   exact zz5 H.out S8.out N8.out (by omega) _
  ·skip
   have HR9:=hid (zqq HR4.out ht)
   refine (zk5 E _ i d ⟨#[118,97,114]⟩ S5.out.1 ht).mono ?_
   rintro e w10 ⟨rfl,hb⟩
   have P0':=hid (P0.out.below hb)
   clear P0
   have P0:=P0'
   clear P0'
   have S10:=hid (S5.out.below hb)
   have z10:=hb.size
   clear hb
   clear ht
   go_wp2_with fail
   by_cases ht:(E.T i).text=zk8
   ·skip
    have h0:=zkc HR9.out ht
    have HR11:=hid (zq4 h0)
    clear h0
    refine (zke E _ i d ⟨#[102,117,110,99]⟩ S10.out.1 ht (hid (by decide))).mono ?_
    rintro e w12 ⟨rfl,hst⟩
    have P0':=hid (P0.out.kept hst.2 (by omega))
    clear P0
    have P0:=P0'
    clear P0'
    have S12:=hid (S10.out.trans hst)
    have z12:=hst.2.size
    clear hst
    clear ht
    go_wp2_with fail
    rcases zxr HR11.out with ⟨j13,er,hx,hq⟩|⟨a13,j13,hx,hq⟩
    ·exact (function_any E _ (i+1) d n ih _ S12.out.1 hx).mono fun e w' h=>by obtain ⟨rfl,hg⟩:=h;exact ⟨rfl,by rw [hq];exact ⟨rfl,S12.out.2.trans hg⟩⟩
    refine (function_any E _ (i+1) d n ih _ S12.out.1 hx).mono ?_
    rintro e w13 ⟨v13,rfl,⟨nb13,hv,hn⟩,hst⟩
    obtain rfl:=hv
    unfold zzd
    have P0':=hid (P0.out.kept hst.2 (by omega))
    clear P0
    have P0:=P0'
    clear P0'
    have N13:=hid (hn.from (B:=w.heap.size) (by omega))
    clear hn
    have S13:=hid (S12.out.trans hst)
    have z13:=hst.2.size
    clear hst
    have HQ:=hid hq
    clear hx hq
    have q0:=P0.out.c0
    have f0:=P0.out.f0
    go_wp2_with fail
    refine bodyPost_ret (v:=zzd nb13) (by unfold zzd;simp [results,Tryz.results54,go_sem,q0]) rfl ?_
    rw [HQ.out]
    exact zz5 H.out S13.out N13.out (by omega) _
   ·skip
    have HR14:=hid (zqq HR9.out ht)
    refine (zk5 E _ i d ⟨#[102,117,110,99]⟩ S10.out.1 ht).mono ?_
    rintro e w15 ⟨rfl,hb⟩
    have P0':=hid (P0.out.below hb)
    clear P0
    have P0:=P0'
    clear P0'
    have S15:=hid (S10.out.below hb)
    have z15:=hb.size
    clear hb
    clear ht
    go_wp2_with fail
    have HQ:=hid (run_fail HR14.out)
    refine (z1h E _ i d S15.out.1).mono ?_
    rintro e w16 ⟨rfl,hb⟩
    have P0':=hid (P0.out.below hb)
    clear P0
    have P0:=P0'
    clear P0'
    have S16:=hid (S15.out.below hb)
    have z16:=hb.size
    clear hb
    go_wp2_with fail
    refine ⟨rfl,?_⟩
    rw [HQ.out]
    exact ⟨rfl,S16.out.2⟩
theorem decl_prog {T:Nat→AT} {z m d i j:Nat} {x:Tree} (S:Sent T z) (_:i≤z) (h:runW T (P T m) (decl d) i=some (.ok x j)):i+1≤j∧j≤z:=by
 have h2:=z0m T (Nat.le_max_left m (4*(z+1)+4)) _ _ _ h
 refine z2l (tot_decl S d i fun nt d j hok h1 hj=>z2i S _ nt d j hok hj ?_) h2
 have:=rank_le nt
 omega
theorem program_any (E:Env) (w:World) (n:Nat) (ih:IH E n) (r:Res (List Tree)) (h:RD E w 0 0) (hroot:E.pl (E.z+1)=0) (hr:Hid (P E.T n .decls 0 0=some r)):
 Calls Tryz.prog 34 #[.pointer (some ⟨E.rb,0,none⟩)] w (Q E w 0 (fun ks=>VN E w.heap.size (.mk 1 [] [] 0 (E.z+1) ks)) r):=by
 have HROOT:=hid hroot
 clear hroot
 have H:=hid h
 have hr1:=h.lt
 have hf0:=zxw
 have hf1:=zxn
 have hf2:=zq7
 have S0:=hid (ST.below (ST.refl h) (b1 w (.cells #[.pointer none] 25)))
 have P0:=hid (PtrAt.new w none)
 have l0:=P0.out.lt
 clear h
 go_enter Tryz.func34,Tryz.ntmps34
 go_wp2_with fail
 generalize w.alloc (.cells #[.pointer none] 25)=wa at*
 have hz:=H.out.zle
 go_loopw [3] (fun v wr=>KRel E n w w.heap.size .decls 0 r v wr) (fun _ wr=>E.z - nx E wr)
 case atStart=>exact ⟨n,0,0,[],r,Nat.le_refl _,Nat.zero_le _,by omega,hr,hid (z1f r).symm,KidsIn.nil _ _ _,S0,P0⟩
 case round=>
  obtain ⟨m,k,iq,ts,rq,hm,hk,hB,HP,HE,K,S,P0⟩:=hrel
  obtain ⟨m,rfl,hp⟩:=P_pos HP.out
  have HR:=hid hp
  clear hp HP
  have hiz:=S.out.1.ile
  have hnx:=S.out.1.at_nx
  have HNX:=hid hnx
  clear hnx
  have r0:=S.out.1.c0
  have r1:=S.out.1.c1
  by_cases ht:iq<E.z
  ·skip
   have hk0:=S.out.1.sent.some iq ht
   have HR2:=hid (zqq (zvc HR.out) hk0)
   clear hk0
   have hlt:(iq:Int)<(E.z:Int):=by omega
   have hlt2:decide (iq<E.z)=true:=by simpa using ht
   go_wp2_with fail
   go_quiet (fail)
   have S1:=hid (S.out.below (zxv (Below.refl _ _) nq))
   have K':=hid (K.out.bl (zxv (Below.refl _ wr) nq))
   clear K
   have K:=K'
   clear K'
   have P0':=hid (P0.out.below (zxv (Below.refl _ wr) nq))
   clear P0
   have P0:=P0'
   clear P0'
   have zq:=(zxv (Below.refl wr.heap.size wr) nq).size
   generalize wr.drewN nq=w1 at*
   clear r0 r1
   go_wp2_with fail
   have KL:=hid K.out.lt
   rcases zzc HR2.out with ⟨j2,er,hx,hq⟩|⟨a2,j2,hx,hq⟩
   ·exact (z01 E _ iq 0 n ih _ S1.out.1 (z0m E.T (by omega) _ _ _ hx)).mono fun e w' h=>by obtain ⟨rfl,hg⟩:=h;exact ⟨rfl,by rw [HE.out,hq];exact ⟨rfl,S1.out.2.trans hg⟩⟩
   have hpr:=decl_prog S1.out.1.sent S1.out.1.ile hx
   refine (z01 E _ iq 0 n ih _ S1.out.1 (z0m E.T (by omega) _ _ _ hx)).mono ?_
   rintro e w2 ⟨v2,rfl,⟨nb2,hv,hn⟩,hst⟩
   obtain rfl:=hv
   unfold zzd
   have K':=hid (K.out.st hst.2 (by omega))
   clear K
   have K:=K'
   clear K'
   have P0':=hid (P0.out.kept hst.2 (by omega))
   clear P0
   have P0:=P0'
   clear P0'
   have N2:=hid (hn.from (B:=w.heap.size) (by omega))
   have M2:=hid hn
   clear hn
   have S2:=hid (S1.out.trans hst)
   have z2:=hst.2.size
   clear hst
   rcases zxx hq with ⟨jz,er,hy,hq2⟩|⟨az,jz,hy,hq2⟩
   ·skip
    have HP:Hid (P E.T m .decls 0 j2=some (.bad jz er)):=hy
    have HE2:Hid (r=preR (ts++ [a2]) (.bad jz er)):=by show _=_;rw [HE.out,hq2];rfl
    clear hx hq hy hq2
    have L:=hid (show (w2.alloc (.cells #[.pointer (some ⟨nb2,0,none⟩)] 25)).cell? ⟨w2.heap.size,0,none⟩=some (.pointer (some ⟨nb2,0,none⟩)) by simp [go_sem])
    have K':=hid (K.out.bl (b1 w2 (.cells #[.pointer (some ⟨nb2,0,none⟩)] 25)))
    clear K
    have K:=K'
    clear K'
    have P0':=hid (P0.out.below (b1 w2 (.cells #[.pointer (some ⟨nb2,0,none⟩)] 25)))
    clear P0
    have P0:=P0'
    clear P0'
    have N2':=hid (N2.out.bl (b1 w2 (.cells #[.pointer (some ⟨nb2,0,none⟩)] 25)))
    clear N2
    have N2:=N2'
    clear N2'
    have M2':=hid (M2.out.bl (b1 w2 (.cells #[.pointer (some ⟨nb2,0,none⟩)] 25)))
    clear M2
    have M2:=M2'
    clear M2'
    have S3:=hid (S2.out.below (b1 w2 (.cells #[.pointer (some ⟨nb2,0,none⟩)] 25)))
    have z3:=(b1 w2 (.cells #[.pointer (some ⟨nb2,0,none⟩)] 25)).size
    have y3:w2.heap.size<(w2.alloc (.cells #[.pointer (some ⟨nb2,0,none⟩)] 25)).heap.size:=by simp
    go_wp2_with (at_builtin;refine Hid.out ?_)
    generalize w2.alloc (.cells #[.pointer (some ⟨nb2,0,none⟩)] 25)=w3 at*
    refine hid ?_
    refine zzs rfl (.tmp 15) (.tmp 18) rfl w.heap.size E.pl _ k ts rfl K.out nb2 a2 N2.out (fun g hg=>M2.out.weak fun x hx _=>⟨by omega,by have:=KL.out g hg;omega⟩) _ rfl L.out (by omega) (by omega) ?_
    intro g4 cap4 w4 hk hg hy
    have P0':=hid (P0.out.grow hg (fun e=>by have:=hy _ e;omega))
    clear P0
    have P0:=P0'
    clear P0'
    have S4:=hid (ST.grow H.out S3.out hg (fun y e=>by have:=hy y e;omega))
    have z4:=hg.size
    clear K
    have K:=hid hk
    clear hk hg hy
    have hnx2:=S4.out.1.at_nx
    have HNX2:=hid hnx2
    clear hnx2
    go_wp2_with fail
    go_roundw
    case rel=>exact ⟨m,k+1,_,_,_,by omega,by omega,by omega,HP,HE2,K,S4,P0⟩
    case measure=>rw [HNX.out,HNX2.out];omega
   ·skip
    have HP:Hid (P E.T m .decls 0 j2=some (.ok az jz)):=hy
    have HE2:Hid (r=preR (ts++ [a2]) (.ok az jz)):=by show _=_;rw [HE.out,zz7 hq2];simp [preR]
    clear hx hq hy hq2
    have L:=hid (show (w2.alloc (.cells #[.pointer (some ⟨nb2,0,none⟩)] 25)).cell? ⟨w2.heap.size,0,none⟩=some (.pointer (some ⟨nb2,0,none⟩)) by simp [go_sem])
    have K':=hid (K.out.bl (b1 w2 (.cells #[.pointer (some ⟨nb2,0,none⟩)] 25)))
    clear K
    have K:=K'
    clear K'
    have P0':=hid (P0.out.below (b1 w2 (.cells #[.pointer (some ⟨nb2,0,none⟩)] 25)))
    clear P0
    have P0:=P0'
    clear P0'
    have N2':=hid (N2.out.bl (b1 w2 (.cells #[.pointer (some ⟨nb2,0,none⟩)] 25)))
    clear N2
    have N2:=N2'
    clear N2'
    have M2':=hid (M2.out.bl (b1 w2 (.cells #[.pointer (some ⟨nb2,0,none⟩)] 25)))
    clear M2
    have M2:=M2'
    clear M2'
    have S5:=hid (S2.out.below (b1 w2 (.cells #[.pointer (some ⟨nb2,0,none⟩)] 25)))
    have z5:=(b1 w2 (.cells #[.pointer (some ⟨nb2,0,none⟩)] 25)).size
    have y5:w2.heap.size<(w2.alloc (.cells #[.pointer (some ⟨nb2,0,none⟩)] 25)).heap.size:=by simp
    go_wp2_with (at_builtin;refine Hid.out ?_)
    generalize w2.alloc (.cells #[.pointer (some ⟨nb2,0,none⟩)] 25)=w5 at*
    refine hid ?_
    refine zzs rfl (.tmp 15) (.tmp 18) rfl w.heap.size E.pl _ k ts rfl K.out nb2 a2 N2.out (fun g hg=>M2.out.weak fun x hx _=>⟨by omega,by have:=KL.out g hg;omega⟩) _ rfl L.out (by omega) (by omega) ?_
    intro g6 cap6 w6 hk hg hy
    have P0':=hid (P0.out.grow hg (fun e=>by have:=hy _ e;omega))
    clear P0
    have P0:=P0'
    clear P0'
    have S6:=hid (ST.grow H.out S5.out hg (fun y e=>by have:=hy y e;omega))
    have z6:=hg.size
    clear K
    have K:=hid hk
    clear hk hg hy
    have hnx2:=S6.out.1.at_nx
    have HNX2:=hid hnx2
    clear hnx2
    go_wp2_with fail
    go_roundw
    case rel=>exact ⟨m,k+1,_,_,_,by omega,by omega,by omega,HP,HE2,K,S6,P0⟩
    case measure=>rw [HNX.out,HNX2.out];omega
  ·skip
   have hk0:(E.T iq).kind=0:=by rw [S.out.1.sent.stop iq (by omega)]
   have hq:=zz7 (zkc (zvc HR.out) hk0)
   have HQ:Hid (r= .ok ts iq):=by show _=_;rw [HE.out,hq];simp [preR]
   clear hk0 hq
   have hlt:¬ (iq:Int)<(E.z:Int):=by omega
   have hlt2:decide (iq<E.z)=false:=by simpa using ht
   go_wp2_with fail
   go_quiet (fail)
   have S1:=hid (S.out.below (zxv (Below.refl _ _) nq))
   have K':=hid (K.out.bl (zxv (Below.refl _ wr) nq))
   clear K
   have K:=K'
   clear K'
   have P0':=hid (P0.out.below (zxv (Below.refl _ wr) nq))
   clear P0
   have P0:=P0'
   clear P0'
   have zq:=(zxv (Below.refl wr.heap.size wr) nq).size
   generalize wr.drewN nq=w1 at*
   clear r0 r1
   obtain ⟨Ak,ck,hvk,-,-⟩:=K.out.slice
   subst hvk
   go_wp2_with fail
   refine (zzz _ _ _ _ _ _ _ _ _).mono ?_
   rintro e wz ⟨rfl,hb9,hrow⟩
   have P9:=P0.out.below hb9
   have q0:=P9.c0
   have f0:=P9.f0
   have HB9:=hid hb9
   have HROW:=hid hrow
   clear hb9 hrow P9
   unfold zzd
   go_wp2_with fail
   refine bodyPost_ret (v:=zzd w1.heap.size) (by unfold zzd;simp [results,Tryz.results34,go_sem,q0]) rfl ?_
   rw [HQ.out]
   have hrow:RowAt wz w1.heap.size (1:Nat) ⟨([]:List UInt8).toArray⟩ ⟨([]:List UInt8).toArray⟩ 0 (E.pl (E.z+1)) (.slice Ak k ck):=by rw [HROOT.out];exact HROW.out
   obtain ⟨v,h1,h2,h3⟩:=zqm (d:=0) H.out S1.out K.out (by omega) HB9.out hrow (by omega) (by omega) (.pointer (some ⟨w1.heap.size,0,none⟩))
   exact ⟨v,h1,h2,h3⟩
theorem single_run {T:Nat→AT} {c:zxl} {p:Pr Tree} {i:Nat} {r:Res (List Tree)} (h:runW T c (zwj p) i=some r):∃ r',runW T c p i=some r'∧((∃ j e,r'= .bad j e∧r= .bad j e)∨∃ t j,r'= .ok t j∧r= .ok [t] j):=by
 rcases zzc h with ⟨j,e,h1,h2⟩|⟨t,j,h1,h2⟩
 ·exact ⟨_,h1,.inl ⟨j,e,rfl,h2⟩⟩
 ·exact ⟨_,h1,.inr ⟨t,j,rfl,zz7 h2⟩⟩
theorem zw1 {E:Env} {f:FuncId} {args:Array Value} {w:World} {d:Nat} {c:zxl} {p:Pr Tree} {i:Nat} {r:Res (List Tree)} (h:runW E.T c (zwj p) i=some r) (hc:∀ r',Hid (runW E.T c p i=some r')→Calls Tryz.prog f args w (Q E w d (VN E w.heap.size) r')):Calls Tryz.prog f args w (Q E w d (VH E w.heap.size) r):=by
 obtain ⟨r',h1,h2⟩:=single_run h
 refine (hc r' h1).mono ?_
 intro e w' hq
 rcases h2 with ⟨j,er,rfl,rfl⟩|⟨t,j,rfl,rfl⟩
 ·exact hq
 ·exact hq
theorem all_any (E:Env) (n:Nat):IH E n:=by
 induction n with
 |zero=>
  refine ⟨?_,?_,?_,?_⟩
  ·intro w i d l r h1 h6 hrd hp;cases hp.out
  ·intro w i d r hrd hp;cases hp.out
  ·intro w i d r hrd hp;cases hp.out
  ·intro w i d r hrd hp;cases hp.out
 |succ n ih=>
  refine ⟨?_,?_,?_,?_⟩
  ·intro w i d l r h1 h6 hrd hp
   exact zw1 (p:=binary l d) hp.out fun r' hr'=>binary_any E w i d n ih l h1 h6 r' hrd hr'
  ·intro w i d r hrd hp
   exact zw1 (p:=unary d) hp.out fun r' hr'=>unary_any E w i d n ih r' hrd hr'
  ·intro w i d r hrd hp
   exact zw1 (p:=stmt d) hp.out fun r' hr'=>statement_any E w i d n ih r' hrd hr'
  ·intro w i d r hrd hp
   exact zw1 (p:=branch d) hp.out fun r' hr'=>branch_any E w i d n ih r' hrd hr'
def Chain (l:List UInt8):Nat→List Tok→Prop
 |_,[]=>True
 |e,t::r=>e≤t.place∧0<t.text.length∧t.place+t.text.length≤l.length∧(l.drop t.place).take t.text.length=t.text∧Chain l (t.place+t.text.length) r
theorem Chain.mono {l:List UInt8} {e e':Nat} {ts:List Tok} (h:Chain l e ts) (he:e'≤e):Chain l e' ts:=by
 cases ts with
 |nil=>trivial
 |cons t r=>exact ⟨Nat.le_trans he h.1,h.2⟩
def TokOK (t:Tok):Prop:=∃ c r,t.text=c::r∧blkB c=false∧∀ rest:List UInt8,(rest= []∨∃ q,rest=32::q)→comB (t.text++rest)=false∧tokT (t.text++rest)=⟨0,t.kind,t.text.length⟩
theorem runN_stop {f:UInt8→Bool} (x rest:List UInt8) (hx:x.all f=true) (hr:∀ c q,rest=c::q→f c=false):runN f (x++rest)=x.length:=by
 induction x with
 |nil=>
  cases rest with
  |nil=>rfl
  |cons c q=>rw [List.nil_append,zji q (hr c q rfl)];rfl
 |cons c r ih=>
  rw [List.all_cons,Bool.and_eq_true] at hx
  rw [List.cons_append,zq5 _ hx.1,ih hx.2];rfl
theorem zv0 (f:UInt8→Bool) (l:List UInt8):(l.take (runN f l)).all f=true:=by
 induction l with
 |nil=>rfl
 |cons c r ih=>
  cases h:f c with
  |true=>rw [zq5 r h,List.take_succ_cons,List.all_cons,h,ih];rfl
  |false=>rw [zji r h];rfl
theorem rest_stop {f:UInt8→Bool} (h32:f 32=false) {rest:List UInt8} (hr:rest= []∨∃ q,rest=32::q):∀ c q,rest=c::q→f c=false:=by
 rintro c q rfl
 rcases hr with hr|⟨q',hr⟩
 ·cases hr
 ·injection hr with hr _;rw [hr];exact h32
theorem com_first {c:UInt8} (r:List UInt8) (h:c.toNat≠47):comB (c::r)=false:=by
 cases r with
 |nil=>rfl
 |cons d r=>simp [comB,h]
theorem word_kind {l:List UInt8} (h:(zv7 l).err=0):(zv7 l).len=runN wchB l∧¬ 12<runN wchB l∧(zv7 l).kind=(if keyB (l.take (runN wchB l)) then 2 else 1):=by
 unfold zv7 at h ⊢
 by_cases h1:12<runN wchB l
 ·rw [if_pos h1] at h;exact absurd h (by simp)
 ·rw [if_neg h1]
  by_cases h2:keyB (l.take (runN wchB l))=true
  ·rw [if_pos h2,if_pos h2];exact ⟨rfl,h1,rfl⟩
  ·rw [if_neg h2,if_neg h2];exact ⟨rfl,h1,rfl⟩
theorem num_kind {l:List UInt8} (h:(numT l).err=0):(numT l).len=runN digB l∧(numT l).kind=3∧parE (l.take (runN digB l))=0:=by
 unfold numT at h ⊢
 by_cases h1:zv6 (l.drop (runN digB l))=true
 ·rw [if_pos h1] at h;exact absurd h (by simp)
 ·rw [if_neg h1] at h ⊢
  by_cases h2:parE (l.take (runN digB l))=0
  ·rw [if_pos h2];exact ⟨rfl,rfl,h2⟩
  ·rw [if_neg h2] at h;exact absurd h h2
theorem let_dig {c:UInt8} (h:letB c=true):digB c=false:=by
 unfold letB at h;unfold digB
 simp at h ⊢
 omega
theorem long_set {l:List UInt8} (h:longB l=true):∃ a b q,l=a::b::q∧longTab.contains [a,b]=true:=by
 match l with
 | []=>exact absurd h (by decide)
 | [a]=>simp [longB,longTab] at h
 |a::b::q=>exact ⟨a,b,q,rfl,h⟩
theorem long_cases {a b:UInt8} (h:longTab.contains [a,b]=true):letB a=false∧digB a=false∧¬ (a.toNat=47∧b.toNat=47):=by
 simp [longTab] at h
 rcases h with h|h|h|h|h|h|h|h|h<;>obtain ⟨rfl,rfl⟩:=h<;>decide
theorem long_no32 (c:UInt8):longTab.contains [c,32]=false:=by
 simp [longTab]
theorem long_no10 (c:UInt8):longTab.contains [c,10]=false:=by
 simp [longTab]
theorem long_no1 (c:UInt8):longTab.contains [c]=false:=by
 simp [longTab]
theorem after_rest {rest:List UInt8} (hr:rest= []∨∃ q,rest=32::q):zv6 rest=false:=by
 rcases hr with rfl|⟨q,rfl⟩
 ·rfl
 ·show letB 32=false;decide
theorem tok_word {c:UInt8} {r:List UInt8} (p:Nat) (h1:letB c=true) (hb:blkB c=false) (h:(zv7 (c::r)).err=0):TokOK ⟨(zv7 (c::r)).kind,(c::r).take (zv7 (c::r)).len,p⟩:=by
 obtain ⟨h2,h3,h4⟩:=word_kind h
 have hw:wchB c=true:=by simp [wchB,h1]
 have hp:=zq5 r hw
 have hall:=zv0 wchB (c::r)
 have hlen:((c::r).take (runN wchB (c::r))).length=runN wchB (c::r):=by rw [List.length_take];exact Nat.min_eq_left (z1x _ _)
 have hcons:(c::r).take (runN wchB (c::r))=c::r.take (runN wchB r):=by rw [hp,List.take_succ_cons]
 rw [h2,h4]
 refine ⟨c,r.take (runN wchB r),hcons,hb,fun rest hr=> ?_⟩
 show comB ((c::r).take (runN wchB (c::r))++rest)=false∧tokT ((c::r).take (runN wchB (c::r))++rest)=⟨0,_,((c::r).take (runN wchB (c::r))).length⟩
 have hrun:runN wchB ((c::r).take (runN wchB (c::r))++rest)=((c::r).take (runN wchB (c::r))).length:=runN_stop _ _ hall (rest_stop (by decide) hr)
 generalize hx:(c::r).take (runN wchB (c::r))=x at*
 constructor
 ·rw [hcons,List.cons_append]
  apply com_first
  intro e
  have:letB c=true:=h1
  unfold letB at this
  simp at this
  omega
 ·have:tokT (x++rest)=zv7 (x++rest):=by rw [hcons,List.cons_append];exact zwx _ h1
  rw [this]
  unfold zv7
  rw [hrun,List.take_left,if_neg (by omega)]
  cases keyB x<;>rfl
theorem tok_num {c:UInt8} {r:List UInt8} (p:Nat) (h1:letB c=false) (hd:digB c=true) (hb:blkB c=false) (h:(numT (c::r)).err=0):TokOK ⟨(numT (c::r)).kind,(c::r).take (numT (c::r)).len,p⟩:=by
 obtain ⟨h2,h4,h5⟩:=num_kind h
 have hp:=zq5 r hd
 have hall:=zv0 digB (c::r)
 have hcons:(c::r).take (runN digB (c::r))=c::r.take (runN digB r):=by rw [hp,List.take_succ_cons]
 rw [h2,h4]
 refine ⟨c,r.take (runN digB r),hcons,hb,fun rest hr=> ?_⟩
 show comB ((c::r).take (runN digB (c::r))++rest)=false∧tokT ((c::r).take (runN digB (c::r))++rest)=⟨0,_,((c::r).take (runN digB (c::r))).length⟩
 have hrun:runN digB ((c::r).take (runN digB (c::r))++rest)=((c::r).take (runN digB (c::r))).length:=runN_stop _ _ hall (rest_stop (by decide) hr)
 generalize hx:(c::r).take (runN digB (c::r))=x at*
 constructor
 ·rw [hcons,List.cons_append]
  apply com_first
  intro e
  have:digB c=true:=hd
  unfold digB at this
  simp at this
  omega
 ·have:tokT (x++rest)=numT (x++rest):=by rw [hcons,List.cons_append];exact zvx _ h1 hd
  rw [this]
  unfold numT
  rw [hrun,List.take_left,List.drop_left,after_rest hr,if_neg (by decide),if_pos h5]
theorem tok_sign {c:UInt8} {r:List UInt8} (p:Nat) (h1:letB c=false) (hd:digB c=false) (hb:blkB c=false) (h:(zv9 (c::r) c).err=0):TokOK ⟨(zv9 (c::r) c).kind,(c::r).take (zv9 (c::r) c).len,p⟩:=by
 by_cases hl:longB (c::r)=true
 ·obtain ⟨a,b,q,he,hc⟩:=long_set hl
  injection he with he1 he2
  subst he1 he2
  have hs:zv9 (c::b::q) c=⟨0,4,2⟩:=by unfold zv9;rw [if_pos hl]
  rw [hs]
  refine ⟨c,[b],rfl,hb,fun rest hr=> ?_⟩
  show comB (c::b::rest)=false∧tokT (c::b::rest)=⟨0,4,2⟩
  constructor
  ·have:=(long_cases hc).2.2
   simp only [comB,Bool.and_eq_false_iff,decide_eq_false_iff_not]
   by_cases e:c.toNat=47
   ·exact Or.inr (fun e2=>this ⟨e,e2⟩)
   ·exact Or.inl e
  ·rw [zjf _ h1 hd]
   unfold zv9
   rw [if_pos (show longB (c::b::rest)=true from hc)]
 ·have hs0:shortB c=true:=by
   unfold zv9 at h
   rw [if_neg hl] at h
   by_cases h4:shortB c=true
   ·exact h4
   ·rw [if_neg h4] at h;exact absurd h (by simp)
  have hs:zv9 (c::r) c=⟨0,4,1⟩:=by unfold zv9;rw [if_neg hl,if_pos hs0]
  rw [hs]
  refine ⟨c,[],rfl,hb,fun rest hr=> ?_⟩
  show comB (c::rest)=false∧tokT (c::rest)=⟨0,4,1⟩
  rcases hr with rfl|⟨q,rfl⟩
  ·refine ⟨rfl,?_⟩
   rw [zjf _ h1 hd]
   unfold zv9
   rw [if_neg (by rw [show longB [c]=false from long_no1 c];decide),if_pos hs0]
  ·refine ⟨by simp [comB],?_⟩
   rw [zjf _ h1 hd]
   unfold zv9
   rw [if_neg (by rw [show longB (c::32::q)=false from long_no32 c];decide),if_pos hs0]
theorem tok_ok {c:UInt8} {r:List UInt8} (p:Nat) (hb:blkB c=false) (h:(tokT (c::r)).err=0):TokOK ⟨(tokT (c::r)).kind,(c::r).take (tokT (c::r)).len,p⟩:=by
 cases h1:letB c with
 |true=>rw [zwx r h1] at h ⊢;exact tok_word p h1 hb h
 |false=>
  cases h2:digB c with
  |true=>rw [zvx r h1 h2] at h ⊢;exact tok_num p h1 h2 hb h
  |false=>rw [zjf r h1 h2] at h ⊢;exact tok_sign p h1 h2 hb h
theorem sc_chain (l:List UInt8):∀ (n k:Nat) (ts:List Tok),l.length - k≤n→k≤l.length→sc l k= .ok ts→Chain l k ts∧(∀ t∈ts,TokOK t)∧ts.length+k≤l.length:=by
 intro n
 induction n with
 |zero=>
  intro k ts hn hk h
  rw [sc_end (by omega)] at h
  injection h with h
  subst h
  exact ⟨trivial,by simp,by simpa using hk⟩
 |succ n ih=>
  intro k ts hn hk h
  by_cases hlt:k<l.length
  ·by_cases hb:blkB l[k]=true
   ·rw [sc_blk hlt hb] at h
    obtain ⟨a,b,c⟩:=ih (k+1) ts (by omega) (by omega) h
    exact ⟨a.mono (by omega),b,by omega⟩
   ·have hb':blkB l[k]=false:=by simpa using hb
    by_cases hc:zvt l k=true
    ·have h1:=z3f hlt hc
     have h2:zq8 zqs l k≤l.length:=z1k hk
     rw [sc_com hlt hb' hc] at h
     obtain ⟨a,b,c⟩:=ih _ ts (by omega) h2 h
     exact ⟨a.mono (by omega),b,by omega⟩
    ·have hc':zvt l k=false:=by simpa using hc
     by_cases he:(zkw l k).err=0
     ·have hln:=tokAt_len hlt he
      have htl:((l.drop k).take (zkw l k).len).length=(zkw l k).len:=by rw [List.length_take,List.length_drop];omega
      rw [sc_tok hlt hb' hc' he] at h
      cases hr:sc l (k+(zkw l k).len) with
      |bad p e=>rw [hr] at h;simp [R.pre] at h
      |ok us=>
       rw [hr] at h
       simp only [R.pre,List.cons_append,List.nil_append] at h
       injection h with h
       subst h
       obtain ⟨a,b,c⟩:=ih _ us (by omega) (by omega) hr
       have hok:TokOK ⟨(zkw l k).kind,(l.drop k).take (zkw l k).len,k⟩:=by
        unfold zkw at he ⊢
        rw [List.drop_eq_getElem_cons hlt] at he ⊢
        exact tok_ok k hb' he
       refine ⟨⟨Nat.le_refl _,by rw [htl];omega,by rw [htl];exact hln.2,by rw [htl],by rw [htl];exact a⟩,?_,by simp only [List.length_cons];omega⟩
       intro t ht
       rcases List.mem_cons.1 ht with rfl|ht
       ·exact hok
       ·exact b t ht
     ·rw [sc_bad hlt hb' hc' he] at h;cases h
  ·rw [sc_end (by omega)] at h
   injection h with h
   subst h
   exact ⟨trivial,by simp,by simpa using hk⟩
theorem sc_bad_lt (l:List UInt8):∀ (n k p e:Nat),l.length - k≤n→sc l k= .bad p e→p<l.length∧e≠0:=by
 intro n
 induction n with
 |zero=>
  intro k p e hn h
  rw [sc_end (by omega)] at h;cases h
 |succ n ih=>
  intro k p e hn h
  by_cases hlt:k<l.length
  ·by_cases hb:blkB l[k]=true
   ·rw [sc_blk hlt hb] at h
    exact ih _ p e (by omega) h
   ·have hb':blkB l[k]=false:=by simpa using hb
    by_cases hc:zvt l k=true
    ·have h1:=z3f hlt hc
     rw [sc_com hlt hb' hc] at h
     exact ih _ p e (by omega) h
    ·have hc':zvt l k=false:=by simpa using hc
     by_cases he:(zkw l k).err=0
     ·have hln:=tokAt_len hlt he
      rw [sc_tok hlt hb' hc' he] at h
      cases hr:sc l (k+(zkw l k).len) with
      |bad p' e'=>
       rw [hr] at h
       simp only [R.pre,R.bad.injEq] at h
       obtain ⟨rfl,rfl⟩:=h
       exact ih _ _ _ (by omega) hr
      |ok us=>rw [hr] at h;simp [R.pre] at h
     ·rw [sc_bad hlt hb' hc' he] at h
      injection h with h1 h2
      subst h1 h2
      exact ⟨hlt,he⟩
  ·rw [sc_end (by omega)] at h;cases h
def jt:List Tok→List UInt8
 | []=> []
 |t::r=>32::(t.text++jt r)
theorem jt_rest (r:List Tok):jt r= []∨∃ q,jt r=32::q:=by
 cases r with
 |nil=>exact Or.inl rfl
 |cons t r=>exact Or.inr ⟨_,rfl⟩
theorem jt_tail (r:List Tok):Lib.joinTail [32] (r.map (·.text))=jt r:=by
 induction r with
 |nil=>rfl
 |cons t r ih=>
  have:Lib.joinTail [32] ((t::r).map (·.text))=([32]++t.text)++Lib.joinTail [32] (r.map (·.text)):=by simp [Lib.joinTail]
  rw [this,ih];simp [jt]
theorem join_jt (t:Tok) (r:List Tok):Lib.join ((t::r).map (·.text)) [32]=t.text++jt r:=by
 rw [List.map_cons,Lib.join_cons,jt_tail]
def same (ms ts:List Tok):Prop:=ms.map (fun t=>(t.kind,t.text))=ts.map (fun t=>(t.kind,t.text))
theorem scan_one {t:Tok} (h:TokOK t) (rest:List UInt8) (hr:rest= []∨∃ q,rest=32::q) (p:Nat):zvk (t.text++rest) p=(zvk rest (p+t.text.length)).pre [⟨t.kind,t.text,p⟩]:=by
 obtain ⟨c,r,he,hb,hk⟩:=h
 obtain ⟨h1,h2⟩:=hk rest hr
 have h3:=he
 generalize t.text=x at*
 subst h3
 rw [List.cons_append] at h1 h2 ⊢
 rw [zwk p hb h1 (by rw [h2]),h2]
 show (zvk (((c::r)++rest).drop (c::r).length) _).pre [⟨t.kind,((c::r)++rest).take (c::r).length,p⟩]=_
 rw [List.drop_left,List.take_left]
theorem scan_jt (ts:List Tok):∀ p:Nat,(∀ t∈ts,TokOK t)→∃ ms,zvk (jt ts) p= .ok ms∧same ms ts:=by
 induction ts with
 |nil=>intro p _;exact ⟨[],rfl,rfl⟩
 |cons t r ih=>
  intro p h
  obtain ⟨ms,h1,h2⟩:=ih (p+1+t.text.length) (fun u hu=>h u (List.mem_cons_of_mem _ hu))
  refine ⟨⟨t.kind,t.text,p+1⟩::ms,?_,?_⟩
  ·show zvk (32::(t.text++jt r)) p=_
   rw [zjz p (by decide),scan_one (h t (List.mem_cons_self ..)) _ (jt_rest r),h1];rfl
  ·unfold same at h2 ⊢
   rw [List.map_cons,List.map_cons,h2]
theorem scan_join (ts:List Tok) (h:∀ t∈ts,TokOK t):∃ ms,sc (Lib.join (ts.map (·.text)) [32]) 0= .ok ms∧same ms ts:=by
 cases ts with
 |nil=>exact ⟨[],rfl,rfl⟩
 |cons t r=>
  rw [join_jt]
  obtain ⟨ms,h1,h2⟩:=scan_jt r (0+t.text.length) (fun u hu=>h u (List.mem_cons_of_mem _ hu))
  refine ⟨⟨t.kind,t.text,0⟩::ms,?_,?_⟩
  ·unfold sc
   rw [List.drop_zero,scan_one (h t (List.mem_cons_self ..)) _ (jt_rest r),h1];rfl
  ·unfold same at h2 ⊢
   rw [List.map_cons,List.map_cons,h2]
theorem jt_len (l:List UInt8) (ts:List Tok):∀ e:Nat,e≤l.length→Chain l e ts→(jt ts).length≤2*(l.length - e):=by
 induction ts with
 |nil=>intro e _ _;exact Nat.zero_le _
 |cons t r ih=>
  intro e he h
  obtain ⟨h1,h2,h3,_,h4⟩:=h
  have:=ih _ h3 h4
  show (32::(t.text++jt r)).length≤_
  rw [List.length_cons,List.length_append]
  omega
theorem join_len (l:List UInt8) (ts:List Tok) (h:Chain l 0 ts):(Lib.join (ts.map (·.text)) [32]).length≤2*l.length:=by
 cases ts with
 |nil=>exact Nat.zero_le _
 |cons t r=>
  have:=jt_len l (t::r) 0 (Nat.zero_le _) h
  rw [join_jt]
  have e:(jt (t::r)).length=(t.text++jt r).length+1:=rfl
  omega
theorem spec_val (x:ByteArray) (h:0<x.size) (ha:x.data.toList.all digB=true) (hp:parE x.data.toList=0):(z1w x).1=(val 0 x.data.toList:Int):=by
 obtain ⟨r,hr⟩:=zvo x h
 have hd:digB x[0]=true:=by
  rw [hr,List.all_cons,Bool.and_eq_true] at ha;exact ha.1
 have h45:x[0]≠45:=by intro e;rw [e] at hd;exact absurd hd (by decide)
 have ht:=trim_pos x (Or.inr ⟨h,h45⟩)
 unfold parE at hp
 by_cases hf:zjl x=true
 ·have hf2:=hf
  unfold zjl at hf2
  rw [ht] at hf2
  rw [if_pos hf2] at hp
  rw [spec_pos hf (by rw [ht];omega),ht]
  by_cases hv:val 0 x.data.toList<9223372036854775808
  ·rw [if_pos hv]
  ·rw [if_neg hv] at hp;cases hp
 ·have hf1:zjl x=false:=by simpa using hf
  have hf2:=hf1
  unfold zjl at hf2
  rw [ht] at hf2
  rw [hf2] at hp;cases hp
theorem z0h {t:Tok} (h:TokOK t):(t.kind=1∧letB (t.text.headD 0)=true∧t.text.all wchB=true∧t.text.length≤12∧keyB t.text=false)∨(t.kind=2∧keyB t.text=true)∨(t.kind=3∧t.text.all digB=true∧parE t.text=0∧0<t.text.length)∨(t.kind=4∧letB (t.text.headD 0)=false∧digB (t.text.headD 0)=false):=by
 obtain ⟨c,r,h1,-,h3⟩:=h
 have h4:=(h3 [] (Or.inl rfl)).2
 rw [List.append_nil,h1] at h4
 rw [h1]
 by_cases hl:letB c=true
 ·rw [zwx r hl] at h4
  have he:(zv7 (c::r)).err=0:=by rw [h4]
  obtain ⟨k1,k2,k3⟩:=word_kind he
  rw [h4] at k1 k3
  simp only at k1 k3
  rw [←k1] at k2 k3
  rw [List.take_of_length_le (by simp)] at k3
  have hall:=zv0 wchB (c::r)
  rw [←k1,List.take_of_length_le (by simp)] at hall
  by_cases hk:keyB (c::r)=true
  ·rw [if_pos hk] at k3;exact .inr (.inl ⟨k3,hk⟩)
  ·rw [if_neg hk] at k3;exact .inl ⟨k3,hl,hall,by omega,by simpa using hk⟩
 ·have hl':letB c=false:=by simpa using hl
  by_cases hd:digB c=true
  ·rw [zvx r hl' hd] at h4
   have he:(numT (c::r)).err=0:=by rw [h4]
   obtain ⟨k1,k2,k3⟩:=num_kind he
   rw [h4] at k1 k2
   simp only at k1 k2
   rw [←k1,List.take_of_length_le (by simp)] at k3
   have hall:=zv0 digB (c::r)
   rw [←k1,List.take_of_length_le (by simp)] at hall
   exact .inr (.inr (.inl ⟨k2,hall,k3,by simp⟩))
  ·have hd':digB c=false:=by simpa using hd
   rw [zjf r hl' hd'] at h4
   refine .inr (.inr (.inr ⟨?_,hl',hd'⟩))
   unfold zv9 at h4
   split at h4
   ·exact (congrArg Tk.kind h4).symm
   ·split at h4
    ·exact (congrArg Tk.kind h4).symm
    ·exact absurd (congrArg Tk.err h4) (by simp)
def Tf (ts:List Tok) (k:Nat):AT:=match ts[k]? with|some t=>⟨t.kind,t.text⟩|none=>⟨0,[]⟩
def plf (ts:List Tok) (n:Nat) (k:Nat):Nat:=match ts[k]? with|some t=>t.place|none=>if k=ts.length then n else 0
theorem Tf_at {ts:List Tok} {k:Nat} {t:Tok} (h:ts[k]? =some t):Tf ts k=⟨t.kind,t.text⟩:=by unfold Tf;rw [h]
theorem Tf_end {ts:List Tok} {k:Nat} (h:ts.length≤k):Tf ts k=⟨0,[]⟩:=by unfold Tf;rw [List.getElem?_eq_none h]
theorem plf_at {ts:List Tok} {n k:Nat} {t:Tok} (h:ts[k]? =some t):plf ts n k=t.place:=by unfold plf;rw [h]
structure TokS (l:List UInt8) (ts:List Tok):Prop where
 chain:Chain l 0 ts
 ok:∀ t∈ts,TokOK t
 len:ts.length≤l.length
 le:l.length≤4096
theorem zv8 {l:List UInt8} {ts:List Tok} (h:zjp l= .ok ts):TokS l ts:=by
 unfold zjp at h
 split at h
 ·cases h
 ·obtain ⟨h1,h2,h3⟩:=sc_chain l l.length 0 ts (by omega) (Nat.zero_le _) h
  exact ⟨h1,h2,by omega,by omega⟩
theorem chain_at {l:List UInt8} :∀ {ts:List Tok} {e:Nat},Chain l e ts→∀ t∈ts,t.place+t.text.length≤l.length∧0<t.text.length
 | [],_,_,t,ht=>by cases ht
 |a::r,e,h,t,ht=>by
  rcases List.mem_cons.1 ht with rfl|ht
  ·exact ⟨h.2.2.1,h.2.1⟩
  ·exact chain_at h.2.2.2.2 t ht
theorem TokS.sent {l:List UInt8} {ts:List Tok} (h:TokS l ts):Sent (Tf ts) ts.length:=by
 refine ⟨fun k hk=>Tf_end hk,fun k hk=> ?_⟩
 rw [Tf_at (List.getElem?_eq_getElem hk)]
 have:=z0h (h.ok _ (List.getElem_mem hk))
 show ts[k].kind≠0
 omega
theorem TokS.text {l:List UInt8} {ts:List Tok} (h:TokS l ts) (k:Nat):(Tf ts k).text.length≤5000:=by
 unfold Tf
 cases hk:ts[k]? with
 |none=>simp
 |some t=>
  have:=(chain_at h.chain t (List.mem_of_getElem? hk)).1
  have:=h.le
  show t.text.length≤5000
  omega
theorem TokS.ple {l:List UInt8} {ts:List Tok} (h:TokS l ts) (k:Nat):plf ts l.length k≤l.length:=by
 unfold plf
 cases hk:ts[k]? with
 |none=>simp only;split<;>omega
 |some t=>
  have:=(chain_at h.chain t (List.mem_of_getElem? hk)).1
  show t.place≤l.length
  omega
theorem TokS.nums {l:List UInt8} {ts:List Tok} (h:TokS l ts) (k:Nat) (hk:(Tf ts k).kind=3):(z1w ⟨(Tf ts k).text.toArray⟩).1=numN (Tf ts k).text:=by
 unfold Tf at hk ⊢
 cases hg:ts[k]? with
 |none=>rw [hg] at hk;cases hk
 |some t=>
  rw [hg] at hk
  simp only at hk ⊢
  have hf:=z0h (h.ok _ (List.mem_of_getElem? hg))
  obtain ⟨-,h1,h2,h3⟩:t.kind=3∧t.text.all digB=true∧parE t.text=0∧0<t.text.length:=by
   rcases hf with hf|hf|hf|hf
   ·omega
   ·omega
   ·exact hf
   ·omega
  exact spec_val ⟨t.text.toArray⟩ (by show 0<t.text.toArray.size;simpa using h3) h1 h2
def PScanQ (s:ByteArray) (r:R) (w:World) (e:Ending) (w':World):Prop:=Below w.heap.size w w'∧(match r with
 | .ok ts=>∃ g cap,e= .returned (.slice (some ⟨g,0,none⟩) (ts.length+1) cap)∧ts.length+1≤cap∧w.heap.size≤g∧g<w'.heap.size∧w'.ownsRow w.heap.size 108 3 (.slice (some ⟨g,0,none⟩) (ts.length+1) cap) (ts.length+1) (zj6 (ts++ [⟨0,[],s.size⟩]))
 | .bad p er=>e=faultE p er)
theorem pscan_any (s:ByteArray) (r:R) (w:World) (G:Good w) (hs:s.size≤281474976710656) (hr:Hid (zjp s.data.toList=r)):Calls Tryz.prog 33 #[.string s] w (PScanQ s r w):=by
 have HS:=hid (scan_any s r w G hs hr)
 cases r with
 |bad p er=>
  have hne:er≠0:=by
   have h1:=hr.out
   unfold zjp at h1
   split at h1
   ·injection h1 with _ h2;omega
   ·exact (sc_bad_lt _ _ _ _ _ (Nat.le_refl _) h1).2
  have hb:((er:Int) !=0)=true:=by simpa using hne
  clear hne hr G
  go_enter Tryz.func33,Tryz.ntmps33
  go_wp2_with fail
  refine HS.out.mono ?_
  rintro e w1 ⟨hb1,rfl⟩
  clear HS
  go_wp2_with fail
  exact ⟨rfl,hb1,rfl⟩
 |ok ts=>
  have hts:=zv8 hr.out
  have hlen:ts.length≤4096:=Nat.le_trans hts.len hts.le
  have hsz:s.size≤4096:=by have:=hts.le;rw [zzg] at this;exact this
  obtain ⟨i0,hi0,hz0,hz1,hz2⟩:=info_parts tok_info
  have HI0:=hid hi0
  have HZ0:=hid hz0
  have HZ1:=hid hz1
  have HZ2:=hid hz2
  clear hts hr G hi0 hz0 hz1 hz2
  go_enter Tryz.func33,Tryz.ntmps33
  go_wp2_with fail
  refine HS.out.mono ?_
  rintro e w1 ⟨hb1,v,rfl,hown⟩
  clear HS
  have HO:=hid hown
  have HB:=hid hb1
  clear hown hb1
  go_wp2_with (at_builtin;refine Hid.out ?_)
  refine hid ?_
  have hzz:=HB.out.size
  refine wpList_append_lies _ rfl (.tmp 18) (.tmp 22) _ rfl w.heap.size 108 i0 _ 3 32 Tryz.underlying68 HI0.out HZ0.out HZ1.out HZ2.out rfl (by omega) v ts.length (zj6 ts) rfl (by exact HO.out.alloc _) ⟨w1.heap.size,0,none⟩ 1 1 [.int .i64 0,.string ⟨#[]⟩,.int .i64 s.size] rfl rfl (by exact World.news_of_block (heap_alloc_new w1 _)) (by simp [Value.oneCell']) (by omega) (by simp only [maxLen];omega) (by omega) (by simp;omega) (w1.heap.size+1) (by simp) ?_
  intro g cap w2 hown2 hg2 hat2 hlt2
  have hb3:Below w.heap.size w w2:=(HB.out.alloc HB.out.size _).grown hg2 (by simp;omega) (fun k hk=>(HO.out.lt k hk).1)
  have hown3:w2.ownsRow w.heap.size 108 3 (.slice (some ⟨g,0,none⟩) (ts.length+1) cap) (ts.length+1) (zj6 (ts++ [⟨0,[],s.size⟩])):=by
   rw [cellsT_snoc];exact hown2
  have hgl:=(hown3.lt g rfl).1
  have hcap:ts.length+1≤cap:=by
   rcases hown3.2 with ⟨h2,_⟩|⟨g',cap',cur,h2,h3,h4,h5,h6⟩
   ·cases h2
   ·injection h2 with e1 e2 e3
    omega
  have HH:=hid hown3
  have HB3:=hid hb3
  clear hown2 hg2 hat2 hown3 hb3
  go_wp2_with fail
  go_ret
  exact ⟨HB3.out,g,cap,rfl,hcap,hgl,hlt2,HH.out⟩
def zjm (n:Int):Tx:=Lib.itoa n
def zz3:List (List Tx)→List Tx
 | []=> []
 |a::r=>a++r.flatMap fun b=>zqd::b
theorem commaF_snoc (l:List (List Tx)) (b:List Tx):zz3 (l++ [b])=zz3 l++(if l= [] then b else zqd::b):=by
 cases l with
 |nil=>simp [zz3]
 |cons a r=>simp [zz3,List.flatMap_append]
def z0b (n:Int):Tx:=if n=0 then z1s else kTrue
def exprOf (op:Nat) (name:Tx) (n:Int) (ks:List (List Tx)):List Tx:=
 if op=15 then [zjm n] else if op=16 then [z0b n] else if op=17 then [kNil] else if op=18 then [name]
 else if op=19 then [kNew,cLB,name,cRB] else if op=20 then ks.getD 0 []++ [cDot,name] else if op=21 then [name]++([cLB]++zz3 ks++ [cRB])
 else if op=22 then [z1n,cLB,cRB] else if op=23 then [cLB,zqj n]++ks.getD 0 []++ [cRB]
 else if op=24 then [cLB]++ks.getD 0 []++ [zqj n]++ks.getD 1 []++ [cRB] else if op=25 then [cLB]++ks.getD 0 []++ [cAnd]++ks.getD 1 []++ [cRB]
 else if op=26 then [cLB]++ks.getD 0 []++ [cOr]++ks.getD 1 []++ [cRB] else []
mutual
def zzb:Tree→List Tx
 | .mk op name _ n _ ks=>exprOf op name n (showEL ks)
def showEL:List Tree→List (List Tx)
 | []=> []
 |t::r=>zzb t::showEL r
end
theorem showEL_map (l:List Tree):showEL l=l.map zzb:=by
 induction l with
 |nil=>rfl
 |cons t r ih=>simp [showEL,ih]
theorem showE_eq (t:Tree):zzb t=exprOf t.op t.name t.n (t.kids.map zzb):=by
 cases t;simp only [zzb,Tree.op,Tree.name,Tree.n,Tree.kids,showEL_map]
def kidE (t:Tree) (i:Nat):List Tx:=(t.kids.map zzb).getD i []
theorem kidE_some {t u:Tree} {i:Nat} (h:t.kids[i]? =some u):kidE t i=zzb u:=by
 unfold kidE;rw [List.getD_eq_getElem?_getD,List.getElem?_map,h];rfl
theorem kidE_none {t:Tree} {i:Nat} (h:t.kids[i]? =none):kidE t i= []:=by
 unfold kidE;rw [List.getD_eq_getElem?_getD,List.getElem?_map,h];rfl
def typT (ty:Tx):List Tx:=match zwg ⟨ty.toArray⟩ with|some nm=> [[42],nm.data.toList]|none=> [ty]
def zzr (t:Tree):List Tx:= [t.name]++typT t.typ
def z1q (op:Nat) (name:Tx) (es ss:List (List Tx)) (e:List Tx):List Tx:=
 if op=6 then [cLC]++ss.flatten++ [cRC] else if op=7 then [name,cDef]++(es.getD 0 []++ [zzk]) else if op=8 then [name,cEq]++(es.getD 0 []++ [zzk])
 else if op=9 then es.getD 0 []++ [cDot,name,cEq]++(es.getD 1 []++ [zzk]) else if op=10 then [kIf]++es.getD 0 []++ss.getD 1 []++(if 2<ss.length then [zjd]++ss.getD 2 [] else [])
 else if op=11 then [kFor]++es.getD 0 []++ss.getD 1 [] else if op=12 then [zjc]++([cLB]++es.getD 0 []++ [cRB])++ [zzk]
 else if op=13 then [zqa]++(es.getD 0 []++ [zzk]) else if op=14 then es.getD 0 []++ [zzk] else e
mutual
def zzj:Tree→List Tx
 | .mk op name _ n _ ks=>z1q op name (showEL ks) (showSL ks) (exprOf op name n (showEL ks))
def showSL:List Tree→List (List Tx)
 | []=> []
 |t::r=>zzj t::showSL r
end
theorem showSL_map (l:List Tree):showSL l=l.map zzj:=by
 induction l with
 |nil=>rfl
 |cons t r ih=>simp [showSL,ih]
theorem showS_eq (t:Tree):zzj t=z1q t.op t.name (t.kids.map zzb) (t.kids.map zzj) (zzb t):=by
 cases t;simp only [zzj,zzb,Tree.op,Tree.name,Tree.kids,showEL_map,showSL_map]
def zxu (t:Tree):List Tx:=
 if t.op=2 then [zwn,t.name,zkh,cLC]++(t.kids.flatMap fun k=>zzr k++ [zzk])++ [cRC]
 else if t.op=3 then [kVar]++zzr t++ [zzk]
 else if t.op=4 then [zk8,t.name]++([cLB]++zz3 ((t.kids.take (t.kids.length - 1)).map zzr)++ [cRB])++(if t.typ= [] then [] else typT t.typ)++((t.kids.map zzj).getD (t.kids.length - 1) [])
 else if t.op=5 then zzr t else zzj t
def zjy (t:Tree):List Tx:=t.kids.flatMap zxu
def z08 (op:Nat):Nat:=if op=4∨op=7∨op=8∨op=12∨op=14∨op=20∨op=23 then 1 else if op=9∨op=10∨op=11∨op=24∨op=25∨op=26 then 2 else 0
inductive OkT:Tree→Prop
 |mk {op:Nat} {name typ:Tx} {n:Int} {pos:Nat} {ks:List Tree} (h0:op≠0) (h1:op=10∨op=11→∃ b,ks[1]? =some b∧b.op=6) (h2:op=15→0≤n∧n≤9223372036854775807) (h4:z08 op≤ks.length) (hk:∀ (k:Nat) (u:Tree),ks[k]? =some u→OkT u):OkT (.mk op name typ n pos ks)
theorem OkT.kid {t u:Tree} {k:Nat} (h:OkT t) (hu:t.kids[k]? =some u):OkT u:=by
 cases h with
 |mk h0 h1 h2 h4 hk=>exact hk k u hu
theorem OkT.least {t:Tree} (h:OkT t):z08 t.op≤t.kids.length:=by
 cases h with
 |mk h0 h1 h2 h4 hk=>exact h4
theorem OkT.num {t:Tree} (h:OkT t) (ho:t.op=15):0≤t.n∧t.n≤9223372036854775807:=by
 cases h with
 |mk h0 h1 h2 h4 hk=>exact h2 ho
theorem OkT.body {t:Tree} (h:OkT t) (ho:t.op=10∨t.op=11):∃ b,t.kids[1]? =some b∧b.op=6:=by
 cases h with
 |mk h0 h1 h2 h4 hk=>exact h1 ho
theorem zx4 {t:Tree} {i:Nat} (h:i<t.kids.length):∃ u,t.kids[i]? =some u:=⟨_,List.getElem?_eq_getElem h⟩
theorem zzl (w:World) (ys:List Tx) (j:Nat) (y:Tx) (h:ys[j]? =some y):(w.alloc (.cells (strL ys).toArray 9)).cell? ⟨w.heap.size,j,none⟩=some (.string ⟨y.toArray⟩):=by
 have:=cell_of_row _ w.heap.size j (strL ys).toArray 9 (0,0) (heap_alloc_new w (.cells (strL ys).toArray 9))
 rw [this]
 unfold strL
 rw [List.getElem?_toArray,List.getElem?_map,h];rfl
theorem zxd {sb:Nat} {v v':Value} {w wa w':World} {xs ys:List Tx} (h:SST sb v wa v' w' ys) (hs:SH w sb v xs) (hw:w.heap.size<wa.heap.size):v'.ownBlock≠some w.heap.size:=fun e=>by
 rcases h.nv _ e with h1|h1
 ·have:=(hs.own.lt _ h1).2;omega
 ·omega
theorem text_any (n:Int) (w:World) (hp:PowIn w) (h0: -9223372036854775808≤n) (h1:n≤9223372036854775807):
 Calls Tryz.prog 139 #[.int .i64 n] w fun e w'=>e= .returned (.string ⟨(zjm n).toArray⟩)∧Below w.heap.size w w':=by
 obtain ⟨s,hs⟩:∃ s:ByteArray,s=⟨(zjm n).toArray⟩:=⟨_,rfl⟩
 have hc:Calls Tryz.prog 168 #[.int .i64 n] w fun e w'=>e= .returned (.string s)∧Below w.heap.size w w':=by
  refine (Tryz.strconv_Itoa n h0 h1 w hp).mono ?_
  rintro e w' ⟨rfl,k,os,rfl⟩
  exact ⟨by rw [hs];rfl,Lib.below_grow _ _ (Nat.le_refl _) _ _⟩
 rw [←hs]
 have HC:=hid hc
 clear hc hs h0 h1
 go_enter Tryz.func139,Tryz.ntmps139
 go_wp2_with (go_at_call 168;refine HC.out.mono ?_;rintro e w' ⟨rfl,hb⟩)
 go_ret
 exact ⟨rfl,hb⟩
inductive Wt:Tree→Prop
 |mk {op:Nat} {name typ:List UInt8} {n:Int} {p:Nat} {ks:List Tree} (h1:z08 op≤ks.length) (h2:name.length≤65536) (hk:∀ u∈ks,Wt u):Wt (.mk op name typ n p ks)
theorem Wt.least {t:Tree} (h:Wt t):z08 t.op≤t.kids.length:=by cases h;assumption
theorem Wt.short {t:Tree} (h:Wt t):(nm t).size≤65536:=by
 cases h with
 |mk h1 h2 hk=>show _≤_;unfold nm;rw [←zzg];exact h2
theorem Wt.kid {t u:Tree} {k:Nat} (h:Wt t) (hu:t.kids[k]? =some u):Wt u:=by
 cases h with
 |mk h1 h2 hk=>exact hk u (List.mem_of_getElem? hu)
structure z1o (x:Inf):Prop where
 s:∀ s∈x.structs,∀ f∈s.fields,TyOk x f.typ
 g:∀ f∈x.globals,TyOk x f.typ
 f:∀ s∈x.funs,TyOk x s.res
theorem ty_none {x:Inf} {a:ByteArray} (h:zwg a=none):TyOk x a:=fun s hs=>by rw [h] at hs;cases hs
theorem ty_at {x:Inf} {fs:List Fld} (h:∀ f∈fs,TyOk x f.typ) (k:Nat):TyOk x (typAt fs k):=by
 unfold typAt
 rw [List.getD_eq_getElem?_getD]
 cases hk:fs[k]? with
 |none=>exact ty_none (by decide)
 |some f=>exact h f (List.mem_of_getElem? hk)
theorem elem_ptr {n s:ByteArray} (h:zwg (ptrTo n)=some s):s=n:=by
 unfold zwg at h
 split at h
 ·obtain rfl:=Option.some.inj h
  apply Go.WideShapes.bytes_inj
  unfold z0c
  have e:(ptrTo n).data.toList=42::n.data.toList:=rfl
  rw [zjt,e,List.drop_succ_cons,List.drop_zero,List.take_of_length_le (by rw [←zzg (ptrTo n),e,List.length_cons];omega)]
 ·cases h
theorem zq2 {α β:Type} {r:CR α} {f:α→CR β} {b:β} (h:r.bind f= .ok b):∃ a,r= .ok a∧f a= .ok b:=by
 cases r with
 |ok a=>exact ⟨a,rfl,h⟩
 |bad p e=>cases h
theorem zwb {α:Type} {p e:Nat} {b:Bool} {k:CR α} {a:α} (h:nd p b e k= .ok a):b=true∧k= .ok a:=by
 unfold nd at h
 split at h
 ·exact ⟨by assumption,h⟩
 ·cases h
theorem zkn {α:Type} {a b:α} (h:CR.ok a= .ok b):a=b:=by injection h
theorem expr_ty {x:Inf} {K:List Fld} {t:Tree} {a:ByteArray} (hx:z1o x) (hK:KOk x K) (h:zzt x K t= .ok a):TyOk x a:=by
 rw [zku] at h
 unfold zj8 at h
 have ti:TyOk x tInt:=ty_none (by decide)
 have tb:TyOk x zjo:=ty_none (by decide)
 split at h
 ·obtain rfl:=zkn h;exact ti
 split at h
 ·obtain rfl:=zkn h;exact tb
 split at h
 ·unfold varC at h
  cases h1:locO K ⟨t.name.toArray⟩ with
  |some i=>rw [h1] at h;obtain rfl:=zkn h;exact ty_at hK i
  |none=>
   cases h2:plc x.globals ⟨t.name.toArray⟩ with
   |some i=>rw [h1,h2] at h;obtain rfl:=zkn h;exact ty_at hx.g i
   |none=>rw [h1,h2] at h;have:=(zwb h).2;cases this
 split at h
 ·obtain ⟨-,h⟩:=zwb h
  obtain ⟨h1,h⟩:=zwb h
  obtain rfl:=zkn h
  intro s hs
  obtain rfl:=elem_ptr hs
  exact Option.isSome_iff_exists.1 h1
 split at h
 ·obtain ⟨a',-,h⟩:=zq2 h
  unfold zjn at h
  split at h
  ·cases h
  ·rename_i s hs
   cases h2:plc (zwi x s).fields ⟨t.name.toArray⟩ with
   |none=>rw [h2] at h;cases h
   |some k=>
    rw [h2] at h
    obtain rfl:=zkn h
    refine ty_at (fun f hf=> ?_) k
    unfold zwi at hf
    rw [List.getD_eq_getElem?_getD] at hf
    cases hj:x.structs[(fnd x.structs s).getD 0]? with
    |none=>rw [hj] at hf;cases hf
    |some st=>rw [hj] at hf;exact hx.s st (List.mem_of_getElem? hj) f hf
 split at h
 ·obtain ⟨us,-,h⟩:=zq2 h
  obtain ⟨g,hg,h⟩:=zq2 h
  obtain ⟨-,h⟩:=zwb h
  obtain ⟨-,h⟩:=zwb h
  obtain rfl:=zkn h
  unfold zju at hg
  cases hf:funO x ⟨t.name.toArray⟩ with
  |none=>rw [hf] at hg;have:=(zwb hg).2;cases this
  |some j=>
   rw [hf] at hg
   have:=(zwb (zwb hg).2).2
   obtain rfl:=zkn this
   rw [List.getD_eq_getElem?_getD,List.getElem?_eq_getElem (fst_lt hf)]
   exact hx.f _ (List.getElem_mem _)
 split at h
 ·obtain ⟨a',-,h⟩:=zq2 h
  have:=(zwb h).2
  obtain rfl:=zkn this
  unfold unT;split
  ·exact tb
  ·exact ti
 split at h
 ·obtain ⟨a',-,h⟩:=zq2 h
  obtain ⟨a2,-,h⟩:=zq2 h
  have:=(zwb h).2
  obtain rfl:=zkn this
  unfold binT;split
  ·exact tb
  ·exact ti
 split at h
 ·obtain ⟨a',-,h⟩:=zq2 h
  obtain ⟨a2,-,h⟩:=zq2 h
  have:=(zwb h).2
  obtain rfl:=zkn this
  exact tb
 ·obtain rfl:=zkn h;exact ty_none (by decide)
theorem zkr {x:Inf} {K:List Fld} {t u:Tree} {k:Nat} (h:t.kids[k]? =some u):kidC (t.kids.map (zzt x K)) k=zzt x K u:=by
 unfold kidC;rw [List.getD_eq_getElem?_getD,List.getElem?_map,h];rfl
theorem cexpr_step (E:CE) (hx:Hid (z1o E.x)) (t:Tree) (W:Wt t) (ih:∀ (k:Nat) (u:Tree),t.kids[k]? =some u→XH E u):XH E t:=by
 intro w v K f b H hKo N
 have B0:=hid (b1 w (.cells #[.pointer (some ⟨b,0,none⟩)] 25))
 have H0:=hid (H.below (b1 w (.cells #[.pointer (some ⟨b,0,none⟩)] 25)))
 have U0:=hid (PtrAt.new w (some ⟨b,0,none⟩))
 have NN:=hid N
 have HKO:=hid hKo
 have IH:=hid ih
 clear H N
 have hop:t.op=15∨t.op=22∨t.op=16∨t.op=18∨t.op=19∨t.op=20∨t.op=21∨t.op=23∨t.op=24∨t.op=25∨t.op=26∨(¬ t.op=15∧¬ t.op=22∧¬ t.op=16∧¬ t.op=18∧¬ t.op=19∧¬ t.op=20∧¬ t.op=21∧¬ t.op=23∧¬ t.op=24∧¬ t.op=25∧¬ t.op=26):=by omega
 rcases hop with ho|ho|ho|ho|ho|ho|ho|ho|ho|ho|ho|ho
 ·have HS:Hid (zzt E.x K t= .ok tInt):=by show _=_;rw [zku,ho];rfl
  go_enter Tryz.func187,Tryz.ntmps187
  go_wp2_with fail
  generalize w.alloc (.cells #[.pointer (some ⟨b,0,none⟩)] 25)=wa at*
  have u0:=U0.out.c0
  have ul:=U0.out.lt
  have sl:=H0.out.lt
  have c0:=H0.out.c0
  have c1:=H0.out.c1
  have c2:=H0.out.c2
  refine (zqf NN.out H0.out.B _ (Below.refl _ _)).mono ?_
  rintro e w1 ⟨rfl,hb⟩
  have u0:=zza (Below.refl _ _) u0 ul hb
  have hh:=hid hb
  clear hb c0 c1 c2
  rw [ho]
  go_wp2_with fail
  go_ret
  exact ⟨B0.out.trans (hh.out.mono B0.out.size),by rw [HS.out];rfl⟩
 ·have HS:Hid (zzt E.x K t= .ok tInt):=by show _=_;rw [zku,ho];rfl
  go_enter Tryz.func187,Tryz.ntmps187
  go_wp2_with fail
  generalize w.alloc (.cells #[.pointer (some ⟨b,0,none⟩)] 25)=wa at*
  have u0:=U0.out.c0
  have ul:=U0.out.lt
  have sl:=H0.out.lt
  have c0:=H0.out.c0
  have c1:=H0.out.c1
  have c2:=H0.out.c2
  refine (zqf NN.out H0.out.B _ (Below.refl _ _)).mono ?_
  rintro e w1 ⟨rfl,hb⟩
  have u0:=zza (Below.refl _ _) u0 ul hb
  have hh:=hid hb
  clear hb c0 c1 c2
  rw [ho]
  go_wp2_with fail
  go_ret
  exact ⟨B0.out.trans (hh.out.mono B0.out.size),by rw [HS.out];rfl⟩
 ·have HS:Hid (zzt E.x K t= .ok zjo):=by show _=_;rw [zku,ho];rfl
  go_enter Tryz.func187,Tryz.ntmps187
  go_wp2_with fail
  generalize w.alloc (.cells #[.pointer (some ⟨b,0,none⟩)] 25)=wa at*
  have u0:=U0.out.c0
  have ul:=U0.out.lt
  have sl:=H0.out.lt
  have c0:=H0.out.c0
  have c1:=H0.out.c1
  have c2:=H0.out.c2
  refine (zqf NN.out H0.out.B _ (Below.refl _ _)).mono ?_
  rintro e w1 ⟨rfl,hb⟩
  have u0:=zza (Below.refl _ _) u0 ul hb
  have hh:=hid hb
  clear hb c0 c1 c2
  rw [ho]
  go_wp2_with fail
  go_ret
  exact ⟨B0.out.trans (hh.out.mono B0.out.size),by rw [HS.out];rfl⟩
 ·have HS:Hid (zzt E.x K t=varC E.x K t.pos (nm t)):=by show _=_;rw [zku,ho];rfl
  go_enter Tryz.func187,Tryz.ntmps187
  go_wp2_with fail
  generalize w.alloc (.cells #[.pointer (some ⟨b,0,none⟩)] 25)=wa at*
  have u0:=U0.out.c0
  have ul:=U0.out.lt
  have sl:=H0.out.lt
  have c0:=H0.out.c0
  have c1:=H0.out.c1
  have c2:=H0.out.c2
  refine (zqf NN.out H0.out.B _ (Below.refl _ _)).mono ?_
  rintro e w1 ⟨rfl,hb⟩
  have u0:=zza (Below.refl _ _) u0 ul hb
  have hh:=hid hb
  clear hb c0 c1 c2
  rw [ho]
  go_wp2_with fail
  refine (z3h E v K f b t _ (H0.out.below hh.out) NN.out).mono ?_
  rintro e w2 ⟨hb,he⟩
  rw [←HS.out] at he
  obtain ⟨q,hq⟩:∃ q,zzt E.x K t=q:=⟨_,rfl⟩
  rw [hq] at he
  cases q with
  |bad p er=>obtain rfl:=he;exact ⟨rfl,onB B0.out hh.out hb,by rw [hq];rfl⟩
  |ok a=>
   obtain rfl:=he
   go_wp2_with fail
   go_ret
   exact ⟨onB B0.out hh.out hb,by rw [hq];rfl⟩
 ·have HS:Hid (zzt E.x K t=makeC E.x t.pos (nm t)):=by show _=_;rw [zku,ho];rfl
  go_enter Tryz.func187,Tryz.ntmps187
  go_wp2_with fail
  generalize w.alloc (.cells #[.pointer (some ⟨b,0,none⟩)] 25)=wa at*
  have u0:=U0.out.c0
  have ul:=U0.out.lt
  have sl:=H0.out.lt
  have c0:=H0.out.c0
  have c1:=H0.out.c1
  have c2:=H0.out.c2
  refine (zqf NN.out H0.out.B _ (Below.refl _ _)).mono ?_
  rintro e w1 ⟨rfl,hb⟩
  have u0:=zza (Below.refl _ _) u0 ul hb
  have hh:=hid hb
  clear hb c0 c1 c2
  rw [ho]
  go_wp2_with fail
  refine (ccreation_any E v K f b t _ (H0.out.below hh.out) NN.out W.short).mono ?_
  rintro e w2 ⟨hb,he⟩
  rw [←HS.out] at he
  obtain ⟨q,hq⟩:∃ q,zzt E.x K t=q:=⟨_,rfl⟩
  rw [hq] at he
  cases q with
  |bad p er=>obtain rfl:=he;exact ⟨rfl,onB B0.out hh.out hb,by rw [hq];rfl⟩
  |ok a=>
   obtain rfl:=he
   go_wp2_with fail
   go_ret
   exact ⟨onB B0.out hh.out hb,by rw [hq];rfl⟩
 ·obtain ⟨u,hu⟩:=zx4 (t:=t) (i:=0) (by have:=W.least;rw [ho] at this;exact this)
  have hk0:kidC (t.kids.map (zzt E.x K)) 0=zzt E.x K u:=zkr hu
  obtain ⟨r,hr⟩:∃ r,zzt E.x K u=r:=⟨_,rfl⟩
  have HR:=hid hr
  have HS:Hid (zzt E.x K t=r.bind fun a=>zjn E.x t.pos (nm t) a):=by show _=_;rw [zku,ho,←hr,←hk0];rfl
  obtain ⟨nb,hn,hkd⟩:=zx8 NN.out H0.out.B 0 u hu
  have N1:=hid hn
  have HU:=hid hu
  clear hr hn hk0 hu
  go_enter Tryz.func187,Tryz.ntmps187
  go_wp2_with fail
  generalize w.alloc (.cells #[.pointer (some ⟨b,0,none⟩)] 25)=wa at*
  have u0:=U0.out.c0
  have ul:=U0.out.lt
  have sl:=H0.out.lt
  have c0:=H0.out.c0
  have c1:=H0.out.c1
  have c2:=H0.out.c2
  refine (zqf NN.out H0.out.B _ (Below.refl _ _)).mono ?_
  rintro e w1 ⟨rfl,hb⟩
  have u0:=zza (Below.refl _ _) u0 ul hb
  have hh:=hid hb
  clear hb c0 c1 c2
  rw [ho]
  have HKD:=hid hkd
  go_wp2_with fail
  refine rgS (fun w'=>Below wa.heap.size wa w'∧w'.cell? ⟨w.heap.size,0,none⟩=some (.pointer (some ⟨b,0,none⟩))) (by kernel_rfl) (⟨hh.out.drew,u0⟩) (fun _ a d v _ h=>And.intro ((zql a d v).symm.trans (And.left h)) (And.right h)) fun hHeld hq=> ?_
  refine tkS 0 ⟨some 24,.move (.tmp 0),185,"expr.go:39",#[],none⟩ (v:= ?v1_0) hq hHeld rfl (by kernel_rfl) ?y1_0 ?_
  case y1_0=>(intro w h;try dsimp only at h);go_simp<;>with_reducible rfl
  try simp only [Act.put,List.setIfInBounds_toArray,List.set_cons_zero,List.set_cons_succ]
  refine tkS 1 ⟨some 25,.load 25 (.tmp 3),25,"expr.go:39",#[],none⟩ (v:= ?v1_1) hq hHeld rfl (by kernel_rfl) ?y1_1 ?_
  case y1_1=>(intro w h;try dsimp only at h);go_simp<;>with_reducible rfl
  try simp only [Act.put,List.setIfInBounds_toArray,List.set_cons_zero,List.set_cons_succ]
  refine tkS 2 ⟨some 26,.move (.tmp 0),185,"expr.go:39",#[],none⟩ (v:= ?v1_2) hq hHeld rfl (by kernel_rfl) ?y1_2 ?_
  case y1_2=>(intro w h;try dsimp only at h);go_simp<;>with_reducible rfl
  try simp only [Act.put,List.setIfInBounds_toArray,List.set_cons_zero,List.set_cons_succ]
  refine tkS 3 ⟨some 27,.load 25 (.tmp 3),25,"expr.go:39",#[],none⟩ (v:= ?v1_3) hq hHeld rfl (by kernel_rfl) ?y1_3 ?_
  case y1_3=>(intro w h;try dsimp only at h);go_simp<;>with_reducible rfl
  try simp only [Act.put,List.setIfInBounds_toArray,List.set_cons_zero,List.set_cons_succ]
  refine clS 4 ⟨some 28,.call ⟨.value (.func 29),#[.tmp 27,.const (.int .i64 0)],#[25,3]⟩,25,"expr.go:39",#[⟨3,.data⟩],none⟩ rfl (by kernel_rfl) (by kernel_rfl) fun Kc hK=> ?_
  go_simp
  refine (zk7 0 _ _ (HKD.out _ hHeld.1) 0 rfl).mono ?_
  rintro e w1 ⟨rfl,hb⟩
  refine hK.out _ _ ⟨hHeld.1.trans (hb.mono hHeld.1.size),zza hHeld.1 hHeld.2 ul hb⟩ fun hHeld=> ?_
  clear hb
  clear hK Kc
  try simp only [Act.put,List.setIfInBounds_toArray,List.set_cons_zero,List.set_cons_succ]
  refine clS 5 ⟨some 29,.call ⟨.value (.func 187),#[.tmp 26,.tmp 28],#[185,25]⟩,9,"expr.go:39",#[⟨2,.data⟩,⟨4,.data⟩,⟨4,.chain⟩],none⟩ rfl (by kernel_rfl) (by kernel_rfl) fun Kc hK=> ?_
  go_simp
  refine (IH.out 0 u HU.out _ v K f _ (H0.out.below hHeld.1) HKO.out N1.out).mono ?_
  rw [HR.out]
  rintro e w1 ⟨hb,he⟩
  cases r with
  |bad p er=>obtain rfl:=he;exact ⟨rfl,onB B0.out hHeld.1 hb,by rw [HS.out];rfl⟩
  |ok a=>
  obtain rfl:=he
  obtain ⟨q,hq⟩:∃ q,zjn E.x t.pos (nm t) a=q:=⟨_,rfl⟩
  have HQ:=hid hq
  have HTY:=hid (expr_ty hx.out HKO.out HR.out)
  refine hK.out _ _ ⟨hHeld.1.trans (hb.mono hHeld.1.size),zza hHeld.1 hHeld.2 ul hb⟩ fun hHeld=> ?_
  clear hb hq
  clear hK Kc
  try simp only [Act.put,List.setIfInBounds_toArray,List.set_cons_zero,List.set_cons_succ]
  refine clS 6 ⟨some 30,.call ⟨.value (.func 190),#[.tmp 24,.tmp 25,.tmp 29],#[185,25,9]⟩,9,"expr.go:39",#[⟨0,.data⟩,⟨1,.data⟩,⟨5,.data⟩,⟨5,.chain⟩],none⟩ rfl (by kernel_rfl) (by kernel_rfl) fun Kc hK=> ?_
  go_simp
  refine (cfield_any E v K f b t a _ (H0.out.below hHeld.1) NN.out HTY).mono ?_
  rw [HQ.out]
  rintro e w1 ⟨hb,he⟩
  cases q with
  |bad p er=>obtain rfl:=he;exact ⟨rfl,onB B0.out hHeld.1 hb,by rw [HS.out];simp only [CR.bind];rw [HQ.out];rfl⟩
  |ok a2=>
  obtain rfl:=he
  refine hK.out _ _ ⟨hHeld.1.trans (hb.mono hHeld.1.size),zza hHeld.1 hHeld.2 ul hb⟩ fun hHeld=> ?_
  clear hb
  clear hK Kc
  try simp only [Act.put,List.setIfInBounds_toArray,List.set_cons_zero,List.set_cons_succ]
  refine tkS 7 ⟨some 4,.assign (.tmp 30),9,"expr.go:39",#[⟨6,.data⟩,⟨6,.chain⟩,⟨0,.phase⟩,⟨1,.phase⟩,⟨2,.phase⟩,⟨3,.phase⟩,⟨4,.phase⟩,⟨5,.phase⟩,⟨6,.phase⟩],none⟩ (v:= ?v1_7) hq hHeld rfl (by kernel_rfl) ?y1_7 ?_
  case y1_7=>(intro w h;try dsimp only at h);go_simp<;>with_reducible rfl
  try simp only [Act.put,List.setIfInBounds_toArray,List.set_cons_zero,List.set_cons_succ]
  refine wpAnyH_done (by kernel_rfl) ?_ _
  go_wp2_with fail
  go_ret
  exact ⟨B0.out.trans (hHeld.1.mono B0.out.size),by rw [HS.out];simp only [CR.bind];rw [HQ.out];rfl⟩
 ·have HS:Hid (zzt E.x K t=(allC (t.kids.map (zzt E.x K))).bind fun us=>callC E.x K t.pos (nm t) us):=by show _=_;rw [zku,ho];rfl
  go_enter Tryz.func187,Tryz.ntmps187
  go_wp2_with fail
  generalize w.alloc (.cells #[.pointer (some ⟨b,0,none⟩)] 25)=wa at*
  have u0:=U0.out.c0
  have ul:=U0.out.lt
  have sl:=H0.out.lt
  have c0:=H0.out.c0
  have c1:=H0.out.c1
  have c2:=H0.out.c2
  refine (zqf NN.out H0.out.B _ (Below.refl _ _)).mono ?_
  rintro e w1 ⟨rfl,hb⟩
  have u0:=zza (Below.refl _ _) u0 ul hb
  have hh:=hid hb
  clear hb c0 c1 c2
  rw [ho]
  go_wp2_with fail
  refine (ccall_any E v K f b t _ (H0.out.below hh.out) HKO.out NN.out IH.out).mono ?_
  rintro e w2 ⟨hb,he⟩
  rw [←HS.out] at he
  obtain ⟨q,hq⟩:∃ q,zzt E.x K t=q:=⟨_,rfl⟩
  rw [hq] at he
  cases q with
  |bad p er=>obtain rfl:=he;exact ⟨rfl,onB B0.out hh.out hb,by rw [hq];rfl⟩
  |ok a=>
   obtain rfl:=he
   go_wp2_with fail
   go_ret
   exact ⟨onB B0.out hh.out hb,by rw [hq];rfl⟩
 ·obtain ⟨u,hu⟩:=zx4 (t:=t) (i:=0) (by have:=W.least;rw [ho] at this;exact this)
  have hk0:kidC (t.kids.map (zzt E.x K)) 0=zzt E.x K u:=zkr hu
  have HS:Hid (zzt E.x K t=(zzt E.x K u).bind fun a=>unC t.pos t.n a):=by show _=_;rw [zku,ho,←hk0];rfl
  go_enter Tryz.func187,Tryz.ntmps187
  go_wp2_with fail
  generalize w.alloc (.cells #[.pointer (some ⟨b,0,none⟩)] 25)=wa at*
  have u0:=U0.out.c0
  have ul:=U0.out.lt
  have sl:=H0.out.lt
  have c0:=H0.out.c0
  have c1:=H0.out.c1
  have c2:=H0.out.c2
  refine (zqf NN.out H0.out.B _ (Below.refl _ _)).mono ?_
  rintro e w1 ⟨rfl,hb⟩
  have u0:=zza (Below.refl _ _) u0 ul hb
  have hh:=hid hb
  clear hb c0 c1 c2
  rw [ho]
  go_wp2_with fail
  refine (cunary_any E v K f b t u _ (H0.out.below hh.out) HKO.out NN.out hu (IH.out 0 u hu)).mono ?_
  rintro e w2 ⟨hb,he⟩
  rw [←HS.out] at he
  obtain ⟨q,hq⟩:∃ q,zzt E.x K t=q:=⟨_,rfl⟩
  rw [hq] at he
  cases q with
  |bad p er=>obtain rfl:=he;exact ⟨rfl,onB B0.out hh.out hb,by rw [hq];rfl⟩
  |ok a=>
   obtain rfl:=he
   go_wp2_with fail
   go_ret
   exact ⟨onB B0.out hh.out hb,by rw [hq];rfl⟩
 ·obtain ⟨u,hu⟩:=zx4 (t:=t) (i:=0) (by have:=W.least;rw [ho] at this;exact Nat.lt_of_lt_of_le (by decide) this)
  obtain ⟨u2,hu2⟩:=zx4 (t:=t) (i:=1) (by have:=W.least;rw [ho] at this;exact Nat.lt_of_lt_of_le (by decide) this)
  have hk0:kidC (t.kids.map (zzt E.x K)) 0=zzt E.x K u:=zkr hu
  have hk1:kidC (t.kids.map (zzt E.x K)) 1=zzt E.x K u2:=zkr hu2
  have HS:Hid (zzt E.x K t=(zzt E.x K u).bind fun a=>(zzt E.x K u2).bind fun b=>binC t.pos t.n a b):=by show _=_;rw [zku,ho,←hk0,←hk1];rfl
  go_enter Tryz.func187,Tryz.ntmps187
  go_wp2_with fail
  generalize w.alloc (.cells #[.pointer (some ⟨b,0,none⟩)] 25)=wa at*
  have u0:=U0.out.c0
  have ul:=U0.out.lt
  have sl:=H0.out.lt
  have c0:=H0.out.c0
  have c1:=H0.out.c1
  have c2:=H0.out.c2
  refine (zqf NN.out H0.out.B _ (Below.refl _ _)).mono ?_
  rintro e w1 ⟨rfl,hb⟩
  have u0:=zza (Below.refl _ _) u0 ul hb
  have hh:=hid hb
  clear hb c0 c1 c2
  rw [ho]
  go_wp2_with fail
  refine (cbinary_any E v K f b t u u2 _ (H0.out.below hh.out) HKO.out NN.out hu hu2 (IH.out 0 u hu) (IH.out 1 u2 hu2)).mono ?_
  rintro e w2 ⟨hb,he⟩
  rw [←HS.out] at he
  obtain ⟨q,hq⟩:∃ q,zzt E.x K t=q:=⟨_,rfl⟩
  rw [hq] at he
  cases q with
  |bad p er=>obtain rfl:=he;exact ⟨rfl,onB B0.out hh.out hb,by rw [hq];rfl⟩
  |ok a=>
   obtain rfl:=he
   go_wp2_with fail
   go_ret
   exact ⟨onB B0.out hh.out hb,by rw [hq];rfl⟩
 ·obtain ⟨u,hu⟩:=zx4 (t:=t) (i:=0) (by have:=W.least;rw [ho] at this;exact Nat.lt_of_lt_of_le (by decide) this)
  obtain ⟨u2,hu2⟩:=zx4 (t:=t) (i:=1) (by have:=W.least;rw [ho] at this;exact Nat.lt_of_lt_of_le (by decide) this)
  have hk0:kidC (t.kids.map (zzt E.x K)) 0=zzt E.x K u:=zkr hu
  have hk1:kidC (t.kids.map (zzt E.x K)) 1=zzt E.x K u2:=zkr hu2
  have HS:Hid (zzt E.x K t=(zzt E.x K u).bind fun a=>(zzt E.x K u2).bind fun b=>bothC t.pos a b):=by show _=_;rw [zku,ho,←hk0,←hk1];rfl
  go_enter Tryz.func187,Tryz.ntmps187
  go_wp2_with fail
  generalize w.alloc (.cells #[.pointer (some ⟨b,0,none⟩)] 25)=wa at*
  have u0:=U0.out.c0
  have ul:=U0.out.lt
  have sl:=H0.out.lt
  have c0:=H0.out.c0
  have c1:=H0.out.c1
  have c2:=H0.out.c2
  refine (zqf NN.out H0.out.B _ (Below.refl _ _)).mono ?_
  rintro e w1 ⟨rfl,hb⟩
  have u0:=zza (Below.refl _ _) u0 ul hb
  have hh:=hid hb
  clear hb c0 c1 c2
  rw [ho]
  go_wp2_with fail
  refine (cboth_any E v K f b t u u2 _ (H0.out.below hh.out) HKO.out NN.out hu hu2 (IH.out 0 u hu) (IH.out 1 u2 hu2)).mono ?_
  rintro e w2 ⟨hb,he⟩
  rw [←HS.out] at he
  obtain ⟨q,hq⟩:∃ q,zzt E.x K t=q:=⟨_,rfl⟩
  rw [hq] at he
  cases q with
  |bad p er=>obtain rfl:=he;exact ⟨rfl,onB B0.out hh.out hb,by rw [hq];rfl⟩
  |ok a=>
   obtain rfl:=he
   go_wp2_with fail
   go_ret
   exact ⟨onB B0.out hh.out hb,by rw [hq];rfl⟩
 ·obtain ⟨u,hu⟩:=zx4 (t:=t) (i:=0) (by have:=W.least;rw [ho] at this;exact Nat.lt_of_lt_of_le (by decide) this)
  obtain ⟨u2,hu2⟩:=zx4 (t:=t) (i:=1) (by have:=W.least;rw [ho] at this;exact Nat.lt_of_lt_of_le (by decide) this)
  have hk0:kidC (t.kids.map (zzt E.x K)) 0=zzt E.x K u:=zkr hu
  have hk1:kidC (t.kids.map (zzt E.x K)) 1=zzt E.x K u2:=zkr hu2
  have HS:Hid (zzt E.x K t=(zzt E.x K u).bind fun a=>(zzt E.x K u2).bind fun b=>bothC t.pos a b):=by show _=_;rw [zku,ho,←hk0,←hk1];rfl
  go_enter Tryz.func187,Tryz.ntmps187
  go_wp2_with fail
  generalize w.alloc (.cells #[.pointer (some ⟨b,0,none⟩)] 25)=wa at*
  have u0:=U0.out.c0
  have ul:=U0.out.lt
  have sl:=H0.out.lt
  have c0:=H0.out.c0
  have c1:=H0.out.c1
  have c2:=H0.out.c2
  refine (zqf NN.out H0.out.B _ (Below.refl _ _)).mono ?_
  rintro e w1 ⟨rfl,hb⟩
  have u0:=zza (Below.refl _ _) u0 ul hb
  have hh:=hid hb
  clear hb c0 c1 c2
  rw [ho]
  go_wp2_with fail
  refine (cboth_any E v K f b t u u2 _ (H0.out.below hh.out) HKO.out NN.out hu hu2 (IH.out 0 u hu) (IH.out 1 u2 hu2)).mono ?_
  rintro e w2 ⟨hb,he⟩
  rw [←HS.out] at he
  obtain ⟨q,hq⟩:∃ q,zzt E.x K t=q:=⟨_,rfl⟩
  rw [hq] at he
  cases q with
  |bad p er=>obtain rfl:=he;exact ⟨rfl,onB B0.out hh.out hb,by rw [hq];rfl⟩
  |ok a=>
   obtain rfl:=he
   go_wp2_with fail
   go_ret
   exact ⟨onB B0.out hh.out hb,by rw [hq];rfl⟩
 ·obtain ⟨n15,n22,n16,n18,n19,n20,n21,n23,n24,n25,n26⟩:=ho
  have HS:Hid (zzt E.x K t= .ok tNil):=by show _=_;rw [zku];unfold zj8;simp only [n15,n22,n16,n18,n19,n20,n21,n23,n24,n25,n26,or_self,if_false]
  have f15:((t.op:Int)==15)=false:=by rw [beq_eq_false_iff_ne];omega
  have f22:((t.op:Int)==22)=false:=by rw [beq_eq_false_iff_ne];omega
  have f16:((t.op:Int)==16)=false:=by rw [beq_eq_false_iff_ne];omega
  have f18:((t.op:Int)==18)=false:=by rw [beq_eq_false_iff_ne];omega
  have f19:((t.op:Int)==19)=false:=by rw [beq_eq_false_iff_ne];omega
  have f20:((t.op:Int)==20)=false:=by rw [beq_eq_false_iff_ne];omega
  have f21:((t.op:Int)==21)=false:=by rw [beq_eq_false_iff_ne];omega
  have f23:((t.op:Int)==23)=false:=by rw [beq_eq_false_iff_ne];omega
  have f24:((t.op:Int)==24)=false:=by rw [beq_eq_false_iff_ne];omega
  have f25:((t.op:Int)==25)=false:=by rw [beq_eq_false_iff_ne];omega
  have f26:((t.op:Int)==26)=false:=by rw [beq_eq_false_iff_ne];omega
  clear n15 n22 n16 n18 n19 n20 n21 n23 n24 n25 n26
  go_enter Tryz.func187,Tryz.ntmps187
  go_wp2_with fail
  generalize w.alloc (.cells #[.pointer (some ⟨b,0,none⟩)] 25)=wa at*
  have u0:=U0.out.c0
  have ul:=U0.out.lt
  have sl:=H0.out.lt
  have c0:=H0.out.c0
  have c1:=H0.out.c1
  have c2:=H0.out.c2
  refine (zqf NN.out H0.out.B _ (Below.refl _ _)).mono ?_
  rintro e w1 ⟨rfl,hb⟩
  have u0:=zza (Below.refl _ _) u0 ul hb
  have hh:=hid hb
  clear hb c0 c1 c2
  go_wp2_with fail
  go_ret
  exact ⟨B0.out.trans (hh.out.mono B0.out.size),by rw [HS.out];rfl⟩
theorem cexpr_any (E:CE) (hx:z1o E.x) (N:Nat):∀ t:Tree,zxs t≤N→Wt t→XH E t:=by
 induction N with
 |zero=>intro t h;rw [zkl] at h;omega
 |succ N ih=>exact fun t h W=>cexpr_step E hx t W fun k u hu=>ih u (by have:=zk0 hu;omega) (W.kid hu)
section
variable {P:Program} {ops:Array Oper} {Q:Exit→Act→World→Prop} {S:World→Prop} {X:List Nat}
def wpX (P:Program) (ops:Array Oper) (Q:Exit→Act→World→Prop) (S:World→Prop) (X:List Nat):Nat→Array Bool→Act→World→Prop
 |0,listed,a,w=>Region.ready .any ops listed= []∧Q .normal a w
 |fuel+1,listed,a,w=>(Region.ready .any ops listed= []→Q .normal a w)∧
   ∀ i∈Region.ready .any ops listed,wpOp P ops Q i (fun a' w'=>(X.contains i=false→S w→S w')∧wpX P ops Q S X fuel (listed.setIfInBounds i true) a' w') a w
theorem any_of_x:∀ (fuel:Nat) (listed:Array Bool) (a:Act) (w:World),wpX P ops Q S X fuel listed a w→wpAny P .any ops Q fuel listed a w
 |0,_,_,_,h=>h
 |fuel+1,_,_,_,h=>⟨h.1,fun i hi=>wpOp_mono (fun a' w' h'=>any_of_x fuel _ a' w' h'.2) (h.2 i hi)⟩
theorem x_first {i:Nat} {oi:Oper} {v:Value} (c:Bool) (hi:ops[i]? =some oi) (hsel:∀ (j:Nat) (o:Oper) cs b,ops[j]? =some o→o.op≠ .select cs b)
 (hQ:∀ c a w,Q (.panic c) (a.put oi.dst v) w→Q (.panic c) a w)
 (hX:∀ j oj,ops[j]? =some oj→X.contains j=true→c=true∨∃ e∈oj.after,Region.binds .any e=true∧e.on=i):
 ∀ (fuel:Nat) (listed:Array Bool) (a:Act) (w:World),
   (∀ j oj,ops[j]? =some oj→j≠i→listed.getD j true=false→(∀ e∈oj.after,Region.binds .any e=true→e.on≠i)→oi.apart ops oj=true)→
   i∈Region.ready .any ops listed→YieldsIf P ops (fun w=>c=false→S w) oi v a→(c=false→S w)→
   wpX P ops Q S X fuel (listed.setIfInBounds i true) (a.put oi.dst v) w→wpX P ops Q S X (fuel+1) listed a w:=by
 intro fuel
 induction fuel with
 |zero=>
  intro listed a w _ hr hy hS H
  refine ⟨fun h=>(by rw [h] at hr;cases hr),fun j hj=> ?_⟩
  by_cases hji:j=i
  ·subst hji;exact hy.wpOp hi hS ⟨fun _ h=>h,H⟩
  ·have:=ready_mono hj hji
   rw [H.1] at this
   cases this
 |succ fuel ih=>
  intro listed a w hfree hr hy hS H
  refine ⟨fun h=>(by rw [h] at hr;cases hr),fun j hj=> ?_⟩
  by_cases hji:j=i
  ·subst hji;exact hy.wpOp hi hS ⟨fun _ h=>h,H⟩
  ·have h1:=H.2 j (ready_mono hj hji)
   obtain ⟨hjun,oj,hoj,hall⟩:=mem_ready.1 hj
   have hnot:∀ e∈oj.after,Region.binds .any e=true→e.on≠i:=fun e he hb heq=>by
    have h1:=hall e he hb
    have h0:=(mem_ready.1 hr).1
    rw [heq] at h1
    rcases Nat.lt_or_ge i listed.size with h'|h'
    ·simp [h'] at h0 h1;rw [h0] at h1;cases h1
    ·simp [Array.getElem?_eq_none h'] at h1
   have h2:=wpOp_putIf hoj (hfree j oj hoj hji hjun hnot) (fun cs b=>hsel i oi cs b hi) (fun cs b=>hsel j oj cs b hoj) hQ hy h1
   have hfree':∀ k ok,ops[k]? =some ok→k≠i→(listed.setIfInBounds j true).getD k true=false→
    (∀ e∈ok.after,Region.binds .any e=true→e.on≠i)→oi.apart ops ok=true:=fun k ok hk hki hun hno=>by
    refine hfree k ok hk hki ?_ hno
    by_cases hjk:j=k
    ·subst hjk;exact hjun
    ·rw [getD_set_ne true hjk] at hun;exact hun
   have hSj:c=false→X.contains j=false:=fun hc=>by
    cases hx:X.contains j with
    |false=>rfl
    |true=>
     rcases hX j oj hoj hx with h|⟨e,he,hb,ho⟩
     ·rw [hc] at h;cases h
     ·exact absurd ho (hnot e he hb)
   refine wpOp_mono (fun a' w' h3=>⟨h3.2.1,ih (listed.setIfInBounds j true) a' w' hfree' (ready_mono hr (Ne.symm hji)) h3.1 (fun hc=>h3.2.1 (hSj hc) (hS hc)) ?_⟩) h2
   rw [Array.setIfInBounds_comm _ _ hji]
   exact h3.2.2
def waitB (ops:Array Oper) (X:List Nat) (i:Nat):Bool:=X.all fun j=>match ops[j]? with
 |some oj=>oj.after.any fun e=>Region.binds .any e&&e.on==i
 |none=>true
theorem waitB_spec {i:Nat} (h:waitB ops X i=true) (j:Nat) (oj:Oper) (ho:ops[j]? =some oj) (hx:X.contains j=true):∃ e∈oj.after,Region.binds .any e=true∧e.on=i:=by
 have:=List.all_eq_true.1 h j (by simpa using hx)
 simp only [ho,Array.any_eq_true',Bool.and_eq_true,beq_iff_eq] at this
 exact this
variable {fuel:Nat} {listed:Array Bool} {a:Act} {w:World}
theorem rgX (S:World→Prop) (X:List Nat) {id:Nat} (hm:P.follows .mixedOrders=true) (hS:S w.drew) (hq:PutOk Q)
 (h:S w.drew→PutOk Q→wpX P ops Q S X ops.size (Array.replicate ops.size false) a w.drew):(Code.region id ops true).wp P Q a w:=
 wp_region_any hm (any_of_x _ _ _ _ (h hS hq))
theorem tkX (i:Nat) (oi:Oper) {v:Value} (hq:PutOk Q) (hS:S w) (hi:ops[i]? =some oi) (hb:(Region.noSelect ops&&Region.free .any ops listed i&&(Region.ready .any ops listed).contains i&&Region.wanted oi (yielded ops a.tmps)&&waitB ops X i)=true)
 (hy:∀ w,S w→(execOp a.eval oi).run P w= .ok (.value v) w)
 (h:wpX P ops Q S X fuel (listed.setIfInBounds i true) (a.put oi.dst v) w):wpX P ops Q S X (fuel+1) listed a w:=by
 simp only [Bool.and_eq_true] at hb
 exact x_first false hi (Region.noSelect_spec hb.1.1.1.1) (fun c a w=>hq c a _ _ w) (fun j oj ho hx=> .inr (waitB_spec hb.2 j oj ho hx)) fuel listed a w (Region.free_spec hi hb.1.1.1.2) (by simpa using hb.1.1.2) (.inl ⟨hb.1.2,fun w hw=>hy w (hw rfl)⟩) (fun _=>hS) h
theorem twX (i:Nat) (oi:Oper) {v:Value} (hq:PutOk Q) (hi:ops[i]? =some oi) (hb:(Region.noSelect ops&&Region.free .any ops listed i&&(Region.ready .any ops listed).contains i&&Region.wanted oi (yielded ops a.tmps))=true)
 (hy:∀ w,(execOp a.eval oi).run P w= .ok (.value v) w)
 (h:wpX P ops Q S X fuel (listed.setIfInBounds i true) (a.put oi.dst v) w):wpX P ops Q S X (fuel+1) listed a w:=by
 simp only [Bool.and_eq_true] at hb
 exact x_first true hi (Region.noSelect_spec hb.1.1.1) (fun c a w=>hq c a _ _ w) (fun _ _ _ _=> .inl rfl) fuel listed a w (Region.free_spec hi hb.1.1.2) (by simpa using hb.1.2) (.inl ⟨hb.2,fun w _=>hy w⟩) (fun h=>by cases h) h
theorem clX (i:Nat) (o:Oper) (ho:ops[i]? =some o) (hr:Region.ready .any ops listed= [i]) (hw:Region.wanted o (yielded ops a.tmps)=true)
 (h:∀ K':Act→World→Prop,Shut (∀ a' w',(X.contains i=false→S w→S w')→wpX P ops Q S X fuel (listed.setIfInBounds i true) a' w'→K' a' w')→Oper.wp P o a w K' Q):wpX P ops Q S X (fuel+1) listed a w:=by
 refine ⟨fun h0=>(by rw [h0] at hr;cases hr),fun j hj=> ?_⟩
 rw [hr] at hj
 obtain rfl:=List.mem_singleton.1 hj
 exact wpOp_step ho fun K' hK=>by rw [if_pos hw];exact h K' (fun a' w' h1 h2=>hK a' w' ⟨h1,h2⟩)
theorem clX2 (i j:Nat) (o o':Oper) (ho:ops[i]? =some o) (ho':ops[j]? =some o') (hr:Region.ready .any ops listed= [i,j]) (hw:Region.wanted o (yielded ops a.tmps)=true) (hw':Region.wanted o' (yielded ops a.tmps)=true)
 (h:∀ K':Act→World→Prop,Shut (∀ a' w',(X.contains i=false→S w→S w')→wpX P ops Q S X fuel (listed.setIfInBounds i true) a' w'→K' a' w')→Oper.wp P o a w K' Q)
 (h':∀ K':Act→World→Prop,Shut (∀ a' w',(X.contains j=false→S w→S w')→wpX P ops Q S X fuel (listed.setIfInBounds j true) a' w'→K' a' w')→Oper.wp P o' a w K' Q):wpX P ops Q S X (fuel+1) listed a w:=by
 refine ⟨fun h0=>(by rw [h0] at hr;cases hr),fun k hk=> ?_⟩
 rw [hr] at hk
 rcases List.mem_cons.1 hk with rfl|hk
 ·exact wpOp_step ho fun K' hK=>by rw [if_pos hw];exact h K' (fun a' w' h1 h2=>hK a' w' ⟨h1,h2⟩)
 ·obtain rfl:=List.mem_singleton.1 hk
  exact wpOp_step ho' fun K' hK=>by rw [if_pos hw'];exact h' K' (fun a' w' h1 h2=>hK a' w' ⟨h1,h2⟩)
theorem dnX (hr:Region.ready .any ops listed= []) (h:Q .normal a w):∀ fuel,wpX P ops Q S X fuel listed a w
 |0=>⟨hr,h⟩
 |_+1=>⟨fun _=>h,by rw [hr];simp⟩
end
structure SS (E:CE) (v:Value) (w:World) (v':Value) (w':World) (K:List Fld) (f:Nat):Prop where
 sc:SC E w' v' K f
 sg:SG E.sb v w w'
 nv:∀ g,v'.ownBlock=some g→v.ownBlock=some g∨w.heap.size≤g
theorem SS.refl {E:CE} {v:Value} {w:World} {K:List Fld} {f:Nat} (h:SC E w v K f):SS E v w v w K f:=⟨h,⟨rfl,rfl,rfl,Nat.le_refl _,fun _ _ _ _=>rfl⟩,fun _ h=> .inl h⟩
theorem SS.trans {E:CE} {v v1 v2:Value} {w w1 w2:World} {K K':List Fld} {f f':Nat} (h:SS E v w v1 w1 K f) (k:SS E v1 w1 v2 w2 K' f'):SS E v w v2 w2 K' f':=by
 refine ⟨k.sc,⟨k.sg.os.trans h.sg.os,k.sg.tape.trans h.sg.tape,k.sg.output.trans h.sg.output,Nat.le_trans h.sg.size k.sg.size,fun b hb h1 h2=> ?_⟩,fun g hg=> ?_⟩
 ·refine (k.sg.blk b (Nat.lt_of_lt_of_le hb h.sg.size) h1 (fun e=> ?_)).trans (h.sg.blk b hb h1 h2)
  rcases h.nv b e with h3|h3
  ·exact h2 h3
  ·omega
 ·rcases k.nv g hg with h3|h3
  ·exact h.nv g h3
  ·exact .inr (Nat.le_trans h.sg.size h3)
theorem SS.below {E:CE} {v v1:Value} {w w1 w2:World} {K:List Fld} {f:Nat} (h:SS E v w v1 w1 K f) (hb:Below w1.heap.size w1 w2):SS E v w v1 w2 K f:=
 h.trans ⟨h.sc.below hb,SG.below hb,fun _ h=> .inl h⟩
theorem keepG {E:CE} {v v':Value} {w w':World} {K K':List Fld} {f f' u:Nat} {x:Value} (h:SS E v w v' w' K f) (hs:SC E w v K' f') (h0:w.heap.size≤u∨(u≠E.sb∧v.ownBlock≠some u)) {wb:World} (hb:wb=w) (hl:u<w.heap.size) (hc:wb.cell? ⟨u,0,none⟩=some x):w'.cell? ⟨u,0,none⟩=some x:=by
 subst hb
 rcases h0 with h0|⟨h1,h2⟩
 ·omega
 ·exact (World.cell?_of_block (w:=wb) (h.sg.blk u hl h1 h2)).trans hc
def KQ (E:CE) (v:Value) (w:World) (r:CR (List Fld)) (f:Nat) (e:Ending) (w':World):Prop:=match r with
 | .ok K'=>∃ v',e= .returned (.tuple #[])∧SS E v w v' w' K' f
 | .bad p er=>e=cfE (E.pl p) er∧Below E.w0.heap.size E.w0 w'
def YH (E:CE) (t:Tree):Prop:=∀ (w:World) (v:Value) (K:List Fld) (f b:Nat),SC E w v K f→KOk E.x K→Nd E b t→K.length+zxs t≤100000→Calls Tryz.prog 171 #[.pointer (some ⟨E.sb,0,none⟩),.agg #[.pointer (some ⟨b,0,none⟩)]] w (KQ E v w (zkf E.x E.res t K f) f)
def Pre (x:Inf) (K K':List Fld) (n:Nat):Prop:=∃ L,K'=K++L∧L.length≤n∧(KOk x K→KOk x K')
theorem Pre.refl (x:Inf) (K:List Fld) (n:Nat):Pre x K K n:=⟨[],by simp,Nat.zero_le _,fun h=>h⟩
theorem leaf_pre {x:Inf} {res:ByteArray} {t:Tree} {K K':List Fld} {f:Nat} (hx:z1o x) (h:z2b x res K f t.op t.name t.pos (t.kids.map (zzt x K))= .ok K'):Pre x K K' 1:=by
 unfold z2b at h
 split at h
 ·obtain ⟨a,ha,h⟩:=zq2 h
  have h:=(zwb (zwb h).2).2
  obtain rfl:=zkn h
  refine ⟨_,rfl,Nat.le_refl _,fun hK g hg=> ?_⟩
  rcases List.mem_append.1 hg with hg|hg
  ·exact hK g hg
  ·obtain rfl:=List.mem_singleton.1 hg
   unfold kidC at ha
   rw [List.getD_eq_getElem?_getD,List.getElem?_map] at ha
   cases hk:t.kids[0]? with
   |none=>rw [hk] at ha;obtain rfl:=zkn ha;exact ty_none (show zwg tNil=none by decide)
   |some u=>rw [hk] at ha;exact expr_ty hx hK ha
 split at h
 ·obtain ⟨a,-,h⟩:=zq2 h
  obtain ⟨b,-,h⟩:=zq2 h
  obtain rfl:=zkn (zwb h).2;exact Pre.refl _ _ _
 split at h
 ·obtain ⟨a,-,h⟩:=zq2 h
  obtain ⟨b,-,h⟩:=zq2 h
  obtain ⟨c,-,h⟩:=zq2 h
  obtain rfl:=zkn (zwb h).2;exact Pre.refl _ _ _
 split at h
 ·obtain ⟨a,-,h⟩:=zq2 h
  obtain rfl:=zkn (zwb h).2;exact Pre.refl _ _ _
 split at h
 ·split at h
  ·obtain rfl:=zkn (zwb h).2;exact Pre.refl _ _ _
  ·obtain ⟨a,-,h⟩:=zq2 h
   obtain rfl:=zkn (zwb h).2;exact Pre.refl _ _ _
 split at h
 ·obtain ⟨a,-,h⟩:=zq2 h
  obtain rfl:=zkn h;exact Pre.refl _ _ _
 ·obtain rfl:=zkn h;exact Pre.refl _ _ _
theorem Pre.trans {x:Inf} {K K' K'':List Fld} {n m l:Nat} (h:Pre x K K' n) (g:Pre x K' K'' m) (hl:n+m≤l):Pre x K K'' l:=by
 obtain ⟨L,rfl,h1,h2⟩:=h
 obtain ⟨L',rfl,h3,h4⟩:=g
 exact ⟨L++L',by rw [List.append_assoc],by rw [List.length_append];omega,fun hK=>h4 (h2 hK)⟩
theorem stmt_pre {x:Inf} {res:ByteArray} (hx:z1o x) (N:Nat):(∀ t K f K',zxs t≤N→zkf x res t K f= .ok K'→Pre x K K' (zxs t))∧(∀ l K f K',zxz l≤N→zxm x res l K f= .ok K'→Pre x K K' (zxz l)):=by
 induction N with
 |zero=>
  refine ⟨fun t K f K' h=> ?_,fun l K f K' h hs=> ?_⟩
  ·rw [zkl] at h;omega
  ·cases l with
   |nil=>simp only [zxm] at hs;obtain rfl:=zkn hs;exact Pre.refl _ _ _
   |cons a r=>simp only [zxz] at h;have:=zkl a;omega
 |succ N ih=>
  have hT:∀ t K f K',zxs t≤N+1→zkf x res t K f= .ok K'→Pre x K K' (zxs t):=by
   intro t K f K' h hs
   have hz:=zkl t
   rw [zkj] at hs
   split at hs
   ·obtain ⟨K1,-,hs⟩:=zq2 hs
    obtain rfl:=zkn hs;exact Pre.refl _ _ _
   split at hs
   ·obtain ⟨a,-,hs⟩:=zq2 hs
    have hs:=(zwb hs).2
    have hd:zxz (t.kids.drop 1)≤zxz t.kids:=by
     cases t.kids with
     |nil=>exact Nat.le_refl _
     |cons a r=>simp only [List.drop_succ_cons,List.drop_zero,zxz];omega
    obtain ⟨L,h1,h2,h3⟩:=ih.2 _ K f K' (by omega) hs
    exact ⟨L,h1,by omega,h3⟩
   ·obtain ⟨L,h1,h2,h3⟩:=leaf_pre hx hs
    exact ⟨L,h1,by omega,h3⟩
  refine ⟨hT,fun l=> ?_⟩
  induction l with
  |nil=>intro K f K' h hs;simp only [zxm] at hs;obtain rfl:=zkn hs;exact Pre.refl _ _ _
  |cons a r ihr=>
   intro K f K' h hs
   simp only [zxz] at h
   simp only [zxm] at hs
   obtain ⟨K1,h1,hs⟩:=zq2 hs
   have g1:=hT a K f K1 (by omega) h1
   have g2:=ihr K1 f K' (by omega) hs
   exact g1.trans g2 (by simp only [zxz];omega)
theorem stmt_preT {x:Inf} {res:ByteArray} (hx:z1o x) {t:Tree} {K K':List Fld} {f:Nat} (h:zkf x res t K f= .ok K'):Pre x K K' (zxs t):=(stmt_pre hx (zxs t)).1 t K f K' (Nat.le_refl _) h
theorem stmt_preL {x:Inf} {res:ByteArray} (hx:z1o x) {l:List Tree} {K K':List Fld} {f:Nat} (h:zxm x res l K f= .ok K'):Pre x K K' (zxz l):=(stmt_pre hx (zxz l)).2 l K f K' (Nat.le_refl _) h
theorem bpost0 {P:Program} {fn:Func} {R:Ending→World→Prop} {a:Act} {w:World} (hd:a.defers= []) (hr:(results fn a.tmps).run P w= .ok (.tuple #[]) w) (h:R (.returned (.tuple #[])) w):bodyPost P fn R .normal a w:=⟨hd,_,hr,h⟩
theorem stmts_drop {x:Inf} {res:ByteArray} {l:List Tree} {k:Nat} {u:Tree} (h:l[k]? =some u) (K:List Fld) (f:Nat):zxm x res (l.drop k) K f=(zkf x res u K f).bind fun K'=>zxm x res (l.drop (k+1)) K' f:=by
 obtain ⟨h1,rfl⟩:=List.getElem?_eq_some_iff.1 h
 rw [List.drop_eq_getElem_cons h1,zxm]
theorem stmts_end {x:Inf} {res:ByteArray} {l:List Tree} {k:Nat} (h:l.length≤k) (K:List Fld) (f:Nat):zxm x res (l.drop k) K f= .ok K:=by
 rw [List.drop_eq_nil_of_le h,zxm]
theorem sizeL_drop {l:List Tree} {k:Nat} {u:Tree} (h:l[k]? =some u):zxz (l.drop k)=zxs u+zxz (l.drop (k+1)):=by
 obtain ⟨h1,rfl⟩:=List.getElem?_eq_some_iff.1 h
 rw [List.drop_eq_getElem_cons h1,zxz]
theorem z2q:∀ (l:List Tree) (k:Nat),zxz (l.drop k)≤zxz l
 |l,0=>Nat.le_refl _
 | [],k+1=>by simp
 |a::r,k+1=>by simp only [List.drop_succ_cons,zxz];have:=z2q r k;omega
def LRel (E:CE) (v:Value) (wa:World) (u:Nat) (x:Value) (t:Tree) (r:CR (List Fld)) (f m:Nat) (i:Value) (wr:World):Prop:=
 ∃ (k:Nat) (v':Value) (K:List Fld),k≤m∧i= .int .i64 k∧Hid (zxm E.x E.res (t.kids.drop k) K f=r)∧Hid (SS E v wa v' wr K f)∧Hid (KOk E.x K)∧K.length+zxz (t.kids.drop k)≤100000∧wr.cell? ⟨u,0,none⟩=some x
theorem kq_bad {E:CE} {v _:Value} {w w':World} {p er f:Nat} (h:Below E.w0.heap.size E.w0 w'):KQ E v w (.bad p er) f (cfE (E.pl p) er) w':=⟨rfl,h⟩
theorem SS.ne {E:CE} {v v':Value} {w wa wr:World} {K K':List Fld} {f:Nat} (h:SS E v wa v' wr K f) (h0:SC E w v K' f) (hw:w.heap.size<wa.heap.size) (_:wa.heap.size≤wr.heap.size):v'.ownBlock≠some w.heap.size:=fun e=>by
 rcases h.nv _ e with h1|h1
 ·have:=(h0.own.lt _ h1).2;omega
 ·omega
theorem z03 (E:CE) (hx:Hid (z1o E.x)) (v:Value) (K:List Fld) (f b:Nat) (t:Tree) (w:World) (H:SC E w v K f) (hKo:KOk E.x K) (N:Nd E b t) (hz:K.length+zxz t.kids≤100000) (ih:∀ (k:Nat) (u:Tree),t.kids[k]? =some u→YH E u):
 Calls Tryz.prog 154 #[.pointer (some ⟨E.sb,0,none⟩),.agg #[.pointer (some ⟨b,0,none⟩)]] w (KQ E v w (zxm E.x E.res t.kids K f) f):=by
 have B0:=hid (b1 w (.cells #[.pointer (some ⟨b,0,none⟩)] 25))
 have H0:=hid (H.below (b1 w (.cells #[.pointer (some ⟨b,0,none⟩)] 25)))
 have U0:=hid (PtrAt.new w (some ⟨b,0,none⟩))
 have NN:=hid N
 have HH:=hid H
 have IH:=hid ih
 have HKO:=hid hKo
 obtain ⟨r,hr⟩:∃ r,zxm E.x E.res t.kids K f=r:=⟨_,rfl⟩
 have HR:Hid (zxm E.x E.res (t.kids.drop 0) K f=r):=hr
 rw [hr]
 obtain ⟨m,hm⟩:∃ m,t.kids.length=m:=⟨_,rfl⟩
 have HM:=hid hm
 have hm6:m≤6000:=by obtain ⟨-,-,-,-,h,-⟩:=N.kid;omega
 clear H N ih hKo hr
 go_enter Tryz.func154,Tryz.ntmps154
 go_wp2_with fail
 generalize w.alloc (.cells #[.pointer (some ⟨b,0,none⟩)] 25)=wa at*
 have u0:=U0.out.c0
 have ul:=U0.out.lt
 have sl:=H0.out.lt
 have c0:=H0.out.c0
 have c1:=H0.out.c1
 have c2:=H0.out.c2
 refine (zk4 NN.out H0.out.B _ (Below.refl _ _)).mono ?_
 rintro e w1 ⟨rfl,hb0⟩
 have u1:=zza (Below.refl _ _) u0 ul hb0
 have HB0:=hid hb0
 have ul1:=Nat.lt_of_lt_of_le ul hb0.size
 rw [hm]
 have S0:=hid ((SS.refl H0.out).below hb0)
 clear hb0 hm c0 c1 c2 sl
 go_wp2_with fail
 go_loopw [7] (fun i wr=>LRel E v wa w.heap.size (.pointer (some ⟨b,0,none⟩)) t r f m i wr) (fun i _=>m - (intOf i).toNat)
 case atStart=>exact ⟨0,v,K,Nat.zero_le _,rfl,HR,S0,HKO,hz,u1⟩
 case round=>
  obtain ⟨k,v',K',hk,rfl,HRK,HS,HKK,hlen,ur⟩:=hrel
  by_cases hlt:k<m
  ·obtain ⟨u,hu⟩:∃ u,t.kids[k]? =some u:=⟨_,List.getElem?_eq_getElem (by have:=HM.out;omega)⟩
   obtain ⟨q,hq⟩:∃ q,zkf E.x E.res u K' f=q:=⟨_,rfl⟩
   have HQ:=hid hq
   have HRQ:Hid (r=q.bind fun K2=>zxm E.x E.res (t.kids.drop (k+1)) K2 f):=by show _=_;rw [←HRK.out,stmts_drop hu,hq]
   have hsz:=sizeL_drop hu
   have BW:=hid HS.out.sc.B
   obtain ⟨nb,hn,hkd⟩:=zx8 NN.out BW.out k u hu
   have HU:=hid hu
   have N1:=hid hn
   have KD:=hid hkd
   clear hq hu hn hkd
   go_wp2_with fail
   refine (KD.out _ (Below.refl _ _)).mono ?_
   rintro e w2 ⟨rfl,hb2⟩
   have S2:=hid (HS.out.below hb2)
   have ur2:=zza (Below.refl _ _) ur (Nat.lt_of_lt_of_le ul HS.out.sg.size) hb2
   clear hb2 KD
   go_wp2_with fail
   refine (IH.out k u HU.out w2 v' K' f nb S2.out.sc HKK.out N1.out (by omega)).mono ?_
   rw [HQ.out]
   intro e w3 he
   cases q with
   |bad p er=>
    obtain ⟨rfl,hb⟩:=he
    exact ⟨rfl,by rw [HRQ.out];exact ⟨rfl,hb⟩⟩
   |ok K2=>
    obtain ⟨v3,rfl,hs3⟩:=he
    obtain ⟨L,hL,hLl,hLo⟩:=stmt_preT hx.out HQ.out
    have S3:=hid (S2.out.trans hs3)
    have ur3:w3.cell? ⟨w.heap.size,0,none⟩=some (.pointer (some ⟨b,0,none⟩)):=(World.cell?_of_block (w:=w2) (hs3.sg.blk w.heap.size (Nat.lt_of_lt_of_le ul S2.out.sg.size) (by have:=HH.out.lt;omega) (S2.out.ne HH.out ul S2.out.sg.size))).trans ur2
    have HK3:=hid (hLo HKK.out)
    have hl3:K2.length+zxz (t.kids.drop (k+1))≤100000:=by rw [hL,List.length_append];omega
    clear hs3 hL hLo
    go_wp2_with fail
    go_roundw
    case rel=>exact ⟨k+1,v3,K2,by omega,by go_num,HRQ.out.symm,S3,HK3,hl3,ur3⟩
    case measure=>simp [intOf];omega
  ·obtain rfl:k=m:=by omega
   have HE:Hid (r= .ok K'):=by show _=_;rw [←HRK.out,stmts_end (by have:=HM.out;omega)]
   go_wp2_with fail
   refine bodyPost_end (v:= .tuple #[]) (by simp [results,Tryz.results154,go_sem]) rfl ?_
   rw [HE.out]
   exact ⟨v',rfl,((SS.refl HH.out).below B0.out).trans HS.out⟩
theorem zqk {w:World} {sb i j:Nat} {x:Value} (h:i≠j):(w.setCell ⟨sb,i,none⟩ x).cell? ⟨sb,j,none⟩=w.cell? ⟨sb,j,none⟩:=World.cell?_setCell_other _ _ _ _ (by intro e;injection e with e1 e2;omega)
theorem low_set {B:Nat} {w0 w:World} {sb i:Nat} {x:Value} (h:Below B w0 w) (hs:B≤sb):Below B w0 (w.setCell ⟨sb,i,none⟩ x):=h.setCell (p:=⟨sb,i,none⟩) hs x
theorem own_set {w:World} {base sb i n:Nat} {v:Value} {xs:List Value} {x:Value} (h:w.ownsRow base 97 2 v n xs) (hne:v.ownBlock≠some sb):(w.setCell ⟨sb,i,none⟩ x).ownsRow base 97 2 v n xs:=h.kept (zxf w ⟨sb,i,none⟩ x) (.inr hne)
theorem SC.setF {E:CE} {w:World} {v:Value} {K:List Fld} {f:Nat} (h:SC E w v K f) (f':Nat) (hf:f'≤K.length):SC E (w.setCell ⟨E.sb,5,none⟩ (.int .i64 f')) v K f':=
 { B:=low_set h.B h.sb0,sb0:=h.sb0,lt:=Nat.lt_of_lt_of_le h.lt (zxf w _ _).size,c0:=(zqk (by decide)).trans h.c0,c1:=(zqk (by decide)).trans h.c1,c2:=(zqk (by decide)).trans h.c2,c3:=(zqk (by decide)).trans h.c3,c4:=(zqk (by decide)).trans h.c4,c5:=World.cell?_setCell_same _ _ _ h.c5,fr:=fun k=>(World.frozen?_setCell _ _ _ _).trans (h.fr k),own:=own_set h.own h.ne,ne:=h.ne,im:=h.im,kl:=h.kl,fle:=hf }
theorem SC.setK {E:CE} {w:World} {v v':Value} {K K':List Fld} {f:Nat} (h:SC E w v K f) (ho:w.ownsRow E.w0.heap.size 97 2 v' K'.length (zqr K')) (hne:v'.ownBlock≠some E.sb) (hl:K'.length≤100000) (hf:f≤K'.length):SC E (w.setCell ⟨E.sb,4,none⟩ v') v' K' f:=
 { B:=low_set h.B h.sb0,sb0:=h.sb0,lt:=Nat.lt_of_lt_of_le h.lt (zxf w _ _).size,c0:=(zqk (by decide)).trans h.c0,c1:=(zqk (by decide)).trans h.c1,c2:=(zqk (by decide)).trans h.c2,c3:=(zqk (by decide)).trans h.c3,c4:=World.cell?_setCell_same _ _ _ h.c4,c5:=(zqk (by decide)).trans h.c5,fr:=fun k=>(World.frozen?_setCell _ _ _ _).trans (h.fr k),own:=own_set ho hne,ne:=hne,im:=h.im,kl:=hl,fle:=hf }
theorem SG.set {sb i:Nat} {v:Value} {w:World} {x:Value} :SG sb v w (w.setCell ⟨sb,i,none⟩ x):=
 ⟨rfl,rfl,rfl,(zxf w ⟨sb,i,none⟩ x).size,fun k hk h1 _=>(zxf w ⟨sb,i,none⟩ x).block k hk (fun e=>h1 (Option.some.inj e))⟩
theorem SS.setF {E:CE} {w:World} {v:Value} {K:List Fld} {f:Nat} (h:SC E w v K f) (f':Nat) (hf:f'≤K.length):SS E v w v (w.setCell ⟨E.sb,5,none⟩ (.int .i64 f')) K f':=⟨h.setF f' hf,SG.set,fun _ h=> .inl h⟩
theorem SS.setK {E:CE} {w:World} {v v':Value} {K K':List Fld} {f:Nat} (h:SC E w v K f) (ho:w.ownsRow E.w0.heap.size 97 2 v' K'.length (zqr K')) (hb:∀ g,v'.ownBlock=some g→v.ownBlock=some g) (hl:K'.length≤100000) (hf:f≤K'.length):SS E v w v' (w.setCell ⟨E.sb,4,none⟩ v') K' f:=
 ⟨h.setK ho (fun e=>h.ne (hb _ e)) hl hf,SG.set,fun g hg=> .inl (hb g hg)⟩
theorem cbranch_any (E:CE) (hx:Hid (z1o E.x)) (v:Value) (K:List Fld) (f b:Nat) (t u0:Tree) (w:World) (H:SC E w v K f) (hKo:KOk E.x K) (N:Nd E b t) (hu0:t.kids[0]? =some u0) (hz:K.length+zxz t.kids≤100000) (ihx:XH E u0) (ih:∀ (k:Nat) (u:Tree),1≤k→t.kids[k]? =some u→YH E u):
 Calls Tryz.prog 191 #[.pointer (some ⟨E.sb,0,none⟩),.agg #[.pointer (some ⟨b,0,none⟩)]] w (KQ E v w ((zzt E.x K u0).bind fun a=>nd t.pos (eqB a zjo) 7 (zxm E.x E.res (t.kids.drop 1) K f)) f):=by
 have B0:=hid (b1 w (.cells #[.pointer (some ⟨b,0,none⟩)] 25))
 have H0:=hid (H.below (b1 w (.cells #[.pointer (some ⟨b,0,none⟩)] 25)))
 have U0:=hid (PtrAt.new w (some ⟨b,0,none⟩))
 have NN:=hid N
 have HH:=hid H
 have IH:=hid ih
 have IHX:=hid ihx
 have HKO:=hid hKo
 obtain ⟨q0,hq0⟩:∃ r,zzt E.x K u0=r:=⟨_,rfl⟩
 have HQ0:=hid hq0
 obtain ⟨r,hr⟩:∃ r,zxm E.x E.res (t.kids.drop 1) K f=r:=⟨_,rfl⟩
 have HR:=hid hr
 rw [hr,hq0]
 obtain ⟨m,hm⟩:∃ m,t.kids.length=m:=⟨_,rfl⟩
 have HM:=hid hm
 have hm6:m≤6000:=by obtain ⟨-,-,-,-,h,-⟩:=N.kid;omega
 have hm1:1≤m:=by have:=(List.getElem?_eq_some_iff.1 hu0).1;omega
 have hz1:K.length+zxz (t.kids.drop 1)≤100000:=by have:=z2q t.kids 1;omega
 obtain ⟨nb0,hn0,hkd0⟩:=zx8 N H0.out.B 0 u0 hu0
 have N0:=hid hn0
 have HKD:=hid hkd0
 clear H N ih ihx hKo hr hq0 hn0 hkd0 hu0
 go_enter Tryz.func191,Tryz.ntmps191
 go_wp2_with fail
 generalize w.alloc (.cells #[.pointer (some ⟨b,0,none⟩)] 25)=wa at*
 have u0:=U0.out.c0
 have ul:=U0.out.lt
 have sl:=H0.out.lt
 have c0:=H0.out.c0
 have c1:=H0.out.c1
 have c2:=H0.out.c2
 have BE:Hid (∀ w',Below wa.heap.size wa w'→Below E.w0.heap.size E.w0 w'):=fun w' h=>H0.out.B.trans (h.mono H0.out.B.size)
 clear c0 c1 c2
 refine rgS (fun w'=>Below wa.heap.size wa w'∧w'.cell? ⟨w.heap.size,0,none⟩=some (.pointer (some ⟨b,0,none⟩))) (by kernel_rfl) (⟨(Below.refl _ _).drew,u0⟩) (fun _ a d v _ h=>And.intro ((zql a d v).symm.trans (And.left h)) (And.right h)) fun hHeld hq=> ?_
 refine tkS 0 ⟨some 5,.load 25 (.tmp 3),25,"body.go:70",#[],none⟩ (v:= ?v1_0) hq hHeld rfl (by kernel_rfl) ?y1_0 ?_
 case y1_0=>(intro w h;try dsimp only at h);go_simp<;>with_reducible rfl
 try simp only [Act.put,List.setIfInBounds_toArray,List.set_cons_zero,List.set_cons_succ]
 refine tkS 1 ⟨some 6,.move (.tmp 0),185,"body.go:70",#[],none⟩ (v:= ?v1_1) hq hHeld rfl (by kernel_rfl) ?y1_1 ?_
 case y1_1=>(intro w h;try dsimp only at h);go_simp<;>with_reducible rfl
 try simp only [Act.put,List.setIfInBounds_toArray,List.set_cons_zero,List.set_cons_succ]
 refine tkS 2 ⟨some 7,.load 25 (.tmp 3),25,"body.go:70",#[],none⟩ (v:= ?v1_2) hq hHeld rfl (by kernel_rfl) ?y1_2 ?_
 case y1_2=>(intro w h;try dsimp only at h);go_simp<;>with_reducible rfl
 try simp only [Act.put,List.setIfInBounds_toArray,List.set_cons_zero,List.set_cons_succ]
 refine clS 3 ⟨some 8,.call ⟨.value (.func 29),#[.tmp 7,.const (.int .i64 0)],#[25,3]⟩,25,"body.go:70",#[⟨2,.data⟩],none⟩ rfl (by kernel_rfl) (by kernel_rfl) fun Kc hK=> ?_
 go_simp
 refine (zk7 0 _ _ (HKD.out _ hHeld.1) 0 rfl).mono ?_
 rintro e w1 ⟨rfl,hb⟩
 refine hK.out _ _ ⟨hHeld.1.trans (hb.mono hHeld.1.size),zza hHeld.1 hHeld.2 ul hb⟩ fun hHeld=> ?_
 clear hb
 clear hK Kc
 try simp only [Act.put,List.setIfInBounds_toArray,List.set_cons_zero,List.set_cons_succ]
 refine clS 4 ⟨some 9,.call ⟨.value (.func 187),#[.tmp 6,.tmp 8],#[185,25]⟩,9,"body.go:70",#[⟨1,.data⟩,⟨3,.data⟩,⟨3,.chain⟩],none⟩ rfl (by kernel_rfl) (by kernel_rfl) fun Kc hK=> ?_
 go_simp
 refine (IHX.out _ v K f _ (H0.out.below hHeld.1) HKO.out N0.out).mono ?_
 rw [HQ0.out]
 rintro e w1 ⟨hb,he⟩
 cases q0 with
 |bad p er=>obtain rfl:=he;exact ⟨rfl,rfl,BE.out _ (hHeld.1.trans (hb.mono hHeld.1.size))⟩
 |ok a=>
 obtain rfl:=he
 obtain ⟨d,hd⟩:∃ d,(a.toList== [98,111,111,108])=d:=⟨_,rfl⟩
 have HD:Hid (eqB a zjo=d):=z3e hd
 refine hK.out _ _ ⟨hHeld.1.trans (hb.mono hHeld.1.size),zza hHeld.1 hHeld.2 ul hb⟩ fun hHeld=> ?_
 clear hb
 clear hK Kc
 try simp only [Act.put,List.setIfInBounds_toArray,List.set_cons_zero,List.set_cons_succ]
 refine tkS 5 ⟨some 10,.binOp .eql 9 (.tmp 9) (.const (.string ⟨#[98,111,111,108]⟩)) 9,4,"body.go:70",#[⟨4,.data⟩],none⟩ (v:= ?v1_5) hq hHeld rfl (by kernel_rfl) ?y1_5 ?_
 case y1_5=>(intro w h;try dsimp only at h);go_simp<;>with_reducible rfl
 try simp only [Act.put,List.setIfInBounds_toArray,List.set_cons_zero,List.set_cons_succ]
 refine clS 6 ⟨some 11,.call ⟨.value (.func 148),#[.tmp 5,.tmp 10,.const (.int .i64 7)],#[25,4,26]⟩,0,"body.go:70",#[⟨0,.data⟩,⟨5,.data⟩,⟨4,.chain⟩],none⟩ rfl (by kernel_rfl) (by kernel_rfl) fun Kc hK=> ?_
 go_simp
 refine (zz2 NN.out H0.out.B d 7 _ hHeld.1).mono ?_
 rintro e w1 ⟨hb,he⟩
 cases d with
 |false=>obtain rfl:=he;exact ⟨rfl,by simp only [CR.bind,HD.out];exact ⟨rfl,BE.out _ (hHeld.1.trans (hb.mono hHeld.1.size))⟩⟩
 |true=>
 obtain rfl:=he
 refine hK.out _ _ ⟨hHeld.1.trans (hb.mono hHeld.1.size),zza hHeld.1 hHeld.2 ul hb⟩ fun hHeld=> ?_
 clear hb
 clear hK Kc
 try simp only [Act.put,List.setIfInBounds_toArray,List.set_cons_zero,List.set_cons_succ]
 refine wpAnyH_done (by kernel_rfl) ?_ _
 have HPO:Hid ((CR.ok a).bind (fun a=>nd t.pos (eqB a zjo) 7 r)=r):=by show _=_;simp only [CR.bind,HD.out,nd,if_true]
 have u1:=hHeld.2
 have S0:=hid ((SS.refl H0.out).below hHeld.1)
 clear hHeld hd HD
 go_wp2_with fail
 go_loopw [4] (fun i wr=>LRel E v wa w.heap.size (.pointer (some ⟨b,0,none⟩)) t r f m i wr∧1≤(intOf i).toNat) (fun i _=>m - (intOf i).toNat)
 case atStart=>exact ⟨⟨1,v,K,hm1,rfl,HR,S0,HKO,hz1,u1⟩,Nat.le_refl _⟩
 case round=>
  obtain ⟨⟨k,v',K',hk,rfl,HRK,HS,HKK,hlen,ur⟩,hk1⟩:=hrel
  have hk1':1≤k:=by simpa [intOf] using hk1
  have BW:=hid HS.out.sc.B
  have ulr:=Nat.lt_of_lt_of_le ul HS.out.sg.size
  go_wp2_with fail
  refine (zk4 NN.out BW.out _ (Below.refl _ _)).mono ?_
  rintro e w9 ⟨rfl,hb9⟩
  rw [HM.out]
  have S9:=hid (HS.out.below hb9)
  have ur9:=zza (Below.refl _ _) ur ulr hb9
  have ul9:=Nat.lt_of_lt_of_le ulr hb9.size
  clear hb9
  by_cases hlt:k<m
  ·obtain ⟨u,hu⟩:∃ u,t.kids[k]? =some u:=⟨_,List.getElem?_eq_getElem (by have:=HM.out;omega)⟩
   obtain ⟨q,hq⟩:∃ q,zkf E.x E.res u K' f=q:=⟨_,rfl⟩
   have HQ:=hid hq
   have HRQ:Hid (r=q.bind fun K2=>zxm E.x E.res (t.kids.drop (k+1)) K2 f):=by show _=_;rw [←HRK.out,stmts_drop hu,hq]
   have hsz:=sizeL_drop hu
   obtain ⟨nb,hn,hkd⟩:=zx8 NN.out S9.out.sc.B k u hu
   have HU:=hid hu
   have N1:=hid hn
   have KD:=hid hkd
   clear hq hu hn hkd
   go_wp2_with fail
   refine (KD.out _ (Below.refl _ _)).mono ?_
   rintro e w2 ⟨rfl,hb2⟩
   have S2:=hid (S9.out.below hb2)
   have ur2:=zza (Below.refl _ _) ur9 ul9 hb2
   clear hb2 KD
   go_wp2_with fail
   refine (IH.out k u hk1' HU.out w2 v' K' f nb S2.out.sc HKK.out N1.out (by omega)).mono ?_
   rw [HQ.out]
   intro e w3 he
   cases q with
   |bad p er=>
    obtain ⟨rfl,hb⟩:=he
    exact ⟨rfl,by rw [HPO.out,HRQ.out];exact ⟨rfl,hb⟩⟩
   |ok K2=>
    obtain ⟨v3,rfl,hs3⟩:=he
    obtain ⟨L,hL,hLl,hLo⟩:=stmt_preT hx.out HQ.out
    have S3:=hid (S2.out.trans hs3)
    have ur3:w3.cell? ⟨w.heap.size,0,none⟩=some (.pointer (some ⟨b,0,none⟩)):=(World.cell?_of_block (w:=w2) (hs3.sg.blk w.heap.size (Nat.lt_of_lt_of_le ul S2.out.sg.size) (by have:=HH.out.lt;omega) (S2.out.ne HH.out ul S2.out.sg.size))).trans ur2
    have HK3:=hid (hLo HKK.out)
    have hl3:K2.length+zxz (t.kids.drop (k+1))≤100000:=by rw [hL,List.length_append];omega
    clear hs3 hL hLo
    go_wp2_with fail
    go_roundw
    case rel=>exact ⟨⟨k+1,v3,K2,by omega,by go_num,HRQ.out.symm,S3,HK3,hl3,ur3⟩,by simp [intOf]⟩
    case measure=>simp [intOf];omega
  ·obtain rfl:k=m:=by omega
   have HE:Hid (r= .ok K'):=by show _=_;rw [←HRK.out,stmts_end (by have:=HM.out;omega)]
   go_wp2_with fail
   refine bodyPost_end (v:= .tuple #[]) (by simp [results,Tryz.results191,go_sem]) rfl ?_
   rw [HPO.out,HE.out]
   exact ⟨v',rfl,((SS.refl HH.out).below B0.out).trans S9.out⟩
theorem cblock_any (E:CE) (hx:Hid (z1o E.x)) (v:Value) (K:List Fld) (f b:Nat) (t:Tree) (w:World) (H:SC E w v K f) (hKo:KOk E.x K) (N:Nd E b t) (hz:K.length+zxz t.kids≤100000) (ih:∀ (k:Nat) (u:Tree),t.kids[k]? =some u→YH E u):
 Calls Tryz.prog 185 #[.pointer (some ⟨E.sb,0,none⟩),.agg #[.pointer (some ⟨b,0,none⟩)]] w (KQ E v w ((zxm E.x E.res t.kids K K.length).bind fun _=> .ok K) f):=by
 have B0:=hid (b1 w (.cells #[.pointer (some ⟨b,0,none⟩)] 25))
 have H0:=hid (H.below (b1 w (.cells #[.pointer (some ⟨b,0,none⟩)] 25)))
 have U0:=hid (PtrAt.new w (some ⟨b,0,none⟩))
 have NN:=hid N
 have HH:=hid H
 have IH:=hid ih
 have HKO:=hid hKo
 obtain ⟨r,hr⟩:∃ r,zxm E.x E.res t.kids K K.length=r:=⟨_,rfl⟩
 rw [hr]
 have HR:=hid hr
 obtain ⟨A,c,hv,hc,-⟩:=zv3 H.own
 have HV:=hid hv
 have hkl:=H.kl
 have hfl:=H.fle
 clear H N ih hKo hr
 obtain ⟨m,hm⟩:∃ m,K.length=m:=⟨_,rfl⟩
 have HM:=hid hm
 rw [hm] at hv hc hkl hfl
 have HRm:Hid (zxm E.x E.res t.kids K m=r):=by show _=_;rw [←hm];exact HR.out
 go_enter Tryz.func185,Tryz.ntmps185
 go_wp2_with fail
 generalize w.alloc (.cells #[.pointer (some ⟨b,0,none⟩)] 25)=wa at*
 have u0:=U0.out.c0
 have ul:=U0.out.lt
 have sl:=H0.out.lt
 have c0:=H0.out.c0
 have c1:=H0.out.c1
 have c2:=H0.out.c2
 have c4:=H0.out.c4
 have c5:=H0.out.c5
 have f5:=H0.out.fr 5
 rw [hv] at c4
 clear c0 c1 c2 hv hm
 refine rgS (fun w'=>Below wa.heap.size wa w'∧w'.cell? ⟨w.heap.size,0,none⟩=some (.pointer (some ⟨b,0,none⟩))∧w'.cell? ⟨E.sb,4,none⟩=some (.slice A m c)∧w'.cell? ⟨E.sb,5,none⟩=some (.int .i64 f)) (by kernel_rfl) (⟨(Below.refl _ _).drew,u0,c4,c5⟩) (fun _ a d v _ h=>And.intro ((zql a d v).symm.trans (And.left h)) (And.right h)) fun hHeld hq=> ?_
 refine tkS 0 ⟨some 6,.move (.tmp 0),185,"body.go:54",#[],none⟩ (v:= ?v2_0) hq hHeld rfl (by kernel_rfl) ?y2_0 ?_
 case y2_0=>(intro w h;try dsimp only at h);go_simp<;>with_reducible rfl
 try simp only [Act.put,List.setIfInBounds_toArray,List.set_cons_zero,List.set_cons_succ]
 refine tkS 1 ⟨some 7,.nilCheck (.tmp 6),0,"body.go:54",#[⟨0,.data⟩],none⟩ (v:= ?v2_1) hq hHeld rfl (by kernel_rfl) ?y2_1 ?_
 case y2_1=>(intro w h;try dsimp only at h);go_simp<;>with_reducible rfl
 try simp only [Act.put,List.setIfInBounds_toArray,List.set_cons_zero,List.set_cons_succ]
 refine tkS 2 ⟨some 8,.fieldAddr 179 (.tmp 7) 3,0,"body.go:54",#[⟨1,.data⟩],none⟩ (v:= ?v2_2) hq hHeld rfl (by kernel_rfl) ?y2_2 ?_
 case y2_2=>(intro w h;try dsimp only at h);go_simp<;>with_reducible rfl
 try simp only [Act.put,List.setIfInBounds_toArray,List.set_cons_zero,List.set_cons_succ]
 refine tkS 3 ⟨some 9,.load 3 (.tmp 8),3,"body.go:54",#[⟨2,.data⟩],none⟩ (v:= ?v2_3) hq hHeld rfl (by kernel_rfl) ?y2_3 ?_
 case y2_3=>(intro w h;try dsimp only at h);go_simp<;>with_reducible rfl
 try simp only [Act.put,List.setIfInBounds_toArray,List.set_cons_zero,List.set_cons_succ]
 refine tkS 4 ⟨some 10,.move (.tmp 0),185,"body.go:54",#[],none⟩ (v:= ?v2_4) hq hHeld rfl (by kernel_rfl) ?y2_4 ?_
 case y2_4=>(intro w h;try dsimp only at h);go_simp<;>with_reducible rfl
 try simp only [Act.put,List.setIfInBounds_toArray,List.set_cons_zero,List.set_cons_succ]
 refine tkS 5 ⟨some 11,.nilCheck (.tmp 10),0,"body.go:54",#[⟨4,.data⟩],none⟩ (v:= ?v2_5) hq hHeld rfl (by kernel_rfl) ?y2_5 ?_
 case y2_5=>(intro w h;try dsimp only at h);go_simp<;>with_reducible rfl
 try simp only [Act.put,List.setIfInBounds_toArray,List.set_cons_zero,List.set_cons_succ]
 refine tkS 6 ⟨some 12,.fieldAddr 179 (.tmp 11) 2,0,"body.go:54",#[⟨5,.data⟩],none⟩ (v:= ?v2_6) hq hHeld rfl (by kernel_rfl) ?y2_6 ?_
 case y2_6=>(intro w h;try dsimp only at h);go_simp<;>with_reducible rfl
 try simp only [Act.put,List.setIfInBounds_toArray,List.set_cons_zero,List.set_cons_succ]
 refine tkS 7 ⟨some 13,.load 41 (.tmp 12),41,"body.go:54",#[⟨6,.data⟩],none⟩ (v:= ?v2_7) hq hHeld rfl (by kernel_rfl) ?y2_7 ?_
 case y2_7=>(intro w h;try dsimp only at h);go_simp<;>with_reducible rfl
 try simp only [Act.put,List.setIfInBounds_toArray,List.set_cons_zero,List.set_cons_succ]
 refine tkS 8 ⟨some 14,.call ⟨.builtin Builtin.len,#[.tmp 13],#[41]⟩,3,"body.go:54",#[⟨7,.data⟩],none⟩ (v:= ?v2_8) hq hHeld rfl (by kernel_rfl) ?y2_8 ?_
 case y2_8=>(intro w h;try dsimp only at h);go_simp<;>with_reducible rfl
 try simp only [Act.put,List.setIfInBounds_toArray,List.set_cons_zero,List.set_cons_succ]
 refine tkS 9 ⟨some 4,.assign (.tmp 9),3,"body.go:54",#[⟨3,.data⟩,⟨0,.phase⟩,⟨1,.phase⟩,⟨2,.phase⟩,⟨3,.phase⟩,{ on:=4,ground:= .textOnly .lateStores },{ on:=5,ground:= .textOnly .lateStores },{ on:=6,ground:= .textOnly .lateStores },{ on:=7,ground:= .textOnly .lateStores },{ on:=8,ground:= .textOnly .lateStoresUnsure }],none⟩ (v:= ?v2_9) hq hHeld rfl (by kernel_rfl) ?y2_9 ?_
 case y2_9=>(intro w h;try dsimp only at h);go_simp<;>with_reducible rfl
 try simp only [Act.put,List.setIfInBounds_toArray,List.set_cons_zero,List.set_cons_succ]
 refine tkS 10 ⟨some 5,.assign (.tmp 14),3,"body.go:54",#[⟨8,.data⟩,⟨9,.chain⟩,⟨0,.phase⟩,⟨1,.phase⟩,⟨2,.phase⟩,⟨3,.phase⟩,⟨4,.phase⟩,⟨5,.phase⟩,⟨6,.phase⟩,⟨7,.phase⟩,⟨8,.phase⟩,⟨9,.phase⟩],none⟩ (v:= ?v2_10) hq hHeld rfl (by kernel_rfl) ?y2_10 ?_
 case y2_10=>(intro w h;try dsimp only at h);go_simp<;>with_reducible rfl
 try simp only [Act.put,List.setIfInBounds_toArray,List.set_cons_zero,List.set_cons_succ]
 refine wpAnyH_done (by kernel_rfl) ?_ _
 have u1:=hHeld.2.1
 have S1:=hid ((SS.refl H0.out).below hHeld.1)
 have c5:=hHeld.2.2.2
 have f5:=(hHeld.1.frozen (p:=⟨E.sb,5,none⟩) sl).trans f5
 have ul1:=Nat.lt_of_lt_of_le ul hHeld.1.size
 clear hHeld c4
 generalize wa.drew=wd at*
 have S2:=hid (S1.out.trans (SS.setF S1.out.sc K.length (Nat.le_refl _)))
 rw [HM.out] at S2
 have hne:w.heap.size≠E.sb:=by have:=HH.out.lt;omega
 have u2:(wd.setCell ⟨E.sb,5,none⟩ (.int .i64 m)).cell? ⟨w.heap.size,0,none⟩=some (.pointer (some ⟨b,0,none⟩)):=(World.cell?_setCell_other _ _ _ _ (by intro e;injection e with e1 e2;exact hne e1.symm)).trans u1
 go_wp2_with fail
 generalize wd.setCell ⟨E.sb,5,none⟩ (.int .i64 m)=ws at*
 have ul2:=Nat.lt_of_lt_of_le ul S2.out.sg.size
 refine (z03 E hx v K m b t ws S2.out.sc HKO.out NN.out hz IH.out).mono ?_
 rw [HRm.out]
 intro e w3 he
 cases r with
 |bad p er=>
  obtain ⟨rfl,hb⟩:=he
  exact ⟨rfl,rfl,hb⟩
 |ok K2=>
  obtain ⟨v3,rfl,hs3⟩:=he
  obtain ⟨L,rfl,-,-⟩:=stmt_preL hx.out HR.out
  have S3:=hid (S2.out.trans hs3)
  clear hs3
  obtain ⟨A3,k3,rfl,hk3,-⟩:=zv3 S3.out.sc.own
  have d4:=S3.out.sc.c4
  have d5:=S3.out.sc.c5
  have q4:=S3.out.sc.fr 4
  have q5:=S3.out.sc.fr 5
  have lt3:=S3.out.sc.lt
  obtain ⟨M,hM⟩:∃ M,(K++L).length=M:=⟨_,rfl⟩
  have hMl:m≤M:=by have:=HM.out;rw [←hM,List.length_append];omega
  have HMM:=hid hM
  have hM5:M≤100000:=by have:=S3.out.sc.kl;omega
  rw [hM] at d4 hk3
  have HFIN:Hid (∀ A',Hid (A'=A3)→SS E v wa (.slice A' m k3) ((w3.setCell ⟨E.sb,5,none⟩ (.int .i64 f)).setCell ⟨E.sb,4,none⟩ (.slice A' m k3)) K f):=by
   intro A' hA
   obtain rfl:=hA.out
   have h5:=SS.setF S3.out.sc f (by rw [List.length_append];have:=HM.out;omega)
   refine S3.out.trans (h5.trans ?_)
   rw [←HM.out]
   refine SS.setK h5.sc ?_ (fun g hg=>by cases A'<;>exact hg) (by have:=HM.out;omega) (by have:=HM.out;omega)
   cases A' with
   |some a0=>exact own_take h5.sc.own rfl
   |none=>
    rcases h5.sc.own.2 with ⟨h1,h2⟩|⟨g,cap,cur,h1,-⟩
    ·have h3:K= []:=List.length_eq_zero_iff.1 (by rw [List.length_append] at h2;omega)
     simp only [Value.slice.injEq] at h1
     rw [h3,h1.2.2]
     exact World.ownsRow_nil _ _ _ _
    ·simp at h1
  clear hM
  have b0:(0:Int)≤(m:Int):=by omega
  have bm:(m:Int)≤(k3:Int):=by omega
  cases A3 with
  |some a3=>
   go_wp2_with fail
   refine rgX (fun w'=>w'.cell? ⟨E.sb,4,none⟩=some (.slice (some a3) M k3)) [11,14] (by kernel_rfl) (d4) (fun _ a d v _ h=>And.intro ((zql a d v).symm.trans (And.left h)) (And.right h)) fun hHeld hq=> ?_
   refine twX 0 ⟨some 22,.move (.tmp 0),185,"body.go:57",#[],none⟩ (v:= ?v3_0) hq rfl (by kernel_rfl) ?y3_0 ?_
   case y3_0=>intro w;go_simp<;>with_reducible rfl
   try simp only [Act.put,List.setIfInBounds_toArray,List.set_cons_zero,List.set_cons_succ]
   refine twX 1 ⟨some 23,.move (.tmp 0),185,"body.go:57",#[{ on:=11,ground:= .gcOnly .lateStores }],none⟩ (v:= ?v3_1) hq rfl (by kernel_rfl) ?y3_1 ?_
   case y3_1=>intro w;go_simp<;>with_reducible rfl
   try simp only [Act.put,List.setIfInBounds_toArray,List.set_cons_zero,List.set_cons_succ]
   refine twX 2 ⟨some 24,.move (.tmp 4),3,"body.go:57",#[],none⟩ (v:= ?v3_2) hq rfl (by kernel_rfl) ?y3_2 ?_
   case y3_2=>intro w;go_simp<;>with_reducible rfl
   try simp only [Act.put,List.setIfInBounds_toArray,List.set_cons_zero,List.set_cons_succ]
   refine twX 3 ⟨some 25,.move (.tmp 0),185,"body.go:57",#[],none⟩ (v:= ?v3_3) hq rfl (by kernel_rfl) ?y3_3 ?_
   case y3_3=>intro w;go_simp<;>with_reducible rfl
   try simp only [Act.put,List.setIfInBounds_toArray,List.set_cons_zero,List.set_cons_succ]
   refine twX 4 ⟨some 26,.nilCheck (.tmp 25),0,"body.go:57",#[⟨3,.data⟩],none⟩ (v:= ?v3_4) hq rfl (by kernel_rfl) ?y3_4 ?_
   case y3_4=>intro w;go_simp<;>with_reducible rfl
   try simp only [Act.put,List.setIfInBounds_toArray,List.set_cons_zero,List.set_cons_succ]
   refine twX 5 ⟨some 27,.fieldAddr 179 (.tmp 26) 2,0,"body.go:57",#[⟨4,.data⟩],none⟩ (v:= ?v3_5) hq rfl (by kernel_rfl) ?y3_5 ?_
   case y3_5=>intro w;go_simp<;>with_reducible rfl
   try simp only [Act.put,List.setIfInBounds_toArray,List.set_cons_zero,List.set_cons_succ]
   refine tkX 6 ⟨some 28,.load 41 (.tmp 27),41,"body.go:57",#[⟨5,.data⟩],none⟩ (v:= ?v3_6) hq hHeld rfl (by kernel_rfl) ?y3_6 ?_
   case y3_6=>(intro w h;try dsimp only at h);go_simp<;>with_reducible rfl
   try simp only [Act.put,List.setIfInBounds_toArray,List.set_cons_zero,List.set_cons_succ]
   refine twX 7 ⟨some 29,.move (.tmp 5),3,"body.go:57",#[],none⟩ (v:= ?v3_7) hq rfl (by kernel_rfl) ?y3_7 ?_
   case y3_7=>intro w;go_simp<;>with_reducible rfl
   try simp only [Act.put,List.setIfInBounds_toArray,List.set_cons_zero,List.set_cons_succ]
   refine twX 8 ⟨some 30,.slice 41 (.tmp 28) none (some (.tmp 29)) none,41,"body.go:57",#[⟨6,.data⟩,⟨7,.data⟩],none⟩ (v:= ?v3_8) hq rfl (by kernel_rfl) ?y3_8 ?_
   case y3_8=>intro w;go_simp<;>with_reducible rfl
   try simp only [Act.put,List.setIfInBounds_toArray,List.set_cons_zero,List.set_cons_succ]
   refine twX 9 ⟨some 31,.nilCheck (.tmp 22),0,"body.go:57",#[⟨0,.data⟩,⟨0,.phase⟩,{ on:=1,ground:= .textOnly .lateStores },⟨2,.phase⟩,{ on:=3,ground:= .textOnly .lateStores },{ on:=4,ground:= .textOnly .lateStoresUnsure },{ on:=5,ground:= .textOnly .lateStoresUnsure },⟨6,.phase⟩,{ on:=7,ground:= .textOnly .lateStores },{ on:=8,ground:= .textOnly .lateStoresUnsure }],none⟩ (v:= ?v3_9) hq rfl (by kernel_rfl) ?y3_9 ?_
   case y3_9=>intro w;go_simp<;>with_reducible rfl
   try simp only [Act.put,List.setIfInBounds_toArray,List.set_cons_zero,List.set_cons_succ]
   refine twX 10 ⟨some 32,.fieldAddr 179 (.tmp 31) 3,0,"body.go:57",#[⟨9,.data⟩,⟨0,.phase⟩,{ on:=1,ground:= .textOnly .lateStores },⟨2,.phase⟩,{ on:=3,ground:= .textOnly .lateStores },{ on:=4,ground:= .textOnly .lateStoresUnsure },{ on:=5,ground:= .textOnly .lateStoresUnsure },⟨6,.phase⟩,{ on:=7,ground:= .textOnly .lateStores },{ on:=8,ground:= .textOnly .lateStoresUnsure }],none⟩ (v:= ?v3_10) hq rfl (by kernel_rfl) ?y3_10 ?_
   case y3_10=>intro w;go_simp<;>with_reducible rfl
   try simp only [Act.put,List.setIfInBounds_toArray,List.set_cons_zero,List.set_cons_succ]
   refine clX 11 ⟨none,.store 3 (.tmp 32) (.tmp 24),0,"body.go:57",#[⟨10,.data⟩,⟨2,.data⟩,⟨0,.phase⟩,{ on:=1,ground:= .textOnly .lateStores },⟨2,.phase⟩,{ on:=3,ground:= .textOnly .lateStores },{ on:=4,ground:= .textOnly .lateStoresUnsure },{ on:=5,ground:= .textOnly .lateStoresUnsure },⟨6,.phase⟩,{ on:=7,ground:= .textOnly .lateStores },{ on:=8,ground:= .textOnly .lateStoresUnsure }],none⟩ rfl (by kernel_rfl) (by kernel_rfl) fun Kc hK=> ?_
   go_simp
   refine hK.out _ _ (fun h=>absurd h (by decide)) ?_
   clear hK Kc
   try simp only [Act.put,List.setIfInBounds_toArray,List.set_cons_zero,List.set_cons_succ]
   refine twX 12 ⟨some 33,.nilCheck (.tmp 23),0,"body.go:57",#[⟨1,.data⟩,⟨0,.phase⟩,⟨1,.phase⟩,⟨2,.phase⟩,⟨3,.phase⟩,⟨4,.phase⟩,⟨5,.phase⟩,⟨6,.phase⟩,⟨7,.phase⟩,⟨8,.phase⟩,⟨9,.phase⟩,⟨10,.phase⟩,⟨11,.phase⟩],none⟩ (v:= ?v3_12) hq rfl (by kernel_rfl) ?y3_12 ?_
   case y3_12=>intro w;go_simp<;>with_reducible rfl
   try simp only [Act.put,List.setIfInBounds_toArray,List.set_cons_zero,List.set_cons_succ]
   refine twX 13 ⟨some 34,.fieldAddr 179 (.tmp 33) 2,0,"body.go:57",#[⟨12,.data⟩,⟨0,.phase⟩,⟨1,.phase⟩,⟨2,.phase⟩,⟨3,.phase⟩,⟨4,.phase⟩,⟨5,.phase⟩,⟨6,.phase⟩,⟨7,.phase⟩,⟨8,.phase⟩,⟨9,.phase⟩,⟨10,.phase⟩,⟨11,.phase⟩],none⟩ (v:= ?v3_13) hq rfl (by kernel_rfl) ?y3_13 ?_
   case y3_13=>intro w;go_simp<;>with_reducible rfl
   try simp only [Act.put,List.setIfInBounds_toArray,List.set_cons_zero,List.set_cons_succ]
   refine clX 14 ⟨none,.store 41 (.tmp 34) (.tmp 30),0,"body.go:57",#[⟨13,.data⟩,⟨8,.data⟩,⟨11,.chain⟩,⟨0,.phase⟩,⟨1,.phase⟩,⟨2,.phase⟩,⟨3,.phase⟩,⟨4,.phase⟩,⟨5,.phase⟩,⟨6,.phase⟩,⟨7,.phase⟩,⟨8,.phase⟩,⟨9,.phase⟩,⟨10,.phase⟩,⟨11,.phase⟩],none⟩ rfl (by kernel_rfl) (by kernel_rfl) fun Kc hK=> ?_
   go_simp
   refine hK.out _ _ (fun h=>absurd h (by decide)) ?_
   clear hK Kc
   try simp only [Act.put,List.setIfInBounds_toArray,List.set_cons_zero,List.set_cons_succ]
   refine dnX (by kernel_rfl) ?_ _
   go_wp2_with fail
   refine bodyPost_end (v:= .tuple #[]) (by simp [results,Tryz.results185,go_sem]) rfl ?_
   exact ⟨_,rfl,((SS.refl HH.out).below B0.out).trans ((HFIN.out _ rfl).below (Below.refl _ _).drew)⟩
  |none=>
   obtain ⟨rfl,rfl,rfl⟩:M=0∧k3=0∧m=0:=by
    rcases S3.out.sc.own.2 with ⟨h1,h2⟩|⟨g,cap,cur,h1,-⟩
    ·simp only [Value.slice.injEq] at h1
     have:=HMM.out
     exact ⟨by omega,h1.2.2,by omega⟩
    ·simp at h1
   go_wp2_with fail
   refine rgX (fun w'=>w'.cell? ⟨E.sb,4,none⟩=some (.slice none 0 0)) [11,14] (by kernel_rfl) (d4) (fun _ a d v _ h=>And.intro ((zql a d v).symm.trans (And.left h)) (And.right h)) fun hHeld hq=> ?_
   refine twX 0 ⟨some 22,.move (.tmp 0),185,"body.go:57",#[],none⟩ (v:= ?v4_0) hq rfl (by kernel_rfl) ?y4_0 ?_
   case y4_0=>intro w;go_simp<;>with_reducible rfl
   try simp only [Act.put,List.setIfInBounds_toArray,List.set_cons_zero,List.set_cons_succ]
   refine twX 1 ⟨some 23,.move (.tmp 0),185,"body.go:57",#[{ on:=11,ground:= .gcOnly .lateStores }],none⟩ (v:= ?v4_1) hq rfl (by kernel_rfl) ?y4_1 ?_
   case y4_1=>intro w;go_simp<;>with_reducible rfl
   try simp only [Act.put,List.setIfInBounds_toArray,List.set_cons_zero,List.set_cons_succ]
   refine twX 2 ⟨some 24,.move (.tmp 4),3,"body.go:57",#[],none⟩ (v:= ?v4_2) hq rfl (by kernel_rfl) ?y4_2 ?_
   case y4_2=>intro w;go_simp<;>with_reducible rfl
   try simp only [Act.put,List.setIfInBounds_toArray,List.set_cons_zero,List.set_cons_succ]
   refine twX 3 ⟨some 25,.move (.tmp 0),185,"body.go:57",#[],none⟩ (v:= ?v4_3) hq rfl (by kernel_rfl) ?y4_3 ?_
   case y4_3=>intro w;go_simp<;>with_reducible rfl
   try simp only [Act.put,List.setIfInBounds_toArray,List.set_cons_zero,List.set_cons_succ]
   refine twX 4 ⟨some 26,.nilCheck (.tmp 25),0,"body.go:57",#[⟨3,.data⟩],none⟩ (v:= ?v4_4) hq rfl (by kernel_rfl) ?y4_4 ?_
   case y4_4=>intro w;go_simp<;>with_reducible rfl
   try simp only [Act.put,List.setIfInBounds_toArray,List.set_cons_zero,List.set_cons_succ]
   refine twX 5 ⟨some 27,.fieldAddr 179 (.tmp 26) 2,0,"body.go:57",#[⟨4,.data⟩],none⟩ (v:= ?v4_5) hq rfl (by kernel_rfl) ?y4_5 ?_
   case y4_5=>intro w;go_simp<;>with_reducible rfl
   try simp only [Act.put,List.setIfInBounds_toArray,List.set_cons_zero,List.set_cons_succ]
   refine tkX 6 ⟨some 28,.load 41 (.tmp 27),41,"body.go:57",#[⟨5,.data⟩],none⟩ (v:= ?v4_6) hq hHeld rfl (by kernel_rfl) ?y4_6 ?_
   case y4_6=>(intro w h;try dsimp only at h);go_simp<;>with_reducible rfl
   try simp only [Act.put,List.setIfInBounds_toArray,List.set_cons_zero,List.set_cons_succ]
   refine twX 7 ⟨some 29,.move (.tmp 5),3,"body.go:57",#[],none⟩ (v:= ?v4_7) hq rfl (by kernel_rfl) ?y4_7 ?_
   case y4_7=>intro w;go_simp<;>with_reducible rfl
   try simp only [Act.put,List.setIfInBounds_toArray,List.set_cons_zero,List.set_cons_succ]
   refine twX 8 ⟨some 30,.slice 41 (.tmp 28) none (some (.tmp 29)) none,41,"body.go:57",#[⟨6,.data⟩,⟨7,.data⟩],none⟩ (v:= ?v4_8) hq rfl (by kernel_rfl) ?y4_8 ?_
   case y4_8=>intro w;go_simp<;>with_reducible rfl
   try simp only [Act.put,List.setIfInBounds_toArray,List.set_cons_zero,List.set_cons_succ]
   refine twX 9 ⟨some 31,.nilCheck (.tmp 22),0,"body.go:57",#[⟨0,.data⟩,⟨0,.phase⟩,{ on:=1,ground:= .textOnly .lateStores },⟨2,.phase⟩,{ on:=3,ground:= .textOnly .lateStores },{ on:=4,ground:= .textOnly .lateStoresUnsure },{ on:=5,ground:= .textOnly .lateStoresUnsure },⟨6,.phase⟩,{ on:=7,ground:= .textOnly .lateStores },{ on:=8,ground:= .textOnly .lateStoresUnsure }],none⟩ (v:= ?v4_9) hq rfl (by kernel_rfl) ?y4_9 ?_
   case y4_9=>intro w;go_simp<;>with_reducible rfl
   try simp only [Act.put,List.setIfInBounds_toArray,List.set_cons_zero,List.set_cons_succ]
   refine twX 10 ⟨some 32,.fieldAddr 179 (.tmp 31) 3,0,"body.go:57",#[⟨9,.data⟩,⟨0,.phase⟩,{ on:=1,ground:= .textOnly .lateStores },⟨2,.phase⟩,{ on:=3,ground:= .textOnly .lateStores },{ on:=4,ground:= .textOnly .lateStoresUnsure },{ on:=5,ground:= .textOnly .lateStoresUnsure },⟨6,.phase⟩,{ on:=7,ground:= .textOnly .lateStores },{ on:=8,ground:= .textOnly .lateStoresUnsure }],none⟩ (v:= ?v4_10) hq rfl (by kernel_rfl) ?y4_10 ?_
   case y4_10=>intro w;go_simp<;>with_reducible rfl
   try simp only [Act.put,List.setIfInBounds_toArray,List.set_cons_zero,List.set_cons_succ]
   refine clX 11 ⟨none,.store 3 (.tmp 32) (.tmp 24),0,"body.go:57",#[⟨10,.data⟩,⟨2,.data⟩,⟨0,.phase⟩,{ on:=1,ground:= .textOnly .lateStores },⟨2,.phase⟩,{ on:=3,ground:= .textOnly .lateStores },{ on:=4,ground:= .textOnly .lateStoresUnsure },{ on:=5,ground:= .textOnly .lateStoresUnsure },⟨6,.phase⟩,{ on:=7,ground:= .textOnly .lateStores },{ on:=8,ground:= .textOnly .lateStoresUnsure }],none⟩ rfl (by kernel_rfl) (by kernel_rfl) fun Kc hK=> ?_
   go_simp
   refine hK.out _ _ (fun h=>absurd h (by decide)) ?_
   clear hK Kc
   try simp only [Act.put,List.setIfInBounds_toArray,List.set_cons_zero,List.set_cons_succ]
   refine twX 12 ⟨some 33,.nilCheck (.tmp 23),0,"body.go:57",#[⟨1,.data⟩,⟨0,.phase⟩,⟨1,.phase⟩,⟨2,.phase⟩,⟨3,.phase⟩,⟨4,.phase⟩,⟨5,.phase⟩,⟨6,.phase⟩,⟨7,.phase⟩,⟨8,.phase⟩,⟨9,.phase⟩,⟨10,.phase⟩,⟨11,.phase⟩],none⟩ (v:= ?v4_12) hq rfl (by kernel_rfl) ?y4_12 ?_
   case y4_12=>intro w;go_simp<;>with_reducible rfl
   try simp only [Act.put,List.setIfInBounds_toArray,List.set_cons_zero,List.set_cons_succ]
   refine twX 13 ⟨some 34,.fieldAddr 179 (.tmp 33) 2,0,"body.go:57",#[⟨12,.data⟩,⟨0,.phase⟩,⟨1,.phase⟩,⟨2,.phase⟩,⟨3,.phase⟩,⟨4,.phase⟩,⟨5,.phase⟩,⟨6,.phase⟩,⟨7,.phase⟩,⟨8,.phase⟩,⟨9,.phase⟩,⟨10,.phase⟩,⟨11,.phase⟩],none⟩ (v:= ?v4_13) hq rfl (by kernel_rfl) ?y4_13 ?_
   case y4_13=>intro w;go_simp<;>with_reducible rfl
   try simp only [Act.put,List.setIfInBounds_toArray,List.set_cons_zero,List.set_cons_succ]
   refine clX 14 ⟨none,.store 41 (.tmp 34) (.tmp 30),0,"body.go:57",#[⟨13,.data⟩,⟨8,.data⟩,⟨11,.chain⟩,⟨0,.phase⟩,⟨1,.phase⟩,⟨2,.phase⟩,⟨3,.phase⟩,⟨4,.phase⟩,⟨5,.phase⟩,⟨6,.phase⟩,⟨7,.phase⟩,⟨8,.phase⟩,⟨9,.phase⟩,⟨10,.phase⟩,⟨11,.phase⟩],none⟩ rfl (by kernel_rfl) (by kernel_rfl) fun Kc hK=> ?_
   go_simp
   refine hK.out _ _ (fun h=>absurd h (by decide)) ?_
   clear hK Kc
   try simp only [Act.put,List.setIfInBounds_toArray,List.set_cons_zero,List.set_cons_succ]
   refine dnX (by kernel_rfl) ?_ _
   go_wp2_with fail
   refine bodyPost_end (v:= .tuple #[]) (by simp [results,Tryz.results185,go_sem]) rfl ?_
   exact ⟨_,rfl,((SS.refl HH.out).below B0.out).trans ((HFIN.out _ rfl).below (Below.refl _ _).drew)⟩
theorem slice_some (g o:Nat) (m c f:Nat) (hf:f≤m) (hm:m≤c) (w:World):
 (Instr.sliceAt 41 (.slice (some ⟨g,o,none⟩) m c) (some (.int .i64 f)) none none).run Tryz.prog w= .ok (.slice (some ⟨g,if c=f then o else o+f*2,none⟩) (m - f) (c - f)) w:=by
 have h0:(0:Int)≤(f:Int):=by omega
 have h1:(f:Int)≤(m:Int):=by omega
 have h2:(m:Int)≤(c:Int):=by omega
 have h3:f≤c:=by omega
 by_cases h:c=f
 ·subst h
  obtain rfl:m=c:=by omega
  go_simp
 ·have h':¬ f=c:=fun e=>h e.symm
  go_simp
theorem slice_none (w:World):(Instr.sliceAt 41 (.slice none 0 0) (some (.int .i64 (0:Nat))) none none).run Tryz.prog w= .ok (.slice none 0 0) w:=by
 go_simp
theorem slice_low {w0:World} {base:Nat} {A:Option Addr} {K:List Fld} {c f:Nat} (ho:w0.ownsRow base 97 2 (.slice A K.length c) K.length (zqr K)) (hf:f≤K.length):
 ∃ A' c',(∀ w,(Instr.sliceAt 41 (.slice A K.length c) (some (.int .i64 f)) none none).run Tryz.prog w= .ok (.slice A' (K.length - f) c') w)∧∀ w,FR w A K→FR w A' (K.drop f):=by
 rcases ho.2 with ⟨h1,h2⟩|⟨g,cap,cur,h1,hb,hg,hn,hc,hs,ht⟩
 ·simp only [Value.slice.injEq] at h1
  obtain ⟨rfl,h3,rfl⟩:=h1
  have hK:K= []:=List.length_eq_zero_iff.1 h3
  subst hK
  obtain rfl:f=0:=by simpa using hf
  exact ⟨none,0,slice_none,fun w h=>h⟩
 ·simp only [Value.slice.injEq] at h1
  obtain ⟨rfl,-,rfl⟩:=h1
  refine ⟨_,_,slice_some g 0 K.length c f hf hn,fun w h=> ?_⟩
  by_cases hcf:c=f
  ·have hK:K.drop f= []:=List.drop_eq_nil_of_le (by omega)
   rw [hK]
   exact fun h=>by simp at h
  ·rw [if_neg hcf];exact h.drop f
end Go.Proofs.YtkahbhfbgdbnfaaGreatDoor
