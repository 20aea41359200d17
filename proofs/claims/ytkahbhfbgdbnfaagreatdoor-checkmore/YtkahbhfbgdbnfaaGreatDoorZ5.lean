/- CONTRACT: binary of the reader, where calls one step down are as they should be. Nobody but the reader's own block has turned. -/
import Derived.Test.YtkahbhfbgdbnfaaGreatDoorZ4
import Derived.Test.YtkahbhfbgdbnfaaGreatDoorZ3
set_option maxRecDepth 100000
set_option maxHeartbeats 2000000
namespace Go.Proofs.YtkahbhfbgdbnfaaGreatDoor
open Go.Lib (hid)
open Go.RowKit
def BRelP (E:Env) (n:Nat) (w:World) (vb l d:Nat) (x:Tree) (rs:Res (List Tree)) (_:Value) (wr:World):Prop:=
 ∃ (m i nb:Nat) (ds:List Tree) (r:Res (List Tree)),m≤n∧vb<wr.heap.size∧Hid (P E.T m (.tail l) d i=some r)∧Hid (rs=preR ds r)∧Hid (NodeAt (fun y=>w.heap.size<y∧y≠vb) E.pl wr nb (ds.foldl (fun a b=>zqg a b) x))∧Hid (ST E w wr i d)∧Hid (PtrAt wr w.heap.size none)∧Hid (PtrAt wr vb (some ⟨nb,0,none⟩))
theorem lvl_le (t:List UInt8):lvl t≤5:=by
 unfold lvl
 split
 ·omega
 ·split
  ·omega
  ·have:=levelV_nn (zq1 t 1 16);omega
theorem binary_any (E:Env) (w:World) (i d:Nat) (n:Nat) (ih:IH E n) (l:Nat) (hl1:1≤l) (hl6:l≤6) (r:Res Tree) (h:RD E w i d) (hr:Hid (runW E.T (P E.T n) (binary l d) i=some r)):
 Calls Tryz.prog 218 #[.pointer (some ⟨E.rb,0,none⟩),.int .i64 l] w (Q E w d (VN E w.heap.size) r):=by
 have H:=hid h
 have hr1:=h.lt
 have hf0:=zxw
 have hf1:=zxn
 have hf2:=zq7
 have S0:=hid (ST.below (ST.refl h) (b1 w (.cells #[.pointer none] 25)))
 have P0:=hid (PtrAt.new w none)
 have l0:=P0.out.lt
 clear h
 go_enter Tryz.func218,Tryz.ntmps218
 go_wp2_with fail
 generalize w.alloc (.cells #[.pointer none] 25)=wa at*
 have hz:=H.out.zle
 rcases zxx hr.out with ⟨j1,er,hx,hq⟩|⟨a1,j1,hx,hq⟩
 ·exact (ih.unary _ i d _ S0.out.1 hx).mono fun e w' h=>by obtain ⟨rfl,hg⟩:=h;exact ⟨rfl,by rw [hq];exact ⟨rfl,S0.out.2.trans hg⟩⟩
 refine (ih.unary _ i d _ S0.out.1 hx).mono ?_
 rintro e w1 ⟨v1,rfl,⟨nb1,hv,hn⟩,hst⟩
 obtain rfl:=hv
 unfold zzd
 have P0':=hid (P0.out.kept hst.2 (by omega))
 clear P0
 have P0:=P0'
 clear P0'
 have N1:=hid (hn.from (B:=w.heap.size) (by omega))
 clear hn
 have S1:=hid (S0.out.trans hst)
 have z1:=hst.2.size
 clear hst
 have HR1:=hid hq
 clear hx hq
 have N0:=hid (N1.out.weak (ok':=fun y=>w.heap.size<y∧y≠w1.heap.size) fun y hy hl=>⟨hy,by omega⟩)
 clear N1
 obtain ⟨rs,hrs,hbad,hok⟩:=zvs HR1.out
 have HRS:=hid hrs
 have HBAD:=hid hbad
 have HOK:=hid hok
 clear hrs hbad hok
 have V:=hid (PtrAt.new w1 (some ⟨nb1,0,none⟩))
 have P0':=hid (P0.out.below (b1 w1 (.cells #[.pointer (some ⟨nb1,0,none⟩)] 25)))
 clear P0
 have P0:=P0'
 clear P0'
 have N0':=hid (N0.out.bl (b1 w1 (.cells #[.pointer (some ⟨nb1,0,none⟩)] 25)))
 clear N0
 have N0:=N0'
 clear N0'
 have S2:=hid (S1.out.below (b1 w1 (.cells #[.pointer (some ⟨nb1,0,none⟩)] 25)))
 have z2:=(b1 w1 (.cells #[.pointer (some ⟨nb1,0,none⟩)] 25)).size
 have y2:w1.heap.size<(w1.alloc (.cells #[.pointer (some ⟨nb1,0,none⟩)] 25)).heap.size:=by simp
 go_wp2_with fail
 generalize w1.alloc (.cells #[.pointer (some ⟨nb1,0,none⟩)] 25)=w2 at*
 go_loopw [7] (fun v wr=>BRelP E n w w1.heap.size l d (hd a1) rs v wr) (fun _ wr=>E.z - nx E wr)
 case atStart=>exact ⟨n,j1,nb1,[],rs,Nat.le_refl _,by omega,HRS,hid (z1f rs).symm,N0,S2,P0,V⟩
 case round=>
  obtain ⟨m,iq,nb,ds,rq,hm,hB,HP,HE,N,S,P0,V⟩:=hrel
  obtain ⟨m,rfl,hp⟩:=P_pos HP.out
  have HR:=hid (zvc hp)
  clear hp HP
  have hiz:=S.out.1.ile
  have hnx:=S.out.1.at_nx
  have HNX:=hid hnx
  clear hnx
  go_wp2_with fail
  refine (zk3 E _ iq d S.out.1).mono ?_
  rintro e w3 ⟨rfl,hb⟩
  have P0':=hid (P0.out.below hb)
  clear P0
  have P0:=P0'
  clear P0'
  have V':=hid (V.out.below hb)
  clear V
  have V:=V'
  clear V'
  have N':=hid (N.out.bl hb)
  clear N
  have N:=N'
  clear N'
  have S3:=hid (S.out.below hb)
  have z3:=hb.size
  clear hb
  unfold tokV
  have T:=hid (TokAt.new w3 (E.T iq).kind ⟨(E.T iq).text.toArray⟩ (E.pl iq))
  have P0':=hid (P0.out.below (b1 w3 (.cells #[.int .i64 (E.T iq).kind,.string ⟨(E.T iq).text.toArray⟩,.int .i64 (E.pl iq)] 108)))
  clear P0
  have P0:=P0'
  clear P0'
  have V':=hid (V.out.below (b1 w3 (.cells #[.int .i64 (E.T iq).kind,.string ⟨(E.T iq).text.toArray⟩,.int .i64 (E.pl iq)] 108)))
  clear V
  have V:=V'
  clear V'
  have N':=hid (N.out.bl (b1 w3 (.cells #[.int .i64 (E.T iq).kind,.string ⟨(E.T iq).text.toArray⟩,.int .i64 (E.pl iq)] 108)))
  clear N
  have N:=N'
  clear N'
  have S4:=hid (S3.out.below (b1 w3 (.cells #[.int .i64 (E.T iq).kind,.string ⟨(E.T iq).text.toArray⟩,.int .i64 (E.pl iq)] 108)))
  have z4:=(b1 w3 (.cells #[.int .i64 (E.T iq).kind,.string ⟨(E.T iq).text.toArray⟩,.int .i64 (E.pl iq)] 108)).size
  have y4:w3.heap.size<(w3.alloc (.cells #[.int .i64 (E.T iq).kind,.string ⟨(E.T iq).text.toArray⟩,.int .i64 (E.pl iq)] 108)).heap.size:=by simp
  have T1:=T.out.c1
  go_wp2_with fail
  generalize w3.alloc (.cells #[.int .i64 (E.T iq).kind,.string ⟨(E.T iq).text.toArray⟩,.int .i64 (E.pl iq)] 108)=w4 at*
  obtain ⟨own,hown⟩:∃ own,lvl (E.T iq).text=own:=⟨_,rfl⟩
  have ho5:own≤5:=by rw [←hown];exact lvl_le _
  have HOWN:=hid hown
  clear T1
  refine (levelOf_any _ _ S4.out.1.good.signs).mono ?_
  rintro e w9 ⟨rfl,rfl⟩
  rw [show lvl (⟨(E.T iq).text.toArray⟩:ByteArray).data.toList=own from hown]
  clear hown
  by_cases ht:own<l
  ·skip
   have HQ:Hid (r= .ok (ds.foldl (fun a b=>zqg a b) (hd a1)) iq):=zz7 (HOK.out _ _ (by rw [HE.out,zz7 (zkc HR.out (by rw [HOWN.out];exact ht))];simp [preR]))
   have hti:(own:Int)<(l:Int):=by omega
   have V0:=V.out.c0
   have q0:=P0.out.c0
   have f0:=P0.out.f0
   go_wp2_with fail
   refine bodyPost_ret (v:=zzd nb) (by unfold zzd;simp [results,Tryz.results218,go_sem,q0]) rfl ?_
   rw [HQ.out]
   exact zz5 H.out S4.out (N.out.weak (ok':=fun y=>w.heap.size<y) fun y hy _=>hy.1) (Nat.le_refl _) _
  ·skip
   have HR2:=hid (zq4 (zqq HR.out (by rw [HOWN.out];exact ht)))
   rw [HOWN.out] at HR2
   have hlt:=zqn H.out.sent (lvl_some (l:=(E.T iq).text) (by rw [HOWN.out];omega)) rfl
   have hti:¬ (own:Int)<(l:Int):=by omega
   have r1:=S4.out.1.c1
   have r2:=S4.out.1.fr 1
   go_wp2_with fail
   have S3:=hid (S4.out.setI (iq+1) (by omega))
   have P0':=hid (P0.out.kept (zxf w4 ⟨E.rb,1,none⟩ (.int .i64 (iq+1:Nat))) (by show _≠E.rb;omega))
   clear P0
   have P0:=P0'
   clear P0'
   have V':=hid (V.out.kept (zxf w4 ⟨E.rb,1,none⟩ (.int .i64 (iq+1:Nat))) (by show _≠E.rb;omega))
   clear V
   have V:=V'
   clear V'
   have N':=hid (N.out.kept (Keeps.set w4 ⟨E.rb,1,none⟩ (.int .i64 (iq+1:Nat)) (fun h=>by have h8:=h.1;have h9:w.heap.size<E.rb:=h8;omega)))
   clear N
   have N:=N'
   clear N'
   have T':=hid (T.out.kept (zxf w4 ⟨E.rb,1,none⟩ (.int .i64 (iq+1:Nat))) (by show _≠E.rb;omega))
   clear T
   have T:=T'
   clear T'
   have z3:=(zxf w4 ⟨E.rb,1,none⟩ (.int .i64 (iq+1:Nat))).size
   have hcast:((iq+1:Nat):Int)=(iq:Int)+1:=by omega
   simp only [hcast] at S3 P0 V N T z3
   clear hcast r1 r2
   generalize w4.setCell ⟨E.rb,1,none⟩ (.int .i64 ((iq:Int)+1))=w3 at*
   have cv:=V.out.c0
   have lV:=V.out.lt
   have lP:=P0.out.lt
   have lT:=T.out.lt
   have t0:=T.out.c0
   have t1:=T.out.c1
   have t2:=T.out.c2
   have hwr:IntKind.i64.wrap ((own:Int)+1)=(own:Int)+1:=IntWalk.i64_in _ (by omega)
   have HBIN:Hid (∀ (w':World) (rr:Res (List Tree)),RD E w' (iq+1) d→P E.T n (.binary (own+1)) d (iq+1)=some rr→Calls Tryz.prog 218 #[.pointer (some ⟨E.rb,0,none⟩),.int .i64 ((own:Int)+1)] w' (Q E w' d (VH E w'.heap.size) rr)):=by
    intro w' rr hrd hp
    rw [show ((own:Int)+1)=((own+1:Nat):Int) by omega]
    exact ih.binary w' (iq+1) d (own+1) rr (by omega) (by omega) hrd hp
   rcases zxx HR2.out with ⟨jz,er,hx,hq⟩|⟨az,jz,hx,hq⟩
   ·have HX:=hid (z3l E.T (show m≤n by omega) _ _ _ _ hx)
    have HQ:=hid (HBAD.out jz er (by rw [HE.out,hq];rfl))
    clear hx hq
    go_region_dies
    all_goals
     refine (HBIN.out _ _ (S3.out.1.below (Below.refl _ _).drew) HX.out).mono ?_
     rintro e w2 ⟨rfl,hg⟩
     exact ⟨rfl,by rw [HQ.out];exact ⟨rfl,S3.out.2.trans ((zqe (Below.refl _ _).drew).trans hg)⟩⟩
   have hpr:=P_prog S3.out.1.sent (nt:= .binary (own+1)) (show 1≤own+1 by omega) S3.out.1.ile hx
   simp only [minc] at hpr
   have HX:=hid (z3l E.T (show m≤n by omega) _ _ _ _ hx)
   have HQQ:=hid hq
   clear hx hq
   go_region_with (first|(go_at_call 218;refine (HBIN.out _ _ (S3.out.1.below (Below.refl _ _).drew) HX.out).mono ?_;rintro e w8 ⟨v8,rfl,⟨nb8,hv8,hn8⟩,hst⟩;obtain rfl:=hv8;unfold zzd;have cv':=(far hst.2 lV (by omega) 0).trans cv;have t0':=(far hst.2 lT (by omega) 0).trans t0;have t1':=(far hst.2 lT (by omega) 1).trans t1;have t2':=(far hst.2 lT (by omega) 2).trans t2;have HN8:=hid (hn8.weak (ok':=fun y=>w.heap.size<y∧y≠w1.heap.size) (fun y hy _=>⟨by have h9:w3.heap.size≤y:=hy;omega,by have h9:w3.heap.size≤y:=hy;omega⟩));have HST:=hid hst;clear hst hn8)|(go_at_call 238;refine (pair_any E _ (fun y=>w.heap.size<y∧y≠w1.heap.size) iq nb nb8 _ _ ((N.out.kept (Keeps.below (Below.refl _ _).drew)).kept (Keeps.grown HST.out.2 (fun y e hy=>by have h9:E.rb=y:=Option.some.inj e;omega))) HN8.out HST.out.1.good).mono ?_;rintro e w9 ⟨nb9,rfl,hb9,hn9⟩;unfold zzd;have V9:=hid (((V.out.below (Below.refl _ _).drew).kept HST.out.2 (by omega)).below hb9);have cv'':=V9.out.c0;have fv:=V9.out.f0;have P9:=hid (((P0.out.below (Below.refl _ _).drew).kept HST.out.2 (by omega)).below hb9);have HB9:=hid hb9;have HN9:=hid hn9;clear hb9 hn9))
   all_goals
    clear hwr
    have hz8:w3.heap.size≤w8.heap.size:=HST.out.2.size
    have NN:=HN9.out.keep (ok':=fun y=>w.heap.size<y∧y≠w1.heap.size) (Keeps.below (Below.refl _ _)) (fun y hy _=>by rcases hy with hy|hy<;>omega)
    have N9:=hid (NN.kept (Keeps.set _ ⟨w1.heap.size,0,none⟩ (.pointer (some ⟨nb9,0,none⟩)) (fun h=>h.2 rfl)))
    clear NN
    have S9:=hid (ST.set H.out ((((S3.out.below (Below.refl _ _).drew).trans HST.out)).below HB9.out) w1.heap.size 0 (by omega) (.pointer (some ⟨nb9,0,none⟩)))
    have VV:=hid (V9.out.set (some ⟨nb9,0,none⟩))
    have PP:=hid (P9.out.kept (zxf _ ⟨w1.heap.size,0,none⟩ (.pointer (some ⟨nb9,0,none⟩))) (by show w.heap.size≠w1.heap.size;omega))
    have hnx2:=S9.out.1.at_nx
    have HNX2:=hid hnx2
    clear hnx2
    have z9:=VV.out.lt
    rcases zxx HQQ.out with ⟨jy,er,hy,hq2⟩|⟨ay,jy,hy,hq2⟩
    ·have HP:Hid (P E.T m (.tail l) d jz=some (.bad jy er)):=hy
     have HE2:Hid (rs=preR (ds++ [half (E.T iq) iq (hd az)]) (.bad jy er)):=by show _=_;rw [HE.out,hq2];rfl
     clear hy hq2
     go_wp2_with fail
     go_roundw
     case rel=>exact ⟨m,jz,nb9,_,_,by omega,z9,HP,HE2,by show NodeAt _ _ _ _ _;rw [List.foldl_append];exact N9.out,S9,PP,VV⟩
     case measure=>rw [HNX.out,HNX2.out];omega
    ·have HP:Hid (P E.T m (.tail l) d jz=some (.ok ay jy)):=hy
     have HE2:Hid (rs=preR (ds++ [half (E.T iq) iq (hd az)]) (.ok ay jy)):=by show _=_;rw [HE.out,zz7 hq2];simp [preR]
     clear hy hq2
     go_wp2_with fail
     go_roundw
     case rel=>exact ⟨m,jz,nb9,_,_,by omega,z9,HP,HE2,by show NodeAt _ _ _ _ _;rw [List.foldl_append];exact N9.out,S9,PP,VV⟩
     case measure=>rw [HNX.out,HNX2.out];omega
theorem zvi {E:Env} {w w2 w3:World} {i0 d0 i d n op pos lo q:Nat} {name typ:List UInt8} {num:Int} {v:Value} {ts:List Tree} {ok:Nat→Prop} (H:RD E w i0 d0) (hst:ST E w w2 i d) (hk:KidsIn ok E.pl w2 v n ts) (hb:Below w2.heap.size w2 w3) (hrow:RowAt w3 w2.heap.size op ⟨name.toArray⟩ ⟨typ.toArray⟩ num (E.pl pos) v) (hq:w.heap.size≤q) (hqo:¬ ok q) (hqn:q<w2.heap.size) (hlo:∀ x,ok x→lo≤x) (hlw:lo≤w2.heap.size) (hn:n≤6000) (u:Value):
 Q E w d (VN E lo) (.ok (.mk op name typ num pos ts) i) (.returned (zzd w2.heap.size)) (w3.setCell ⟨q,0,none⟩ u):=
 ⟨_,rfl,⟨_,rfl,(node_mk (ok':=fun x=>ok x∨x=w2.heap.size) hk hb hrow (.inr rfl) (fun _ h _=> .inl h) hn).keep (Keeps.set _ _ _ (fun h=>h.elim hqo (fun e=>by have h9:q=w2.heap.size:=e;omega))) fun x h _=>h.elim (hlo x) (fun e=>by rw [e];exact hlw)⟩,ST.set H (hst.below hb) _ _ hq _⟩
theorem RowOf.kept {w w':World} {b rb:Nat} {op:Int} {name typ:ByteArray} {n p:Int} {A:Option Addr} {m c:Nat} (h:RowOf w (some ⟨b,0,none⟩) op name typ n p A m c) (hg:w.grownBy w' (some rb)) (hne:b≠rb):RowOf w' (some ⟨b,0,none⟩) op name typ n p A m c:=by
 rcases h with ⟨b',h1,h2⟩|h
 ·have e:b=b':=congrArg Addr.block (Option.some.inj h1)
  subst e
  exact .inl ⟨b,rfl,⟨Nat.lt_of_lt_of_le h2.lt hg.size,(far hg h2.lt hne _).trans h2.h0,(far hg h2.lt hne _).trans h2.h1,(far hg h2.lt hne _).trans h2.h2,(far hg h2.lt hne _).trans h2.h3,(far hg h2.lt hne _).trans h2.h4,(far hg h2.lt hne _).trans h2.h5⟩⟩
 ·cases h.1
theorem zwz (E:Env) (w:World) (i d:Nat) (n:Nat) (ih:IH E n) (op vb:Nat) (hT:Tree) (r:Res Tree) (h:RD E w i d) (hn:NodeAt (fun x=>E.rb<x) E.pl w vb hT) (hr:Hid (runW E.T (P E.T n) (zwa op hT d) i=some r)):
 Calls Tryz.prog 201 #[.pointer (some ⟨E.rb,0,none⟩),.int .i64 op,.agg #[.pointer (some ⟨vb,0,none⟩)]] w (Q E w d (VN E w.heap.size) r):=by
 have H:=hid h
 have hr1:=h.lt
 obtain ⟨A0,c0,hro⟩:=hn.rowOf
 have hvb:=hn.lt.2
 have hvl:=hn.lt.1
 have S0:=hid (ST.below (ST.refl h) (b2 w (.cells #[.pointer (some ⟨vb,0,none⟩)] 25) (.cells #[.pointer none] 25)))
 have R0:=hid (hro.below (b2 w (.cells #[.pointer (some ⟨vb,0,none⟩)] 25) (.cells #[.pointer none] 25)))
 have U:=hid ((PtrAt.new w (some ⟨vb,0,none⟩)).below (b1 _ (.cells #[.pointer none] 25)))
 have P0:=PtrAt.new (w.alloc (.cells #[.pointer (some ⟨vb,0,none⟩)] 25)) none
 rw [show (w.alloc (.cells #[.pointer (some ⟨vb,0,none⟩)] 25)).heap.size=w.heap.size+1 by simp] at P0
 have P0':=hid P0
 clear P0
 have P0:=P0'
 clear P0'
 have l0:=P0.out.lt
 clear h hn hro
 go_enter Tryz.func201,Tryz.ntmps201
 go_wp2_with fail
 generalize (w.alloc (.cells #[.pointer (some ⟨vb,0,none⟩)] 25)).alloc (.cells #[.pointer none] 25)=wa at*
 rcases zzc hr.out with ⟨j1,er,hx,hq⟩|⟨a1,j1,hx,hq⟩
 ·exact (zka E _ i d n ih _ S0.out.1 hx).mono fun e w' h=>by obtain ⟨rfl,hg⟩:=h;exact ⟨rfl,by rw [hq];exact ⟨rfl,S0.out.2.trans hg⟩⟩
 refine (zka E _ i d n ih _ S0.out.1 hx).mono ?_
 rintro e w1 ⟨v1,rfl,⟨nb1,hv,hn⟩,hst⟩
 obtain rfl:=hv
 unfold zzd
 have U':=hid (U.out.kept hst.2 (by omega))
 clear U
 have U:=U'
 clear U'
 have P0':=hid (P0.out.kept hst.2 (by omega))
 clear P0
 have P0:=P0'
 clear P0'
 have R0':=hid (R0.out.kept hst.2 (by omega))
 clear R0
 have R0:=R0'
 clear R0'
 have N1:=hid (hn.from (B:=(w.heap.size+1)) (by omega))
 clear hn
 have S1:=hid (S0.out.trans hst)
 have z1:=hst.2.size
 clear hst
 have HR1:=hid hq
 clear hx hq
 have V:=hid (PtrAt.new w1 (some ⟨nb1,0,none⟩))
 have U':=hid (U.out.below (b1 w1 (.cells #[.pointer (some ⟨nb1,0,none⟩)] 25)))
 clear U
 have U:=U'
 clear U'
 have P0':=hid (P0.out.below (b1 w1 (.cells #[.pointer (some ⟨nb1,0,none⟩)] 25)))
 clear P0
 have P0:=P0'
 clear P0'
 have N1':=hid (N1.out.bl (b1 w1 (.cells #[.pointer (some ⟨nb1,0,none⟩)] 25)))
 clear N1
 have N1:=N1'
 clear N1'
 have R0':=hid (R0.out.below (b1 w1 (.cells #[.pointer (some ⟨nb1,0,none⟩)] 25)))
 clear R0
 have R0:=R0'
 clear R0'
 have S2:=hid (S1.out.below (b1 w1 (.cells #[.pointer (some ⟨nb1,0,none⟩)] 25)))
 have z2:=(b1 w1 (.cells #[.pointer (some ⟨nb1,0,none⟩)] 25)).size
 have y2:w1.heap.size<(w1.alloc (.cells #[.pointer (some ⟨nb1,0,none⟩)] 25)).heap.size:=by simp
 go_wp2_with fail
 generalize w1.alloc (.cells #[.pointer (some ⟨nb1,0,none⟩)] 25)=w2 at*
 rcases zzc HR1.out with ⟨j3,er,hx,hq⟩|⟨a3,j3,hx,hq⟩
 ·exact (zzm E _ j1 d ⟨#[59]⟩ (P E.T n) _ S2.out.1 (hid (by decide)) hx).mono fun e w' h=>by obtain ⟨rfl,hg⟩:=h;exact ⟨rfl,by rw [hq];exact ⟨rfl,S2.out.2.trans hg⟩⟩
 refine (zzm E _ j1 d ⟨#[59]⟩ (P E.T n) _ S2.out.1 (hid (by decide)) hx).mono ?_
 rintro e w3 ⟨v3,rfl,-,hst⟩
 have U':=hid (U.out.kept hst.2 (by omega))
 clear U
 have U:=U'
 clear U'
 have P0':=hid (P0.out.kept hst.2 (by omega))
 clear P0
 have P0:=P0'
 clear P0'
 have N1':=hid (N1.out.st hst.2 (by omega))
 clear N1
 have N1:=N1'
 clear N1'
 have V':=hid (V.out.kept hst.2 (by omega))
 clear V
 have V:=V'
 clear V'
 have R0':=hid (R0.out.kept hst.2 (by omega))
 clear R0
 have R0:=R0'
 clear R0'
 have S3:=hid (S2.out.trans hst)
 have z3:=hst.2.size
 clear hst
 have HR3:=hid hq
 clear hx hq
 have HQ:Hid (r= .ok (.mk op hT.name [] 0 hT.pos [a1]) j3):=(Option.some.inj HR3.out).symm
 go_wp2_with fail
 have cu:=U.out.c0
 have cv:=V.out.c0
 have lu:=U.out.lt
 have lv:=V.out.lt
 have lp:=P0.out.lt
 have D0:Hid (Below w3.heap.size w3 w3.drew):=(Below.refl _ _).drew
 go_region_held3 (fun w'=>w3.grownBy w' (some (w.heap.size+1))∧w'.cell? ⟨w.heap.size,0,none⟩=some (.pointer (some ⟨vb,0,none⟩))∧w'.cell? ⟨w1.heap.size,0,none⟩=some (.pointer (some ⟨nb1,0,none⟩))) (first|exact ⟨zqe D0.out,cu,cv⟩|exact HK35.out|exact HK24.out|exact HK42.out|(obtain ⟨g1,g2,g3⟩:= ‹w3.grownBy _ (some (w.heap.size+1))∧_∧_›;have h8:=zw3 g1 (zqe (b:=w.heap.size+1) (b1 _ (.cells #[.pointer (some ⟨nb1,0,none⟩)] 25))) (fun j e=> .inr e);have h7:=(World.cell?_alloc_lt _ (.cells #[.pointer (some ⟨nb1,0,none⟩)] 25) ⟨w.heap.size,0,none⟩ (Nat.lt_of_lt_of_le lu g1.size)).trans g2;have h6:=(World.cell?_alloc_lt _ (.cells #[.pointer (some ⟨nb1,0,none⟩)] 25) ⟨w1.heap.size,0,none⟩ (Nat.lt_of_lt_of_le lv g1.size)).trans g3;exact ⟨h8,h7,h6⟩)|(refine ⟨HK42.out.1.trans (zxf _ ⟨w.heap.size+1,0,none⟩ _),?_,?_⟩<;>(rw [World.cell?_setCell_other _ _ _ _ (fun h=>by injection h with h1;omega)];first|exact HK42.out.2.1|exact HK42.out.2.2))) (first|(go_at_call 42;have h0:= ‹w3.grownBy _ (some (w.heap.size+1))∧_∧_›;refine (zjr _ _ _ _ _ _ _ _ _ _ (R0.out.kept h0.1 (by omega))).mono ?_;rintro e w35 ⟨rfl,hb35⟩;have HK35:Hid (w3.grownBy w35 (some (w.heap.size+1))∧w35.cell? ⟨w.heap.size,0,none⟩=some (.pointer (some ⟨vb,0,none⟩))∧w35.cell? ⟨w1.heap.size,0,none⟩=some (.pointer (some ⟨nb1,0,none⟩))):=⟨zw3 h0.1 (zqe (b:=w.heap.size+1) hb35) (fun j e=> .inr e),(hb35.cell (p:=⟨w.heap.size,0,none⟩) (Nat.lt_of_lt_of_le lu h0.1.size)).trans h0.2.1,(hb35.cell (p:=⟨w1.heap.size,0,none⟩) (Nat.lt_of_lt_of_le lv h0.1.size)).trans h0.2.2⟩;have HB35:=hid hb35;clear h0 hb35)|(go_at_call 31;have h0:= ‹w3.grownBy _ (some (w.heap.size+1))∧_∧_›;refine (at_of _ _ _ _ _ _ _ _ _ _ (R0.out.kept h0.1 (by omega))).mono ?_;rintro e w24 ⟨rfl,hb24⟩;have HK24:Hid (w3.grownBy w24 (some (w.heap.size+1))∧w24.cell? ⟨w.heap.size,0,none⟩=some (.pointer (some ⟨vb,0,none⟩))∧w24.cell? ⟨w1.heap.size,0,none⟩=some (.pointer (some ⟨nb1,0,none⟩))):=⟨zw3 h0.1 (zqe (b:=w.heap.size+1) hb24) (fun j e=> .inr e),(hb24.cell (p:=⟨w.heap.size,0,none⟩) (Nat.lt_of_lt_of_le lu h0.1.size)).trans h0.2.1,(hb24.cell (p:=⟨w1.heap.size,0,none⟩) (Nat.lt_of_lt_of_le lv h0.1.size)).trans h0.2.2⟩;have HB24:=hid hb24;clear h0 hb24)|(go_at_call 55;have h0:= ‹w3.grownBy _ (some (w.heap.size+1))∧_∧_›;refine Calls.mono (R:=NewQ _ _ _ _ _ _ _) (zzz _ _ _ _ _ _ _ _ _) ?_;rintro e w42 ⟨rfl,hb42,hrow⟩;have HK42:Hid (w3.grownBy w42 (some (w.heap.size+1))∧w42.cell? ⟨w.heap.size,0,none⟩=some (.pointer (some ⟨vb,0,none⟩))∧w42.cell? ⟨w1.heap.size,0,none⟩=some (.pointer (some ⟨nb1,0,none⟩))):=⟨zw3 h0.1 (zqe (b:=w.heap.size+1) hb42) (fun j e=> .inr e),(hb42.cell (p:=⟨w.heap.size,0,none⟩) (Nat.lt_of_lt_of_le lu h0.1.size)).trans h0.2.1,(hb42.cell (p:=⟨w1.heap.size,0,none⟩) (Nat.lt_of_lt_of_le lv h0.1.size)).trans h0.2.2⟩;have HB42:=hid hb42;have HROW:=hid hrow;have P9:PtrAt w42 (w.heap.size+1) none:=(PtrAt.below (by first|exact ((((P0.out.below D0.out).below HB35.out).below HB24.out).below (b1 _ _))|exact ((((P0.out.below D0.out).below HB35.out).below (b1 _ _)).below HB24.out)|exact ((((P0.out.below D0.out).below HB24.out).below HB35.out).below (b1 _ _))|exact ((((P0.out.below D0.out).below HB24.out).below (b1 _ _)).below HB35.out)|exact ((((P0.out.below D0.out).below (b1 _ _)).below HB35.out).below HB24.out)|exact ((((P0.out.below D0.out).below (b1 _ _)).below HB24.out).below HB35.out)) hb42);have q0:=P9.c0;have f0:=P9.f0;have hz0:=h0.1.size;clear h0 hb42 hrow P9;unfold zzd))
 all_goals
  have hbz:=HB42.out.size
  go_wp2_with fail
  refine bodyPost_ret (v:=zzd _) (by unfold zzd;simp only [results,Tryz.results201,go_sem];simp [go_sem,q0];rfl) rfl ?_
  rw [HQ.out]
  first|exact zvi (lo:=w.heap.size) (q:=w.heap.size+1) H.out (by first|exact ((((S3.out.below D0.out).below HB35.out).below HB24.out).below (b1 _ _))|exact ((((S3.out.below D0.out).below HB35.out).below (b1 _ _)).below HB24.out)|exact ((((S3.out.below D0.out).below HB24.out).below HB35.out).below (b1 _ _))|exact ((((S3.out.below D0.out).below HB24.out).below (b1 _ _)).below HB35.out)|exact ((((S3.out.below D0.out).below (b1 _ _)).below HB35.out).below HB24.out)|exact ((((S3.out.below D0.out).below (b1 _ _)).below HB24.out).below HB35.out)) (ok:=fun x=>w.heap.size+1<x) (by first|exact (zxk (((N1.out.bl D0.out).bl HB35.out).bl HB24.out) (by first|omega|(have h9:=HB35.out.size;have h8:=HB24.out.size;simp at h9 h8;omega)|(have h9:=HB35.out.size;simp at h9;omega)|(have h9:=HB24.out.size;simp at h9;omega)|(simp;omega)))|exact ((zxk ((N1.out.bl D0.out).bl HB35.out) (by first|omega|(have h9:=HB35.out.size;have h8:=HB24.out.size;simp at h9 h8;omega)|(have h9:=HB35.out.size;simp at h9;omega)|(have h9:=HB24.out.size;simp at h9;omega)|(simp;omega))).bl HB24.out)|exact (zxk (((N1.out.bl D0.out).bl HB24.out).bl HB35.out) (by first|omega|(have h9:=HB35.out.size;have h8:=HB24.out.size;simp at h9 h8;omega)|(have h9:=HB35.out.size;simp at h9;omega)|(have h9:=HB24.out.size;simp at h9;omega)|(simp;omega)))|exact ((zxk ((N1.out.bl D0.out).bl HB24.out) (by first|omega|(have h9:=HB35.out.size;have h8:=HB24.out.size;simp at h9 h8;omega)|(have h9:=HB35.out.size;simp at h9;omega)|(have h9:=HB24.out.size;simp at h9;omega)|(simp;omega))).bl HB35.out)|exact (((zxk (N1.out.bl D0.out) (by first|omega|(have h9:=HB35.out.size;have h8:=HB24.out.size;simp at h9 h8;omega)|(have h9:=HB35.out.size;simp at h9;omega)|(have h9:=HB24.out.size;simp at h9;omega)|(simp;omega))).bl HB35.out).bl HB24.out)|exact (((zxk (N1.out.bl D0.out) (by first|omega|(have h9:=HB35.out.size;have h8:=HB24.out.size;simp at h9 h8;omega)|(have h9:=HB35.out.size;simp at h9;omega)|(have h9:=HB24.out.size;simp at h9;omega)|(simp;omega))).bl HB24.out).bl HB35.out)) HB42.out HROW.out (by omega) (Nat.lt_irrefl _) (by omega) (fun x hx=>by omega) (by omega) (by omega) _|(have hfin:=zvi (lo:=w.heap.size) (q:=w.heap.size+1) H.out (by first|exact ((((S3.out.below D0.out).below HB35.out).below HB24.out).below (b1 _ _))|exact ((((S3.out.below D0.out).below HB35.out).below (b1 _ _)).below HB24.out)|exact ((((S3.out.below D0.out).below HB24.out).below HB35.out).below (b1 _ _))|exact ((((S3.out.below D0.out).below HB24.out).below (b1 _ _)).below HB35.out)|exact ((((S3.out.below D0.out).below (b1 _ _)).below HB35.out).below HB24.out)|exact ((((S3.out.below D0.out).below (b1 _ _)).below HB24.out).below HB35.out)) (ok:=fun x=>w.heap.size+1<x) (by first|exact (zxk (((N1.out.bl D0.out).bl HB35.out).bl HB24.out) (by first|omega|(have h9:=HB35.out.size;have h8:=HB24.out.size;simp at h9 h8;omega)|(have h9:=HB35.out.size;simp at h9;omega)|(have h9:=HB24.out.size;simp at h9;omega)|(simp;omega)))|exact ((zxk ((N1.out.bl D0.out).bl HB35.out) (by first|omega|(have h9:=HB35.out.size;have h8:=HB24.out.size;simp at h9 h8;omega)|(have h9:=HB35.out.size;simp at h9;omega)|(have h9:=HB24.out.size;simp at h9;omega)|(simp;omega))).bl HB24.out)|exact (zxk (((N1.out.bl D0.out).bl HB24.out).bl HB35.out) (by first|omega|(have h9:=HB35.out.size;have h8:=HB24.out.size;simp at h9 h8;omega)|(have h9:=HB35.out.size;simp at h9;omega)|(have h9:=HB24.out.size;simp at h9;omega)|(simp;omega)))|exact ((zxk ((N1.out.bl D0.out).bl HB24.out) (by first|omega|(have h9:=HB35.out.size;have h8:=HB24.out.size;simp at h9 h8;omega)|(have h9:=HB35.out.size;simp at h9;omega)|(have h9:=HB24.out.size;simp at h9;omega)|(simp;omega))).bl HB35.out)|exact (((zxk (N1.out.bl D0.out) (by first|omega|(have h9:=HB35.out.size;have h8:=HB24.out.size;simp at h9 h8;omega)|(have h9:=HB35.out.size;simp at h9;omega)|(have h9:=HB24.out.size;simp at h9;omega)|(simp;omega))).bl HB35.out).bl HB24.out)|exact (((zxk (N1.out.bl D0.out) (by first|omega|(have h9:=HB35.out.size;have h8:=HB24.out.size;simp at h9 h8;omega)|(have h9:=HB35.out.size;simp at h9;omega)|(have h9:=HB24.out.size;simp at h9;omega)|(simp;omega))).bl HB24.out).bl HB35.out)) HB42.out HROW.out (by omega) (Nat.lt_irrefl _) (by omega) (fun x hx=>by omega) (by omega) (by omega) (.pointer (some ⟨w24.heap.size+1,0,none⟩));rw [show (w24.alloc (.cells #[.pointer (some ⟨nb1,0,none⟩)] 25)).heap.size=w24.heap.size+1 by simp] at hfin;exact hfin)|(have hfin:=zvi (lo:=w.heap.size) (q:=w.heap.size+1) H.out (by first|exact ((((S3.out.below D0.out).below HB35.out).below HB24.out).below (b1 _ _))|exact ((((S3.out.below D0.out).below HB35.out).below (b1 _ _)).below HB24.out)|exact ((((S3.out.below D0.out).below HB24.out).below HB35.out).below (b1 _ _))|exact ((((S3.out.below D0.out).below HB24.out).below (b1 _ _)).below HB35.out)|exact ((((S3.out.below D0.out).below (b1 _ _)).below HB35.out).below HB24.out)|exact ((((S3.out.below D0.out).below (b1 _ _)).below HB24.out).below HB35.out)) (ok:=fun x=>w.heap.size+1<x) (by first|exact (zxk (((N1.out.bl D0.out).bl HB35.out).bl HB24.out) (by first|omega|(have h9:=HB35.out.size;have h8:=HB24.out.size;simp at h9 h8;omega)|(have h9:=HB35.out.size;simp at h9;omega)|(have h9:=HB24.out.size;simp at h9;omega)|(simp;omega)))|exact ((zxk ((N1.out.bl D0.out).bl HB35.out) (by first|omega|(have h9:=HB35.out.size;have h8:=HB24.out.size;simp at h9 h8;omega)|(have h9:=HB35.out.size;simp at h9;omega)|(have h9:=HB24.out.size;simp at h9;omega)|(simp;omega))).bl HB24.out)|exact (zxk (((N1.out.bl D0.out).bl HB24.out).bl HB35.out) (by first|omega|(have h9:=HB35.out.size;have h8:=HB24.out.size;simp at h9 h8;omega)|(have h9:=HB35.out.size;simp at h9;omega)|(have h9:=HB24.out.size;simp at h9;omega)|(simp;omega)))|exact ((zxk ((N1.out.bl D0.out).bl HB24.out) (by first|omega|(have h9:=HB35.out.size;have h8:=HB24.out.size;simp at h9 h8;omega)|(have h9:=HB35.out.size;simp at h9;omega)|(have h9:=HB24.out.size;simp at h9;omega)|(simp;omega))).bl HB35.out)|exact (((zxk (N1.out.bl D0.out) (by first|omega|(have h9:=HB35.out.size;have h8:=HB24.out.size;simp at h9 h8;omega)|(have h9:=HB35.out.size;simp at h9;omega)|(have h9:=HB24.out.size;simp at h9;omega)|(simp;omega))).bl HB35.out).bl HB24.out)|exact (((zxk (N1.out.bl D0.out) (by first|omega|(have h9:=HB35.out.size;have h8:=HB24.out.size;simp at h9 h8;omega)|(have h9:=HB35.out.size;simp at h9;omega)|(have h9:=HB24.out.size;simp at h9;omega)|(simp;omega))).bl HB24.out).bl HB35.out)) HB42.out HROW.out (by omega) (Nat.lt_irrefl _) (by omega) (fun x hx=>by omega) (by omega) (by omega) (.pointer (some ⟨w35.heap.size+1,0,none⟩));rw [show (w35.alloc (.cells #[.pointer (some ⟨nb1,0,none⟩)] 25)).heap.size=w35.heap.size+1 by simp] at hfin;exact hfin)
def okP (lo s tb y:Nat):Prop:=lo≤y∧y≠s∧y≠s+1∧y≠tb
theorem TokAt.set {w:World} {b:Nat} {k:Int} {s:ByteArray} {p:Int} (h:TokAt w b k s p) (k':Int) (s':ByteArray) (p':Int):TokAt (((w.setCell ⟨b,0,none⟩ (.int .i64 k')).setCell ⟨b,1,none⟩ (.string s')).setCell ⟨b,2,none⟩ (.int .i64 p')) b k' s' p':=by
 have hs:w.heap.size≤(((w.setCell ⟨b,0,none⟩ (.int .i64 k')).setCell ⟨b,1,none⟩ (.string s')).setCell ⟨b,2,none⟩ (.int .i64 p')).heap.size:=by simp
 refine ⟨Nat.lt_of_lt_of_le h.lt hs,?_,?_,?_,?_,?_,?_⟩
 ·rw [World.cell?_setCell_other _ _ _ _ (by simp),World.cell?_setCell_other _ _ _ _ (by simp)];exact World.cell?_setCell_same _ _ _ h.c0
 ·rw [World.cell?_setCell_other _ _ _ _ (by simp)];exact World.cell?_setCell_same _ _ _ (by rw [World.cell?_setCell_other _ _ _ _ (by simp)];exact h.c1)
 ·exact World.cell?_setCell_same _ _ _ (by rw [World.cell?_setCell_other _ _ _ _ (by simp),World.cell?_setCell_other _ _ _ _ (by simp)];exact h.c2)
 all_goals simp only [World.frozen?_setCell]
 ·exact h.f0
 ·exact h.f1
 ·exact h.f2
def PutRel (E:Env) (n:Nat) (w:World) (lo tb d:Nat) (hT f0:Tree) (rs:Res (List Tree)) (_:Value) (wr:World):Prop:=
 ∃ (m i nb:Nat) (p:Nat×List UInt8) (t:Tree) (ds:List Tree) (r:Res (List Tree)),m≤n∧tb<wr.heap.size∧Hid (P E.T m .fields d i=some r)∧Hid (rs=preR ds r)∧Hid (∀ rest v,putT hT f0 (ds++rest) v=putT t (bare p) rest v)∧Hid ((E.T p.1).text=p.2)∧Hid (NodeAt (okP lo w.heap.size tb) E.pl wr nb t)∧Hid (ST E w wr i d)∧Hid (PtrAt wr (w.heap.size+1) none)∧Hid (PtrAt wr w.heap.size (some ⟨nb,0,none⟩))∧Hid (TokAt wr tb (E.T p.1).kind ⟨(E.T p.1).text.toArray⟩ (E.pl p.1))
theorem z0n (E:Env) (w:World) (i d:Nat) (n:Nat) (ih:IH E n) (lo vb:Nat) (hT:Tree) (r:Res Tree) (h:RD E w i d) (hlo:E.rb<lo) (hlw:lo≤w.heap.size) (hn:NodeAt (fun x=>lo≤x) E.pl w vb hT) (hr:Hid (runW E.T (P E.T n) (put hT d) i=some r)):
 Calls Tryz.prog 202 #[.pointer (some ⟨E.rb,0,none⟩),.agg #[.pointer (some ⟨vb,0,none⟩)]] w (Q E w d (VN E lo) r):=by
 have H:=hid h
 have hr1:=h.lt
 have hz:=h.zle
 have N:=hid ((hn.weak (ok':=fun y=>lo≤y∧y≠w.heap.size∧y≠w.heap.size+1) (fun y hy hl=>⟨hy,by omega,by omega⟩)).bl (b2 w (.cells #[.pointer (some ⟨vb,0,none⟩)] 25) (.cells #[.pointer none] 25)))
 have S0:=hid (ST.below (ST.refl h) (b2 w (.cells #[.pointer (some ⟨vb,0,none⟩)] 25) (.cells #[.pointer none] 25)))
 have U:=hid ((PtrAt.new w (some ⟨vb,0,none⟩)).below (b1 _ (.cells #[.pointer none] 25)))
 have P0:=PtrAt.new (w.alloc (.cells #[.pointer (some ⟨vb,0,none⟩)] 25)) none
 rw [show (w.alloc (.cells #[.pointer (some ⟨vb,0,none⟩)] 25)).heap.size=w.heap.size+1 by simp] at P0
 have P0':=hid P0
 clear P0
 have P0:=P0'
 clear P0'
 have l0:=P0.out.lt
 clear h hn
 go_enter Tryz.func202,Tryz.ntmps202
 go_wp2_with fail
 generalize (w.alloc (.cells #[.pointer (some ⟨vb,0,none⟩)] 25)).alloc (.cells #[.pointer none] 25)=wa at*
 rcases zzc hr.out with ⟨j1,er,hx,hq⟩|⟨a1,j1,hx,hq⟩
 ·exact (zkt E _ i d (P E.T n) _ S0.out.1 hx).mono fun e w' h=>by obtain ⟨rfl,hg⟩:=h;exact ⟨rfl,by rw [hq];exact ⟨rfl,S0.out.2.trans hg⟩⟩
 refine (zkt E _ i d (P E.T n) _ S0.out.1 hx).mono ?_
 rintro e w1 ⟨v1,rfl,⟨hv,htx⟩,hst⟩
 obtain rfl:=hv
 unfold tokV
 have U':=hid (U.out.kept hst.2 (by omega))
 clear U
 have U:=U'
 clear U'
 have P0':=hid (P0.out.kept hst.2 (by omega))
 clear P0
 have P0:=P0'
 clear P0'
 have N':=hid (N.out.kept (Keeps.grown hst.2 (fun y e hy=>by have h9:E.rb=y:=Option.some.inj e;omega)))
 clear N
 have N:=N'
 clear N'
 have X1:=hid htx
 clear htx
 have S1:=hid (S0.out.trans hst)
 have z1:=hst.2.size
 clear hst
 have HR1:=hid hq
 clear hx hq
 have N':=hid (N.out.weak (ok':=okP lo w.heap.size w1.heap.size) fun y hy hl=>⟨hy.1,hy.2.1,hy.2.2,by omega⟩)
 clear N
 have N:=N'
 clear N'
 obtain ⟨rs,hrs,hbad,hok⟩:=zvs HR1.out
 have HRS:=hid hrs
 have HBAD:=hid hbad
 have HOK:=hid hok
 clear hrs hbad hok
 have T:=hid (TokAt.new w1 (E.T a1.1).kind ⟨(E.T a1.1).text.toArray⟩ (E.pl a1.1))
 have U':=hid (U.out.below (b1 w1 (.cells #[.int .i64 (E.T a1.1).kind,.string ⟨(E.T a1.1).text.toArray⟩,.int .i64 (E.pl a1.1)] 108)))
 clear U
 have U:=U'
 clear U'
 have P0':=hid (P0.out.below (b1 w1 (.cells #[.int .i64 (E.T a1.1).kind,.string ⟨(E.T a1.1).text.toArray⟩,.int .i64 (E.pl a1.1)] 108)))
 clear P0
 have P0:=P0'
 clear P0'
 have N':=hid (N.out.bl (b1 w1 (.cells #[.int .i64 (E.T a1.1).kind,.string ⟨(E.T a1.1).text.toArray⟩,.int .i64 (E.pl a1.1)] 108)))
 clear N
 have N:=N'
 clear N'
 have S2:=hid (S1.out.below (b1 w1 (.cells #[.int .i64 (E.T a1.1).kind,.string ⟨(E.T a1.1).text.toArray⟩,.int .i64 (E.pl a1.1)] 108)))
 have z2:=(b1 w1 (.cells #[.int .i64 (E.T a1.1).kind,.string ⟨(E.T a1.1).text.toArray⟩,.int .i64 (E.pl a1.1)] 108)).size
 have y2:w1.heap.size<(w1.alloc (.cells #[.int .i64 (E.T a1.1).kind,.string ⟨(E.T a1.1).text.toArray⟩,.int .i64 (E.pl a1.1)] 108)).heap.size:=by simp
 go_wp2_with fail
 generalize w1.alloc (.cells #[.int .i64 (E.T a1.1).kind,.string ⟨(E.T a1.1).text.toArray⟩,.int .i64 (E.pl a1.1)] 108)=w2 at*
 go_loopw [10] (fun v wr=>PutRel E n w lo w1.heap.size d hT (bare a1) rs v wr) (fun _ wr=>E.z - nx E wr)
 case atStart=>exact ⟨n,j1,vb,a1,hT,[],rs,Nat.le_refl _,by omega,HRS,hid (z1f rs).symm,hid (fun _ _=>rfl),X1,N,S2,P0,U,T⟩
 case round=>
  obtain ⟨m,iq,nb,p,t,ds,rq,hm,hB,HP,HE,HV,HTX,N,S,P0,U,T⟩:=hrel
  obtain ⟨m,rfl,hp⟩:=P_pos HP.out
  have HR:=hid hp
  clear hp HP
  have hiz:=S.out.1.ile
  have hnx:=S.out.1.at_nx
  have HNX:=hid hnx
  clear hnx
  by_cases ht:(E.T iq).text=cDot
  ·skip
   have h0:=zq9 HR.out ht
   have HR3:=hid h0
   clear h0
   go_wp2_with fail
   refine (is_yes E _ iq d ⟨#[46]⟩ S.out.1 ht).mono ?_
   rintro e w4 ⟨rfl,hb⟩
   have P0':=hid (P0.out.below hb)
   clear P0
   have P0:=P0'
   clear P0'
   have U':=hid (U.out.below hb)
   clear U
   have U:=U'
   clear U'
   have T':=hid (T.out.below hb)
   clear T
   have T:=T'
   clear T'
   have N':=hid (N.out.bl hb)
   clear N
   have N:=N'
   clear N'
   have S4:=hid (S.out.below hb)
   have z4:=hb.size
   clear hb
   clear ht
   have cu:=U.out.c0
   have fu:=U.out.f0
   have t0:=T.out.c0
   have t1:=T.out.c1
   have t2:=T.out.c2
   go_wp2_with fail
   refine (fieldOf_any E _ (okP lo w.heap.size w1.heap.size) nb t p N.out HTX).mono ?_
   rintro e w8 ⟨nb8,rfl,hb8,hn8⟩
   unfold zzd
   clear cu fu t0 t1 t2
   have z8:=hb8.size
   have N8:=hn8.weak (ok':=okP lo w.heap.size w1.heap.size) (fun y hy _=>by rcases hy with hy|hy;exact hy;exact ⟨by omega,by omega,by omega,by omega⟩)
   have S8:=S4.out.below hb8
   have U8:=U.out.below hb8
   have P8:=P0.out.below hb8
   have T8:=T.out.below hb8
   have cu:=U8.c0
   have fu:=U8.f0
   have N9:=hid (N8.kept (Keeps.set w8 ⟨w.heap.size,0,none⟩ (.pointer (some ⟨nb8,0,none⟩)) (fun h=>h.2.1 rfl)))
   have S9:=hid (ST.set H.out S8 w.heap.size 0 (Nat.le_refl _) (.pointer (some ⟨nb8,0,none⟩)))
   have U9:=hid (U8.set (some ⟨nb8,0,none⟩))
   have P9:=hid (P8.kept (zxf w8 ⟨w.heap.size,0,none⟩ (.pointer (some ⟨nb8,0,none⟩))) (by show w.heap.size+1≠w.heap.size;omega))
   have T9:=hid (T8.kept (zxf w8 ⟨w.heap.size,0,none⟩ (.pointer (some ⟨nb8,0,none⟩))) (by show w1.heap.size≠w.heap.size;omega))
   have z9:=(zxf w8 ⟨w.heap.size,0,none⟩ (.pointer (some ⟨nb8,0,none⟩))).size
   clear N8 S8 U8 P8 T8 hb8 hn8 N U P0 T
   go_wp2_with fail
   generalize w8.setCell ⟨w.heap.size,0,none⟩ (.pointer (some ⟨nb8,0,none⟩))=w9 at*
   clear cu fu
   have N:=N9
   have U:=U9
   have P0:=P9
   have T:=T9
   clear N9 U9 P9 T9
   rcases zzc HR3.out with ⟨j10,er,hx,hq⟩|⟨a10,j10,hx,hq⟩
   ·exact (zkt E _ iq d _ _ S9.out.1 hx).mono fun e w' h=>by obtain ⟨rfl,hg⟩:=h;exact ⟨rfl,by rw [HBAD.out j10 er (by rw [HE.out,hq];rfl)];exact ⟨rfl,S9.out.2.trans hg⟩⟩
   have hpr:=fname_prog S9.out.1.sent hx
   refine (zkt E _ iq d _ _ S9.out.1 hx).mono ?_
   rintro e w10 ⟨v10,rfl,⟨hv,htx⟩,hst⟩
   obtain rfl:=hv
   unfold tokV
   have P0':=hid (P0.out.kept hst.2 (by omega))
   clear P0
   have P0:=P0'
   clear P0'
   have U':=hid (U.out.kept hst.2 (by omega))
   clear U
   have U:=U'
   clear U'
   have T':=hid (T.out.kept hst.2 (by omega))
   clear T
   have T:=T'
   clear T'
   have N':=hid (N.out.kept (Keeps.grown hst.2 (fun y e hy=>by have h9:E.rb=y:=Option.some.inj e;have h8:=hy.1;omega)))
   clear N
   have N:=N'
   clear N'
   have X10:=hid htx
   clear htx
   have S10:=hid (S9.out.trans hst)
   have z10:=hst.2.size
   clear hst
   have HQQ:=hid hq
   clear hx hq
   have t0:=T.out.c0
   have t1:=T.out.c1
   have t2:=T.out.c2
   have g0:=T.out.f0
   have g1:=T.out.f1
   have g2:=T.out.f2
   have T11:=hid (T.out.set (E.T a10.1).kind ⟨(E.T a10.1).text.toArray⟩ (E.pl a10.1))
   have S11:=hid (ST.set H.out (ST.set H.out (ST.set H.out S10.out w1.heap.size 0 (by omega) (.int .i64 (E.T a10.1).kind)) w1.heap.size 1 (by omega) (.string ⟨(E.T a10.1).text.toArray⟩)) w1.heap.size 2 (by omega) (.int .i64 (E.pl a10.1)))
   have U11:=hid (((U.out.kept (zxf w10 ⟨w1.heap.size,0,none⟩ (.int .i64 (E.T a10.1).kind)) (by show w.heap.size≠w1.heap.size;omega)).kept (zxf _ ⟨w1.heap.size,1,none⟩ (.string ⟨(E.T a10.1).text.toArray⟩)) (by show w.heap.size≠w1.heap.size;omega)).kept (zxf _ ⟨w1.heap.size,2,none⟩ (.int .i64 (E.pl a10.1))) (by show w.heap.size≠w1.heap.size;omega))
   have P11:=hid (((P0.out.kept (zxf w10 ⟨w1.heap.size,0,none⟩ (.int .i64 (E.T a10.1).kind)) (by show w.heap.size+1≠w1.heap.size;omega)).kept (zxf _ ⟨w1.heap.size,1,none⟩ (.string ⟨(E.T a10.1).text.toArray⟩)) (by show w.heap.size+1≠w1.heap.size;omega)).kept (zxf _ ⟨w1.heap.size,2,none⟩ (.int .i64 (E.pl a10.1))) (by show w.heap.size+1≠w1.heap.size;omega))
   have N11:=hid (((N.out.kept (Keeps.set w10 ⟨w1.heap.size,0,none⟩ (.int .i64 (E.T a10.1).kind) (fun h=>h.2.2.2 rfl))).kept (Keeps.set _ ⟨w1.heap.size,1,none⟩ (.string ⟨(E.T a10.1).text.toArray⟩) (fun h=>h.2.2.2 rfl))).kept (Keeps.set _ ⟨w1.heap.size,2,none⟩ (.int .i64 (E.pl a10.1)) (fun h=>h.2.2.2 rfl)))
   have hnx2:=S11.out.1.at_nx
   have HNX2:=hid hnx2
   have z11:=T11.out.lt
   have HV2:Hid (∀ rest v,putT hT (bare a1) ((ds++ [bare a10])++rest) v=putT (zqg t (bare p)) (bare a10) rest v):=fun rest v=>by rw [List.append_assoc];exact HV.out (bare a10::rest) v
   clear hnx2
   go_wp2_with fail
   clear t0 t1 t2 g0 g1 g2
   rcases zxx HQQ.out with ⟨jy,er,hy,hq2⟩|⟨ay,jy,hy,hq2⟩
   ·have HP:Hid (P E.T m .fields d j10=some (.bad jy er)):=hy
    have HE2:Hid (rs=preR (ds++ [bare a10]) (.bad jy er)):=by show _=_;rw [HE.out,hq2];rfl
    clear hy hq2
    go_roundw
    case rel=>exact ⟨m,j10,nb8,a10,_,_,_,by omega,z11,HP,HE2,HV2,X10,N11,S11,P11,U11,T11⟩
    case measure=>rw [HNX.out,HNX2.out];omega
   ·have HP:Hid (P E.T m .fields d j10=some (.ok ay jy)):=hy
    have HE2:Hid (rs=preR (ds++ [bare a10]) (.ok ay jy)):=by show _=_;rw [HE.out,zz7 hq2];simp [preR]
    clear hy hq2
    go_roundw
    case rel=>exact ⟨m,j10,nb8,a10,_,_,_,by omega,z11,HP,HE2,HV2,X10,N11,S11,P11,U11,T11⟩
    case measure=>rw [HNX.out,HNX2.out];omega
  ·skip
   have HR11:=hid (zk6 HR.out ht)
   go_wp2_with fail
   have HRR:=hid (HOK.out ds iq (by rw [HE.out,zz7 HR11.out];simp [preR]))
   refine (is_no E _ iq d ⟨#[46]⟩ S.out.1 ht).mono ?_
   rintro e w12 ⟨rfl,hb⟩
   have P0':=hid (P0.out.below hb)
   clear P0
   have P0:=P0'
   clear P0'
   have U':=hid (U.out.below hb)
   clear U
   have U:=U'
   clear U'
   have T':=hid (T.out.below hb)
   clear T
   have T:=T'
   clear T'
   have N':=hid (N.out.bl hb)
   clear N
   have N:=N'
   clear N'
   have S12:=hid (S.out.below hb)
   have z12:=hb.size
   clear hb
   clear ht
   go_wp2_with fail
   rcases zzc HRR.out with ⟨j13,er,hx,hq⟩|⟨a13,j13,hx,hq⟩
   ·exact (zzm E _ iq d ⟨#[61]⟩ (P E.T n) _ S12.out.1 (hid (by decide)) hx).mono fun e w' h=>by obtain ⟨rfl,hg⟩:=h;exact ⟨rfl,by rw [hq];exact ⟨rfl,S12.out.2.trans hg⟩⟩
   refine (zzm E _ iq d ⟨#[61]⟩ (P E.T n) _ S12.out.1 (hid (by decide)) hx).mono ?_
   rintro e w13 ⟨v13,rfl,-,hst⟩
   have P0':=hid (P0.out.kept hst.2 (by omega))
   clear P0
   have P0:=P0'
   clear P0'
   have U':=hid (U.out.kept hst.2 (by omega))
   clear U
   have U:=U'
   clear U'
   have T':=hid (T.out.kept hst.2 (by omega))
   clear T
   have T:=T'
   clear T'
   have N':=hid (N.out.kept (Keeps.grown hst.2 (fun y e hy=>by have h9:E.rb=y:=Option.some.inj e;have h8:=hy.1;omega)))
   clear N
   have N:=N'
   clear N'
   have S13:=hid (S12.out.trans hst)
   have z13:=hst.2.size
   clear hst
   have HR13:=hid hq
   clear hx hq
   go_wp2_with fail
   rcases zzc HR13.out with ⟨j14,er,hx,hq⟩|⟨a14,j14,hx,hq⟩
   ·exact (zka E _ j13 d n ih _ S13.out.1 hx).mono fun e w' h=>by obtain ⟨rfl,hg⟩:=h;exact ⟨rfl,by rw [hq];exact ⟨rfl,S13.out.2.trans hg⟩⟩
   refine (zka E _ j13 d n ih _ S13.out.1 hx).mono ?_
   rintro e w14 ⟨v14,rfl,⟨nb14,hv,hn⟩,hst⟩
   obtain rfl:=hv
   unfold zzd
   have P0':=hid (P0.out.kept hst.2 (by omega))
   clear P0
   have P0:=P0'
   clear P0'
   have U':=hid (U.out.kept hst.2 (by omega))
   clear U
   have U:=U'
   clear U'
   have T':=hid (T.out.kept hst.2 (by omega))
   clear T
   have T:=T'
   clear T'
   have N':=hid (N.out.kept (Keeps.grown hst.2 (fun y e hy=>by have h9:E.rb=y:=Option.some.inj e;have h8:=hy.1;omega)))
   clear N
   have N:=N'
   clear N'
   have N14:=hid (hn.from (B:=w1.heap.size) (by omega))
   clear hn
   have S14:=hid (S13.out.trans hst)
   have z14:=hst.2.size
   clear hst
   have HR14:=hid hq
   clear hx hq
   have V:=hid (PtrAt.new w14 (some ⟨nb14,0,none⟩))
   have P0':=hid (P0.out.below (b1 w14 (.cells #[.pointer (some ⟨nb14,0,none⟩)] 25)))
   clear P0
   have P0:=P0'
   clear P0'
   have U':=hid (U.out.below (b1 w14 (.cells #[.pointer (some ⟨nb14,0,none⟩)] 25)))
   clear U
   have U:=U'
   clear U'
   have T':=hid (T.out.below (b1 w14 (.cells #[.pointer (some ⟨nb14,0,none⟩)] 25)))
   clear T
   have T:=T'
   clear T'
   have N14':=hid (N14.out.bl (b1 w14 (.cells #[.pointer (some ⟨nb14,0,none⟩)] 25)))
   clear N14
   have N14:=N14'
   clear N14'
   have N':=hid (N.out.bl (b1 w14 (.cells #[.pointer (some ⟨nb14,0,none⟩)] 25)))
   clear N
   have N:=N'
   clear N'
   have S15:=hid (S14.out.below (b1 w14 (.cells #[.pointer (some ⟨nb14,0,none⟩)] 25)))
   have z15:=(b1 w14 (.cells #[.pointer (some ⟨nb14,0,none⟩)] 25)).size
   have y15:w14.heap.size<(w14.alloc (.cells #[.pointer (some ⟨nb14,0,none⟩)] 25)).heap.size:=by simp
   go_wp2_with fail
   generalize w14.alloc (.cells #[.pointer (some ⟨nb14,0,none⟩)] 25)=w15 at*
   rcases zzc HR14.out with ⟨j16,er,hx,hq⟩|⟨a16,j16,hx,hq⟩
   ·exact (zzm E _ j14 d ⟨#[59]⟩ (P E.T n) _ S15.out.1 (hid (by decide)) hx).mono fun e w' h=>by obtain ⟨rfl,hg⟩:=h;exact ⟨rfl,by rw [hq];exact ⟨rfl,S15.out.2.trans hg⟩⟩
   refine (zzm E _ j14 d ⟨#[59]⟩ (P E.T n) _ S15.out.1 (hid (by decide)) hx).mono ?_
   rintro e w16 ⟨v16,rfl,-,hst⟩
   have P0':=hid (P0.out.kept hst.2 (by omega))
   clear P0
   have P0:=P0'
   clear P0'
   have U':=hid (U.out.kept hst.2 (by omega))
   clear U
   have U:=U'
   clear U'
   have T':=hid (T.out.kept hst.2 (by omega))
   clear T
   have T:=T'
   clear T'
   have N14':=hid (N14.out.st hst.2 (by omega))
   clear N14
   have N14:=N14'
   clear N14'
   have V':=hid (V.out.kept hst.2 (by omega))
   clear V
   have V:=V'
   clear V'
   have N':=hid (N.out.kept (Keeps.grown hst.2 (fun y e hy=>by have h9:E.rb=y:=Option.some.inj e;have h8:=hy.1;omega)))
   clear N
   have N:=N'
   clear N'
   have S16:=hid (S15.out.trans hst)
   have z16:=hst.2.size
   clear hst
   have HR16:=hid hq
   clear hx hq
   have HQ:Hid (r= .ok (.mk 9 p.2 [] 0 p.1 [t,a14]) j16):=by
    have h1:=zz7 HR16.out
    have h2:=HV.out [] a14
    rw [List.append_nil] at h2
    show _=_
    rw [h1,h2]
    rfl
   have cu:=U.out.c0
   have cv:=V.out.c0
   have t1:=T.out.c1
   have t2:=T.out.c2
   have K:=hid (kids_lit2g (ok':=okP lo w.heap.size w1.heap.size) N.out (N14.out.weak (ok':=okP lo w.heap.size w1.heap.size) (fun y hy _=>⟨by omega,by omega,by omega,by omega⟩)) (fun y hy _=>hy) ⟨by omega,by omega,by omega,by omega⟩)
   have S20:=hid (S16.out.below (b1 w16 (.cells #[.pointer (some ⟨nb,0,none⟩),.pointer (some ⟨nb14,0,none⟩)] 25)))
   have P20:=hid (P0.out.below (b1 w16 (.cells #[.pointer (some ⟨nb,0,none⟩),.pointer (some ⟨nb14,0,none⟩)] 25)))
   have z20:w16.heap.size<(w16.alloc (.cells #[.pointer (some ⟨nb,0,none⟩),.pointer (some ⟨nb14,0,none⟩)] 25)).heap.size:=by simp
   go_wp2_with fail
   generalize w16.alloc (.cells #[.pointer (some ⟨nb,0,none⟩),.pointer (some ⟨nb14,0,none⟩)] 25)=w20 at*
   refine (zzz _ _ _ _ _ _ _ _ _).mono ?_
   rintro e wz ⟨rfl,hb9,hrow⟩
   have P9:=P20.out.below hb9
   have q0:=P9.c0
   have f0:=P9.f0
   have HB9:=hid hb9
   have HROW:=hid hrow
   clear hb9 hrow P9
   unfold zzd
   go_wp2_with fail
   refine bodyPost_ret (v:=zzd w20.heap.size) (by unfold zzd;simp [results,Tryz.results202,go_sem,q0]) rfl ?_
   rw [HQ.out]
   have hrow:=HROW.out
   rw [HTX.out] at hrow
   exact zvi (lo:=lo) (q:=w.heap.size+1) H.out S20.out K.out HB9.out hrow (by omega) (fun h=>h.2.2.1 rfl) (by omega) (fun x hx=>hx.1) (by omega) (by omega) _
theorem simple_any (E:Env) (w:World) (i d:Nat) (n:Nat) (ih:IH E n) (r:Res Tree) (h:RD E w i d) (hr:Hid (runW E.T (P E.T n) (z2r d) i=some r)):
 Calls Tryz.prog 182 #[.pointer (some ⟨E.rb,0,none⟩)] w (Q E w d (VN E w.heap.size) r):=by
 have H:=hid h
 have hr1:=h.lt
 have hf0:=zxw
 have hf1:=zxn
 have hf2:=zq7
 have S0:=hid (ST.below (ST.refl h) (b1 w (.cells #[.pointer none] 25)))
 have P0:=hid (PtrAt.new w none)
 have l0:=P0.out.lt
 clear h
 go_enter Tryz.func182,Tryz.ntmps182
 go_wp2_with fail
 generalize w.alloc (.cells #[.pointer none] 25)=wa at*
 refine (zk3 E _ i d S0.out.1).mono ?_
 rintro e w1 ⟨rfl,hb⟩
 have P0':=hid (P0.out.below hb)
 clear P0
 have P0:=P0'
 clear P0'
 have S1:=hid (S0.out.below hb)
 have z1:=hb.size
 clear hb
 unfold tokV
 have HR0:=hid (zvc hr.out)
 by_cases ht:(E.T i).kind=1
 ·skip
  have bk:(((E.T i).kind:Int)==1)=true:=by rw [ht];rfl
  have HK1:=hid ht
  clear ht
  go_wp2_with fail
  rcases zzc HR0.out with ⟨j2,er,hx,hq⟩|⟨a2,j2,hx,hq⟩
  ·exact (zjq E _ i d n ih _ S1.out.1 hx).mono fun e w' h=>by obtain ⟨rfl,hg⟩:=h;exact ⟨rfl,by rw [hq];exact ⟨rfl,S1.out.2.trans hg⟩⟩
  refine (zjq E _ i d n ih _ S1.out.1 hx).mono ?_
  rintro e w2 ⟨v2,rfl,⟨nb2,hv,hn⟩,hst⟩
  obtain rfl:=hv
  unfold zzd
  have P0':=hid (P0.out.kept hst.2 (by omega))
  clear P0
  have P0:=P0'
  clear P0'
  have N2:=hid (hn.from (B:=w.heap.size) (by omega))
  clear hn
  have S2:=hid (S1.out.trans hst)
  have z2:=hst.2.size
  clear hst
  have HR2:=hid hq
  clear hx hq
  have V:=hid (PtrAt.new w2 (some ⟨nb2,0,none⟩))
  have P0':=hid (P0.out.below (b1 w2 (.cells #[.pointer (some ⟨nb2,0,none⟩)] 25)))
  clear P0
  have P0:=P0'
  clear P0'
  have N2':=hid (N2.out.bl (b1 w2 (.cells #[.pointer (some ⟨nb2,0,none⟩)] 25)))
  clear N2
  have N2:=N2'
  clear N2'
  have S3:=hid (S2.out.below (b1 w2 (.cells #[.pointer (some ⟨nb2,0,none⟩)] 25)))
  have z3:=(b1 w2 (.cells #[.pointer (some ⟨nb2,0,none⟩)] 25)).size
  have y3:w2.heap.size<(w2.alloc (.cells #[.pointer (some ⟨nb2,0,none⟩)] 25)).heap.size:=by simp
  have V0:=V.out.c0
  go_wp2_with fail
  generalize w2.alloc (.cells #[.pointer (some ⟨nb2,0,none⟩)] 25)=w3 at*
  clear V0
  have HRK:=hid (zvc HR2.out)
  obtain ⟨Ao,co,hro⟩:=N2.out.rowOf
  refine (zkq _ _ _ _ _ _ _ _ _ _ hro).mono ?_
  rintro e w4 ⟨rfl,hb⟩
  have P0':=hid (P0.out.below hb)
  clear P0
  have P0:=P0'
  clear P0'
  have N2':=hid (N2.out.bl hb)
  clear N2
  have N2:=N2'
  clear N2'
  have V':=hid (V.out.below hb)
  clear V
  have V:=V'
  clear V'
  have S4:=hid (S3.out.below hb)
  have z4:=hb.size
  clear hb
  clear hro
  by_cases ht:a2.op=21
  ·skip
   have HO:=hid ht
   have bo:((a2.op:Int)==21)=true:=by rw [ht];rfl
   clear ht
   go_wp2_with fail
   by_cases ht:(E.T j2).text=zzk
   ·skip
    have HT:=hid ht
    clear ht
    have HQ:Hid (r= .ok (.mk 14 [] [] 0 a2.pos [a2]) (j2+1)):=zz7 (zq4 (zkc HRK.out ⟨HK1.out,HO.out,HT.out⟩))
    refine (zke E _ j2 d ⟨#[59]⟩ S4.out.1 HT (hid (by decide))).mono ?_
    rintro e w5 ⟨rfl,hst⟩
    have P0':=hid (P0.out.kept hst.2 (by omega))
    clear P0
    have P0:=P0'
    clear P0'
    have N2':=hid (N2.out.st hst.2 (by omega))
    clear N2
    have N2:=N2'
    clear N2'
    have V':=hid (V.out.kept hst.2 (by omega))
    clear V
    have V:=V'
    clear V'
    have S5:=hid (S4.out.trans hst)
    have z5:=hst.2.size
    clear hst
    go_wp2_with fail
    obtain ⟨Ao,co,hro⟩:=N2.out.rowOf
    have R0:=hid hro
    clear hro
    have cv:=V.out.c0
    have lv:=V.out.lt
    have lp:=P0.out.lt
    have nl:=N2.out.lt.2
    have D0:Hid (Below w5.heap.size w5 w5.drew):=(Below.refl _ _).drew
    go_region_held3 (fun w'=>w5.grownBy w' (some w.heap.size)∧w'.cell? ⟨w2.heap.size,0,none⟩=some (.pointer (some ⟨nb2,0,none⟩))) (first|exact ⟨zqe D0.out,cv⟩|exact HK24.out|exact HK42.out|(obtain ⟨g1,g2⟩:= ‹w5.grownBy _ (some w.heap.size)∧_›;have h8:=zw3 g1 (zqe (b:=w.heap.size) (b1 _ (.cells #[.pointer (some ⟨nb2,0,none⟩)] 25))) (fun j e=> .inr e);have h7:=(World.cell?_alloc_lt _ (.cells #[.pointer (some ⟨nb2,0,none⟩)] 25) ⟨w2.heap.size,0,none⟩ (Nat.lt_of_lt_of_le lv g1.size)).trans g2;exact ⟨h8,h7⟩)|exact ⟨HK42.out.1.trans (zxf _ ⟨w.heap.size,0,none⟩ _),by rw [World.cell?_setCell_other _ _ _ _ (fun h=>by injection h with h1;omega)];exact HK42.out.2⟩) (first|(go_at_call 31;have h0:= ‹w5.grownBy _ (some w.heap.size)∧_›;refine (at_of _ _ _ _ _ _ _ _ _ _ (R0.out.kept h0.1 (by have h9:w.heap.size<nb2:=nl;omega))).mono ?_;rintro e w24 ⟨rfl,hb24⟩;have HK24:Hid (w5.grownBy w24 (some w.heap.size)∧w24.cell? ⟨w2.heap.size,0,none⟩=some (.pointer (some ⟨nb2,0,none⟩))):=⟨zw3 h0.1 (zqe (b:=w.heap.size) hb24) (fun j e=> .inr e),(hb24.cell (p:=⟨w2.heap.size,0,none⟩) (Nat.lt_of_lt_of_le lv h0.1.size)).trans h0.2⟩;have HB24:=hid hb24;clear h0 hb24)|(go_at_call 55;have h0:= ‹w5.grownBy _ (some w.heap.size)∧_›;refine Calls.mono (R:=NewQ _ _ _ _ _ _ _) (zzz _ _ _ _ _ _ _ _ _) ?_;rintro e w42 ⟨rfl,hb42,hrow⟩;have HK42:Hid (w5.grownBy w42 (some w.heap.size)∧w42.cell? ⟨w2.heap.size,0,none⟩=some (.pointer (some ⟨nb2,0,none⟩))):=⟨zw3 h0.1 (zqe (b:=w.heap.size) hb42) (fun j e=> .inr e),(hb42.cell (p:=⟨w2.heap.size,0,none⟩) (Nat.lt_of_lt_of_le lv h0.1.size)).trans h0.2⟩;have HB42:=hid hb42;have HROW:=hid hrow;have P9:PtrAt w42 w.heap.size none:=(PtrAt.below (by first|exact (((P0.out.below D0.out).below HB24.out).below (b1 _ _))|exact (((P0.out.below D0.out).below (b1 _ _)).below HB24.out)) hb42);have q0:=P9.c0;have f0:=P9.f0;have hz0:=h0.1.size;clear h0 hb42 hrow P9;unfold zzd))
    all_goals
     have hbz:=HB42.out.size
     go_wp2_with fail
     refine bodyPost_ret (v:=zzd _) (by unfold zzd;simp only [results,Tryz.results182,go_sem];simp [go_sem,q0];rfl) rfl ?_
     rw [HQ.out]
     first|exact zvi (lo:=w.heap.size) (q:=w.heap.size) H.out (by first|exact (((S5.out.below D0.out).below HB24.out).below (b1 _ _))|exact (((S5.out.below D0.out).below (b1 _ _)).below HB24.out)) (ok:=fun x=>w.heap.size<x) (by first|exact (zxk ((N2.out.bl D0.out).bl HB24.out) (by first|omega|(have h8:=HB24.out.size;simp at h8;omega)|(simp;omega)))|exact ((zxk (N2.out.bl D0.out) (by first|omega|(have h8:=HB24.out.size;simp at h8;omega)|(simp;omega))).bl HB24.out)) HB42.out HROW.out (by omega) (Nat.lt_irrefl _) (by omega) (fun x hx=>by omega) (by omega) (by omega) _|(have hfin:=zvi (lo:=w.heap.size) (q:=w.heap.size) H.out (by first|exact (((S5.out.below D0.out).below HB24.out).below (b1 _ _))|exact (((S5.out.below D0.out).below (b1 _ _)).below HB24.out)) (ok:=fun x=>w.heap.size<x) (by first|exact (zxk ((N2.out.bl D0.out).bl HB24.out) (by first|omega|(have h8:=HB24.out.size;simp at h8;omega)|(simp;omega)))|exact ((zxk (N2.out.bl D0.out) (by first|omega|(have h8:=HB24.out.size;simp at h8;omega)|(simp;omega))).bl HB24.out)) HB42.out HROW.out (by omega) (Nat.lt_irrefl _) (by omega) (fun x hx=>by omega) (by omega) (by omega) (.pointer (some ⟨w24.heap.size+1,0,none⟩));rw [show (w24.alloc (.cells #[.pointer (some ⟨nb2,0,none⟩)] 25)).heap.size=w24.heap.size+1 by simp] at hfin;exact hfin)
   ·skip
    have HT:=hid ht
    clear ht
    refine (zk5 E _ j2 d ⟨#[59]⟩ S4.out.1 HT).mono ?_
    rintro e w6 ⟨rfl,hb⟩
    have P0':=hid (P0.out.below hb)
    clear P0
    have P0:=P0'
    clear P0'
    have N2':=hid (N2.out.bl hb)
    clear N2
    have N2:=N2'
    clear N2'
    have V':=hid (V.out.below hb)
    clear V
    have V:=V'
    clear V'
    have S6:=hid (S4.out.below hb)
    have z6:=hb.size
    clear hb
    have bo2:((a2.op:Int)==18)=false:=by rw [HO.out];rfl
    have V0:=V.out.c0
    go_wp2_with fail
    clear V0
    obtain ⟨Ao,co,hro⟩:=N2.out.rowOf
    refine (zkq _ _ _ _ _ _ _ _ _ _ hro).mono ?_
    rintro e w7 ⟨rfl,hb⟩
    have P0':=hid (P0.out.below hb)
    clear P0
    have P0:=P0'
    clear P0'
    have N2':=hid (N2.out.bl hb)
    clear N2
    have N2:=N2'
    clear N2'
    have V':=hid (V.out.below hb)
    clear V
    have V:=V'
    clear V'
    have S7:=hid (S6.out.below hb)
    have z7:=hb.size
    clear hb
    clear hro
    have HRP:=hid (zqq (zqq (zqq HRK.out (fun h=>HT.out h.2.2)) (fun h=>absurd (HO.out.symm.trans h.2.1) (by decide))) (fun h=>absurd (HO.out.symm.trans h.2.1) (by decide)))
    have V0:=V.out.c0
    go_wp2_with fail
    clear V0
    rcases zxr HRP.out with ⟨j8,er,hx,hq⟩|⟨a8,j8,hx,hq⟩
    ·exact (z0n E _ j2 d n ih (w.heap.size+1) nb2 a2 _ S7.out.1 (by omega) (by omega) (N2.out.weak fun x hx _=>hx) hx).mono fun e w' h=>by obtain ⟨rfl,hg⟩:=h;exact ⟨rfl,by rw [hq];exact ⟨rfl,S7.out.2.trans hg⟩⟩
    refine (z0n E _ j2 d n ih (w.heap.size+1) nb2 a2 _ S7.out.1 (by omega) (by omega) (N2.out.weak fun x hx _=>hx) hx).mono ?_
    rintro e w8 ⟨v8,rfl,⟨nb8,hv,hn⟩,hst⟩
    obtain rfl:=hv
    unfold zzd
    have P0':=hid (P0.out.kept hst.2 (by omega))
    clear P0
    have P0:=P0'
    clear P0'
    have N2':=hid (N2.out.st hst.2 (by omega))
    clear N2
    have N2:=N2'
    clear N2'
    have V':=hid (V.out.kept hst.2 (by omega))
    clear V
    have V:=V'
    clear V'
    have N8:=hid (NodeAt.from (B:=w.heap.size) hn (by omega))
    clear hn
    have S8:=hid (S7.out.trans hst)
    have z8:=hst.2.size
    clear hst
    have HQ:=hid hq
    clear hx hq
    have q0:=P0.out.c0
    have f0:=P0.out.f0
    go_wp2_with fail
    refine bodyPost_ret (v:=zzd nb8) (by unfold zzd;simp [results,Tryz.results182,go_sem,q0]) rfl ?_
    rw [HQ.out]
    exact zz5 H.out S8.out N8.out (by omega) _
  ·skip
   have HO:=hid ht
   have bo:((a2.op:Int)==21)=false:=by simp;omega
   clear ht
   have V0:=V.out.c0
   go_wp2_with fail
   clear V0
   obtain ⟨Ao,co,hro⟩:=N2.out.rowOf
   refine (zkq _ _ _ _ _ _ _ _ _ _ hro).mono ?_
   rintro e w9 ⟨rfl,hb⟩
   have P0':=hid (P0.out.below hb)
   clear P0
   have P0:=P0'
   clear P0'
   have N2':=hid (N2.out.bl hb)
   clear N2
   have N2:=N2'
   clear N2'
   have V':=hid (V.out.below hb)
   clear V
   have V:=V'
   clear V'
   have S9:=hid (S4.out.below hb)
   have z9:=hb.size
   clear hb
   clear hro
   by_cases ht:a2.op=18
   ·skip
    have HV:=hid ht
    have bv:((a2.op:Int)==18)=true:=by rw [ht];rfl
    clear ht
    go_wp2_with fail
    by_cases ht:(E.T j2).text=cDef
    ·skip
     have HT:=hid ht
     clear ht
     have HRS:=hid (zq4 (zkc (zqq HRK.out (fun h=>HO.out h.2.1)) ⟨HK1.out,HV.out,HT.out⟩))
     refine (zke E _ j2 d ⟨#[58,61]⟩ S9.out.1 HT (hid (by decide))).mono ?_
     rintro e w10 ⟨rfl,hst⟩
     have P0':=hid (P0.out.kept hst.2 (by omega))
     clear P0
     have P0:=P0'
     clear P0'
     have N2':=hid (N2.out.st hst.2 (by omega))
     clear N2
     have N2:=N2'
     clear N2'
     have V':=hid (V.out.kept hst.2 (by omega))
     clear V
     have V:=V'
     clear V'
     have S10:=hid (S9.out.trans hst)
     have z10:=hst.2.size
     clear hst
     have V0:=V.out.c0
     go_wp2_with fail
     clear V0
     rcases zxr HRS.out with ⟨j11,er,hx,hq⟩|⟨a11,j11,hx,hq⟩
     ·exact (zwz E _ (j2+1) d n ih 7 nb2 a2 _ S10.out.1 (N2.out.weak fun x hx _=>by have h9:w.heap.size<x:=hx;omega) hx).mono fun e w' h=>by obtain ⟨rfl,hg⟩:=h;exact ⟨rfl,by rw [hq];exact ⟨rfl,S10.out.2.trans hg⟩⟩
     refine (zwz E _ (j2+1) d n ih 7 nb2 a2 _ S10.out.1 (N2.out.weak fun x hx _=>by have h9:w.heap.size<x:=hx;omega) hx).mono ?_
     rintro e w11 ⟨v11,rfl,⟨nb11,hv,hn⟩,hst⟩
     obtain rfl:=hv
     unfold zzd
     have P0':=hid (P0.out.kept hst.2 (by omega))
     clear P0
     have P0:=P0'
     clear P0'
     have N2':=hid (N2.out.st hst.2 (by omega))
     clear N2
     have N2:=N2'
     clear N2'
     have V':=hid (V.out.kept hst.2 (by omega))
     clear V
     have V:=V'
     clear V'
     have N11:=hid (hn.from (B:=w.heap.size) (by omega))
     clear hn
     have S11:=hid (S10.out.trans hst)
     have z11:=hst.2.size
     clear hst
     have HQ:=hid hq
     clear hx hq
     have q0:=P0.out.c0
     have f0:=P0.out.f0
     go_wp2_with fail
     refine bodyPost_ret (v:=zzd nb11) (by unfold zzd;simp [results,Tryz.results182,go_sem,q0]) rfl ?_
     rw [HQ.out]
     exact zz5 H.out S11.out N11.out (by omega) _
    ·skip
     have HT1:=hid ht
     clear ht
     refine (zk5 E _ j2 d ⟨#[58,61]⟩ S9.out.1 HT1).mono ?_
     rintro e w12 ⟨rfl,hb⟩
     have P0':=hid (P0.out.below hb)
     clear P0
     have P0:=P0'
     clear P0'
     have N2':=hid (N2.out.bl hb)
     clear N2
     have N2:=N2'
     clear N2'
     have V':=hid (V.out.below hb)
     clear V
     have V:=V'
     clear V'
     have S12:=hid (S9.out.below hb)
     have z12:=hb.size
     clear hb
     go_wp2_with fail
     by_cases ht:(E.T j2).text=cEq
     ·skip
      have HT:=hid ht
      clear ht
      have HRS:=hid (zq4 (zkc (zqq (zqq HRK.out (fun h=>HO.out h.2.1)) (fun h=>HT1.out h.2.2)) ⟨HK1.out,HV.out,HT.out⟩))
      refine (zke E _ j2 d ⟨#[61]⟩ S12.out.1 HT (hid (by decide))).mono ?_
      rintro e w13 ⟨rfl,hst⟩
      have P0':=hid (P0.out.kept hst.2 (by omega))
      clear P0
      have P0:=P0'
      clear P0'
      have N2':=hid (N2.out.st hst.2 (by omega))
      clear N2
      have N2:=N2'
      clear N2'
      have V':=hid (V.out.kept hst.2 (by omega))
      clear V
      have V:=V'
      clear V'
      have S13:=hid (S12.out.trans hst)
      have z13:=hst.2.size
      clear hst
      have V0:=V.out.c0
      go_wp2_with fail
      clear V0
      rcases zxr HRS.out with ⟨j14,er,hx,hq⟩|⟨a14,j14,hx,hq⟩
      ·exact (zwz E _ (j2+1) d n ih 8 nb2 a2 _ S13.out.1 (N2.out.weak fun x hx _=>by have h9:w.heap.size<x:=hx;omega) hx).mono fun e w' h=>by obtain ⟨rfl,hg⟩:=h;exact ⟨rfl,by rw [hq];exact ⟨rfl,S13.out.2.trans hg⟩⟩
      refine (zwz E _ (j2+1) d n ih 8 nb2 a2 _ S13.out.1 (N2.out.weak fun x hx _=>by have h9:w.heap.size<x:=hx;omega) hx).mono ?_
      rintro e w14 ⟨v14,rfl,⟨nb14,hv,hn⟩,hst⟩
      obtain rfl:=hv
      unfold zzd
      have P0':=hid (P0.out.kept hst.2 (by omega))
      clear P0
      have P0:=P0'
      clear P0'
      have N2':=hid (N2.out.st hst.2 (by omega))
      clear N2
      have N2:=N2'
      clear N2'
      have V':=hid (V.out.kept hst.2 (by omega))
      clear V
      have V:=V'
      clear V'
      have N14:=hid (hn.from (B:=w.heap.size) (by omega))
      clear hn
      have S14:=hid (S13.out.trans hst)
      have z14:=hst.2.size
      clear hst
      have HQ:=hid hq
      clear hx hq
      have q0:=P0.out.c0
      have f0:=P0.out.f0
      go_wp2_with fail
      refine bodyPost_ret (v:=zzd nb14) (by unfold zzd;simp [results,Tryz.results182,go_sem,q0]) rfl ?_
      rw [HQ.out]
      exact zz5 H.out S14.out N14.out (by omega) _
     ·skip
      have HT:=hid ht
      clear ht
      refine (zk5 E _ j2 d ⟨#[61]⟩ S12.out.1 HT).mono ?_
      rintro e w15 ⟨rfl,hb⟩
      have P0':=hid (P0.out.below hb)
      clear P0
      have P0:=P0'
      clear P0'
      have N2':=hid (N2.out.bl hb)
      clear N2
      have N2:=N2'
      clear N2'
      have V':=hid (V.out.below hb)
      clear V
      have V:=V'
      clear V'
      have S15:=hid (S12.out.below hb)
      have z15:=hb.size
      clear hb
      have HRP:=hid (zqq (zqq (zqq HRK.out (fun h=>HO.out h.2.1)) (fun h=>HT1.out h.2.2)) (fun h=>HT.out h.2.2))
      have V0:=V.out.c0
      go_wp2_with fail
      clear V0
      rcases zxr HRP.out with ⟨j16,er,hx,hq⟩|⟨a16,j16,hx,hq⟩
      ·exact (z0n E _ j2 d n ih (w.heap.size+1) nb2 a2 _ S15.out.1 (by omega) (by omega) (N2.out.weak fun x hx _=>hx) hx).mono fun e w' h=>by obtain ⟨rfl,hg⟩:=h;exact ⟨rfl,by rw [hq];exact ⟨rfl,S15.out.2.trans hg⟩⟩
      refine (z0n E _ j2 d n ih (w.heap.size+1) nb2 a2 _ S15.out.1 (by omega) (by omega) (N2.out.weak fun x hx _=>hx) hx).mono ?_
      rintro e w16 ⟨v16,rfl,⟨nb16,hv,hn⟩,hst⟩
      obtain rfl:=hv
      unfold zzd
      have P0':=hid (P0.out.kept hst.2 (by omega))
      clear P0
      have P0:=P0'
      clear P0'
      have N2':=hid (N2.out.st hst.2 (by omega))
      clear N2
      have N2:=N2'
      clear N2'
      have V':=hid (V.out.kept hst.2 (by omega))
      clear V
      have V:=V'
      clear V'
      have N16:=hid (NodeAt.from (B:=w.heap.size) hn (by omega))
      clear hn
      have S16:=hid (S15.out.trans hst)
      have z16:=hst.2.size
      clear hst
      have HQ:=hid hq
      clear hx hq
      have q0:=P0.out.c0
      have f0:=P0.out.f0
      go_wp2_with fail
      refine bodyPost_ret (v:=zzd nb16) (by unfold zzd;simp [results,Tryz.results182,go_sem,q0]) rfl ?_
      rw [HQ.out]
      exact zz5 H.out S16.out N16.out (by omega) _
   ·skip
    have HV:=hid ht
    have bv:((a2.op:Int)==18)=false:=by simp;omega
    clear ht
    have HRP:=hid (zqq (zqq (zqq HRK.out (fun h=>HO.out h.2.1)) (fun h=>HV.out h.2.1)) (fun h=>HV.out h.2.1))
    have V0:=V.out.c0
    go_wp2_with fail
    clear V0
    rcases zxr HRP.out with ⟨j17,er,hx,hq⟩|⟨a17,j17,hx,hq⟩
    ·exact (z0n E _ j2 d n ih (w.heap.size+1) nb2 a2 _ S9.out.1 (by omega) (by omega) (N2.out.weak fun x hx _=>hx) hx).mono fun e w' h=>by obtain ⟨rfl,hg⟩:=h;exact ⟨rfl,by rw [hq];exact ⟨rfl,S9.out.2.trans hg⟩⟩
    refine (z0n E _ j2 d n ih (w.heap.size+1) nb2 a2 _ S9.out.1 (by omega) (by omega) (N2.out.weak fun x hx _=>hx) hx).mono ?_
    rintro e w17 ⟨v17,rfl,⟨nb17,hv,hn⟩,hst⟩
    obtain rfl:=hv
    unfold zzd
    have P0':=hid (P0.out.kept hst.2 (by omega))
    clear P0
    have P0:=P0'
    clear P0'
    have N2':=hid (N2.out.st hst.2 (by omega))
    clear N2
    have N2:=N2'
    clear N2'
    have V':=hid (V.out.kept hst.2 (by omega))
    clear V
    have V:=V'
    clear V'
    have N17:=hid (NodeAt.from (B:=w.heap.size) hn (by omega))
    clear hn
    have S17:=hid (S9.out.trans hst)
    have z17:=hst.2.size
    clear hst
    have HQ:=hid hq
    clear hx hq
    have q0:=P0.out.c0
    have f0:=P0.out.f0
    go_wp2_with fail
    refine bodyPost_ret (v:=zzd nb17) (by unfold zzd;simp [results,Tryz.results182,go_sem,q0]) rfl ?_
    rw [HQ.out]
    exact zz5 H.out S17.out N17.out (by omega) _
 ·skip
  have bk:(((E.T i).kind:Int)==1)=false:=by simp;omega
  have HK1:=hid ht
  clear ht
  go_wp2_with fail
  rcases zzc HR0.out with ⟨j18,er,hx,hq⟩|⟨a18,j18,hx,hq⟩
  ·exact (zjq E _ i d n ih _ S1.out.1 hx).mono fun e w' h=>by obtain ⟨rfl,hg⟩:=h;exact ⟨rfl,by rw [hq];exact ⟨rfl,S1.out.2.trans hg⟩⟩
  refine (zjq E _ i d n ih _ S1.out.1 hx).mono ?_
  rintro e w18 ⟨v18,rfl,⟨nb18,hv,hn⟩,hst⟩
  obtain rfl:=hv
  unfold zzd
  have P0':=hid (P0.out.kept hst.2 (by omega))
  clear P0
  have P0:=P0'
  clear P0'
  have N18:=hid (hn.from (B:=w.heap.size) (by omega))
  clear hn
  have S18:=hid (S1.out.trans hst)
  have z18:=hst.2.size
  clear hst
  have HR18:=hid hq
  clear hx hq
  have V:=hid (PtrAt.new w18 (some ⟨nb18,0,none⟩))
  have P0':=hid (P0.out.below (b1 w18 (.cells #[.pointer (some ⟨nb18,0,none⟩)] 25)))
  clear P0
  have P0:=P0'
  clear P0'
  have N18':=hid (N18.out.bl (b1 w18 (.cells #[.pointer (some ⟨nb18,0,none⟩)] 25)))
  clear N18
  have N18:=N18'
  clear N18'
  have S19:=hid (S18.out.below (b1 w18 (.cells #[.pointer (some ⟨nb18,0,none⟩)] 25)))
  have z19:=(b1 w18 (.cells #[.pointer (some ⟨nb18,0,none⟩)] 25)).size
  have y19:w18.heap.size<(w18.alloc (.cells #[.pointer (some ⟨nb18,0,none⟩)] 25)).heap.size:=by simp
  have V0:=V.out.c0
  go_wp2_with fail
  generalize w18.alloc (.cells #[.pointer (some ⟨nb18,0,none⟩)] 25)=w19 at*
  clear V0
  have HRK:=hid (zvc HR18.out)
  have HRP:=hid (zqq (zqq (zqq HRK.out (fun h=>HK1.out h.1)) (fun h=>HK1.out h.1)) (fun h=>HK1.out h.1))
  rcases zxr HRP.out with ⟨j20,er,hx,hq⟩|⟨a20,j20,hx,hq⟩
  ·exact (z0n E _ j18 d n ih (w.heap.size+1) nb18 a18 _ S19.out.1 (by omega) (by omega) (N18.out.weak fun x hx _=>hx) hx).mono fun e w' h=>by obtain ⟨rfl,hg⟩:=h;exact ⟨rfl,by rw [hq];exact ⟨rfl,S19.out.2.trans hg⟩⟩
  refine (z0n E _ j18 d n ih (w.heap.size+1) nb18 a18 _ S19.out.1 (by omega) (by omega) (N18.out.weak fun x hx _=>hx) hx).mono ?_
  rintro e w20 ⟨v20,rfl,⟨nb20,hv,hn⟩,hst⟩
  obtain rfl:=hv
  unfold zzd
  have P0':=hid (P0.out.kept hst.2 (by omega))
  clear P0
  have P0:=P0'
  clear P0'
  have N18':=hid (N18.out.st hst.2 (by omega))
  clear N18
  have N18:=N18'
  clear N18'
  have V':=hid (V.out.kept hst.2 (by omega))
  clear V
  have V:=V'
  clear V'
  have N20:=hid (NodeAt.from (B:=w.heap.size) hn (by omega))
  clear hn
  have S20:=hid (S19.out.trans hst)
  have z20:=hst.2.size
  clear hst
  have HQ:=hid hq
  clear hx hq
  have q0:=P0.out.c0
  have f0:=P0.out.f0
  go_wp2_with fail
  refine bodyPost_ret (v:=zzd nb20) (by unfold zzd;simp [results,Tryz.results182,go_sem,q0]) rfl ?_
  rw [HQ.out]
  exact zz5 H.out S20.out N20.out (by omega) _
theorem print_any (E:Env) (w:World) (i d:Nat) (n:Nat) (ih:IH E n) (r:Res Tree) (h:RD E w i d) (hr:Hid (runW E.T (P E.T n) (print d) i=some r)):
 Calls Tryz.prog 180 #[.pointer (some ⟨E.rb,0,none⟩)] w (Q E w d (VN E w.heap.size) r):=by
 have H:=hid h
 have hr1:=h.lt
 have hf0:=zxw
 have hf1:=zxn
 have hf2:=zq7
 have S0:=hid (ST.below (ST.refl h) (b1 w (.cells #[.pointer none] 25)))
 have P0:=hid (PtrAt.new w none)
 have l0:=P0.out.lt
 clear h
 go_enter Tryz.func180,Tryz.ntmps180
 go_wp2_with fail
 generalize w.alloc (.cells #[.pointer none] 25)=wa at*
 rcases zzc hr.out with ⟨j1,er,hx,hq⟩|⟨a1,j1,hx,hq⟩
 ·exact (zzm E _ i d ⟨#[112,114,105,110,116]⟩ (P E.T n) _ S0.out.1 (hid (by decide)) hx).mono fun e w' h=>by obtain ⟨rfl,hg⟩:=h;exact ⟨rfl,by rw [hq];exact ⟨rfl,S0.out.2.trans hg⟩⟩
 refine (zzm E _ i d ⟨#[112,114,105,110,116]⟩ (P E.T n) _ S0.out.1 (hid (by decide)) hx).mono ?_
 rintro e w1 ⟨v1,rfl,hv,hst⟩
 obtain rfl:=hv
 unfold tokV
 have P0':=hid (P0.out.kept hst.2 (by omega))
 clear P0
 have P0:=P0'
 clear P0'
 have S1:=hid (S0.out.trans hst)
 have z1:=hst.2.size
 clear hst
 have HR1:=hid hq
 clear hx hq
 go_wp2_with fail
 rcases zzc HR1.out with ⟨j2,er,hx,hq⟩|⟨a2,j2,hx,hq⟩
 ·exact (zvg E _ j1 d n ih _ S1.out.1 hx).mono fun e w' h=>by obtain ⟨rfl,hg⟩:=h;exact ⟨rfl,by rw [hq];exact ⟨rfl,S1.out.2.trans hg⟩⟩
 refine (zvg E _ j1 d n ih _ S1.out.1 hx).mono ?_
 rintro e w2 ⟨v2,rfl,⟨nb2,hv,hn⟩,hst⟩
 obtain rfl:=hv
 unfold zzd
 have P0':=hid (P0.out.kept hst.2 (by omega))
 clear P0
 have P0:=P0'
 clear P0'
 have N2:=hid (hn.from (B:=w.heap.size) (by omega))
 clear hn
 have S2:=hid (S1.out.trans hst)
 have z2:=hst.2.size
 clear hst
 have HR2:=hid hq
 clear hx hq
 have V:=hid (PtrAt.new w2 (some ⟨nb2,0,none⟩))
 have P0':=hid (P0.out.below (b1 w2 (.cells #[.pointer (some ⟨nb2,0,none⟩)] 25)))
 clear P0
 have P0:=P0'
 clear P0'
 have N2':=hid (N2.out.bl (b1 w2 (.cells #[.pointer (some ⟨nb2,0,none⟩)] 25)))
 clear N2
 have N2:=N2'
 clear N2'
 have S3:=hid (S2.out.below (b1 w2 (.cells #[.pointer (some ⟨nb2,0,none⟩)] 25)))
 have z3:=(b1 w2 (.cells #[.pointer (some ⟨nb2,0,none⟩)] 25)).size
 have y3:w2.heap.size<(w2.alloc (.cells #[.pointer (some ⟨nb2,0,none⟩)] 25)).heap.size:=by simp
 go_wp2_with fail
 generalize w2.alloc (.cells #[.pointer (some ⟨nb2,0,none⟩)] 25)=w3 at*
 rcases zzc HR2.out with ⟨j4,er,hx,hq⟩|⟨a4,j4,hx,hq⟩
 ·exact (zzm E _ j2 d ⟨#[59]⟩ (P E.T n) _ S3.out.1 (hid (by decide)) hx).mono fun e w' h=>by obtain ⟨rfl,hg⟩:=h;exact ⟨rfl,by rw [hq];exact ⟨rfl,S3.out.2.trans hg⟩⟩
 refine (zzm E _ j2 d ⟨#[59]⟩ (P E.T n) _ S3.out.1 (hid (by decide)) hx).mono ?_
 rintro e w4 ⟨v4,rfl,-,hst⟩
 have P0':=hid (P0.out.kept hst.2 (by omega))
 clear P0
 have P0:=P0'
 clear P0'
 have N2':=hid (N2.out.st hst.2 (by omega))
 clear N2
 have N2:=N2'
 clear N2'
 have V':=hid (V.out.kept hst.2 (by omega))
 clear V
 have V:=V'
 clear V'
 have S4:=hid (S3.out.trans hst)
 have z4:=hst.2.size
 clear hst
 have HR4:=hid hq
 clear hx hq
 have HQ:Hid (r= .ok (.mk 12 [] [] 0 a1 [a2]) j4):=(Option.some.inj HR4.out).symm
 have V0:=V.out.c0
 have K:=hid (zxk N2.out (by omega))
 have P0':=hid (P0.out.below (b1 w4 (.cells #[.pointer (some ⟨nb2,0,none⟩)] 25)))
 clear P0
 have P0:=P0'
 clear P0'
 have N2':=hid (N2.out.bl (b1 w4 (.cells #[.pointer (some ⟨nb2,0,none⟩)] 25)))
 clear N2
 have N2:=N2'
 clear N2'
 have V':=hid (V.out.below (b1 w4 (.cells #[.pointer (some ⟨nb2,0,none⟩)] 25)))
 clear V
 have V:=V'
 clear V'
 have S5:=hid (S4.out.below (b1 w4 (.cells #[.pointer (some ⟨nb2,0,none⟩)] 25)))
 have z5:=(b1 w4 (.cells #[.pointer (some ⟨nb2,0,none⟩)] 25)).size
 have y5:w4.heap.size<(w4.alloc (.cells #[.pointer (some ⟨nb2,0,none⟩)] 25)).heap.size:=by simp
 go_wp2_with fail
 generalize w4.alloc (.cells #[.pointer (some ⟨nb2,0,none⟩)] 25)=w5 at*
 refine (zzz _ _ _ _ _ _ _ _ _).mono ?_
 rintro e w9 ⟨rfl,hb9,hrow⟩
 have P9:=P0.out.below hb9
 have q0:=P9.c0
 have f0:=P9.f0
 have HB9:=hid hb9
 have HROW:=hid hrow
 clear hb9 hrow P9
 unfold zzd
 go_wp2_with fail
 refine bodyPost_ret (v:=zzd w5.heap.size) (by unfold zzd;simp [results,Tryz.results180,go_sem,q0]) rfl ?_
 rw [HQ.out]
 have hrow:=HROW.out
 exact zqm H.out S5.out K.out (by omega) HB9.out hrow (by omega) (by omega) _
theorem loop_any (E:Env) (w:World) (i d:Nat) (n:Nat) (ih:IH E n) (r:Res Tree) (h:RD E w i d) (hr:Hid (runW E.T (P E.T n) (loop d) i=some r)):
 Calls Tryz.prog 179 #[.pointer (some ⟨E.rb,0,none⟩)] w (Q E w d (VN E w.heap.size) r):=by
 have H:=hid h
 have hr1:=h.lt
 have hf0:=zxw
 have hf1:=zxn
 have hf2:=zq7
 have S0:=hid (ST.below (ST.refl h) (b1 w (.cells #[.pointer none] 25)))
 have P0:=hid (PtrAt.new w none)
 have l0:=P0.out.lt
 clear h
 go_enter Tryz.func179,Tryz.ntmps179
 go_wp2_with fail
 generalize w.alloc (.cells #[.pointer none] 25)=wa at*
 rcases zzc hr.out with ⟨j1,er,hx,hq⟩|⟨a1,j1,hx,hq⟩
 ·exact (zzm E _ i d ⟨#[102,111,114]⟩ (P E.T n) _ S0.out.1 (hid (by decide)) hx).mono fun e w' h=>by obtain ⟨rfl,hg⟩:=h;exact ⟨rfl,by rw [hq];exact ⟨rfl,S0.out.2.trans hg⟩⟩
 refine (zzm E _ i d ⟨#[102,111,114]⟩ (P E.T n) _ S0.out.1 (hid (by decide)) hx).mono ?_
 rintro e w1 ⟨v1,rfl,hv,hst⟩
 obtain rfl:=hv
 unfold tokV
 have P0':=hid (P0.out.kept hst.2 (by omega))
 clear P0
 have P0:=P0'
 clear P0'
 have S1:=hid (S0.out.trans hst)
 have z1:=hst.2.size
 clear hst
 have HR1:=hid hq
 clear hx hq
 go_wp2_with fail
 rcases zzc HR1.out with ⟨j2,er,hx,hq⟩|⟨a2,j2,hx,hq⟩
 ·exact (zka E _ j1 d n ih _ S1.out.1 hx).mono fun e w' h=>by obtain ⟨rfl,hg⟩:=h;exact ⟨rfl,by rw [hq];exact ⟨rfl,S1.out.2.trans hg⟩⟩
 refine (zka E _ j1 d n ih _ S1.out.1 hx).mono ?_
 rintro e w2 ⟨v2,rfl,⟨nb2,hv,hn⟩,hst⟩
 obtain rfl:=hv
 unfold zzd
 have P0':=hid (P0.out.kept hst.2 (by omega))
 clear P0
 have P0:=P0'
 clear P0'
 have N2:=hid (hn.from (B:=w.heap.size) (by omega))
 clear hn
 have S2:=hid (S1.out.trans hst)
 have z2:=hst.2.size
 clear hst
 have HR2:=hid hq
 clear hx hq
 go_wp2_with fail
 rcases zzc HR2.out with ⟨j3,er,hx,hq⟩|⟨a3,j3,hx,hq⟩
 ·exact (zkz E _ j2 d n ih _ S2.out.1 hx).mono fun e w' h=>by obtain ⟨rfl,hg⟩:=h;exact ⟨rfl,by rw [hq];exact ⟨rfl,S2.out.2.trans hg⟩⟩
 refine (zkz E _ j2 d n ih _ S2.out.1 hx).mono ?_
 rintro e w3 ⟨v3,rfl,⟨nb3,hv,hn⟩,hst⟩
 obtain rfl:=hv
 unfold zzd
 have P0':=hid (P0.out.kept hst.2 (by omega))
 clear P0
 have P0:=P0'
 clear P0'
 have N2':=hid (N2.out.st hst.2 (by omega))
 clear N2
 have N2:=N2'
 clear N2'
 have N3:=hid (hn.from (B:=w.heap.size) (by omega))
 clear hn
 have S3:=hid (S2.out.trans hst)
 have z3:=hst.2.size
 clear hst
 have HR3:=hid hq
 clear hx hq
 have HQ:Hid (r= .ok (.mk 11 [] [] 0 a1 [a2,a3]) j3):=(Option.some.inj HR3.out).symm
 have K:=hid (kids_lit2 N2.out N3.out (by omega))
 have P0':=hid (P0.out.below (b1 w3 (.cells #[.pointer (some ⟨nb2,0,none⟩),.pointer (some ⟨nb3,0,none⟩)] 25)))
 clear P0
 have P0:=P0'
 clear P0'
 have N2':=hid (N2.out.bl (b1 w3 (.cells #[.pointer (some ⟨nb2,0,none⟩),.pointer (some ⟨nb3,0,none⟩)] 25)))
 clear N2
 have N2:=N2'
 clear N2'
 have N3':=hid (N3.out.bl (b1 w3 (.cells #[.pointer (some ⟨nb2,0,none⟩),.pointer (some ⟨nb3,0,none⟩)] 25)))
 clear N3
 have N3:=N3'
 clear N3'
 have S4:=hid (S3.out.below (b1 w3 (.cells #[.pointer (some ⟨nb2,0,none⟩),.pointer (some ⟨nb3,0,none⟩)] 25)))
 have z4:=(b1 w3 (.cells #[.pointer (some ⟨nb2,0,none⟩),.pointer (some ⟨nb3,0,none⟩)] 25)).size
 have y4:w3.heap.size<(w3.alloc (.cells #[.pointer (some ⟨nb2,0,none⟩),.pointer (some ⟨nb3,0,none⟩)] 25)).heap.size:=by simp
 go_wp2_with fail
 generalize w3.alloc (.cells #[.pointer (some ⟨nb2,0,none⟩),.pointer (some ⟨nb3,0,none⟩)] 25)=w4 at*
 refine (zzz _ _ _ _ _ _ _ _ _).mono ?_
 rintro e w9 ⟨rfl,hb9,hrow⟩
 have P9:=P0.out.below hb9
 have q0:=P9.c0
 have f0:=P9.f0
 have HB9:=hid hb9
 have HROW:=hid hrow
 clear hb9 hrow P9
 unfold zzd
 go_wp2_with fail
 refine bodyPost_ret (v:=zzd w4.heap.size) (by unfold zzd;simp [results,Tryz.results179,go_sem,q0]) rfl ?_
 rw [HQ.out]
 have hrow:=HROW.out
 exact zqm H.out S4.out K.out (by omega) HB9.out hrow (by omega) (by omega) _
theorem giveBack_any (E:Env) (w:World) (i d:Nat) (n:Nat) (ih:IH E n) (r:Res Tree) (h:RD E w i d) (hr:Hid (runW E.T (P E.T n) (zw5 d) i=some r)):
 Calls Tryz.prog 181 #[.pointer (some ⟨E.rb,0,none⟩)] w (Q E w d (VN E w.heap.size) r):=by
 have H:=hid h
 have hr1:=h.lt
 have hf0:=zxw
 have hf1:=zxn
 have hf2:=zq7
 have S0:=hid (ST.below (ST.refl h) (b1 w (.cells #[.pointer none] 25)))
 have P0:=hid (PtrAt.new w none)
 have l0:=P0.out.lt
 clear h
 go_enter Tryz.func181,Tryz.ntmps181
 go_wp2_with fail
 generalize w.alloc (.cells #[.pointer none] 25)=wa at*
 rcases zzc hr.out with ⟨j1,er,hx,hq⟩|⟨a1,j1,hx,hq⟩
 ·exact (zzm E _ i d ⟨#[114,101,116,117,114,110]⟩ (P E.T n) _ S0.out.1 (hid (by decide)) hx).mono fun e w' h=>by obtain ⟨rfl,hg⟩:=h;exact ⟨rfl,by rw [hq];exact ⟨rfl,S0.out.2.trans hg⟩⟩
 refine (zzm E _ i d ⟨#[114,101,116,117,114,110]⟩ (P E.T n) _ S0.out.1 (hid (by decide)) hx).mono ?_
 rintro e w1 ⟨v1,rfl,hv,hst⟩
 obtain rfl:=hv
 unfold tokV
 have P0':=hid (P0.out.kept hst.2 (by omega))
 clear P0
 have P0:=P0'
 clear P0'
 have S1:=hid (S0.out.trans hst)
 have z1:=hst.2.size
 clear hst
 have HR1:=hid hq
 clear hx hq
 go_wp2_with fail
 by_cases ht:(E.T j1).text=zzk
 ·skip
  rcases zzc HR1.out with ⟨j9,er,hx,hq⟩|⟨a9,j9,hx,hq⟩
  ·exact absurd (zz7 (zq9 hx ht)) (by simp)
  have e9:=zz7 (zq9 hx ht)
  injection e9 with e1 e2
  subst e1
  subst e2
  have HR9:=hid hq
  clear hx hq
  refine (is_yes E _ j9 d ⟨#[59]⟩ S1.out.1 ht).mono ?_
  rintro e w2 ⟨rfl,hb⟩
  have P0':=hid (P0.out.below hb)
  clear P0
  have P0:=P0'
  clear P0'
  have S2:=hid (S1.out.below hb)
  have z2:=hb.size
  clear hb
  clear ht
  go_wp2_with fail
  rcases zzc HR9.out with ⟨j3,er,hx,hq⟩|⟨a3,j3,hx,hq⟩
  ·exact (zzm E _ j9 d ⟨#[59]⟩ (P E.T n) _ S2.out.1 (hid (by decide)) hx).mono fun e w' h=>by obtain ⟨rfl,hg⟩:=h;exact ⟨rfl,by rw [hq];exact ⟨rfl,S2.out.2.trans hg⟩⟩
  refine (zzm E _ j9 d ⟨#[59]⟩ (P E.T n) _ S2.out.1 (hid (by decide)) hx).mono ?_
  rintro e w3 ⟨v3,rfl,-,hst⟩
  have P0':=hid (P0.out.kept hst.2 (by omega))
  clear P0
  have P0:=P0'
  clear P0'
  have S3:=hid (S2.out.trans hst)
  have z3:=hst.2.size
  clear hst
  have HR3:=hid hq
  clear hx hq
  have HQ:Hid (r= .ok (.mk 13 [] [] 0 a1 []) j3):=(Option.some.inj HR3.out).symm
  go_wp2_with fail
  refine (zzz _ _ _ _ _ _ _ _ _).mono ?_
  rintro e w9 ⟨rfl,hb9,hrow⟩
  have P9:=P0.out.below hb9
  have q0:=P9.c0
  have f0:=P9.f0
  have HB9:=hid hb9
  have HROW:=hid hrow
  clear hb9 hrow P9
  unfold zzd
  go_wp2_with fail
  refine bodyPost_ret (v:=zzd w3.heap.size) (by unfold zzd;simp [results,Tryz.results181,go_sem,q0]) rfl ?_
  rw [HQ.out]
  have hrow:=HROW.out
  exact zqm H.out S3.out (KidsIn.nil (fun x=>w.heap.size<x) E.pl w3) (by omega) HB9.out hrow (by omega) (by omega) _
 ·skip
  refine (is_no E _ j1 d ⟨#[59]⟩ S1.out.1 ht).mono ?_
  rintro e w4 ⟨rfl,hb⟩
  have P0':=hid (P0.out.below hb)
  clear P0
  have P0:=P0'
  clear P0'
  have S4:=hid (S1.out.below hb)
  have z4:=hb.size
  clear hb
  go_wp2_with fail
  rcases zzc HR1.out with ⟨j9,er,hx9,hq9⟩|⟨a9,j9,hx9,hq9⟩
  ·rcases zzc (zk6 hx9 ht) with ⟨j8,er8,hx,hq⟩|⟨a8,j8,hx,hq⟩
   ·cases hq;exact (zka E _ j1 d n ih _ S4.out.1 (hid hx)).mono fun e w' h=>by obtain ⟨rfl,hg⟩:=h;exact ⟨rfl,by rw [hq9];exact ⟨rfl,S4.out.2.trans hg⟩⟩
   ·exact absurd (zz7 hq) (by simp)
  rcases zzc (zk6 hx9 ht) with ⟨j8,er8,hx,hq⟩|⟨a8,j8,hx,hq⟩
  ·exact absurd hq (by simp)
  have e9:=zz7 hq
  injection e9 with e1 e2
  subst e1
  subst e2
  have HR9:=hid hq9
  clear hq9 hx9 hq ht
  have KL:=hid ((KidsIn.nil (fun x=>w.heap.size<x) E.pl w4).lt)
  have K:=hid (KidsIn.nil (fun x=>w.heap.size<x) E.pl w4)
  refine (zka E _ j1 d n ih _ S4.out.1 (hid hx)).mono ?_
  rintro e w8 ⟨v8,rfl,⟨nb8,hv,hn⟩,hst⟩
  obtain rfl:=hv
  unfold zzd
  have P0':=hid (P0.out.kept hst.2 (by omega))
  clear P0
  have P0:=P0'
  clear P0'
  have K':=hid (K.out.st hst.2 (by omega))
  clear K
  have K:=K'
  clear K'
  have N8:=hid (hn.from (B:=w.heap.size) (by omega))
  have M8:=hid hn
  clear hn
  have S8:=hid (S4.out.trans hst)
  have z8:=hst.2.size
  clear hst
  clear hx
  have L:=hid (show (w8.alloc (.cells #[.pointer (some ⟨nb8,0,none⟩)] 25)).cell? ⟨w8.heap.size,0,none⟩=some (.pointer (some ⟨nb8,0,none⟩)) by simp [go_sem])
  have P0':=hid (P0.out.below (b1 w8 (.cells #[.pointer (some ⟨nb8,0,none⟩)] 25)))
  clear P0
  have P0:=P0'
  clear P0'
  have K':=hid (K.out.bl (b1 w8 (.cells #[.pointer (some ⟨nb8,0,none⟩)] 25)))
  clear K
  have K:=K'
  clear K'
  have N8':=hid (N8.out.bl (b1 w8 (.cells #[.pointer (some ⟨nb8,0,none⟩)] 25)))
  clear N8
  have N8:=N8'
  clear N8'
  have M8':=hid (M8.out.bl (b1 w8 (.cells #[.pointer (some ⟨nb8,0,none⟩)] 25)))
  clear M8
  have M8:=M8'
  clear M8'
  have S9:=hid (S8.out.below (b1 w8 (.cells #[.pointer (some ⟨nb8,0,none⟩)] 25)))
  have z9:=(b1 w8 (.cells #[.pointer (some ⟨nb8,0,none⟩)] 25)).size
  have y9:w8.heap.size<(w8.alloc (.cells #[.pointer (some ⟨nb8,0,none⟩)] 25)).heap.size:=by simp
  go_wp2_with (at_builtin;refine Hid.out ?_)
  generalize w8.alloc (.cells #[.pointer (some ⟨nb8,0,none⟩)] 25)=w9 at*
  refine hid ?_
  refine zzs rfl (.tmp 11) (.tmp 14) rfl w.heap.size E.pl _ 0 [] rfl K.out nb8 a8 N8.out (fun g hg=>M8.out.weak fun x hx _=>⟨by omega,by have:=KL.out g hg;omega⟩) _ rfl L.out (by omega) (by omega) ?_
  intro g10 cap10 w10 hk hg hy
  have P0':=hid (P0.out.grow hg (fun e=>by have:=hy _ e;omega))
  clear P0
  have P0:=P0'
  clear P0'
  have S10:=hid (ST.grow H.out S9.out hg (fun y e=>by have:=hy y e;omega))
  have z10:=hg.size
  clear K
  have K:=hid hk
  clear hk hg hy
  go_wp2_with fail
  rcases zzc HR9.out with ⟨j11,er,hx,hq⟩|⟨a11,j11,hx,hq⟩
  ·exact (zzm E _ j9 d ⟨#[59]⟩ (P E.T n) _ S10.out.1 (hid (by decide)) hx).mono fun e w' h=>by obtain ⟨rfl,hg⟩:=h;exact ⟨rfl,by rw [hq];exact ⟨rfl,S10.out.2.trans hg⟩⟩
  refine (zzm E _ j9 d ⟨#[59]⟩ (P E.T n) _ S10.out.1 (hid (by decide)) hx).mono ?_
  rintro e w11 ⟨v11,rfl,-,hst⟩
  have P0':=hid (P0.out.kept hst.2 (by omega))
  clear P0
  have P0:=P0'
  clear P0'
  have K':=hid (K.out.st hst.2 (by omega))
  clear K
  have K:=K'
  clear K'
  have S11:=hid (S10.out.trans hst)
  have z11:=hst.2.size
  clear hst
  have HR11:=hid hq
  clear hx hq
  have HQ:Hid (r= .ok (.mk 13 [] [] 0 a1 [a8]) j11):=(Option.some.inj HR11.out).symm
  go_wp2_with fail
  refine (zzz _ _ _ _ _ _ _ _ _).mono ?_
  rintro e w9 ⟨rfl,hb9,hrow⟩
  have P9:=P0.out.below hb9
  have q0:=P9.c0
  have f0:=P9.f0
  have HB9:=hid hb9
  have HROW:=hid hrow
  clear hb9 hrow P9
  unfold zzd
  go_wp2_with fail
  refine bodyPost_ret (v:=zzd w11.heap.size) (by unfold zzd;simp [results,Tryz.results181,go_sem,q0]) rfl ?_
  rw [HQ.out]
  have hrow:=HROW.out
  exact zqm H.out S11.out K.out (by omega) HB9.out hrow (by omega) (by omega) _
theorem statement_any (E:Env) (w:World) (i d:Nat) (n:Nat) (ih:IH E n) (r:Res Tree) (h:RD E w i d) (hr:Hid (runW E.T (P E.T n) (stmt d) i=some r)):
 Calls Tryz.prog 164 #[.pointer (some ⟨E.rb,0,none⟩)] w (Q E w d (VN E w.heap.size) r):=by
 have H:=hid h
 have hr1:=h.lt
 have hf0:=zxw
 have hf1:=zxn
 have hf2:=zq7
 have S0:=hid (ST.below (ST.refl h) (b1 w (.cells #[.pointer none] 25)))
 have P0:=hid (PtrAt.new w none)
 have l0:=P0.out.lt
 clear h
 go_enter Tryz.func164,Tryz.ntmps164
 go_wp2_with fail
 generalize w.alloc (.cells #[.pointer none] 25)=wa at*
 refine (zk3 E _ i d S0.out.1).mono ?_
 rintro e w1 ⟨rfl,hb⟩
 have P0':=hid (P0.out.below hb)
 clear P0
 have P0:=P0'
 clear P0'
 have S1:=hid (S0.out.below hb)
 have z1:=hb.size
 clear hb
 unfold tokV
 have HR0:=hid (zvc hr.out)
 by_cases ht:(E.T i).text=kIf
 ·skip
  have HR20:=hid (zkc HR0.out ht)
  have ty:((E.T i).text== [105,102])=true:=by rw [ht];rfl
  clear ht
  go_wp2_with fail
  rcases zxx HR20.out with ⟨j2,er,hx,hq⟩|⟨a2,j2,hx,hq⟩
  ·exact (ih.branch _ i d _ S1.out.1 hx).mono fun e w' h=>by obtain ⟨rfl,hg⟩:=h;exact ⟨rfl,by rw [hq];exact ⟨rfl,S1.out.2.trans hg⟩⟩
  refine (ih.branch _ i d _ S1.out.1 hx).mono ?_
  rintro e w2 ⟨v2,rfl,⟨nb2,hv,hn⟩,hst⟩
  obtain rfl:=hv
  unfold zzd
  have P0':=hid (P0.out.kept hst.2 (by omega))
  clear P0
  have P0:=P0'
  clear P0'
  have N2:=hid (hn.from (B:=w.heap.size) (by omega))
  clear hn
  have S2:=hid (S1.out.trans hst)
  have z2:=hst.2.size
  clear hst
  have HQ:=hid (zz7 hq)
  clear hx hq
  have q0:=P0.out.c0
  have f0:=P0.out.f0
  go_wp2_with fail
  refine bodyPost_ret (v:=zzd nb2) (by unfold zzd;simp [results,Tryz.results164,go_sem,q0]) rfl ?_
  rw [HQ.out]
  exact zz5 H.out S2.out N2.out (by omega) _
 ·skip
  have HR1:=hid (zqq HR0.out ht)
  have nt0:((E.T i).text== [105,102])=false:=by simpa using ht
  clear ht
  by_cases ht:(E.T i).text=kFor
  ·skip
   have HR21:=hid (zkc HR1.out ht)
   have ty:((E.T i).text== [102,111,114])=true:=by rw [ht];rfl
   clear ht
   go_wp2_with fail
   rcases zxr HR21.out with ⟨j3,er,hx,hq⟩|⟨a3,j3,hx,hq⟩
   ·exact (loop_any E _ i d n ih _ S1.out.1 hx).mono fun e w' h=>by obtain ⟨rfl,hg⟩:=h;exact ⟨rfl,by rw [hq];exact ⟨rfl,S1.out.2.trans hg⟩⟩
   refine (loop_any E _ i d n ih _ S1.out.1 hx).mono ?_
   rintro e w3 ⟨v3,rfl,⟨nb3,hv,hn⟩,hst⟩
   obtain rfl:=hv
   unfold zzd
   have P0':=hid (P0.out.kept hst.2 (by omega))
   clear P0
   have P0:=P0'
   clear P0'
   have N3:=hid (hn.from (B:=w.heap.size) (by omega))
   clear hn
   have S3:=hid (S1.out.trans hst)
   have z3:=hst.2.size
   clear hst
   have HQ:=hid hq
   clear hx hq
   have q0:=P0.out.c0
   have f0:=P0.out.f0
   go_wp2_with fail
   refine bodyPost_ret (v:=zzd nb3) (by unfold zzd;simp [results,Tryz.results164,go_sem,q0]) rfl ?_
   rw [HQ.out]
   exact zz5 H.out S3.out N3.out (by omega) _
  ·skip
   have HR2:=hid (zqq HR1.out ht)
   have nt1:((E.T i).text== [102,111,114])=false:=by simpa using ht
   clear ht
   by_cases ht:(E.T i).text=zjc
   ·skip
    have HR22:=hid (zkc HR2.out ht)
    have ty:((E.T i).text== [112,114,105,110,116])=true:=by rw [ht];rfl
    clear ht
    go_wp2_with fail
    rcases zxr HR22.out with ⟨j4,er,hx,hq⟩|⟨a4,j4,hx,hq⟩
    ·exact (print_any E _ i d n ih _ S1.out.1 hx).mono fun e w' h=>by obtain ⟨rfl,hg⟩:=h;exact ⟨rfl,by rw [hq];exact ⟨rfl,S1.out.2.trans hg⟩⟩
    refine (print_any E _ i d n ih _ S1.out.1 hx).mono ?_
    rintro e w4 ⟨v4,rfl,⟨nb4,hv,hn⟩,hst⟩
    obtain rfl:=hv
    unfold zzd
    have P0':=hid (P0.out.kept hst.2 (by omega))
    clear P0
    have P0:=P0'
    clear P0'
    have N4:=hid (hn.from (B:=w.heap.size) (by omega))
    clear hn
    have S4:=hid (S1.out.trans hst)
    have z4:=hst.2.size
    clear hst
    have HQ:=hid hq
    clear hx hq
    have q0:=P0.out.c0
    have f0:=P0.out.f0
    go_wp2_with fail
    refine bodyPost_ret (v:=zzd nb4) (by unfold zzd;simp [results,Tryz.results164,go_sem,q0]) rfl ?_
    rw [HQ.out]
    exact zz5 H.out S4.out N4.out (by omega) _
   ·skip
    have HR3:=hid (zqq HR2.out ht)
    have nt2:((E.T i).text== [112,114,105,110,116])=false:=by simpa using ht
    clear ht
    by_cases ht:(E.T i).text=zqa
    ·skip
     have HR23:=hid (zkc HR3.out ht)
     have ty:((E.T i).text== [114,101,116,117,114,110])=true:=by rw [ht];rfl
     clear ht
     go_wp2_with fail
     rcases zxr HR23.out with ⟨j5,er,hx,hq⟩|⟨a5,j5,hx,hq⟩
     ·exact (giveBack_any E _ i d n ih _ S1.out.1 hx).mono fun e w' h=>by obtain ⟨rfl,hg⟩:=h;exact ⟨rfl,by rw [hq];exact ⟨rfl,S1.out.2.trans hg⟩⟩
     refine (giveBack_any E _ i d n ih _ S1.out.1 hx).mono ?_
     rintro e w5 ⟨v5,rfl,⟨nb5,hv,hn⟩,hst⟩
     obtain rfl:=hv
     unfold zzd
     have P0':=hid (P0.out.kept hst.2 (by omega))
     clear P0
     have P0:=P0'
     clear P0'
     have N5:=hid (hn.from (B:=w.heap.size) (by omega))
     clear hn
     have S5:=hid (S1.out.trans hst)
     have z5:=hst.2.size
     clear hst
     have HQ:=hid hq
     clear hx hq
     have q0:=P0.out.c0
     have f0:=P0.out.f0
     go_wp2_with fail
     refine bodyPost_ret (v:=zzd nb5) (by unfold zzd;simp [results,Tryz.results164,go_sem,q0]) rfl ?_
     rw [HQ.out]
     exact zz5 H.out S5.out N5.out (by omega) _
    ·skip
     have HR4:=hid (zqq HR3.out ht)
     have nt3:((E.T i).text== [114,101,116,117,114,110])=false:=by simpa using ht
     clear ht
     go_wp2_with fail
     rcases zxr HR4.out with ⟨j6,er,hx,hq⟩|⟨a6,j6,hx,hq⟩
     ·exact (simple_any E _ i d n ih _ S1.out.1 hx).mono fun e w' h=>by obtain ⟨rfl,hg⟩:=h;exact ⟨rfl,by rw [hq];exact ⟨rfl,S1.out.2.trans hg⟩⟩
     refine (simple_any E _ i d n ih _ S1.out.1 hx).mono ?_
     rintro e w6 ⟨v6,rfl,⟨nb6,hv,hn⟩,hst⟩
     obtain rfl:=hv
     unfold zzd
     have P0':=hid (P0.out.kept hst.2 (by omega))
     clear P0
     have P0:=P0'
     clear P0'
     have N6:=hid (hn.from (B:=w.heap.size) (by omega))
     clear hn
     have S6:=hid (S1.out.trans hst)
     have z6:=hst.2.size
     clear hst
     have HQ:=hid hq
     clear hx hq
     have q0:=P0.out.c0
     have f0:=P0.out.f0
     go_wp2_with fail
     refine bodyPost_ret (v:=zzd nb6) (by unfold zzd;simp [results,Tryz.results164,go_sem,q0]) rfl ?_
     rw [HQ.out]
     exact zz5 H.out S6.out N6.out (by omega) _
theorem z23 (E:Env) (w:World) (i d:Nat) (n:Nat) (ih:IH E n) (r:Res Tree) (h:RD E w i d) (hr:Hid (runW E.T (P E.T n) (other d) i=some r)):
 Calls Tryz.prog 198 #[.pointer (some ⟨E.rb,0,none⟩)] w (Q E w d (VN E w.heap.size) r):=by
 have H:=hid h
 have hr1:=h.lt
 have hf0:=zxw
 have hf1:=zxn
 have hf2:=zq7
 have S0:=hid (ST.below (ST.refl h) (b1 w (.cells #[.pointer none] 25)))
 have P0:=hid (PtrAt.new w none)
 have l0:=P0.out.lt
 clear h
 go_enter Tryz.func198,Tryz.ntmps198
 go_wp2_with fail
 generalize w.alloc (.cells #[.pointer none] 25)=wa at*
 by_cases ht:(E.T i).text=kIf
 ·skip
  have h0:=zq9 hr.out ht
  have HR1:=hid h0
  clear h0
  refine (is_yes E _ i d ⟨#[105,102]⟩ S0.out.1 ht).mono ?_
  rintro e w2 ⟨rfl,hb⟩
  have P0':=hid (P0.out.below hb)
  clear P0
  have P0:=P0'
  clear P0'
  have S2:=hid (S0.out.below hb)
  have z2:=hb.size
  clear hb
  clear ht
  go_wp2_with fail
  rcases zxx HR1.out with ⟨j3,er,hx,hq⟩|⟨a3,j3,hx,hq⟩
  ·exact (ih.branch _ i d _ S2.out.1 hx).mono fun e w' h=>by obtain ⟨rfl,hg⟩:=h;exact ⟨rfl,by rw [hq];exact ⟨rfl,S2.out.2.trans hg⟩⟩
  refine (ih.branch _ i d _ S2.out.1 hx).mono ?_
  rintro e w3 ⟨v3,rfl,⟨nb3,hv,hn⟩,hst⟩
  obtain rfl:=hv
  unfold zzd
  have P0':=hid (P0.out.kept hst.2 (by omega))
  clear P0
  have P0:=P0'
  clear P0'
  have N3:=hid (hn.from (B:=w.heap.size) (by omega))
  clear hn
  have S3:=hid (S2.out.trans hst)
  have z3:=hst.2.size
  clear hst
  have HQ:=hid (zz7 hq)
  clear hx hq
  have q0:=P0.out.c0
  have f0:=P0.out.f0
  go_wp2_with fail
  refine bodyPost_ret (v:=zzd nb3) (by unfold zzd;simp [results,Tryz.results198,go_sem,q0]) rfl ?_
  rw [HQ.out]
  exact zz5 H.out S3.out N3.out (by omega) _
 ·skip
  have HR4:=hid (zk6 hr.out ht)
  refine (is_no E _ i d ⟨#[105,102]⟩ S0.out.1 ht).mono ?_
  rintro e w5 ⟨rfl,hb⟩
  have P0':=hid (P0.out.below hb)
  clear P0
  have P0:=P0'
  clear P0'
  have S5:=hid (S0.out.below hb)
  have z5:=hb.size
  clear hb
  clear ht
  go_wp2_with fail
  rcases zxr HR4.out with ⟨j6,er,hx,hq⟩|⟨a6,j6,hx,hq⟩
  ·exact (zkz E _ i d n ih _ S5.out.1 hx).mono fun e w' h=>by obtain ⟨rfl,hg⟩:=h;exact ⟨rfl,by rw [hq];exact ⟨rfl,S5.out.2.trans hg⟩⟩
  refine (zkz E _ i d n ih _ S5.out.1 hx).mono ?_
  rintro e w6 ⟨v6,rfl,⟨nb6,hv,hn⟩,hst⟩
  obtain rfl:=hv
  unfold zzd
  have P0':=hid (P0.out.kept hst.2 (by omega))
  clear P0
  have P0:=P0'
  clear P0'
  have N6:=hid (hn.from (B:=w.heap.size) (by omega))
  clear hn
  have S6:=hid (S5.out.trans hst)
  have z6:=hst.2.size
  clear hst
  have HQ:=hid hq
  clear hx hq
  have q0:=P0.out.c0
  have f0:=P0.out.f0
  go_wp2_with fail
  refine bodyPost_ret (v:=zzd nb6) (by unfold zzd;simp [results,Tryz.results198,go_sem,q0]) rfl ?_
  rw [HQ.out]
  exact zz5 H.out S6.out N6.out (by omega) _
theorem branch_any (E:Env) (w:World) (i d:Nat) (n:Nat) (ih:IH E n) (r:Res Tree) (h:RD E w i d) (hr:Hid (runW E.T (P E.T n) (branch d) i=some r)):
 Calls Tryz.prog 178 #[.pointer (some ⟨E.rb,0,none⟩)] w (Q E w d (VN E w.heap.size) r):=by
 have H:=hid h
 have hr1:=h.lt
 have hf0:=zxw
 have hf1:=zxn
 have hf2:=zq7
 have S0:=hid (ST.below (ST.refl h) (b1 w (.cells #[.pointer none] 25)))
 have P0:=hid (PtrAt.new w none)
 have l0:=P0.out.lt
 clear h
 go_enter Tryz.func178,Tryz.ntmps178
 go_wp2_with fail
 generalize w.alloc (.cells #[.pointer none] 25)=wa at*
 rcases zzc hr.out with ⟨j1,er,hx,hq⟩|⟨a1,j1,hx,hq⟩
 ·exact (zzm E _ i d ⟨#[105,102]⟩ (P E.T n) _ S0.out.1 (hid (by decide)) hx).mono fun e w' h=>by obtain ⟨rfl,hg⟩:=h;exact ⟨rfl,by rw [hq];exact ⟨rfl,S0.out.2.trans hg⟩⟩
 refine (zzm E _ i d ⟨#[105,102]⟩ (P E.T n) _ S0.out.1 (hid (by decide)) hx).mono ?_
 rintro e w1 ⟨v1,rfl,hv,hst⟩
 obtain rfl:=hv
 unfold tokV
 have P0':=hid (P0.out.kept hst.2 (by omega))
 clear P0
 have P0:=P0'
 clear P0'
 have S1:=hid (S0.out.trans hst)
 have z1:=hst.2.size
 clear hst
 have HR1:=hid hq
 clear hx hq
 go_wp2_with fail
 rcases zzc HR1.out with ⟨j2,er,hx,hq⟩|⟨a2,j2,hx,hq⟩
 ·exact (zka E _ j1 d n ih _ S1.out.1 hx).mono fun e w' h=>by obtain ⟨rfl,hg⟩:=h;exact ⟨rfl,by rw [hq];exact ⟨rfl,S1.out.2.trans hg⟩⟩
 refine (zka E _ j1 d n ih _ S1.out.1 hx).mono ?_
 rintro e w2 ⟨v2,rfl,⟨nb2,hv,hn⟩,hst⟩
 obtain rfl:=hv
 unfold zzd
 have P0':=hid (P0.out.kept hst.2 (by omega))
 clear P0
 have P0:=P0'
 clear P0'
 have N2:=hid (hn.from (B:=w.heap.size) (by omega))
 clear hn
 have S2:=hid (S1.out.trans hst)
 have z2:=hst.2.size
 clear hst
 have HR2:=hid hq
 clear hx hq
 go_wp2_with fail
 rcases zzc HR2.out with ⟨j3,er,hx,hq⟩|⟨a3,j3,hx,hq⟩
 ·exact (zkz E _ j2 d n ih _ S2.out.1 hx).mono fun e w' h=>by obtain ⟨rfl,hg⟩:=h;exact ⟨rfl,by rw [hq];exact ⟨rfl,S2.out.2.trans hg⟩⟩
 refine (zkz E _ j2 d n ih _ S2.out.1 hx).mono ?_
 rintro e w3 ⟨v3,rfl,⟨nb3,hv,hn⟩,hst⟩
 obtain rfl:=hv
 unfold zzd
 have P0':=hid (P0.out.kept hst.2 (by omega))
 clear P0
 have P0:=P0'
 clear P0'
 have N2':=hid (N2.out.st hst.2 (by omega))
 clear N2
 have N2:=N2'
 clear N2'
 have N3:=hid (hn.from (B:=w.heap.size) (by omega))
 clear hn
 have S3:=hid (S2.out.trans hst)
 have z3:=hst.2.size
 clear hst
 have HR3:=hid hq
 clear hx hq
 have K:=hid (kids_lit2 N2.out N3.out (by omega))
 have P0':=hid (P0.out.below (b1 w3 (.cells #[.pointer (some ⟨nb2,0,none⟩),.pointer (some ⟨nb3,0,none⟩)] 25)))
 clear P0
 have P0:=P0'
 clear P0'
 have N2':=hid (N2.out.bl (b1 w3 (.cells #[.pointer (some ⟨nb2,0,none⟩),.pointer (some ⟨nb3,0,none⟩)] 25)))
 clear N2
 have N2:=N2'
 clear N2'
 have N3':=hid (N3.out.bl (b1 w3 (.cells #[.pointer (some ⟨nb2,0,none⟩),.pointer (some ⟨nb3,0,none⟩)] 25)))
 clear N3
 have N3:=N3'
 clear N3'
 have S4:=hid (S3.out.below (b1 w3 (.cells #[.pointer (some ⟨nb2,0,none⟩),.pointer (some ⟨nb3,0,none⟩)] 25)))
 have z4:=(b1 w3 (.cells #[.pointer (some ⟨nb2,0,none⟩),.pointer (some ⟨nb3,0,none⟩)] 25)).size
 have y4:w3.heap.size<(w3.alloc (.cells #[.pointer (some ⟨nb2,0,none⟩),.pointer (some ⟨nb3,0,none⟩)] 25)).heap.size:=by simp
 go_wp2_with fail
 generalize w3.alloc (.cells #[.pointer (some ⟨nb2,0,none⟩),.pointer (some ⟨nb3,0,none⟩)] 25)=w4 at*
 by_cases ht:(E.T j3).text=zjd
 ·skip
  have h0:=zq9 HR3.out ht
  have HR5:=hid (zq4 h0)
  clear h0
  refine (zke E _ j3 d ⟨#[101,108,115,101]⟩ S4.out.1 ht (hid (by decide))).mono ?_
  rintro e w6 ⟨rfl,hst⟩
  have P0':=hid (P0.out.kept hst.2 (by omega))
  clear P0
  have P0:=P0'
  clear P0'
  have N2':=hid (N2.out.st hst.2 (by omega))
  clear N2
  have N2:=N2'
  clear N2'
  have N3':=hid (N3.out.st hst.2 (by omega))
  clear N3
  have N3:=N3'
  clear N3'
  have K':=hid (K.out.st hst.2 (by omega))
  clear K
  have K:=K'
  clear K'
  have S6:=hid (S4.out.trans hst)
  have z6:=hst.2.size
  clear hst
  clear ht
  go_wp2_with fail
  have KL:=hid K.out.lt
  rcases zzc HR5.out with ⟨j7,er,hx,hq⟩|⟨a7,j7,hx,hq⟩
  ·exact (z23 E _ (j3+1) d n ih _ S6.out.1 hx).mono fun e w' h=>by obtain ⟨rfl,hg⟩:=h;exact ⟨rfl,by rw [hq];exact ⟨rfl,S6.out.2.trans hg⟩⟩
  refine (z23 E _ (j3+1) d n ih _ S6.out.1 hx).mono ?_
  rintro e w7 ⟨v7,rfl,⟨nb7,hv,hn⟩,hst⟩
  obtain rfl:=hv
  unfold zzd
  have P0':=hid (P0.out.kept hst.2 (by omega))
  clear P0
  have P0:=P0'
  clear P0'
  have N2':=hid (N2.out.st hst.2 (by omega))
  clear N2
  have N2:=N2'
  clear N2'
  have N3':=hid (N3.out.st hst.2 (by omega))
  clear N3
  have N3:=N3'
  clear N3'
  have K':=hid (K.out.st hst.2 (by omega))
  clear K
  have K:=K'
  clear K'
  have N7:=hid (hn.from (B:=w.heap.size) (by omega))
  have M7:=hid hn
  clear hn
  have S7:=hid (S6.out.trans hst)
  have z7:=hst.2.size
  clear hst
  have HR7:=hid hq
  clear hx hq
  have HQ:Hid (r= .ok (.mk 10 [] [] 0 a1 [a2,a3,a7]) j7):=(Option.some.inj HR7.out).symm
  have L:=hid (show (w7.alloc (.cells #[.pointer (some ⟨nb7,0,none⟩)] 25)).cell? ⟨w7.heap.size,0,none⟩=some (.pointer (some ⟨nb7,0,none⟩)) by simp [go_sem])
  have P0':=hid (P0.out.below (b1 w7 (.cells #[.pointer (some ⟨nb7,0,none⟩)] 25)))
  clear P0
  have P0:=P0'
  clear P0'
  have N2':=hid (N2.out.bl (b1 w7 (.cells #[.pointer (some ⟨nb7,0,none⟩)] 25)))
  clear N2
  have N2:=N2'
  clear N2'
  have N3':=hid (N3.out.bl (b1 w7 (.cells #[.pointer (some ⟨nb7,0,none⟩)] 25)))
  clear N3
  have N3:=N3'
  clear N3'
  have K':=hid (K.out.bl (b1 w7 (.cells #[.pointer (some ⟨nb7,0,none⟩)] 25)))
  clear K
  have K:=K'
  clear K'
  have N7':=hid (N7.out.bl (b1 w7 (.cells #[.pointer (some ⟨nb7,0,none⟩)] 25)))
  clear N7
  have N7:=N7'
  clear N7'
  have M7':=hid (M7.out.bl (b1 w7 (.cells #[.pointer (some ⟨nb7,0,none⟩)] 25)))
  clear M7
  have M7:=M7'
  clear M7'
  have S8:=hid (S7.out.below (b1 w7 (.cells #[.pointer (some ⟨nb7,0,none⟩)] 25)))
  have z8:=(b1 w7 (.cells #[.pointer (some ⟨nb7,0,none⟩)] 25)).size
  have y8:w7.heap.size<(w7.alloc (.cells #[.pointer (some ⟨nb7,0,none⟩)] 25)).heap.size:=by simp
  go_wp2_with (at_builtin;refine Hid.out ?_)
  generalize w7.alloc (.cells #[.pointer (some ⟨nb7,0,none⟩)] 25)=w8 at*
  refine hid ?_
  refine zzs rfl (.tmp 15) (.tmp 18) rfl w.heap.size E.pl _ 2 [a2,a3] rfl K.out nb7 a7 N7.out (fun g hg=>M7.out.weak fun x hx _=>⟨by omega,by have:=KL.out g hg;omega⟩) _ rfl L.out (by omega) (by omega) ?_
  intro g9 cap9 w9 hk hg hy
  have P0':=hid (P0.out.grow hg (fun e=>by have:=hy _ e;omega))
  clear P0
  have P0:=P0'
  clear P0'
  have S9:=hid (ST.grow H.out S8.out hg (fun y e=>by have:=hy y e;omega))
  have z9:=hg.size
  clear K
  have K:=hid hk
  clear hk hg hy
  go_wp2_with fail
  refine (zzz _ _ _ _ _ _ _ _ _).mono ?_
  rintro e wz ⟨rfl,hb9,hrow⟩
  have P9:=P0.out.below hb9
  have q0:=P9.c0
  have f0:=P9.f0
  have HB9:=hid hb9
  have HROW:=hid hrow
  clear hb9 hrow P9
  unfold zzd
  go_wp2_with fail
  refine bodyPost_ret (v:=zzd w9.heap.size) (by unfold zzd;simp [results,Tryz.results178,go_sem,q0]) rfl ?_
  rw [HQ.out]
  have hrow:=HROW.out
  exact zqm H.out S9.out K.out (by omega) HB9.out hrow (by omega) (by omega) _
 ·skip
  have HR10:=hid (zk6 HR3.out ht)
  have HQ:Hid (r= .ok (.mk 10 [] [] 0 a1 [a2,a3]) j3):=(Option.some.inj HR10.out).symm
  refine (zk5 E _ j3 d ⟨#[101,108,115,101]⟩ S4.out.1 ht).mono ?_
  rintro e w11 ⟨rfl,hb⟩
  have P0':=hid (P0.out.below hb)
  clear P0
  have P0:=P0'
  clear P0'
  have N2':=hid (N2.out.bl hb)
  clear N2
  have N2:=N2'
  clear N2'
  have N3':=hid (N3.out.bl hb)
  clear N3
  have N3:=N3'
  clear N3'
  have K':=hid (K.out.bl hb)
  clear K
  have K:=K'
  clear K'
  have S11:=hid (S4.out.below hb)
  have z11:=hb.size
  clear hb
  clear ht
  go_wp2_with fail
  refine (zzz _ _ _ _ _ _ _ _ _).mono ?_
  rintro e wz ⟨rfl,hb9,hrow⟩
  have P9:=P0.out.below hb9
  have q0:=P9.c0
  have f0:=P9.f0
  have HB9:=hid hb9
  have HROW:=hid hrow
  clear hb9 hrow P9
  unfold zzd
  go_wp2_with fail
  refine bodyPost_ret (v:=zzd w11.heap.size) (by unfold zzd;simp [results,Tryz.results178,go_sem,q0]) rfl ?_
  rw [HQ.out]
  have hrow:=HROW.out
  exact zqm H.out S11.out K.out (by omega) HB9.out hrow (by omega) (by omega) _
end Go.Proofs.YtkahbhfbgdbnfaaGreatDoor
